import Derived.Test.YtbdpfmalabgmbaaGreatChecked
import Derived.WalkKit
import Derived.WalkSpells
import Derived.WalkLawsBesides
import Derived.Deep.WholeRow
import Derived.Deep.MidRow
namespace Go.Proofs.YtbdpfmalabgmbaaGreat
open Go.RowKit
set_option maxRecDepth 99999
set_option maxHeartbeats 0
set_option linter.all false
def qAa:=@if_neg
def qAb:=@if_pos
def qAc:=@bodyPost_ret
def qAd:=@Bool.and_eq_true
def qAe:=@wpList_load_mid
def qAf:=@wpList_load_row
def qAg:=@wpList_store_row
def qAh:=@World.ownsRow_nil
def qAi:=@List.mem_of_getElem?
def qAj:=@List.length_singleton
def qAk:=@Tryz.underlying147
def qAl:=@List.getElem?_append_left
def qAm:=@Tryz.underlying81
def qAn:=@setRow_heap
def qAo:=@Int.toNat_natCast
def qAp:=@List.drop_eq_nil_of_le
def qAq:=@List.filter_cons
def qAr:=@List.getElem?_append_right
def qAs:=@List.append_assoc
def qAt:=@Bool.or_eq_true
def qAu:=@decide_eq_true_eq
def qAv:=@List.length_map
def qAw:=@List.take_length
def qAx:=@Tryz.underlying76
def qAy:=@List.all_eq_true
def qAz:=@if_false
def qBa:=@heap_alloc2_new
def qBb:=@List.any_eq_true
def qBc:=@Bool.eq_iff_iff
def qBd:=@List.append_nil
def qBe:=@List.cons.injEq
def qBf:=@List.getElem_of_mem
def qBg:=@heap_alloc2_old
def qBh:=@List.cons_append
def qBi:=@beq_iff_eq
def qBj:=@List.mem_map
def qBk:=@List.length_cons
def qBl:=@ByteArray.size_extract
def qBm:=@Bool.true_and
def qBn:=@if_true
def qBo:=@Tryz.underlying214
def qBp:=@List.map_append
def qBq:=@Nat.zero_le
def qBr:=@List.length_set
def qBs:=@List.mem_append
def qBt:=@List.getElem?_map
def qBu:=@List.mem_cons
def qBv:=@IntKind.wrap_i64
def qBw:=@Nat.lt_irrefl
def qBx:=@List.filter_append
def qBy:=@Nat.zero_add
def qBz:=@Tryz.underlying221
def qCa:=@decide_eq_false
def qCb:=@Bool.or_eq_false_iff
def qCc:=@List.length_filter_le
def qCd:=@List.getElem_map
def qCe:=@decide_eq_false_iff_not
def qCf:=@Tryz.underlying93
def qCg:=@results_cell_row
def qCh:=@List.nil_append
def qCi:=@Tryz.underlying113
def qCj:=@decide_eq_true
def qCk:=@Nat.lt_or_ge
def qCl:=@Tryz.underlying26
def qCm:=@List.eq_nil_of_length_eq_zero
def qCn:=@Array.all_eq_true_iff_forall_mem
def qCo:=@List.length_take
def qCp:=@Tryz.underlying200
def qCq:=@all_oneCell_toArray
def qCr:=@Nat.mul_le_mul_right
def qCs:=@List.getElem?_set
def qCt:=@List.length_drop
def qCu:=@List.take_add_one
def qCv:=@List.getElem?_cons_zero
def qCw:=@Tryz.underlying118
def qCx:=@setRow_other
def qCy:=@List.drop_length
def qCz:=@Tryz.underlying85
def qDa:=@Nat.le_trans
def qDb:=@List.map_singleton
def qDc:=@List.getElem?_take_of_lt
def qDd:=@Addr.add_mid
def qDe:=@results_none
def qDf:=@Bool.true_eq_false
def qDg:=@List.take_of_length_le
def qDh:=@Bool.false_and
def qDi:=@List.mem_filter
def qDj:=@Bool.false_or
def qDk:=@Bool.or_false
def qDl:=@List.map_cons
def qDm:=@Nat.add_assoc
def qDn:=@Option.bind_some
def qDo:=@List.getD_cons_zero
def qDp:=@List.getElem?_toArray
def qDq:=@Tryz.underlying24
def qDr:=@Nat.lt_of_lt_of_le
def qDs:=@Int.add_zero
def qDt:=@List.findIdx_eq_length_of_false
def qDu:=@World.drewN_drewN
def qDv:=@List.all_cons
def qDw:=@Option.map_some
def qDx:=@List.getElem?_drop
def qDy:=@Option.getD_some
def qDz:=@List.findIdx_getElem
def qEa:=@List.mem_cons_of_mem
def qEb:=@List.getElem?_replicate
def qEc:=@List.drop_zero
def qEd:=@List.ext_getElem?
def qEe:=@List.forIn_cons
def qEf:=@List.getD_cons_succ
def qEg:=@ByteArray.data_extract
def qEh:=@Int.natCast_zero
def qEi:=@List.not_mem_nil
def qEj:=@Tryz.underlying3
def qEk:=@Array.getElem?_toList
def qEl:=@Bool.or_true
def qEm:=@Nat.sub_self
def qEn:=@congrArg
def qEo:=@results_tmp2
def qEp:=@List.flatMap_cons
def qEq:=@List.length_nil
def qEr:=@List.length_reverse
def qEs:=@List.map_congr_left
def qEt:=@dif_pos
def qEu:=@List.ext_getElem
def qEv:=@wpList_store_mid
def qEw:=@Array.ext_getElem?
def qEx:=@Array.getElem?_setIfInBounds
def qEy:=@List.append_of_mem
def qEz:=@Array.extract_extract
def qFa:=@List.set_append_right
def qFb:=@List.take_append_drop
def qFc:=@Nat.add_mul
def qFd:=@Nat.le_of_lt
def qFe:=@Nat.min_eq_left
def qFf:=@bodyPost_end
def qFg:=@results_tmp3
def qFh:=@run_equalIn_int
def qFi:=@ByteArray.ext
def qFj:=@List.findIdx_cons
def qFk:=@Tryz.underlying50
def qFl:=@List.mem_of_mem_take
def qFm:=@dif_neg
def qFn:=@List.mem_or_eq_of_mem_set
def qFo:=@run_loadAt_mid
def qFp:=@List.getElem?_range
def qFq:=@World.ownsRow.alloc
def qFr:=@List.map_set
def qFs:=@List.set_eq_of_length_le
def qFt:=@List.append_cancel_left
def qFu:=@List.getElem?_cons_succ
def qFv:=@List.take_add
def qFw:=@List.findIdx_lt_length_of_exists
def qFx:=@Nat.lt_trichotomy
def qFy:=@Tryz.underlying63
theorem qR(n:Nat):n<=n:=Nat.le_refl n
theorem qG{α:Type}{l:List α}{n:Nat}(h:n<l.length):l[n]∈l:=List.getElem_mem h
theorem qU{α:Type}{a:α}{s t:List α}:a∈s++t<->a∈s\/a∈t:=qBs
theorem qM{α:Type}{a b:α}:a∈[b]<->a=b:=List.mem_singleton
theorem qO{α:Type}(a b:α):(some a=some b)=(a=b):=Option.some.injEq a b
theorem qF:(false=true)=False:=Bool.false_eq_true
theorem qI(a:Option Addr)(b c:Nat)(x:Option Addr)(y z:Nat):(Value.slice a b c=Value.slice x y z)=(a=x/\b=y/\c=z):=Value.slice.injEq a b c x y z
theorem qC{α:Type}{l:List α}{i:Nat}(h:i<l.length):l.drop i=l[i]::l.drop (i+1):=List.drop_eq_getElem_cons h
theorem qP{α:Type}{a b:List α}:(a++b).length=a.length+b.length:=List.length_append
theorem qD{α:Type}{l:List α}{i:Nat}{d:α}:l.getD i d=l[i]?.getD d:=List.getD_eq_getElem?_getD
theorem qN{α:Type}{l:List α}{i:Nat}(h:l.length<=i):l[i]?=none:=List.getElem?_eq_none h
theorem qS{α:Type}{l:List α}{i:Nat}{a:α}(h:l[i]?=some a):∃h:i<l.length,l[i]=a:=List.getElem?_eq_some_iff.1 h
theorem qE{α:Type}{l:List α}{i:Nat}(h:i<l.length):l[i]?=some l[i]:=List.getElem?_eq_getElem h
theorem nfoE{P:Program}{t:TypeId}{z:Value}{n b:Nat}(h:(P.info? t).map (fun i=>(i.zero,i.size,i.bytes))=some (some z,n,b)):∃i,P.info? t=some i/\i.zero=some z/\i.size=n/\i.bytes=b:=by
 cases hq:P.info? t with
 |none=>simp[hq]at h
 |some i=>simp[hq]at h;exact⟨i,rfl,h.1,h.2.1,h.2.2⟩
theorem csm{P:Program}{f:FuncId}{a:Array Value}{w:World}{r:Ending}{Q:Ending->World->Prop}(h:Calls P f a w fun e w'=>e=r/\w'=w)(q:Q r w):Calls P f a w Q:=h.mono (by rintro e w'⟨rfl,rfl⟩;exact q)
def atB(s:ByteArray)(i:Int):Int :=
  if h:0<=i/\i.toNat<s.size then((s[i.toNat]'h.2).toNat:Int) else -1
def Q0m(c:Int):Bool:=decide (97<=c)&&decide (c<=122)
def Q1a(c:Int):Bool:=decide (65<=c)&&decide (c<=90)
def Q7x(c:Int):Bool:=decide (48<=c)&&decide (c<=57)
def Q4l(c:Int):Bool:=decide (32<=c)&&decide (c<=126)
def Q02(c:Int):Bool:=!(c==92||c==91||c==93||c==40||c==41||c==124||c==42||c==43||c==63||c==46)&&Q4l c
theorem z1i{k:IntKind}{a b:Int}(h:a=b):Ending.returned (.int k a)=.returned (.int k b):=by rw[h]
theorem z0w{a b:Bool}(h:a=b):Ending.returned (.bool a)=.returned (.bool b):=by rw[h]
theorem w64{n:Int}(h:-9223372036854775808<=n/\n<=9223372036854775807):wrap64 n=n:=by unfold wrap64;omega
theorem z0x(s:ByteArray)(i:Int)(w:World)(hs:s.size<=maxLen) :
    Calls Tryz.prog 97 #[.string s,.int .i64 i] w fun e w'=>e=.returned (.int .i64 (atB s i))/\w'=w:=by
  unfold maxLen at hs;by_cases h0:i<0
  · go_enter Tryz.func97,Tryz.ntmps97
    go_wp2;go_ret;exact⟨z1i (by unfold atB;rw[qFm (by omega)]),rfl⟩
  by_cases h1:i.toNat<s.size
  · obtain⟨k,rfl⟩:∃k:Nat,i=k:=⟨i.toNat,by omega⟩
    have hk:k<s.size:=by simpa using h1
    clear h1;go_enter Tryz.func97,Tryz.ntmps97
    go_wp2;go_ret;exact⟨z1i (by
      have hb:s[k].toNat<256:=s[k].toNat_lt;rw[w64 (by omega)];simp[atB,hk]),rfl⟩
  have h2:(s.size:Int)<=i:=by omega
  go_enter Tryz.func97,Tryz.ntmps97
  go_wp2;go_ret;exact⟨z1i (by unfold atB;rw[qFm (by omega)]),rfl⟩
theorem z3o(c:Int)(w:World) :
    Calls Tryz.prog 116 #[.int .i64 c] w fun e w'=>e=.returned (.bool (Q0m c))/\w'=w:=by
  go_enter Tryz.func116,Tryz.ntmps116
  go_wp2;all_goals (go_ret;exact⟨z0w (by rw[qBc];simp[Q0m];omega),rfl⟩)
theorem z6j(c:Int)(w:World) :
    Calls Tryz.prog 99 #[.int .i64 c] w fun e w'=>e=.returned (.bool (Q1a c))/\w'=w:=by
  go_enter Tryz.func99,Tryz.ntmps99
  go_wp2;all_goals (go_ret;exact⟨z0w (by rw[qBc];simp[Q1a];omega),rfl⟩)
theorem x3c(c:Int)(w:World) :
    Calls Tryz.prog 158 #[.int .i64 c] w fun e w'=>e=.returned (.bool (Q7x c))/\w'=w:=by
  go_enter Tryz.func158,Tryz.ntmps158
  go_wp2;all_goals (go_ret;exact⟨z0w (by rw[qBc];simp[Q7x];omega),rfl⟩)
theorem y2k(c:Int)(w:World) :
    Calls Tryz.prog 151 #[.int .i64 c] w fun e w'=>e=.returned (.bool (Q4l c))/\w'=w:=by
  go_enter Tryz.func151,Tryz.ntmps151
  go_wp2;all_goals (go_ret;exact⟨z0w (by rw[qBc];simp[Q4l];omega),rfl⟩)
theorem z51(c:Int)(w:World) :
    Calls Tryz.prog 147 #[.int .i64 c] w fun e w'=>e=.returned (.bool (Q02 c))/\w'=w:=by
  go_enter Tryz.func147,Tryz.ntmps147
  go_wp2_with (go_at_call 151;refine(y2k _ _).mono ?_;rintro e w'⟨rfl,rfl⟩)
  all_goals (go_ret;exact⟨z0w (by simp_all[Q02]),rfl⟩)
def Q2v(s:ByteArray)(i:Int):Bool :=
  atB s i==40||atB s i==46||atB s i==91||atB s i==92||Q02 (atB s i)
def Q2k(s:ByteArray)(i:Int):Int × Int × Bool :=
  if atB s i=110 then(10,i+1,true)
  else if atB s i=116 then(9,i+1,true)
  else if(!Q4l (atB s i)||Q0m (atB s i)||Q1a (atB s i)||Q7x (atB s i))=true then(0,i,false)
  else(atB s i,i+1,true)
def Q1s(s:ByteArray)(i:Int):Int × Int × Bool :=
  if atB s i=92 then Q2k s (i+1)
  else if atB s i=93∨atB s i=94∨atB s i=45 then(0,i,false)
  else if Q4l (atB s i)=false then(0,i,false)
  else(atB s i,i+1,true)
def Q0n(s:ByteArray)(i:Int):Int × Int × Int × Bool :=
  if(Q1s s i).2.2=false then(0,0,(Q1s s i).2.1,false)
  else if atB s (Q1s s i).2.1≠45 then((Q1s s i).1,(Q1s s i).1,(Q1s s i).2.1,true)
  else if(Q1s s ((Q1s s i).2.1+1)).2.2=false then(0,0,(Q1s s ((Q1s s i).2.1+1)).2.1,false)
  else if(Q1s s ((Q1s s i).2.1+1)).1<(Q1s s i).1 then(0,0,(Q1s s ((Q1s s i).2.1+1)).2.1-1,false)
  else((Q1s s i).1,(Q1s s ((Q1s s i).2.1+1)).1,(Q1s s ((Q1s s i).2.1+1)).2.1,true)
theorem z8p(s:ByteArray)(i:Int):-1<=atB s i/\atB s i<=255:=by
  unfold atB;split
  · rename_i h;have:=(s[i.toNat]'h.2).toNat_lt;omega
  omega
theorem z0r{s:ByteArray}{i:Int}(h:atB s i≠-1):0<=i/\i<s.size:=by
  unfold atB at h;split at h
  · omega
  omega
theorem z8j(s:ByteArray)(i:Int)(h:0<=i) :
    0<=(Q2k s i).1/\(Q2k s i).1<=255/\i<=(Q2k s i).2.1/\(Q2k s i).2.1<=i+1/\((Q2k s i).2.2=true->(Q2k s i).2.1=i+1/\i<s.size):=by
  have hb:=z8p s i;unfold Q2k;split
  · have:=z0r (s:=s) (i:=i) (by omega);simp;omega
  split
  · have:=z0r (s:=s) (i:=i) (by omega);simp;omega
  split
  · simp;omega
  rename_i h3;have:atB s i≠-1:=by
    intro h4;simp[Q4l,h4]at h3
  have h5:Q4l (atB s i)=true:=by
    cases h6:Q4l (atB s i)<;>simp[h6]at h3 ⊢
  have h7:32<=atB s i:=by unfold Q4l at h5;simp at h5;omega
  have:=z0r this;simp;omega
theorem z4s(s:ByteArray)(i:Int)(h:0<=i) :
    0<=(Q1s s i).1/\(Q1s s i).1<=255/\i<=(Q1s s i).2.1/\(Q1s s i).2.1<=i+2/\((Q1s s i).2.2=true->i<(Q1s s i).2.1/\(Q1s s i).2.1<=s.size):=by
  have hb:=z8p s i;unfold Q1s;split
  · have h1:=z8j s (i+1) (by omega);have:=z0r (s:=s) (i:=i) (by omega)
    refine⟨h1.1,h1.2.1,by omega,by omega,fun h2=>?_⟩;have:=h1.2.2.2.2 h2;omega
  split
  · simp;omega
  split
  · simp;omega
  rename_i h5;have h7:32<=atB s i:=by unfold Q4l at h5;simp at h5;omega
  have:=z0r (s:=s) (i:=i) (by omega);simp;omega
theorem z62(s:ByteArray)(i:Int)(w:World)(hs:s.size<=1000) :
    Calls Tryz.prog 140 #[.string s,.int .i64 i] w fun e w'=>e=.returned (.bool (Q2v s i))/\w'=w:=by
  go_enter Tryz.func140,Tryz.ntmps140
  go_wp2_with (first
    |(go_at_call 97;refine(z0x _ _ _ (by unfold maxLen;omega)).mono ?_;rintro e w'⟨rfl,rfl⟩)
    |(go_at_call 147;refine(z51 _ _).mono ?_;rintro e w'⟨rfl,rfl⟩))
  all_goals (go_ret;exact⟨z0w (by simp_all[Q2v]),rfl⟩)
theorem z70(s:ByteArray)(i:Int)(w:World)(hs:s.size<=1000)(h0:0<=i)(h1:i<=10000) :
    Calls Tryz.prog 155 #[.string s,.int .i64 i] w fun e w'=>e=.returned (.tuple #[.int .i64 (Q2k s i).1,.int .i64 (Q2k s i).2.1,.bool (Q2k s i).2.2])/\w'=w:=by
  go_enter Tryz.func155,Tryz.ntmps155
  go_wp2_with (first
    |(go_at_call 97;refine(z0x _ _ _ (by unfold maxLen;omega)).mono ?_;rintro e w'⟨rfl,rfl⟩)
    |(go_at_call 151;refine(y2k _ _).mono ?_;rintro e w'⟨rfl,rfl⟩)
    |(go_at_call 116;refine(z3o _ _).mono ?_;rintro e w'⟨rfl,rfl⟩)
    |(go_at_call 99;refine(z6j _ _).mono ?_;rintro e w'⟨rfl,rfl⟩)
    |(go_at_call 158;refine(x3c _ _).mono ?_;rintro e w'⟨rfl,rfl⟩))
  all_goals (go_ret3;exact⟨by simp_all[Q2k],rfl⟩)
theorem y7j(s:ByteArray)(i:Int)(w:World)(hs:s.size<=1000)(h0:0<=i)(h1:i<=9000) :
    Calls Tryz.prog 160 #[.string s,.int .i64 i] w fun e w'=>e=.returned (.tuple #[.int .i64 (Q1s s i).1,.int .i64 (Q1s s i).2.1,.bool (Q1s s i).2.2])/\w'=w:=by
  go_enter Tryz.func160,Tryz.ntmps160
  go_wp2_with (first
    |(go_at_call 97;refine(z0x _ _ _ (by unfold maxLen;omega)).mono ?_;rintro e w'⟨rfl,rfl⟩)
    |(go_at_call 151;refine(y2k _ _).mono ?_;rintro e w'⟨rfl,rfl⟩)
    |(go_at_call 155;refine(z70 _ _ _ (by omega) (by omega) (by omega)).mono ?_;rintro e w'⟨rfl,rfl⟩))
  all_goals (go_ret3;exact⟨by simp_all[Q1s],rfl⟩)
theorem y5r{fn:Func}{t u v x:Tmp}(h:fn.results=#[.tmp t,.tmp u,.tmp v,.tmp x])(tmps:Array Value)(P:Program)(w:World) :
    (results fn tmps).run P w=.ok (.tuple #[tmps.getD t undef,tmps.getD u undef,tmps.getD v undef,tmps.getD x undef]) w:=by
  simp[results,h]
theorem z6q(s:ByteArray)(i:Int)(w:World)(hs:s.size<=1000)(h0:0<=i)(h1:i<=8000) :
    Calls Tryz.prog 159 #[.string s,.int .i64 i] w fun e w'=>e=.returned (.tuple #[.int .i64 (Q0n s i).1,.int .i64 (Q0n s i).2.1,.int .i64 (Q0n s i).2.2.1,.bool (Q0n s i).2.2.2])/\w'=w:=by
  have b1:=z4s s i h0;have b2:=z4s s ((Q1s s i).2.1+1) (by omega);obtain⟨j0,j1,j2,j3,j4⟩:=b1;obtain⟨j5,j6,j7,j8,j9⟩:=b2;go_enter Tryz.func159,Tryz.ntmps159
  go_wp2_with (first
    |(go_at_call 97;refine(z0x _ _ _ (by unfold maxLen;omega)).mono ?_;rintro e w'⟨rfl,rfl⟩)
    |(go_at_call 160;refine(y7j _ _ _ (by omega) (by omega) (by omega)).mono ?_;rintro e w'⟨rfl,rfl⟩))
  all_goals (refine qAc (y5r rfl _ _ _) rfl ?_;exact⟨by first|(simp_all[Q0n];done)|(simp_all[Q0n];rw[qAa (by omega)];simp),rfl⟩)
theorem Q0b{w:World}{b:Nat}{c:Array Value}{e:TypeId}{f:Nat × Nat}(h:w.heap[b]? = some (.cells c e f))(o:Nat) :
    w.cell? ⟨b,o,none⟩=c[o]? := by simp[World.cell?,h]
theorem Q0f{w:World}{b:Nat}{c:Array Value}{e:TypeId}(h:w.heap[b]? = some (.cells c e (0,0)))(o:Nat) :
    w.frozen? ⟨b,o,none⟩=false:=by simp[World.frozen?,h]
theorem zhs{w:World}{b:Nat}{c:Array Value}{e:TypeId}{f:Nat × Nat}(h:w.heap[b]? = some (.cells c e f))(o:Nat)(v:Value) :
    (w.setCell ⟨b,o,none⟩ v).heap[b]? = some (.cells (c.setIfInBounds o v) e f):=by
  have hb:=(Array.getElem?_eq_some_iff.1 h).1;simp only[World.setCell,Array.getElem?_modify];simp[h]
theorem heap_setCell_other{w:World}{k:Nat}{a:Addr}(v:Value)(h:k≠a.block) :
    (w.setCell a v).heap[k]? = w.heap[k]? := Below.heap_setCell w a v k h
theorem heap_setCell_size(w:World)(a:Addr)(v:Value):(w.setCell a v).heap.size=w.heap.size:=by simp[World.setCell]
theorem z0s{w:World}{o:Obj}{k:Nat}(h:k<w.heap.size):(w.alloc o).heap[k]? = w.heap[k]? := Below.heap_alloc w o k h
theorem z0a(w:World)(o:Obj):(w.alloc o).heap[w.heap.size]? = some o:=heap_alloc_new w o
theorem z0j{w:World}{b:Nat}{o:Obj}(h:w.heap[b]? = some o):b<w.heap.size:=(Array.getElem?_eq_some_iff.1 h).1
structure Mod(S:Nat->Prop)(w w':World):Prop where
  os:w'.os=w.os
  tape:w'.tape=w.tape
  output:w'.output=w.output
  size:w.heap.size<=w'.heap.size
  block:∀k,k<w.heap.size->¬S k->w'.heap[k]? = w.heap[k]?
theorem mRf(S:Nat->Prop)(w:World):Mod S w w:=⟨rfl,rfl,rfl,qR _,fun _ _ _=>rfl⟩
theorem Mod.trans{S:Nat->Prop}{a b c:World}(h:Mod S a b)(k:Mod S b c):Mod S a c :=
  ⟨k.os.trans h.os,k.tape.trans h.tape,k.output.trans h.output,qDa h.size k.size,
   fun i hi hs=>(k.block i (qDr hi h.size) hs).trans (h.block i hi hs)⟩
theorem Mod.trans'{S T:Nat->Prop}{a b c:World}(h:Mod S a b)(k:Mod T b c)(hT:∀i,i<a.heap.size->T i->S i):Mod S a c :=
  ⟨k.os.trans h.os,k.tape.trans h.tape,k.output.trans h.output,qDa h.size k.size,
   fun i hi hs=>(k.block i (qDr hi h.size) (fun ht=>hs (hT i hi ht))).trans (h.block i hi hs)⟩
theorem Mod.mono{S T:Nat->Prop}{w w':World}(h:Mod S w w')(hS:∀i,i<w.heap.size->S i->T i):Mod T w w' :=
  ⟨h.os,h.tape,h.output,h.size,fun i hi ht=>h.block i hi (fun hs=>ht (hS i hi hs))⟩
theorem Mod.alloc{S:Nat->Prop}{a w:World}(h:Mod S a w)(o:Obj):Mod S a (w.alloc o) :=
  h.trans ⟨rfl,rfl,rfl,by simp,fun _ hk _=>z0s hk⟩
theorem Mod.setCell{S:Nat->Prop}{a w:World}(h:Mod S a w){p:Addr}(hp:p.block<a.heap.size->S p.block)(u:Value):Mod S a (w.setCell p u) :=
  ⟨h.os,h.tape,h.output,by simp[World.setCell];exact h.size,fun k hk hs=>by
    rw[heap_setCell_other u (by intro e;subst e;exact hs (hp hk))];exact h.block k hk hs⟩
theorem Mod.setRow{S:Nat->Prop}{a w:World}(h:Mod S a w){g:Nat}(hp:g<a.heap.size->S g)(cs:Array Value):Mod S a (w.setRow g cs) :=
  ⟨h.os,h.tape,h.output,by simp;exact h.size,fun k hk hs=>by
    rw[qCx _ _ _ _ (by intro e;subst e;exact hs (hp hk))];exact h.block k hk hs⟩
theorem Mod.below{w w':World}(h:Mod (fun _=>False) w w'):Below w.heap.size w w' :=
  ⟨h.os,h.tape,h.output,h.size,fun k hk=>h.block k hk id⟩
theorem Mod.grown{S:Nat->Prop}{a w w':World}{row:Option Nat}(h:Mod S a w)(hg:w.grownBy w' row)(hr:∀k,row=some k->k<a.heap.size->S k):Mod S a w' :=
  ⟨hg.os.trans h.os,hg.tape.trans h.tape,hg.output.trans h.output,qDa h.size hg.size,fun k hk hs =>
    (hg.block k (qDr hk h.size) (fun e=>hs (hr k e.symm hk))).trans (h.block k hk hs)⟩
theorem Mod.drew{S:Nat->Prop}{a w:World}(h:Mod S a w):Mod S a w.drew:=⟨h.os,h.tape,h.output,h.size,h.block⟩
theorem Mod.at{S:Nat->Prop}{w w':World}(h:Mod S w w'){b:Nat}{o:Obj}(hb:w.heap[b]? = some o)(hs:¬S b):w'.heap[b]? = some o :=
  (h.block b (z0j hb) hs).trans hb
theorem z0i{P:Program}{fn:Func}{p u v:Tmp}{ty:TypeId}(h:fn.results=#[.cell p ty,.tmp u,.tmp v])(tmps:Array Value)(w:World)(g:Nat)(t:TypeId)(cs:Array Value)(fr:Nat × Nat)(d:TypeDesc)
    (hp:tmps.getD p undef=.pointer (some ⟨g,0,none⟩)) (hg:w.heap[g]? = some (.cells cs t fr))
    (hu:P.underlying ty=some d) (hd:(match d with | .struct _ | .array _ _=>true|_=>false)=true) (hi:(P.info? ty).map (·.size)=some cs.size) :
    (results fn tmps).run P w=.ok (.tuple #[.agg cs,tmps.getD u undef,tmps.getD v undef]) w:=by
  have j0:tmps[p]?.getD undef=.pointer (some ⟨g,0,none⟩):=by simpa using hp
  simp[results,h,j0,asAddr,run_loadVar_row w g t ty cs fr d hg hu hd hi]
abbrev Q0a:World->World->Prop:=Mod (fun _=>False)
def Q54(ws:List Int):Array Value:=(ws.map (Value.int .u64)).toArray
theorem y7t(ws:List Int)(i:Nat)(h:i<ws.length):(Q54 ws)[i]? = some (.int .u64 (ws.getD i 0)):=by
  simp[Q54,h]
def Q8o(ws:List Int)(x:Int):List Int :=
  ws.set (x / 64).toNat (bits BinOp.or IntKind.u64 (ws[(x / 64).toNat]?.getD 0) (IntKind.u64.wrap (2 ^ (x % 64).toNat)))
def Q7f(ws:List Int)(low:Int):Nat->List Int
  |0=>ws
  |n+1=>Q8o (Q7f ws low n) (low+n)
def Q2d(ws:List Int)(low high:Int):List Int:=Q7f ws low (high+1-low).toNat
theorem y51(ws:List Int)(low:Int)(n:Nat):(Q7f ws low n).length=ws.length:=by
  induction n with
  |zero=>rfl
  |succ n ih=>simp[Q7f,Q8o,ih]
theorem y9t(ws:List Int)(i:Nat)(v:Int):(Q54 ws).setIfInBounds i (.int .u64 v)=Q54 (ws.set i v):=by
  simp[Q54,qFr]
theorem four{ws:List Int}(h:ws.length=4):∃a b c d,ws=[a,b,c,d]:=by
  match ws,h with
  | [a,b,c,d],_=>exact⟨a,b,c,d,rfl⟩
theorem y9w(ws:List Int)(low high:Int)(w:World)(hl:ws.length=4)(h0:0<=low)(h1:low<=255)(h2:0<=high)(h3:high<=255) :
    Calls Tryz.prog 156 #[.agg (Q54 ws),.int .i64 low,.int .i64 high] w fun e w'=>e=.returned (.agg (Q54 (Q2d ws low high)))/\Q0a w w':=by
  obtain⟨a,b,c,d,j3⟩:=four hl;have HW:Hid (ws=[a,b,c,d]):=j3;have e1:Q54 ws=#[.int .u64 a,.int .u64 b,.int .u64 c,.int .u64 d]:=by rw[j3];rfl
  rw[e1];clear j3 e1;go_enter Tryz.func156,Tryz.ntmps156
  go_wp2;go_loopw [7] (fun i wr=>∃n:Nat,i=.int .i64 (low+n)/\low+n<=256/\(n=0∨low+n<=high+1) /\
      wr.heap[w.heap.size]? = some (.cells (Q54 (Q7f ws low n)) 214 (0,0)) /\
      wr.heap[w.heap.size+1]? = some (.cells #[.int .u64 0,.int .u64 0,.int .u64 0,.int .u64 0] 214 (0,0))/\Q0a w wr)
      (fun i _=>256-(intOf i).toNat)
  case atStart =>
    refine⟨0,by simp,by omega,by omega,?_,qBa _ _ _,((mRf _ _).alloc _).alloc _⟩;rw[qBg];simp only[Q7f];rw[HW.out];rfl
  obtain⟨n,rfl,j7,j8,j0,j1,hf⟩:=hrel;have j4:=y51 ws low n;by_cases hx:low+n<=high
  · have hc:wr.cell? ⟨w.heap.size,((low+n) / 64).toNat,none⟩=some (.int .u64 ((Q7f ws low n).getD ((low+n) / 64).toNat 0)):=by rw[Q0b j0,y7t _ _ (by omega)]
    have hz:=Q0f j0;have j5:Hid _:=j0;have j2:Hid _:=j1;clear j0 j1 j4 hl;go_wp2;go_roundw
    case rel =>
      refine⟨n+1,by go_num,by omega,by omega,?_,?_,hf.setCell (by simp) _⟩
      · rw[zhs j5.out,y9t];rfl
      rw[Proofs.YtbdpfmalabgmbaaGreat.heap_setCell_other _ (by simp)];exact j2.out
    simp[intOf];omega
  obtain⟨a',b',c',d',e'⟩:=four (ws:=Q7f ws low n) (by omega);have hn:(high+1-low).toNat=n:=by omega
  have e2:Q2d ws low high=[a',b',c',d']:=by rw[← e'];unfold Q2d;rw[hn]
  rw[e']at j0;simp only[Q54,List.map]at j0;have hc:=fun o=>Q0b j0 o;have hz:=Q0f j0;have j6:=fun o=>Q0b j1 o;have j9:=Q0f j1;have j2:Hid _:=j1;have E2:Hid _:=e2;clear j0 j1 j4 hl e' hn e2;go_wp2;refine qAc (qCg rfl _ _ (w.heap.size+1) 214 #[.int .u64 a',.int .u64 b',.int .u64 c',.int .u64 d'] (0,0) _ rfl ?_ qBo rfl (by kernel_rfl)) rfl ⟨?_,?_⟩
  · rw[zhs (zhs (zhs (zhs j2.out _ _) _ _) _ _) _ _];rfl
  · rw[E2.out];rfl
  exact(((hf.setCell (by simp) _).setCell (by simp) _).setCell (by simp) _).setCell (by simp) _
theorem Q9l:(Tryz.prog.info? 214).map (·.size)=some 4:=by kernel_rfl
theorem z16(ws:List Int):(Q54 ws).size=ws.length:=by simp[Q54]
theorem z1b(ws:List Int):(Q54 ws).all (·.oneCell')=true:=by
  rw[qCn];intro v hv;simp[Q54]at hv;obtain⟨a,_,rfl⟩:=hv;rfl
theorem z1m(ws:List Int)(low high:Int):(Q2d ws low high).length=ws.length:=y51 _ _ _
theorem z7g(c:Int)(w:World)(h0:0<=c)(h1:c<=255) :
    Calls Tryz.prog 152 #[.int .i64 c] w fun e w'=>e=.returned (.agg (Q54 (Q2d [0,0,0,0] c c)))/\Q0a w w':=by
  have sz:(Tryz.prog.info? 214).map (·.size)=some (Q54 (Q2d [0,0,0,0] c c)).size:=by rw[z16,z1m];exact Q9l
  have SZ:Hid _:=sz;clear sz;go_enter Tryz.func152,Tryz.ntmps152
  go_wp2_with (first
    |(go_at_call 156;refine(y9w [0,0,0,0] _ _ _ rfl (by omega) (by omega) (by omega) (by omega)).mono ?_;rintro e w'⟨rfl,hf⟩)
    |(refine qAg rfl _ _ _ rfl w.heap.size _ rfl rfl _ _ (hf.at (z0a _ _) id) SZ.out ?_ (z1b _) ?_))
  case refine_1=>rw[z16,z1m];rfl
  go_wp2;refine qAc (qCg rfl _ _ w.heap.size 214 _ (0,0) _ rfl (qAn _ _ _ _ _ _ (hf.at (z0a _ _) id)) qBo rfl SZ.out) rfl ⟨rfl,?_⟩;exact(((mRf _ w).alloc _).trans hf).setRow (by simp) _
def Q7v(v:Int):Int:=bits BinOp.xor IntKind.u64 (if IntKind.u64.signed=true then -1 else IntKind.u64.max) v
def Q85(ws:List Int):Nat->List Int
  |0=>ws
  |n+1=>(Q85 ws n).set n (Q7v ((Q85 ws n)[n]?.getD 0))
theorem y88(ws:List Int)(n:Nat):(Q85 ws n).length=ws.length:=by
  induction n with
  |zero=>rfl
  |succ n ih=>simp[Q85,ih]
theorem x4c(ws:List Int)(w:World)(hl:ws.length=4) :
    Calls Tryz.prog 153 #[.agg (Q54 ws)] w fun e w'=>e=.returned (.agg (Q54 (Q85 ws 4)))/\Q0a w w':=by
  obtain⟨a,b,c,d,j5⟩:=four hl;have HW:Hid (ws=[a,b,c,d]):=j5;have e1:Q54 ws=#[.int .u64 a,.int .u64 b,.int .u64 c,.int .u64 d]:=by rw[j5];rfl
  rw[e1];clear j5 e1;go_enter Tryz.func153,Tryz.ntmps153
  go_wp2;go_loopw [4] (fun i wr=>∃n:Nat,i=.int .i64 n/\n<=4 /\
      wr.heap[w.heap.size]? = some (.cells (Q54 (Q85 ws n)) 214 (0,0)) /\
      wr.heap[w.heap.size+1]? = some (.cells #[.int .u64 0,.int .u64 0,.int .u64 0,.int .u64 0] 214 (0,0))/\Q0a w wr)
      (fun i _=>4-(intOf i).toNat)
  case atStart =>
    refine⟨0,by simp,by omega,?_,qBa _ _ _,((mRf _ _).alloc _).alloc _⟩;rw[qBg];simp only[Q85];rw[HW.out];rfl
  obtain⟨n,rfl,hn,j0,j2,hf⟩:=hrel;have j3:=y88 ws n;by_cases hx:n<4
  · have hc:wr.cell? ⟨w.heap.size,n,none⟩=some (.int .u64 ((Q85 ws n).getD n 0)):=by rw[Q0b j0,y7t _ _ (by omega)]
    have hz:=Q0f j0;have j4:Hid _:=j0;have j1:Hid _:=j2;clear j0 j2 j3 hl;go_wp2;go_roundw
    case rel =>
      refine⟨n+1,by go_num,by omega,?_,?_,hf.setCell (by simp) _⟩
      · rw[zhs j4.out,y9t];rfl
      rw[Proofs.YtbdpfmalabgmbaaGreat.heap_setCell_other _ (by simp)];exact j1.out
    simp[intOf];omega
  have j7:n=4:=by omega
  subst j7;have sz:(Tryz.prog.info? 214).map (·.size)=some (Q54 (Q85 ws 4)).size:=by rw[z16,j3,hl];exact Q9l
  have SZ:Hid _:=sz;clear sz;have j4:Hid _:=j0;have j1:Hid _:=j2;have HL:Hid _:=hl;have j6:Hid _:=j3;clear j0 j2 j3 hl;go_wp2_with (first
    |(refine qAf rfl _ _ rfl w.heap.size rfl _ _ _ _ j4.out qBo rfl SZ.out ?_)
    |(refine qAg rfl _ _ _ rfl (w.heap.size+1) _ rfl rfl _ _ j1.out SZ.out ?hs (z1b _) ?_))
  case hs=>rw[z16,j6.out,HL.out];rfl
  go_wp2;refine qAc (qCg rfl _ _ (w.heap.size+1) 214 _ (0,0) _ rfl (qAn _ _ _ _ _ _ j1.out) qBo rfl SZ.out) rfl ⟨rfl,?_⟩;exact hf.setRow (by simp) _
def zero4:List Int:=[0,0,0,0]
def Q06(s:ByteArray)(i:Int):Nat->Int->List Int->List Int × Int × Bool
  |0,next,ws=>(ws,next,false)
  |f+1,next,ws =>
    if next=i∨atB s next≠93 then
      if(Q0n s next).2.2.2=false then(zero4,(Q0n s next).2.2.1,false)
      else Q06 s i f (Q0n s next).2.2.1 (Q2d ws (Q0n s next).1 (Q0n s next).2.1)
    else(ws,next+1,true)
def Q3f(s:ByteArray)(i:Int):List Int × Int × Bool:=Q06 s i (s.size+5) i zero4
theorem z1l(s:ByteArray)(i:Int)(h:0<=i) :
    0<=(Q0n s i).1/\(Q0n s i).1<=255/\0<=(Q0n s i).2.1/\(Q0n s i).2.1<=255/\i<=(Q0n s i).2.2.1/\(Q0n s i).2.2.1<=i+5 /\
    ((Q0n s i).2.2.2=true->i<(Q0n s i).2.2.1/\(Q0n s i).2.2.1<=s.size):=by
  obtain⟨a1,a2,a3,a4,a5⟩:=z4s s i h;obtain⟨b1,b2,b3,b4,b5⟩:=z4s s ((Q1s s i).2.1+1) (by omega);unfold Q0n;split
  · simp;omega
  rename_i h1;have a6:=a5 (by simpa using h1);split
  · simp;omega
  split
  · simp;omega
  rename_i h2;have b6:=b5 (by simpa using h2);split
  · simp;omega
  simp;omega
theorem y1r(s:ByteArray)(i:Int):∀(f:Nat) (next:Int) (ws:List Int),ws.length=4->(Q06 s i f next ws).1.length=4
  |0,_,_,h=>h
  |f+1,next,ws,h=>by
    unfold Q06;split
    · split
      · rfl
      exact y1r s i f _ _ (by rw[z1m];exact h)
    exact h
theorem z49(s:ByteArray)(i:Int):(Q3f s i).1.length=4:=y1r s i _ _ _ rfl
theorem Q68(ws:List Int)(h:ws.length=4):(Tryz.prog.info? 214).map (·.size)=some (Q54 ws).size:=by rw[z16,h];exact Q9l
theorem z7z(s:ByteArray)(i:Int)(w:World)(hs:s.size<=1000)(h0:0<=i)(h1:i<=s.size+1) :
    Calls Tryz.prog 157 #[.string s,.int .i64 i] w fun e w'=>e=.returned (.tuple #[.agg (Q54 (Q3f s i).1),.int .i64 (Q3f s i).2.1,.bool (Q3f s i).2.2])/\Q0a w w':=by
  go_enter Tryz.func157,Tryz.ntmps157
  go_wp2;go_loopw [8] (fun v wr=>∃(f:Nat) (next:Int) (ws:List Int),v=.int .i64 next/\Q06 s i f next ws=Q3f s i/\ws.length=4/\i<=next/\next<=s.size+1/\(s.size:Int)+5<=f+next /\
      wr.heap[w.heap.size]? = some (.cells (Q54 zero4) 214 (0,0)) /\
      wr.heap[w.heap.size+1]? = some (.cells (Q54 ws) 214 (0,0))/\Q0a w wr)
      (fun i _=>s.size+5-(intOf i).toNat)
  case atStart =>
    exact⟨s.size+5,i,zero4,rfl,rfl,rfl,by omega,by omega,by omega,qBg _ _ _,qBa _ _ _,((mRf _ _).alloc _).alloc _⟩
  obtain⟨f,next,ws,rfl,hR,hl,jc,jd,jb,j7,j8,hf⟩:=hrel;obtain⟨f,rfl⟩:∃g,f=g+1:=⟨f-1,by omega⟩;unfold Q06 at hR;obtain⟨r1,r2,r3,r4,r5,r6,r7⟩:=z1l s next (by omega)
  have j2:Hid _:=j7;have j3:Hid _:=j8;clear j7 j8;by_cases hc:next=i∨atB s next≠93
  · rw[qAb hc]at hR
    have j1:(next==i)=true∨(next==i)=false/\(atB s next != 93)=true:=by
      by_cases h:next=i
      · left;simpa using h
      right;exact⟨by simpa using h,by simp;omega⟩
    by_cases j0:(Q0n s next).2.2.2=false
    · rw[qAb j0]at hR
      have HR:Hid _:=hR;have j6:(!(Q0n s next).2.2.2)=true:=by simp[j0]
      clear hR j0 r7 hc;rcases j1 with j1|⟨j1,j5⟩;all_goals
        go_wp2_with (first
          |(go_at_call 97;refine(z0x _ _ _ (by unfold maxLen;omega)).mono ?_;rintro e w'⟨rfl,rfl⟩)
          |(go_at_call 159;refine(z6q _ _ _ (by omega) (by omega) (by omega)).mono ?_;rintro e w'⟨rfl,rfl⟩)
          |(refine qAg rfl _ _ _ rfl w.heap.size (Q54 zero4) rfl rfl _ _ j2.out Q9l rfl (z1b _) ?_))
        refine qAc (z0i rfl _ _ w.heap.size 214 _ (0,0) _ rfl (qAn _ _ _ _ _ _ j2.out) qBo rfl Q9l) rfl ⟨?_,hf.setRow (by simp) _⟩;rw[← HR.out];rfl
    rw[qAa j0]at hR;have r8:=r7 (by simpa using j0);have HR:Hid _:=hR;have j6:(!(Q0n s next).2.2.2)=false:=by simpa using j0
    have HL:Hid _:=hl;clear hR j0 r7 hc hl;rcases j1 with j1|⟨j1,j5⟩;all_goals
      go_wp2_with (first
        |(go_at_call 97;refine(z0x _ _ _ (by unfold maxLen;omega)).mono ?_;rintro e w'⟨rfl,rfl⟩)
        |(go_at_call 159;refine(z6q _ _ _ (by omega) (by omega) (by omega)).mono ?_;rintro e w'⟨rfl,rfl⟩)
        |(go_at_call 156;refine(y9w ws _ _ _ HL.out (by omega) (by omega) (by omega) (by omega)).mono ?_;rintro e w1⟨rfl,j4⟩)
        |(refine qAf rfl _ _ rfl (w.heap.size+1) rfl _ _ _ _ j3.out qBo rfl (Q68 _ HL.out) ?_)
        |(refine qAg rfl _ _ _ rfl (w.heap.size+1) _ rfl rfl _ _ (j4.at j3.out id) (Q68 _ (by rw[z1m];exact HL.out)) (by rw[z16,z16,z1m]) (z1b _) ?_))
      go_roundw
      case rel =>
        refine⟨f,_,_,rfl,HR.out,by rw[z1m];exact HL.out,by omega,by omega,by omega,?_,?_,?_⟩
        · rw[qCx _ _ _ _ (by omega)];exact j4.at j2.out id
        · exact qAn _ _ _ _ _ _ (j4.at j3.out id)
        exact(hf.trans j4).setRow (by simp) _
      simp[intOf];omega
  rw[qAa hc]at hR;have j9:(next==i)=false:=by simp;omega
  have ja:(atB s next != 93)=false:=by simp;omega
  have HR:Hid _:=hR;have HL:Hid _:=hl;clear hR hc hl;go_wp2_with (first
    |(go_at_call 97;refine(z0x _ _ _ (by unfold maxLen;omega)).mono ?_;rintro e w'⟨rfl,rfl⟩)
    |(refine qAf rfl _ _ rfl (w.heap.size+1) rfl _ _ _ _ j3.out qBo rfl (Q68 _ HL.out) ?_)
    |(refine qAg rfl _ _ _ rfl w.heap.size _ rfl rfl _ _ j2.out (Q68 _ HL.out) (by rw[z16,z16,HL.out];rfl) (z1b _) ?_))
  refine qAc (z0i rfl _ _ w.heap.size 214 _ (0,0) _ rfl (qAn _ _ _ _ _ _ j2.out) qBo rfl (Q68 _ HL.out)) rfl ⟨?_,hf.setRow (by simp) _⟩;rw[← HR.out];rfl
theorem z0e{P:Program}{ops:Array Oper}{rest:List Oper}{o:Oper}{a:Act}{w:World}{Q:Exit->Act->World->Prop}(hgd:o.guard=none)(ty:TypeId)(x y:Operand)(ho:o.op=.store ty x y)
    (W:World) (c cells:Array Value) (t:TypeId) (hw:w=W.alloc (.cells c t)) (hx:a.eval x=.pointer (some ⟨W.heap.size,0,none⟩)) (hy:a.eval y=.agg cells)
    (hi:(P.info? ty).map (·.size)=some cells.size) (hold:c.size=cells.size) (h1:cells.all (·.oneCell')=true)
    (h:wpList P ops Q rest (a.put o.dst undef) (W.alloc (.cells cells t))):wpList P ops Q (o::rest) a w:=by
  subst hw;exact qAg hgd ty x y ho W.heap.size cells hx hy t c (z0a _ _) hi hold h1 (by rw[World.setRow_alloc_new];exact h)
theorem z0b{W:World}{o:Obj}{b:Nat}{x:Obj}(h:W.heap[b]? = some x):(W.alloc o).heap[b]? = some x:=by
  rw[z0s (z0j h)];exact h
theorem z0p{W:World}{g b:Nat}{cs:Array Value}{x:Obj}(h:W.heap[b]? = some x)(hne:b≠g):(W.setRow g cs).heap[b]? = some x:=by
  rw[qCx _ _ _ _ hne];exact h
theorem z0h{W:World}{a:Addr}{b:Nat}{v:Value}{x:Obj}(h:W.heap[b]? = some x)(hne:b≠a.block):(W.setCell a v).heap[b]? = some x:=by
  rw[heap_setCell_other _ hne];exact h
theorem y47(s:ByteArray)(i:Int)(hi:0<=i):∀(f:Nat) (next:Int) (ws:List Int),i<=next->next<=s.size+1->(s.size:Int)+5<=f+next ->
    i<=(Q06 s i f next ws).2.1/\(Q06 s i f next ws).2.1<=s.size+6/\((Q06 s i f next ws).2.2=true->i<(Q06 s i f next ws).2.1/\(Q06 s i f next ws).2.1<=s.size)
  |0,next,ws,h1,h2,h3=>by omega
  |f+1,next,ws,h1,h2,h3=>by
    obtain⟨r1,r2,r3,r4,r5,r6,r7⟩:=z1l s next (by omega)
    unfold Q06;split
    · split
      · simp;omega
      rename_i h5;have r8:=r7 (by simpa using h5);exact y47 s i hi f _ _ (by omega) (by omega) (by omega)
    have:=z0r (s:=s) (i:=next) (by omega);simp;omega
theorem y9b(s:ByteArray)(i:Int)(h0:0<=i)(h1:i<=s.size+1) :
    i<=(Q3f s i).2.1/\(Q3f s i).2.1<=s.size+6/\((Q3f s i).2.2=true->i<(Q3f s i).2.1/\(Q3f s i).2.1<=s.size) :=
  y47 s i h0 _ _ _ (by omega) (by omega) (by omega)
theorem z6o(ws:List Int)(h:ws.length=4):(Q85 ws 4).length=4:=by rw[y88];exact h
def rBr(s:ByteArray)(i:Int):List Int × Int × Bool :=
  if atB s i=94 then(Q85 (Q3f s (i+1)).1 4,(Q3f s (i+1)).2.1,(Q3f s (i+1)).2.2) else Q3f s i
theorem x4p(s:ByteArray)(i:Int):(rBr s i).1.length=4:=by
  unfold rBr;split
  · exact z6o _ (z49 _ _)
  exact z49 _ _
theorem x4n(s:ByteArray)(i:Int)(h0:0<=i)(h1:i<=s.size) :
    i<=(rBr s i).2.1/\(rBr s i).2.1<=s.size+6/\((rBr s i).2.2=true->i<(rBr s i).2.1/\(rBr s i).2.1<=s.size):=by
  unfold rBr;split
  · have:=y9b s (i+1) (by omega) (by omega);exact⟨by dsimp only;omega,by dsimp only;omega,fun h=>by have:=this.2.2 h;dsimp only;omega⟩
  exact y9b s i (by omega) (by omega)
theorem eq4{a b:Array Value}(ha:a.size=4)(hb:b.size=4):a.size=b.size:=ha.trans hb.symm
theorem u4{ws:List Int}(h:ws.length=4):(Q54 ws).size=4:=by rw[z16,h]
theorem x01(s:ByteArray)(i:Int)(w:World)(hs:s.size<=1000)(h0:0<=i)(h1:i<=s.size) :
    Calls Tryz.prog 154 #[.string s,.int .i64 i] w fun e w'=>e=.returned (.tuple #[.agg (Q54 (rBr s i).1),.int .i64 (rBr s i).2.1,.bool (rBr s i).2.2])/\Q0a w w':=by
  by_cases hc:atB s i=94
  · have j3:(atB s i==94)=true:=by simpa using hc
    have hR:rBr s i=(Q85 (Q3f s (i+1)).1 4,(Q3f s (i+1)).2.1,(Q3f s (i+1)).2.2):=by unfold rBr;rw[qAb hc]
    rw[hR];have hl:=z6o _ (z49 s (i+1));have HL:Hid _:=hl;have j0:Hid _:=z49 s (i+1);clear hc hR hl;go_enter Tryz.func154,Tryz.ntmps154
    go_wp2_with (first
      |(go_at_call 97;refine(z0x _ _ _ (by unfold maxLen;omega)).mono ?_;rintro e w'⟨rfl,rfl⟩)
      |(go_at_call 157;refine(z7z _ _ _ (by omega) (by omega) (by omega)).mono ?_;rintro e w1⟨rfl,j1⟩;have hz:w.heap.size<w1.heap.size:=(by have:=j1.size;simp at this;omega))
      |(go_at_call 153;refine(x4c _ _ j0.out).mono ?_;rintro e w2⟨rfl,j2⟩)
      |(refine z0e rfl _ _ _ rfl w1 _ _ _ rfl rfl rfl (Q68 _ j0.out) (eq4 rfl (u4 j0.out)) (z1b _) ?_)
      |(refine qAf rfl _ _ rfl w1.heap.size rfl _ _ _ _ (z0a _ _) qBo rfl (Q68 _ j0.out) ?_)
      |(refine qAg rfl _ _ _ rfl w1.heap.size _ rfl rfl _ _ (j2.at (z0a _ _) id) (Q68 _ HL.out) (eq4 (u4 j0.out) (u4 HL.out)) (z1b _) ?_)
      |(refine qAf rfl _ _ rfl w1.heap.size rfl _ _ _ _ (qAn _ _ _ _ _ _ (j2.at (z0a _ _) id)) qBo rfl (Q68 _ HL.out) ?_)
      |(refine qAg rfl _ _ _ rfl w.heap.size _ rfl rfl _ _ (z0p (j2.at (z0b (j1.at (z0a _ _) id)) id) (by omega)) (Q68 _ HL.out) (eq4 rfl (u4 HL.out)) (z1b _) ?_))
    refine qAc (z0i rfl _ _ w.heap.size 214 _ (0,0) _ rfl (qAn _ _ _ _ _ _ (z0p (j2.at (z0b (j1.at (z0a _ _) id)) id) (by omega))) qBo rfl (Q68 _ HL.out)) rfl ⟨rfl,?_⟩;exact(((((((mRf _ w).alloc _).trans j1).alloc _).trans j2).setRow (by omega) _).setRow (by simp) _)
  have j3:(atB s i==94)=false:=by simpa using hc
  have hR:rBr s i=Q3f s i:=by unfold rBr;rw[qAa hc]
  rw[hR];have j0:Hid _:=z49 s i;clear hc hR;go_enter Tryz.func154,Tryz.ntmps154
  go_wp2_with (first
    |(go_at_call 97;refine(z0x _ _ _ (by unfold maxLen;omega)).mono ?_;rintro e w'⟨rfl,rfl⟩)
    |(go_at_call 157;refine(z7z _ _ _ (by omega) (by omega) (by omega)).mono ?_;rintro e w1⟨rfl,j1⟩;have hz:w.heap.size<w1.heap.size:=(by have:=j1.size;simp at this;omega))
    |(refine z0e rfl _ _ _ rfl w1 _ _ _ rfl rfl rfl (Q68 _ j0.out) (eq4 rfl (u4 j0.out)) (z1b _) ?_)
    |(refine qAf rfl _ _ rfl w1.heap.size rfl _ _ _ _ (z0a _ _) qBo rfl (Q68 _ j0.out) ?_)
    |(refine qAg rfl _ _ _ rfl w.heap.size _ rfl rfl _ _ (z0b (j1.at (z0a _ _) id)) (Q68 _ j0.out) (eq4 rfl (u4 j0.out)) (z1b _) ?_))
  refine qAc (z0i rfl _ _ w.heap.size 214 _ (0,0) _ rfl (qAn _ _ _ _ _ _ (z0b (j1.at (z0a _ _) id))) qBo rfl (Q68 _ j0.out)) rfl ⟨rfl,?_⟩;exact(((((mRf _ w).alloc _).trans j1).alloc _).setRow (by simp) _)
def Q2r(s:ByteArray)(i:Int):List Int × Int × Bool :=
  if atB s i=46 then(Q85 (Q2d zero4 10 10) 4,i+1,true)
  else if atB s i=91 then rBr s (i+1)
  else if atB s i=92 then(Q2d zero4 (Q2k s (i+1)).1 (Q2k s (i+1)).1,(Q2k s (i+1)).2.1,(Q2k s (i+1)).2.2)
  else if Q02 (atB s i)=false then(zero4,i,false)
  else(Q2d zero4 (atB s i) (atB s i),i+1,true)
theorem x7r(s:ByteArray)(i:Int):(Q2r s i).1.length=4:=by
  unfold Q2r;split
  · exact z6o _ (z1m _ _ _)
  split
  · exact x4p _ _
  split
  · exact z1m _ _ _
  split
  · rfl
  exact z1m _ _ _
theorem y21(s:ByteArray)(i:Int)(h0:0<=i) :
    i<=(Q2r s i).2.1/\(Q2r s i).2.1<=i+s.size+10/\((Q2r s i).2.2=true->i<(Q2r s i).2.1/\(Q2r s i).2.1<=s.size):=by
  have hb:=z8p s i;unfold Q2r;split
  · have:=z0r (s:=s) (i:=i) (by omega);simp;omega
  split
  · have:=z0r (s:=s) (i:=i) (by omega)
    have h2:=x4n s (i+1) (by omega) (by omega);exact⟨by omega,by omega,fun h=>by have:=h2.2.2 h;omega⟩
  split
  · have:=z0r (s:=s) (i:=i) (by omega)
    have h2:=z8j s (i+1) (by omega);exact⟨by dsimp only;omega,by dsimp only;omega,fun h=>by have:=h2.2.2.2.2 h;dsimp only;omega⟩
  split
  · simp;omega
  rename_i h5;have h7:32<=atB s i:=by unfold Q02 Q4l at h5;simp at h5;omega
  have:=z0r (s:=s) (i:=i) (by omega);simp;omega
theorem y9d{s:ByteArray}{i:Int}(h:atB s i=46):Q2r s i=(Q85 (Q2d zero4 10 10) 4,i+1,true):=by unfold Q2r;rw[qAb h]
theorem x4r{s:ByteArray}{i:Int}(h:atB s i=91):Q2r s i=rBr s (i+1):=by unfold Q2r;rw[qAa (by omega),qAb h]
theorem y5f{s:ByteArray}{i:Int}(h:atB s i=92):Q2r s i=(Q2d zero4 (Q2k s (i+1)).1 (Q2k s (i+1)).1,(Q2k s (i+1)).2.1,(Q2k s (i+1)).2.2):=by
  unfold Q2r;rw[qAa (by omega),qAa (by omega),qAb h]
theorem y9a{c:Int}(h:Q02 c=true):c≠46/\c≠91/\c≠92/\c≠40/\32<=c:=by
  unfold Q02 Q4l at h;simp at h;omega
theorem y1x{s:ByteArray}{i:Int}(h:Q02 (atB s i)=true):Q2r s i=(Q2d zero4 (atB s i) (atB s i),i+1,true):=by
  obtain⟨h1,h2,h3,_⟩:=y9a h;unfold Q2r;rw[qAa h1,qAa h2,qAa h3,qAa (by simp[h])]
theorem x4s{s:ByteArray}{i:Int}(h1:atB s i≠46)(h2:atB s i≠91)(h3:atB s i≠92)(h:Q02 (atB s i)=false):Q2r s i=(zero4,i,false):=by
  unfold Q2r;rw[qAa h1,qAa h2,qAa h3,qAb h]
abbrev Q8p(r:List Int × Int × Bool):Value:=.tuple #[.agg (Q54 r.1),.int .i64 r.2.1,.bool r.2.2]
theorem y7l(s:ByteArray)(i:Int)(w:World)(hs:s.size<=1000)(h0:0<=i)(h1:i<=2000)(hc:atB s i=46) :
    Calls Tryz.prog 149 #[.string s,.int .i64 i] w fun e w'=>e=.returned (Q8p (Q2r s i))/\Q0a w w':=by
  rw[y9d hc];have c1:(atB s i==46)=true:=by simpa using hc
  have j0:Hid ((Q2d zero4 10 10).length=4):=z1m _ _ _;have HL:Hid ((Q85 (Q2d zero4 10 10) 4).length=4):=z6o _ (z1m _ _ _);clear hc;go_enter Tryz.func149,Tryz.ntmps149
  go_wp2_with (first
    |(go_at_call 97;refine(z0x _ _ _ (by unfold maxLen;omega)).mono ?_;rintro e w'⟨rfl,rfl⟩)
    |(go_at_call 152;refine(z7g _ _ (by omega) (by omega)).mono ?_;rintro e w1⟨rfl,j1⟩;have hz:w.heap.size<w1.heap.size:=(by have:=j1.size;simp at this;omega))
    |(go_at_call 153;refine(x4c _ _ j0.out).mono ?_;rintro e w2⟨rfl,j2⟩)
    |(refine z0e rfl _ _ _ rfl w1 _ _ _ rfl rfl rfl (Q68 _ j0.out) (eq4 rfl (u4 j0.out)) (z1b _) ?_)
    |(refine qAf rfl _ _ rfl w1.heap.size rfl _ _ _ _ (z0a _ _) qBo rfl (Q68 _ j0.out) ?_)
    |(refine qAg rfl _ _ _ rfl w.heap.size _ rfl rfl _ _ (j2.at (z0b (j1.at (z0a _ _) id)) id) (Q68 _ HL.out) (eq4 rfl (u4 HL.out)) (z1b _) ?_))
  refine qAc (z0i rfl _ _ w.heap.size 214 _ (0,0) _ rfl (qAn _ _ _ _ _ _ (j2.at (z0b (j1.at (z0a _ _) id)) id)) qBo rfl (Q68 _ HL.out)) rfl ⟨rfl,?_⟩;exact((((((mRf _ w).alloc _).trans j1).alloc _).trans j2).setRow (by simp) _)
theorem x02(s:ByteArray)(i:Int)(w:World)(hs:s.size<=1000)(h0:0<=i)(h1:i<=2000)(hc:atB s i=91) :
    Calls Tryz.prog 149 #[.string s,.int .i64 i] w fun e w'=>e=.returned (Q8p (Q2r s i))/\Q0a w w':=by
  rw[x4r hc];have j1:=z0r (s:=s) (i:=i) (by omega);have c0:(atB s i==46)=false:=by simp[hc]
  have c1:(atB s i==91)=true:=by simpa using hc
  have HL:Hid ((rBr s (i+1)).1.length=4):=x4p _ _;clear hc;go_enter Tryz.func149,Tryz.ntmps149
  go_wp2_with (first
    |(go_at_call 97;refine(z0x _ _ _ (by unfold maxLen;omega)).mono ?_;rintro e w'⟨rfl,rfl⟩)
    |(go_at_call 154;refine(x01 _ _ _ (by omega) (by omega) (by omega)).mono ?_;rintro e w1⟨rfl,j0⟩)
    |(refine qAg rfl _ _ _ rfl w.heap.size _ rfl rfl _ _ (j0.at (z0a _ _) id) (Q68 _ HL.out) (eq4 rfl (u4 HL.out)) (z1b _) ?_))
  refine qAc (z0i rfl _ _ w.heap.size 214 _ (0,0) _ rfl (qAn _ _ _ _ _ _ (j0.at (z0a _ _) id)) qBo rfl (Q68 _ HL.out)) rfl ⟨rfl,?_⟩;exact((((mRf _ w).alloc _).trans j0).setRow (by simp) _)
theorem y5o(s:ByteArray)(i:Int)(w:World)(hs:s.size<=1000)(h0:0<=i)(h1:i<=2000)(hc:atB s i=92) :
    Calls Tryz.prog 149 #[.string s,.int .i64 i] w fun e w'=>e=.returned (Q8p (Q2r s i))/\Q0a w w':=by
  rw[y5f hc];obtain⟨m1,m2,m3,m4,m5⟩:=z8j s (i+1) (by omega);have c0:(atB s i==46)=false:=by simp[hc]
  have c2:(atB s i==91)=false:=by simp[hc]
  have c1:(atB s i==92)=true:=by simpa using hc
  have HL:Hid ((Q2d zero4 (Q2k s (i+1)).1 (Q2k s (i+1)).1).length=4):=z1m _ _ _;clear hc m5;go_enter Tryz.func149,Tryz.ntmps149
  go_wp2_with (first
    |(go_at_call 97;refine(z0x _ _ _ (by unfold maxLen;omega)).mono ?_;rintro e w'⟨rfl,rfl⟩)
    |(go_at_call 155;refine(z70 _ _ _ (by omega) (by omega) (by omega)).mono ?_;rintro e w'⟨rfl,rfl⟩)
    |(go_at_call 152;refine(z7g _ _ (by omega) (by omega)).mono ?_;rintro e w1⟨rfl,j0⟩)
    |(refine qAg rfl _ _ _ rfl w.heap.size _ rfl rfl _ _ (j0.at (z0a _ _) id) (Q68 _ HL.out) (eq4 rfl (u4 HL.out)) (z1b _) ?_))
  refine qAc (z0i rfl _ _ w.heap.size 214 _ (0,0) _ rfl (qAn _ _ _ _ _ _ (j0.at (z0a _ _) id)) qBo rfl (Q68 _ HL.out)) rfl ⟨rfl,?_⟩;exact((((mRf _ w).alloc _).trans j0).setRow (by simp) _)
theorem y26(s:ByteArray)(i:Int)(w:World)(hs:s.size<=1000)(h0:0<=i)(h1:i<=2000)(hc:Q02 (atB s i)=true) :
    Calls Tryz.prog 149 #[.string s,.int .i64 i] w fun e w'=>e=.returned (Q8p (Q2r s i))/\Q0a w w':=by
  rw[y1x hc];obtain⟨p1,p2,p3,p4,p5⟩:=y9a hc;obtain⟨b1,b2⟩:=z8p s i;have c0:(atB s i==46)=false:=by simpa using p1
  have c2:(atB s i==91)=false:=by simpa using p2
  have c1:(atB s i==92)=false:=by simpa using p3
  have HL:Hid ((Q2d zero4 (atB s i) (atB s i)).length=4):=z1m _ _ _;clear p1 p2 p3 p4;go_enter Tryz.func149,Tryz.ntmps149
  go_wp2_with (first
    |(go_at_call 97;refine(z0x _ _ _ (by unfold maxLen;omega)).mono ?_;rintro e w'⟨rfl,rfl⟩)
    |(go_at_call 147;refine(z51 _ _).mono ?_;rintro e w'⟨rfl,rfl⟩)
    |(go_at_call 152;refine(z7g _ _ (by omega) (by omega)).mono ?_;rintro e w1⟨rfl,j0⟩)
    |(refine qAg rfl _ _ _ rfl w.heap.size _ rfl rfl _ _ (j0.at (z0a _ _) id) (Q68 _ HL.out) (eq4 rfl (u4 HL.out)) (z1b _) ?_))
  refine qAc (z0i rfl _ _ w.heap.size 214 _ (0,0) _ rfl (qAn _ _ _ _ _ _ (j0.at (z0a _ _) id)) qBo rfl (Q68 _ HL.out)) rfl ⟨rfl,?_⟩;exact((((mRf _ w).alloc _).trans j0).setRow (by simp) _)
theorem x03(s:ByteArray)(i:Int)(w:World)(hs:s.size<=1000)(h0:0<=i)(h1:i<=2000)(p1:atB s i≠46)(p2:atB s i≠91)(p3:atB s i≠92)(hc:Q02 (atB s i)=false) :
    Calls Tryz.prog 149 #[.string s,.int .i64 i] w fun e w'=>e=.returned (Q8p (Q2r s i))/\Q0a w w':=by
  rw[x4s p1 p2 p3 hc];have c0:(atB s i==46)=false:=by simpa using p1
  have c2:(atB s i==91)=false:=by simpa using p2
  have c1:(atB s i==92)=false:=by simpa using p3
  clear p1 p2 p3;go_enter Tryz.func149,Tryz.ntmps149
  go_wp2_with (first
    |(go_at_call 97;refine(z0x _ _ _ (by unfold maxLen;omega)).mono ?_;rintro e w'⟨rfl,rfl⟩)
    |(go_at_call 147;refine(z51 _ _).mono ?_;rintro e w'⟨rfl,rfl⟩)
    |(refine qAg rfl _ _ _ rfl _ (Q54 zero4) rfl rfl _ _ (z0a _ _) Q9l rfl (z1b _) ?_))
  refine qAc (z0i rfl _ _ _ 214 (Q54 zero4) (0,0) _ rfl (qAn _ _ _ _ _ _ (z0a _ _)) qBo rfl Q9l) rfl ⟨rfl,?_⟩;exact((mRf _ _).alloc _).setRow (by simp) _
theorem z96(s:ByteArray)(i:Int)(w:World)(hs:s.size<=1000)(h0:0<=i)(h1:i<=2000) :
    Calls Tryz.prog 149 #[.string s,.int .i64 i] w fun e w'=>e=.returned (Q8p (Q2r s i))/\Q0a w w':=by
  by_cases a1:atB s i=46
  · exact y7l s i w hs h0 h1 a1
  by_cases a2:atB s i=91
  · exact x02 s i w hs h0 h1 a2
  by_cases a3:atB s i=92
  · exact y5o s i w hs h0 h1 a3
  cases a4:Q02 (atB s i)
  · exact x03 s i w hs h0 h1 a1 a2 a3 a4
  exact y26 s i w hs h0 h1 a4
def Q5y(ws:List Int)(c:Nat):Bool:=bits BinOp.and IntKind.u64 (ws[c / 64]?.getD 0 / 2 ^ (c % 64)) 1==1
theorem x25(ws:List Int)(c:Nat)(w:World)(hl:ws.length=4)(h1:c<=255) :
    Calls Tryz.prog 119 #[.agg (Q54 ws),.int .u8 c] w fun e w'=>e=.returned (.bool (Q5y ws c))/\Q0a w w':=by
  obtain⟨a,b,c1,d,j0⟩:=four hl;have HW:Hid (ws=[a,b,c1,d]):=j0;have e1:Q54 ws=#[.int .u64 a,.int .u64 b,.int .u64 c1,.int .u64 d]:=by rw[j0];rfl
  have j1:[Value.int .u64 a,.int .u64 b,.int .u64 c1,.int .u64 d][c / 64]? = some (.int .u64 (ws.getD (c / 64) 0)):=by
    have:=y7t ws (c / 64) (by omega);rw[e1]at this;simpa using this
  rw[e1];clear j0 e1 hl;go_enter Tryz.func119,Tryz.ntmps119
  go_wp2;go_ret;exact⟨rfl,(mRf _ _).alloc _⟩
end Go.Proofs.YtbdpfmalabgmbaaGreat
