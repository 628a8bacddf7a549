import Derived.Test.YtcpceafmlgaodaaGreatChecked
import Derived.WalkKit
import Derived.WalkSpells
import Derived.WalkLawsBesides
import Derived.Deep.WholeRow
import Derived.Deep.MidRow
namespace Go.Proofs.YtcpceafmlgaodaaGreat
open Go.RowKit
set_option maxRecDepth 99999
set_option maxHeartbeats 0
set_option linter.all false
def qAa:=@if_neg
def qAb:=@if_pos
def qAc:=@Bool.and_eq_true
def qAd:=@List.mem_of_getElem?
def qAe:=@List.getElem?_append_left
def qAf:=@List.length_singleton
def qAg:=@List.getElem?_append_right
def qAh:=@List.append_assoc
def qAi:=@List.drop_eq_nil_of_le
def qAj:=@List.filter_cons
def qAk:=@Bool.or_eq_true
def qAl:=@Int.toNat_natCast
def qAm:=@decide_eq_true_eq
def qAn:=@List.all_eq_true
def qAo:=@List.length_map
def qAp:=@if_false
def qAq:=@List.any_eq_true
def qAr:=@List.take_length
def qAs:=@Bool.eq_iff_iff
def qAt:=@List.append_nil
def qAu:=@List.cons.injEq
def qAv:=@List.getElem_of_mem
def qAw:=@List.cons_append
def qAx:=@beq_iff_eq
def qAy:=@List.length_cons
def qAz:=@ByteArray.size_extract
def qBa:=@Bool.true_and
def qBb:=@if_true
def qBc:=@List.mem_cons
def qBd:=@List.length_set
def qBe:=@List.getElem?_map
def qBf:=@List.map_append
def qBg:=@Nat.zero_le
def qBh:=@decide_eq_false
def qBi:=@Nat.zero_add
def qBj:=@List.mem_append
def qBk:=@Nat.lt_irrefl
def qBl:=@decide_eq_true
def qBm:=@Bool.or_eq_false_iff
def qBn:=@Nat.lt_or_ge
def qBo:=@List.length_take
def qBp:=@List.mem_map
def qBq:=@List.nil_append
def qBr:=@decide_eq_false_iff_not
def qBs:=@List.eq_nil_of_length_eq_zero
def qBt:=@List.getElem_map
def qBu:=@List.filter_append
def qBv:=@Nat.mul_le_mul_right
def qBw:=@List.drop_length
def qBx:=@List.length_drop
def qBy:=@List.getElem?_set
def qBz:=@List.getElem?_cons_zero
def qCa:=@Array.all_eq_true_iff_forall_mem
def qCb:=@List.getElem?_toArray
def qCc:=@List.take_add_one
def qCd:=@Nat.le_trans
def qCe:=@Bool.true_eq_false
def qCf:=@List.map_singleton
def qCg:=@List.getElem?_take_of_lt
def qCh:=@List.take_of_length_le
def qCi:=@Bool.false_and
def qCj:=@Bool.false_or
def qCk:=@Bool.or_false
def qCl:=@List.map_cons
def qCm:=@Nat.add_assoc
def qCn:=@Option.bind_some
def qCo:=@List.getD_cons_zero
def qCp:=@List.all_cons
def qCq:=@List.getElem?_drop
def qCr:=@Nat.lt_of_lt_of_le
def qCs:=@Int.add_zero
def qCt:=@List.not_mem_nil
def qCu:=@Nat.sub_self
def qCv:=@List.findIdx_eq_length_of_false
def qCw:=@List.length_filter_le
def qCx:=@List.mem_filter
def qCy:=@List.set_append_right
def qCz:=@Option.map_some
def qDa:=@Option.getD_some
def qDb:=@List.findIdx_getElem
def qDc:=@List.mem_cons_of_mem
def qDd:=@List.getElem?_replicate
def qDe:=@List.drop_zero
def qDf:=@List.ext_getElem?
def qDg:=@List.forIn_cons
def qDh:=@List.getD_cons_succ
def qDi:=@ByteArray.data_extract
def qDj:=@Int.natCast_zero
def qDk:=@Array.ext_getElem?
def qDl:=@Array.getElem?_toList
def qDm:=@Bool.or_true
def qDn:=@congrArg
def qDo:=@List.flatMap_cons
def qDp:=@List.length_nil
def qDq:=@Nat.min_eq_left
def qDr:=@Array.length_toList
def qDs:=@List.length_reverse
def qDt:=@Nat.add_mul
def qDu:=@List.ext_getElem
def qDv:=@Array.getElem?_setIfInBounds
def qDw:=@List.append_of_mem
def qDx:=@Array.extract_extract
def qDy:=@List.map_set
def qDz:=@List.take_append_drop
def qEa:=@Nat.le_of_lt
def qEb:=@ByteArray.ext
def qEc:=@List.findIdx_cons
def qEd:=@List.mem_of_mem_take
def qEe:=@List.mem_or_eq_of_mem_set
def qEf:=@List.take_take
def qEg:=@List.getElem?_range
def qEh:=@List.map_congr_left
def qEi:=@dif_pos
def qEj:=@List.set_eq_of_length_le
def qEk:=@List.all_append
def qEl:=@List.append_cancel_left
def qEm:=@List.getElem?_cons_succ
def qEn:=@List.set_cons_zero
def qEo:=@List.take_add
def qEp:=@dif_neg
def qEq:=@List.findIdx_lt_length_of_exists
theorem qR(n:Nat):n<=n:=Nat.le_refl n
theorem qG{α:Type}{l:List α}{n:Nat}(h:n<l.length):l[n]∈l:=List.getElem_mem h
theorem qU{α:Type}{a:α}{s t:List α}:a∈s++t<->a∈s\/a∈t:=qBj
theorem qM{α:Type}{a b:α}:a∈[b]<->a=b:=List.mem_singleton
theorem qO{α:Type}(a b:α):(some a=some b)=(a=b):=Option.some.injEq a b
theorem qF:(false=true)=False:=Bool.false_eq_true
theorem qI(a:Option Addr)(b c:Nat)(x:Option Addr)(y z:Nat):(Value.slice a b c=Value.slice x y z)=(a=x/\b=y/\c=z):=Value.slice.injEq a b c x y z
theorem qC{α:Type}{l:List α}{i:Nat}(h:i<l.length):l.drop i=l[i]::l.drop (i+1):=List.drop_eq_getElem_cons h
theorem qP{α:Type}{a b:List α}:(a++b).length=a.length+b.length:=List.length_append
theorem qD{α:Type}{l:List α}{i:Nat}{d:α}:l.getD i d=l[i]?.getD d:=List.getD_eq_getElem?_getD
theorem qN{α:Type}{l:List α}{i:Nat}(h:l.length<=i):l[i]?=none:=List.getElem?_eq_none h
theorem qS{α:Type}{l:List α}{i:Nat}{a:α}(h:l[i]?=some a):∃h:i<l.length,l[i]=a:=List.getElem?_eq_some_iff.1 h
theorem qE{α:Type}{l:List α}{i:Nat}(h:i<l.length):l[i]?=some l[i]:=List.getElem?_eq_getElem h
theorem nfoE{P:Program}{t:TypeId}{z:Value}{n b:Nat}(h:(P.info? t).map (fun i=>(i.zero,i.size,i.bytes))=some (some z,n,b)):∃i,P.info? t=some i/\i.zero=some z/\i.size=n/\i.bytes=b:=by
 cases hq:P.info? t with
 |none=>simp[hq]at h
 |some i=>simp[hq]at h;exact⟨i,rfl,h.1,h.2.1,h.2.2⟩
theorem csm{P:Program}{f:FuncId}{a:Array Value}{w:World}{r:Ending}{Q:Ending->World->Prop}(h:Calls P f a w fun e w'=>e=r/\w'=w)(q:Q r w):Calls P f a w Q:=h.mono (by rintro e w'⟨rfl,rfl⟩;exact q)
def atB(s:ByteArray)(i:Int):Int :=
  if h:0<=i/\i.toNat<s.size then((s[i.toNat]'h.2).toNat:Int) else -1
def Q0l(c:Int):Bool:=decide (97<=c)&&decide (c<=122)
def Q1a(c:Int):Bool:=decide (65<=c)&&decide (c<=90)
def Q7i(c:Int):Bool:=decide (48<=c)&&decide (c<=57)
def Q4e(c:Int):Bool:=decide (32<=c)&&decide (c<=126)
def Q01(c:Int):Bool:=!(c==92||c==91||c==93||c==40||c==41||c==124||c==42||c==43||c==63||c==46)&&Q4e c
theorem z1h{k:IntKind}{a b:Int}(h:a=b):Ending.returned (.int k a)=.returned (.int k b):=by rw[h]
theorem z0s{a b:Bool}(h:a=b):Ending.returned (.bool a)=.returned (.bool b):=by rw[h]
theorem w64{n:Int}(h:-9223372036854775808<=n/\n<=9223372036854775807):wrap64 n=n:=by unfold wrap64;omega
theorem z0v(s:ByteArray)(i:Int)(w:World)(hs:s.size<=maxLen) :
    Calls Tryz.prog 107 #[.string s,.int .i64 i] w fun e w'=>e=.returned (.int .i64 (atB s i))/\w'=w:=by
  unfold maxLen at hs;by_cases h0:i<0
  · go_enter Tryz.func107,Tryz.ntmps107
    go_wp2;go_ret;exact⟨z1h (by unfold atB;rw[qEp (by omega)]),rfl⟩
  by_cases h1:i.toNat<s.size
  · obtain⟨k,rfl⟩:∃k:Nat,i=k:=⟨i.toNat,by omega⟩
    have hk:k<s.size:=by simpa using h1
    clear h1;go_enter Tryz.func107,Tryz.ntmps107
    go_wp2;go_ret;exact⟨z1h (by
      have hb:s[k].toNat<256:=s[k].toNat_lt;rw[w64 (by omega)];simp[atB,hk]),rfl⟩
  have h2:(s.size:Int)<=i:=by omega
  go_enter Tryz.func107,Tryz.ntmps107
  go_wp2;go_ret;exact⟨z1h (by unfold atB;rw[qEp (by omega)]),rfl⟩
theorem z3j(c:Int)(w:World) :
    Calls Tryz.prog 117 #[.int .i64 c] w fun e w'=>e=.returned (.bool (Q0l c))/\w'=w:=by
  go_enter Tryz.func117,Tryz.ntmps117
  go_wp2;all_goals (go_ret;exact⟨z0s (by rw[qAs];simp[Q0l];omega),rfl⟩)
theorem z6a(c:Int)(w:World) :
    Calls Tryz.prog 109 #[.int .i64 c] w fun e w'=>e=.returned (.bool (Q1a c))/\w'=w:=by
  go_enter Tryz.func109,Tryz.ntmps109
  go_wp2;all_goals (go_ret;exact⟨z0s (by rw[qAs];simp[Q1a];omega),rfl⟩)
theorem x2u(c:Int)(w:World) :
    Calls Tryz.prog 154 #[.int .i64 c] w fun e w'=>e=.returned (.bool (Q7i c))/\w'=w:=by
  go_enter Tryz.func154,Tryz.ntmps154
  go_wp2;all_goals (go_ret;exact⟨z0s (by rw[qAs];simp[Q7i];omega),rfl⟩)
theorem y12(c:Int)(w:World) :
    Calls Tryz.prog 147 #[.int .i64 c] w fun e w'=>e=.returned (.bool (Q4e c))/\w'=w:=by
  go_enter Tryz.func147,Tryz.ntmps147
  go_wp2;all_goals (go_ret;exact⟨z0s (by rw[qAs];simp[Q4e];omega),rfl⟩)
theorem z5v(c:Int)(w:World) :
    Calls Tryz.prog 143 #[.int .i64 c] w fun e w'=>e=.returned (.bool (Q01 c))/\w'=w:=by
  go_enter Tryz.func143,Tryz.ntmps143
  go_wp2_with (go_at_call 147;refine(y12 _ _).mono ?_;rintro e w'⟨rfl,rfl⟩)
  all_goals (go_ret;exact⟨z0s (by simp_all[Q01]),rfl⟩)
def Q2r(s:ByteArray)(i:Int):Bool :=
  atB s i==40||atB s i==46||atB s i==91||atB s i==92||Q01 (atB s i)
def Q2g(s:ByteArray)(i:Int):Int × Int × Bool :=
  if atB s i=110 then(10,i+1,true)
  else if atB s i=116 then(9,i+1,true)
  else if(!Q4e (atB s i)||Q0l (atB s i)||Q1a (atB s i)||Q7i (atB s i))=true then(0,i,false)
  else(atB s i,i+1,true)
def Q1p(s:ByteArray)(i:Int):Int × Int × Bool :=
  if atB s i=92 then Q2g s (i+1)
  else if atB s i=93∨atB s i=94∨atB s i=45 then(0,i,false)
  else if Q4e (atB s i)=false then(0,i,false)
  else(atB s i,i+1,true)
def Q0m(s:ByteArray)(i:Int):Int × Int × Int × Bool :=
  if(Q1p s i).2.2=false then(0,0,(Q1p s i).2.1,false)
  else if atB s (Q1p s i).2.1≠45 then((Q1p s i).1,(Q1p s i).1,(Q1p s i).2.1,true)
  else if(Q1p s ((Q1p s i).2.1+1)).2.2=false then(0,0,(Q1p s ((Q1p s i).2.1+1)).2.1,false)
  else if(Q1p s ((Q1p s i).2.1+1)).1<(Q1p s i).1 then(0,0,(Q1p s ((Q1p s i).2.1+1)).2.1-1,false)
  else((Q1p s i).1,(Q1p s ((Q1p s i).2.1+1)).1,(Q1p s ((Q1p s i).2.1+1)).2.1,true)
theorem z8f(s:ByteArray)(i:Int):-1<=atB s i/\atB s i<=255:=by
  unfold atB;split
  · rename_i h;have:=(s[i.toNat]'h.2).toNat_lt;omega
  omega
theorem z0q{s:ByteArray}{i:Int}(h:atB s i≠-1):0<=i/\i<s.size:=by
  unfold atB at h;split at h
  · omega
  omega
theorem z79(s:ByteArray)(i:Int)(h:0<=i) :
    0<=(Q2g s i).1/\(Q2g s i).1<=255/\i<=(Q2g s i).2.1/\(Q2g s i).2.1<=i+1/\((Q2g s i).2.2=true->(Q2g s i).2.1=i+1/\i<s.size):=by
  have hb:=z8f s i;unfold Q2g;split
  · have:=z0q (s:=s) (i:=i) (by omega);simp;omega
  split
  · have:=z0q (s:=s) (i:=i) (by omega);simp;omega
  split
  · simp;omega
  rename_i h3;have:atB s i≠-1:=by
    intro h4;simp[Q4e,h4]at h3
  have h5:Q4e (atB s i)=true:=by
    cases h6:Q4e (atB s i)<;>simp[h6]at h3 ⊢
  have h7:32<=atB s i:=by unfold Q4e at h5;simp at h5;omega
  have:=z0q this;simp;omega
theorem z4r(s:ByteArray)(i:Int)(h:0<=i) :
    0<=(Q1p s i).1/\(Q1p s i).1<=255/\i<=(Q1p s i).2.1/\(Q1p s i).2.1<=i+2/\((Q1p s i).2.2=true->i<(Q1p s i).2.1/\(Q1p s i).2.1<=s.size):=by
  have hb:=z8f s i;unfold Q1p;split
  · have h1:=z79 s (i+1) (by omega);have:=z0q (s:=s) (i:=i) (by omega)
    refine⟨h1.1,h1.2.1,by omega,by omega,fun h2=>?_⟩;have:=h1.2.2.2.2 h2;omega
  split
  · simp;omega
  split
  · simp;omega
  rename_i h5;have h7:32<=atB s i:=by unfold Q4e at h5;simp at h5;omega
  have:=z0q (s:=s) (i:=i) (by omega);simp;omega
theorem z6t(s:ByteArray)(i:Int)(w:World)(hs:s.size<=1000) :
    Calls Tryz.prog 136 #[.string s,.int .i64 i] w fun e w'=>e=.returned (.bool (Q2r s i))/\w'=w:=by
  go_enter Tryz.func136,Tryz.ntmps136
  go_wp2_with (first
    |(go_at_call 107;refine(z0v _ _ _ (by unfold maxLen;omega)).mono ?_;rintro e w'⟨rfl,rfl⟩)
    |(go_at_call 143;refine(z5v _ _).mono ?_;rintro e w'⟨rfl,rfl⟩))
  all_goals (go_ret;exact⟨z0s (by simp_all[Q2r]),rfl⟩)
theorem z7s(s:ByteArray)(i:Int)(w:World)(hs:s.size<=1000)(h0:0<=i)(h1:i<=10000) :
    Calls Tryz.prog 151 #[.string s,.int .i64 i] w fun e w'=>e=.returned (.tuple #[.int .i64 (Q2g s i).1,.int .i64 (Q2g s i).2.1,.bool (Q2g s i).2.2])/\w'=w:=by
  go_enter Tryz.func151,Tryz.ntmps151
  go_wp2_with (first
    |(go_at_call 107;refine(z0v _ _ _ (by unfold maxLen;omega)).mono ?_;rintro e w'⟨rfl,rfl⟩)
    |(go_at_call 147;refine(y12 _ _).mono ?_;rintro e w'⟨rfl,rfl⟩)
    |(go_at_call 117;refine(z3j _ _).mono ?_;rintro e w'⟨rfl,rfl⟩)
    |(go_at_call 109;refine(z6a _ _).mono ?_;rintro e w'⟨rfl,rfl⟩)
    |(go_at_call 154;refine(x2u _ _).mono ?_;rintro e w'⟨rfl,rfl⟩))
  all_goals (go_ret3;exact⟨by simp_all[Q2g],rfl⟩)
theorem y61(s:ByteArray)(i:Int)(w:World)(hs:s.size<=1000)(h0:0<=i)(h1:i<=9000) :
    Calls Tryz.prog 156 #[.string s,.int .i64 i] w fun e w'=>e=.returned (.tuple #[.int .i64 (Q1p s i).1,.int .i64 (Q1p s i).2.1,.bool (Q1p s i).2.2])/\w'=w:=by
  go_enter Tryz.func156,Tryz.ntmps156
  go_wp2_with (first
    |(go_at_call 107;refine(z0v _ _ _ (by unfold maxLen;omega)).mono ?_;rintro e w'⟨rfl,rfl⟩)
    |(go_at_call 147;refine(y12 _ _).mono ?_;rintro e w'⟨rfl,rfl⟩)
    |(go_at_call 151;refine(z7s _ _ _ (by omega) (by omega) (by omega)).mono ?_;rintro e w'⟨rfl,rfl⟩))
  all_goals (go_ret3;exact⟨by simp_all[Q1p],rfl⟩)
theorem y49{fn:Func}{t u v x:Tmp}(h:fn.results=#[.tmp t,.tmp u,.tmp v,.tmp x])(tmps:Array Value)(P:Program)(w:World) :
    (results fn tmps).run P w=.ok (.tuple #[tmps.getD t undef,tmps.getD u undef,tmps.getD v undef,tmps.getD x undef]) w:=by
  simp[results,h]
theorem z6h(s:ByteArray)(i:Int)(w:World)(hs:s.size<=1000)(h0:0<=i)(h1:i<=8000) :
    Calls Tryz.prog 155 #[.string s,.int .i64 i] w fun e w'=>e=.returned (.tuple #[.int .i64 (Q0m s i).1,.int .i64 (Q0m s i).2.1,.int .i64 (Q0m s i).2.2.1,.bool (Q0m s i).2.2.2])/\w'=w:=by
  have b1:=z4r s i h0;have b2:=z4r s ((Q1p s i).2.1+1) (by omega);obtain⟨b11,b12,b13,b14,b15⟩:=b1;obtain⟨b21,b22,b23,b24,b25⟩:=b2;go_enter Tryz.func155,Tryz.ntmps155
  go_wp2_with (first
    |(go_at_call 107;refine(z0v _ _ _ (by unfold maxLen;omega)).mono ?_;rintro e w'⟨rfl,rfl⟩)
    |(go_at_call 156;refine(y61 _ _ _ (by omega) (by omega) (by omega)).mono ?_;rintro e w'⟨rfl,rfl⟩))
  all_goals (refine bodyPost_ret (y49 rfl _ _ _) rfl ?_;exact⟨by first|(simp_all[Q0m];done)|(simp_all[Q0m];rw[qAa (by omega)];simp),rfl⟩)
theorem Q0b{w:World}{b:Nat}{c:Array Value}{e:TypeId}{f:Nat × Nat}(h:w.heap[b]? = some (.cells c e f))(o:Nat) :
    w.cell? ⟨b,o,none⟩=c[o]? := by simp[World.cell?,h]
theorem Q0g{w:World}{b:Nat}{c:Array Value}{e:TypeId}(h:w.heap[b]? = some (.cells c e (0,0)))(o:Nat) :
    w.frozen? ⟨b,o,none⟩=false:=by simp[World.frozen?,h]
theorem zhs{w:World}{b:Nat}{c:Array Value}{e:TypeId}{f:Nat × Nat}(h:w.heap[b]? = some (.cells c e f))(o:Nat)(v:Value) :
    (w.setCell ⟨b,o,none⟩ v).heap[b]? = some (.cells (c.setIfInBounds o v) e f):=by
  have hb:=(Array.getElem?_eq_some_iff.1 h).1;simp only[World.setCell,Array.getElem?_modify];simp[h]
theorem heap_setCell_other{w:World}{k:Nat}{a:Addr}(v:Value)(h:k≠a.block) :
    (w.setCell a v).heap[k]? = w.heap[k]? := Below.heap_setCell w a v k h
theorem heap_setCell_size(w:World)(a:Addr)(v:Value):(w.setCell a v).heap.size=w.heap.size:=by simp[World.setCell]
theorem z0w{w:World}{o:Obj}{k:Nat}(h:k<w.heap.size):(w.alloc o).heap[k]? = w.heap[k]? := Below.heap_alloc w o k h
theorem z0a(w:World)(o:Obj):(w.alloc o).heap[w.heap.size]? = some o:=heap_alloc_new w o
theorem z0j{w:World}{b:Nat}{o:Obj}(h:w.heap[b]? = some o):b<w.heap.size:=(Array.getElem?_eq_some_iff.1 h).1
structure Mod(S:Nat->Prop)(w w':World):Prop where
  os:w'.os=w.os
  tape:w'.tape=w.tape
  output:w'.output=w.output
  size:w.heap.size<=w'.heap.size
  block:∀k,k<w.heap.size->¬S k->w'.heap[k]? = w.heap[k]?
theorem mRf(S:Nat->Prop)(w:World):Mod S w w:=⟨rfl,rfl,rfl,qR _,fun _ _ _=>rfl⟩
theorem Mod.trans{S:Nat->Prop}{a b c:World}(h:Mod S a b)(k:Mod S b c):Mod S a c :=
  ⟨k.os.trans h.os,k.tape.trans h.tape,k.output.trans h.output,qCd h.size k.size,
   fun i hi hs=>(k.block i (qCr hi h.size) hs).trans (h.block i hi hs)⟩
theorem Mod.trans'{S T:Nat->Prop}{a b c:World}(h:Mod S a b)(k:Mod T b c)(hT:∀i,i<a.heap.size->T i->S i):Mod S a c :=
  ⟨k.os.trans h.os,k.tape.trans h.tape,k.output.trans h.output,qCd h.size k.size,
   fun i hi hs=>(k.block i (qCr hi h.size) (fun ht=>hs (hT i hi ht))).trans (h.block i hi hs)⟩
theorem Mod.mono{S T:Nat->Prop}{w w':World}(h:Mod S w w')(hS:∀i,i<w.heap.size->S i->T i):Mod T w w' :=
  ⟨h.os,h.tape,h.output,h.size,fun i hi ht=>h.block i hi (fun hs=>ht (hS i hi hs))⟩
theorem Mod.alloc{S:Nat->Prop}{a w:World}(h:Mod S a w)(o:Obj):Mod S a (w.alloc o) :=
  h.trans ⟨rfl,rfl,rfl,by simp,fun _ hk _=>z0w hk⟩
theorem Mod.setCell{S:Nat->Prop}{a w:World}(h:Mod S a w){p:Addr}(hp:p.block<a.heap.size->S p.block)(u:Value):Mod S a (w.setCell p u) :=
  ⟨h.os,h.tape,h.output,by simp[World.setCell];exact h.size,fun k hk hs=>by
    rw[heap_setCell_other u (by intro e;subst e;exact hs (hp hk))];exact h.block k hk hs⟩
theorem Mod.setRow{S:Nat->Prop}{a w:World}(h:Mod S a w){g:Nat}(hp:g<a.heap.size->S g)(cs:Array Value):Mod S a (w.setRow g cs) :=
  ⟨h.os,h.tape,h.output,by simp;exact h.size,fun k hk hs=>by
    rw[setRow_other _ _ _ _ (by intro e;subst e;exact hs (hp hk))];exact h.block k hk hs⟩
theorem Mod.below{w w':World}(h:Mod (fun _=>False) w w'):Below w.heap.size w w' :=
  ⟨h.os,h.tape,h.output,h.size,fun k hk=>h.block k hk (fun x=>x)⟩
theorem Mod.grown{S:Nat->Prop}{a w w':World}{row:Option Nat}(h:Mod S a w)(hg:w.grownBy w' row)(hr:∀k,row=some k->k<a.heap.size->S k):Mod S a w' :=
  ⟨hg.os.trans h.os,hg.tape.trans h.tape,hg.output.trans h.output,qCd h.size hg.size,fun k hk hs =>
    (hg.block k (qCr hk h.size) (fun e=>hs (hr k e.symm hk))).trans (h.block k hk hs)⟩
theorem Mod.drew{S:Nat->Prop}{a w:World}(h:Mod S a w):Mod S a w.drew:=⟨h.os,h.tape,h.output,h.size,h.block⟩
theorem Mod.at{S:Nat->Prop}{w w':World}(h:Mod S w w'){b:Nat}{o:Obj}(hb:w.heap[b]? = some o)(hs:¬S b):w'.heap[b]? = some o :=
  (h.block b (z0j hb) hs).trans hb
theorem z0h{P:Program}{fn:Func}{p u v:Tmp}{ty:TypeId}(h:fn.results=#[.cell p ty,.tmp u,.tmp v])(tmps:Array Value)(w:World)(g:Nat)(t:TypeId)(cs:Array Value)(fr:Nat × Nat)(d:TypeDesc)
    (hp:tmps.getD p undef=.pointer (some ⟨g,0,none⟩)) (hg:w.heap[g]? = some (.cells cs t fr))
    (hu:P.underlying ty=some d) (hd:(match d with | .struct _ | .array _ _=>true|_=>false)=true) (hi:(P.info? ty).map (·.size)=some cs.size) :
    (results fn tmps).run P w=.ok (.tuple #[.agg cs,tmps.getD u undef,tmps.getD v undef]) w:=by
  have j0:tmps[p]?.getD undef=.pointer (some ⟨g,0,none⟩):=by simpa using hp
  simp[results,h,j0,asAddr,run_loadVar_row w g t ty cs fr d hg hu hd hi]
abbrev Q0a:World->World->Prop:=Mod (fun _=>False)
def Q5u(ws:List Int):Array Value:=(ws.map (Value.int .u64)).toArray
theorem y7b(ws:List Int)(i:Nat)(h:i<ws.length):(Q5u ws)[i]? = some (.int .u64 (ws.getD i 0)):=by
  simp[Q5u,h]
def Q8c(ws:List Int)(x:Int):List Int :=
  ws.set (x / 64).toNat (bits BinOp.or IntKind.u64 (ws[(x / 64).toNat]?.getD 0) (IntKind.u64.wrap (2 ^ (x % 64).toNat)))
def Q62(ws:List Int)(low:Int):Nat->List Int
  |0=>ws
  |n+1=>Q8c (Q62 ws low n) (low+n)
def Q19(ws:List Int)(low high:Int):List Int:=Q62 ws low (high+1-low).toNat
theorem y5j(ws:List Int)(low:Int)(n:Nat):(Q62 ws low n).length=ws.length:=by
  induction n with
  |zero=>rfl
  |succ n ih=>simp[Q62,Q8c,ih]
theorem y85(ws:List Int)(i:Nat)(v:Int):(Q5u ws).setIfInBounds i (.int .u64 v)=Q5u (ws.set i v):=by
  simp[Q5u,qDy]
theorem four{ws:List Int}(h:ws.length=4):∃a b c d,ws=[a,b,c,d]:=by
  match ws,h with
  | [a,b,c,d],_=>exact⟨a,b,c,d,rfl⟩
theorem y88(ws:List Int)(low high:Int)(w:World)(hl:ws.length=4)(h0:0<=low)(h1:low<=255)(h2:0<=high)(h3:high<=255) :
    Calls Tryz.prog 152 #[.agg (Q5u ws),.int .i64 low,.int .i64 high] w fun e w'=>e=.returned (.agg (Q5u (Q19 ws low high)))/\Q0a w w':=by
  obtain⟨a,b,c,d,hws⟩:=four hl;have HW:Hid (ws=[a,b,c,d]):=hws;have e1:Q5u ws=#[.int .u64 a,.int .u64 b,.int .u64 c,.int .u64 d]:=by rw[hws];rfl
  rw[e1];clear hws e1;go_enter Tryz.func152,Tryz.ntmps152
  go_wp2;go_loopw [7] (fun i wr=>∃n:Nat,i=.int .i64 (low+n)/\low+n<=256/\(n=0∨low+n<=high+1) /\
      wr.heap[w.heap.size]? = some (.cells (Q5u (Q62 ws low n)) 204 (0,0)) /\
      wr.heap[w.heap.size+1]? = some (.cells #[.int .u64 0,.int .u64 0,.int .u64 0,.int .u64 0] 204 (0,0))/\Q0a w wr)
      (fun i _=>256-(intOf i).toNat)
  case atStart =>
    refine⟨0,by simp,by omega,by omega,?_,heap_alloc2_new _ _ _,((mRf _ _).alloc _).alloc _⟩;rw[heap_alloc2_old];simp only[Q62];rw[HW.out];rfl
  obtain⟨n,rfl,hx1,hx2,hb0,hb1,hf⟩:=hrel;have j1:=y5j ws low n;by_cases hx:low+n<=high
  · have hc:wr.cell? ⟨w.heap.size,((low+n) / 64).toNat,none⟩=some (.int .u64 ((Q62 ws low n).getD ((low+n) / 64).toNat 0)):=by rw[Q0b hb0,y7b _ _ (by omega)]
    have hz:=Q0g hb0;have j2:Hid _:=hb0;have j0:Hid _:=hb1;clear hb0 hb1 j1 hl;go_wp2;go_roundw
    case rel =>
      refine⟨n+1,by go_num,by omega,by omega,?_,?_,hf.setCell (by simp) _⟩
      · rw[zhs j2.out,y85];rfl
      rw[Proofs.YtcpceafmlgaodaaGreat.heap_setCell_other _ (by simp)];exact j0.out
    simp[intOf];omega
  obtain⟨a',b',c',d',e'⟩:=four (ws:=Q62 ws low n) (by omega);have hn:(high+1-low).toNat=n:=by omega
  have e2:Q19 ws low high=[a',b',c',d']:=by rw[← e'];unfold Q19;rw[hn]
  rw[e']at hb0;simp only[Q5u,List.map]at hb0;have hc:=fun o=>Q0b hb0 o;have hz:=Q0g hb0;have j3:=fun o=>Q0b hb1 o;have j4:=Q0g hb1;have j0:Hid _:=hb1;have E2:Hid _:=e2;clear hb0 hb1 j1 hl e' hn e2;go_wp2;refine bodyPost_ret (results_cell_row rfl _ _ (w.heap.size+1) 204 #[.int .u64 a',.int .u64 b',.int .u64 c',.int .u64 d'] (0,0) _ rfl ?_ Tryz.underlying204 rfl (by kernel_rfl)) rfl ⟨?_,?_⟩
  · rw[zhs (zhs (zhs (zhs j0.out _ _) _ _) _ _) _ _];rfl
  · rw[E2.out];rfl
  exact(((hf.setCell (by simp) _).setCell (by simp) _).setCell (by simp) _).setCell (by simp) _
theorem Q84:(Tryz.prog.info? 204).map (·.size)=some 4:=by kernel_rfl
theorem z12(ws:List Int):(Q5u ws).size=ws.length:=by simp[Q5u]
theorem z1a(ws:List Int):(Q5u ws).all (·.oneCell')=true:=by
  rw[qCa];intro v hv;simp[Q5u]at hv;obtain⟨a,_,rfl⟩:=hv;rfl
theorem z1k(ws:List Int)(low high:Int):(Q19 ws low high).length=ws.length:=y5j _ _ _
theorem z67(c:Int)(w:World)(h0:0<=c)(h1:c<=255) :
    Calls Tryz.prog 148 #[.int .i64 c] w fun e w'=>e=.returned (.agg (Q5u (Q19 [0,0,0,0] c c)))/\Q0a w w':=by
  have sz:(Tryz.prog.info? 204).map (·.size)=some (Q5u (Q19 [0,0,0,0] c c)).size:=by rw[z12,z1k];exact Q84
  have SZ:Hid _:=sz;clear sz;go_enter Tryz.func148,Tryz.ntmps148
  go_wp2_with (first
    |(go_at_call 152;refine(y88 [0,0,0,0] _ _ _ rfl (by omega) (by omega) (by omega) (by omega)).mono ?_;rintro e w'⟨rfl,hf⟩)
    |(refine wpList_store_row rfl _ _ _ rfl w.heap.size _ rfl rfl _ _ (hf.at (z0a _ _) (fun x=>x)) SZ.out ?_ (z1a _) ?_))
  case refine_1=>rw[z12,z1k];rfl
  go_wp2;refine bodyPost_ret (results_cell_row rfl _ _ w.heap.size 204 _ (0,0) _ rfl (setRow_heap _ _ _ _ _ _ (hf.at (z0a _ _) (fun x=>x))) Tryz.underlying204 rfl SZ.out) rfl ⟨rfl,?_⟩;exact(((mRf _ w).alloc _).trans hf).setRow (by simp) _
def Q7g(v:Int):Int:=bits BinOp.xor IntKind.u64 (if IntKind.u64.signed=true then -1 else IntKind.u64.max) v
def Q8p(ws:List Int):Nat->List Int
  |0=>ws
  |n+1=>(Q8p ws n).set n (Q7g ((Q8p ws n)[n]?.getD 0))
theorem y8l(ws:List Int)(n:Nat):(Q8p ws n).length=ws.length:=by
  induction n with
  |zero=>rfl
  |succ n ih=>simp[Q8p,ih]
theorem x3t(ws:List Int)(w:World)(hl:ws.length=4) :
    Calls Tryz.prog 149 #[.agg (Q5u ws)] w fun e w'=>e=.returned (.agg (Q5u (Q8p ws 4)))/\Q0a w w':=by
  obtain⟨a,b,c,d,hws⟩:=four hl;have HW:Hid (ws=[a,b,c,d]):=hws;have e1:Q5u ws=#[.int .u64 a,.int .u64 b,.int .u64 c,.int .u64 d]:=by rw[hws];rfl
  rw[e1];clear hws e1;go_enter Tryz.func149,Tryz.ntmps149
  go_wp2;go_loopw [4] (fun i wr=>∃n:Nat,i=.int .i64 n/\n<=4 /\
      wr.heap[w.heap.size]? = some (.cells (Q5u (Q8p ws n)) 204 (0,0)) /\
      wr.heap[w.heap.size+1]? = some (.cells #[.int .u64 0,.int .u64 0,.int .u64 0,.int .u64 0] 204 (0,0))/\Q0a w wr)
      (fun i _=>4-(intOf i).toNat)
  case atStart =>
    refine⟨0,by simp,by omega,?_,heap_alloc2_new _ _ _,((mRf _ _).alloc _).alloc _⟩;rw[heap_alloc2_old];simp only[Q8p];rw[HW.out];rfl
  obtain⟨n,rfl,hn,hb0,hb1,hf⟩:=hrel;have j1:=y8l ws n;by_cases hx:n<4
  · have hc:wr.cell? ⟨w.heap.size,n,none⟩=some (.int .u64 ((Q8p ws n).getD n 0)):=by rw[Q0b hb0,y7b _ _ (by omega)]
    have hz:=Q0g hb0;have j2:Hid _:=hb0;have j0:Hid _:=hb1;clear hb0 hb1 j1 hl;go_wp2;go_roundw
    case rel =>
      refine⟨n+1,by go_num,by omega,?_,?_,hf.setCell (by simp) _⟩
      · rw[zhs j2.out,y85];rfl
      rw[Proofs.YtcpceafmlgaodaaGreat.heap_setCell_other _ (by simp)];exact j0.out
    simp[intOf];omega
  have j4:n=4:=by omega
  subst j4;have sz:(Tryz.prog.info? 204).map (·.size)=some (Q5u (Q8p ws 4)).size:=by rw[z12,j1,hl];exact Q84
  have SZ:Hid _:=sz;clear sz;have j2:Hid _:=hb0;have j0:Hid _:=hb1;have HL:Hid _:=hl;have j3:Hid _:=j1;clear hb0 hb1 j1 hl;go_wp2_with (first
    |(refine wpList_load_row rfl _ _ rfl w.heap.size rfl _ _ _ _ j2.out Tryz.underlying204 rfl SZ.out ?_)
    |(refine wpList_store_row rfl _ _ _ rfl (w.heap.size+1) _ rfl rfl _ _ j0.out SZ.out ?hs (z1a _) ?_))
  case hs=>rw[z12,j3.out,HL.out];rfl
  go_wp2;refine bodyPost_ret (results_cell_row rfl _ _ (w.heap.size+1) 204 _ (0,0) _ rfl (setRow_heap _ _ _ _ _ _ j0.out) Tryz.underlying204 rfl SZ.out) rfl ⟨rfl,?_⟩;exact hf.setRow (by simp) _
def zero4:List Int:=[0,0,0,0]
def Q05(s:ByteArray)(i:Int):Nat->Int->List Int->List Int × Int × Bool
  |0,next,ws=>(ws,next,false)
  |f+1,next,ws =>
    if next=i∨atB s next≠93 then
      if(Q0m s next).2.2.2=false then(zero4,(Q0m s next).2.2.1,false)
      else Q05 s i f (Q0m s next).2.2.1 (Q19 ws (Q0m s next).1 (Q0m s next).2.1)
    else(ws,next+1,true)
def Q29(s:ByteArray)(i:Int):List Int × Int × Bool:=Q05 s i (s.size+5) i zero4
theorem z1j(s:ByteArray)(i:Int)(h:0<=i) :
    0<=(Q0m s i).1/\(Q0m s i).1<=255/\0<=(Q0m s i).2.1/\(Q0m s i).2.1<=255/\i<=(Q0m s i).2.2.1/\(Q0m s i).2.2.1<=i+5 /\
    ((Q0m s i).2.2.2=true->i<(Q0m s i).2.2.1/\(Q0m s i).2.2.1<=s.size):=by
  obtain⟨a1,a2,a3,a4,a5⟩:=z4r s i h;obtain⟨b1,b2,b3,b4,b5⟩:=z4r s ((Q1p s i).2.1+1) (by omega);unfold Q0m;split
  · simp;omega
  rename_i h1;have a6:=a5 (by simpa using h1);split
  · simp;omega
  split
  · simp;omega
  rename_i h2;have b6:=b5 (by simpa using h2);split
  · simp;omega
  simp;omega
theorem y09(s:ByteArray)(i:Int):∀(f:Nat) (next:Int) (ws:List Int),ws.length=4->(Q05 s i f next ws).1.length=4
  |0,_,_,h=>h
  |f+1,next,ws,h=>by
    unfold Q05;split
    · split
      · rfl
      exact y09 s i f _ _ (by rw[z1k];exact h)
    exact h
theorem z46(s:ByteArray)(i:Int):(Q29 s i).1.length=4:=y09 s i _ _ _ rfl
theorem Q6w(ws:List Int)(h:ws.length=4):(Tryz.prog.info? 204).map (·.size)=some (Q5u ws).size:=by rw[z12,h];exact Q84
theorem z7r(s:ByteArray)(i:Int)(w:World)(hs:s.size<=1000)(h0:0<=i)(h1:i<=s.size+1) :
    Calls Tryz.prog 153 #[.string s,.int .i64 i] w fun e w'=>e=.returned (.tuple #[.agg (Q5u (Q29 s i).1),.int .i64 (Q29 s i).2.1,.bool (Q29 s i).2.2])/\Q0a w w':=by
  go_enter Tryz.func153,Tryz.ntmps153
  go_wp2;go_loopw [8] (fun v wr=>∃(f:Nat) (next:Int) (ws:List Int),v=.int .i64 next/\Q05 s i f next ws=Q29 s i/\ws.length=4/\i<=next/\next<=s.size+1/\(s.size:Int)+5<=f+next /\
      wr.heap[w.heap.size]? = some (.cells (Q5u zero4) 204 (0,0)) /\
      wr.heap[w.heap.size+1]? = some (.cells (Q5u ws) 204 (0,0))/\Q0a w wr)
      (fun i _=>s.size+5-(intOf i).toNat)
  case atStart =>
    exact⟨s.size+5,i,zero4,rfl,rfl,rfl,by omega,by omega,by omega,heap_alloc2_old _ _ _,heap_alloc2_new _ _ _,((mRf _ _).alloc _).alloc _⟩
  obtain⟨f,next,ws,rfl,hR,hl,hn0,hn1,hfu,hb0,hb1,hf⟩:=hrel;obtain⟨f,rfl⟩:∃g,f=g+1:=⟨f-1,by omega⟩;unfold Q05 at hR;obtain⟨r1,r2,r3,r4,r5,r6,r7⟩:=z1j s next (by omega)
  have j1:Hid _:=hb0;have j2:Hid _:=hb1;clear hb0 hb1;by_cases hc:next=i∨atB s next≠93
  · rw[qAb hc]at hR
    have j0:(next==i)=true∨(next==i)=false/\(atB s next != 93)=true:=by
      by_cases h:next=i
      · left;simpa using h
      right;exact⟨by simpa using h,by simp;omega⟩
    by_cases hok:(Q0m s next).2.2.2=false
    · rw[qAb hok]at hR
      have HR:Hid _:=hR;have j3:(!(Q0m s next).2.2.2)=true:=by simp[hok]
      clear hR hok r7 hc;rcases j0 with j0|⟨j0,hc''⟩;all_goals
        go_wp2_with (first
          |(go_at_call 107;refine(z0v _ _ _ (by unfold maxLen;omega)).mono ?_;rintro e w'⟨rfl,rfl⟩)
          |(go_at_call 155;refine(z6h _ _ _ (by omega) (by omega) (by omega)).mono ?_;rintro e w'⟨rfl,rfl⟩)
          |(refine wpList_store_row rfl _ _ _ rfl w.heap.size (Q5u zero4) rfl rfl _ _ j1.out Q84 rfl (z1a _) ?_))
        refine bodyPost_ret (z0h rfl _ _ w.heap.size 204 _ (0,0) _ rfl (setRow_heap _ _ _ _ _ _ j1.out) Tryz.underlying204 rfl Q84) rfl ⟨?_,hf.setRow (by simp) _⟩;rw[← HR.out];rfl
    rw[qAa hok]at hR;have r8:=r7 (by simpa using hok);have HR:Hid _:=hR;have j3:(!(Q0m s next).2.2.2)=false:=by simpa using hok
    have HL:Hid _:=hl;clear hR hok r7 hc hl;rcases j0 with j0|⟨j0,hc''⟩;all_goals
      go_wp2_with (first
        |(go_at_call 107;refine(z0v _ _ _ (by unfold maxLen;omega)).mono ?_;rintro e w'⟨rfl,rfl⟩)
        |(go_at_call 155;refine(z6h _ _ _ (by omega) (by omega) (by omega)).mono ?_;rintro e w'⟨rfl,rfl⟩)
        |(go_at_call 152;refine(y88 ws _ _ _ HL.out (by omega) (by omega) (by omega) (by omega)).mono ?_;rintro e w1⟨rfl,hf1⟩)
        |(refine wpList_load_row rfl _ _ rfl (w.heap.size+1) rfl _ _ _ _ j2.out Tryz.underlying204 rfl (Q6w _ HL.out) ?_)
        |(refine wpList_store_row rfl _ _ _ rfl (w.heap.size+1) _ rfl rfl _ _ (hf1.at j2.out (fun x=>x)) (Q6w _ (by rw[z1k];exact HL.out)) (by rw[z12,z12,z1k]) (z1a _) ?_))
      go_roundw
      case rel =>
        refine⟨f,_,_,rfl,HR.out,by rw[z1k];exact HL.out,by omega,by omega,by omega,?_,?_,?_⟩
        · rw[setRow_other _ _ _ _ (by omega)];exact hf1.at j1.out (fun x=>x)
        · exact setRow_heap _ _ _ _ _ _ (hf1.at j2.out (fun x=>x))
        exact(hf.trans hf1).setRow (by simp) _
      simp[intOf];omega
  rw[qAa hc]at hR;have j4:(next==i)=false:=by simp;omega
  have j5:(atB s next != 93)=false:=by simp;omega
  have HR:Hid _:=hR;have HL:Hid _:=hl;clear hR hc hl;go_wp2_with (first
    |(go_at_call 107;refine(z0v _ _ _ (by unfold maxLen;omega)).mono ?_;rintro e w'⟨rfl,rfl⟩)
    |(refine wpList_load_row rfl _ _ rfl (w.heap.size+1) rfl _ _ _ _ j2.out Tryz.underlying204 rfl (Q6w _ HL.out) ?_)
    |(refine wpList_store_row rfl _ _ _ rfl w.heap.size _ rfl rfl _ _ j1.out (Q6w _ HL.out) (by rw[z12,z12,HL.out];rfl) (z1a _) ?_))
  refine bodyPost_ret (z0h rfl _ _ w.heap.size 204 _ (0,0) _ rfl (setRow_heap _ _ _ _ _ _ j1.out) Tryz.underlying204 rfl (Q6w _ HL.out)) rfl ⟨?_,hf.setRow (by simp) _⟩;rw[← HR.out];rfl
theorem z0e{P:Program}{ops:Array Oper}{rest:List Oper}{o:Oper}{a:Act}{w:World}{Q:Exit->Act->World->Prop}(hgd:o.guard=none)(ty:TypeId)(x y:Operand)(ho:o.op=.store ty x y)
    (W:World) (c cells:Array Value) (t:TypeId) (hw:w=W.alloc (.cells c t)) (hx:a.eval x=.pointer (some ⟨W.heap.size,0,none⟩)) (hy:a.eval y=.agg cells)
    (hi:(P.info? ty).map (·.size)=some cells.size) (hold:c.size=cells.size) (h1:cells.all (·.oneCell')=true)
    (h:wpList P ops Q rest (a.put o.dst undef) (W.alloc (.cells cells t))):wpList P ops Q (o::rest) a w:=by
  subst hw;exact wpList_store_row hgd ty x y ho W.heap.size cells hx hy t c (z0a _ _) hi hold h1 (by rw[World.setRow_alloc_new];exact h)
theorem z0b{W:World}{o:Obj}{b:Nat}{x:Obj}(h:W.heap[b]? = some x):(W.alloc o).heap[b]? = some x:=by
  rw[z0w (z0j h)];exact h
theorem z0r{W:World}{g b:Nat}{cs:Array Value}{x:Obj}(h:W.heap[b]? = some x)(hne:b≠g):(W.setRow g cs).heap[b]? = some x:=by
  rw[setRow_other _ _ _ _ hne];exact h
theorem z0i{W:World}{a:Addr}{b:Nat}{v:Value}{x:Obj}(h:W.heap[b]? = some x)(hne:b≠a.block):(W.setCell a v).heap[b]? = some x:=by
  rw[heap_setCell_other _ hne];exact h
theorem y4o(s:ByteArray)(i:Int)(hi:0<=i):∀(f:Nat) (next:Int) (ws:List Int),i<=next->next<=s.size+1->(s.size:Int)+5<=f+next ->
    i<=(Q05 s i f next ws).2.1/\(Q05 s i f next ws).2.1<=s.size+6/\((Q05 s i f next ws).2.2=true->i<(Q05 s i f next ws).2.1/\(Q05 s i f next ws).2.1<=s.size)
  |0,next,ws,h1,h2,h3=>by omega
  |f+1,next,ws,h1,h2,h3=>by
    obtain⟨r1,r2,r3,r4,r5,r6,r7⟩:=z1j s next (by omega)
    unfold Q05;split
    · split
      · simp;omega
      rename_i h5;have r8:=r7 (by simpa using h5);exact y4o s i hi f _ _ (by omega) (by omega) (by omega)
    have:=z0q (s:=s) (i:=next) (by omega);simp;omega
theorem y8o(s:ByteArray)(i:Int)(h0:0<=i)(h1:i<=s.size+1) :
    i<=(Q29 s i).2.1/\(Q29 s i).2.1<=s.size+6/\((Q29 s i).2.2=true->i<(Q29 s i).2.1/\(Q29 s i).2.1<=s.size) :=
  y4o s i h0 _ _ _ (by omega) (by omega) (by omega)
theorem z6f(ws:List Int)(h:ws.length=4):(Q8p ws 4).length=4:=by rw[y8l];exact h
def rBr(s:ByteArray)(i:Int):List Int × Int × Bool :=
  if atB s i=94 then(Q8p (Q29 s (i+1)).1 4,(Q29 s (i+1)).2.1,(Q29 s (i+1)).2.2) else Q29 s i
theorem x4c(s:ByteArray)(i:Int):(rBr s i).1.length=4:=by
  unfold rBr;split
  · exact z6f _ (z46 _ _)
  exact z46 _ _
theorem x4a(s:ByteArray)(i:Int)(h0:0<=i)(h1:i<=s.size) :
    i<=(rBr s i).2.1/\(rBr s i).2.1<=s.size+6/\((rBr s i).2.2=true->i<(rBr s i).2.1/\(rBr s i).2.1<=s.size):=by
  unfold rBr;split
  · have:=y8o s (i+1) (by omega) (by omega);exact⟨by dsimp only;omega,by dsimp only;omega,fun h=>by have:=this.2.2 h;dsimp only;omega⟩
  exact y8o s i (by omega) (by omega)
theorem eq4{a b:Array Value}(ha:a.size=4)(hb:b.size=4):a.size=b.size:=ha.trans hb.symm
theorem u4{ws:List Int}(h:ws.length=4):(Q5u ws).size=4:=by rw[z12,h]
theorem x0h(s:ByteArray)(i:Int)(w:World)(hs:s.size<=1000)(h0:0<=i)(h1:i<=s.size) :
    Calls Tryz.prog 150 #[.string s,.int .i64 i] w fun e w'=>e=.returned (.tuple #[.agg (Q5u (rBr s i).1),.int .i64 (rBr s i).2.1,.bool (rBr s i).2.2])/\Q0a w w':=by
  by_cases hc:atB s i=94
  · have j1:(atB s i==94)=true:=by simpa using hc
    have hR:rBr s i=(Q8p (Q29 s (i+1)).1 4,(Q29 s (i+1)).2.1,(Q29 s (i+1)).2.2):=by unfold rBr;rw[qAb hc]
    rw[hR];have hl:=z6f _ (z46 s (i+1));have HL:Hid _:=hl;have j0:Hid _:=z46 s (i+1);clear hc hR hl;go_enter Tryz.func150,Tryz.ntmps150
    go_wp2_with (first
      |(go_at_call 107;refine(z0v _ _ _ (by unfold maxLen;omega)).mono ?_;rintro e w'⟨rfl,rfl⟩)
      |(go_at_call 153;refine(z7r _ _ _ (by omega) (by omega) (by omega)).mono ?_;rintro e w1⟨rfl,hf1⟩;have hz:w.heap.size<w1.heap.size:=(by have:=hf1.size;simp at this;omega))
      |(go_at_call 149;refine(x3t _ _ j0.out).mono ?_;rintro e w2⟨rfl,hf2⟩)
      |(refine z0e rfl _ _ _ rfl w1 _ _ _ rfl rfl rfl (Q6w _ j0.out) (eq4 rfl (u4 j0.out)) (z1a _) ?_)
      |(refine wpList_load_row rfl _ _ rfl w1.heap.size rfl _ _ _ _ (z0a _ _) Tryz.underlying204 rfl (Q6w _ j0.out) ?_)
      |(refine wpList_store_row rfl _ _ _ rfl w1.heap.size _ rfl rfl _ _ (hf2.at (z0a _ _) (fun x=>x)) (Q6w _ HL.out) (eq4 (u4 j0.out) (u4 HL.out)) (z1a _) ?_)
      |(refine wpList_load_row rfl _ _ rfl w1.heap.size rfl _ _ _ _ (setRow_heap _ _ _ _ _ _ (hf2.at (z0a _ _) (fun x=>x))) Tryz.underlying204 rfl (Q6w _ HL.out) ?_)
      |(refine wpList_store_row rfl _ _ _ rfl w.heap.size _ rfl rfl _ _ (z0r (hf2.at (z0b (hf1.at (z0a _ _) (fun x=>x))) (fun x=>x)) (by omega)) (Q6w _ HL.out) (eq4 rfl (u4 HL.out)) (z1a _) ?_))
    refine bodyPost_ret (z0h rfl _ _ w.heap.size 204 _ (0,0) _ rfl (setRow_heap _ _ _ _ _ _ (z0r (hf2.at (z0b (hf1.at (z0a _ _) (fun x=>x))) (fun x=>x)) (by omega))) Tryz.underlying204 rfl (Q6w _ HL.out)) rfl ⟨rfl,?_⟩;exact(((((((mRf _ w).alloc _).trans hf1).alloc _).trans hf2).setRow (by omega) _).setRow (by simp) _)
  have j1:(atB s i==94)=false:=by simpa using hc
  have hR:rBr s i=Q29 s i:=by unfold rBr;rw[qAa hc]
  rw[hR];have j0:Hid _:=z46 s i;clear hc hR;go_enter Tryz.func150,Tryz.ntmps150
  go_wp2_with (first
    |(go_at_call 107;refine(z0v _ _ _ (by unfold maxLen;omega)).mono ?_;rintro e w'⟨rfl,rfl⟩)
    |(go_at_call 153;refine(z7r _ _ _ (by omega) (by omega) (by omega)).mono ?_;rintro e w1⟨rfl,hf1⟩;have hz:w.heap.size<w1.heap.size:=(by have:=hf1.size;simp at this;omega))
    |(refine z0e rfl _ _ _ rfl w1 _ _ _ rfl rfl rfl (Q6w _ j0.out) (eq4 rfl (u4 j0.out)) (z1a _) ?_)
    |(refine wpList_load_row rfl _ _ rfl w1.heap.size rfl _ _ _ _ (z0a _ _) Tryz.underlying204 rfl (Q6w _ j0.out) ?_)
    |(refine wpList_store_row rfl _ _ _ rfl w.heap.size _ rfl rfl _ _ (z0b (hf1.at (z0a _ _) (fun x=>x))) (Q6w _ j0.out) (eq4 rfl (u4 j0.out)) (z1a _) ?_))
  refine bodyPost_ret (z0h rfl _ _ w.heap.size 204 _ (0,0) _ rfl (setRow_heap _ _ _ _ _ _ (z0b (hf1.at (z0a _ _) (fun x=>x)))) Tryz.underlying204 rfl (Q6w _ j0.out)) rfl ⟨rfl,?_⟩;exact(((((mRf _ w).alloc _).trans hf1).alloc _).setRow (by simp) _)
def Q2n(s:ByteArray)(i:Int):List Int × Int × Bool :=
  if atB s i=46 then(Q8p (Q19 zero4 10 10) 4,i+1,true)
  else if atB s i=91 then rBr s (i+1)
  else if atB s i=92 then(Q19 zero4 (Q2g s (i+1)).1 (Q2g s (i+1)).1,(Q2g s (i+1)).2.1,(Q2g s (i+1)).2.2)
  else if Q01 (atB s i)=false then(zero4,i,false)
  else(Q19 zero4 (atB s i) (atB s i),i+1,true)
theorem x7a(s:ByteArray)(i:Int):(Q2n s i).1.length=4:=by
  unfold Q2n;split
  · exact z6f _ (z1k _ _ _)
  split
  · exact x4c _ _
  split
  · exact z1k _ _ _
  split
  · rfl
  exact z1k _ _ _
theorem y2j(s:ByteArray)(i:Int)(h0:0<=i) :
    i<=(Q2n s i).2.1/\(Q2n s i).2.1<=i+s.size+10/\((Q2n s i).2.2=true->i<(Q2n s i).2.1/\(Q2n s i).2.1<=s.size):=by
  have hb:=z8f s i;unfold Q2n;split
  · have:=z0q (s:=s) (i:=i) (by omega);simp;omega
  split
  · have:=z0q (s:=s) (i:=i) (by omega)
    have h2:=x4a s (i+1) (by omega) (by omega);exact⟨by omega,by omega,fun h=>by have:=h2.2.2 h;omega⟩
  split
  · have:=z0q (s:=s) (i:=i) (by omega)
    have h2:=z79 s (i+1) (by omega);exact⟨by dsimp only;omega,by dsimp only;omega,fun h=>by have:=h2.2.2.2.2 h;dsimp only;omega⟩
  split
  · simp;omega
  rename_i h5;have h7:32<=atB s i:=by unfold Q01 Q4e at h5;simp at h5;omega
  have:=z0q (s:=s) (i:=i) (by omega);simp;omega
theorem y8q{s:ByteArray}{i:Int}(h:atB s i=46):Q2n s i=(Q8p (Q19 zero4 10 10) 4,i+1,true):=by unfold Q2n;rw[qAb h]
theorem x4f{s:ByteArray}{i:Int}(h:atB s i=91):Q2n s i=rBr s (i+1):=by unfold Q2n;rw[qAa (by omega),qAb h]
theorem y4w{s:ByteArray}{i:Int}(h:atB s i=92):Q2n s i=(Q19 zero4 (Q2g s (i+1)).1 (Q2g s (i+1)).1,(Q2g s (i+1)).2.1,(Q2g s (i+1)).2.2):=by
  unfold Q2n;rw[qAa (by omega),qAa (by omega),qAb h]
theorem y8n{c:Int}(h:Q01 c=true):c≠46/\c≠91/\c≠92/\c≠40/\32<=c:=by
  unfold Q01 Q4e at h;simp at h;omega
theorem y1f{s:ByteArray}{i:Int}(h:Q01 (atB s i)=true):Q2n s i=(Q19 zero4 (atB s i) (atB s i),i+1,true):=by
  obtain⟨h1,h2,h3,_⟩:=y8n h;unfold Q2n;rw[qAa h1,qAa h2,qAa h3,qAa (by simp[h])]
theorem x4g{s:ByteArray}{i:Int}(h1:atB s i≠46)(h2:atB s i≠91)(h3:atB s i≠92)(h:Q01 (atB s i)=false):Q2n s i=(zero4,i,false):=by
  unfold Q2n;rw[qAa h1,qAa h2,qAa h3,qAb h]
abbrev Q8d(r:List Int × Int × Bool):Value:=.tuple #[.agg (Q5u r.1),.int .i64 r.2.1,.bool r.2.2]
theorem y63(s:ByteArray)(i:Int)(w:World)(hs:s.size<=1000)(h0:0<=i)(h1:i<=2000)(hc:atB s i=46) :
    Calls Tryz.prog 145 #[.string s,.int .i64 i] w fun e w'=>e=.returned (Q8d (Q2n s i))/\Q0a w w':=by
  rw[y8q hc];have c1:(atB s i==46)=true:=by simpa using hc
  have j0:Hid ((Q19 zero4 10 10).length=4):=z1k _ _ _;have HL:Hid ((Q8p (Q19 zero4 10 10) 4).length=4):=z6f _ (z1k _ _ _);clear hc;go_enter Tryz.func145,Tryz.ntmps145
  go_wp2_with (first
    |(go_at_call 107;refine(z0v _ _ _ (by unfold maxLen;omega)).mono ?_;rintro e w'⟨rfl,rfl⟩)
    |(go_at_call 148;refine(z67 _ _ (by omega) (by omega)).mono ?_;rintro e w1⟨rfl,hf1⟩;have hz:w.heap.size<w1.heap.size:=(by have:=hf1.size;simp at this;omega))
    |(go_at_call 149;refine(x3t _ _ j0.out).mono ?_;rintro e w2⟨rfl,hf2⟩)
    |(refine z0e rfl _ _ _ rfl w1 _ _ _ rfl rfl rfl (Q6w _ j0.out) (eq4 rfl (u4 j0.out)) (z1a _) ?_)
    |(refine wpList_load_row rfl _ _ rfl w1.heap.size rfl _ _ _ _ (z0a _ _) Tryz.underlying204 rfl (Q6w _ j0.out) ?_)
    |(refine wpList_store_row rfl _ _ _ rfl w.heap.size _ rfl rfl _ _ (hf2.at (z0b (hf1.at (z0a _ _) (fun x=>x))) (fun x=>x)) (Q6w _ HL.out) (eq4 rfl (u4 HL.out)) (z1a _) ?_))
  refine bodyPost_ret (z0h rfl _ _ w.heap.size 204 _ (0,0) _ rfl (setRow_heap _ _ _ _ _ _ (hf2.at (z0b (hf1.at (z0a _ _) (fun x=>x))) (fun x=>x))) Tryz.underlying204 rfl (Q6w _ HL.out)) rfl ⟨rfl,?_⟩;exact((((((mRf _ w).alloc _).trans hf1).alloc _).trans hf2).setRow (by simp) _)
theorem x0i(s:ByteArray)(i:Int)(w:World)(hs:s.size<=1000)(h0:0<=i)(h1:i<=2000)(hc:atB s i=91) :
    Calls Tryz.prog 145 #[.string s,.int .i64 i] w fun e w'=>e=.returned (Q8d (Q2n s i))/\Q0a w w':=by
  rw[x4f hc];have j0:=z0q (s:=s) (i:=i) (by omega);have c0:(atB s i==46)=false:=by simp[hc]
  have c1:(atB s i==91)=true:=by simpa using hc
  have HL:Hid ((rBr s (i+1)).1.length=4):=x4c _ _;clear hc;go_enter Tryz.func145,Tryz.ntmps145
  go_wp2_with (first
    |(go_at_call 107;refine(z0v _ _ _ (by unfold maxLen;omega)).mono ?_;rintro e w'⟨rfl,rfl⟩)
    |(go_at_call 150;refine(x0h _ _ _ (by omega) (by omega) (by omega)).mono ?_;rintro e w1⟨rfl,hf1⟩)
    |(refine wpList_store_row rfl _ _ _ rfl w.heap.size _ rfl rfl _ _ (hf1.at (z0a _ _) (fun x=>x)) (Q6w _ HL.out) (eq4 rfl (u4 HL.out)) (z1a _) ?_))
  refine bodyPost_ret (z0h rfl _ _ w.heap.size 204 _ (0,0) _ rfl (setRow_heap _ _ _ _ _ _ (hf1.at (z0a _ _) (fun x=>x))) Tryz.underlying204 rfl (Q6w _ HL.out)) rfl ⟨rfl,?_⟩;exact((((mRf _ w).alloc _).trans hf1).setRow (by simp) _)
theorem y45(s:ByteArray)(i:Int)(w:World)(hs:s.size<=1000)(h0:0<=i)(h1:i<=2000)(hc:atB s i=92) :
    Calls Tryz.prog 145 #[.string s,.int .i64 i] w fun e w'=>e=.returned (Q8d (Q2n s i))/\Q0a w w':=by
  rw[y4w hc];obtain⟨m1,m2,m3,m4,m5⟩:=z79 s (i+1) (by omega);have c0:(atB s i==46)=false:=by simp[hc]
  have c2:(atB s i==91)=false:=by simp[hc]
  have c1:(atB s i==92)=true:=by simpa using hc
  have HL:Hid ((Q19 zero4 (Q2g s (i+1)).1 (Q2g s (i+1)).1).length=4):=z1k _ _ _;clear hc m5;go_enter Tryz.func145,Tryz.ntmps145
  go_wp2_with (first
    |(go_at_call 107;refine(z0v _ _ _ (by unfold maxLen;omega)).mono ?_;rintro e w'⟨rfl,rfl⟩)
    |(go_at_call 151;refine(z7s _ _ _ (by omega) (by omega) (by omega)).mono ?_;rintro e w'⟨rfl,rfl⟩)
    |(go_at_call 148;refine(z67 _ _ (by omega) (by omega)).mono ?_;rintro e w1⟨rfl,hf1⟩)
    |(refine wpList_store_row rfl _ _ _ rfl w.heap.size _ rfl rfl _ _ (hf1.at (z0a _ _) (fun x=>x)) (Q6w _ HL.out) (eq4 rfl (u4 HL.out)) (z1a _) ?_))
  refine bodyPost_ret (z0h rfl _ _ w.heap.size 204 _ (0,0) _ rfl (setRow_heap _ _ _ _ _ _ (hf1.at (z0a _ _) (fun x=>x))) Tryz.underlying204 rfl (Q6w _ HL.out)) rfl ⟨rfl,?_⟩;exact((((mRf _ w).alloc _).trans hf1).setRow (by simp) _)
theorem y2o(s:ByteArray)(i:Int)(w:World)(hs:s.size<=1000)(h0:0<=i)(h1:i<=2000)(hc:Q01 (atB s i)=true) :
    Calls Tryz.prog 145 #[.string s,.int .i64 i] w fun e w'=>e=.returned (Q8d (Q2n s i))/\Q0a w w':=by
  rw[y1f hc];obtain⟨p1,p2,p3,p4,p5⟩:=y8n hc;obtain⟨b1,b2⟩:=z8f s i;have c0:(atB s i==46)=false:=by simpa using p1
  have c2:(atB s i==91)=false:=by simpa using p2
  have c1:(atB s i==92)=false:=by simpa using p3
  have HL:Hid ((Q19 zero4 (atB s i) (atB s i)).length=4):=z1k _ _ _;clear p1 p2 p3 p4;go_enter Tryz.func145,Tryz.ntmps145
  go_wp2_with (first
    |(go_at_call 107;refine(z0v _ _ _ (by unfold maxLen;omega)).mono ?_;rintro e w'⟨rfl,rfl⟩)
    |(go_at_call 143;refine(z5v _ _).mono ?_;rintro e w'⟨rfl,rfl⟩)
    |(go_at_call 148;refine(z67 _ _ (by omega) (by omega)).mono ?_;rintro e w1⟨rfl,hf1⟩)
    |(refine wpList_store_row rfl _ _ _ rfl w.heap.size _ rfl rfl _ _ (hf1.at (z0a _ _) (fun x=>x)) (Q6w _ HL.out) (eq4 rfl (u4 HL.out)) (z1a _) ?_))
  refine bodyPost_ret (z0h rfl _ _ w.heap.size 204 _ (0,0) _ rfl (setRow_heap _ _ _ _ _ _ (hf1.at (z0a _ _) (fun x=>x))) Tryz.underlying204 rfl (Q6w _ HL.out)) rfl ⟨rfl,?_⟩;exact((((mRf _ w).alloc _).trans hf1).setRow (by simp) _)
theorem x0j(s:ByteArray)(i:Int)(w:World)(hs:s.size<=1000)(h0:0<=i)(h1:i<=2000)(p1:atB s i≠46)(p2:atB s i≠91)(p3:atB s i≠92)(hc:Q01 (atB s i)=false) :
    Calls Tryz.prog 145 #[.string s,.int .i64 i] w fun e w'=>e=.returned (Q8d (Q2n s i))/\Q0a w w':=by
  rw[x4g p1 p2 p3 hc];have c0:(atB s i==46)=false:=by simpa using p1
  have c2:(atB s i==91)=false:=by simpa using p2
  have c1:(atB s i==92)=false:=by simpa using p3
  clear p1 p2 p3;go_enter Tryz.func145,Tryz.ntmps145
  go_wp2_with (first
    |(go_at_call 107;refine(z0v _ _ _ (by unfold maxLen;omega)).mono ?_;rintro e w'⟨rfl,rfl⟩)
    |(go_at_call 143;refine(z5v _ _).mono ?_;rintro e w'⟨rfl,rfl⟩)
    |(refine wpList_store_row rfl _ _ _ rfl _ (Q5u zero4) rfl rfl _ _ (z0a _ _) Q84 rfl (z1a _) ?_))
  refine bodyPost_ret (z0h rfl _ _ _ 204 (Q5u zero4) (0,0) _ rfl (setRow_heap _ _ _ _ _ _ (z0a _ _)) Tryz.underlying204 rfl Q84) rfl ⟨rfl,?_⟩;exact((mRf _ _).alloc _).setRow (by simp) _
theorem z9s(s:ByteArray)(i:Int)(w:World)(hs:s.size<=1000)(h0:0<=i)(h1:i<=2000) :
    Calls Tryz.prog 145 #[.string s,.int .i64 i] w fun e w'=>e=.returned (Q8d (Q2n s i))/\Q0a w w':=by
  by_cases a1:atB s i=46
  · exact y63 s i w hs h0 h1 a1
  by_cases a2:atB s i=91
  · exact x0i s i w hs h0 h1 a2
  by_cases a3:atB s i=92
  · exact y45 s i w hs h0 h1 a3
  cases a4:Q01 (atB s i)
  · exact x0j s i w hs h0 h1 a1 a2 a3 a4
  exact y2o s i w hs h0 h1 a4
def Q5n(ws:List Int)(c:Nat):Bool:=bits BinOp.and IntKind.u64 (ws[c / 64]?.getD 0 / 2 ^ (c % 64)) 1==1
theorem x2n(ws:List Int)(c:Nat)(w:World)(hl:ws.length=4)(h1:c<=255) :
    Calls Tryz.prog 120 #[.agg (Q5u ws),.int .u8 c] w fun e w'=>e=.returned (.bool (Q5n ws c))/\Q0a w w':=by
  obtain⟨a,b,c1,d,hws⟩:=four hl;have HW:Hid (ws=[a,b,c1,d]):=hws;have e1:Q5u ws=#[.int .u64 a,.int .u64 b,.int .u64 c1,.int .u64 d]:=by rw[hws];rfl
  have j0:[Value.int .u64 a,.int .u64 b,.int .u64 c1,.int .u64 d][c / 64]? = some (.int .u64 (ws.getD (c / 64) 0)):=by
    have:=y7b ws (c / 64) (by omega);rw[e1]at this;simpa using this
  rw[e1];clear hws e1 hl;go_enter Tryz.func120,Tryz.ntmps120
  go_wp2;go_ret;exact⟨rfl,(mRf _ _).alloc _⟩
end Go.Proofs.YtcpceafmlgaodaaGreat
