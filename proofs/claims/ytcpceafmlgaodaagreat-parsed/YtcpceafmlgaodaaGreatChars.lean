import Derived.Test.YtcpceafmlgaodaaGreatChecked
import Derived.WalkKit
import Derived.WalkSpells
import Derived.WalkLawsBesides
import Derived.Deep.WholeRow
import Derived.Deep.MidRow
namespace Go.Proofs.YtcpceafmlgaodaaGreat
open Go.RowKit
set_option maxRecDepth 100000
set_option maxHeartbeats 16000000
set_option linter.unusedVariables false
set_option linter.unusedSimpArgs false
theorem qR(n:Nat):n<=n:=Nat.le_refl n
theorem qI(a:Option Addr)(b c:Nat)(x:Option Addr)(y z:Nat):(Value.slice a b c=Value.slice x y z)=(a=x/\b=y/\c=z):=Value.slice.injEq a b c x y z
theorem qC{α:Type}{l:List α}{i:Nat}(h:i<l.length):l.drop i=l[i]::l.drop(i+1):=List.drop_eq_getElem_cons h
theorem qD{α:Type}{l:List α}{i:Nat}{d:α}:l.getD i d=l[i]?.getD d:=List.getD_eq_getElem?_getD
theorem qN{α:Type}{l:List α}{i:Nat}(h:l.length<=i):l[i]?=none:=List.getElem?_eq_none h
theorem qS{α:Type}{l:List α}{i:Nat}{a:α}(h:l[i]?=some a):∃h:i<l.length,l[i]=a:=List.getElem?_eq_some_iff.1 h
theorem qE{α:Type}{l:List α}{i:Nat}(h:i<l.length):l[i]?=some l[i]:=List.getElem?_eq_getElem h
def atB(s:ByteArray)(i:Int):Int :=
  if h:0<=i/\i.toNat<s.size then((s[i.toNat]'h.2).toNat:Int)else -1
def Q0n(c:Int):Bool:=decide(97<=c)&&decide(c<=122)
def Q1n(c:Int):Bool:=decide(65<=c)&&decide(c<=90)
def Q7r(c:Int):Bool:=decide(48<=c)&&decide(c<=57)
def Q5g(c:Int):Bool:=decide(32<=c)&&decide(c<=126)
def Q03(c:Int):Bool:=!(c==92||c==91||c==93||c==40||c==41||c==124||c==42||c==43||c==63||c==46)&&Q5g c
theorem z1h{k:IntKind}{a b:Int}(h:a=b):Ending.returned(.int k a)=.returned(.int k b):=by rw[h]
theorem z0s{a b:Bool}(h:a=b):Ending.returned(.bool a)=.returned(.bool b):=by rw[h]
theorem w64{n:Int}(h:-9223372036854775808<=n/\n<=9223372036854775807):wrap64 n=n:=by unfold wrap64;omega
theorem z0v(s:ByteArray)(i:Int)(w:World)(hs:s.size<=maxLen) :
    Calls Tryz.prog 107#[.string s,.int .i64 i]w fun e w'=>e=.returned(.int .i64(atB s i))/\w'=w:=by
  unfold maxLen at hs;by_cases h0:i<0
  · go_enter Tryz.func107,Tryz.ntmps107
    go_wp2;go_ret;exact⟨z1h(by unfold atB;rw[dif_neg(by omega)]),rfl⟩
  by_cases h1:i.toNat<s.size
  · obtain⟨k,rfl⟩:∃k:Nat,i=k:=⟨i.toNat,by omega⟩
    have hk:k<s.size:=by simpa using h1
    clear h1;go_enter Tryz.func107,Tryz.ntmps107
    go_wp2;go_ret;exact⟨z1h(by
      have hb:s[k].toNat<256:=s[k].toNat_lt;rw[w64(by omega)];simp[atB,hk]),rfl⟩
  have h2:(s.size:Int)<=i:=by omega
  go_enter Tryz.func107,Tryz.ntmps107
  go_wp2;go_ret;exact⟨z1h(by unfold atB;rw[dif_neg(by omega)]),rfl⟩
theorem z3o(c:Int)(w:World) :
    Calls Tryz.prog 117#[.int .i64 c]w fun e w'=>e=.returned(.bool(Q0n c))/\w'=w:=by
  go_enter Tryz.func117,Tryz.ntmps117
  go_wp2;all_goals(go_ret;exact⟨z0s(by rw[Bool.eq_iff_iff];simp[Q0n];omega),rfl⟩)
theorem z6c(c:Int)(w:World) :
    Calls Tryz.prog 109#[.int .i64 c]w fun e w'=>e=.returned(.bool(Q1n c))/\w'=w:=by
  go_enter Tryz.func109,Tryz.ntmps109
  go_wp2;all_goals(go_ret;exact⟨z0s(by rw[Bool.eq_iff_iff];simp[Q1n];omega),rfl⟩)
theorem x3x(c:Int)(w:World) :
    Calls Tryz.prog 154#[.int .i64 c]w fun e w'=>e=.returned(.bool(Q7r c))/\w'=w:=by
  go_enter Tryz.func154,Tryz.ntmps154
  go_wp2;all_goals(go_ret;exact⟨z0s(by rw[Bool.eq_iff_iff];simp[Q7r];omega),rfl⟩)
theorem y2h(c:Int)(w:World) :
    Calls Tryz.prog 147#[.int .i64 c]w fun e w'=>e=.returned(.bool(Q5g c))/\w'=w:=by
  go_enter Tryz.func147,Tryz.ntmps147
  go_wp2;all_goals(go_ret;exact⟨z0s(by rw[Bool.eq_iff_iff];simp[Q5g];omega),rfl⟩)
theorem z5r(c:Int)(w:World) :
    Calls Tryz.prog 143#[.int .i64 c]w fun e w'=>e=.returned(.bool(Q03 c))/\w'=w:=by
  go_enter Tryz.func143,Tryz.ntmps143
  go_wp2_with(go_at_call 147;refine(y2h _ _).mono ?_;rintro e w'⟨rfl,rfl⟩)
  all_goals(go_ret;exact⟨z0s(by simp_all[Q03]),rfl⟩)
def Q2w(s:ByteArray)(i:Int):Bool :=
  atB s i==40||atB s i==46||atB s i==91||atB s i==92||Q03(atB s i)
def Q2n(s:ByteArray)(i:Int):Int × Int × Bool :=
  if atB s i=110 then(10,i+1,true)
  else if atB s i=116 then(9,i+1,true)
  else if(!isPrB(atB s i)||Q0n(atB s i)||Q1n(atB s i)||Q7r(atB s i))=true then(0,i,false)
  else(atB s i,i+1,true)
def Q1t(s:ByteArray)(i:Int):Int × Int × Bool :=
  if atB s i=92 then Q2n s(i+1)
  else if atB s i=93∨atB s i=94∨atB s i=45 then(0,i,false)
  else if Q5g(atB s i)=false then(0,i,false)
  else(atB s i,i+1,true)
def Q0m(s:ByteArray)(i:Int):Int × Int × Int × Bool :=
  if(Q1t s i).2.2=false then(0,0,(Q1t s i).2.1,false)
  else if atB s(Q1t s i).2.1≠45 then((Q1t s i).1,(Q1t s i).1,(Q1t s i).2.1,true)
  else if(Q1t s((Q1t s i).2.1+1)).2.2=false then(0,0,(Q1t s((Q1t s i).2.1+1)).2.1,false)
  else if(Q1t s((Q1t s i).2.1+1)).1<(Q1t s i).1 then(0,0,(Q1t s((Q1t s i).2.1+1)).2.1-1,false)
  else((Q1t s i).1,(Q1t s((Q1t s i).2.1+1)).1,(Q1t s((Q1t s i).2.1+1)).2.1,true)
theorem z8f(s:ByteArray)(i:Int):-1<=atB s i/\atB s i<=255:=by
  unfold atB;split
  · rename_i h;have:=(s[i.toNat]'h.2).toNat_lt;omega
  omega
theorem z0q{s:ByteArray}{i:Int}(h:atB s i≠-1):0<=i/\i<s.size:=by
  unfold atB at h;split at h
  · omega
  omega
theorem z73(s:ByteArray)(i:Int)(h:0<=i) :
    0<=(Q2n s i).1/\(Q2n s i).1<=255/\i<=(Q2n s i).2.1/\(Q2n s i).2.1<=i+1/\((Q2n s i).2.2=true->(Q2n s i).2.1=i+1/\i<s.size):=by
  have hb:=z8f s i;unfold Q2n;split
  · have:=z0q(s:=s)(i:=i)(by omega);simp;omega
  split
  · have:=z0q(s:=s)(i:=i)(by omega);simp;omega
  split
  · simp;omega
  rename_i h3;have:atB s i≠-1:=by
    intro h4;simp[Q5g,h4]at h3
  have h5:Q5g(atB s i)=true:=by
    cases h6:Q5g(atB s i)<;>simp[h6]at h3 ⊢
  have h7:32<=atB s i:=by unfold Q5g at h5;simp at h5;omega
  have:=z0q this;simp;omega
theorem z4h(s:ByteArray)(i:Int)(h:0<=i) :
    0<=(Q1t s i).1/\(Q1t s i).1<=255/\i<=(Q1t s i).2.1/\(Q1t s i).2.1<=i+2/\((Q1t s i).2.2=true->i<(Q1t s i).2.1/\(Q1t s i).2.1<=s.size):=by
  have hb:=z8f s i;unfold Q1t;split
  · have h1:=z73 s(i+1)(by omega);have:=z0q(s:=s)(i:=i)(by omega)
    refine⟨h1.1,h1.2.1,by omega,by omega,fun h2=>?_⟩;have:=h1.2.2.2.2 h2;omega
  split
  · simp;omega
  split
  · simp;omega
  rename_i h5;have h7:32<=atB s i:=by unfold Q5g at h5;simp at h5;omega
  have:=z0q(s:=s)(i:=i)(by omega);simp;omega
theorem z7d(s:ByteArray)(i:Int)(w:World)(hs:s.size<=1000) :
    Calls Tryz.prog 136#[.string s,.int .i64 i]w fun e w'=>e=.returned(.bool(Q2w s i))/\w'=w:=by
  go_enter Tryz.func136,Tryz.ntmps136
  go_wp2_with(first
    |(go_at_call 107;refine(z0v _ _ _(by unfold maxLen;omega)).mono ?_;rintro e w'⟨rfl,rfl⟩)
    |(go_at_call 143;refine(z5r _ _).mono ?_;rintro e w'⟨rfl,rfl⟩))
  all_goals(go_ret;exact⟨z0s(by simp_all[Q2w]),rfl⟩)
theorem z7i(s:ByteArray)(i:Int)(w:World)(hs:s.size<=1000)(h0:0<=i)(h1:i<=10000) :
    Calls Tryz.prog 151#[.string s,.int .i64 i]w fun e w'=>e=.returned(.tuple#[.int .i64(Q2n s i).1,.int .i64(Q2n s i).2.1,.bool(Q2n s i).2.2])/\w'=w:=by
  go_enter Tryz.func151,Tryz.ntmps151
  go_wp2_with(first
    |(go_at_call 107;refine(z0v _ _ _(by unfold maxLen;omega)).mono ?_;rintro e w'⟨rfl,rfl⟩)
    |(go_at_call 147;refine(y2h _ _).mono ?_;rintro e w'⟨rfl,rfl⟩)
    |(go_at_call 117;refine(z3o _ _).mono ?_;rintro e w'⟨rfl,rfl⟩)
    |(go_at_call 109;refine(z6c _ _).mono ?_;rintro e w'⟨rfl,rfl⟩)
    |(go_at_call 154;refine(x3x _ _).mono ?_;rintro e w'⟨rfl,rfl⟩))
  all_goals(go_ret3;exact⟨by simp_all[Q2n],rfl⟩)
theorem y6p(s:ByteArray)(i:Int)(w:World)(hs:s.size<=1000)(h0:0<=i)(h1:i<=9000) :
    Calls Tryz.prog 156#[.string s,.int .i64 i]w fun e w'=>e=.returned(.tuple#[.int .i64(Q1t s i).1,.int .i64(Q1t s i).2.1,.bool(Q1t s i).2.2])/\w'=w:=by
  go_enter Tryz.func156,Tryz.ntmps156
  go_wp2_with(first
    |(go_at_call 107;refine(z0v _ _ _(by unfold maxLen;omega)).mono ?_;rintro e w'⟨rfl,rfl⟩)
    |(go_at_call 147;refine(y2h _ _).mono ?_;rintro e w'⟨rfl,rfl⟩)
    |(go_at_call 151;refine(z7i _ _ _(by omega)(by omega)(by omega)).mono ?_;rintro e w'⟨rfl,rfl⟩))
  all_goals(go_ret3;exact⟨by simp_all[Q1t],rfl⟩)
theorem y3o{fn:Func}{t u v x:Tmp}(h:fn.results=#[.tmp t,.tmp u,.tmp v,.tmp x])(tmps:Array Value)(P:Program)(w:World) :
    (results fn tmps).run P w=.ok(.tuple#[tmps.getD t undef,tmps.getD u undef,tmps.getD v undef,tmps.getD x undef])w:=by
  simp[results,h]
theorem z52(s:ByteArray)(i:Int)(w:World)(hs:s.size<=1000)(h0:0<=i)(h1:i<=8000) :
    Calls Tryz.prog 155#[.string s,.int .i64 i]w fun e w'=>e=.returned(.tuple#[.int .i64(Q0m s i).1,.int .i64(Q0m s i).2.1,.int .i64(Q0m s i).2.2.1,.bool(Q0m s i).2.2.2])/\w'=w:=by
  have b1:=z4h s i h0;have b2:=z4h s((Q1t s i).2.1+1)(by omega);obtain⟨b11,b12,b13,b14,b15⟩:=b1;obtain⟨b21,b22,b23,b24,b25⟩:=b2;go_enter Tryz.func155,Tryz.ntmps155
  go_wp2_with(first
    |(go_at_call 107;refine(z0v _ _ _(by unfold maxLen;omega)).mono ?_;rintro e w'⟨rfl,rfl⟩)
    |(go_at_call 156;refine(y6p _ _ _(by omega)(by omega)(by omega)).mono ?_;rintro e w'⟨rfl,rfl⟩))
  all_goals(refine bodyPost_ret(y3o rfl _ _ _)rfl ?_;exact⟨by first|(simp_all[Q0m];done)|(simp_all[Q0m];rw[if_neg(by omega)];simp),rfl⟩)
theorem Q0b{w:World}{b:Nat}{c:Array Value}{e:TypeId}{f:Nat × Nat}(h:w.heap[b]? = some(.cells c e f))(o:Nat) :
    w.cell?⟨b,o,none⟩=c[o]? := by simp[World.cell?,h]
theorem Q0h{w:World}{b:Nat}{c:Array Value}{e:TypeId}(h:w.heap[b]? = some(.cells c e(0,0)))(o:Nat) :
    w.frozen?⟨b,o,none⟩=false:=by simp[World.frozen?,h]
theorem zhs{w:World}{b:Nat}{c:Array Value}{e:TypeId}{f:Nat × Nat}(h:w.heap[b]? = some(.cells c e f))(o:Nat)(v:Value) :
    (w.setCell⟨b,o,none⟩v).heap[b]? = some(.cells(c.setIfInBounds o v)e f):=by
  have hb:=(Array.getElem?_eq_some_iff.1 h).1;simp only[World.setCell,Array.getElem?_modify];simp[h]
theorem heap_setCell_other{w:World}{k:Nat}{a:Addr}(v:Value)(h:k≠a.block) :
    (w.setCell a v).heap[k]? = w.heap[k]? := Below.heap_setCell w a v k h
theorem heap_setCell_size(w:World)(a:Addr)(v:Value):(w.setCell a v).heap.size=w.heap.size:=by simp[World.setCell]
theorem z0w{w:World}{o:Obj}{k:Nat}(h:k<w.heap.size):(w.alloc o).heap[k]? = w.heap[k]? := Below.heap_alloc w o k h
theorem z0a(w:World)(o:Obj):(w.alloc o).heap[w.heap.size]? = some o:=heap_alloc_new w o
theorem z0j{w:World}{b:Nat}{o:Obj}(h:w.heap[b]? = some o):b<w.heap.size:=(Array.getElem?_eq_some_iff.1 h).1
structure Mod(S:Nat->Prop)(w w':World):Prop where
  os:w'.os=w.os
  tape:w'.tape=w.tape
  output:w'.output=w.output
  size:w.heap.size<=w'.heap.size
  block:∀k,k<w.heap.size->¬S k->w'.heap[k]? = w.heap[k]?
theorem mRf(S:Nat->Prop)(w:World):Mod S w w:=⟨rfl,rfl,rfl,qR _,fun _ _ _=>rfl⟩
theorem Mod.trans{S:Nat->Prop}{a b c:World}(h:Mod S a b)(k:Mod S b c):Mod S a c :=
  ⟨k.os.trans h.os,k.tape.trans h.tape,k.output.trans h.output,Nat.le_trans h.size k.size,
   fun i hi hs=>(k.block i(Nat.lt_of_lt_of_le hi h.size)hs).trans(h.block i hi hs)⟩
theorem Mod.trans'{S T:Nat->Prop}{a b c:World}(h:Mod S a b)(k:Mod T b c)(hT:∀i,i<a.heap.size->T i->S i):Mod S a c :=
  ⟨k.os.trans h.os,k.tape.trans h.tape,k.output.trans h.output,Nat.le_trans h.size k.size,
   fun i hi hs=>(k.block i(Nat.lt_of_lt_of_le hi h.size)(fun ht=>hs(hT i hi ht))).trans(h.block i hi hs)⟩
theorem Mod.mono{S T:Nat->Prop}{w w':World}(h:Mod S w w')(hS:∀i,i<w.heap.size->S i->T i):Mod T w w' :=
  ⟨h.os,h.tape,h.output,h.size,fun i hi ht=>h.block i hi(fun hs=>ht(hS i hi hs))⟩
theorem Mod.alloc{S:Nat->Prop}{a w:World}(h:Mod S a w)(o:Obj):Mod S a(w.alloc o) :=
  h.trans⟨rfl,rfl,rfl,by simp,fun _ hk _=>z0w hk⟩
theorem Mod.setCell{S:Nat->Prop}{a w:World}(h:Mod S a w){p:Addr}(hp:p.block<a.heap.size->S p.block)(u:Value):Mod S a(w.setCell p u) :=
  ⟨h.os,h.tape,h.output,by simp[World.setCell];exact h.size,fun k hk hs=>by
    rw[heap_setCell_other u(by intro e;subst e;exact hs(hp hk))];exact h.block k hk hs⟩
theorem Mod.setRow{S:Nat->Prop}{a w:World}(h:Mod S a w){g:Nat}(hp:g<a.heap.size->S g)(cs:Array Value):Mod S a(w.setRow g cs) :=
  ⟨h.os,h.tape,h.output,by simp;exact h.size,fun k hk hs=>by
    rw[setRow_other _ _ _ _(by intro e;subst e;exact hs(hp hk))];exact h.block k hk hs⟩
theorem Mod.below{w w':World}(h:Mod(fun _=>False)w w'):Below w.heap.size w w' :=
  ⟨h.os,h.tape,h.output,h.size,fun k hk=>h.block k hk(fun x=>x)⟩
theorem Mod.grown{S:Nat->Prop}{a w w':World}{row:Option Nat}(h:Mod S a w)(hg:w.grownBy w' row)(hr:∀k,row=some k->k<a.heap.size->S k):Mod S a w' :=
  ⟨hg.os.trans h.os,hg.tape.trans h.tape,hg.output.trans h.output,Nat.le_trans h.size hg.size,fun k hk hs =>
    (hg.block k(Nat.lt_of_lt_of_le hk h.size)(fun e=>hs(hr k e.symm hk))).trans(h.block k hk hs)⟩
theorem Mod.drew{S:Nat->Prop}{a w:World}(h:Mod S a w):Mod S a w.drew:=⟨h.os,h.tape,h.output,h.size,h.block⟩
theorem Mod.at{S:Nat->Prop}{w w':World}(h:Mod S w w'){b:Nat}{o:Obj}(hb:w.heap[b]? = some o)(hs:¬S b):w'.heap[b]? = some o :=
  (h.block b(z0j hb)hs).trans hb
theorem z0h{P:Program}{fn:Func}{p u v:Tmp}{ty:TypeId}(h:fn.results=#[.cell p ty,.tmp u,.tmp v])(tmps:Array Value)(w:World)(g:Nat)(t:TypeId)(cs:Array Value)(fr:Nat × Nat)(d:TypeDesc)
    (hp:tmps.getD p undef=.pointer(some⟨g,0,none⟩))(hg:w.heap[g]? = some(.cells cs t fr))
    (hu:P.underlying ty=some d)(hd:(match d with | .struct _ | .array _ _=>true|_=>false)=true)(hi:(P.info? ty).map(·.size)=some cs.size) :
    (results fn tmps).run P w=.ok(.tuple#[.agg cs,tmps.getD u undef,tmps.getD v undef])w:=by
  have j0:tmps[p]?.getD undef=.pointer(some⟨g,0,none⟩):=by simpa using hp
  simp[results,h,j0,asAddr,run_loadVar_row w g t ty cs fr d hg hu hd hi]
abbrev Q0a:World->World->Prop:=Mod(fun _=>False)
def Q51(ws:List Int):Array Value:=(ws.map(Value.int .u64)).toArray
theorem y6e(ws:List Int)(i:Nat)(h:i<ws.length):(Q51 ws)[i]? = some(.int .u64(ws.getD i 0)):=by
  simp[Q51,h]
def Q8n(ws:List Int)(x:Int):List Int :=
  ws.set(x / 64).toNat(bits BinOp.or IntKind.u64(ws[(x / 64).toNat]?.getD 0)(IntKind.u64.wrap(2 ^ (x % 64).toNat)))
def Q69(ws:List Int)(low:Int):Nat->List Int
  |0=>ws
  |n+1=>Q8n(Q69 ws low n)(low+n)
def Q2e(ws:List Int)(low high:Int):List Int:=Q69 ws low(high+1-low).toNat
theorem y3i(ws:List Int)(low:Int)(n:Nat):(Q69 ws low n).length=ws.length:=by
  induction n with
  |zero=>rfl
  |succ n ih=>simp[Q69,Q8n,ih]
theorem y8y(ws:List Int)(i:Nat)(v:Int):(Q51 ws).setIfInBounds i(.int .u64 v)=Q51(ws.set i v):=by
  simp[Q51,List.map_set]
theorem four{ws:List Int}(h:ws.length=4):∃a b c d,ws=[a,b,c,d]:=by
  match ws,h with
  | [a,b,c,d],_=>exact⟨a,b,c,d,rfl⟩
theorem y7x(ws:List Int)(low high:Int)(w:World)(hl:ws.length=4)(h0:0<=low)(h1:low<=255)(h2:0<=high)(h3:high<=255) :
    Calls Tryz.prog 152#[.agg(Q51 ws),.int .i64 low,.int .i64 high]w fun e w'=>e=.returned(.agg(Q51(Q2e ws low high)))/\Q0a w w':=by
  obtain⟨a,b,c,d,hws⟩:=four hl;have HW:Hid(ws=[a,b,c,d]):=hws;have e1:Q51 ws=#[.int .u64 a,.int .u64 b,.int .u64 c,.int .u64 d]:=by rw[hws];rfl
  rw[e1];clear hws e1;go_enter Tryz.func152,Tryz.ntmps152
  go_wp2;go_loopw [7](fun i wr=>∃n:Nat,i=.int .i64(low+n)/\low+n<=256/\(n=0∨low+n<=high+1) /\
      wr.heap[w.heap.size]? = some(.cells(Q51(Q69 ws low n))204(0,0)) /\
      wr.heap[w.heap.size+1]? = some(.cells#[.int .u64 0,.int .u64 0,.int .u64 0,.int .u64 0]204(0,0))/\Q0a w wr)
      (fun i _=>256-(intOf i).toNat)
  case atStart =>
    refine⟨0,by simp,by omega,by omega,?_,heap_alloc2_new _ _ _,((mRf _ _).alloc _).alloc _⟩;rw[heap_alloc2_old];simp only[Q69];rw[HW.out];rfl
  obtain⟨n,rfl,hx1,hx2,hb0,hb1,hf⟩:=hrel;have j1:=y3i ws low n;by_cases hx:low+n<=high
  · have hc:wr.cell?⟨w.heap.size,((low+n) / 64).toNat,none⟩=some(.int .u64((Q69 ws low n).getD((low+n) / 64).toNat 0)):=by rw[Q0b hb0,y6e _ _(by omega)]
    have hz:=Q0h hb0;have j2:Hid _:=hb0;have j0:Hid _:=hb1;clear hb0 hb1 j1 hl;go_wp2;go_roundw
    case rel =>
      refine⟨n+1,by go_num,by omega,by omega,?_,?_,hf.setCell(by simp)_⟩
      · rw[zhs j2.out,y8y];rfl
      rw[Proofs.YtcpceafmlgaodaaGreat.heap_setCell_other _(by simp)];exact j0.out
    simp[intOf];omega
  obtain⟨a',b',c',d',e'⟩:=four(ws:=Q69 ws low n)(by omega);have hn:(high+1-low).toNat=n:=by omega
  have e2:Q2e ws low high=[a',b',c',d']:=by rw[← e'];unfold Q2e;rw[hn]
  rw[e']at hb0;simp only[Q51,List.map]at hb0;have hc:=fun o=>Q0b hb0 o;have hz:=Q0h hb0;have j3:=fun o=>Q0b hb1 o;have j4:=Q0h hb1;have j0:Hid _:=hb1;have E2:Hid _:=e2;clear hb0 hb1 j1 hl e' hn e2;go_wp2;refine bodyPost_ret(results_cell_row rfl _ _(w.heap.size+1)204#[.int .u64 a',.int .u64 b',.int .u64 c',.int .u64 d'](0,0)_ rfl ?_ Tryz.underlying204 rfl(by kernel_rfl))rfl⟨?_,?_⟩
  · rw[zhs(zhs(zhs(zhs j0.out _ _)_ _)_ _)_ _];rfl
  · rw[E2.out];rfl
  exact(((hf.setCell(by simp)_).setCell(by simp)_).setCell(by simp)_).setCell(by simp)_
theorem Q80:(Tryz.prog.info? 204).map(·.size)=some 4:=by kernel_rfl
theorem z11(ws:List Int):(Q51 ws).size=ws.length:=by simp[Q51]
theorem z09(ws:List Int):(Q51 ws).all(·.oneCell')=true:=by
  rw[Array.all_eq_true_iff_forall_mem];intro v hv;simp[Q51]at hv;obtain⟨a,_,rfl⟩:=hv;rfl
theorem z1j(ws:List Int)(low high:Int):(Q2e ws low high).length=ws.length:=y3i _ _ _
theorem z6s(c:Int)(w:World)(h0:0<=c)(h1:c<=255) :
    Calls Tryz.prog 148#[.int .i64 c]w fun e w'=>e=.returned(.agg(Q51(Q2e [0,0,0,0]c c)))/\Q0a w w':=by
  have sz:(Tryz.prog.info? 204).map(·.size)=some(Q51(Q2e [0,0,0,0]c c)).size:=by rw[z11,z1j];exact Q80
  have SZ:Hid _:=sz;clear sz;go_enter Tryz.func148,Tryz.ntmps148
  go_wp2_with(first
    |(go_at_call 152;refine(y7x [0,0,0,0]_ _ _ rfl(by omega)(by omega)(by omega)(by omega)).mono ?_;rintro e w'⟨rfl,hf⟩)
    |(refine wpList_store_row rfl _ _ _ rfl w.heap.size _ rfl rfl _ _(hf.at(z0a _ _)(fun x=>x))SZ.out ?_(z09 _)?_))
  case refine_1=>rw[z11,z1j];rfl
  go_wp2;refine bodyPost_ret(results_cell_row rfl _ _ w.heap.size 204 _(0,0)_ rfl(setRow_heap _ _ _ _ _ _(hf.at(z0a _ _)(fun x=>x)))Tryz.underlying204 rfl SZ.out)rfl⟨rfl,?_⟩;exact(((mRf _ w).alloc _).trans hf).setRow(by simp)_
def Q7y(v:Int):Int:=bits BinOp.xor IntKind.u64(if IntKind.u64.signed=true then -1 else IntKind.u64.max)v
def Q8z(ws:List Int):Nat->List Int
  |0=>ws
  |n+1=>(Q8z ws n).set n(Q7y((Q8z ws n)[n]?.getD 0))
theorem y9e(ws:List Int)(n:Nat):(Q8z ws n).length=ws.length:=by
  induction n with
  |zero=>rfl
  |succ n ih=>simp[Q8z,ih]
theorem x4n(ws:List Int)(w:World)(hl:ws.length=4) :
    Calls Tryz.prog 149#[.agg(Q51 ws)]w fun e w'=>e=.returned(.agg(Q51(Q8z ws 4)))/\Q0a w w':=by
  obtain⟨a,b,c,d,hws⟩:=four hl;have HW:Hid(ws=[a,b,c,d]):=hws;have e1:Q51 ws=#[.int .u64 a,.int .u64 b,.int .u64 c,.int .u64 d]:=by rw[hws];rfl
  rw[e1];clear hws e1;go_enter Tryz.func149,Tryz.ntmps149
  go_wp2;go_loopw [4](fun i wr=>∃n:Nat,i=.int .i64 n/\n<=4 /\
      wr.heap[w.heap.size]? = some(.cells(Q51(Q8z ws n))204(0,0)) /\
      wr.heap[w.heap.size+1]? = some(.cells#[.int .u64 0,.int .u64 0,.int .u64 0,.int .u64 0]204(0,0))/\Q0a w wr)
      (fun i _=>4-(intOf i).toNat)
  case atStart =>
    refine⟨0,by simp,by omega,?_,heap_alloc2_new _ _ _,((mRf _ _).alloc _).alloc _⟩;rw[heap_alloc2_old];simp only[Q8z];rw[HW.out];rfl
  obtain⟨n,rfl,hn,hb0,hb1,hf⟩:=hrel;have j0:=y9e ws n;by_cases hx:n<4
  · have hc:wr.cell?⟨w.heap.size,n,none⟩=some(.int .u64((Q8z ws n).getD n 0)):=by rw[Q0b hb0,y6e _ _(by omega)]
    have hz:=Q0h hb0;have j2:Hid _:=hb0;have j1:Hid _:=hb1;clear hb0 hb1 j0 hl;go_wp2;go_roundw
    case rel =>
      refine⟨n+1,by go_num,by omega,?_,?_,hf.setCell(by simp)_⟩
      · rw[zhs j2.out,y8y];rfl
      rw[Proofs.YtcpceafmlgaodaaGreat.heap_setCell_other _(by simp)];exact j1.out
    simp[intOf];omega
  have j4:n=4:=by omega
  subst j4;have sz:(Tryz.prog.info? 204).map(·.size)=some(Q51(Q8z ws 4)).size:=by rw[z11,j0,hl];exact Q80
  have SZ:Hid _:=sz;clear sz;have j2:Hid _:=hb0;have j1:Hid _:=hb1;have HL:Hid _:=hl;have j3:Hid _:=j0;clear hb0 hb1 j0 hl;go_wp2_with(first
    |(refine wpList_load_row rfl _ _ rfl w.heap.size rfl _ _ _ _ j2.out Tryz.underlying204 rfl SZ.out ?_)
    |(refine wpList_store_row rfl _ _ _ rfl(w.heap.size+1)_ rfl rfl _ _ j1.out SZ.out ?hs(z09 _)?_))
  case hs=>rw[z11,j3.out,HL.out];rfl
  go_wp2;refine bodyPost_ret(results_cell_row rfl _ _(w.heap.size+1)204 _(0,0)_ rfl(setRow_heap _ _ _ _ _ _ j1.out)Tryz.underlying204 rfl SZ.out)rfl⟨rfl,?_⟩;exact hf.setRow(by simp)_
def Q07:List Int:=[0,0,0,0]
def Q08(s:ByteArray)(i:Int):Nat->Int->List Int->List Int × Int × Bool
  |0,next,ws=>(ws,next,false)
  |f+1,next,ws =>
    if next=i∨atB s next≠93 then
      if(Q0m s next).2.2.2=false then(Q07,(Q0m s next).2.2.1,false)
      else Q08 s i f(Q0m s next).2.2.1(Q2e ws(Q0m s next).1(Q0m s next).2.1)
    else(ws,next+1,true)
def Q3g(s:ByteArray)(i:Int):List Int × Int × Bool:=Q08 s i(s.size+5)i Q07
theorem z1k(s:ByteArray)(i:Int)(h:0<=i) :
    0<=(Q0m s i).1/\(Q0m s i).1<=255/\0<=(Q0m s i).2.1/\(Q0m s i).2.1<=255/\i<=(Q0m s i).2.2.1/\(Q0m s i).2.2.1<=i+5 /\
    ((Q0m s i).2.2.2=true->i<(Q0m s i).2.2.1/\(Q0m s i).2.2.1<=s.size):=by
  obtain⟨a1,a2,a3,a4,a5⟩:=z4h s i h;obtain⟨b1,b2,b3,b4,b5⟩:=z4h s((Q1t s i).2.1+1)(by omega);unfold Q0m;split
  · simp;omega
  rename_i h1;have a6:=a5(by simpa using h1);split
  · simp;omega
  split
  · simp;omega
  rename_i h2;have b6:=b5(by simpa using h2);split
  · simp;omega
  simp;omega
theorem y0r(s:ByteArray)(i:Int):∀(f:Nat)(next:Int)(ws:List Int),ws.length=4->(Q08 s i f next ws).1.length=4
  |0,_,_,h=>h
  |f+1,next,ws,h=>by
    unfold Q08;split
    · split
      · rfl
      exact y0r s i f _ _(by rw[z1j];exact h)
    exact h
theorem z40(s:ByteArray)(i:Int):(Q3g s i).1.length=4:=y0r s i _ _ _ rfl
theorem Q64(ws:List Int)(h:ws.length=4):(Tryz.prog.info? 204).map(·.size)=some(Q51 ws).size:=by rw[z11,h];exact Q80
theorem z7t(s:ByteArray)(i:Int)(w:World)(hs:s.size<=1000)(h0:0<=i)(h1:i<=s.size+1) :
    Calls Tryz.prog 153#[.string s,.int .i64 i]w fun e w'=>e=.returned(.tuple#[.agg(Q51(Q3g s i).1),.int .i64(Q3g s i).2.1,.bool(Q3g s i).2.2])/\Q0a w w':=by
  go_enter Tryz.func153,Tryz.ntmps153
  go_wp2;go_loopw [8](fun v wr=>∃(f:Nat)(next:Int)(ws:List Int),v=.int .i64 next/\Q08 s i f next ws=Q3g s i/\ws.length=4/\i<=next/\next<=s.size+1/\(s.size:Int)+5<=f+next /\
      wr.heap[w.heap.size]? = some(.cells(Q51 Q07)204(0,0)) /\
      wr.heap[w.heap.size+1]? = some(.cells(Q51 ws)204(0,0))/\Q0a w wr)
      (fun i _=>s.size+5-(intOf i).toNat)
  case atStart =>
    exact⟨s.size+5,i,Q07,rfl,rfl,rfl,by omega,by omega,by omega,heap_alloc2_old _ _ _,heap_alloc2_new _ _ _,((mRf _ _).alloc _).alloc _⟩
  obtain⟨f,next,ws,rfl,hR,hl,hn0,hn1,hfu,hb0,hb1,hf⟩:=hrel;obtain⟨f,rfl⟩:∃g,f=g+1:=⟨f-1,by omega⟩;unfold Q08 at hR;obtain⟨r1,r2,r3,r4,r5,r6,r7⟩:=z1k s next(by omega)
  have j1:Hid _:=hb0;have j2:Hid _:=hb1;clear hb0 hb1;by_cases hc:next=i∨atB s next≠93
  · rw[if_pos hc]at hR
    have j0:(next==i)=true∨(next==i)=false/\(atB s next != 93)=true:=by
      by_cases h:next=i
      · left;simpa using h
      right;exact⟨by simpa using h,by simp;omega⟩
    by_cases hok:(Q0m s next).2.2.2=false
    · rw[if_pos hok]at hR
      have HR:Hid _:=hR;have j3:(!(Q0m s next).2.2.2)=true:=by simp[hok]
      clear hR hok r7 hc;rcases j0 with j0|⟨j0,hc''⟩;all_goals
        go_wp2_with(first
          |(go_at_call 107;refine(z0v _ _ _(by unfold maxLen;omega)).mono ?_;rintro e w'⟨rfl,rfl⟩)
          |(go_at_call 155;refine(z52 _ _ _(by omega)(by omega)(by omega)).mono ?_;rintro e w'⟨rfl,rfl⟩)
          |(refine wpList_store_row rfl _ _ _ rfl w.heap.size(Q51 Q07)rfl rfl _ _ j1.out Q80 rfl(z09 _)?_))
        refine bodyPost_ret(z0h rfl _ _ w.heap.size 204 _(0,0)_ rfl(setRow_heap _ _ _ _ _ _ j1.out)Tryz.underlying204 rfl Q80)rfl⟨?_,hf.setRow(by simp)_⟩;rw[← HR.out];rfl
    rw[if_neg hok]at hR;have r8:=r7(by simpa using hok);have HR:Hid _:=hR;have j3:(!(Q0m s next).2.2.2)=false:=by simpa using hok
    have HL:Hid _:=hl;clear hR hok r7 hc hl;rcases j0 with j0|⟨j0,hc''⟩;all_goals
      go_wp2_with(first
        |(go_at_call 107;refine(z0v _ _ _(by unfold maxLen;omega)).mono ?_;rintro e w'⟨rfl,rfl⟩)
        |(go_at_call 155;refine(z52 _ _ _(by omega)(by omega)(by omega)).mono ?_;rintro e w'⟨rfl,rfl⟩)
        |(go_at_call 152;refine(y7x ws _ _ _ HL.out(by omega)(by omega)(by omega)(by omega)).mono ?_;rintro e w1⟨rfl,hf1⟩)
        |(refine wpList_load_row rfl _ _ rfl(w.heap.size+1)rfl _ _ _ _ j2.out Tryz.underlying204 rfl(Q64 _ HL.out)?_)
        |(refine wpList_store_row rfl _ _ _ rfl(w.heap.size+1)_ rfl rfl _ _(hf1.at j2.out(fun x=>x))(Q64 _(by rw[z1j];exact HL.out))(by rw[z11,z11,z1j])(z09 _)?_))
      go_roundw
      case rel =>
        refine⟨f,_,_,rfl,HR.out,by rw[z1j];exact HL.out,by omega,by omega,by omega,?_,?_,?_⟩
        · rw[setRow_other _ _ _ _(by omega)];exact hf1.at j1.out(fun x=>x)
        · exact setRow_heap _ _ _ _ _ _(hf1.at j2.out(fun x=>x))
        exact(hf.trans hf1).setRow(by simp)_
      simp[intOf];omega
  rw[if_neg hc]at hR;have j4:(next==i)=false:=by simp;omega
  have j5:(atB s next != 93)=false:=by simp;omega
  have HR:Hid _:=hR;have HL:Hid _:=hl;clear hR hc hl;go_wp2_with(first
    |(go_at_call 107;refine(z0v _ _ _(by unfold maxLen;omega)).mono ?_;rintro e w'⟨rfl,rfl⟩)
    |(refine wpList_load_row rfl _ _ rfl(w.heap.size+1)rfl _ _ _ _ j2.out Tryz.underlying204 rfl(Q64 _ HL.out)?_)
    |(refine wpList_store_row rfl _ _ _ rfl w.heap.size _ rfl rfl _ _ j1.out(Q64 _ HL.out)(by rw[z11,z11,HL.out];rfl)(z09 _)?_))
  refine bodyPost_ret(z0h rfl _ _ w.heap.size 204 _(0,0)_ rfl(setRow_heap _ _ _ _ _ _ j1.out)Tryz.underlying204 rfl(Q64 _ HL.out))rfl⟨?_,hf.setRow(by simp)_⟩;rw[← HR.out];rfl
theorem z0e{P:Program}{ops:Array Oper}{rest:List Oper}{o:Oper}{a:Act}{w:World}{Q:Exit->Act->World->Prop}(hgd:o.guard=none)(ty:TypeId)(x y:Operand)(ho:o.op=.store ty x y)
    (W:World)(c cells:Array Value)(t:TypeId)(hw:w=W.alloc(.cells c t))(hx:a.eval x=.pointer(some⟨W.heap.size,0,none⟩))(hy:a.eval y=.agg cells)
    (hi:(P.info? ty).map(·.size)=some cells.size)(hold:c.size=cells.size)(h1:cells.all(·.oneCell')=true)
    (h:wpList P ops Q rest(a.put o.dst undef)(W.alloc(.cells cells t))):wpList P ops Q(o::rest)a w:=by
  subst hw;exact wpList_store_row hgd ty x y ho W.heap.size cells hx hy t c(z0a _ _)hi hold h1(by rw[World.setRow_alloc_new];exact h)
theorem z0b{W:World}{o:Obj}{b:Nat}{x:Obj}(h:W.heap[b]? = some x):(W.alloc o).heap[b]? = some x:=by
  rw[z0w(z0j h)];exact h
theorem z0r{W:World}{g b:Nat}{cs:Array Value}{x:Obj}(h:W.heap[b]? = some x)(hne:b≠g):(W.setRow g cs).heap[b]? = some x:=by
  rw[setRow_other _ _ _ _ hne];exact h
theorem z0i{W:World}{a:Addr}{b:Nat}{v:Value}{x:Obj}(h:W.heap[b]? = some x)(hne:b≠a.block):(W.setCell a v).heap[b]? = some x:=by
  rw[heap_setCell_other _ hne];exact h
theorem y5o(s:ByteArray)(i:Int)(hi:0<=i):∀(f:Nat)(next:Int)(ws:List Int),i<=next->next<=s.size+1->(s.size:Int)+5<=f+next ->
    i<=(Q08 s i f next ws).2.1/\(Q08 s i f next ws).2.1<=s.size+6/\((Q08 s i f next ws).2.2=true->i<(Q08 s i f next ws).2.1/\(Q08 s i f next ws).2.1<=s.size)
  |0,next,ws,h1,h2,h3=>by omega
  |f+1,next,ws,h1,h2,h3=>by
    obtain⟨r1,r2,r3,r4,r5,r6,r7⟩:=z1k s next(by omega)
    unfold Q08;split
    · split
      · simp;omega
      rename_i h5;have r8:=r7(by simpa using h5);exact y5o s i hi f _ _(by omega)(by omega)(by omega)
    have:=z0q(s:=s)(i:=next)(by omega);simp;omega
theorem y9d(s:ByteArray)(i:Int)(h0:0<=i)(h1:i<=s.size+1) :
    i<=(Q3g s i).2.1/\(Q3g s i).2.1<=s.size+6/\((Q3g s i).2.2=true->i<(Q3g s i).2.1/\(Q3g s i).2.1<=s.size) :=
  y5o s i h0 _ _ _(by omega)(by omega)(by omega)
theorem z53(ws:List Int)(h:ws.length=4):(Q8z ws 4).length=4:=by rw[y9e];exact h
def rBr(s:ByteArray)(i:Int):List Int × Int × Bool :=
  if atB s i=94 then(Q8z(Q3g s(i+1)).1 4,(Q3g s(i+1)).2.1,(Q3g s(i+1)).2.2)else Q3g s i
theorem x4f(s:ByteArray)(i:Int):(rBr s i).1.length=4:=by
  unfold rBr;split
  · exact z53 _(z40 _ _)
  exact z40 _ _
theorem x25(s:ByteArray)(i:Int)(h0:0<=i)(h1:i<=s.size) :
    i<=(rBr s i).2.1/\(rBr s i).2.1<=s.size+6/\((rBr s i).2.2=true->i<(rBr s i).2.1/\(rBr s i).2.1<=s.size):=by
  unfold rBr;split
  · have:=y9d s(i+1)(by omega)(by omega);exact⟨by dsimp only;omega,by dsimp only;omega,fun h=>by have:=this.2.2 h;dsimp only;omega⟩
  exact y9d s i(by omega)(by omega)
theorem eq4{a b:Array Value}(ha:a.size=4)(hb:b.size=4):a.size=b.size:=ha.trans hb.symm
theorem u4{ws:List Int}(h:ws.length=4):(Q51 ws).size=4:=by rw[z11,h]
theorem x0n(s:ByteArray)(i:Int)(w:World)(hs:s.size<=1000)(h0:0<=i)(h1:i<=s.size) :
    Calls Tryz.prog 150#[.string s,.int .i64 i]w fun e w'=>e=.returned(.tuple#[.agg(Q51(rBr s i).1),.int .i64(rBr s i).2.1,.bool(rBr s i).2.2])/\Q0a w w':=by
  by_cases hc:atB s i=94
  · have j1:(atB s i==94)=true:=by simpa using hc
    have hR:rBr s i=(Q8z(Q3g s(i+1)).1 4,(Q3g s(i+1)).2.1,(Q3g s(i+1)).2.2):=by unfold rBr;rw[if_pos hc]
    rw[hR];have hl:=z53 _(z40 s(i+1));have HL:Hid _:=hl;have j0:Hid _:=z40 s(i+1);clear hc hR hl;go_enter Tryz.func150,Tryz.ntmps150
    go_wp2_with(first
      |(go_at_call 107;refine(z0v _ _ _(by unfold maxLen;omega)).mono ?_;rintro e w'⟨rfl,rfl⟩)
      |(go_at_call 153;refine(z7t _ _ _(by omega)(by omega)(by omega)).mono ?_;rintro e w1⟨rfl,hf1⟩;have hz:w.heap.size<w1.heap.size:=(by have:=hf1.size;simp at this;omega))
      |(go_at_call 149;refine(x4n _ _ j0.out).mono ?_;rintro e w2⟨rfl,hf2⟩)
      |(refine z0e rfl _ _ _ rfl w1 _ _ _ rfl rfl rfl(Q64 _ j0.out)(eq4 rfl(u4 j0.out))(z09 _)?_)
      |(refine wpList_load_row rfl _ _ rfl w1.heap.size rfl _ _ _ _(z0a _ _)Tryz.underlying204 rfl(Q64 _ j0.out)?_)
      |(refine wpList_store_row rfl _ _ _ rfl w1.heap.size _ rfl rfl _ _(hf2.at(z0a _ _)(fun x=>x))(Q64 _ HL.out)(eq4(u4 j0.out)(u4 HL.out))(z09 _)?_)
      |(refine wpList_load_row rfl _ _ rfl w1.heap.size rfl _ _ _ _(setRow_heap _ _ _ _ _ _(hf2.at(z0a _ _)(fun x=>x)))Tryz.underlying204 rfl(Q64 _ HL.out)?_)
      |(refine wpList_store_row rfl _ _ _ rfl w.heap.size _ rfl rfl _ _(z0r(hf2.at(z0b(hf1.at(z0a _ _)(fun x=>x)))(fun x=>x))(by omega))(Q64 _ HL.out)(eq4 rfl(u4 HL.out))(z09 _)?_))
    refine bodyPost_ret(z0h rfl _ _ w.heap.size 204 _(0,0)_ rfl(setRow_heap _ _ _ _ _ _(z0r(hf2.at(z0b(hf1.at(z0a _ _)(fun x=>x)))(fun x=>x))(by omega)))Tryz.underlying204 rfl(Q64 _ HL.out))rfl⟨rfl,?_⟩;exact(((((((mRf _ w).alloc _).trans hf1).alloc _).trans hf2).setRow(by omega)_).setRow(by simp)_)
  have j1:(atB s i==94)=false:=by simpa using hc
  have hR:rBr s i=Q3g s i:=by unfold rBr;rw[if_neg hc]
  rw[hR];have j0:Hid _:=z40 s i;clear hc hR;go_enter Tryz.func150,Tryz.ntmps150
  go_wp2_with(first
    |(go_at_call 107;refine(z0v _ _ _(by unfold maxLen;omega)).mono ?_;rintro e w'⟨rfl,rfl⟩)
    |(go_at_call 153;refine(z7t _ _ _(by omega)(by omega)(by omega)).mono ?_;rintro e w1⟨rfl,hf1⟩;have hz:w.heap.size<w1.heap.size:=(by have:=hf1.size;simp at this;omega))
    |(refine z0e rfl _ _ _ rfl w1 _ _ _ rfl rfl rfl(Q64 _ j0.out)(eq4 rfl(u4 j0.out))(z09 _)?_)
    |(refine wpList_load_row rfl _ _ rfl w1.heap.size rfl _ _ _ _(z0a _ _)Tryz.underlying204 rfl(Q64 _ j0.out)?_)
    |(refine wpList_store_row rfl _ _ _ rfl w.heap.size _ rfl rfl _ _(z0b(hf1.at(z0a _ _)(fun x=>x)))(Q64 _ j0.out)(eq4 rfl(u4 j0.out))(z09 _)?_))
  refine bodyPost_ret(z0h rfl _ _ w.heap.size 204 _(0,0)_ rfl(setRow_heap _ _ _ _ _ _(z0b(hf1.at(z0a _ _)(fun x=>x))))Tryz.underlying204 rfl(Q64 _ j0.out))rfl⟨rfl,?_⟩;exact(((((mRf _ w).alloc _).trans hf1).alloc _).setRow(by simp)_)
def Q2t(s:ByteArray)(i:Int):List Int × Int × Bool :=
  if atB s i=46 then(Q8z(Q2e Q07 10 10)4,i+1,true)
  else if atB s i=91 then rBr s(i+1)
  else if atB s i=92 then(Q2e Q07(Q2n s(i+1)).1(Q2n s(i+1)).1,(Q2n s(i+1)).2.1,(Q2n s(i+1)).2.2)
  else if Q03(atB s i)=false then(Q07,i,false)
  else(Q2e Q07(atB s i)(atB s i),i+1,true)
theorem x55(s:ByteArray)(i:Int):(Q2t s i).1.length=4:=by
  unfold Q2t;split
  · exact z53 _(z1j _ _ _)
  split
  · exact x4f _ _
  split
  · exact z1j _ _ _
  split
  · rfl
  exact z1j _ _ _
theorem y3c(s:ByteArray)(i:Int)(h0:0<=i) :
    i<=(Q2t s i).2.1/\(Q2t s i).2.1<=i+s.size+10/\((Q2t s i).2.2=true->i<(Q2t s i).2.1/\(Q2t s i).2.1<=s.size):=by
  have hb:=z8f s i;unfold Q2t;split
  · have:=z0q(s:=s)(i:=i)(by omega);simp;omega
  split
  · have:=z0q(s:=s)(i:=i)(by omega)
    have h2:=x25 s(i+1)(by omega)(by omega);exact⟨by omega,by omega,fun h=>by have:=h2.2.2 h;omega⟩
  split
  · have:=z0q(s:=s)(i:=i)(by omega)
    have h2:=z73 s(i+1)(by omega);exact⟨by dsimp only;omega,by dsimp only;omega,fun h=>by have:=h2.2.2.2.2 h;dsimp only;omega⟩
  split
  · simp;omega
  rename_i h5;have h7:32<=atB s i:=by unfold Q03 Q5g at h5;simp at h5;omega
  have:=z0q(s:=s)(i:=i)(by omega);simp;omega
end Go.Proofs.YtcpceafmlgaodaaGreat
