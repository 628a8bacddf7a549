import Derived.Test.YtcpceafmlgaodaaGreatCk7
import Derived.Deep.RegionWith
namespace Go.Proofs.YtcpceafmlgaodaaGreat
open Go.RowKit
set_option linter.all false
theorem y7o(s:ByteArray)(j:Nat)(h:j<s.size):atB s j=((s[j].toNat:Nat):Int):=by simp[atB,h]
def Q36(s:ByteArray)(a b:Int):Nat:=(List.range s.size).findIdx (fun j:Nat=>(atB s j==a)||(atB s j==b))
def StrsAt(w:World)(v:Value)(l:List ByteArray):Prop :=
 ∃a c,v=.slice a l.length c/\∀j (hj:j<l.length),∃g o,a=some ⟨g,o,none⟩/\w.cell? ⟨g,o+j,none⟩=some (.string l[j])
def Q1v(l:List ByteArray)(s:ByteArray):Int:=if l.findIdx (fun x=>x.toList==s.toList)<l.length then(l.findIdx (fun x=>x.toList==s.toList):Int) else -1
def Q68(s0:ByteArray):Nat->Nat->List ByteArray->List ByteArray
 |0,_,acc=>acc
 |f+1,k,acc =>
  if k<s0.size then
   Q68 s0 f (if k+Q36 (s0.extract k s0.size) 32 32<s0.size then k+Q36 (s0.extract k s0.size) 32 32+1 else k+Q36 (s0.extract k s0.size) 32 32)
    (if 0<Q36 (s0.extract k s0.size) 32 32 then acc++[s0.extract k (k+Q36 (s0.extract k s0.size) 32 32)] else acc)
  else acc
def wordsF(s0:ByteArray):List ByteArray:=Q68 s0 (s0.size+1) 0 []
theorem x9f(s:ByteArray):s.extract 0 s.size=s:=by
 apply qEb;simp[qDi]
theorem infoStr:(Tryz.prog.info? 9).map (fun i=>(i.zero,i.size,i.bytes))=some (some (.string ⟨#[]⟩),1,16):=by kernel_rfl
theorem Q8j:∃i,Tryz.prog.info? 9=some i/\i.zero=some (.string ⟨#[]⟩)/\i.size=1/\i.bytes=16:=nfoE infoStr
structure LO where
 rules:List ByteArray
 skip:List Bool
 heads:List ByteArray
 head:List Int
 names:List (List ByteArray)
 syms:List (List Int)
abbrev Q9t(l:List ByteArray):List Value:=l.map Value.string
abbrev Q9w(l:List Int):List Value:=l.map (Value.int .i64)
abbrev Q3y(l:List Bool):List Value:=l.map Value.bool
theorem x5t(s:ByteArray):∀(f i:Nat) (acc:List UInt8),s.size-i<=f->ByteArray.toList.loop s i acc=acc.reverse++(s.data.toList.drop i):=by
 intro f;induction f with
 |zero =>
  intro i acc h;unfold ByteArray.toList.loop;have:¬i<s.size:=by omega
  rw[qAa this,qAi (by have:s.size=s.data.size:=rfl;simp;omega)];simp
 |succ f ih =>
  intro i acc h;unfold ByteArray.toList.loop;by_cases hi:i<s.size
  ·rw[qAb hi,ih (i+1) _ (by omega)];have j0:i<s.data.toList.length:=by have:s.size=s.data.size:=rfl;simp;omega
   rw[qC j0];have:s.get! i=s.data.toList[i]:=by
    have j1:i<s.data.size:=hi;simp only[ByteArray.get!,Array.getElem_toList];exact getElem!_pos s.data i j1
   rw[this];simp
  rw[qAa hi,qAi (by have:s.size=s.data.size:=rfl;simp;omega)];simp
theorem btl(s:ByteArray):s.toList=s.data.toList:=by
 unfold ByteArray.toList;rw[x5t s s.size 0 [] (by omega)];simp
section
variable {w W w1:World}{b:Nat}{x:LO}{v0 v1 v2 v3 v4 v5 v':Value}{nv sv:List Value}
abbrev UpB(b:Nat):World->World->Prop:=Mod (fun k=>b<=k)
end
def Q9h(s:ByteArray)(x:LO):LO :=
 if s.size=0 then x
 else if 97<=atB s 0/\atB s 0<=122 then
  {x with rules:=x.rules++[s.extract 0 (Q36 s 61 126)],skip:=x.skip++[decide (Q36 s 61 126<s.size)&&(atB s (Q36 s 61 126)==126)]}
 else
  {x with
   heads:=if Q1v x.heads (s.extract 0 (Q36 s 58 58))<0 then x.heads++[s.extract 0 (Q36 s 58 58)] else x.heads
   head:=x.head++[if Q1v x.heads (s.extract 0 (Q36 s 58 58))<0 then(x.heads.length:Int) else Q1v x.heads (s.extract 0 (Q36 s 58 58))]
   names:=x.names++[(wordsF (s.extract (Q36 s 58 58) s.size)).drop 1]}
attribute [local go_sem ↓] z13
theorem infoInt:(Tryz.prog.info? 3).map (fun i=>(i.zero,i.size,i.bytes))=some (some (.int .i64 0),1,8):=by kernel_rfl
theorem Q6o:∃i,Tryz.prog.info? 3=some i/\i.zero=some (.int .i64 0)/\i.size=1/\i.bytes=8:=nfoE infoInt
theorem infoIs:(Tryz.prog.info? 22).map (fun i=>(i.zero,i.size,i.bytes))=some (some (.slice none 0 0),1,24):=by kernel_rfl
theorem infoIs':∃i,Tryz.prog.info? 22=some i/\i.zero=some (.slice none 0 0)/\i.size=1/\i.bytes=24:=nfoE infoIs
theorem z69{w:World}{base:Nat}{e:TypeId}{v:Value}{n:Nat}{l:List ByteArray}(h:w.ownsRow base e 1 v n (Q9t l)):StrsAt w v l:=by
 have hn:n=l.length:=by have:=h.1;simp at this;omega
 subst hn;rcases Joins.ownsRow_forms h with⟨rfl,h0⟩|⟨g,cap,rfl⟩
 ·exact⟨none,0,by rw[h0],fun j hj=>by omega⟩
 refine⟨_,_,rfl,fun j hj=>⟨g,0,rfl,?_⟩⟩;have:=h.cells (g:=g) rfl j (.string l[j]) (by simp[hj]);rwa [Addr.add_mid]at this
attribute [local go_sem ↓] z13
def Q9z(s0:ByteArray):Nat->Nat->LO->LO
 |0,_,x=>x
 |f+1,k,x =>
  if k<s0.size then
   Q9z s0 f (if k+Q36 (s0.extract k s0.size) 10 10<s0.size then k+Q36 (s0.extract k s0.size) 10 10+1 else k+Q36 (s0.extract k s0.size) 10 10)
    (Q9h (s0.extract k (k+Q36 (s0.extract k s0.size) 10 10)) x)
  else x
def Q86:LO:=⟨[],[],[],[],[],[]⟩
def linesX(s:ByteArray):LO:=Q9z s (s.size+1) 0 Q86
section
variable {w:World}{b:Nat}{x:LO}{v0 v1 v2 v3 v4 v5:Value}{nv sv:List Value}
end
def crK(ns:List Q0o)(st:Int)(s:ByteArray)(i:Nat):Nat->List Nat
 |0=>Q1c ns.length [] st
 |k+1=>Q50 ns s (i+k) (Q1x ns (crK ns st s i k))
def Q8u(ns:List Q0o)(st en:Int)(s:ByteArray)(i k:Nat):Bool:=Q67 ns.length (Q1x ns (crK ns st s i k)) en
theorem z90(ns:List Q0o):Q1x ns []=[]:=by unfold Q1x Q22;simp
theorem y9v(n:Nat)(en:Int):Q67 n [] en=false:=by simp[Q67]
theorem x3l(ns:List Q0o)(s:ByteArray)(i:Nat):Q50 ns s i []=[]:=by unfold Q50;split<;>simp[Q46]
theorem x9e{ns:List Q0o}{st:Int}{s:ByteArray}{i k:Nat}(h:crK ns st s i k=[]):∀j,crK ns st s i (k+j)=[]:=by
 intro j;induction j with
 |zero=>exact h
 |succ j ih =>
  show Q50 ns s (i+(k+j)) (Q1x ns (crK ns st s i (k+j)))=[];rw[ih,z90,x3l]
theorem x5q{ns:List Q0o}{st en:Int}{s:ByteArray}{i k:Nat}(h:crK ns st s i k=[])(j:Nat)(hj:k<=j):Q8u ns st en s i j=false:=by
 have:=x9e h (j-k);rw[show k+(j-k)=j by omega]at this;unfold Q8u;rw[this,z90,y9v]
theorem x4n(ns:List Q0o)(st en:Int)(s:ByteArray)(i:Nat):∀(f k:Nat) (best:Int),s.size+2<=f+(i+k) ->
  (∃j,k<=j/\i+j<=s.size/\Q8u ns st en s i j=true/\runL ns en s f (i+k) (crK ns st s i k) best=((i+j:Nat):Int)/\∀j',j<j'->i+j'<=s.size->Q8u ns st en s i j'=false) ∨
  (runL ns en s f (i+k) (crK ns st s i k) best=best/\∀j,k<=j->i+j<=s.size->Q8u ns st en s i j=false):=by
 intro f;induction f with
 |zero =>
  intro k best hf;right;refine⟨rfl,fun j hj h=>?_⟩;omega
 |succ f ih =>
  intro k best hf;unfold runL;by_cases hc:i+k<=s.size/\0<(crK ns st s i k).length
  ·rw[qAb hc];have e:Q50 ns s (i+k) (Q1x ns (crK ns st s i k))=crK ns st s i (k+1):=rfl;rw[e];have e2:Q67 ns.length (Q1x ns (crK ns st s i k)) en=Q8u ns st en s i k:=rfl;rw[e2];rcases ih (k+1) (if Q8u ns st en s i k=true then((i+k:Nat):Int) else best) (by omega)with⟨j,h1,h2,h3,h4,h5⟩|⟨h1,h2⟩
   ·left;exact⟨j,by omega,h2,h3,h4,h5⟩
   cases ha:Q8u ns st en s i k
   ·right;rw[ha]at h1;refine⟨by simpa [qCm]using h1,fun j hj hl=>?_⟩;by_cases hjk:j=k
    ·rw[hjk];exact ha
    exact h2 j (by omega) hl
   left;rw[ha]at h1;exact⟨k,qR _,hc.1,ha,by simpa [qCm]using h1,fun j' hj hl=>h2 j' (by omega) hl⟩
  rw[qAa hc];right;refine⟨rfl,fun j hj hl=>?_⟩;have:crK ns st s i k=[]:=by
   cases hq:crK ns st s i k with
   |nil=>rfl
   |cons a l=>rw[hq]at hc;simp at hc;omega
  exact x5q this j hj
theorem y9y(ns:List Q0o)(st en:Int)(s:ByteArray)(i:Nat) :
  (∃j,i+j<=s.size/\Q8u ns st en s i j=true/\Q72 ns st en s i=((i+j:Nat):Int)/\∀j',j<j'->i+j'<=s.size->Q8u ns st en s i j'=false) ∨
  (Q72 ns st en s i=-1/\∀j,i+j<=s.size->Q8u ns st en s i j=false):=by
 rcases x4n ns st en s i (s.size+2) 0 (-1) (by omega)with⟨j,_,h2,h3,h4,h5⟩|⟨h1,h2⟩
 ·exact .inl ⟨j,h2,h3,h4,h5⟩
 exact .inr ⟨h1,fun j hj=>h2 j (by omega) hj⟩
theorem x9d(ns:List Q0o)(st:Int)(t:ByteArray)(i n:Nat)(hn:i+n<=t.size):∀k,k<=n->crK ns st (t.extract i (i+n)) 0 k=crK ns st t i k:=by
 intro k;induction k with
 |zero=>intro _;rfl
 |succ k ih =>
  intro hk;show Q50 ns (t.extract i (i+n)) (0+k) _=Q50 ns t (i+k) _;rw[ih (by omega)];unfold Q50;have h1:0+k<(t.extract i (i+n)).size:=by rw[qAz];omega
  have h2:i+k<t.size:=by omega
  rw[qEi h1,qEi h2];have e:(t.extract i (i+n))[0+k]=t[i+k]:=by
   rw[ByteArray.getElem_extract];congr 1;omega
  rw[e]
theorem x3i(x:Ln)(t:ByteArray)(i n:Nat)(hn:i+n<=t.size):Q5t x (t.extract i (i+n))=Q8u x.ns x.st x.en t i n:=by
 have j0:(t.extract i (i+n)).size=n:=by rw[qAz];omega
 have ha:∀k,k<=n->Q8u x.ns x.st x.en (t.extract i (i+n)) 0 k=Q8u x.ns x.st x.en t i k:=fun k hk=>by
  unfold Q8u;rw[x9d x.ns x.st t i n hn k hk]
 unfold Q5t;rw[j0,← ha n (qR _)];rcases y9y x.ns x.st x.en (t.extract i (i+n)) 0 with⟨j,h1,h2,h3,h4⟩|⟨h1,h2⟩
 ·rw[j0]at h1 h4;rw[h3];by_cases hj:j=n
  ·subst hj;rw[h2];simp
  rw[h4 n (by omega) (by omega)];simp;omega
 rw[h1,h2 n (by rw[j0];omega)];simp
abbrev far(x:Ln)(t:ByteArray)(i:Nat):Int:=Q72 x.ns x.st x.en t i
def Q1g(s:ByteArray)(i j:Int):Prop:=∀k,i<=k->k<j->32<=atB s k
theorem Q1g.one{s:ByteArray}{i:Int}(h:32<=atB s i):Q1g s i (i+1):=fun k h1 h2=>by
 have:k=i:=by omega
 subst this;exact h
theorem Q1g.trans{s:ByteArray}{i j k:Int}(h:Q1g s i j)(h2:Q1g s j k):Q1g s i k:=fun m h3 h4=>by
 by_cases e:m<j
 ·exact h m h3 e
 exact h2 m (by omega) h4
theorem Q1g.nil{s:ByteArray}{i:Int}:Q1g s i i:=fun k h1 h2=>by omega
theorem v0h{c:Int}(h:Q4e c=true):32<=c:=by simp[Q4e]at h;omega
theorem x61{c:Int}(h:Q01 c=true):32<=c:=by simp[Q01]at h;exact v0h h.2
theorem z9n{s:ByteArray}{i:Int}(h:(Q2g s i).2.2=true):Q1g s i (Q2g s i).2.1:=by
 unfold Q2g at h ⊢;split
 ·rename_i e;exact Q1g.one (by omega)
 split
 ·rename_i e;exact Q1g.one (by omega)
 split
 ·rename_i h1 h2 h3;rw[qAa h1,qAa h2,qAb h3]at h;cases h
 rename_i h3;apply Q1g.one;simp at h3;exact v0h h3.1.1.1
theorem y07{s:ByteArray}{i:Int}(h:(Q1p s i).2.2=true):Q1g s i (Q1p s i).2.1:=by
 unfold Q1p at h ⊢;split
 ·rename_i e;rw[qAb e]at h;exact(Q1g.one (by omega)).trans (z9n h)
 rename_i e;rw[qAa e]at h;split
 ·rename_i e2;rw[qAb e2]at h;cases h
 rename_i e2;rw[qAa e2]at h;split
 ·rename_i e3;rw[qAb e3]at h;cases h
 rename_i e3;exact Q1g.one (v0h (by simpa using e3))
theorem y4u{s:ByteArray}{i:Int}(h:(Q0m s i).2.2.2=true):Q1g s i (Q0m s i).2.2.1:=by
 unfold Q0m at h ⊢;split
 ·rename_i e;rw[qAb e]at h;cases h
 rename_i e;rw[qAa e]at h;have c1:=y07 (s:=s) (i:=i) (by simpa using e);split
 ·exact c1
 rename_i e2;rw[qAa e2]at h;split
 ·rename_i e3;rw[qAb e3]at h;cases h
 rename_i e3;rw[qAa e3]at h;have c2:=y07 (s:=s) (i:=(Q1p s i).2.1+1) (by simpa using e3);split
 ·rename_i e4;rw[qAb e4]at h;cases h
 exact(c1.trans (Q1g.one (by omega))).trans c2
theorem z45{s:ByteArray}{i j:Int}:∀(f:Nat) (next:Int) (ws:List Int),Q1g s j next->(Q05 s i f next ws).2.2=true->Q1g s j (Q05 s i f next ws).2.1
 |0,next,ws,hc,h=>by simp[Q05]at h
 |f+1,next,ws,hc,h=>by
  unfold Q05 at h ⊢;split
  ·rename_i e;rw[qAb e]at h;split
   ·rename_i e2;rw[qAb e2]at h;cases h
   rename_i e2;rw[qAa e2]at h;exact z45 f _ _ (hc.trans (y4u (by simpa using e2))) h
  rename_i e;have:atB s next=93:=by
   by_cases h1:atB s next=93
   ·exact h1
   exact absurd (.inr h1) e
  exact hc.trans (Q1g.one (by omega))
theorem x4b{s:ByteArray}{i:Int}(h:(rBr s i).2.2=true):Q1g s i (rBr s i).2.1:=by
 unfold rBr at h ⊢;split
 ·rename_i e;rw[qAb e]at h;exact z45 _ _ _ (Q1g.one (by omega)) h
 rename_i e;rw[qAa e]at h;exact z45 _ _ _ Q1g.nil h
theorem y1e{s:ByteArray}{i:Int}(h:(Q2n s i).2.2=true):Q1g s i (Q2n s i).2.1:=by
 unfold Q2n at h ⊢;split
 ·exact Q1g.one (by omega)
 rename_i e1;rw[qAa e1]at h;split
 ·rename_i e;rw[qAb e]at h;exact(Q1g.one (by omega)).trans (x4b h)
 rename_i e2;rw[qAa e2]at h;split
 ·rename_i e;rw[qAb e]at h;exact(Q1g.one (by omega)).trans (z9n h)
 rename_i e3;rw[qAa e3]at h;split
 ·rename_i e;rw[qAb e]at h;cases h
 rename_i e;exact Q1g.one (x61 (by simpa using e))
def Q54(s:ByteArray)(f:Int->List Q0o->PR):Prop:=∀(i:Int) (ns:List Q0o),(f i ns).ok=true->Q1g s i (f i ns).next
theorem x9y{c:Int}(h:Q1q c=true):32<=c:=by simp[Q1q]at h;omega
theorem z7j{s:ByteArray}{i:Int}:∀(f:Nat) (r:PR),(r.ok=true->Q1g s i r.next)->(Q3o s f r).ok=true->Q1g s i (Q3o s f r).next
 |0,r,hr,h=>hr h
 |f+1,r,hr,h=>by
  unfold Q3o at h ⊢;split
  ·rename_i e;rw[qAb e]at h;simp only[qAc]at e;exact z7j f _ (fun _=>(hr e.1).trans (Q1g.one (x9y e.2))) h
  rename_i e;rw[qAa e]at h;exact hr h
theorem z8p{a:Int->List Q0o->PR}{s:ByteArray}(ha:Q54 s a):Q54 s (Q7n a s):=fun i ns h=>z7j _ _ (ha i ns) h
theorem z53{p:Int->List Q0o->PR}{s:ByteArray}(hp:Q54 s p){i:Int}:∀(f:Nat) (r:PR),(r.ok=true->Q1g s i r.next)->(Q2k p s f r).ok=true->Q1g s i (Q2k p s f r).next
 |0,r,hr,h=>hr h
 |f+1,r,hr,h=>by
  unfold Q2k at h ⊢;split
  ·rename_i e;rw[qAb e]at h;simp only[qAc]at e;refine z53 hp f _ (fun hj=>?_) h;unfold Q69 at hj ⊢;split
   ·rename_i e2;exact(hr e.1).trans (hp _ _ e2)
   rename_i e2;rw[qAa e2]at hj;cases hj
  rename_i e;rw[qAa e]at h;exact hr h
theorem z7h{p:Int->List Q0o->PR}{s:ByteArray}(hp:Q54 s p):Q54 s (Q6c p s):=fun i ns h=>z53 hp _ _ (hp i ns) h
theorem z54{p:Int->List Q0o->PR}{s:ByteArray}(hp:Q54 s p){i:Int}:∀(f:Nat) (r:PR),(r.ok=true->Q1g s i r.next)->(Q2l p s f r).ok=true->Q1g s i (Q2l p s f r).next
 |0,r,hr,h=>hr h
 |f+1,r,hr,h=>by
  unfold Q2l at h ⊢;split
  ·rename_i e;rw[qAb e]at h;simp only[qAc,qAx]at e;refine z54 hp f _ (fun hj=>?_) h;unfold Q31 at hj ⊢;split
   ·rename_i e2;exact((hr e.1).trans (Q1g.one (by omega))).trans (hp _ _ e2)
   rename_i e2;rw[qAa e2]at hj;cases hj
  rename_i e;rw[qAa e]at h;exact hr h
theorem z7i{p:Int->List Q0o->PR}{s:ByteArray}(hp:Q54 s p):Q54 s (Q6d p s):=fun i ns h=>z54 hp _ _ (hp i ns) h
theorem y6a{c:Int->List Q0o->PR}{s:ByteArray}(hc:Q54 s c)(i:Int)(ns:List Q0o)(hi:atB s i=40)(h:(Q5s c s i ns).ok=true):Q1g s i (Q5s c s i ns).next:=by
 unfold Q5s at h ⊢;split
 ·rename_i e;rw[qAb e]at h;cases h
 rename_i e;rw[qAa e]at h;split
 ·rename_i e2;rw[qAb e2]at h;cases h
 rename_i e2;exact((Q1g.one (by omega)).trans (hc _ _ (by simpa using e))).trans (Q1g.one (by omega))
theorem z8o{g:Int->List Q0o->PR}{s:ByteArray}(hg:∀i ns,atB s i=40->(g i ns).ok=true->Q1g s i (g i ns).next):Q54 s (Q5p g s):=by
 intro i ns h;unfold Q5p at h ⊢;split
 ·rename_i e;rw[qAb e]at h;exact hg i ns e h
 rename_i e;rw[qAa e]at h;split
 ·rename_i e2;rw[qAb e2]at h;cases h
 rename_i e2;exact y1e (by simpa using e2)
theorem y7s(s:ByteArray):∀(k:Nat) (i:Int) (ns:List Q0o),atB s i=40->(gK s k i ns).ok=true->Q1g s i (gK s k i ns).next
 |0,i,ns,hi,h=>by simp[gK]at h
 |k+1,i,ns,hi,h=>y6a (z7i (z7h (z8p (z8o (y7s s k))))) i ns hi h
theorem y6z{s:ByteArray}{i:Int}(h:(Q1o s i).ok=true):Q1g s i (Q1o s i).next :=
 z7i (z7h (z8p (z8o (y7s s 6)))) i [] h
theorem z3u(s:ByteArray)(a e k:Nat)(he:e<=s.size)(hk:a+k<e):atB (s.extract a e) (k:Nat)=atB s ((a:Int)+k):=by
 have h1:k<(s.extract a e).size:=by rw[qAz];omega
 have h2:a+k<s.size:=by omega
 rw[y7o _ k h1];have:((a:Int)+(k:Int))=((a+k:Nat):Int):=by omega
 rw[this,y7o s (a+k) h2,ByteArray.getElem_extract]
theorem z7a(s:ByteArray)(a e c:Nat)(x y:Int)(he:e<=s.size)(hc:a+c<=e)(h1:∀k:Nat,k<c->atB s ((a:Int)+k)≠x/\atB s ((a:Int)+k)≠y)
  (h2:a+c=e∨atB s ((a:Int)+c)=x∨atB s ((a:Int)+c)=y):Q36 (s.extract a e) x y=c:=by
 have j0:(s.extract a e).size=e-a:=by rw[qAz];omega
 unfold Q36;rw[j0];by_cases hce:a+c=e
 ·have hl:(List.range (e-a)).length=c:=by simp;omega
  rw[qCv]
  ·exact hl
  intro j hj;have j1:j<e-a:=by simpa using hj
  rw[z3u s a e j he (by omega)];have:=h1 j (by omega);simp[this.1,this.2]
 rw[List.findIdx_eq (by simp;omega)];simp only[List.getElem_range];refine⟨?_,?_⟩
 ·rw[z3u s a e c he (by omega)];rcases h2 with h2|h2|h2
  ·omega
  ·simp[h2]
  simp[h2]
 intro j hj;rw[z3u s a e j he (by omega)];have:=h1 j hj;simp[this.1,this.2]
structure WordAt(s:ByteArray)(i:Int)(m:Nat)(d:Wd):Prop where
 pos:1<=m
 le:m<=8
 first:Q0l (atB s i)=true∨Q1a (atB s i)=true
 rest:∀k:Nat,1<=k->k<m->Q0l (atB s (i+k))=true
 ls:d.ls=(List.range 8).map (fun k:Nat=>if k<m then atB s (i+k) else 0)
 place:d.place=i
theorem y8v{c:Int}(h:Q0l c=true):65<=c/\c<=122:=by have:=y2r h;omega
theorem v04{c:Int}(h:Q1a c=true):65<=c/\c<=122:=by have:=x1j h;omega
theorem WordAt.byte{s:ByteArray}{i:Int}{m:Nat}{d:Wd}(h:WordAt s i m d)(k:Nat)(hk:k<m):65<=atB s (i+k)/\atB s (i+k)<=122:=by
 by_cases e:k=0
 ·subst e;have:=h.first;simp only[qDj,qCs]at *;rcases this with h|h
  ·exact y8v h
  exact v04 h
 exact y8v (h.rest k (by omega) hk)
theorem v0e(s:ByteArray)(i:Int)(n:Nat)(hn:n<8) :
  ((List.range 8).map (fun k:Nat=>if k<n then atB s (i+k) else 0)).set n (atB s (i+n))=(List.range 8).map (fun k:Nat=>if k<n+1 then atB s (i+k) else 0):=by
 apply qDu
 ·simp
 intro j h1 h2;simp only[qAo,List.length_range]at h2;rw[List.getElem_set];simp only[qBt,List.getElem_range];by_cases e:n=j
 ·subst e;simp
 rw[qAa e];by_cases e2:j<n
 ·rw[qAb e2,qAb (by omega)]
 rw[qAa e2,qAa (by omega)]
theorem y4x(s:ByteArray)(i:Int):∀(f n:Nat) (ls:List Int),1<=n->n<=8->9<=f+n->ls=(List.range 8).map (fun k:Nat=>if k<n then atB s (i+k) else 0) ->
  (∀k:Nat,1<=k->k<n->Q0l (atB s (i+k))=true) ->
  ∃m:Nat,1<=m/\m<=8/\(Q2h s i f n ls).2=i+m/\(Q2h s i f n ls).1=(List.range 8).map (fun k:Nat=>if k<m then atB s (i+k) else 0)/\∀k:Nat,1<=k->k<m->Q0l (atB s (i+k))=true
 |0,n,ls,h1,h2,h3,h4,h5=>⟨n,h1,h2,rfl,h4,h5⟩
 |f+1,n,ls,h1,h2,h3,h4,h5=>by
  unfold Q2h;split
  ·rename_i hn;split
   ·rename_i hsm;refine y4x s i f (n+1) _ (by omega) (by omega) (by omega) ?_ ?_
    ·rw[h4];exact v0e s i n hn
    intro k hk1 hk2;by_cases e:k=n
    ·subst e;exact hsm
    exact h5 k hk1 (by omega)
   exact⟨n,h1,h2,rfl,h4,h5⟩
  rename_i hn;have:n=8:=by omega
  subst this;exact⟨8,by omega,by omega,rfl,h4,h5⟩
theorem z8a(s:ByteArray)(i:Int)(h:(Q06 s i).2.2=true):∃m:Nat,WordAt s i m (Q06 s i).1/\(Q06 s i).2.1=i+m:=by
 unfold Q06 at h ⊢;split
 ·rename_i e;rw[qAb e]at h;cases h
 rename_i e;obtain⟨m,h1,h2,h3,h4,h5⟩:=y4x s i 9 1 (zero8.set 0 (atB s i)) (by omega) (by omega) (by omega) (by simp[zero8,List.range,List.range.loop]) (by intro k h1 h2;omega);refine⟨m,⟨h1,h2,?_,h5,h4,rfl⟩,h3⟩;simp at e;cases hs:Q0l (atB s i)
 ·exact .inr (e hs)
 exact .inl rfl
theorem y5l{s:ByteArray}{a b m n:Nat}{d d':Wd}(h:WordAt s a m d)(h':WordAt s b n d')(ha:a+m<=s.size)(hb:b+n<=s.size)(hl:d.ls=d'.ls):(s.extract a (a+m)).toList=(s.extract b (b+n)).toList:=by
 have hk:∀k:Nat,k<8->(if k<m then atB s ((a:Int)+k) else 0)=(if k<n then atB s ((b:Int)+k) else 0):=by
  intro k hk;have e1:d.ls[k]? = some (if k<m then atB s ((a:Int)+k) else 0):=by rw[h.ls];simp[hk]
  have e2:d'.ls[k]? = some (if k<n then atB s ((b:Int)+k) else 0):=by rw[h'.ls];simp[hk]
  rw[hl,e2]at e1;simpa using e1.symm
 have j0:m=n:=by
  have:=h.le;have:=h'.le;by_cases e1:m<n
  ·have h1:=hk m (by omega);rw[qAa (by omega),qAb e1]at h1;have:=h'.byte m e1;omega
  by_cases e2:n<m
  ·have h1:=hk n (by omega);rw[qAb e2,qAa (by omega)]at h1;have:=h.byte n e2;omega
  omega
 subst j0;rw[btl,btl];have hA:(s.extract a (a+m)).size=m:=by rw[qAz];omega
 have hB:(s.extract b (b+m)).size=m:=by rw[qAz];omega
 apply qDu
 ·simp only[qDr];exact hA.trans hB.symm
 intro j h1 h2;have hj:j<m:=by rw[qDr]at h1;exact hA▸h1
 have h3:=hk j (by have:=h.le;omega);rw[qAb hj,qAb hj]at h3;have e1:=z3u s a (a+m) j ha (by omega);have e2:=z3u s b (b+m) j hb (by omega);rw[← e1,← e2,y7o _ j (by omega),y7o _ j (by omega)]at h3;simp only[Array.getElem_toList];have h4:(s.extract a (a+m))[j].toNat=(s.extract b (b+m))[j].toNat:=by omega
 exact UInt8.toNat_inj.1 h4
end Go.Proofs.YtcpceafmlgaodaaGreat
