import Derived.Test.YtcpceafmlgaodaaGreatBld1
namespace Go.Proofs.YtcpceafmlgaodaaGreat
open Go.RowKit
set_option maxRecDepth 99999
set_option maxHeartbeats 0
set_option linter.all false
structure PR where
 st:Int
 en:Int
 next:Int
 ok:Bool
 ns:List Q0o
def Q5p(g:Int->List Q0o->PR)(s:ByteArray)(i:Int)(ns:List Q0o):PR :=
 if atB s i=40 then g i ns
 else if(Q2n s i).2.2=false then⟨0,0,(Q2n s i).2.1,false,ns⟩
 else⟨ns.length+1,ns.length,(Q2n s i).2.1,true,Q8o ns (Q2n s i).1⟩
def Q1q(c:Int):Bool:=c==42||c==43||c==63
def Q3o(s:ByteArray):Nat->PR->PR
 |0,r=>r
 |f+1,r =>
  if(r.ok&&Q1q (atB s r.next))=true then Q3o s f ⟨r.ns.length,r.ns.length+1,r.next+1,true,Q13 r.ns r.st r.en (atB s r.next)⟩
  else r
def Q7n(a:Int->List Q0o->PR)(s:ByteArray)(i:Int)(ns:List Q0o):PR:=Q3o s (s.size+5) (a i ns)
def Q69(r p:PR):PR:=if p.ok then⟨r.st,p.en,p.next,true,Q1e p.ns r.en p.st⟩ else⟨r.st,r.en,p.next,false,p.ns⟩
def Q2k(p:Int->List Q0o->PR)(s:ByteArray):Nat->PR->PR
 |0,r=>r
 |f+1,r=>if(r.ok&&Q2r s r.next)=true then Q2k p s f (Q69 r (p r.next r.ns)) else r
def Q6c(p:Int->List Q0o->PR)(s:ByteArray)(i:Int)(ns:List Q0o):PR:=Q2k p s (s.size+5) (p i ns)
def Q31(r p:PR):PR:=if p.ok then⟨p.ns.length,p.ns.length+1,p.next,true,Q30 p.ns r.st r.en p.st p.en⟩ else⟨r.st,r.en,p.next,false,p.ns⟩
def Q2l(p:Int->List Q0o->PR)(s:ByteArray):Nat->PR->PR
 |0,r=>r
 |f+1,r=>if(r.ok&&(atB s r.next==124))=true then Q2l p s f (Q31 r (p (r.next+1) r.ns)) else r
def Q6d(p:Int->List Q0o->PR)(s:ByteArray)(i:Int)(ns:List Q0o):PR:=Q2l p s (s.size+5) (p i ns)
def Q5s(c:Int->List Q0o->PR)(s:ByteArray)(i:Int)(ns:List Q0o):PR :=
 if(c (i+1) ns).ok=false then⟨0,0,(c (i+1) ns).next,false,(c (i+1) ns).ns⟩
 else if atB s (c (i+1) ns).next≠41 then⟨0,0,(c (i+1) ns).next,false,(c (i+1) ns).ns⟩
 else⟨(c (i+1) ns).st,(c (i+1) ns).en,(c (i+1) ns).next+1,true,(c (i+1) ns).ns⟩
def gK(s:ByteArray):Nat->Int->List Q0o->PR
 |0=>fun i ns=>⟨0,0,i,false,ns⟩
 |k+1=>Q5s (Q6d (Q6c (Q7n (Q5p (gK s k) s) s) s) s) s
def chK(s:ByteArray)(k:Nat):Int->List Q0o->PR:=Q6d (Q6c (Q7n (Q5p (gK s k) s) s) s) s
structure Q8h(s:ByteArray)(i:Int)(n0:Nat)(r:PR):Prop where
 lo:i<=r.next
 hi:r.next<=2*s.size+20
 good:r.ok=true->i<r.next/\r.next<=s.size
 cnt:(r.ns.length:Int)<=n0+2*(r.next-i)
def Q5l(s:ByteArray)(f:Int->List Q0o->PR):Prop:=∀(i:Int) (ns:List Q0o),0<=i->i<=s.size->Q8h s i ns.length (f i ns)
theorem x2f{g:Int->List Q0o->PR}{s:ByteArray}(hg:Q5l s g):Q5l s (Q5p g s):=by
 intro i ns h0 h1;have hb:=y2j s i h0;unfold Q5p;split
 ·exact hg i ns h0 h1
 split
 ·exact⟨hb.1,by dsimp only;omega,by simp,by dsimp only;omega⟩
 rename_i h3;have h4:=hb.2.2 (by simpa using h3);exact⟨hb.1,by dsimp only;omega,fun _=>h4,by dsimp only;rw[x6r];omega⟩
theorem z8z(s:ByteArray)(i:Int)(n0:Nat)(hi:0<=i):∀(f:Nat) (r:PR),Q8h s i n0 r->Q8h s i n0 (Q3o s f r)
 |0,r,h=>h
 |f+1,r,h=>by
  unfold Q3o;split
  ·rename_i h3;simp only[qAc]at h3;have h4:=h.good h3.1;have h5:atB s r.next≠-1:=by intro e;rw[e]at h3;simp[Q1q]at h3
   have h6:=z0q h5;exact z8z s i n0 hi f _ ⟨by dsimp only;omega,by dsimp only;omega,fun _=>by dsimp only;omega,by dsimp only;rw[z9t];have:=h.cnt;omega⟩
  exact h
theorem z35{a:Int->List Q0o->PR}{s:ByteArray}(ha:Q5l s a):Q5l s (Q7n a s):=by
 intro i ns h0 h1;exact z8z s i _ h0 _ _ (ha i ns h0 h1)
theorem y0t{s:ByteArray}{i:Int}{n0:Nat}{r p:PR}(h0:0<=i)(h:Q8h s i n0 r)(hok:r.ok=true)(hp:Q8h s r.next r.ns.length p):Q8h s i n0 (Q69 r p):=by
 have h4:=h.good hok;have h7:=hp.cnt;have h8:=h.cnt;unfold Q69;split
 ·rename_i h5;have h6:=hp.good h5;exact⟨by dsimp only;omega,by dsimp only;omega,fun _=>by dsimp only;omega,by dsimp only;rw[z0n];omega⟩
 exact⟨by have:=hp.lo;dsimp only;omega,hp.hi,by simp,by dsimp only;omega⟩
theorem z7m{s:ByteArray}{i:Int}{n0:Nat}{r p:PR}(h0:0<=i)(h:Q8h s i n0 r)(hok:r.ok=true)(hp:Q8h s (r.next+1) r.ns.length p):Q8h s i n0 (Q31 r p):=by
 have h4:=h.good hok;have h7:=hp.cnt;have h8:=h.cnt;unfold Q31;split
 ·rename_i h5;have h6:=hp.good h5;exact⟨by dsimp only;omega,by dsimp only;omega,fun _=>by dsimp only;omega,by dsimp only;rw[y6d];omega⟩
 exact⟨by have:=hp.lo;dsimp only;omega,hp.hi,by simp,by dsimp only;omega⟩
theorem z7k{p:Int->List Q0o->PR}{s:ByteArray}(hp:Q5l s p)(i:Int)(n0:Nat)(hi:0<=i):∀(f:Nat) (r:PR),Q8h s i n0 r->Q8h s i n0 (Q2k p s f r)
 |0,r,h=>h
 |f+1,r,h=>by
  unfold Q2k;split
  ·rename_i h3;simp only[qAc]at h3;have h4:=h.good h3.1;exact z7k hp i n0 hi f _ (y0t hi h h3.1 (hp r.next r.ns (by omega) (by omega)))
  exact h
theorem z4j{p:Int->List Q0o->PR}{s:ByteArray}(hp:Q5l s p):Q5l s (Q6c p s):=by
 intro i ns h0 h1;exact z7k hp i _ h0 _ _ (hp i ns h0 h1)
theorem z7l{p:Int->List Q0o->PR}{s:ByteArray}(hp:Q5l s p)(i:Int)(n0:Nat)(hi:0<=i):∀(f:Nat) (r:PR),Q8h s i n0 r->Q8h s i n0 (Q2l p s f r)
 |0,r,h=>h
 |f+1,r,h=>by
  unfold Q2l;split
  ·rename_i h3;simp only[qAc,qAx]at h3;have h4:=h.good h3.1;have h6:=z0q (s:=s) (i:=r.next) (by omega);exact z7l hp i n0 hi f _ (z7m hi h h3.1 (hp (r.next+1) r.ns (by omega) (by omega)))
  exact h
theorem z8y{p:Int->List Q0o->PR}{s:ByteArray}(hp:Q5l s p):Q5l s (Q6d p s):=by
 intro i ns h0 h1;exact z7l hp i _ h0 _ _ (hp i ns h0 h1)
theorem y9u{c:Int->List Q0o->PR}{s:ByteArray}(hc:Q5l s c)(i:Int)(ns:List Q0o)(h0:0<=i)(h1:i<s.size):Q8h s i ns.length (Q5s c s i ns):=by
 have h:=hc (i+1) ns (by omega) (by omega);have hl:=h.lo;have hk:=h.cnt;have hh:=h.hi;unfold Q5s;split
 ·exact⟨by dsimp only;omega,h.hi,by simp,by dsimp only;omega⟩
 rename_i h3;have h4:=h.good (by simpa using h3);split
 ·exact⟨by dsimp only;omega,h.hi,by simp,by dsimp only;omega⟩
 rename_i h5;have h6:=z0q (s:=s) (i:=(c (i+1) ns).next) (by omega);exact⟨by dsimp only;omega,by dsimp only;omega,fun _=>by dsimp only;omega,by dsimp only;omega⟩
def GoodG(s:ByteArray)(f:Int->List Q0o->PR):Prop:=∀(i:Int) (ns:List Q0o),0<=i->i<s.size->Q8h s i ns.length (f i ns)
theorem z3h{g:Int->List Q0o->PR}{s:ByteArray}(hg:GoodG s g):Q5l s (Q5p g s):=by
 intro i ns h0 h1;by_cases hc:atB s i=40
 ·have h6:=z0q (s:=s) (i:=i) (by omega);unfold Q5p;rw[qAb hc];exact hg i ns h0 h6.2
 have:=x2f (g:=fun i ns=>⟨0,0,i,false,ns⟩) (s:=s) (fun i ns h0 h1=>⟨by simp,by dsimp only;omega,by simp,by simp⟩) i ns h0 h1;unfold Q5p at this ⊢;rw[qAa hc]at this ⊢;exact this
theorem z6y(s:ByteArray):∀k,GoodG s (gK s k)
 |0=>fun i ns h0 h1=>⟨by simp[gK],by simp[gK];omega,by simp[gK],by simp[gK]⟩
 |k+1=>fun i ns h0 h1=>y9u (z8y (z4j (z35 (z3h (z6y s k))))) i ns h0 h1
theorem z5e(s:ByteArray)(k:Nat):Q5l s (chK s k):=z8y (z4j (z35 (z3h (z6y s k))))
abbrev Q6y(r:PR):Value:=.tuple #[Q7w r.st r.en,.int .i64 r.next,.bool r.ok]
def Con(fid:FuncId)(s:ByteArray)(d:Int)(f:Int->List Q0o->PR):Prop :=
 ∀(i:Int) (ns:List Q0o) (w:World) (bb:Nat) (v:Value),0<=i->i<=s.size->(ns.length:Int)<=2*i->BAt w bb v ns ->
  Calls Tryz.prog fid #[Q25 bb,.string s,.int .i64 i,.int .i64 d] w fun e w'=>e=.returned (Q6y (f i ns))/\∃v',Q1d w w' bb v v' (f i ns).ns
def ConG(fid:FuncId)(s:ByteArray)(d:Int)(f:Int->List Q0o->PR):Prop :=
 ∀(i:Int) (ns:List Q0o) (w:World) (bb:Nat) (v:Value),0<=i->i<s.size->(ns.length:Int)<=2*i->BAt w bb v ns ->
  Calls Tryz.prog fid #[Q25 bb,.string s,.int .i64 i,.int .i64 d] w fun e w'=>e=.returned (Q6y (f i ns))/\∃v',Q1d w w' bb v v' (f i ns).ns
theorem y60(s:ByteArray)(d:Int)(g:Int->List Q0o->PR)(hs:s.size<=1000)(hd0:0<=d)(hd1:d<=100)(hg:ConG 144 s d g) :
  Con 141 s d (Q5p g s):=by
 intro i ns w bb v h0 h1 hn h;have H:Hid _:=h;have hN:=fun k (hk:w.heap.size<=k)=>h.not_foot hk;have HN:Hid _:=hN;clear h hN;by_cases hc:atB s i=40
 ·have j1:=z0q (s:=s) (i:=i) (by omega);have e1:Q5p g s i ns=g i ns:=by unfold Q5p;rw[qAb hc]
  rw[e1];have c1:(atB s i==40)=true:=by simpa using hc
  clear e1 hc;go_enter Tryz.func141,Tryz.ntmps141
  go_wp2_with (first
   |(go_at_call 107;refine csm (z0v _ _ _ (by unfold maxLen;omega)) ?_)
   |(go_at_call 144;refine(hg i ns _ bb v (by omega) (by omega) hn (H.fresh ((mRf _ w).alloc _))).mono ?_;rintro e w1⟨rfl,v1,h1⟩;have k3:=h1.loc (z0a _ _) (HN.out _ (by omega));have k4:=Q0g (h1.mod.at (z0a _ _) (HN.out _ (by omega)))))
  have hf:=h1.nf (k:=w.heap.size) (by simp) (HN.out _ (by omega));refine bodyPost_ret (z0h rfl _ _ w.heap.size 213 #[.int .i64 (g i ns).st,.int .i64 (g i ns).en] (0,0) _ rfl ?_ Tryz.underlying213 rfl Q3h) rfl ⟨rfl,v1,?_⟩
  ·rw[zhs (zhs (h1.mod.at (z0a _ _) (HN.out _ (by omega))) 0 _) 1 _];rfl
  exact((Q1d.ahead ((mRf _ w).alloc _) h1).put (by simp) hf _).put (by simp) hf _
 have c1:(atB s i==40)=false:=by simpa using hc
 have hl:=x7a s i;obtain⟨b1,b2,b3⟩:=y2j s i h0;by_cases hok:(Q2n s i).2.2=false
 ·have e1:Q5p g s i ns=⟨0,0,(Q2n s i).2.1,false,ns⟩:=by unfold Q5p;rw[qAa hc,qAb hok]
  rw[e1];have c2:(!(Q2n s i).2.2)=true:=by simp[hok]
  have HL:Hid _:=hl;clear e1 hc hok hg b3 hl;go_enter Tryz.func141,Tryz.ntmps141
  go_wp2_with (first
   |(go_at_call 107;refine csm (z0v _ _ _ (by unfold maxLen;omega)) ?_)
   |(go_at_call 145;refine(z9s _ _ _ (by omega) (by omega) (by omega)).mono ?_;rintro e w1⟨rfl,hf1⟩;have hz:w.heap.size<w1.heap.size:=(by have:=hf1.size;simp at this;omega);have k3:=Q0b (hf1.at (z0a _ _) (fun x=>x));have k4:=Q0g (hf1.at (z0a _ _) (fun x=>x)))
   |(refine z0e rfl 204 _ _ rfl w1 _ _ _ rfl rfl rfl (Q6w _ HL.out) (eq4 rfl (u4 HL.out)) (z1a _) ?_))
  have hb:=hf1.at (z0a _ _) (fun x=>x);refine bodyPost_ret (z0h rfl _ _ w.heap.size 213 #[.int .i64 0,.int .i64 0] (0,0) _ rfl ?_ Tryz.underlying213 rfl Q3h) rfl ⟨rfl,v,?_⟩
  ·refine z0b ?_;rw[zhs (zhs hb 0 _) 1 _];rfl
  have m1:Q0a w w1:=((mRf _ w).alloc _).trans hf1;exact((((Q1d.ahead m1 (Q1d.refl (H.fresh m1))).put (p:=⟨w.heap.size,0,none⟩) (by simp) (HN.out _ (by simp)) _).put (p:=⟨w.heap.size,1,none⟩) (by simp) (HN.out _ (by simp)) _).alloc _)
 have e1:Q5p g s i ns=⟨ns.length+1,ns.length,(Q2n s i).2.1,true,Q8o ns (Q2n s i).1⟩:=by unfold Q5p;rw[qAa hc,qAa hok]
 rw[e1];have c2:(!(Q2n s i).2.2)=false:=by simpa using hok
 have HL:Hid _:=hl;clear e1 hc hok hg b3 hl;go_enter Tryz.func141,Tryz.ntmps141
 go_wp2_with (first
  |(go_at_call 107;refine csm (z0v _ _ _ (by unfold maxLen;omega)) ?_)
  |(go_at_call 145;refine(z9s _ _ _ (by omega) (by omega) (by omega)).mono ?_;rintro e w1⟨rfl,hf1⟩;have hz:w.heap.size<w1.heap.size:=(by have:=hf1.size;simp at this;omega))
  |(go_at_call 146;refine(y62 _ bb v ns _ (H.fresh (((((mRf _ w).alloc _).trans hf1).alloc _))) (by omega) HL.out).mono ?_;rintro e w2⟨rfl,v2,h2⟩;have hb:=h2.mod.at (z0b (hf1.at (z0a _ _) (fun x=>x))) (HN.out _ (by omega));have k3:=Q0b hb;have k4:=Q0g hb)
  |(refine z0e rfl 204 _ _ rfl w1 _ _ _ rfl rfl rfl (Q6w _ HL.out) (eq4 rfl (u4 HL.out)) (z1a _) ?_)
  |(refine wpList_load_row rfl 204 _ rfl w1.heap.size rfl _ _ _ _ (z0a _ _) Tryz.underlying204 rfl (Q6w _ HL.out) ?_))
 have j0:=h2.nf (k:=w.heap.size) (by simp;omega) (HN.out _ (by simp));refine bodyPost_ret (z0h rfl _ _ w.heap.size 213 #[.int .i64 (ns.length+1),.int .i64 ns.length] (0,0) _ rfl ?_ Tryz.underlying213 rfl Q3h) rfl ⟨rfl,v2,?_⟩
 ·rw[zhs (zhs hb 0 _) 1 _];rfl
 exact((h2.ahead ((((mRf _ w).alloc _).trans hf1).alloc _)).put (by simp) j0 _).put (by simp) j0 _
abbrev Q5r(a b:Int):Obj:=.cells #[.int .i64 a,.int .i64 b] 213 (0,0)
theorem y90{c:Int}(h:Q1q c=true):((c != 42)=false)∨((c != 42)=true/\(c != 43)=false)∨((c != 42)=true/\(c != 43)=true/\(c != 63)=false):=by
 simp[Q1q]at h;rcases h with(rfl|rfl)|rfl<;>simp
theorem x6j{c:Int}(h:Q1q c=false):(c != 42)=true/\(c != 43)=true/\(c != 63)=true:=by
 simp[Q1q]at h;simp;omega
theorem y42(s:ByteArray)(d:Int)(a:Int->List Q0o->PR)(hs:s.size<=1000)(hd0:0<=d)(hd1:d<=100)(hg:Q5l s a)(ha:Con 141 s d a) :
  Con 135 s d (Q7n a s):=by
 intro i ns w bb v h0 h1 hn h;have H:Hid _:=h;have hN:=fun k (hk:w.heap.size<=k)=>h.not_foot hk;have HN:Hid _:=hN;have G0:Hid _:=hg i ns h0 h1;clear h hN hg;generalize hR:Q7n a s i ns=R;have HR:Hid (Q3o s (s.size+5) (a i ns)=R):=hR;clear hR;go_enter Tryz.func135,Tryz.ntmps135
 go_wp2_with (first
  |(go_at_call 141;refine(ha i ns _ bb v (by omega) (by omega) hn (H.fresh ((mRf _ w).alloc _))).mono ?_;rintro e w1⟨rfl,v1,h1⟩;have hz:w.heap.size<w1.heap.size:=(by have:=h1.mod.size;simp at this;omega)))
 have H1:Hid _:=h1;clear h1 ha;go_loopw [12] (fun x wr=>∃(f:Nat) (r:PR) (vr:Value),x=.int .i64 r.next/\(a i ns).ok=r.ok/\Q3o s f r=R/\Q8h s i ns.length r/\(s.size:Int)+5<=f+r.next+(if r.ok then 0 else s.size+20) /\
   wr.heap[w.heap.size]? = some (Q5r 0 0)/\wr.heap[w1.heap.size]? = some (Q5r r.st r.en)/\Q1d w wr bb v vr r.ns/\¬Q8w bb vr w.heap.size/\¬Q8w bb vr w1.heap.size)
   (fun x _=>3000-(intOf x).toNat)
 case atStart =>
  refine⟨s.size+5,a i ns,v1,rfl,rfl,HR.out,G0.out,by have:=G0.lo;split<;>omega,z0b (H1.mod.at (z0a _ _) (HN.out _ (by simp))),z0a _ _,(Q1d.ahead ((mRf _ w).alloc _) H1.out).alloc _,H1.nf (by simp) (HN.out _ (by simp)),?_⟩;exact H1.at'.not_foot (qR _)
 obtain⟨f,r,vr,rfl,hok,hR,hG,hfu,hb0,hb1,hB,hn0,hn1⟩:=hrel;obtain⟨g1,g2,g3,g4⟩:=hG;have HB:Hid _:=hB;have j0:Hid _:=hb0;have j2:Hid _:=hb1;have k1:=Q0b hb1;clear hB hb0 hb1;simp only[hok];have j5:Hid _:=hok;clear hok;cases hro:r.ok
 · -- no more
  have j3:r=R:=by
   rw[← hR];cases f with
   |zero=>rfl
   |succ f=>unfold Q3o;rw[qAa (by simp[hro])]
  have k2:=Q0b j0.out;have k3:=Q0g j0.out;have j1:Hid _:=j3;clear hR hfu g3 j3;go_wp2;refine bodyPost_ret (z0h rfl _ _ w.heap.size 213 #[.int .i64 r.st,.int .i64 r.en] (0,0) _ rfl ?_ Tryz.underlying213 rfl Q3h) rfl ⟨?_,vr,?_⟩
  ·rw[zhs (zhs j0.out 0 _) 1 _];rfl
  ·rw[← j1.out];simp[Q6y,Q7w,hro]
  rw[← j1.out];exact(HB.put (p:=⟨w.heap.size,0,none⟩) (by simp) hn0 _).put (p:=⟨w.heap.size,1,none⟩) (by simp) hn0 _
 have j6:=g3 hro;obtain⟨f,rfl⟩:∃g,f=g+1:=⟨f-1,by rw[hro]at hfu;simp at hfu;omega⟩;unfold Q3o at hR;cases hmk:Q1q (atB s r.next)
 ·rw[qAa (by simp[hmk])]at hR;obtain⟨m1,m2,m3⟩:=x6j hmk;have k2:=Q0b j0.out;have k3:=Q0g j0.out;have j1:Hid _:=hR;clear hR hfu g3 hmk;go_wp2_with (first
   |(go_at_call 107;refine csm (z0v _ _ _ (by unfold maxLen;omega)) ?_))
  refine bodyPost_ret (z0h rfl _ _ w.heap.size 213 #[.int .i64 r.st,.int .i64 r.en] (0,0) _ rfl ?_ Tryz.underlying213 rfl Q3h) rfl ⟨?_,vr,?_⟩
  ·rw[zhs (zhs j0.out 0 _) 1 _];rfl
  ·rw[← j1.out];simp[Q6y,Q7w,hro]
  rw[← j1.out];exact(HB.put (p:=⟨w.heap.size,0,none⟩) (by simp) hn0 _).put (p:=⟨w.heap.size,1,none⟩) (by simp) hn0 _
 rw[qAb (by simp[hmk,hro])]at hR;have j7:=z0q (s:=s) (i:=r.next) (by intro e;rw[e]at hmk;simp[Q1q]at hmk);have mc:=y90 hmk;have j1:Hid _:=hR;have j4:Hid _:=hfu;clear hR hfu g3 hmk;rcases mc with m1|⟨m1,m2⟩|⟨m1,m2,m3⟩;all_goals
  go_wp2_with (first
   |(go_at_call 107;refine csm (z0v _ _ _ (by unfold maxLen;omega)) ?_)
   |(go_at_call 142;refine(x0k _ bb vr r.ns _ _ _ HB.at' (by omega)).mono ?_;rintro e w2⟨rfl,v2,h2⟩;have k2:=Q0b (h2.mod.at j2.out hn1);have k3:=Q0g (h2.mod.at j2.out hn1)))
  go_roundw
  case rel =>
   have q1:=z0j j2.out;have q0:=z0j j0.out;have n1:=h2.nf (k:=w1.heap.size) q1 hn1;have n0:=h2.nf (k:=w.heap.size) q0 hn0;refine⟨f,⟨r.ns.length,r.ns.length+1,r.next+1,true,Q13 r.ns r.st r.en (atB s r.next)⟩,v2,rfl,rfl,j1.out,⟨by dsimp only;omega,by dsimp only;omega,fun _=>by dsimp only;omega,by dsimp only;rw[z9t];omega⟩,by have:=j4.out;simp[hro]at this;simp;omega,?_,?_,?_,n0,n1⟩
   ·exact z0i (z0i (h2.mod.at j0.out hn0) (by simp;omega)) (by simp;omega)
   ·rw[zhs (zhs (h2.mod.at j2.out hn1) 0 _) 1 _];rfl
   exact((HB.trans h2).put (p:=⟨w1.heap.size,0,none⟩) (by simp;omega) n1 _).put (p:=⟨w1.heap.size,1,none⟩) (by simp;omega) n1 _
  simp[intOf];omega
theorem hid{p:Prop}(h:p):Hid p:=h
def okOf:Value->Nat | .bool true=>1|_=>0
theorem y2l(s:ByteArray)(d:Int)(p:Int->List Q0o->PR)(hs:s.size<=1000)(hd0:0<=d)(hd1:d<=100)(hg:Q5l s p)(hp:Con 135 s d p) :
  Con 131 s d (Q6c p s):=by
 intro i ns w bb v h0 h1 hn h;have H:Hid _:=h;have hN:=fun k (hk:w.heap.size<=k)=>h.not_foot hk;have HN:Hid _:=hN;have G0:Hid _:=hg i ns h0 h1;have HG:Hid _:=hg;have HP:Hid _:=hp;clear h hN hg hp;generalize hR:Q6c p s i ns=R;have HR:Hid (Q2k p s (s.size+5) (p i ns)=R):=hR;clear hR;go_enter Tryz.func131,Tryz.ntmps131
 go_wp2_with (first
  |(go_at_call 135;refine(HP.out i ns _ bb v (by omega) (by omega) hn (H.fresh ((mRf _ w).alloc _))).mono ?_;rintro e w1⟨rfl,v1,h1⟩;have hz:w.heap.size<w1.heap.size:=(by have:=h1.mod.size;simp at this;omega)))
 have H1:Hid _:=h1;clear h1;go_loopw [12,13] (fun x y wr=>∃(f:Nat) (r:PR) (vr:Value),x=.int .i64 r.next/\y=.bool r.ok/\Q2k p s f r=R/\Q8h s i ns.length r/\(s.size:Int)+5<=f+r.next+(if r.ok then 0 else s.size+20) /\
   wr.heap[w.heap.size]? = some (Q5r 0 0)/\wr.heap[w1.heap.size]? = some (Q5r r.st r.en)/\Q1d w wr bb v vr r.ns/\¬Q8w bb vr w.heap.size/\¬Q8w bb vr w1.heap.size)
   (fun x y _=>okOf y*(4000-(intOf x).toNat))
 case atStart =>
  refine⟨s.size+5,p i ns,v1,rfl,rfl,HR.out,G0.out,by have:=G0.lo;split<;>omega,z0b (H1.mod.at (z0a _ _) (HN.out _ (by simp))),z0a _ _,(Q1d.ahead ((mRf _ w).alloc _) H1.out).alloc _,H1.nf (by simp) (HN.out _ (by simp)),?_⟩;exact H1.at'.not_foot (qR _)
 obtain⟨f,r,vr,rfl,rfl,hR,hG,hfu,hb0,hb1,hB,hn0,hn1⟩:=hrel;have g1:=hG.lo;have g2:=hG.hi;have g3:=hG.good;have g4:=hG.cnt;have j8:Hid _:=hG;have HB:Hid _:=hB;have j0:Hid _:=hb0;have j2:Hid _:=hb1;have k1:=Q0b hb1;clear hB hb0 hb1 hG;cases hro:r.ok
 ·have j6:r=R:=by
   rw[← hR];cases f with
   |zero=>rfl
   |succ f=>unfold Q2k;rw[qAa (by simp[hro])]
  have k2:=Q0b j0.out;have k3:=Q0g j0.out;have j1:Hid _:=j6;clear hR hfu g3 j6;go_wp2;refine bodyPost_ret (z0h rfl _ _ w.heap.size 213 #[.int .i64 r.st,.int .i64 r.en] (0,0) _ rfl ?_ Tryz.underlying213 rfl Q3h) rfl ⟨?_,vr,?_⟩
  ·rw[zhs (zhs j0.out 0 _) 1 _];rfl
  ·rw[← j1.out];simp[Q6y,Q7w,hro]
  rw[← j1.out];exact(HB.put (p:=⟨w.heap.size,0,none⟩) (by simp) hn0 _).put (p:=⟨w.heap.size,1,none⟩) (by simp) hn0 _
 have jb:=g3 hro;obtain⟨f,rfl⟩:∃g,f=g+1:=⟨f-1,by rw[hro]at hfu;simp at hfu;omega⟩;unfold Q2k at hR;cases hmk:Q2r s r.next
 ·rw[qAa (by simp[hmk])]at hR;have k2:=Q0b j0.out;have k3:=Q0g j0.out;have j1:Hid _:=hR;clear hR hfu g3;go_wp2_with (first
   |(go_at_call 136;refine(z6t _ _ _ (by omega)).mono ?_;rintro e w'⟨rfl,hw⟩;rw[hw,hmk];clear hw))
  refine bodyPost_ret (z0h rfl _ _ w.heap.size 213 #[.int .i64 r.st,.int .i64 r.en] (0,0) _ rfl ?_ Tryz.underlying213 rfl Q3h) rfl ⟨?_,vr,?_⟩
  ·rw[zhs (zhs j0.out 0 _) 1 _];rfl
  ·rw[← j1.out];simp[Q6y,Q7w,hro]
  rw[← j1.out];exact(HB.put (p:=⟨w.heap.size,0,none⟩) (by simp) hn0 _).put (p:=⟨w.heap.size,1,none⟩) (by simp) hn0 _
 rw[qAb (by simp[hmk,hro])]at hR;have j3:Hid _:=HG.out r.next r.ns (by omega) (by omega);have HJ:Hid _:=y0t h0 j8.out hro j3.out;have p1:=j3.lo;have p2:=j3.hi;have p3:=j3.good;have p4:=j3.cnt;have j1:Hid _:=hR;have j7:Hid _:=hfu;clear hR hfu g3;have q1:=z0j j2.out;have q0:=z0j j0.out;generalize hpp:p r.next r.ns=pp at j3 HJ p1 p2 p3 p4 j1;have j9:Hid _:=hpp;clear hpp;have HC:=HP.out r.next r.ns wr bb vr (by omega) (by omega) (by omega) HB.at';rw[j9.out]at HC;simp only[Q6y]at HC;cases hpo:pp.ok
 ·rw[hpo]at HC;have j4:=hid HC;clear p3 HC;go_wp2_with (first
   |(go_at_call 136;refine(z6t _ _ _ (by omega)).mono ?_;rintro e w'⟨rfl,hw⟩;rw[hw,hmk];clear hw)
   |(go_at_call 135;refine j4.mono ?_;rintro e w2⟨rfl,v2,h2⟩))
  go_roundw
  case rel =>
   have n1:=h2.nf (k:=w1.heap.size) q1 hn1;have n0:=h2.nf (k:=w.heap.size) q0 hn0;have ej:Q69 r pp=⟨r.st,r.en,pp.next,false,pp.ns⟩:=by unfold Q69;rw[qAa (by simp[hpo])]
   refine⟨f,Q69 r pp,v2,by rw[ej],by rw[ej],j1.out,HJ.out,by rw[ej];simp;omega,?_,?_,?_,n0,n1⟩
   ·exact z0b (h2.mod.at j0.out hn0)
   ·rw[ej];exact z0b (h2.mod.at j2.out hn1)
   rw[ej];exact(HB.trans h2).alloc _
  simp[intOf,okOf];omega
 rw[hpo]at HC;have j4:=hid HC;have p5:=p3 hpo;clear p3 HC;go_wp2_with (first
  |(go_at_call 136;refine(z6t _ _ _ (by omega)).mono ?_;rintro e w'⟨rfl,hw⟩;rw[hw,hmk];clear hw)
  |(go_at_call 135;refine j4.mono ?_;rintro e w2⟨rfl,v2,h2⟩;have k2:=Q0b (h2.mod.at j2.out hn1);have jd:w1.heap.size<w2.heap.size:=(by have:=h2.mod.size;omega))
  |(go_at_call 137;refine(x6c _ bb v2 pp.ns _ _ _ _ (h2.at'.fresh ((mRf _ _).alloc _)) (by omega)).mono ?_;rintro e w3⟨rfl,v3,h3⟩;have n1:=h2.nf (k:=w1.heap.size) q1 hn1;have k5:=Q0b (h3.mod.at (z0b (h2.mod.at j2.out hn1)) n1);have k6:=Q0g (h3.mod.at (z0b (h2.mod.at j2.out hn1)) n1)))
 go_roundw
 case rel =>
  have n0:=h2.nf (k:=w.heap.size) q0 hn0;have jc:w.heap.size<w2.heap.size:=(by have:=h2.mod.size;omega);have j5:=h3.nf (k:=w1.heap.size) (by simp;omega) n1;have ja:=h3.nf (k:=w.heap.size) (by simp;omega) n0;have ej:Q69 r pp=⟨r.st,pp.en,pp.next,true,Q1e pp.ns r.en pp.st⟩:=by unfold Q69;rw[qAb (by simp[hpo])]
  refine⟨f,Q69 r pp,v3,by rw[ej],by rw[ej],j1.out,HJ.out,by have:=j7.out;rw[ej];simp[hro]at this;simp;omega,?_,?_,?_,ja,j5⟩
  ·exact z0i (z0i (h3.mod.at (z0b (h2.mod.at j0.out hn0)) n0) (by simp;omega)) (by simp;omega)
  ·rw[ej,zhs (zhs (h3.mod.at (z0b (h2.mod.at j2.out hn1)) n1) 0 _) 1 _];rfl
  rw[ej];exact(((HB.trans h2).alloc _).trans h3 |>.put (p:=⟨w1.heap.size,0,none⟩) (by simp;omega) j5 _).put (p:=⟨w1.heap.size,1,none⟩) (by simp;omega) j5 _
 simp[intOf,okOf];omega
theorem y2m(s:ByteArray)(d:Int)(p:Int->List Q0o->PR)(hs:s.size<=1000)(hd0:0<=d)(hd1:d<=100)(hg:Q5l s p)(hp:Con 131 s d p) :
  Con 126 s d (Q6d p s):=by
 intro i ns w bb v h0 h1 hn h;have H:Hid _:=h;have hN:=fun k (hk:w.heap.size<=k)=>h.not_foot hk;have HN:Hid _:=hN;have G0:Hid _:=hg i ns h0 h1;have HG:Hid _:=hg;have HP:Hid _:=hp;clear h hN hg hp;generalize hR:Q6d p s i ns=R;have HR:Hid (Q2l p s (s.size+5) (p i ns)=R):=hR;clear hR;go_enter Tryz.func126,Tryz.ntmps126
 go_wp2_with (first
  |(go_at_call 131;refine(HP.out i ns _ bb v (by omega) (by omega) hn (H.fresh ((mRf _ w).alloc _))).mono ?_;rintro e w1⟨rfl,v1,h1⟩;have hz:w.heap.size<w1.heap.size:=(by have:=h1.mod.size;simp at this;omega)))
 have H1:Hid _:=h1;clear h1;go_loopw [12,13] (fun x y wr=>∃(f:Nat) (r:PR) (vr:Value),x=.int .i64 r.next/\y=.bool r.ok/\Q2l p s f r=R/\Q8h s i ns.length r/\(s.size:Int)+5<=f+r.next+(if r.ok then 0 else s.size+20) /\
   wr.heap[w.heap.size]? = some (Q5r 0 0)/\wr.heap[w1.heap.size]? = some (Q5r r.st r.en)/\Q1d w wr bb v vr r.ns/\¬Q8w bb vr w.heap.size/\¬Q8w bb vr w1.heap.size)
   (fun x y _=>okOf y*(4000-(intOf x).toNat))
 case atStart =>
  refine⟨s.size+5,p i ns,v1,rfl,rfl,HR.out,G0.out,by have:=G0.lo;split<;>omega,z0b (H1.mod.at (z0a _ _) (HN.out _ (by simp))),z0a _ _,(Q1d.ahead ((mRf _ w).alloc _) H1.out).alloc _,H1.nf (by simp) (HN.out _ (by simp)),?_⟩;exact H1.at'.not_foot (qR _)
 obtain⟨f,r,vr,rfl,rfl,hR,hG,hfu,hb0,hb1,hB,hn0,hn1⟩:=hrel;have g1:=hG.lo;have g2:=hG.hi;have g3:=hG.good;have g4:=hG.cnt;have ja:Hid _:=hG;have HB:Hid _:=hB;have j0:Hid _:=hb0;have j2:Hid _:=hb1;have k1:=Q0b hb1;clear hB hb0 hb1 hG;cases hro:r.ok
 ·have j7:r=R:=by
   rw[← hR];cases f with
   |zero=>rfl
   |succ f=>unfold Q2l;rw[qAa (by simp[hro])]
  have k2:=Q0b j0.out;have k3:=Q0g j0.out;have j1:Hid _:=j7;clear hR hfu g3 j7;go_wp2;refine bodyPost_ret (z0h rfl _ _ w.heap.size 213 #[.int .i64 r.st,.int .i64 r.en] (0,0) _ rfl ?_ Tryz.underlying213 rfl Q3h) rfl ⟨?_,vr,?_⟩
  ·rw[zhs (zhs j0.out 0 _) 1 _];rfl
  ·rw[← j1.out];simp[Q6y,Q7w,hro]
  rw[← j1.out];exact(HB.put (p:=⟨w.heap.size,0,none⟩) (by simp) hn0 _).put (p:=⟨w.heap.size,1,none⟩) (by simp) hn0 _
 have jd:=g3 hro;obtain⟨f,rfl⟩:∃g,f=g+1:=⟨f-1,by rw[hro]at hfu;simp at hfu;omega⟩;unfold Q2l at hR;cases hmk:(atB s r.next==124)
 ·rw[qAa (by simp[hmk])]at hR;have k2:=Q0b j0.out;have k3:=Q0g j0.out;have j1:Hid _:=hR;clear hR hfu g3;go_wp2_with (first
   |(go_at_call 107;refine csm (z0v _ _ _ (by unfold maxLen;omega)) ?_))
  refine bodyPost_ret (z0h rfl _ _ w.heap.size 213 #[.int .i64 r.st,.int .i64 r.en] (0,0) _ rfl ?_ Tryz.underlying213 rfl Q3h) rfl ⟨?_,vr,?_⟩
  ·rw[zhs (zhs j0.out 0 _) 1 _];rfl
  ·rw[← j1.out];simp[Q6y,Q7w,hro]
  rw[← j1.out];exact(HB.put (p:=⟨w.heap.size,0,none⟩) (by simp) hn0 _).put (p:=⟨w.heap.size,1,none⟩) (by simp) hn0 _
 rw[qAb (by simp[hmk,hro])]at hR;have j4:atB s r.next=124:=by simpa using hmk
 have je:=z0q (s:=s) (i:=r.next) (by omega);have j8:=hid j4;clear j4;have j3:Hid _:=HG.out (r.next+1) r.ns (by omega) (by omega);have HJ:Hid _:=z7m h0 ja.out hro j3.out;have p1:=j3.lo;have p2:=j3.hi;have p3:=j3.good;have p4:=j3.cnt;have j1:Hid _:=hR;have j9:Hid _:=hfu;clear hR hfu g3;have q1:=z0j j2.out;have q0:=z0j j0.out;generalize hpp:p (r.next+1) r.ns=pp at j3 HJ p1 p2 p3 p4 j1;have jb:Hid _:=hpp;clear hpp;have HC:=HP.out (r.next+1) r.ns wr bb vr (by omega) (by omega) (by omega) HB.at';rw[jb.out]at HC;simp only[Q6y]at HC;cases hpo:pp.ok
 ·rw[hpo]at HC;have j5:=hid HC;clear p3 HC;go_wp2_with (first
   |(go_at_call 107;refine csm (z0v _ _ _ (by unfold maxLen;omega)) ?_)
   |(go_at_call 131;refine j5.mono ?_;rintro e w2⟨rfl,v2,h2⟩))
  go_roundw
  case rel =>
   have n1:=h2.nf (k:=w1.heap.size) q1 hn1;have n0:=h2.nf (k:=w.heap.size) q0 hn0;have ej:Q31 r pp=⟨r.st,r.en,pp.next,false,pp.ns⟩:=by unfold Q31;rw[qAa (by simp[hpo])]
   refine⟨f,Q31 r pp,v2,by rw[ej],by rw[ej],j1.out,HJ.out,by rw[ej];simp;omega,?_,?_,?_,n0,n1⟩
   ·exact z0b (h2.mod.at j0.out hn0)
   ·rw[ej];exact z0b (h2.mod.at j2.out hn1)
   rw[ej];exact(HB.trans h2).alloc _
  simp[intOf,okOf];omega
 rw[hpo]at HC;have j5:=hid HC;have p5:=p3 hpo;clear p3 HC;go_wp2_with (first
  |(go_at_call 107;refine csm (z0v _ _ _ (by unfold maxLen;omega)) ?_)
  |(go_at_call 131;refine j5.mono ?_;rintro e w2⟨rfl,v2,h2⟩;have k2:=Q0b (h2.mod.at j2.out hn1);have jg:w1.heap.size<w2.heap.size:=(by have:=h2.mod.size;omega))
  |(go_at_call 132;refine(y9q _ bb v2 pp.ns _ _ _ _ (h2.at'.fresh ((mRf _ _).alloc _)) (by omega)).mono ?_;rintro e w3⟨rfl,v3,h3⟩;have n1:=h2.nf (k:=w1.heap.size) q1 hn1;have k5:=Q0b (h3.mod.at (z0b (h2.mod.at j2.out hn1)) n1);have k6:=Q0g (h3.mod.at (z0b (h2.mod.at j2.out hn1)) n1)))
 go_roundw
 case rel =>
  have n0:=h2.nf (k:=w.heap.size) q0 hn0;have jf:w.heap.size<w2.heap.size:=(by have:=h2.mod.size;omega);have j6:=h3.nf (k:=w1.heap.size) (by simp;omega) n1;have jc:=h3.nf (k:=w.heap.size) (by simp;omega) n0;have ej:Q31 r pp=⟨pp.ns.length,pp.ns.length+1,pp.next,true,Q30 pp.ns r.st r.en pp.st pp.en⟩:=by unfold Q31;rw[qAb (by simp[hpo])]
  refine⟨f,Q31 r pp,v3,by rw[ej],by rw[ej],j1.out,HJ.out,by have:=j9.out;rw[ej];simp[hro]at this;simp;omega,?_,?_,?_,jc,j6⟩
  ·exact z0i (z0i (h3.mod.at (z0b (h2.mod.at j0.out hn0)) n0) (by simp;omega)) (by simp;omega)
  ·rw[ej,zhs (zhs (h3.mod.at (z0b (h2.mod.at j2.out hn1)) n1) 0 _) 1 _];rfl
  rw[ej];exact(((HB.trans h2).alloc _).trans h3 |>.put (p:=⟨w1.heap.size,0,none⟩) (by simp;omega) j6 _).put (p:=⟨w1.heap.size,1,none⟩) (by simp;omega) j6 _
 simp[intOf,okOf];omega
theorem y0i(s:ByteArray)(d:Int)(hd:6<=d)(hd1:d<=100):ConG 144 s d (gK s 0):=by
 intro i ns w bb v h0 h1 hn h;have H:=hid h;have HN:=hid (fun k (hk:w.heap.size<=k)=>h.not_foot hk);have e1:gK s 0 i ns=⟨0,0,i,false,ns⟩:=rfl;rw[e1];clear h e1;go_enter Tryz.func144,Tryz.ntmps144
 go_wp2;refine bodyPost_ret (z0h rfl _ _ w.heap.size 213 #[.int .i64 0,.int .i64 0] (0,0) _ rfl (z0a _ _) Tryz.underlying213 rfl Q3h) rfl ⟨rfl,v,?_⟩;have m1:Q0a w (w.alloc (Q5r 0 0)):=(mRf _ w).alloc _;exact Q1d.ahead m1 (Q1d.refl (H.fresh m1))
theorem y40(s:ByteArray)(d:Int)(c:Int->List Q0o->PR)(hs:s.size<=1000)(hd0:0<=d)(hd:d<6)(hg:Q5l s c)(hc:Con 126 s (d+1) c) :
  ConG 144 s d (Q5s c s):=by
 intro i ns w bb v h0 h1 hn h;have H:=hid h;have HN:=hid (fun k (hk:w.heap.size<=k)=>h.not_foot hk);have j1:=hg (i+1) ns (by omega) (by omega);have HC:=hc (i+1) ns (w.alloc (Q5r 0 0)) bb v (by omega) (by omega) (by omega) (h.fresh ((mRf _ w).alloc _));generalize hR:Q5s c s i ns=R;unfold Q5s at hR;generalize hpp:c (i+1) ns=pp at HC j1 hR;simp only[Q6y]at HC;obtain⟨g1,g2,g3,g4⟩:=j1;clear h hg hc hpp;cases hpo:pp.ok
 ·rw[hpo]at HC;have j0:=hid HC;rw[qAb hpo]at hR;have HR:=hid hR;clear HC g3 hR;go_enter Tryz.func144,Tryz.ntmps144
  go_wp2_with (first
   |(go_at_call 126;refine j0.mono ?_;rintro e w1⟨rfl,v1,h1⟩;have hz:w.heap.size<w1.heap.size:=(by have:=h1.mod.size;simp at this;omega);have k3:=h1.loc (z0a _ _) (HN.out _ (by omega));have k4:=Q0g (h1.mod.at (z0a _ _) (HN.out _ (by omega)))))
  have hf:=h1.nf (k:=w.heap.size) (by simp) (HN.out _ (by omega));refine bodyPost_ret (z0h rfl _ _ w.heap.size 213 #[.int .i64 0,.int .i64 0] (0,0) _ rfl ?_ Tryz.underlying213 rfl Q3h) rfl ⟨by have:=HR.out;subst this;rfl,v1,?_⟩
  ·refine z0b ?_;rw[zhs (zhs (h1.mod.at (z0a _ _) (HN.out _ (by omega))) 0 _) 1 _];rfl
  rw[← HR.out];exact(((Q1d.ahead ((mRf _ w).alloc _) h1).put (p:=⟨w.heap.size,0,none⟩) (by simp) hf _).put (p:=⟨w.heap.size,1,none⟩) (by simp) hf _).alloc _
 rw[hpo]at HC;have j0:=hid HC;have g5:=g3 hpo;rw[qAa (by simp[hpo])]at hR;by_cases hcl:atB s pp.next=41
 ·rw[qAa (by simp[hcl])]at hR;have HR:=hid hR;have c1:(atB s pp.next != 41)=false:=by simp[hcl]
  clear HC g3 hR hcl;go_enter Tryz.func144,Tryz.ntmps144
  go_wp2_with (first
   |(go_at_call 107;refine csm (z0v _ _ _ (by unfold maxLen;omega)) ?_)
   |(go_at_call 126;refine j0.mono ?_;rintro e w1⟨rfl,v1,h1⟩;have hz:w.heap.size<w1.heap.size:=(by have:=h1.mod.size;simp at this;omega);have k3:=h1.loc (z0a _ _) (HN.out _ (by omega));have k4:=Q0g (h1.mod.at (z0a _ _) (HN.out _ (by omega)))))
  have hf:=h1.nf (k:=w.heap.size) (by simp) (HN.out _ (by omega));refine bodyPost_ret (z0h rfl _ _ w.heap.size 213 #[.int .i64 pp.st,.int .i64 pp.en] (0,0) _ rfl ?_ Tryz.underlying213 rfl Q3h) rfl ⟨by have:=HR.out;subst this;rfl,v1,?_⟩
  ·refine z0b ?_;rw[zhs (zhs (h1.mod.at (z0a _ _) (HN.out _ (by omega))) 0 _) 1 _];rfl
  rw[← HR.out];exact(((Q1d.ahead ((mRf _ w).alloc _) h1).put (p:=⟨w.heap.size,0,none⟩) (by simp) hf _).put (p:=⟨w.heap.size,1,none⟩) (by simp) hf _).alloc _
 rw[qAb hcl]at hR;have HR:=hid hR;have c1:(atB s pp.next != 41)=true:=by simpa using hcl
 clear HC g3 hR hcl;go_enter Tryz.func144,Tryz.ntmps144
 go_wp2_with (first
  |(go_at_call 107;refine csm (z0v _ _ _ (by unfold maxLen;omega)) ?_)
  |(go_at_call 126;refine j0.mono ?_;rintro e w1⟨rfl,v1,h1⟩;have hz:w.heap.size<w1.heap.size:=(by have:=h1.mod.size;simp at this;omega);have k3:=h1.loc (z0a _ _) (HN.out _ (by omega));have k4:=Q0g (h1.mod.at (z0a _ _) (HN.out _ (by omega)))))
 have hf:=h1.nf (k:=w.heap.size) (by simp) (HN.out _ (by omega));refine bodyPost_ret (z0h rfl _ _ w.heap.size 213 #[.int .i64 0,.int .i64 0] (0,0) _ rfl ?_ Tryz.underlying213 rfl Q3h) rfl ⟨by have:=HR.out;subst this;rfl,v1,?_⟩
 ·refine z0b ?_;rw[zhs (zhs (h1.mod.at (z0a _ _) (HN.out _ (by omega))) 0 _) 1 _];rfl
 rw[← HR.out];exact(((Q1d.ahead ((mRf _ w).alloc _) h1).put (p:=⟨w.heap.size,0,none⟩) (by simp) hf _).put (p:=⟨w.heap.size,1,none⟩) (by simp) hf _).alloc _
theorem x5x(s:ByteArray)(hs:s.size<=1000):∀(k:Nat),k<=6 ->
  ConG 144 s (6-(k:Int)) (gK s k)/\Con 126 s (6-(k:Int)) (chK s k):=by
 have step:∀k:Nat,k<=6->ConG 144 s (6-(k:Int)) (gK s k)->Con 126 s (6-(k:Int)) (chK s k):=by
  intro k hk h;have ga:=z3h (z6y s k);have gp:=z35 ga;have gb:=z4j gp;have a:=y60 s (6-(k:Int)) (gK s k) hs (by omega) (by omega) h;have p:=y42 s (6-(k:Int)) _ hs (by omega) (by omega) ga a;have b:=y2l s (6-(k:Int)) _ hs (by omega) (by omega) gp p;exact y2m s (6-(k:Int)) _ hs (by omega) (by omega) gb b
 intro k;induction k with
 |zero =>
  intro _;have g:=y0i s (6-((0:Nat):Int)) (by simp) (by simp);exact⟨g,step 0 (by omega) g⟩
 |succ k ih =>
  intro hk;have h:=(ih (by omega)).2;have e:(6:Int)-((k+1:Nat):Int)+1=6-(k:Int):=by omega
  have g:ConG 144 s (6-((k+1:Nat):Int)) (gK s (k+1)) :=
   y40 s (6-((k+1:Nat):Int)) (chK s k) hs (by omega) (by omega) (z5e s k) (by rw[e];exact h)
  exact⟨g,step (k+1) hk g⟩
theorem z5n(s:ByteArray)(hs:s.size<=1000):Con 126 s 0 (chK s 6):=by
 have:=(x5x s hs 6 (qR _)).2;simpa using this
structure Q12(w:World)(v:Value)(ns:List Q0o):Prop where
 own:w.ownsRow 0 206 7 v ns.length (Q4p ns)
 wf:Nwf ns
theorem Q12.kept{S:Nat->Prop}{w w':World}{v:Value}{ns:List Q0o}(h:Q12 w v ns)(hm:Mod S w w')(hs:∀k,v.ownBlock=some k->¬S k):Q12 w' v ns :=
 ⟨z0c h.own (fun g hg=>hm.block g (h.own.lt g hg).2 (hs g hg)),h.wf⟩
theorem szPat:(Tryz.prog.info? 114).map (·.size)=some 3:=by kernel_rfl
abbrev patV(v:Value)(a b:Int):Value:=.agg #[v,.int .i64 a,.int .i64 b]
def Q1o(s:ByteArray)(i:Int):PR:=chK s 6 i []
theorem x09(W:World):BAt (W.alloc (.cells #[.slice none 0 0] 211 (0,0))) W.heap.size (.slice none 0 0) [] :=
 ⟨z0a _ _,World.ownsRow_nil _ _ _ _,fun _ h=>by cases h⟩
theorem x54{bb k:Nat}(h:Q8w bb (.slice none 0 0) k):k=bb:=by
 rcases h with h|h
 ·exact h
 simp[Value.ownBlock]at h
theorem y0s{w w1:World}{A B:Obj}{v1:Value}{ns:List Q0o}(h1:Q1d ((w.alloc A).alloc B) w1 (w.heap.size+1) (.slice none 0 0) v1 ns):Q0a w w1 :=
 Mod.trans' (T:=Q8w (w.heap.size+1) (.slice none 0 0)) (((mRf _ w).alloc _).alloc _) h1.mod (fun i hi hf=>by have:=x54 hf;omega)
theorem x7d(s:ByteArray)(i:Int)(w:World)(hs:s.size<=1000)(h0:0<=i)(h1:i<=s.size)(hok:(Q1o s i).ok=false) :
  Calls Tryz.prog 118 #[.string s,.int .i64 i] w fun e w'=>e=.returned (.tuple #[patV (.slice none 0 0) 0 0,.int .i64 (Q1o s i).next,.bool false])/\Q0a w w':=by
 have HC:=z5n s hs i [] ((w.alloc (.cells #[.slice none 0 0,.int .i64 0,.int .i64 0] 114 (0,0))).alloc (.cells #[.slice none 0 0] 211 (0,0))) (w.heap.size+1) (.slice none 0 0) h0 h1 (by simp;omega) (by simpa using x09 (w.alloc (.cells #[.slice none 0 0,.int .i64 0,.int .i64 0] 114 (0,0))));have hG:=z5e s 6 i [] h0 h1;unfold Q1o at hok ⊢;generalize hpp:chK s 6 i []=pp at HC hG hok ⊢;simp only[Q6y]at HC;obtain⟨g1,g2,g3,g4⟩:=hG;rw[hok]at HC;have j0:=hid HC;clear HC hpp g3 hok;go_enter Tryz.func118,Tryz.ntmps118
 go_wp2_with (first
  |(go_at_call 126;refine j0.mono ?_;rintro e w1⟨rfl,v1,h1⟩;have hz:w.heap.size<w1.heap.size:=(by have:=h1.mod.size;simp at this;omega);have hb:=h1.mod.at (heap_alloc2_old _ _ _) (by rintro(h|h)<;>simp[Value.ownBlock]at h);have k3:=Q0b hb;have k4:=Q0g hb))
 refine bodyPost_ret (z0h rfl _ _ w.heap.size 114 #[.slice none 0 0,.int .i64 0,.int .i64 0] (0,0) _ rfl ?_ Tryz.underlying114 rfl szPat) rfl ⟨rfl,?_⟩
 ·refine z0b ?_;rw[zhs (zhs (zhs hb 0 _) 1 _) 2 _];rfl
 exact((((y0s h1).setCell (by simp) _).setCell (by simp) _).setCell (by simp) _).alloc _
theorem x4k(s:ByteArray)(i:Int)(w:World)(hs:s.size<=1000)(h0:0<=i)(h1:i<=s.size)(hok:(Q1o s i).ok=true) :
  Calls Tryz.prog 118 #[.string s,.int .i64 i] w fun e w'=>∃v,e=.returned (.tuple #[patV v (Q1o s i).st (Q1o s i).en,.int .i64 (Q1o s i).next,.bool true])/\Q0a w w'/\Q12 w' v (Q1o s i).ns/\∀k,v.ownBlock=some k->w.heap.size<=k:=by
 have HC:=z5n s hs i [] ((w.alloc (.cells #[.slice none 0 0,.int .i64 0,.int .i64 0] 114 (0,0))).alloc (.cells #[.slice none 0 0] 211 (0,0))) (w.heap.size+1) (.slice none 0 0) h0 h1 (by simp;omega) (by simpa using x09 (w.alloc (.cells #[.slice none 0 0,.int .i64 0,.int .i64 0] 114 (0,0))));have hG:=z5e s 6 i [] h0 h1;unfold Q1o at hok ⊢;generalize hpp:chK s 6 i []=pp at HC hG hok ⊢;simp only[Q6y]at HC;obtain⟨g1,g2,g3,g4⟩:=hG;rw[hok]at HC;have j0:=hid HC;clear HC hpp g3 hok;go_enter Tryz.func118,Tryz.ntmps118
 go_wp2_with (first
  |(go_at_call 126;refine j0.mono ?_;rintro e w1⟨rfl,v1,h1⟩;have hz:w.heap.size<w1.heap.size:=(by have:=h1.mod.size;simp at this;omega);have hb:=h1.mod.at (heap_alloc2_old _ _ _) (by rintro(h|h)<;>simp[Value.ownBlock]at h)))
 obtain⟨ao,cap,hv⟩:=z0d h1.at'.own;have HB:=hid hb;have H1:=hid h1;have k1:=Q0b h1.at'.blk;have j1:w.heap.size+1<w1.heap.size:=by have:=h1.mod.size;simp at this;omega
 have k3:=Q0b hb;have k4:=Q0g hb;subst hv;clear hb h1;go_region;all_goals
  go_wp2;refine bodyPost_ret (z0h rfl _ _ w.heap.size 114 #[.slice ao pp.ns.length cap,.int .i64 pp.st,.int .i64 pp.en] (0,0) _ rfl ?_ Tryz.underlying114 rfl szPat) rfl ⟨.slice ao pp.ns.length cap,rfl,?_,?_,?_⟩
  ·have q:=zhs (zhs (zhs HB.out 0 (.slice ao pp.ns.length cap)) 1 (.int .i64 pp.st)) 2 (.int .i64 pp.en);exact z0b q
  ·exact(((((y0s H1.out).setCell (by simp) _).setCell (by simp) _).setCell (by simp) _).alloc _).drew
  ·have n1:Q12 w1 (.slice ao pp.ns.length cap) pp.ns:=⟨z0f H1.at'.own (qBg _),H1.at'.wf⟩;refine n1.kept (S:=fun k=>k=w.heap.size) ?_ (fun k hk e=>by have:=H1.at'.own_lt k hk;omega);exact((((Mod.setCell (S:=fun k=>k=w.heap.size) (Mod.setCell (S:=fun k=>k=w.heap.size) (Mod.setCell (S:=fun k=>k=w.heap.size) (mRf _ w1) (p:=⟨w.heap.size,0,none⟩) (fun _=>rfl) _) (p:=⟨w.heap.size,1,none⟩) (fun _=>rfl) _) (p:=⟨w.heap.size,2,none⟩) (fun _=>rfl) _)).alloc _)).drew
  intro k hk;have:=H1.at'.own_lt k hk;omega
end Go.Proofs.YtcpceafmlgaodaaGreat
