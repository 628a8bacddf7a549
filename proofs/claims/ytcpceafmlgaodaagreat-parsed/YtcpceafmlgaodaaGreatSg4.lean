import Derived.Test.YtcpceafmlgaodaaGreatSg3
import Derived.Test.YtcpceafmlgaodaaGreatRm1
import Derived.Deep.LoopGhost
namespace Go.Proofs.YtcpceafmlgaodaaGreat
open Go.RowKit
set_option maxRecDepth 99999
set_option maxHeartbeats 0
set_option linter.all false
def Q26(s:ByteArray):List Cl:=Q55 ((Q0q (Q0c s).1).zip (Q0p (Q7p s) (Q0q (Q0c s).1))) (Q0f (Q0c s).1).length (Q0h (Q0c s).1).length
section
variable {ps:List Pr}{R H:Nat}{hs:List Hd}
end
theorem isAggI(w:World):(isAgg 3).run Tryz.prog w=.ok false w:=by
 unfold isAgg;rw[Sem.run_bind,run_underlying Tryz.underlying3];rfl
theorem partI(xs:Array Value)(i:Nat)(v:Value)(h:xs[i]? = some v)(w:World):(part 3 xs i).run Tryz.prog w=.ok v w:=by
 simp[part,isAggI,h]
theorem z36:∀(l:List Ln) (acc:List Wd) (d:Wd),d∈acc->d∈Q11 l acc
 | [],_,_,h=>h
 |x::l,acc,d,h=>by
  unfold Q11;split
  ·exact z36 l acc d h
  split
  ·exact z36 l acc d h
  exact z36 l _ d (by simp[h])
theorem y5k{ds:List Wd}{ls:List Int}:Q1l ds ls<ds.length↔∃d∈ds,d.ls=ls:=by
 unfold Q1l;rw[List.findIdx_lt_length];simp
theorem z5f:∀(l:List Ln) (acc:List Wd) (y:Ln),y∈l->Q07 y=false->∃d∈Q11 l acc,d.ls=y.front.ls
 | [],_,_,h,_=>by cases h
 |x::l,acc,y,h,hy=>by
  simp only[qBc]at h;unfold Q11;rcases h with rfl|h
  ·rw[qAa (by rw[hy];simp)];split
   ·rename_i e;obtain⟨d,h1,h2⟩:=y5k.1 e;exact⟨d,z36 l acc d h1,h2⟩
   exact⟨y.front,z36 l _ _ (by simp),rfl⟩
  split
  ·exact z5f l acc y h hy
  split
  ·exact z5f l acc y h hy
  exact z5f l _ y h hy
theorem y33(lns:List Ln):∀i,i<=lns.length->(Q11 (lns.take i) []).length<=Q3d lns i
 |0,_=>by simp[Q11]
 |i+1,hi=>by
  have ih:=y33 lns i (by omega);have j0:i<lns.length:=by omega
  rw[Q6g j0,z1u,z3c lns i j0];split
  ·omega
  rename_i hr;split
  ·omega
  rename_i hw;have ha:Q24 lns i=false:=by
   unfold Q24;rw[qE j0];simp only[qBr];intro hf;apply hw;rw[y5k];unfold Q2d at hf;have j2:lns.findIdx (fun y=>y.front.ls==lns[i].front.ls)<lns.length:=by omega
   have h1:=qDb (w:=j2);generalize lns.findIdx (fun y=>y.front.ls==lns[i].front.ls)=j at *;simp only[qAx]at h1;have j1:Q07 lns[j]=false:=by
    have:Q14 lns[j].front=Q14 lns[i].front:=y76 h1;unfold Q07 at hr ⊢;rw[this];simpa using hr
   obtain⟨d,hd1,hd2⟩:=z5f (lns.take i) [] lns[j] (List.mem_take_iff_getElem.2 ⟨j,by omega,rfl⟩) j1;exact⟨d,hd1,by rw[hd2,h1]⟩
  rw[ha];simp only[qCk];have j3:Q07 lns[i]=false:=by simpa using hr
  rw[j3];simp only[qP,qAf,qF,qAp];omega
theorem y3n{lns:List Ln}(hp:∀y∈lns,0<=y.front.place)(h:Q3q lns=-1):(Q0h lns).length<=8/\(Q0q lns).length<=20/\∀p∈Q0q lns,p.syms.length<=6:=by
 refine⟨?_,?_,?_⟩
 ·have hc:=y33 lns lns.length (qR _);rw[qAr]at hc;unfold Q0h;by_cases h0:lns.length=0
  ·have:lns=[]:=qBs h0;subst this;simp[Q11]
  have:=z39 hp _ 0 h (by omega) (lns.length-1) (by omega) (by omega);unfold Q7l at this;simp only[qBm,qBr]at this;have h1:=this.1.2;rw[show lns.length-1+1=lns.length by omega]at h1;omega
 ·have e:(Q0q lns).length=Q2y lns lns.length:=by unfold Q0q Q04 Q2y;rw[qAr,qAo]
  rw[e];by_cases h0:lns.length=0
  ·rw[h0];simp[Q2y]
  have:=z39 hp _ 0 h (by omega) (lns.length-1) (by omega) (by omega);unfold Q7l at this;simp only[qBm,qBr]at this;have h1:=this.1.1.2;rw[show lns.length-1+1=lns.length by omega]at h1;omega
 intro p hpm;unfold Q0q at hpm;obtain⟨y,hy,rfl⟩:=qBp.1 hpm;have j0:=(qCx.1 hy).1;obtain⟨k,hk,rfl⟩:=qAv j0;have:=z39 hp _ 0 h (by omega) k hk (by omega);unfold Q7l at this;simp only[qBm,qBr]at this;unfold Q7x;simp only[qAo];omega
def hN(hs:List Hd)(X:Int):Bool:=(Q1i hs X).nul
def hF(hs:List Hd)(X:Int)(t:Nat):Bool:=(Q1i hs X).fi.getD t false
def hO(hs:List Hd)(X:Int)(t:Nat):Bool:=(Q1i hs X).fo.getD t false
theorem z98{a:List Bool}(ha:a.length=9){n:Int}(h0:0<=n)(h9:n<9)(t:Nat):(Q2b a n).getD t false=(a.getD t false||(n==(t:Int))):=by
 unfold Q2b;rw[qAb ⟨h0,h9⟩];simp only[qD,qBy];by_cases e:n.toNat=t
 ·have e2:(n==(t:Int))=true:=by simp;omega
  rw[qAb e,qAb (by omega),e2];simp
 have e2:(n==(t:Int))=false:=by simp;omega
 rw[qAa e,e2];simp
theorem z4e(hs:List Hd):∀(l:List Sy) (acc:List Bool),(Q2m hs l acc).2=l.all (Q35 (hN hs))
 | [],_=>rfl
 |s::l,acc=>by
  unfold Q2m;cases h1:s.isH
  ·simp[Q35,h1]
  simp only[qCe,qAp,qCp,Q35,h1,qBa,hN];cases h2:(Q1i hs s.num).nul
  ·simp
  simp only[qCe,qAp,qBa];exact z4e hs l _
theorem z6s{R H:Nat}{hs:List Hd}(hok:∀x∈hs,x.ok)(hR:R<=8)(t:Nat):∀(l:List Sy) (acc:List Bool),acc.length=9->(∀s∈l,0<=s.num/\s.num<(if s.isH then(H:Int) else R)) ->
  (Q2m hs l acc).1.getD t false=(acc.getD t false||Q3s (hN hs) (fun X=>hF hs X t) t l)
 | [],acc,_,_=>by simp[Q2m,Q3s]
 |s::l,acc,ha,hv=>by
  have hv1:=hv s (by simp);unfold Q2m Q3s;cases h1:s.isH
  ·rw[h1]at hv1;simp only[qF,qAp]at hv1;simp only[qBb,qF,qAp,qCi,qCk];exact z98 ha hv1.1 (by omega) t
  simp only[qCe,qAp,qBb,qBa];have j0:=(z0k hok s.num).fi;cases h2:(Q1i hs s.num).nul
  ·simp only[qBb,hN,h2,qCi,qCk];rw[z3m (by rw[ha,j0])];rfl
  simp only[qCe,qAp];rw[z6s hok hR t l _ (z04 ha j0) (fun x hx=>hv x (by simp[hx])),z3m (by rw[ha,j0])];simp only[hN,h2,qBa,hF,Bool.or_assoc]
theorem z4u(t:Nat):zero9.getD t false=false:=by rw[z3t]
theorem z8x{R H:Nat}{hs:List Hd}(hok:∀x∈hs,x.ok)(hR:R<=8)(t:Nat)(ph:Int)(l:List Sy)(hv:∀s∈l,0<=s.num/\s.num<(if s.isH then(H:Int) else R)) :
  (Q8b hs ph l).getD t false=(Q3s (hN hs) (fun X=>hF hs X t) t l||(l.all (Q35 (hN hs))&&hO hs ph t)):=by
 have h1:=z6s hok hR t l zero9 rfl hv;rw[z4u,qCj]at h1;unfold Q8b;rw[z4e];split
 ·rename_i e;rw[z3m (by rw[z09 hok _ _ rfl,(z0k hok _).fo]),h1,e];simp[hO]
 rename_i e;rw[h1];have:l.all (Q35 (hN hs))=false:=by simpa using e
 rw[this];simp
structure Fd(ps:List Pr)(H:Nat)(hs:List Hd):Prop where
 ok:∀x∈hs,x.ok
 n:∀X,hN hs X=true->NS ps H X=true
 f:∀X t,hF hs X t=true->FS ps (NS ps H) t H X=true
theorem y3g{N N' F F':Int->Bool}{t:Nat}(hn:∀X,N X=true->N' X=true)(h:∀X,F X=true->F' X=true):∀l:List Sy,Q3s N F t l=true->Q3s N' F' t l=true
 | [],e=>e
 |s::l,e=>by
  unfold Q3s at e ⊢;cases hs:s.isH
  ·rw[hs]at e;simpa using e
  rw[hs]at e;simp only[qBb,qBa,qAk,qAc]at e ⊢;rcases e with e|⟨e1,e2⟩
  ·exact .inl (h _ e)
  exact .inr ⟨hn _ e1,y3g hn h l e2⟩
theorem Fd.step{ps:List Pr}{R H:Nat}(hT:Q1b ps R H)(hR:R<=8){hs:List Hd}(h:Fd ps H hs){p:Pr}(hp:p∈ps):Fd ps H (Q3e hs p).1:=by
 have j0:=h.ok;have hh:=hT.hd p hp;refine⟨(z3r j0 p false).ok,?_,?_⟩
 ·intro X hX;unfold hN Q3e at hX;rw[z1c]at hX;split at hX
  ·rename_i e;dsimp only at hX;simp only[qAk]at hX;rw[e.1];rcases hX with hX|hX
   ·exact h.n _ hX
   rw[z4e]at hX;refine v02 hT (H+1) _ hh.1 hh.2 ?_;unfold NS;rw[qAq];refine⟨p,hp,?_⟩;simp only[qAc,beq_self_eq_true,true_and];rw[qAn]at hX ⊢;intro s hs1;have:=hX s hs1;simp only[Q35,qAc]at this ⊢;exact⟨this.1,h.n _ this.2⟩
  exact h.n X hX
 intro X t hX;unfold hF Q3e at hX;rw[z1c]at hX;split at hX
 ·rename_i e;dsimp only at hX;rw[z3m (by rw[(z0k j0 _).fi,z09 j0 _ _ rfl])]at hX;simp only[qAk]at hX;rw[e.1];rcases hX with hX|hX
  ·exact h.f _ t hX
  rw[z6s j0 hR t p.syms zero9 rfl (hT.sy p hp),z4u,qCj]at hX;refine x73 hT _ t (H+1) _ hh.1 hh.2 ?_;unfold FS;rw[qAq];refine⟨p,hp,?_⟩;simp only[qAc,beq_self_eq_true,true_and];exact y3g h.n (fun Y hY=>h.f Y t hY) _ hX
 exact h.f X t hX
theorem Fd.list{ps:List Pr}{R H:Nat}(hT:Q1b ps R H)(hR:R<=8):∀(l:List Pr) (hs:List Hd) (g:Bool),(∀p∈l,p∈ps)->Fd ps H hs->Fd ps H (Q5a l hs g).1
 | [],_,_,_,h=>h
 |p::l,hs,g,hl,h=>Fd.list hT hR l _ _ (fun q hq=>hl q (by simp[hq])) (h.step hT hR (hl p (by simp)))
theorem x1c{ps:List Pr}{R H:Nat}(hT:Q1b ps R H)(hR:R<=8):Fd ps H (Q3w ps (Q0v R H)):=by
 have j1:=z73 (R:Int) H;have hz:∀n,(Q1i (Q0v (R:Int) H) n).fi=zero9/\(Q1i (Q0v (R:Int) H) n).nul=false:=fun n=>by
  rw[z34];split
  ·unfold Q45;split<;>exact⟨rfl,rfl⟩
  exact⟨rfl,rfl⟩
 have i0:Fd ps H (Q0v (R:Int) H):=⟨j1,fun X h=>(by unfold hN at h;rw[(hz X).2]at h;cases h),fun X t h=>(by unfold hF at h;rw[(hz X).1,z4u]at h;cases h)⟩;obtain⟨i1,ok1,_,_⟩:=z1m (z2v ps) (I:=Fd ps H) (fun hs _ h=>Fd.list hT hR ps hs false (fun _ hp=>hp) h) j1 i0;generalize hq1:Q40 (Q75 ps) (Q0v (R:Int) H)=hs1 at i1 ok1;obtain⟨⟨kn2,kf2⟩,ok2,_,_⟩:=z1m (z2b ps) (I:=fun hs=>Q0n Hd.nul hs1 hs/\Q0n Hd.fi hs1 hs) (fun hs _ h=>⟨h.1.trans (z1d (fun _ _=>rfl) ps hs false),h.2.trans (z1d (fun _ _=>rfl) ps hs false)⟩) ok1 ⟨Q0n.refl _ _,Q0n.refl _ _⟩;generalize hq2:Q40 (Q5f ps) hs1=hs2 at kn2 kf2 ok2;obtain⟨⟨kn3,kf3⟩,ok3,_,_⟩:=z1m (z2a ps) (I:=fun hs=>Q0n Hd.nul hs2 hs/\Q0n Hd.fi hs2 hs) (fun hs _ h=>⟨h.1.trans (z0x (fun _ _=>rfl) ps hs false),h.2.trans (z0x (fun _ _=>rfl) ps hs false)⟩) ok2 ⟨Q0n.refl _ _,Q0n.refl _ _⟩;generalize hq3:Q40 (Q6t ps) hs2=hs3 at kn3 kf3 ok3;obtain⟨⟨kn4,kf4⟩,ok4,_,_⟩:=z1m (z2c ps) (I:=fun hs=>Q0n Hd.nul hs3 hs/\Q0n Hd.fi hs3 hs) (fun hs _ h=>⟨h.1.trans (z01 (fun _ _=>rfl) ps hs false),h.2.trans (z01 (fun _ _=>rfl) ps hs false)⟩) ok3 ⟨Q0n.refl _ _,Q0n.refl _ _⟩;have j0:Q3w ps (Q0v (R:Int) H)=Q40 (Q7q ps) hs3:=by unfold Q3w;rw[hq1,hq2,hq3]
 rw[j0];generalize Q40 (Q7q ps) hs3=hs4 at kn4 kf4 ok4;have kn:Q0n Hd.nul hs1 hs4:=(kn2.trans kn3).trans kn4;have kf:Q0n Hd.fi hs1 hs4:=(kf2.trans kf3).trans kf4;refine⟨ok4,fun X h=>i1.n X ?_,fun X t h=>i1.f X t ?_⟩
 ·unfold hN at h ⊢;rw[kn X]at h;exact h
 unfold hF at h ⊢;rw[kf X]at h;exact h
def chF(hs:List Hd)(ps:List Pr)(X:Int)(t:Nat):Int:=match ovL X t (ps.zip (Q0p hs ps)) 0 with
 | []=>-1
 |a::_=>a
theorem y6u(n t:Int):∀(z:List (Pr × List Bool)) (i:Nat) (k:Int),k∈ovL n t z i↔∃(j:Nat) (x:Pr × List Bool),z[j]? = some x/\k=(i:Int)+j/\x.1.head=n/\Q8y x.2 t=true
 | [],i,k=>by simp[ovL]
 |q::z,i,k=>by
  have ih:=y6u n t z (i+1) k;unfold ovL;constructor
  ·intro h;split at h
   ·rename_i e;simp only[qBc]at h;rcases h with rfl|h
    ·exact⟨0,q,rfl,by simp,e.1,e.2⟩
    obtain⟨j,x,h1,h2,h3⟩:=ih.1 h;exact⟨j+1,x,by simpa using h1,by omega,h3⟩
   obtain⟨j,x,h1,h2,h3⟩:=ih.1 h;exact⟨j+1,x,by simpa using h1,by omega,h3⟩
  rintro⟨j,x,h1,h2,h3⟩;cases j with
  |zero =>
   simp only[qBz,qO]at h1;subst h1;rw[qAb h3];simp[h2]
  |succ j =>
   have:=ih.2 ⟨j,x,by simpa using h1,by omega,h3⟩;split
   ·simp[this]
   exact this
theorem x3x{n t:Int}{l:List Int}(h:Q6b n t l=[]):l.length<=1:=by
 match l with
 | []=>simp
 | [_]=>simp
 |a::b::r=>simp[Q6b]at h
theorem x1p{z:List (Pr × List Bool)}{n R:Nat}:∀(f t:Nat),clT z n R f t=[]->∀u:Nat,t<=u->u<=R->R+1<=t+f->(ovL n u z 0).length<=1
 |0,t,_,u,h1,h2,h3=>by omega
 |f+1,t,h,u,h1,h2,h3=>by
  unfold clT at h;rw[qAb (by omega)]at h;obtain⟨h4,h5⟩:=List.append_eq_nil_iff.1 h;by_cases e:t=u
  ·subst e;exact x3x h4
  exact x1p f (t+1) h5 u (by omega) h2 (by omega)
theorem x1n{z:List (Pr × List Bool)}{R H:Nat}:∀(f n:Nat),clN z R H f n=[]->∀m u:Nat,n<=m->m<H->H<=n+f->u<=R->(ovL m u z 0).length<=1
 |0,n,_,m,u,h1,h2,h3,_=>by omega
 |f+1,n,h,m,u,h1,h2,h3,h6=>by
  unfold clN at h;rw[qAb (by omega)]at h;obtain⟨h4,h5⟩:=List.append_eq_nil_iff.1 h;by_cases e:n=m
  ·subst e;exact x1p _ 0 h4 u (by omega) h6 (by omega)
  exact x1n f (n+1) h5 m u (by omega) h2 (by omega) h6
theorem x84{hs:List Hd}{ps:List Pr}{j:Nat}{x:Pr × List Bool}:(ps.zip (Q0p hs ps))[j]? = some x↔∃p,ps[j]? = some p/\x=(p,Q8b hs p.head p.syms):=by
 unfold Q0p;rw[List.zip_map_right,qBe];constructor
 ·intro h;cases hq:(ps.zip ps)[j]? with
  |none=>rw[hq]at h;cases h
  |some y =>
   rw[hq]at h;rw[List.getElem?_zip_eq_some]at hq;obtain⟨y1,y2⟩:=y;have e:y1=y2:=by have:=hq.1.symm.trans hq.2;simpa using this
   subst e;refine⟨y1,hq.1,?_⟩;simp only[qCz,qO]at h;rw[← h];rfl
 rintro⟨p,h1,rfl⟩;have:(ps.zip ps)[j]? = some (p,p):=by rw[List.getElem?_zip_eq_some];exact⟨h1,h1⟩
 rw[this];rfl
theorem llg{ps:List Pr}{R H:Nat}(hT:Q1b ps R H)(hR:R<=8)(hH:0<H)(hmx:∀p∈ps,p.syms.length<=6)
  (hcl:Q55 (ps.zip (Q0p (Q3w ps (Q0v R H)) ps)) R H=[]):LLG ps R H (hN (Q3w ps (Q0v R H))) (hF (Q3w ps (Q0v R H))) (hO (Q3w ps (Q0v R H))) (chF (Q3w ps (Q0v R H)) ps):=by
 have hS:=z8e hT hR;have hD:=x1c hT hR;generalize Q3w ps (Q0v R H)=hs at *;have j2:∀n X,NS ps n X=true->hN hs X=true:=by
  intro n;induction n with
  |zero=>intro X h;cases h
  |succ n ih =>
   intro X h;unfold NS at h;rw[qAq]at h;obtain⟨p,hp,h⟩:=h;simp only[qAc,qAn,qAx]at h;rw[← h.1];refine hS.clN p hp ?_;rw[z4e,qAn];intro s hs1;simp only[Q35,qAc];exact⟨(h.2 s hs1).1,ih _ (h.2 s hs1).2⟩
 have j0:NS ps H=hN hs:=by
  funext X;rw[qAs];exact⟨j2 H X,hD.n X⟩
 have j1:∀p∈ps,∀t:Nat,Q8y (Q8b hs p.head p.syms) t=ahd (hN hs) (hF hs) (hO hs) p t:=fun p hp t=>by
  unfold Q8y ahd;rw[qAb (by omega),qAl];exact z8x hS.ok hR t p.head p.syms (hT.sy p hp)
 refine⟨hT,hmx,?_,?_,?_,hD.n,?_,hS.st2 hH,hS.bfi,?_,?_⟩
 ·intro p hp h;exact hS.clN p hp (by rw[z4e];exact h)
 ·intro p hp t h;refine hS.clF p hp t ?_;rw[z6s hS.ok hR t p.syms zero9 rfl (hT.sy p hp),z4u,qCj];exact h
 ·intro p hp a s b e hs1 t h;refine hS.clS p hp a s b e hs1 t ?_;rw[z8x hS.ok hR t p.head b (fun x hx=>hT.sy p hp x (by rw[e];simp[hx]))];exact h
 ·intro X t h;rw[← j0];exact hD.f X t h
 ·intro i p hi t ht ha;have hp:=qAd hi;have hh:=hT.hd p hp;have hm:(i:Int)∈ovL p.head t (ps.zip (Q0p hs ps)) 0:=by
   rw[y6u];exact⟨i,_,x84.2 ⟨p,hi,rfl⟩,by simp,rfl,by rw[j1 p hp];exact ha⟩
  have h1:=x1n (z:=ps.zip (Q0p hs ps)) (R:=R) (H:=H) (H+1) 0 hcl p.head.toNat t (by omega) (by omega) (by omega) ht;rw[show((p.head.toNat:Nat):Int)=p.head by omega]at h1;unfold chF;generalize ovL p.head t (ps.zip (Q0p hs ps)) 0=l at hm h1;match l with
  | []=>cases hm
  | [a]=>simp at hm;simp[hm]
  |a::b::r=>simp at h1
 intro X t h0;unfold chF at h0 ⊢;cases hq:ovL X t (ps.zip (Q0p hs ps)) 0 with
 |nil=>rw[hq]at h0;simp at h0
 |cons a r =>
  have hm:a∈ovL X t (ps.zip (Q0p hs ps)) 0:=by rw[hq];simp
  rw[y6u]at hm;obtain⟨j,x,h1,h2,h3,h4⟩:=hm;obtain⟨p,h5,rfl⟩:=x84.1 h1;refine⟨p,?_,h3,?_⟩
  ·simp only[];rw[h2];simpa using h5
  rw[← j1 p (qAd h5)];exact h4
structure Nd where
 prod:Int
 kind:Int
 place:Int
 size:Int
def ndL:List St->Nat->List Nd
 | [],_=>[]
 |s::l,n=>if s.leaf then⟨-1,s.num,n,0⟩::ndL l (n+1) else⟨s.num,-1,n,0⟩::ndL l n
theorem z60:∀(l:List St) (n:Nat),(ndL l n).length=l.length
 | [],_=>rfl
 |s::l,n=>by unfold ndL;split<;>simp[z60 l]
def arF(ps:List Pr)(n:Nd):Nat:=if n.prod<0 then 0 else match ps[n.prod.toNat]? with
 |some p=>p.syms.length
 |none=>0
def szL(S:List Nat):Nat->Nat->Nat
 |0,z=>z
 |l+1,z=>match S[z-1]? with
  |some d=>szL S l (z+d)
  |none=>z
def Q08(ps:List Pr):List Nd->List Nat
 | []=>[]
 |n::l=>szL (Q08 ps l) (arF ps n) 1::Q08 ps l
theorem z2u(ps:List Pr):∀l,(Q08 ps l).length=l.length
 | []=>rfl
 |n::l=>by simp[Q08,z2u ps l]
def Q74(n:Nd)(z:Nat):Nd:={n with size:=z}
def Q17(ps:List Pr)(st:List St):List Nd:=List.zipWith Q74 (ndL st 0) (Q08 ps (ndL st 0))
theorem z62(ps:List Pr)(st:List St):(Q17 ps st).length=st.length:=by simp[Q17,z60,z2u]
theorem x8r{S:List Nat}(hS:∀j d,S[j]? = some d->1<=d/\j+d<=S.length):∀(l z:Nat),1<=z->z<=S.length+1->1<=szL S l z/\szL S l z<=S.length+1
 |0,z,h1,h2=>⟨h1,h2⟩
 |l+1,z,h1,h2=>by
  unfold szL;cases hq:S[z-1]? with
  |none=>exact⟨h1,h2⟩
  |some d =>
   have:=hS _ _ hq;exact x8r hS l (z+d) (by omega) (by omega)
theorem z9y(ps:List Pr):∀(l:List Nd) (j d:Nat),(Q08 ps l)[j]? = some d->1<=d/\j+d<=l.length
 | [],j,d,h=>by simp[Q08]at h
 |n::l,0,d,h=>by
  simp only[Q08,qBz,qO]at h;have:=x8r (S:=Q08 ps l) (fun j d h=>by rw[z2u];exact z9y ps l j d h) (arF ps n) 1 (by omega) (by omega);rw[z2u]at this;simp only[qAy];omega
 |n::l,j+1,d,h=>by
  simp only[Q08,qEm]at h;have:=z9y ps l j d h;simp only[qAy];omega
theorem z4s(ps:List Pr):∀(l:List Nd) (i:Nat),(Q08 ps l).drop i=Q08 ps (l.drop i)
 | [],i=>by simp[Q08]
 |n::l,0=>rfl
 |n::l,i+1=>by simp only[Q08,List.drop_succ_cons];exact z4s ps l i
theorem x4r(ps:List Pr)(l:List Nd)(i:Nat)(hi:i<l.length):(Q08 ps l)[i]? = some (szL ((Q08 ps l).drop (i+1)) (arF ps l[i]) 1):=by
 have h1:(Q08 ps l)[i]? = ((Q08 ps l).drop i)[0]? := by simp
 rw[h1,z4s,qC hi,z4s];rfl
def Q5y(hs:List Hd)(R:Nat)(k:List Sy):List Bool:=if(Q2m hs k zero9).2 then Q2b (Q2m hs k zero9).1 R else(Q2m hs k zero9).1
def Q7h(ps:List Pr)(hs:List Hd)(H t:Nat)(k:List Sy)(st:List St):List Sy × List St:=(gTo ps (chF hs ps) t (Q2u H k.length) k st).getD (k,st)
structure Q95 where
 err:Int
 wanted:List Int
 place:Nat
 st:List St
def Q6a(ps:List Pr)(hs:List Hd)(R H:Nat):List Int->Nat->List Sy->List St->Q95
 | [],a,k,st=>if(Q5y hs R k).getD R false then⟨0,[],0,(Q7h ps hs H R k st).2⟩ else⟨10,Q28 (Q5y hs R k),a,[]⟩
 |t::l,a,k,st=>if(Q5y hs R k).getD t.toNat false then Q6a ps hs R H l (a+1) (Q7h ps hs H t.toNat k st).1 (Q7h ps hs H t.toNat k st).2 else⟨10,Q28 (Q5y hs R k),a,[]⟩
theorem z3w{R H:Nat}{hs:List Hd}(hok:∀x∈hs,x.ok)(hR:R<=8)(k:List Sy)(hv:∀s∈k,0<=s.num/\s.num<(if s.isH then(H:Int) else R))(t:Nat):(Q5y hs R k).getD t false=Q6j (hN hs) (hF hs) R k t:=by
 have h1:=z6s hok hR t k zero9 rfl hv;rw[z4u,qCj]at h1;unfold Q5y Q6j;rw[z4e];split
 ·rename_i e;rw[z98 (z09 hok _ _ rfl) (by omega) (by omega),h1,e];simp only[qBa];congr 1;rw[qAs];simp;omega
 rename_i e;have:k.all (Q35 (hN hs))=false:=by simpa using e
 rw[h1,this];simp
theorem y86{hs:List Hd}(hok:∀x∈hs,x.ok)(R:Nat)(k:List Sy):(Q5y hs R k).length=9:=by
 unfold Q5y;split
 ·exact z2m (z09 hok _ _ rfl)
 exact z09 hok _ _ rfl
def Nd.cells(n:Nd):List Value:=[.int .i64 n.prod,.int .i64 n.kind,.int .i64 n.place,.int .i64 n.size]
abbrev Q3l(w:World)(base:Nat)(v:Value)(l:List Nd):Prop:=w.ownsRow base 59 4 v l.length (Q00 Nd.cells l)
abbrev ndA(p k a s:Int):Array Value:=#[.int .i64 p,.int .i64 k,.int .i64 a,.int .i64 s]
theorem stoodNd:Tryz.prog.stoodInHeld 59=false:=by kernel_rfl
theorem guardNd:Tryz.prog.eqGuardType Tryz.prog.depth 59=false:=by kernel_rfl
theorem eqNd(d:Nat)(h t a b:Int)(w:World):(Op.equalIn (d+4) 59 (.agg (ndA h t a b)) (.agg (ndA h t a b))).run Tryz.prog w=.ok true w:=by
 rw[run_equalIn_struct w (d+3) _ _ _ (by kernel_rfl) stoodNd];have hf : ((Tryz.prog.fieldsOf 59).toList.map fun f => (f.name, f.type, f.offset)) = [("Prod", 3, 0), ("Kind", 3, 1), ("At", 3, 2), ("Size", 3, 3)] := by kernel_rfl
 generalize(Tryz.prog.fieldsOf 59).toList=fs at hf;rcases fs with _|⟨f0,_|⟨f1,_|⟨f2,_|⟨f3,_|⟨f4,fs⟩⟩⟩⟩⟩<;>simp at hf;obtain⟨⟨n0,t0,o0⟩,⟨n1,t1,o1⟩,⟨n2,t2,o2⟩,⟨n3,t3,o3⟩⟩:=hf;simp only[Op.eqFields,n0,t0,o0,n1,t1,o1,n2,t2,o2,n3,t3,o3];simp[partI,run_equalIn_int w (d+2) 3 .i64 _ _ _ Tryz.underlying3]
def ldN(v:Value):Sem Value:=Instr.loadAt 59 v
theorem y14(v:Value):Instr.loadAt 59 v=ldN v:=rfl
theorem szNd:(Tryz.prog.info? 59).map (·.size)=some 4:=by kernel_rfl
theorem x24{w:World}{g o:Nat}{p k a s:Int}(hr:w.rangeAt g o [.int .i64 p,.int .i64 k,.int .i64 a,.int .i64 s]):(ldN (.pointer (some ⟨g,o,none⟩))).run Tryz.prog w=.ok (.agg (ndA p k a s)) w :=
 run_loadAt_mid w g o _ _ _ hr Tryz.underlying59 rfl szNd
abbrev NdsAt:=Q2e Nd.cells 4 59
attribute [local go_sem ↓] y14
def Itm.cells(m:Itm):List Value:=[.int .i64 m.p,.int .i64 m.d,.int .i64 m.f]
abbrev itA(p d f:Int):Array Value:=#[.int .i64 p,.int .i64 d,.int .i64 f]
abbrev ItsAt:=Q2e Itm.cells 3 163
def itEq(a b:Itm):Bool:=a.p==b.p&&(a.d==b.d&&a.f==b.f)
theorem y78(a b:Itm):itEq a b=true↔a=b:=by
 obtain⟨a1,a2,a3⟩:=a;obtain⟨b1,b2,b3⟩:=b;simp[itEq]
def inI(l:List Itm)(m:Itm):Bool:=l.any (itEq · m)
theorem x2s(l:List Itm)(m:Itm):inI l m=true↔m∈l:=by
 unfold inI;rw[qAq];constructor
 ·rintro⟨x,hx,e⟩;rw[y78]at e;exact e▸hx
 intro h;exact⟨m,h,(y78 m m).2 rfl⟩
theorem stoodIt:Tryz.prog.stoodInHeld 163=false:=by kernel_rfl
theorem guardIt:Tryz.prog.eqGuardType Tryz.prog.depth 163=false:=by kernel_rfl
theorem szIt:(Tryz.prog.info? 163).map (·.size)=some 3:=by kernel_rfl
theorem eqIt(d:Nat)(a b:Itm)(w:World):(Op.equalIn (d+4) 163 (.agg (itA a.p a.d a.f)) (.agg (itA b.p b.d b.f))).run Tryz.prog w=.ok (itEq a b) w:=by
 obtain⟨a1,a2,a3⟩:=a;obtain⟨b1,b2,b3⟩:=b;rw[run_equalIn_struct w (d+3) _ _ _ (by kernel_rfl) stoodIt];have hf : ((Tryz.prog.fieldsOf 163).toList.map fun f => (f.name, f.type, f.offset)) = [("Prod", 3, 0), ("Dot", 3, 1), ("From", 3, 2)] := by kernel_rfl
 generalize(Tryz.prog.fieldsOf 163).toList=fs at hf;rcases fs with _|⟨f0,_|⟨f1,_|⟨f2,_|⟨f3,fs⟩⟩⟩⟩<;>simp at hf;obtain⟨⟨n0,t0,o0⟩,⟨n1,t1,o1⟩,⟨n2,t2,o2⟩⟩:=hf;simp only[Op.eqFields,n0,t0,o0,n1,t1,o1,n2,t2,o2];have k:∀a b:Nat,a≠b->¬((a:Int)=(b:Int)):=fun a b h e=>h (by omega);have k2:∀a b:Nat,a≠b->(a==b)=false:=fun a b h=>by simpa using h
 by_cases e1:a1=b1
 ·subst e1;by_cases e2:a2=b2
  ·subst e2;by_cases e3:a3=b3
   ·subst e3;simp[itEq,partI,run_equalIn_int w (d+2) 3 .i64 _ _ _ Tryz.underlying3]
   simp[itEq,k _ _ e3,k2 _ _ e3,partI,run_equalIn_int w (d+2) 3 .i64 _ _ _ Tryz.underlying3]
  simp[itEq,k _ _ e2,k2 _ _ e2,partI,run_equalIn_int w (d+2) 3 .i64 _ _ _ Tryz.underlying3]
 simp[itEq,k _ _ e1,k2 _ _ e1,partI,run_equalIn_int w (d+2) 3 .i64 _ _ _ Tryz.underlying3]
def ldI(v:Value):Sem Value:=Instr.loadAt 163 v
theorem z5h(v:Value):Instr.loadAt 163 v=ldI v:=rfl
theorem z3a{w:World}{g o:Nat}{m:Itm}(hr:w.rangeAt g o m.cells):(ldI (.pointer (some ⟨g,o,none⟩))).run Tryz.prog w=.ok (.agg (itA m.p m.d m.f)) w :=
 run_loadAt_mid w g o _ _ _ hr Tryz.underlying163 rfl szIt
theorem Q9x(w:World)(m:Itm)(t:TypeId):(w.alloc (.cells (itA m.p m.d m.f) t (0,0))).rangeAt w.heap.size 0 m.cells:=fun j v hj=>by
 rw[Q0b (z0a _ _),qBi];simpa [Itm.cells]using hj
attribute [local go_sem ↓] z5h
theorem v1g(w:World)(v:Value)(l:List Itm)(m:Itm)(h:ItsAt w v l)(hl:l.length<=100000) :
  Calls Tryz.prog 95 #[v,.agg (itA m.p m.d m.f)] w fun e w'=>e=.returned (.bool (inI l m))/\Q0a w w':=by
 obtain⟨ao,cap,hv⟩:=z0d h.own;subst hv;have HA:=hid h;generalize hR:inI l m=RES;unfold inI at hR;have HR:=hid hR;have HN:=hid (Q9x w m 163);have j2:Hid (Q0a w (w.alloc (.cells (itA m.p m.d m.f) 163 (0,0)))):=(mRf _ w).alloc _;clear h hR;go_enter Tryz.func95,Tryz.ntmps95
 go_wp2;go_loopw [5] (fun x5 wr=>∃(i:Nat),x5=.int .i64 i/\i<=l.length/\(l.drop i).any (itEq · m)=RES/\∃k,wr=(w.alloc (.cells (itA m.p m.d m.f) 163 (0,0))).drewN k)
   (fun x _=>100001-(intOf x).toNat)
 case atStart=>exact⟨0,rfl,by omega,HR.out,0,rfl⟩
 obtain⟨i,rfl,hi,hres,k,hfr⟩:=hrel;subst hfr;have j1:Hid (∀k,Q0a w ((w.alloc (.cells (itA m.p m.d m.f) 163 (0,0))).drewN k)):=fun k=>j2.trans (Q32 _ k);have j3:=hid (Q15 (B:=100001) i (by omega));by_cases hlt:i<l.length
 ·have j5:(i:Int)<(l.length:Int):=by omega
  rw[qC hlt,List.any_cons]at hres;obtain⟨g,c',hg⟩:=Joins.ownsRow_form HA.own (by omega);rw[qI]at hg;obtain⟨rfl,_,rfl⟩:=hg;have r1:=HA.range i hlt;generalize l[i]=li at r1 hres;have l1:∀k,(ldI (.pointer (some ⟨g,i*3,none⟩))).run Tryz.prog ((w.alloc (.cells (itA m.p m.d m.f) 163 (0,0))).drewN k)=.ok (.agg (itA li.p li.d li.f)) ((w.alloc (.cells (itA m.p m.d m.f) 163 (0,0))).drewN k):=fun k=>z3a (fun j v hj=>Q0i (j1.out k) (r1 j v hj));have l2:∀k,(ldI (.pointer (some ⟨w.heap.size,0,none⟩))).run Tryz.prog ((w.alloc (.cells (itA m.p m.d m.f) 163 (0,0))).drewN k)=.ok (.agg (itA m.p m.d m.f)) ((w.alloc (.cells (itA m.p m.d m.f) 163 (0,0))).drewN k):=fun k=>z3a (z0t HN.out rfl);have q1:∀w,(Op.equalIn 10000 163 (.agg (itA li.p li.d li.f)) (.agg (itA m.p m.d m.f))).run Tryz.prog w=.ok (itEq li m) w:=fun w=>eqIt 9996 li m w;have g1:=guardIt;clear r1;generalize itEq li m=bq at hres q1;cases bq
  ·rw[qCj]at hres;have j0:=hid hres;clear hres;go_wp2_with fail
   go_quiet (fail);go_wp2;go_roundw
   case rel=>exact⟨i+1,by go_num,by omega,j0.out,_,rfl⟩
   exact j3.out
  rw[Bool.true_or]at hres;have j0:=hid hres;clear hres;go_wp2_with fail
  go_quiet (fail);go_wp2;go_ret;exact⟨z0s j0.out,(j1.out _).trans (Q32 _ _)⟩
 have j4:i=l.length:=by omega
 have j6:¬(i:Int)<(l.length:Int):=by omega
 rw[j4,qBw]at hres;have j0:=hid hres;clear hres;go_wp2;go_ret;exact⟨z0s (by rw[← j0.out];rfl),j1.out _⟩
structure FoI(hs1:List Hd)(QO:Int->Nat->Prop)(hs:List Hd):Prop where
 ok:∀x∈hs,x.ok
 kn:Q0n Hd.nul hs1 hs
 kf:Q0n Hd.fi hs1 hs
 kr:Q0n Hd.rch hs1 hs
 ku:Q0n Hd.fru hs1 hs
 o:∀X t,hO hs X t=true->QO X t
theorem x8c{hs hs':List Hd}(h:Q0n Hd.nul hs hs'):hN hs'=hN hs:=funext fun X=>h X
theorem x8b{hs hs':List Hd}(h:Q0n Hd.fi hs hs'):hF hs'=hF hs:=funext fun X=>funext fun t=>by unfold hF;rw[h X]
theorem foSS{QO:Int->Nat->Prop}{R H:Nat}(hR:R<=8){hs1:List Hd}(ph:Int)(syms:List Sy)(hv:∀s∈syms,0<=s.num/\s.num<(if s.isH then(H:Int) else R))
  (hq:∀a s b,syms=a++s::b->s.isH=true->∀t,(Q3s (hN hs1) (fun X=>hF hs1 X t) t b=true∨(b.all (Q35 (hN hs1))=true/\QO ph t))->QO s.num t) :
  ∀(l a:List Sy) (hs:List Hd) (g:Bool),syms=a++l->FoI hs1 QO hs->FoI hs1 QO (Q2v ph l hs g).1
 | [],a,hs,g,e,h=>h
 |s::l,a,hs,g,e,h=>by
  unfold Q2v;split
  ·exact foSS hR ph syms hv hq l (a++[s]) hs g (by rw[e];simp) h
  rename_i c;have c':s.isH=true:=by simpa using c
  refine foSS hR ph syms hv hq l (a++[s]) _ _ (by rw[e];simp) ?_;have j0:=h.ok;have j1:=z3d j0 ph l;refine⟨y6x j0 _ ⟨(z0k j0 s.num).fi,z04 (z0k j0 s.num).fo j1⟩,?_,?_,?_,?_,?_⟩
  ·intro n;rw[z1c];split
   ·rename_i q;rw[q.1];exact h.kn s.num
   exact h.kn n
  ·intro n;rw[z1c];split
   ·rename_i q;rw[q.1];exact h.kf s.num
   exact h.kf n
  ·intro n;rw[z1c];split
   ·rename_i q;rw[q.1];exact h.kr s.num
   exact h.kr n
  ·intro n;rw[z1c];split
   ·rename_i q;rw[q.1];exact h.ku s.num
   exact h.ku n
  intro X t ht;unfold hO at ht;rw[z1c]at ht;split at ht
  ·rename_i q;rw[q.1];unfold Q5i at ht;dsimp only at ht;rw[z3m (by rw[(z0k j0 _).fo,j1])]at ht;simp only[qAk]at ht;rcases ht with ht|ht
   ·exact h.o _ t ht
   rw[z8x j0 hR t ph l (fun x hx=>hv x (by rw[e];simp[hx])),x8c h.kn,x8b h.kf]at ht;simp only[qAk,qAc]at ht;refine hq a s l e c' t ?_;rcases ht with ht|ht
   ·exact .inl ht
   exact .inr ⟨ht.1,h.o _ t ht.2⟩
  exact h.o X t ht
theorem foSL{ps:List Pr}{R H:Nat}(hT:Q1b ps R H)(hR:R<=8){QO:Int->Nat->Prop}{hs1:List Hd}
  (hq:∀p∈ps,∀a s b,p.syms=a++s::b->s.isH=true->∀t,(Q3s (hN hs1) (fun X=>hF hs1 X t) t b=true∨(b.all (Q35 (hN hs1))=true/\QO p.head t))->QO s.num t) :
  ∀(l:List Pr) (hs:List Hd) (g:Bool),(∀p∈l,p∈ps)->FoI hs1 QO hs->FoI hs1 QO (Q5b l hs g).1
 | [],_,_,_,h=>h
 |p::l,hs,g,hl,h=>foSL hT hR hq l _ _ (fun q hq=>hl q (by simp[hq])) (foSS hR p.head p.syms (hT.sy p (hl p (by simp))) (hq p (hl p (by simp))) p.syms [] hs g rfl h)
theorem rcRS{QR:Int->Prop}:∀(l:List Sy) (hs:List Hd) (g:Bool),(∀s∈l,s.isH=true->QR s.num)->(∀X,(Q1i hs X).rch=true->QR X)->∀X,(Q1i (Q3f l hs g).1 X).rch=true->QR X
 | [],hs,g,_,h=>h
 |s::l,hs,g,hq,h=>by
  unfold Q3f;split
  ·exact rcRS l hs g (fun x hx=>hq x (by simp[hx])) h
  rename_i c;refine rcRS l _ _ (fun x hx=>hq x (by simp[hx])) ?_;intro X hX;rw[z1c]at hX;split at hX
  ·rename_i e;rw[e.1];exact hq s (by simp) (by simpa using c)
  exact h X hX
theorem rcRL{ps:List Pr}{QR:Int->Prop}(hq:∀p∈ps,QR p.head->∀s∈p.syms,s.isH=true->QR s.num):∀(l:List Pr) (hs:List Hd) (g:Bool),(∀p∈l,p∈ps)->(∀X,(Q1i hs X).rch=true->QR X)->∀X,(Q1i (Q3j l hs g).1 X).rch=true->QR X
 | [],_,_,_,h=>h
 |p::l,hs,g,hl,h=>by
  unfold Q3j;split
  ·exact rcRL hq l hs g (fun q hq=>hl q (by simp[hq])) h
  rename_i c;exact rcRL hq l _ _ (fun q hq=>hl q (by simp[hq])) (rcRS p.syms hs g (hq p (hl p (by simp)) (h _ (by simpa using c))) h)
theorem fuFL{ps:List Pr}{QU:Int->Prop}(hq:∀p∈ps,(∀s∈p.syms,s.isH=true->QU s.num)->QU p.head):∀(l:List Pr) (hs:List Hd) (g:Bool),(∀p∈l,p∈ps)->(∀X,(Q1i hs X).fru=true->QU X)->∀X,(Q1i (Q41 l hs g).1 X).fru=true->QU X
 | [],_,_,_,h=>h
 |p::l,hs,g,hl,h=>by
  unfold Q41;refine fuFL hq l _ _ (fun q hq=>hl q (by simp[hq])) ?_;intro X hX;unfold Q4n at hX;rw[z1c]at hX;split at hX
  ·rename_i e;dsimp only at hX;rw[qAk]at hX;rw[e.1];rcases hX with hX|hX
   ·exact h _ hX
   refine hq p (hl p (by simp)) (fun s hs1 hs2=>h _ ?_);unfold Q4y at hX;rw[qAn]at hX;have:=hX s hs1;unfold fruB at this;rw[hs2]at this;simpa using this
  exact h X hX
theorem x5r{ps:List Pr}{R H:Nat}(hT:Q1b ps R H)(hR:R<=8){QO:Int->Nat->Prop}{QR QU:Int->Prop}
  (q0:QO 0 R) (qo:∀p∈ps,∀a s b,p.syms=a++s::b->s.isH=true->∀t,(Q3s (hN (Q3w ps (Q0v R H))) (fun X=>hF (Q3w ps (Q0v R H)) X t) t b=true∨(b.all (Q35 (hN (Q3w ps (Q0v R H))))=true/\QO p.head t))->QO s.num t)
  (qr0:QR 0) (qr:∀p∈ps,QR p.head->∀s∈p.syms,s.isH=true->QR s.num) (qu:∀p∈ps,(∀s∈p.syms,s.isH=true->QU s.num)->QU p.head) :
  (∀X t,hO (Q3w ps (Q0v R H)) X t=true->QO X t)/\(∀X,(Q1i (Q3w ps (Q0v R H)) X).rch=true->QR X)/\(∀X,(Q1i (Q3w ps (Q0v R H)) X).fru=true->QU X):=by
 have j1:=z73 (R:Int) H;have hz:∀n,(Q1i (Q0v (R:Int) H) n).fru=false/\((Q1i (Q0v (R:Int) H) n).rch=true->n=0)/\(∀t,(Q1i (Q0v (R:Int) H) n).fo.getD t false=true->n=0/\t=R):=fun n=>by
  rw[z34];split
  ·rename_i e;unfold Q45;split
   ·rename_i e0;refine⟨rfl,fun _=>by omega,fun t ht=>?_⟩;dsimp only at ht;rw[z98 rfl (by omega) (by omega),z4u]at ht;simp at ht;omega
   refine⟨rfl,fun q=>(by cases q),fun t ht=>?_⟩;have:zeroHd.fo=zero9:=rfl;rw[this,z4u]at ht;cases ht
  refine⟨rfl,fun q=>(by cases q),fun t ht=>?_⟩;have:zeroHd.fo=zero9:=rfl;rw[this,z4u]at ht;cases ht
 obtain⟨⟨kr1,ku1,ko1⟩,ok1,_,_⟩:=z1m (z2v ps) (I:=fun hs=>Q0n Hd.rch (Q0v (R:Int) H) hs/\Q0n Hd.fru (Q0v (R:Int) H) hs/\Q0n Hd.fo (Q0v (R:Int) H) hs)
  (fun hs _ h=>⟨h.1.trans (z1s (fun _ _ _=>rfl) ps hs false),h.2.1.trans (z1s (fun _ _ _=>rfl) ps hs false),h.2.2.trans (z1s (fun _ _ _=>rfl) ps hs false)⟩) j1 ⟨Q0n.refl _ _,Q0n.refl _ _,Q0n.refl _ _⟩
 have j0:Q3w ps (Q0v (R:Int) H)=Q40 (Q7q ps) (Q40 (Q6t ps) (Q40 (Q5f ps) (Q40 (Q75 ps) (Q0v (R:Int) H)))):=rfl;generalize hq1:Q40 (Q75 ps) (Q0v (R:Int) H)=hs1 at kr1 ku1 ko1 ok1 j0; -- what later steps keep
 have k2:=z1m (z2b ps) (I:=fun hs=>Q0n Hd.nul hs1 hs/\Q0n Hd.fi hs1 hs) (fun hs _ h=>⟨h.1.trans (z1d (fun _ _=>rfl) ps hs false),h.2.trans (z1d (fun _ _=>rfl) ps hs false)⟩) ok1 ⟨Q0n.refl _ _,Q0n.refl _ _⟩;obtain⟨⟨kn2,kf2⟩,ok2,_,_⟩:=k2;obtain⟨⟨kn3,kf3,ko3,ku3⟩,ok3,_,_⟩:=z1m (z2a ps) (I:=fun hs=>Q0n Hd.nul (Q40 (Q5f ps) hs1) hs/\Q0n Hd.fi (Q40 (Q5f ps) hs1) hs/\Q0n Hd.fo (Q40 (Q5f ps) hs1) hs/\Q0n Hd.fru (Q40 (Q5f ps) hs1) hs) (fun hs _ h=>⟨h.1.trans (z0x (fun _ _=>rfl) ps hs false),h.2.1.trans (z0x (fun _ _=>rfl) ps hs false),h.2.2.1.trans (z0x (fun _ _=>rfl) ps hs false),h.2.2.2.trans (z0x (fun _ _=>rfl) ps hs false)⟩) ok2 ⟨Q0n.refl _ _,Q0n.refl _ _,Q0n.refl _ _,Q0n.refl _ _⟩;obtain⟨⟨kn4,kf4,ko4,kr4⟩,ok4,_,_⟩:=z1m (z2c ps) (I:=fun hs=>Q0n Hd.nul (Q40 (Q6t ps) (Q40 (Q5f ps) hs1)) hs/\Q0n Hd.fi (Q40 (Q6t ps) (Q40 (Q5f ps) hs1)) hs/\Q0n Hd.fo (Q40 (Q6t ps) (Q40 (Q5f ps) hs1)) hs/\Q0n Hd.rch (Q40 (Q6t ps) (Q40 (Q5f ps) hs1)) hs) (fun hs _ h=>⟨h.1.trans (z01 (fun _ _=>rfl) ps hs false),h.2.1.trans (z01 (fun _ _=>rfl) ps hs false),h.2.2.1.trans (z01 (fun _ _=>rfl) ps hs false),h.2.2.2.trans (z01 (fun _ _=>rfl) ps hs false)⟩) ok3 ⟨Q0n.refl _ _,Q0n.refl _ _,Q0n.refl _ _,Q0n.refl _ _⟩;rw[← j0]at kn4 kf4 ko4 kr4 ok4;have eN:hN (Q3w ps (Q0v (R:Int) H))=hN hs1:=x8c ((kn2.trans kn3).trans kn4);have eF:hF (Q3w ps (Q0v (R:Int) H))=hF hs1:=x8b ((kf2.trans kf3).trans kf4);rw[eN,eF]at qo;have i1:FoI hs1 QO hs1:=⟨ok1,Q0n.refl _ _,Q0n.refl _ _,Q0n.refl _ _,Q0n.refl _ _,fun X t h=>by
  unfold hO at h;rw[ko1 X]at h;obtain⟨e1,e2⟩:=(hz X).2.2 t h;rw[e1,e2];exact q0⟩
 obtain⟨i2,_,_,_⟩:=z1m (z2b ps) (I:=FoI hs1 QO) (fun hs _ h=>foSL hT hR qo ps hs false (fun _ hp=>hp) h) ok1 i1;have r2:∀X,(Q1i (Q40 (Q5f ps) hs1) X).rch=true->QR X:=fun X h=>by
  rw[i2.kr X,kr1 X]at h;rw[(hz X).2.1 h];exact qr0
 obtain⟨r3,_,_,_⟩:=z1m (z2a ps) (I:=fun hs=>∀X,(Q1i hs X).rch=true->QR X) (fun hs _ h=>rcRL qr ps hs false (fun _ hp=>hp) h) ok2 r2;have u3:∀X,(Q1i (Q40 (Q6t ps) (Q40 (Q5f ps) hs1)) X).fru=true->QU X:=fun X h=>by
  rw[ku3 X,i2.ku X,ku1 X,(hz X).1]at h;cases h
 obtain⟨u4,_,_,_⟩:=z1m (z2c ps) (I:=fun hs=>∀X,(Q1i hs X).fru=true->QU X) (fun hs _ h=>fuFL qu ps hs false (fun _ hp=>hp) h) ok3 u3;rw[← j0]at u4;refine⟨fun X t h=>i2.o X t ?_,fun X h=>r3 X ?_,u4⟩
 ·unfold hO at h ⊢;rw[ko4 X,ko3 X]at h;exact h
 rw[kr4 X]at h;exact h
def Q0u(R:Nat)(s:Sy):Int:=if s.isH then(R:Int)+1+s.num else s.num
def Pth(r:Int->Int->Prop):Nat->Int->Int->Prop
 |0,i,j=>r i j
 |n+1,i,j=>∃k,r i k/\Pth r n k j
def TC(r:Int->Int->Prop)(i j:Int):Prop:=∃n,Pth r n i j
section
variable {r:Int->Int->Prop}
theorem TC.one{i j:Int}(h:r i j):TC r i j:=⟨0,h⟩
theorem TC.cons{i k j:Int}(h:r i k)(h2:TC r k j):TC r i j:=by
 obtain⟨n,h2⟩:=h2;exact⟨n+1,k,h,h2⟩
theorem y4n:∀(n m:Nat) (i k j:Int),Pth r n i k->Pth r m k j->Pth r (n+m+1) i j
 |0,m,i,k,j,h,h2=>by
  rw[qBi];exact⟨k,h,h2⟩
 |n+1,m,i,k,j,⟨x,h1,h2⟩,h3=>by
  have:=y4n n m x k j h2 h3;rw[show n+1+m+1=(n+m+1)+1 by omega];exact⟨x,h1,this⟩
theorem TC.trans{i k j:Int}(h:TC r i k)(h2:TC r k j):TC r i j:=by
 obtain⟨n,h⟩:=h;obtain⟨m,h2⟩:=h2;exact⟨_,y4n n m i k j h h2⟩
theorem TC.snoc{i k j:Int}(h:TC r i k)(h2:r k j):TC r i j:=h.trans (TC.one h2)
theorem TC.ind{Q:Int->Prop}(hq:∀i j,Q i->r i j->Q j){i j:Int}(h:TC r i j)(hi:Q i):Q j:=by
 obtain⟨n,h⟩:=h;induction n generalizing i with
 |zero=>exact hq i j hi h
 |succ n ih =>
  obtain⟨k,h1,h2⟩:=h;exact ih (hq i k hi h1) h2
end
section
variable (ps:List Pr) (R:Nat) (N:Int->Bool) (F:Int->Nat->Bool)
def Ld(c e:Int):Prop:=∃p∈ps,c=(R:Int)+1+p.head/\∃a s b,p.syms=a++s::b/\a.all (Q35 N)=true/\e=Q0u R s
def Ls(A B:Int):Prop:=∃p∈ps,p.head=A/\∃a s b,p.syms=a++s::b/\s.isH=true/\s.num=B/\b.all (Q35 N)=true
def Rc(A B:Int):Prop:=∃p∈ps,p.head=A/\∃s∈p.syms,s.isH=true/\s.num=B
def Nx(A:Int)(t:Nat):Prop:=(A=0/\t=R)∨∃p∈ps,∃a s b,p.syms=a++s::b/\s.isH=true/\s.num=A/\Q3s N (fun X=>F X t) t b=true
def Fo(A:Int)(t:Nat):Prop:=Nx ps R N F A t∨∃h,TC (Ls ps N) h A/\Nx ps R N F h t
def US:Nat->Int->Bool
 |0,_=>false
 |n+1,X=>ps.any fun p=>p.head==X&&p.syms.all fun s=>!s.isH||US n s.num
end
section
variable {ps:List Pr}{R H:Nat}{N:Int->Bool}{F:Int->Nat->Bool}
theorem v1d(t:Nat):∀(n:Nat) (X:Int),FS ps N t n X=true->TC (Ld ps R N) ((R:Int)+1+X) t
 |0,X,h=>by cases h
 |n+1,X,h=>by
  unfold FS at h;rw[qAq]at h;obtain⟨p,hp,h⟩:=h;rw[qAc,qAx]at h;obtain⟨h1,h2⟩:=h;obtain⟨a,s,b,e,ha,hs⟩:=z1q h2;have st:Ld ps R N ((R:Int)+1+X) (Q0u R s):=⟨p,hp,by rw[h1],a,s,b,e,ha,rfl⟩;cases hb:s.isH
  ·rw[hb,qAa (by simp),qAx]at hs;refine TC.one ?_;have:Q0u R s=t:=by unfold Q0u;rw[hb,qAa (by simp)];exact hs
   rw[this]at st;exact st
  rw[hb,qAb rfl]at hs;have:Q0u R s=(R:Int)+1+s.num:=by unfold Q0u;rw[hb,qAb rfl]
  rw[this]at st;exact TC.cons st (v1d t n s.num hs)
theorem v10(hT:Q1b ps R H){t:Nat}(ht:t<R):∀(n:Nat) (X:Int),Pth (Ld ps R N) n ((R:Int)+1+X) t->FS ps N t (n+1) X=true
 |0,X,h=>by
  obtain⟨p,hp,e1,a,s,b,e2,ha,e3⟩:=h;have hv:=hT.sy p hp s (by rw[e2];simp);unfold Q0u at e3;cases hb:s.isH
  ·rw[hb,qAa (by simp)]at e3;unfold FS;rw[qAq];refine⟨p,hp,?_⟩;rw[qAc,qAx];refine⟨by omega,?_⟩;rw[e2];exact z22 s b (by rw[hb,qAa (by simp),qAx];exact e3.symm) a ha
  rw[hb,qAb rfl]at e3;omega
 |n+1,X,⟨k,h1,h2⟩=>by
  obtain⟨p,hp,e1,a,s,b,e2,ha,e3⟩:=h1;have hv:=hT.sy p hp s (by rw[e2];simp);unfold Q0u at e3;cases hb:s.isH
  ·exfalso;rw[hb,qAa (by simp)]at e3 hv;have hq:∃q∈ps,k=(R:Int)+1+q.head:=by
    cases n with
    |zero=>obtain⟨q,hq,e,_⟩:=h2;exact⟨q,hq,e⟩
    |succ n=>obtain⟨_,⟨q,hq,e,_⟩,_⟩:=h2;exact⟨q,hq,e⟩
   obtain⟨q,hq,e⟩:=hq;have:=hT.hd q hq;omega
  rw[hb,qAb rfl]at e3;rw[e3]at h2;have ih:=v10 hT ht n s.num h2;unfold FS;rw[qAq];refine⟨p,hp,?_⟩;rw[qAc,qAx];refine⟨by omega,?_⟩;rw[e2];exact z22 s b (by rw[hb,qAb rfl];exact ih) a ha
theorem x78(hT:Q1b ps R H){t:Nat}(ht:t<R){X:Int}(h0:0<=X)(h1:X<H):FS ps N t H X=true↔TC (Ld ps R N) ((R:Int)+1+X) t :=
 ⟨v1d t H X,fun⟨n,h⟩=>x73 hT N t (n+1) X h0 h1 (v10 hT ht n X h)⟩
theorem x9a(hT:Q1b ps R H){t:Nat}(ht:t<R){l:List Sy}(hv:∀s∈l,0<=s.num/\s.num<(if s.isH then(H:Int) else R)) :
  Q3s N (fun X=>FS ps N t H X) t l=true↔∃a s b,l=a++s::b/\a.all (Q35 N)=true/\(Q0u R s=t∨TC (Ld ps R N) (Q0u R s) t):=by
 constructor
 ·intro h;obtain⟨a,s,b,e,ha,hs⟩:=z1q h;have j0:=hv s (by rw[e];simp);refine⟨a,s,b,e,ha,?_⟩;unfold Q0u;cases hb:s.isH
  ·rw[hb,qAa (by simp),qAx]at hs;left;rw[qAa (by simp)];exact hs
  rw[hb,qAb rfl]at hs j0;right;rw[qAb rfl];exact(x78 hT ht j0.1 j0.2).1 hs
 rintro⟨a,s,b,e,ha,hs⟩;have j0:=hv s (by rw[e];simp);rw[e];refine z22 s b ?_ a ha;unfold Q0u at hs;cases hb:s.isH
 ·rw[hb,qAa (by simp)]at hs j0;rw[qAa (by simp),qAx];rcases hs with hs|⟨n,hs⟩
  ·exact hs
  exfalso;have hq:∃q∈ps,s.num=(R:Int)+1+q.head:=by
   cases n with
   |zero=>obtain⟨q,hq,e,_⟩:=hs;exact⟨q,hq,e⟩
   |succ n=>obtain⟨_,⟨q,hq,e,_⟩,_⟩:=hs;exact⟨q,hq,e⟩
  obtain⟨q,hq,e⟩:=hq;have:=hT.hd q hq;omega
 rw[hb,qAb rfl]at hs j0;rw[qAb rfl];rcases hs with hs|hs
 ·omega
 exact(x78 hT ht j0.1 j0.2).2 hs
structure SetsAre(ps:List Pr)(R H:Nat)(hs:List Hd):Prop where
 n:∀X,hN hs X=NS ps H X
 f:∀X t,hF hs X t=FS ps (NS ps H) t H X
 o:∀X t,hO hs X t=true↔Fo ps R (NS ps H) (fun X t=>FS ps (NS ps H) t H X) X t
 r:∀X,(Q1i hs X).rch=true↔X=0∨TC (Rc ps) 0 X
 u:∀X,(Q1i hs X).fru=true↔∃n,US ps n X=true
theorem v1o(hs:List Hd)(hS:Q9l ps R H hs):∀(n:Nat) (X:Int),NS ps n X=true->hN hs X=true
 |0,X,h=>by cases h
 |n+1,X,h=>by
  unfold NS at h;rw[qAq]at h;obtain⟨p,hp,h⟩:=h;rw[qAc,qAx]at h;obtain⟨h1,h2⟩:=h;rw[← h1];refine hS.clN p hp ?_;rw[z4e,qAn];rw[qAn]at h2;intro s hs1;have:=h2 s hs1;rw[qAc]at this;unfold Q35;rw[qAc];exact⟨this.1,v1o hs hS n _ this.2⟩
theorem v1b(hT:Q1b ps R H)(hR:R<=8)(hs:List Hd)(hS:Q9l ps R H hs)(hn:hN hs=N)(t:Nat):∀(n:Nat) (X:Int),FS ps N t n X=true->hF hs X t=true
 |0,X,h=>by cases h
 |n+1,X,h=>by
  unfold FS at h;rw[qAq]at h;obtain⟨p,hp,h⟩:=h;rw[qAc,qAx]at h;obtain⟨h1,h2⟩:=h;rw[← h1];refine hS.clF p hp t ?_;rw[z6s hS.ok hR t p.syms zero9 rfl (hT.sy p hp),z4u,qCj,hn];exact z3z (fun Y hY=>v1b hT hR hs hS hn t n Y hY) _ h2
theorem y7c:∀(n:Nat) (X:Int),US ps n X=true->US ps (n+1) X=true
 |0,X,h=>by cases h
 |n+1,X,h=>by
  unfold US at h ⊢;rw[qAq]at h ⊢;obtain⟨p,hp,h⟩:=h;refine⟨p,hp,?_⟩;rw[qAc,qAn]at h ⊢;refine⟨h.1,fun s hs=>?_⟩;have:=h.2 s hs;rw[qAk]at this ⊢;rcases this with q|q
  ·exact .inl q
  exact .inr (y7c n _ q)
theorem v15{n m:Nat}(h:n<=m){X:Int}(hx:US ps n X=true):US ps m X=true:=by
 obtain⟨k,rfl⟩:∃k,m=n+k:=⟨m-n,by omega⟩;clear h;induction k with
 |zero=>exact hx
 |succ k ih=>exact y7c _ _ ih
theorem v13(l:List Sy)(h:∀s∈l,s.isH=true->∃n,US ps n s.num=true):∃n,(l.all fun s=>!s.isH||US ps n s.num)=true:=by
 induction l with
 |nil=>exact⟨0,rfl⟩
 |cons s l ih =>
  obtain⟨n,hn⟩:=ih (fun x hx=>h x (by simp[hx]));rw[qAn]at hn;cases hb:s.isH
  ·refine⟨n,?_⟩;rw[qCp,hb];simp only[Bool.not_false,Bool.true_or,qBa];rw[qAn];exact hn
  obtain⟨m,hm⟩:=h s (by simp) hb;refine⟨max n m,?_⟩;rw[qCp,qAc,qAn];refine⟨by rw[v15 (Nat.le_max_right n m) hm];simp,fun x hx=>?_⟩;have:=hn x hx;rw[qAk]at this ⊢;rcases this with q|q
  ·exact .inl q
  exact .inr (v15 (Nat.le_max_left n m) q)
theorem v14(hs:List Hd)(hS:Q9l ps R H hs):∀(n:Nat) (X:Int),US ps n X=true->(Q1i hs X).fru=true
 |0,X,h=>by cases h
 |n+1,X,h=>by
  unfold US at h;rw[qAq]at h;obtain⟨p,hp,h⟩:=h;rw[qAc,qAx]at h;obtain⟨h1,h2⟩:=h;rw[← h1];refine hS.clU p hp ?_;unfold Q4y;rw[qAn]at h2 ⊢;intro s hs1;have:=h2 s hs1;unfold fruB;rw[qAk]at this ⊢;rcases this with q|q
  ·exact .inl q
  exact .inr (v14 hs hS n _ q)
theorem x7h(hT:Q1b ps R H)(hR:R<=8)(hH:0<H):SetsAre ps R H (Q3w ps (Q0v R H)):=by
 have hS:=z8e hT hR;have hD:=x1c hT hR;have en:∀X,hN (Q3w ps (Q0v R H)) X=NS ps H X:=fun X=>by
  rw[qAs];exact⟨hD.n X,v1o _ hS H X⟩
 have j0:hN (Q3w ps (Q0v R H))=NS ps H:=funext en;have ef:∀X t,hF (Q3w ps (Q0v R H)) X t=FS ps (NS ps H) t H X:=fun X t=>by
  rw[qAs];exact⟨hD.f X t,v1b hT hR _ hS j0 t H X⟩
 have j1:hF (Q3w ps (Q0v R H))=fun X t=>FS ps (NS ps H) t H X:=funext fun X=>funext fun t=>ef X t;have low:=x5r hT hR (QO:=Fo ps R (NS ps H) (fun X t=>FS ps (NS ps H) t H X)) (QR:=fun X=>X=0∨TC (Rc ps) 0 X) (QU:=fun X=>∃n,US ps n X=true)
  (.inl (.inl ⟨rfl,rfl⟩)) (by
   intro p hp a s b e hs t h;rw[j0,j1]at h;rcases h with h|⟨hb,h⟩
   ·exact .inl (.inr ⟨p,hp,a,s,b,e,hs,rfl,h⟩)
   ·have st:Ls ps (NS ps H) p.head s.num:=⟨p,hp,rfl,a,s,b,e,hs,rfl,hb⟩;rcases h with h|⟨k,h1,h2⟩
    ·exact .inr ⟨p.head,TC.one st,h⟩
    exact .inr ⟨k,h1.snoc st,h2⟩) (.inl rfl) (by
   intro p hp h s hs hb;have st:Rc ps p.head s.num:=⟨p,hp,rfl,s,hs,hb,rfl⟩;right;rcases h with h|h
   ·rw[h]at st;exact TC.one st
   ·exact h.snoc st) (by
   intro p hp h;obtain⟨n,hn⟩:=v13 p.syms h;refine⟨n+1,?_⟩;unfold US;rw[qAq];exact⟨p,hp,by rw[qAc,qAx];exact⟨rfl,hn⟩⟩)
 have j2:∀p∈ps,∀a s b,p.syms=a++s::b->s.isH=true->∀t:Nat,(Q3s (NS ps H) (fun X=>FS ps (NS ps H) t H X) t b=true∨(b.all (Q35 (NS ps H))=true/\hO (Q3w ps (Q0v R H)) p.head t=true))->hO (Q3w ps (Q0v R H)) s.num t=true:=by
  intro p hp a s b e hs t h;refine hS.clS p hp a s b e hs t ?_;rw[z8x hS.ok hR t p.head b (fun x hx=>hT.sy p hp x (by rw[e];simp[hx])),j0,j1,qAk,qAc];exact h
 have j3:∀X t,Nx ps R (NS ps H) (fun X t=>FS ps (NS ps H) t H X) X t->hO (Q3w ps (Q0v R H)) X t=true:=by
  rintro X t (⟨rfl,rfl⟩|⟨p,hp,a,s,b,e,hs,rfl,hb⟩)
  ·exact hS.st2 hH
  exact j2 p hp a s b e hs t (.inl hb)
 refine⟨en,ef,fun X t=>⟨low.1 X t,?_⟩,fun X=>⟨low.2.1 X,?_⟩,fun X=>⟨low.2.2 X,fun⟨n,h⟩=>v14 _ hS n X h⟩⟩
 ·rintro(h|⟨k,h1,h2⟩)
  ·exact j3 X t h
  refine TC.ind (Q:=fun A=>hO (Q3w ps (Q0v R H)) A t=true) (fun i j hi hij=>?_) h1 (j3 k t h2);obtain⟨p,hp,e1,a,s,b,e2,hs,e3,hb⟩:=hij;rw[← e3];exact j2 p hp a s b e2 hs t (.inr ⟨hb,by rw[e1];exact hi⟩)
 rintro(rfl|h)
 ·exact hS.st1 hH
 refine TC.ind (Q:=fun A=>(Q1i (Q3w ps (Q0v R H)) A).rch=true) (fun i j hi hij=>?_) h (hS.st1 hH);obtain⟨p,hp,e1,s,hs,hb,e2⟩:=hij;rw[← e2];exact hS.clR p hp (by rw[e1];exact hi) s hs hb
end
abbrev Mat:=List (List Bool)
def atM(M:Mat)(i j:Nat):Bool:=(M.getD i []).getD j false
def Q7o(M:Mat)(i j:Nat)(b:Bool):Mat:=M.set i ((M.getD i []).set j b)
structure Sq(n:Nat)(M:Mat):Prop where
 len:M.length=n
 row:∀i,i<n->(M.getD i []).length=n
theorem Sq.atM_lt{n:Nat}{M:Mat}(h:Sq n M){i j:Nat}(e:atM M i j=true):i<n/\j<n:=by
 by_cases hi:i<n
 ·refine⟨hi,?_⟩;by_cases hj:j<n
  ·exact hj
  exfalso;unfold atM at e;rw[qD (i:=j),qN (by rw[h.row i hi];omega)]at e;cases e
 exfalso;unfold atM at e;rw[qD (i:=i),qN (by rw[h.len];omega)]at e;cases e
theorem z16{α:Type}(l:List α)(i x:Nat)(a d:α)(hi:i<l.length):(l.set i a).getD x d=if x=i then a else l.getD x d:=by
 rw[qD,qD,qBy];by_cases e:i=x
 ·rw[qAb e,qAb (by omega),qAb e.symm];rfl
 rw[qAa e,qAa (fun q=>e q.symm)]
theorem x4p{n:Nat}{M:Mat}(h:Sq n M){i j:Nat}(hi:i<n)(hj:j<n)(b:Bool)(x y:Nat):atM (Q7o M i j b) x y=if x=i/\y=j then b else atM M x y:=by
 unfold atM Q7o;rw[z16 _ _ _ _ _ (by rw[h.len];exact hi)];by_cases e:x=i
 ·rw[qAb e,z16 _ _ _ _ _ (by rw[h.row i hi];exact hj)];by_cases e2:y=j
  ·rw[qAb e2,qAb ⟨e,e2⟩]
  rw[qAa e2,qAa (fun q=>e2 q.2),e]
 rw[qAa e,qAa (fun q=>e q.1)]
theorem z9x{n:Nat}{M:Mat}(h:Sq n M){i j:Nat}(hi:i<n)(b:Bool):Sq n (Q7o M i j b):=by
 refine⟨by unfold Q7o;rw[qBd];exact h.len,fun x hx=>?_⟩;unfold Q7o;rw[z16 _ _ _ _ _ (by rw[h.len];exact hi)];split
 ·rw[qBd];exact h.row i hi
 exact h.row x hx
def wJ(k i:Nat):Nat->Nat->Mat->Mat
 |0,_,M=>M
 |f+1,j,M=>wJ k i f (j+1) (Q7o M i j (atM M i j||(atM M i k&&atM M k j)))
def wI(k n:Nat):Nat->Nat->Mat->Mat
 |0,_,M=>M
 |f+1,i,M=>wI k n f (i+1) (wJ k i n 0 M)
def wK(n:Nat):Nat->Nat->Mat->Mat
 |0,_,M=>M
 |f+1,k,M=>wK n f (k+1) (wI k n n 0 M)
def Q49(M:Mat):Mat:=wK M.length M.length 0 M
section
variable {n:Nat}{Q:Nat->Nat->Prop}
theorem x8v(hq:∀x k y,Q x k->Q k y->Q x y){k i:Nat}(hk:k<n)(hi:i<n):∀(f j:Nat) (M:Mat),j+f<=n->Sq n M->(∀x y,atM M x y=true->Q x y) ->
  Sq n (wJ k i f j M)/\(∀x y,atM M x y=true->atM (wJ k i f j M) x y=true)/\(∀x y,atM (wJ k i f j M) x y=true->Q x y)/\(∀y,j<=y->y<j+f->atM M i k=true->atM M k y=true->atM (wJ k i f j M) i y=true)
 |0,j,M,hf,hs,h=>⟨hs,fun _ _ e=>e,h,fun y h1 h2=>by omega⟩
 |f+1,j,M,hf,hs,h=>by
  have hs':=z9x hs (j:=j) hi (atM M i j||(atM M i k&&atM M k j));have ha:=x4p hs hi (show j<n by omega) (atM M i j||(atM M i k&&atM M k j));have mono:∀x y,atM M x y=true->atM (Q7o M i j (atM M i j||(atM M i k&&atM M k j))) x y=true:=fun x y e=>by
   rw[ha x y];split
   ·rename_i q;rw[q.1,q.2]at e;rw[e];rfl
   exact e
  have j0:∀x y,atM (Q7o M i j (atM M i j||(atM M i k&&atM M k j))) x y=true->Q x y:=fun x y e=>by
   rw[ha x y]at e;split at e
   ·rename_i q;rw[q.1,q.2];rw[qAk,qAc]at e;rcases e with e|e
    ·exact h _ _ e
    exact hq i k j (h _ _ e.1) (h _ _ e.2)
   exact h x y e
  obtain⟨r1,r2,r3,r4⟩:=x8v hq hk hi f (j+1) _ (by omega) hs' j0;unfold wJ;refine⟨r1,fun x y e=>r2 x y (mono x y e),r3,fun y h1 h2 e1 e2=>?_⟩;by_cases c:y=j
  ·subst c;refine r2 i y ?_;rw[ha i y,qAb ⟨rfl,rfl⟩,e1,e2];simp
  exact r4 y (by omega) (by omega) (mono _ _ e1) (mono _ _ e2)
theorem x8u(hq:∀x k y,Q x k->Q k y->Q x y){k:Nat}(hk:k<n):∀(f i:Nat) (M:Mat),i+f<=n->Sq n M->(∀x y,atM M x y=true->Q x y) ->
  Sq n (wI k n f i M)/\(∀x y,atM M x y=true->atM (wI k n f i M) x y=true)/\(∀x y,atM (wI k n f i M) x y=true->Q x y)/\(∀x y,i<=x->x<i+f->y<n->atM M x k=true->atM M k y=true->atM (wI k n f i M) x y=true)
 |0,i,M,hf,hs,h=>⟨hs,fun _ _ e=>e,h,fun x y h1 h2=>by omega⟩
 |f+1,i,M,hf,hs,h=>by
  obtain⟨q1,q2,q3,q4⟩:=x8v hq hk (show i<n by omega) n 0 M (by omega) hs h;obtain⟨r1,r2,r3,r4⟩:=x8u hq hk f (i+1) _ (by omega) q1 q3;unfold wI;refine⟨r1,fun x y e=>r2 x y (q2 x y e),r3,fun x y h1 h2 hy e1 e2=>?_⟩;by_cases c:x=i
  ·subst c;exact r2 x y (q4 y (by omega) (by omega) e1 e2)
  exact r4 x y (by omega) (by omega) hy (q2 _ _ e1) (q2 _ _ e2)
def ViaM(r:Nat->Nat->Prop):Nat->Nat->Nat->Prop
 |0,i,j=>r i j
 |k+1,i,j=>ViaM r k i j∨(ViaM r k i k/\ViaM r k k j)
theorem z6m{r:Nat->Nat->Prop}:∀(k i x j:Nat),x<k->ViaM r k i x->ViaM r k x j->ViaM r k i j
 |0,i,x,j,hx,_,_=>by omega
 |k+1,i,x,j,hx,h1,h2=>by
  by_cases c:x=k
  ·subst c;refine .inr ⟨?_,?_⟩
   ·rcases h1 with h|h
    ·exact h
    exact h.1
   rcases h2 with h|h
   ·exact h
   exact h.2
  have hx':x<k:=by omega
  rcases h1 with h1|⟨a1,a2⟩
  ·rcases h2 with h2|⟨b1,b2⟩
   ·exact .inl (z6m k i x j hx' h1 h2)
   exact .inr ⟨z6m k i x k hx' h1 b1,b2⟩
  rcases h2 with h2|⟨b1,b2⟩
  ·exact .inr ⟨a1,z6m k k x j hx' a2 h2⟩
  exact .inr ⟨a1,b2⟩
theorem x8w(hq:∀x k y,Q x k->Q k y->Q x y){r:Nat->Nat->Prop}(hr:∀i j,r i j->i<n/\j<n):∀(f k:Nat) (M:Mat),k+f=n->Sq n M->(∀x y,atM M x y=true->Q x y)->(∀x y,x<n->y<n->ViaM r k x y->atM M x y=true) ->
  Sq n (wK n f k M)/\(∀x y,atM (wK n f k M) x y=true->Q x y)/\(∀x y,x<n->y<n->ViaM r n x y->atM (wK n f k M) x y=true)
 |0,k,M,hf,hs,h,hv=>by
  have e:k=n:=by omega
  subst e;exact⟨hs,h,hv⟩
 |f+1,k,M,hf,hs,h,hv=>by
  obtain⟨q1,q2,q3,q4⟩:=x8u hq (show k<n by omega) n 0 M (by omega) hs h;unfold wK;refine x8w hq hr f (k+1) _ (by omega) q1 q3 (fun x y hx hy hxy=>?_);rcases hxy with hxy|⟨a1,a2⟩
  ·exact q2 x y (hv x y hx hy hxy)
  exact q4 x y (by omega) (by omega) hy (hv x k hx (by omega) a1) (hv k y (by omega) hy a2)
end
def relM(M:Mat)(i j:Int):Prop:=0<=i/\0<=j/\atM M i.toNat j.toNat=true
theorem z8k{n:Nat}{M:Mat}(h:Sq n M):Sq n (Q49 M)/\∀i j:Nat,atM (Q49 M) i j=true↔TC (relM M) i j:=by
 have hr:∀i j,(fun i j=>atM M i j=true) i j->i<n/\j<n:=fun i j e=>h.atM_lt e;obtain⟨q1,q2,q3⟩:=x8w (n:=n) (Q:=fun x y:Nat=>TC (relM M) x y) (fun x k y h1 h2=>h1.trans h2) (r:=fun i j=>atM M i j=true) hr n 0 M (by omega) h
  (fun x y e=>TC.one ⟨by omega,by omega,by simpa using e⟩) (fun x y _ _ e=>e)
 have e:Q49 M=wK n n 0 M:=by unfold Q49;rw[h.len]
 rw[e];refine⟨q1,fun i j=>⟨q2 i j,fun ht=>?_⟩⟩;have vz:∀(k i j:Nat),atM M i j=true->ViaM (fun i j=>atM M i j=true) k i j:=fun k=>by
  induction k with
  |zero=>exact fun i j e=>e
  |succ k ih=>exact fun i j e=>.inl (ih i j e)
 have j0:∀(m:Nat) (a b:Int),Pth (relM M) m a b->0<=a/\0<=b/\a.toNat<n/\b.toNat<n/\ViaM (fun i j=>atM M i j=true) n a.toNat b.toNat:=fun m=>by
  induction m with
  |zero =>
   rintro a b⟨h1,h2,h3⟩;have:=h.atM_lt h3;exact⟨h1,h2,this.1,this.2,vz n _ _ h3⟩
  |succ m ih =>
   rintro a b⟨c,⟨h1,h2,h3⟩,h4⟩;obtain⟨g1,g2,g3,g4,g5⟩:=ih c b h4;have:=h.atM_lt h3;exact⟨h1,g2,this.1,g4,z6m n _ _ _ g3 (vz n _ _ h3) g5⟩
 obtain⟨m,hm⟩:=ht;obtain⟨g1,g2,g3,g4,g5⟩:=j0 m i j hm;simp only[qAl]at g3 g4 g5;exact q3 i j g3 g4 g5
abbrev Q1:=Int × List Int
def Q0e(R:Nat)(ps:List Pr):List Q1:=ps.map fun p=>(p.head,p.syms.map (Q0u R))
def Q6h(base:Int)(rules:Bool)(out:List Bool)(c:Int):Bool:=(decide (c-base<0)&&rules)||(decide (0<=c-base)&&out.getD (c-base).toNat false)
def Q9v(base:Int)(rules:Bool)(out:List Bool):List Q1->List Bool->List Bool
 | [],next=>next
 |x::r,next=>Q9v base rules out r (next.set x.1.toNat (next.getD x.1.toNat false||x.2.all (Q6h base rules out)))
def derN(base:Int)(rules:Bool)(q:List Q1):Nat->List Bool->List Bool
 |0,out=>out
 |n+1,out=>derN base rules q n (Q9v base rules out q out)
def Q4j(base:Int)(rules:Bool)(q:List Q1)(H:Nat):List Bool:=derN base rules q H (List.replicate H false)
def Q34(base:Int)(null:List Bool)(l:List Int):Bool:=l.all fun c=>decide (0<=c-base)&&null.getD (c-base).toNat false
section
variable {ps:List Pr}{R H:Nat}
theorem z1p{s:Sy}(hb:s.isH=true):Q0u R s-((R:Int)+1)=s.num:=by unfold Q0u;rw[hb,qAb rfl];omega
theorem z32{s:Sy}(hb:s.isH=false):Q0u R s=s.num:=by unfold Q0u;rw[hb,qAa (by simp)]
theorem y7w(base:Int)(rules:Bool)(out:List Bool):∀(q:List Q1) (next:List Bool),(Q9v base rules out q next).length=next.length
 | [],_=>rfl
 |x::r,next=>by unfold Q9v;rw[y7w base rules out r,qBd]
theorem x1t(base:Int)(rules:Bool)(out:List Bool)(h:Nat):∀(q:List Q1) (next:List Bool),(∀x∈q,0<=x.1/\x.1<next.length) ->
  (Q9v base rules out q next).getD h false=(next.getD h false||q.any fun x=>x.1==(h:Int)&&x.2.all (Q6h base rules out))
 | [],next,_=>by simp[Q9v]
 |x::r,next,hq=>by
  have hx:=hq x (by simp);unfold Q9v;rw[x1t base rules out h r _ (fun y hy=>by rw[qBd];exact hq y (by simp[hy])),z16 _ _ _ _ _ (by omega),List.any_cons];by_cases e:h=x.1.toNat
  ·rw[qAb e];have e2:(x.1==(h:Int))=true:=by rw[qAx];omega
   rw[e2,e,qBa,Bool.or_assoc]
  rw[qAa e];have e2:(x.1==(h:Int))=false:=by rw[beq_eq_false_iff_ne];omega
  rw[e2,qCi,qCj]
theorem v00{out:List Bool}{rules:Bool}{s:Sy}(hv:0<=s.num/\s.num<(if s.isH then(H:Int) else R)):Q6h ((R:Int)+1) rules out (Q0u R s)=if s.isH then out.getD s.num.toNat false else rules:=by
 unfold Q6h;cases hb:s.isH
 ·rw[hb,qAa (by simp)]at hv;rw[z32 hb,qAa (by simp),qBl (by omega),qBh (by omega)];simp
 rw[z1p hb,qAb rfl,qBh (by omega),qBl (by omega)];simp
theorem y7u(hT:Q1b ps R H):∀x∈Q0e R ps,0<=x.1/\x.1<H:=by
 intro x hx;unfold Q0e at hx;rw[qBp]at hx;obtain⟨p,hp,rfl⟩:=hx;exact hT.hd p hp
theorem y6b(hT:Q1b ps R H){rules:Bool}{D:Nat->Int->Bool}(hm:∀n X,D n X=true->D (n+1) X=true)
  (hD:∀n X,D (n+1) X=ps.any fun p=>p.head==X&&p.syms.all fun s=>if s.isH then D n s.num else rules):∀(n m:Nat) (out:List Bool),out.length=H->(∀h:Nat,h<H->out.getD h false=D m h) ->
  (derN ((R:Int)+1) rules (Q0e R ps) n out).length=H/\∀h:Nat,h<H->(derN ((R:Int)+1) rules (Q0e R ps) n out).getD h false=D (m+n) h
 |0,m,out,hl,h=>⟨hl,h⟩
 |n+1,m,out,hl,h=>by
  unfold derN;have:=y6b hT hm hD n (m+1) (Q9v ((R:Int)+1) rules out (Q0e R ps) out) (by rw[y7w];exact hl) (fun k hk=>by
   rw[x1t _ _ _ _ _ _ (by rw[hl];exact y7u hT),h k hk,hD];have e:(Q0e R ps).any (fun x=>x.1==(k:Int)&&x.2.all (Q6h ((R:Int)+1) rules out))=ps.any fun p=>p.head==(k:Int)&&p.syms.all fun s=>if s.isH then D m s.num else rules:=by
    unfold Q0e;rw[List.any_map];refine z3y (fun p hp=>?_);dsimp only[Function.comp];congr 1;rw[List.all_map];refine z3x (fun s hs=>?_);dsimp only[Function.comp];have hv:=hT.sy p hp s hs;rw[v00 hv];cases hb:s.isH
    ·simp
    rw[hb,qAb rfl]at hv;rw[qAb rfl,qAb rfl,h s.num.toNat (by omega),show((s.num.toNat:Nat):Int)=s.num by omega]
   rw[e,← hD];cases c:D m (k:Int)
   ·simp
   rw[hm m _ c];simp)
  rw[show m+(n+1)=m+1+n by omega];exact this
theorem z8r(hT:Q1b ps R H):(Q4j ((R:Int)+1) false (Q0e R ps) H).length=H/\∀h:Nat,h<H->(Q4j ((R:Int)+1) false (Q0e R ps) H).getD h false=NS ps H h:=by
 have:=y6b hT (rules:=false) (D:=NS ps) (y50 ps) (fun n X=>by
  rw[NS];refine z3y (fun p hp=>?_);congr 1;refine z3x (fun s hs=>?_);cases s.isH<;>simp) H 0 (List.replicate H false) (by simp) (fun h hh=>by rw[qD];simp[hh,NS])
 rw[qBi]at this;exact this
theorem x5y(hT:Q1b ps R H):(Q4j ((R:Int)+1) true (Q0e R ps) H).length=H/\∀h:Nat,h<H->(Q4j ((R:Int)+1) true (Q0e R ps) H).getD h false=US ps H h:=by
 have:=y6b hT (rules:=true) (D:=US ps) y7c (fun n X=>by
  rw[US];refine z3y (fun p hp=>?_);congr 1;refine z3x (fun s hs=>?_);cases s.isH<;>simp) H 0 (List.replicate H false) (by simp) (fun h hh=>by rw[qD];simp[hh,US])
 rw[qBi]at this;exact this
structure Q63(ps:List Pr)(H:Nat)(null:List Bool):Prop where
 len:null.length=H
 at':∀h:Nat,h<H->null.getD h false=NS ps H h
theorem y2a{null:List Bool}(hn:Q63 ps H null){l:List Sy}(hv:∀s∈l,0<=s.num/\s.num<(if s.isH then(H:Int) else R)):Q34 ((R:Int)+1) null (l.map (Q0u R))=l.all (Q35 (NS ps H)):=by
 unfold Q34;rw[List.all_map];refine z3x (fun s hs=>?_);dsimp only[Function.comp];have h:=hv s hs;unfold Q35;cases hb:s.isH
 ·rw[hb,qAa (by simp)]at h;rw[z32 hb,qBh (by omega)];simp
 rw[hb,qAb rfl]at h;rw[z1p hb,qBl (by omega),hn.at' s.num.toNat (by omega),show((s.num.toNat:Nat):Int)=s.num by omega]
end
def Q9d(fs:List Bool):Nat:=(fs.filter (fun b=>!b)).length
theorem y6s:∀{as' bs:List Bool},as'.length=bs.length->(∀j,On as' j->On bs j)->Q9d bs<=Q9d as'
 | [],[],_,_=>qR _
 |a::as',b::bs,hl,h=>by
  have hl':as'.length=bs.length:=by simpa using hl
  have ih:=y6s hl' (fun j hj=>by have:=h (j+1) (by simpa [On]using hj);simpa [On]using this);unfold Q9d at ih ⊢;rw[qAj,qAj];cases a
  ·cases b<;>simp<;>omega
  have:=h 0 (by simp[On]);simp[On]at this;subst this;simpa using ih
 | [],b::bs,hl,_=>by simp at hl
 |a::as',[],hl,_=>by simp at hl
theorem x3q:∀{as' bs:List Bool},as'.length=bs.length->(∀j,On as' j->On bs j)->(∃j,On bs j/\¬On as' j)->Q9d bs<Q9d as'
 | [],[],_,_,⟨j,h,_⟩=>by simp[On]at h
 |a::as',b::bs,hl,h,hex=>by
  have hl':as'.length=bs.length:=by simpa using hl
  have hs:∀j,On as' j->On bs j:=fun j hj=>by have:=h (j+1) (by simpa [On]using hj);simpa [On]using this
  have ih:=y6s hl' hs;obtain⟨j,h1,h2⟩:=hex;unfold Q9d at ih ⊢;rw[qAj,qAj];cases j with
  |zero =>
   simp[On]at h1 h2;subst h1;have j1:a=false:=by simpa using h2
   subst j1;simp;omega
  |succ j =>
   have j0:=x3q hl' hs ⟨j,by simpa [On]using h1,by simpa [On]using h2⟩;unfold Q9d at j0;cases a
   ·cases b<;>simp<;>omega
   have:=h 0 (by simp[On]);simp[On]at this;subst this;simpa using j0
 | [],b::bs,hl,_,_=>by simp at hl
 |a::as',[],hl,_,_=>by simp at hl
theorem x90{xs ys:List Bool}{n:Nat}(h:moI xs ys n=true):∃j,On ys j/\¬On xs j:=by
 unfold moI at h;rw[qAq]at h;obtain⟨j,_,hj⟩:=h;rw[qAc,Bool.not_eq_true']at hj;exact⟨j,z3l.2 hj.1,fun q=>by rw[z3l,hj.2]at q;cases q⟩
theorem x6m{xs ys:List Bool}{n:Nat}(h:moI xs ys n=false)(hl:ys.length=n):∀j,On ys j->On xs j:=by
 intro j hj;cases hx:xs.getD j false
 ·exfalso;have:moI xs ys n=true:=by
   unfold moI;rw[qAq];exact⟨j,by have:=hj.lt;simp;omega,by rw[hx,z3l.1 hj];rfl⟩
  rw[this]at h;cases h
 exact z3l.2 hx
theorem x94(fs:List Bool):Q9d fs<=fs.length:=qCw _ _
theorem x33{q:ByteArray}{L:Q02}(h:PceIs q L):∃(n:Nat) (A:Q02),Am q 0=⟨(n:Int),true,A⟩/\0<n/\n<=q.size/\Q8q (q.extract 0 n) A/\∀w,L w↔Q5m (Q8k q (q.size+1) n (false,false)).1 (Q8k q (q.size+1) n (false,false)).2 A w:=by
 have j1:(Pc q 0).ok=true:=by rw[h]
 have ha:(Am q 0).ok=true:=y2d j1;have g:=v1l q 0 (by omega) (by omega) ha;obtain⟨n,hn⟩:∃n:Nat,(Am q 0).next=n:=⟨(Am q 0).next.toNat,by omega⟩;have e:Am q 0=⟨(n:Int),true,(Am q 0).lang⟩:=by rw[← hn];exact z2k ha
 obtain⟨h1,h2,h3⟩:=x89 e;refine⟨n,(Am q 0).lang,e,h2,h3,h1,?_⟩;have h':Q2a q (q.size+5) (Am q 0)=⟨q.size,true,L⟩:=h;rw[e]at h';have j0:=z9m (s:=q) (A:=(Am q 0).lang) (q.size+5) (q.size+1) n (Am q 0).lang (false,false) (fun w=>(y70 _ w).symm) (by omega) (by omega) h3 (by rw[h']);rw[h']at j0;exact j0
theorem Q58.same{A:Q02}{t:ByteArray}{fs gs hs:List Bool}(h:Q58 A t fs gs)(hl:hs.length=t.size+1)(e:∀j,On hs j↔On gs j):Q58 A t fs hs:=⟨hl,fun j hj=>by rw[e,h.on j hj]⟩
structure Way(A:Q02)(t:ByteArray)(fs os:List Bool):Prop where
 len:os.length=t.size+1
 lo:∀j,j<=t.size->Q5d A t (On fs) j->On os j
 hi:∀j,On os j->j<=t.size->Q5d (Q5m false true A) t (On fs) j
theorem x5c{A:Q02}{t:ByteArray}{fs os:List Bool}(h:Q58 A t fs os):Way A t fs os :=
 ⟨h.len,fun j hj r=>(h.on j hj).2 r,fun j ho hj=>x63 ((h.on j hj).1 ho)⟩
theorem x7w{A:Q02}{t:ByteArray}{fs os ns:List Bool}(h:Way A t fs os)(hn:Q58 A t os ns):Way A t fs (orI os ns (t.size+1) (t.size+1))/\Q9d (orI os ns (t.size+1) (t.size+1))<=Q9d os/\(moI os ns (t.size+1)=true->Q9d (orI os ns (t.size+1) (t.size+1))<Q9d os)/\(moI os ns (t.size+1)=false->Q58 (Q5m false true A) t fs (orI os ns (t.size+1) (t.size+1))):=by
 have u:=v0b (xs:=os) (ys:=ns) h.len;have j0:∀j,On os j->On (orI os ns (t.size+1) (t.size+1)) j:=fun j hj=>(u.on j).2 (.inl hj);have j1:os.length=(orI os ns (t.size+1) (t.size+1)).length:=u.len.symm;have hL:=h.len;refine⟨⟨by rw[z2l],fun j hj r=>j0 j (h.lo j hj r),fun j ho hj=>?_⟩,y6s j1 j0,fun hm=>?_,fun hm=>?_⟩
 ·rcases(u.on j).1 ho with q|⟨_,q⟩
  ·exact h.hi j q hj
  obtain⟨i,i1,i2,i3⟩:=(hn.on j hj).1 q;exact x34 hj ⟨i,i1,h.hi i i2 (by omega),i3⟩
 ·obtain⟨j,q1,q2⟩:=x90 hm;refine x3q j1 j0 ⟨j,(u.on j).2 (.inr ⟨?_,q1⟩),q2⟩;have:=q1.lt;rw[hn.len]at this;omega
 have j2:=x6m hm hn.len;have hc:=y6w h.len h.lo h.hi hn j2;refine hc.same (by rw[z2l]) (fun j=>⟨fun q=>?_,j0 j⟩);rcases(u.on j).1 q with z|⟨_,z⟩
 ·exact z
 exact j2 j z
theorem x2d{A:Q02}{t:ByteArray}{fs os:List Bool}(m:Bool)(h:Q58 (Q5m false m A) t fs os)(hl:fs.length=t.size+1):Q58 (Q5m true m A) t fs (orI os fs (t.size+1) (t.size+1)):=by
 have u:=v0b (xs:=os) (ys:=fs) h.len;refine(Q58.alt h (y73 hl) u).iff (fun w=>?_);unfold Q02.alt Q5m epsL;constructor
 ·rintro((⟨q,_⟩|q)|q)
  ·cases q
  ·exact .inr q
  exact .inl ⟨rfl,q⟩
 rintro(⟨_,q⟩|q)
 ·exact .inr q
 exact .inl (.inr q)
theorem x5p(q:ByteArray)(L:Q02)(hs:q.size<=1000)(h:PceIs q L)(hone:∀a A,a.size<=q.size->Q8q a A->SetC 130 a A):SetC 125 q L:=by
 obtain⟨n,A,he,hn0,hnq,hA,hfl⟩:=x33 h;have jd:=z3q (s:=q) (a:=0) (e:=n) hnq;have ON:=hone _ A (by omega) hA;intro t g fs w ht hg hl;have AT:=hid (fun w=>y9b q (by omega) 0 w (by omega));have e0:((0:Nat):Int)=0:=rfl;have j7:Q3r (zgK q 6) q 0=n:=by
  have:=z7c (p:=q) 6 (x:=0) (by omega);unfold Q64 at this;have e1:(Q3i (lgK q 6) q 0)=⟨(n:Int),true,A⟩:=he;rw[e1]at this;exact this
 rw[e0,j7]at AT;have j6:=hid (fun(g:Nat) (fs:List Bool) (w:World) (h1:Q1y w g fs) (h2:fs.length=t.size+1)=>ON t g fs w ht h1 h2);have HG:=hid hg;have HL:=hid hl;have j2:=hid hfl;generalize hM:Q8k q (q.size+1) n (false,false)=M at j2;have HM:=hid hM;have p1:(n:Int)<=(q.size:Int):=by omega
 clear h he hA hfl ON hg hl e0 j7 hM hone;go_enter Tryz.func125,Tryz.ntmps125
 go_wp2_with (first
  |(go_at_call 123;refine csm (AT.out _) ?_))
 go_loopw [8,9,10] (fun x8 x9 x10 wr=>∃(i f:Nat) (b:Bool × Bool),x10=.int .i64 i/\x8=.bool b.1/\x9=.bool b.2/\wr=w/\n<=i/\i<=q.size/\q.size+1<=f+i/\Q8k q f i b=M)
   (fun _ _ x _=>1001-(intOf x).toNat)
 case atStart=>exact⟨n,q.size+1,(false,false),rfl,rfl,rfl,rfl,by omega,by omega,by omega,HM.out⟩
 obtain⟨i,f,⟨bn,bm⟩,rfl,rfl,rfl,rfl,hi1,hi2,hf,hrec⟩:=hrel;obtain⟨f,rfl⟩:∃k,f=k+1:=⟨f-1,by omega⟩;rw[x3g]at hrec;clear HM;by_cases hlt:i<q.size
 ·rw[qAb hlt,z1r hlt]at hrec;have k1:(i:Int)<(q.size:Int):=by omega
  have jb:q[i].toNat<256:=q[i].toNat_lt;have HR:=hid hrec;clear hrec;cases bn<;>cases bm;all_goals
   go_wp2;go_roundw
   case rel=>exact⟨i+1,f,(_,_),by go_num,rfl,rfl,by first|rfl|trivial,by omega,by omega,by omega,HR.out⟩
   simp[intOf];omega
 rw[qAa hlt]at hrec;subst hrec;have k1:¬(i:Int)<(q.size:Int):=by omega
 dsimp only at j2;obtain⟨wo,hwo⟩:∃wo,wo=wr:=⟨_,rfl⟩;subst hwo;have UN:=hid (fun(w:World) (ga gb:Nat) (xs ys:List Bool) (ha:Q1y w ga xs) (hb:Q1y w gb ys) (la:xs.length=t.size+1) (lb:ys.length=t.size+1)=>z2x w ga gb (t.size+1) xs ys ha hb la lb (by omega));have OX:=hid (j6.out g fs wo HG.out HL.out);go_wp2_with (first
  |(go_at_call 130;refine(OX.out).mono ?_;rintro e w1⟨g1,gs1,rfl,q1,q2,q3⟩;have HQ:=hid (And.intro q1 (And.intro q2 q3));clear q1 q2 q3))
 go_loopg [11,12,13] (2*(t.size+1)+1) (fun k x11 x12 _ wx=>∃(g2:Nat) (os:List Bool) (mo:Bool),x11=bsl g2 (t.size+1)/\x12=.bool mo/\2*Q9d os+(if mo=true then 1 else 0)<=k/\Q1y wx g2 os/\Q0a wo wx/\Way A t fs os/\(mo=true->bm=true)/\(mo=false->Q58 (Q5m false bm A) t fs os))
 case atStart =>
  obtain⟨q1,q2,q3⟩:=HQ.out;refine⟨g1,gs1,bm,rfl,rfl,?_,q2,q1,x5c q3,fun e=>e,fun e=>?_⟩
  ·have:=x94 gs1;rw[q3.len]at this;split<;>omega
  rw[e];exact q3.iff (fun w=>(y70 A w).symm)
 obtain⟨g2,os,mo,rfl,rfl,hk,hB,hfr,hW,hbm,hgo⟩:=hrel;have j0:=hid hB;have j1:=hid hfr;have HW:=hid hW;have j4:=hid hgo;have j3:=hid hbm;clear hB hfr hW hgo hbm HQ OX;cases mo
 ·have j5:=hid (j4.out rfl);clear j4 j3;cases bn
  ·go_wp2;go_ret;exact⟨g2,os,rfl,j1.out,j0.out,j5.iff (fun w=>(j2.out w).symm)⟩
  have UX:=hid (UN.out wr g2 g os fs j0.out (HG.fresh j1.out) HW.len HL.out);go_wp2_with (first
   |(go_at_call 70;refine(UX.out).mono ?_;rintro e w3⟨rfl,hf3,hb3⟩;have HU:=hid (And.intro hf3 hb3);clear hf3 hb3))
  go_ret;exact⟨_,_,rfl,j1.trans HU.1,HU.2,(x2d bm j5.out HL.out).iff (fun w=>(j2.out w).symm)⟩
 have ja:=j3.out rfl;subst ja;clear j4 j3;have j9:=hid (j6.out g2 os wr j0.out HW.len);go_wp2_with (first
  |(go_at_call 70;have j8:=HN.1;refine(UN.out w1 g2 g3 os ns (j0.fresh HN.1) HN.2.1 HW.len HN.2.2.len).mono ?_;rintro e w3⟨rfl,hf3,hb3⟩;have HU:=hid (And.intro hf3 hb3);clear hf3 hb3)
  |(go_at_call 130;refine(j9.out).mono ?_;rintro e w1⟨g3,ns,rfl,q1,q2,q3⟩;have HN:=hid (And.intro q1 (And.intro q2 q3));clear q1 q2 q3))
 obtain⟨y1,y2,y3,y4⟩:=x7w HW.out HN.2.2;go_roundg (2*Q9d (orI os ns (t.size+1) (t.size+1))+(if moI os ns (t.size+1)=true then 1 else 0))
 case measure =>
  have jc:2*Q9d os+1<=gk:=by simpa using hk
  split
  ·have:=y3 (by assumption);omega
  omega
 exact⟨_,_,_,rfl,rfl,qR _,HU.2,(j1.trans HN.1).trans HU.1,y1,fun _=>(by first|rfl|trivial),y4⟩
theorem y7j(u:ByteArray)(As:List Q02)(hs:u.size<=1000)(h:Row (Pc u) 0 As u.size)(hsome:∀q L,q.size<=u.size->PceIs q L->SetC 125 q L):SetC 116 u (Q9a As):=by
 intro t g fs w ht hg hl;have j4:=hid hsome;have PC:=hid (fun(i:Nat) (w:World) (hi:i<=u.size)=>y9g u (by omega) i w (by omega));have HG:=hid hg;have HL:=hid hl;have HR:=hid h;clear hsome hg hl h;go_enter Tryz.func116,Tryz.ntmps116
 go_wp2;go_loopw [2,7,8] (fun x2 x7 _ wr=>∃(i g1:Nat) (gs:List Bool) (Ds Rs:List Q02),x7=.int .i64 i/\x2=bsl g1 (t.size+1)/\i<=u.size/\As=Ds++Rs/\Row (Pc u) i Rs u.size/\Q1y wr g1 gs/\Q0a w wr/\Q58 (Q9a Ds) t fs gs)
   (fun _ x _ _=>2001-(intOf x).toNat)
 case atStart=>exact⟨0,g,fs,[],As,rfl,rfl,by omega,rfl,HR.out,HG.out,mRf _ _,y73 HL.out⟩
 obtain⟨i,g1,gs,Ds,Rs,rfl,rfl,hi,hAs,hrow,hB,hfr,hgo⟩:=hrel;have j1:=hid hAs;have HB:=hid hB;have HF:=hid hfr;have j0:=hid hgo;clear hAs hB hfr hgo HR;cases Rs with
 |nil =>
  have j5:(i:Int)=u.size:=hrow;have k1:¬(i:Int)<(u.size:Int):=by omega
  clear j5 hrow;go_wp2;go_ret;refine⟨g1,gs,rfl,HF.out,HB.out,?_⟩;rw[j1.out,qAt];exact j0.out
 |cons A Rs =>
  obtain⟨r1,r2,r3⟩:=hrow;have j7:=z0q (s:=u) (i:=(i:Int)) (y3h (z28 r1));have g0:=x28 u i (by omega) (by omega) r1;obtain⟨j,hj⟩:∃j:Nat,(Pc u i).next=j:=⟨(Pc u i).next.toNat,by omega⟩;have e:Pc u i=⟨(j:Int),true,A⟩:=by rw[← hj,← r2];exact z2k r1
  obtain⟨p1,p2,p3⟩:=v0g e hi;have j6:=z3q (s:=u) (a:=i) (e:=j) p3;have SX:=hid (j4.out _ A (by omega) p1 t g1 gs wr ht HB.out j0.len);have PX:=hid (fun w=>PC.out i w hi);have j2:Q4b (Q3r (zgK u 6) u) u i=j:=by
   have:=z5y (p:=u) 6 (x:=(i:Int)) (by omega) (by omega);unfold Q64 at this;have e1:Q1r (Q3i (lgK u 6) u) u i=⟨(j:Int),true,A⟩:=e;rw[e1]at this;exact this
  rw[j2]at PX;rw[hj]at r3;have j3:=hid r3;have k1:(i:Int)<(u.size:Int):=by omega
  have k2:(i:Int)<=(j:Int):=by omega
  have k3:(j:Int)<=(u.size:Int):=by omega
  clear r1 r2 r3 e p1 j2 hj g0 j6;go_wp2_with (first
   |(go_at_call 115;refine csm (PX.out _) ?_)
   |(go_at_call 125;refine(SX.out).mono ?_;rintro e w1⟨g3,ns,rfl,q1,q2,q3⟩;have HN:=hid (And.intro q1 (And.intro q2 q3));clear q1 q2 q3))
  go_roundw
  case rel =>
   refine⟨j,g3,ns,Ds++[A],Rs,rfl,rfl,by omega,by rw[j1.out];simp,j3.out,HN.2.1,HF.trans HN.1,?_⟩;exact(j0.cat HN.2.2).iff (fun w=>(y3k Ds A w).symm)
  simp[intOf];omega
def Q90(Bs:List (List Q02)):Q02:=fun w=>∃B∈Bs,Q9a B w
theorem y98(Bs:List (List Q02))(B:List Q02)(w:List Nat):Q90 (Bs++[B]) w↔Q02.alt (Q90 Bs) (Q9a B) w:=by
 unfold Q90 Q02.alt;constructor
 ·rintro⟨D,hD,q⟩;rcases qBj.1 hD with hD|hD
  ·exact .inl ⟨D,hD,q⟩
  simp at hD;subst hD;exact .inr q
 rintro(⟨D,hD,q⟩|q)
 ·exact⟨D,by simp[hD],q⟩
 exact⟨B,by simp,q⟩
def Rest(p:ByteArray)(z:Int)(Bs:List (List Q02)):Prop:=(Bs=[]/\z=p.size)∨(atB p z=124/\Alts (Pc p) p (z+1) Bs p.size)
theorem y3c(p:ByteArray)(Bs:List (List Q02))(hs:p.size<=1000)(h:Alts (Pc p) p 0 Bs p.size)(hbr:∀u As,u.size<=p.size->Row (Pc u) 0 As u.size->SetC 116 u (Q9a As)):SetC 91 p (Q90 Bs):=by
 intro t g fs w ht hg hl;have jc:=hid hbr;have PC:=hid (fun(i:Nat) (w:World) (hi:i<=p.size)=>y9g p (by omega) i w (by omega));have UN:=hid (fun(w:World) (ga gb:Nat) (xs ys:List Bool) (ha:Q1y w ga xs) (hb:Q1y w gb ys) (la:xs.length=t.size+1) (lb:ys.length=t.size+1)=>z2x w ga gb (t.size+1) xs ys ha hb la lb (by omega));have HG:=hid hg;have HL:=hid hl;have HA:=hid h;have mk:=fun w=>run_make_row' (P:=Tryz.prog) 90 4 (.bool false) 1 Tryz.underlying90 (by kernel_rfl) rfl .i64 .i64 (t.size+1) (by omega) (by omega) w;simp only[Int.natCast_add,Int.cast_ofNat_Int]at mk;clear hbr hg hl h;go_enter Tryz.func91,Tryz.ntmps91
 go_wp2;go_loopw [7,8,9,10] (fun x7 x8 x9 _ wr=>∃(b i g1:Nat) (os:List Bool) (Ds:List (List Q02)),x8=.int .i64 b/\x9=.int .i64 i/\x7=bsl g1 (t.size+1)/\Q1y wr g1 os/\Q0a w wr/\Q58 (Q90 Ds) t fs os/\i<=p.size+1 /\
    ((i=p.size+1/\Ds=Bs)∨(∃(z:Nat) (Ls Rs:List Q02) (Ts:List (List Q02)),Bs=Ds++(Ls++Rs)::Ts/\b<=i/\i<=p.size/\Row (Pc p) b Ls i/\Row (Pc p) i Rs z/\Rest p z Ts)))
   (fun _ _ x _ _=>2001-(intOf x).toNat)
 case atStart =>
  have hA:=HA.out;cases Bs with
  |nil=>exact hA.elim
  |cons B Ts =>
   obtain⟨z,_,q1,q2⟩:=hA;have hz:=y8r q1 (by omega) (by omega);obtain⟨zn,rfl⟩:∃n:Nat,z=n:=⟨z.toNat,by omega⟩;refine⟨0,0,w.heap.size,List.replicate (t.size+1) false,[],rfl,rfl,rfl,?_,(mRf _ w).alloc _,?_,by omega,.inr ⟨zn,[],B,Ts,rfl,by omega,by omega,rfl,q1,q2⟩⟩
   ·rw[z03];exact z0a _ _
   refine(x2e (by simp) (fun j q=>?_)).iff (fun w=>⟨fun q=>q.elim,fun⟨B,hB,_⟩=>by cases hB⟩);unfold On at q;rw[qDd]at q;split at q<;>simp at q
 obtain⟨b,i,g1,os,Ds,rfl,rfl,rfl,hB,hfr,hgo,hi1,hst⟩:=hrel;have HB:=hid hB;have HF:=hid hfr;have j1:=hid hgo;clear hB hfr hgo HA mk;rcases hst with⟨hip,hDs⟩|⟨z,Ls,Rs,Ts,hBs,hbi,hip,r1,r2,r3⟩
 ·have k1:¬(i:Int)<=(p.size:Int):=by omega
  have HD:=hid hDs;clear hip hDs;go_wp2;go_ret;exact⟨g1,os,rfl,HF.out,HB.out,by rw[← HD.out];exact j1.out⟩
 have k1:(i:Int)<=(p.size:Int):=by omega
 have j7:=hid hBs;have j5:=hid r1;have j6:=hid r3;clear hBs r1 r3;cases Rs with
 |nil =>
  have jk:(i:Int)=z:=r2;have j8:i=z:=by omega
  subst j8;clear r2 jk;have j0:=x4m hip j5.out (b:=b) (Int.le_refl _);have jl:=z3q (s:=p) (a:=b) (e:=i) hip;rw[Int.sub_self,show(i:Int)-b=((p.extract b i).size:Int) by omega]at j0;have BX:=hid (fun(w:World) (hg:Q1y w g fs)=>jc.out _ Ls (by omega) j0 t g fs w ht hg HL.out);have k2:(b:Int)<=(i:Int):=by omega
  clear j0 jl;have jb:Hid (∀(wb:World) (g3:Nat) (ns:List Bool),True->Q58 (Q9a Ls) t fs ns->Q58 (Q90 (Ds++[Ls])) t fs (orI os ns (t.size+1) (t.size+1))):=fun wb g3 ns _ hn=>(j1.alt hn (v0b j1.len)).iff (fun w=>(y98 Ds Ls w).symm);have ja:i=p.size∨(∃j2:i<p.size,((p[i].toNat:Int)==124)=true):=by
   rcases j6.out with⟨_,q⟩|⟨q,_⟩
   ·left;omega
   right;have jj:=z0q (s:=p) (i:=(i:Int)) (by omega);have j2:i<p.size:=by omega
   refine⟨j2,?_⟩;rw[z1r j2]at q;simp[q]
  have jd:Hid ((i+1=p.size+1/\Ds++[Ls]=Bs)∨(∃(z:Nat) (Ls' Rs:List Q02) (Ts:List (List Q02)),Bs=(Ds++[Ls])++(Ls'++Rs)::Ts/\i+1<=i+1/\i+1<=p.size/\Row (Pc p) ((i+1:Nat):Int) Ls' ((i+1:Nat):Int)/\Row (Pc p) ((i+1:Nat):Int) Rs z/\Rest p z Ts)):=by
   have hB:=j7.out;rw[qAt]at hB;rcases j6.out with⟨q1,q2⟩|⟨q1,q2⟩
   ·left;refine⟨by omega,?_⟩;rw[hB,q1]
   right;have jj:=z0q (s:=p) (i:=(i:Int)) (by omega);cases Ts with
   |nil=>exact q2.elim
   |cons B Ts =>
    obtain⟨z2,_,y1,y2⟩:=q2;have hz:=y8r y1 (by omega) (by omega);obtain⟨zn,rfl⟩:∃n:Nat,z2=n:=⟨z2.toNat,by omega⟩;exact⟨zn,[],B,Ts,by rw[hB];simp,by omega,by omega,rfl,y1,y2⟩
  clear j7 j5 j6 jc;rcases ja with ja|⟨j2,h124⟩
  ·have k3:((i:Int)==(p.size:Int))=true:=by simp;omega
   clear ja;go_wp2_with (first
    |(go_at_call 70;have j4:=HN.1;refine(UN.out w1 g1 g3 os ns (HB.fresh HN.1) HN.2.1 j1.len HN.2.2.len).mono ?_;rintro e w3⟨rfl,hf3,hb3⟩;have HU:=hid (And.intro hf3 hb3);clear hf3 hb3)
    |(go_at_call 116;refine(BX.out _ (HG.fresh HF.out)).mono ?_;rintro e w1⟨g3,ns,rfl,q1,q2,q3⟩;have HN:=hid (And.intro q1 (And.intro q2 q3));clear q1 q2 q3))
   go_roundw
   case rel=>exact⟨i+1,i+1,_,_,Ds++[Ls],by go_num,by go_num,rfl,HU.2,(HF.trans HN.1).trans HU.1,jb.out w1 g3 ns trivial HN.2.2,by omega,jd.out⟩
   simp[intOf];omega
  have k3:((i:Int)==(p.size:Int))=false:=by simp;omega
  have k4:(i:Int)<(p.size:Int):=by omega
  have ji:p[i].toNat<256:=p[i].toNat_lt;go_wp2_with (first
   |(go_at_call 70;have j4:=HN.1;refine(UN.out w1 g1 g3 os ns (HB.fresh HN.1) HN.2.1 j1.len HN.2.2.len).mono ?_;rintro e w3⟨rfl,hf3,hb3⟩;have HU:=hid (And.intro hf3 hb3);clear hf3 hb3)
   |(go_at_call 116;refine(BX.out _ (HG.fresh HF.out)).mono ?_;rintro e w1⟨g3,ns,rfl,q1,q2,q3⟩;have HN:=hid (And.intro q1 (And.intro q2 q3));clear q1 q2 q3))
  go_roundw
  case rel=>exact⟨i+1,i+1,_,_,Ds++[Ls],by go_num,by go_num,rfl,HU.2,(HF.trans HN.1).trans HU.1,jb.out w1 g3 ns trivial HN.2.2,by omega,jd.out⟩
  simp[intOf];omega
 |cons A Rs =>
  obtain⟨y1,y2,y3⟩:=r2;have j3:=z28 y1;have j9:=z0q (s:=p) (i:=(i:Int)) (y3h j3);have j2:i<p.size:=by omega
  have g0:=x28 p i (by omega) (by omega) y1;obtain⟨j,hj⟩:∃j:Nat,(Pc p i).next=j:=⟨(Pc p i).next.toNat,by omega⟩;have PX:=hid (fun w=>PC.out i w hip);have jf:Q4b (Q3r (zgK p 6) p) p i=j:=by
   have:=z5y (p:=p) 6 (x:=(i:Int)) (by omega) (by omega);unfold Q64 at this;have e1:Q1r (Q3i (lgK p 6) p) p i=⟨(j:Int),true,A⟩:=by
    show Pc p i=_;rw[← hj,← y2];exact z2k y1
   rw[e1]at this;exact this
  rw[jf]at PX;have je:Row (Pc p) b (Ls++[A]) ((j:Nat):Int):=by
   have:=Row.snoc j5.out y1;rw[y2,hj]at this;exact this
  rw[hj]at y3;have jh:=hid y3;have jg:=hid je;have jm:((p[i].toNat:Int)==124)=false:=by
   rw[z1r j2]at j3;cases q:((p[i].toNat:Int)==124)
   ·rfl
   have:(p[i].toNat:Int)=124:=by simpa using q
   rw[this]at j3;revert j3;decide
  have k3:((i:Int)==(p.size:Int))=false:=by simp;omega
  have k4:(i:Int)<(p.size:Int):=by omega
  have ji:p[i].toNat<256:=p[i].toNat_lt;have k5:¬(j:Int)<0:=by omega
  have b1:i<j:=by omega
  have b2:j<=p.size:=by omega
  clear y1 y2 y3 j3 jf hj je j5 g0 j9;go_wp2_with (first
   |(go_at_call 115;refine csm (PX.out _) ?_))
  go_roundw
  case rel=>exact⟨b,j,g1,os,Ds,rfl,rfl,rfl,HB.out,HF.out,j1.out,by omega,.inr ⟨z,Ls++[A],Rs,Ts,by rw[j7.out];simp,by omega,by omega,jg.out,jh.out,j6.out⟩⟩
  simp[intOf];omega
theorem z7x:∀(N:Nat) (p:ByteArray) (L:Q02),p.size<=N->p.size<=1000->Q89 p L->SetC 91 p L
 |0,p,L,hN,hs,h=>by
  exfalso;have g:=y4a p 6 0 (by omega) (by omega) (by rw[h]);rw[h]at g;dsimp only at g;omega
 |N+1,p,L,hN,hs,h=>by
  have j0:(Q6q p 6 0).ok=true:=by rw[h]
  obtain⟨Bs,h1,h2⟩:=y57 (P:=Pc p) (s:=p) (x:=0) j0;have e:Q20 (Q0x (Pc p) p) p 0=⟨p.size,true,L⟩:=h;rw[e]at h1 h2;dsimp only at h1 h2;have j1:=y3c p Bs hs h1 (fun u As hu hr=>y7j u As (by omega) hr (fun q M hq hM=>x5p q M (by omega) hM (fun a A ha hA=>x72 a A (by omega) hA (fun c C hc hC=>z7x N c C (by omega) (by omega) hC))));intro t g fs w ht hg hl;refine(j1 t g fs w ht hg hl).mono ?_;rintro e w'⟨g',gs,q1,q2,q3,q4⟩;exact⟨g',gs,q1,q2,q3,q4.iff (fun w=>(h2 w).symm)⟩
theorem x0g{L:Q02}{t:ByteArray}{n j:Nat}:Q5d L t (On ((List.replicate (n+1) false).set 0 true)) j↔L (Q10 t 0 j):=by
 constructor
 ·rintro⟨i,h1,h2,h3⟩;have:i=0:=by
   unfold On at h2;rw[qBy]at h2;by_cases e:0=i
   ·exact e.symm
   rw[qAa e,qDd]at h2;split at h2<;>simp at h2
  subst this;exact h3
 intro h;exact⟨0,by omega,by unfold On;simp,h⟩
def LenRet(L:Q02)(t:ByteArray)(w:World)(e:Ending)(w':World):Prop :=
 ∃g gs,e=.returned (bsl g (t.size+1))/\Q0a w w'/\Q1y w' g gs/\gs.length=t.size+1/\∀j,j<=t.size->(On gs j↔L (Q10 t 0 j))
theorem y5t(p t:ByteArray)(L:Q02)(w:World)(hs:p.size<=1000)(ht:t.size<=210)(h:Q89 p L) :
  Calls Tryz.prog 63 #[.string p,.string t] w fun e w'=>LenRet L t w e w':=by
 have TH:=hid (z7x p.size p L (qR _) hs h t);have mk:=fun w=>run_make_row' (P:=Tryz.prog) 90 4 (.bool false) 1 Tryz.underlying90 (by kernel_rfl) rfl .i64 .i64 (t.size+1) (by omega) (by omega) w;simp only[Int.natCast_add,Int.cast_ofNat_Int]at mk;have hB:Q1y (w.alloc (.cells (madeCells #[.bool false] (t.size+1)) 4)) w.heap.size (List.replicate (t.size+1) false):=by
  rw[z03];exact z0a _ _
 have c0:=hB.cell (j:=0) (by simp);have f0:=hB.frozen 0;have e0:(List.replicate (t.size+1) false).getD 0 false=false:=by simp
 rw[e0]at c0;have HB:Hid (Q1y (w.alloc (.cells ((madeCells #[.bool false] (t.size+1)).setIfInBounds 0 (.bool true)) 4)) w.heap.size ((List.replicate (t.size+1) false).set 0 true)):=by
  unfold Hid Q1y;rw[z0a,z03];congr 2
 have k1:(0:Int)<(t.size:Int)+1:=by omega
 clear hB e0;go_enter Tryz.func63,Tryz.ntmps63
 go_wp2_with (first
  |(go_at_call 91;refine(TH.out w.heap.size _ _ ht HB.out (by simp)).mono ?_;rintro e w1⟨g3,ns,rfl,q1,q2,q3⟩;have HN:=hid (And.intro q1 (And.intro q2 q3));clear q1 q2 q3))
 go_ret;obtain⟨q1,q2,q3⟩:=HN.out;refine⟨g3,ns,rfl,((mRf _ w).alloc _).trans q1,q2,q3.len,fun j hj=>?_⟩;rw[q3.on j hj];exact x0g
def MatRet(L:Q02)(t:ByteArray)(w:World)(e:Ending)(w':World):Prop :=
 ∃b:Bool,e=.returned (.bool b)/\(b=true↔L (bytesOf t))/\Q0a w w'
theorem y5x(p t:ByteArray)(L:Q02)(w:World)(hs:p.size<=1000)(ht:t.size<=210)(h:Q89 p L) :
  Calls Tryz.prog 30 #[.string p,.string t] w fun e w'=>MatRet L t w e w':=by
 have LE:=hid (y5t p t L w hs ht h);have k1:(t.size:Int)<(t.size:Int)+1:=by omega
 clear h;go_enter Tryz.func30,Tryz.ntmps30
 go_wp2_with (first
  |(go_at_call 63;refine(LE.out).mono ?_;rintro e w1⟨g3,ns,rfl,q1,q2,q3,q4⟩;have hc:=q2.cell (j:=t.size) (by omega);have HN:=hid (And.intro q1 (q4 t.size (qR _)));clear q1 q2 q3 q4))
 go_ret;obtain⟨q1,q2⟩:=HN.out;refine⟨_,rfl,?_,q1⟩;show _↔L (Q10 t 0 t.size);rw[← q2,z3l,qD]
theorem z9j:∀(n:Nat) (l:List Nat),l.Nodup->(∀x∈l,x<n)->l.length<=n
 |0,l,_,h=>by
  cases l with
  |nil=>simp
  |cons a l=>exact absurd (h a (by simp)) (by omega)
 |n+1,l,hd,h=>by
  by_cases hm:n∈l
  ·have h1:=List.length_erase_of_mem hm;have:=z9j n (l.erase n) (hd.erase n) (fun x hx=>by
    have h2:=hd.mem_erase_iff.1 hx;have:=h x h2.2;have:=h2.1;omega)
   have:0<l.length:=List.length_pos_of_mem hm;omega
  have:=z9j n l hd (fun x hx=>by
   have:=h x hx;have:x≠n:=fun e=>hm (e▸hx);omega)
  omega
def ItB(m:Itm):Prop:=m.p<20/\m.d<=6/\m.f<=60
theorem x9r{X:List Itm}(hd:X.Nodup)(hb:∀m∈X,ItB m):X.length<=8540:=by
 have h:=z9j 8540 (X.map fun m=>(m.p*7+m.d)*61+m.f) ?_ ?_
 ·simpa using h
 ·unfold List.Nodup at hd ⊢;rw[List.pairwise_map];refine List.Pairwise.imp_of_mem ?_ hd;intro a b ha hb' hne e;obtain⟨a1,a2,a3⟩:=a;obtain⟨b1,b2,b3⟩:=b;have h1:=hb _ ha;have h2:=hb _ hb';simp only[ItB]at h1 h2 e;have e3:a3=b3:=by omega
  have e2:a2=b2:=by omega
  have e1:a1=b1:=by omega
  subst e1 e2 e3;exact hne rfl
 intro x hx;rw[qBp]at hx;obtain⟨m,hm,rfl⟩:=hx;have h1:=hb m hm;simp only[ItB]at h1;omega
def Q8m(X:List Itm)(m:Itm):List Itm:=if inI X m=true then X else X++[m]
def mvI(m:Itm):Itm:=⟨m.p,m.d+1,m.f⟩
theorem y17(X:List Itm)(m:Itm):m∈Q8m X m:=by
 unfold Q8m;split
 ·rename_i h;exact(x2s _ _).1 h
 simp
structure Q4s(Q:Itm->Prop)(X X':List Itm):Prop where
 pre:∃Y,X'=X++Y
 nd:X'.Nodup
 q:∀m∈X',Q m
section
variable {Q:Itm->Prop}{X X' X2:List Itm}
theorem Q4s.put{m:Itm}(h:Q4s Q X X')(hm:Q m):Q4s Q X (Q8m X' m):=by
 unfold Q8m;split
 ·exact h
 rename_i c;have hn:m ∉ X':=fun e=>c ((x2s _ _).2 e);obtain⟨Y,e⟩:=h.pre;refine⟨⟨Y++[m],by rw[e,qAh]⟩,?_,fun x hx=>?_⟩
 ·rw[List.nodup_append];exact⟨h.nd,by simp,fun a ha b hb=>by simp at hb;subst hb;exact fun e=>hn (e▸ha)⟩
 rw[qU,qM]at hx;rcases hx with hx|rfl
 ·exact h.q x hx
 exact hm
theorem Q4s.le(h:Q4s Q X X'):X.length<=X'.length:=by
 obtain⟨Y,e⟩:=h.pre;rw[e,qP];omega
theorem Q4s.same(h:Q4s Q X X')(hl:X'.length=X.length):X'=X:=by
 obtain⟨Y,e⟩:=h.pre;rw[e,qP]at hl;rw[e,qBs (by omega:Y.length=0),qAt]
theorem Q4s.mem(h:Q4s Q X X'){m:Itm}(hm:m∈X):m∈X':=by
 obtain⟨Y,e⟩:=h.pre;rw[e];simp[hm]
theorem Q4s.trans(h:Q4s Q X X')(h2:Q4s Q X' X2):Q4s Q X X2:=by
 obtain⟨Y,e⟩:=h.pre;obtain⟨Z,e2⟩:=h2.pre;exact⟨⟨Y++Z,by rw[e2,e,qAh]⟩,h2.nd,h2.q⟩
theorem Q4s.refl(h:Q4s Q X X'):Q4s Q X' X':=⟨⟨[],by simp⟩,h.nd,h.q⟩
theorem y8h(hl:X.length<=X'.length)(m:Itm):decide (X.length<(Q8m X' m).length)=(decide (X.length<X'.length)||!inI X' m):=by
 unfold Q8m;cases h:inI X' m
 ·simp;omega
 simp
theorem y92(h:Q4s Q X X')(h2:Q4s Q X' X2):decide (X.length<X2.length)=(decide (X.length<X'.length)||decide (X'.length<X2.length)):=by
 have h1:=h.le;have h2:=h2.le;rw[qAs];simp;omega
end
def atS(P:List (List Itm))(X:List Itm)(s:Nat):List Itm:=(P++[X]).getD s []
section
variable {P:List (List Itm)}{X X':List Itm}{s:Nat}
theorem z2h:atS P X P.length=X:=by unfold atS;simp
theorem y1r(h:s<P.length):atS P X s=P.getD s []:=by
 unfold atS;rw[qD,qD,qAe h]
theorem x1f(h:s<=P.length):(P++[X])[s]? = some (atS P X s):=by
 unfold atS;rw[qD];have:s<(P++[X]).length:=by simp;omega
 rw[qE this];rfl
theorem x9z(h:s<=P.length){m:Itm}(hm:m∈atS P X s):m∈P.getD s []∨(s=P.length/\m∈X):=by
 rcases qBn s P.length with q|q
 ·rw[y1r q]at hm;exact .inl hm
 obtain rfl:s=P.length:=by omega
 rw[z2h]at hm;exact .inr ⟨rfl,hm⟩
theorem x87(h:s<=P.length)(e:∃Y,X'=X++Y):∃Z,atS P X' s=atS P X s++Z:=by
 obtain⟨Y,e⟩:=e;rcases qBn s P.length with q|q
 ·rw[y1r q,y1r q];exact⟨[],by simp⟩
 obtain rfl:s=P.length:=by omega
 rw[z2h,z2h];exact⟨Y,e⟩
end
end Go.Proofs.YtcpceafmlgaodaaGreat
