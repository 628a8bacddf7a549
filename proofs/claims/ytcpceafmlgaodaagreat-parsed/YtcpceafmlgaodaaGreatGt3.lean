import Derived.Test.YtcpceafmlgaodaaGreatSg3
namespace Go.Proofs.YtcpceafmlgaodaaGreat
open Go.RowKit
set_option maxRecDepth 100000
set_option maxHeartbeats 16000000
set_option linter.unusedVariables false
set_option linter.unusedSimpArgs false
theorem z37:∀(l:List Ln)(acc:List Wd)(d:Wd),d∈acc->d∈Q17 l acc
 | [],_,_,h=>h
 |x::l,acc,d,h=>by
  unfold Q17;split
  ·exact z37 l acc d h
  split
  ·exact z37 l acc d h
  exact z37 l _ d(by simp[h])
theorem y3z{ds:List Wd}{ls:List Int}:Q1p ds ls<ds.length↔∃d∈ds,d.ls=ls:=by
 unfold Q1p;rw[List.findIdx_lt_length];simp
theorem z5h:∀(l:List Ln)(acc:List Wd)(y:Ln),y∈l->Q1g y=false->∃d∈Q17 l acc,d.ls=y.front.ls
 | [],_,_,h,_=>by cases h
 |x::l,acc,y,h,hy=>by
  simp only[List.mem_cons]at h;unfold Q17;rcases h with rfl|h
  ·rw[if_neg(by rw[hy];simp)];split
   ·rename_i e;obtain⟨d,h1,h2⟩:=y3z.1 e;exact⟨d,z37 l acc d h1,h2⟩
   exact⟨y.front,z37 l _ _(by simp),rfl⟩
  split
  ·exact z5h l acc y h hy
  split
  ·exact z5h l acc y h hy
  exact z5h l _ y h hy
theorem y32(lns:List Ln):∀i,i<=lns.length->(Q17(lns.take i) []).length<=Q3i lns i
 |0,_=>by simp[Q17]
 |i+1,hi=>by
  have ih:=y32 lns i(by omega);have j0:i<lns.length:=by omega
  rw[Q6g j0,z1u,z3e lns i j0];split
  ·omega
  rename_i hr;split
  ·omega
  rename_i hw;have ha:Q3d lns i=false:=by
   unfold Q3d;rw[qE j0];simp only[decide_eq_false_iff_not];intro hf;apply hw;rw[y3z];unfold Q2i at hf;have j3:lns.findIdx(fun y=>y.front.ls==lns[i].front.ls)<lns.length:=by omega
   have h1:=List.findIdx_getElem(w:=j3);generalize lns.findIdx(fun y=>y.front.ls==lns[i].front.ls)=j at *;simp only[beq_iff_eq]at h1;have j1:Q1g lns[j]=false:=by
    have:Q3m lns[j].front=Q3m lns[i].front:=y8r h1;unfold Q1g at hr ⊢;rw[this];simpa using hr
   obtain⟨d,hd1,hd2⟩:=z5h(lns.take i) []lns[j](List.mem_take_iff_getElem.2⟨j,by omega,rfl⟩)j1;exact⟨d,hd1,by rw[hd2,h1]⟩
  rw[ha];simp only[Bool.or_false];have j2:Q1g lns[i]=false:=by simpa using hr
  rw[j2];simp only[List.length_append,List.length_singleton,Bool.false_eq_true,if_false];omega
theorem y4e{lns:List Ln}(hp:∀y∈lns,0<=y.front.place)(h:Q3s lns=-1):(Q0i lns).length<=8/\(Q0r lns).length<=20/\∀p∈Q0r lns,p.syms.length<=6:=by
 refine⟨?_,?_,?_⟩
 ·have hc:=y32 lns lns.length(qR _);rw[List.take_length]at hc;unfold Q0i;by_cases h0:lns.length=0
  ·have:lns=[]:=List.eq_nil_of_length_eq_zero h0;subst this;simp[Q17]
  have:=z4d hp _ 0 h(by omega)(lns.length-1)(by omega)(by omega);unfold Q7p at this;simp only[Bool.or_eq_false_iff,decide_eq_false_iff_not]at this;have h1:=this.1.2;rw[show lns.length-1+1=lns.length by omega]at h1;omega
 ·have e:(Q0r lns).length=Q26 lns lns.length:=by unfold Q0r Q06 Q26;rw[List.take_length,List.length_map]
  rw[e];by_cases h0:lns.length=0
  ·rw[h0];simp[Q26]
  have:=z4d hp _ 0 h(by omega)(lns.length-1)(by omega)(by omega);unfold Q7p at this;simp only[Bool.or_eq_false_iff,decide_eq_false_iff_not]at this;have h1:=this.1.1.2;rw[show lns.length-1+1=lns.length by omega]at h1;omega
 intro p hpm;unfold Q0r at hpm;obtain⟨y,hy,rfl⟩:=List.mem_map.1 hpm;have j0:=(List.mem_filter.1 hy).1;obtain⟨k,hk,rfl⟩:=List.getElem_of_mem j0;have:=z4d hp _ 0 h(by omega)k hk(by omega);unfold Q7p at this;simp only[Bool.or_eq_false_iff,decide_eq_false_iff_not]at this;unfold Q75;simp only[List.length_map];omega
def hN(hs:List Hd)(X:Int):Bool:=(Q1l hs X).nul
def hF(hs:List Hd)(X:Int)(t:Nat):Bool:=(Q1l hs X).fi.getD t false
def hO(hs:List Hd)(X:Int)(t:Nat):Bool:=(Q1l hs X).fo.getD t false
theorem z88{a:List Bool}(ha:a.length=9){n:Int}(h0:0<=n)(h9:n<9)(t:Nat):(Q2g a n).getD t false=(a.getD t false||(n==(t:Int))):=by
 unfold Q2g;rw[if_pos⟨h0,h9⟩];simp only[qD,List.getElem?_set];by_cases e:n.toNat=t
 ·have e2:(n==(t:Int))=true:=by simp;omega
  rw[if_pos e,if_pos(by omega),e2];simp
 have e2:(n==(t:Int))=false:=by simp;omega
 rw[if_neg e,e2];simp
theorem z4u(hs:List Hd):∀(l:List Sy)(acc:List Bool),(Q2u hs l acc).2=l.all(Q4a(hN hs))
 | [],_=>rfl
 |s::l,acc=>by
  unfold Q2u;cases h1:s.isH
  ·simp[Q4a,h1]
  simp only[Bool.true_eq_false,if_false,List.all_cons,Q4a,h1,Bool.true_and,hN];cases h2:(Q1l hs s.num).nul
  ·simp
  simp only[Bool.true_eq_false,if_false,Bool.true_and];exact z4u hs l _
theorem z68{R H:Nat}{hs:List Hd}(hok:∀x∈hs,x.ok)(hR:R<=8)(t:Nat):∀(l:List Sy)(acc:List Bool),acc.length=9->(∀s∈l,0<=s.num/\s.num<(if s.isH then(H:Int)else R)) ->
  (Q2u hs l acc).1.getD t false=(acc.getD t false||Q30(hN hs)(fun X=>hF hs X t)t l)
 | [],acc,_,_=>by simp[Q2u,Q30]
 |s::l,acc,ha,hv=>by
  have hv1:=hv s(by simp);unfold Q2u Q30;cases h1:s.isH
  ·rw[h1]at hv1;simp only[Bool.false_eq_true,if_false]at hv1;simp only[if_true,Bool.false_eq_true,if_false,Bool.false_and,Bool.or_false];exact z88 ha hv1.1(by omega)t
  simp only[Bool.true_eq_false,if_false,if_true,Bool.true_and];have j0:=(z0k hok s.num).fi;cases h2:(Q1l hs s.num).nul
  ·simp only[if_true,hN,h2,Bool.false_and,Bool.or_false];rw[z3n(by rw[ha,j0])];rfl
  simp only[Bool.true_eq_false,if_false];rw[z68 hok hR t l _(z04 ha j0)(fun x hx=>hv x(by simp[hx])),z3n(by rw[ha,j0])];simp only[hN,h2,Bool.true_and,hF,Bool.or_assoc]
theorem z4n(t:Nat):Q0w.getD t false=false:=by rw[z3t]
theorem z9i{R H:Nat}{hs:List Hd}(hok:∀x∈hs,x.ok)(hR:R<=8)(t:Nat)(ph:Int)(l:List Sy)(hv:∀s∈l,0<=s.num/\s.num<(if s.isH then(H:Int)else R)) :
  (Q8k hs ph l).getD t false=(Q30(hN hs)(fun X=>hF hs X t)t l||(l.all(Q4a(hN hs))&&hO hs ph t)):=by
 have h1:=z68 hok hR t l Q0w rfl hv;rw[z4n,Bool.false_or]at h1;unfold Q8k;rw[z4u];split
 ·rename_i e;rw[z3n(by rw[z1a hok _ _ rfl,(z0k hok _).fo]),h1,e];simp[hO]
 rename_i e;rw[h1];have:l.all(Q4a(hN hs))=false:=by simpa using e
 rw[this];simp
structure Fd(ps:List Pr)(H:Nat)(hs:List Hd):Prop where
 ok:∀x∈hs,x.ok
 n:∀X,hN hs X=true->NS ps H X=true
 f:∀X t,hF hs X t=true->FS ps(NS ps H)t H X=true
theorem y4r{N N' F F':Int->Bool}{t:Nat}(hn:∀X,N X=true->N' X=true)(h:∀X,F X=true->F' X=true):∀l:List Sy,Q30 N F t l=true->Q30 N' F' t l=true
 | [],e=>e
 |s::l,e=>by
  unfold Q30 at e ⊢;cases hs:s.isH
  ·rw[hs]at e;simpa using e
  rw[hs]at e;simp only[if_true,Bool.true_and,Bool.or_eq_true,Bool.and_eq_true]at e ⊢;rcases e with e|⟨e1,e2⟩
  ·exact .inl(h _ e)
  exact .inr⟨hn _ e1,y4r hn h l e2⟩
theorem Fd.step{ps:List Pr}{R H:Nat}(hT:Q1c ps R H)(hR:R<=8){hs:List Hd}(h:Fd ps H hs){p:Pr}(hp:p∈ps):Fd ps H(Q3k hs p).1:=by
 have j0:=h.ok;have hh:=hT.hd p hp;refine⟨(z3r j0 p false).ok,?_,?_⟩
 ·intro X hX;unfold hN Q3k at hX;rw[z1d]at hX;split at hX
  ·rename_i e;dsimp only at hX;simp only[Bool.or_eq_true]at hX;rw[e.1];rcases hX with hX|hX
   ·exact h.n _ hX
   rw[z4u]at hX;refine v1e hT(H+1)_ hh.1 hh.2 ?_;unfold NS;rw[List.any_eq_true];refine⟨p,hp,?_⟩;simp only[Bool.and_eq_true,beq_self_eq_true,true_and];rw[List.all_eq_true]at hX ⊢;intro s hs1;have:=hX s hs1;simp only[Q4a,Bool.and_eq_true]at this ⊢;exact⟨this.1,h.n _ this.2⟩
  exact h.n X hX
 intro X t hX;unfold hF Q3k at hX;rw[z1d]at hX;split at hX
 ·rename_i e;dsimp only at hX;rw[z3n(by rw[(z0k j0 _).fi,z1a j0 _ _ rfl])]at hX;simp only[Bool.or_eq_true]at hX;rw[e.1];rcases hX with hX|hX
  ·exact h.f _ t hX
  rw[z68 j0 hR t p.syms Q0w rfl(hT.sy p hp),z4n,Bool.false_or]at hX;refine x8y hT _ t(H+1)_ hh.1 hh.2 ?_;unfold FS;rw[List.any_eq_true];refine⟨p,hp,?_⟩;simp only[Bool.and_eq_true,beq_self_eq_true,true_and];exact y4r h.n(fun Y hY=>h.f Y t hY)_ hX
 exact h.f X t hX
theorem Fd.list{ps:List Pr}{R H:Nat}(hT:Q1c ps R H)(hR:R<=8):∀(l:List Pr)(hs:List Hd)(g:Bool),(∀p∈l,p∈ps)->Fd ps H hs->Fd ps H(Q5h l hs g).1
 | [],_,_,_,h=>h
 |p::l,hs,g,hl,h=>Fd.list hT hR l _ _(fun q hq=>hl q(by simp[hq]))(h.step hT hR(hl p(by simp)))
theorem x1h{ps:List Pr}{R H:Nat}(hT:Q1c ps R H)(hR:R<=8):Fd ps H(Q34 ps(Q0x R H)):=by
 have j1:=z79(R:Int)H;have hz:∀n,(Q1l(Q0x(R:Int)H)n).fi=Q0w/\(Q1l(Q0x(R:Int)H)n).nul=false:=fun n=>by
  rw[z31];split
  ·unfold Q5e;split<;>exact⟨rfl,rfl⟩
  exact⟨rfl,rfl⟩
 have i0:Fd ps H(Q0x(R:Int)H):=⟨j1,fun X h=>(by unfold hN at h;rw[(hz X).2]at h;cases h),fun X t h=>(by unfold hF at h;rw[(hz X).1,z4n]at h;cases h)⟩;obtain⟨i1,ok1,_,_⟩:=z1n(z2u ps)(I:=Fd ps H)(fun hs _ h=>Fd.list hT hR ps hs false(fun _ hp=>hp)h)j1 i0;generalize hq1:Q44(Q8f ps)(Q0x(R:Int)H)=hs1 at i1 ok1;obtain⟨⟨kn2,kf2⟩,ok2,_,_⟩:=z1n(z2b ps)(I:=fun hs=>Q0o Hd.nul hs1 hs/\Q0o Hd.fi hs1 hs)(fun hs _ h=>⟨h.1.trans(z1f(fun _ _=>rfl)ps hs false),h.2.trans(z1f(fun _ _=>rfl)ps hs false)⟩)ok1⟨Q0o.refl _ _,Q0o.refl _ _⟩;generalize hq2:Q44(Q5n ps)hs1=hs2 at kn2 kf2 ok2;obtain⟨⟨kn3,kf3⟩,ok3,_,_⟩:=z1n(z2c ps)(I:=fun hs=>Q0o Hd.nul hs2 hs/\Q0o Hd.fi hs2 hs)(fun hs _ h=>⟨h.1.trans(z0x(fun _ _=>rfl)ps hs false),h.2.trans(z0x(fun _ _=>rfl)ps hs false)⟩)ok2⟨Q0o.refl _ _,Q0o.refl _ _⟩;generalize hq3:Q44(Q6z ps)hs2=hs3 at kn3 kf3 ok3;obtain⟨⟨kn4,kf4⟩,ok4,_,_⟩:=z1n(z2a ps)(I:=fun hs=>Q0o Hd.nul hs3 hs/\Q0o Hd.fi hs3 hs)(fun hs _ h=>⟨h.1.trans(z01(fun _ _=>rfl)ps hs false),h.2.trans(z01(fun _ _=>rfl)ps hs false)⟩)ok3⟨Q0o.refl _ _,Q0o.refl _ _⟩;have j0:Q34 ps(Q0x(R:Int)H)=Q44(Q72 ps)hs3:=by unfold Q34;rw[hq1,hq2,hq3]
 rw[j0];generalize Q44(Q72 ps)hs3=hs4 at kn4 kf4 ok4;have kn:Q0o Hd.nul hs1 hs4:=(kn2.trans kn3).trans kn4;have kf:Q0o Hd.fi hs1 hs4:=(kf2.trans kf3).trans kf4;refine⟨ok4,fun X h=>i1.n X ?_,fun X t h=>i1.f X t ?_⟩
 ·unfold hN at h ⊢;rw[kn X]at h;exact h
 unfold hF at h ⊢;rw[kf X]at h;exact h
def chF(hs:List Hd)(ps:List Pr)(X:Int)(t:Nat):Int:=match ovL X t(ps.zip(Q0q hs ps))0 with
 | []=>-1
 |a::_=>a
theorem y6j(n t:Int):∀(z:List(Pr × List Bool))(i:Nat)(k:Int),k∈ovL n t z i↔∃(j:Nat)(x:Pr × List Bool),z[j]? = some x/\k=(i:Int)+j/\x.1.head=n/\Q9d x.2 t=true
 | [],i,k=>by simp[ovL]
 |q::z,i,k=>by
  have ih:=y6j n t z(i+1)k;unfold ovL;constructor
  ·intro h;split at h
   ·rename_i e;simp only[List.mem_cons]at h;rcases h with rfl|h
    ·exact⟨0,q,rfl,by simp,e.1,e.2⟩
    obtain⟨j,x,h1,h2,h3⟩:=ih.1 h;exact⟨j+1,x,by simpa using h1,by omega,h3⟩
   obtain⟨j,x,h1,h2,h3⟩:=ih.1 h;exact⟨j+1,x,by simpa using h1,by omega,h3⟩
  rintro⟨j,x,h1,h2,h3⟩;cases j with
  |zero =>
   simp only[List.getElem?_cons_zero,Option.some.injEq]at h1;subst h1;rw[if_pos h3];simp[h2]
  |succ j =>
   have:=ih.2⟨j,x,by simpa using h1,by omega,h3⟩;split
   ·simp[this]
   exact this
theorem x20{n t:Int}{l:List Int}(h:Q6k n t l=[]):l.length<=1:=by
 match l with
 | []=>simp
 | [_]=>simp
 |a::b::r=>simp[Q6k]at h
theorem x1z{z:List(Pr × List Bool)}{n R:Nat}:∀(f t:Nat),clT z n R f t=[]->∀u:Nat,t<=u->u<=R->R+1<=t+f->(ovL n u z 0).length<=1
 |0,t,_,u,h1,h2,h3=>by omega
 |f+1,t,h,u,h1,h2,h3=>by
  unfold clT at h;rw[if_pos(by omega)]at h;obtain⟨h4,h5⟩:=List.append_eq_nil_iff.1 h;by_cases e:t=u
  ·subst e;exact x20 h4
  exact x1z f(t+1)h5 u(by omega)h2(by omega)
theorem x17{z:List(Pr × List Bool)}{R H:Nat}:∀(f n:Nat),clN z R H f n=[]->∀m u:Nat,n<=m->m<H->H<=n+f->u<=R->(ovL m u z 0).length<=1
 |0,n,_,m,u,h1,h2,h3,_=>by omega
 |f+1,n,h,m,u,h1,h2,h3,h6=>by
  unfold clN at h;rw[if_pos(by omega)]at h;obtain⟨h4,h5⟩:=List.append_eq_nil_iff.1 h;by_cases e:n=m
  ·subst e;exact x1z _ 0 h4 u(by omega)h6(by omega)
  exact x17 f(n+1)h5 m u(by omega)h2(by omega)h6
theorem x78{hs:List Hd}{ps:List Pr}{j:Nat}{x:Pr × List Bool}:(ps.zip(Q0q hs ps))[j]? = some x↔∃p,ps[j]? = some p/\x=(p,Q8k hs p.head p.syms):=by
 unfold Q0q;rw[List.zip_map_right,List.getElem?_map];constructor
 ·intro h;cases hq:(ps.zip ps)[j]? with
  |none=>rw[hq]at h;cases h
  |some y =>
   rw[hq]at h;rw[List.getElem?_zip_eq_some]at hq;obtain⟨y1,y2⟩:=y;have e:y1=y2:=by have:=hq.1.symm.trans hq.2;simpa using this
   subst e;refine⟨y1,hq.1,?_⟩;simp only[Option.map_some,Option.some.injEq]at h;rw[← h];rfl
 rintro⟨p,h1,rfl⟩;have:(ps.zip ps)[j]? = some(p,p):=by rw[List.getElem?_zip_eq_some];exact⟨h1,h1⟩
 rw[this];rfl
theorem llg{ps:List Pr}{R H:Nat}(hT:Q1c ps R H)(hR:R<=8)(hH:0<H)(hmx:∀p∈ps,p.syms.length<=6)
  (hcl:Q6e(ps.zip(Q0q(Q34 ps(Q0x R H))ps))R H=[]):LLG ps R H(hN(Q34 ps(Q0x R H)))(hF(Q34 ps(Q0x R H)))(hO(Q34 ps(Q0x R H)))(chF(Q34 ps(Q0x R H))ps):=by
 have hS:=z8z hT hR;have hD:=x1h hT hR;generalize Q34 ps(Q0x R H)=hs at *;have j2:∀n X,NS ps n X=true->hN hs X=true:=by
  intro n;induction n with
  |zero=>intro X h;cases h
  |succ n ih =>
   intro X h;unfold NS at h;rw[List.any_eq_true]at h;obtain⟨p,hp,h⟩:=h;simp only[Bool.and_eq_true,List.all_eq_true,beq_iff_eq]at h;rw[← h.1];refine hS.clN p hp ?_;rw[z4u,List.all_eq_true];intro s hs1;simp only[Q4a,Bool.and_eq_true];exact⟨(h.2 s hs1).1,ih _(h.2 s hs1).2⟩
 have j0:NS ps H=hN hs:=by
  funext X;rw[Bool.eq_iff_iff];exact⟨j2 H X,hD.n X⟩
 have j1:∀p∈ps,∀t:Nat,Q9d(Q8k hs p.head p.syms)t=ahd(hN hs)(hF hs)(hO hs)p t:=fun p hp t=>by
  unfold Q9d ahd;rw[if_pos(by omega),Int.toNat_natCast];exact z9i hS.ok hR t p.head p.syms(hT.sy p hp)
 refine⟨hT,hmx,?_,?_,?_,hD.n,?_,hS.st2 hH,hS.bfi,?_,?_⟩
 ·intro p hp h;exact hS.clN p hp(by rw[z4u];exact h)
 ·intro p hp t h;refine hS.clF p hp t ?_;rw[z68 hS.ok hR t p.syms Q0w rfl(hT.sy p hp),z4n,Bool.false_or];exact h
 ·intro p hp a s b e hs1 t h;refine hS.clS p hp a s b e hs1 t ?_;rw[z9i hS.ok hR t p.head b(fun x hx=>hT.sy p hp x(by rw[e];simp[hx]))];exact h
 ·intro X t h;rw[← j0];exact hD.f X t h
 ·intro i p hi t ht ha;have hp:=List.mem_of_getElem? hi;have hh:=hT.hd p hp;have hm:(i:Int)∈ovL p.head t(ps.zip(Q0q hs ps))0:=by
   rw[y6j];exact⟨i,_,x78.2⟨p,hi,rfl⟩,by simp,rfl,by rw[j1 p hp];exact ha⟩
  have h1:=x17(z:=ps.zip(Q0q hs ps))(R:=R)(H:=H)(H+1)0 hcl p.head.toNat t(by omega)(by omega)(by omega)ht;rw[show((p.head.toNat:Nat):Int)=p.head by omega]at h1;unfold chF;generalize ovL p.head t(ps.zip(Q0q hs ps))0=l at hm h1;match l with
  | []=>cases hm
  | [a]=>simp at hm;simp[hm]
  |a::b::r=>simp at h1
 intro X t h0;unfold chF at h0 ⊢;cases hq:ovL X t(ps.zip(Q0q hs ps))0 with
 |nil=>rw[hq]at h0;simp at h0
 |cons a r =>
  have hm:a∈ovL X t(ps.zip(Q0q hs ps))0:=by rw[hq];simp
  rw[y6j]at hm;obtain⟨j,x,h1,h2,h3,h4⟩:=hm;obtain⟨p,h5,rfl⟩:=x78.1 h1;refine⟨p,?_,h3,?_⟩
  ·simp only[];rw[h2];simpa using h5
  rw[← j1 p(List.mem_of_getElem? h5)];exact h4
structure Nd where
 prod:Int
 kind:Int
 place:Int
 size:Int
def ndL:List St->Nat->List Nd
 | [],_=>[]
 |s::l,n=>if s.leaf then⟨-1,s.num,n,0⟩::ndL l(n+1)else⟨s.num,-1,n,0⟩::ndL l n
theorem z7a:∀(l:List St)(n:Nat),(ndL l n).length=l.length
 | [],_=>rfl
 |s::l,n=>by unfold ndL;split<;>simp[z7a l]
def arF(ps:List Pr)(n:Nd):Nat:=if n.prod<0 then 0 else match ps[n.prod.toNat]? with
 |some p=>p.syms.length
 |none=>0
def szL(S:List Nat):Nat->Nat->Nat
 |0,z=>z
 |l+1,z=>match S[z-1]? with
  |some d=>szL S l(z+d)
  |none=>z
def Q1a(ps:List Pr):List Nd->List Nat
 | []=>[]
 |n::l=>szL(Q1a ps l)(arF ps n)1::Q1a ps l
theorem z2r(ps:List Pr):∀l,(Q1a ps l).length=l.length
 | []=>rfl
 |n::l=>by simp[Q1a,z2r ps l]
def Q8b(n:Nd)(z:Nat):Nd:={n with size:=z}
def Q2d(ps:List Pr)(st:List St):List Nd:=List.zipWith Q8b(ndL st 0)(Q1a ps(ndL st 0))
theorem z62(ps:List Pr)(st:List St):(Q2d ps st).length=st.length:=by simp[Q2d,z7a,z2r]
theorem x8m{S:List Nat}(hS:∀j d,S[j]? = some d->1<=d/\j+d<=S.length):∀(l z:Nat),1<=z->z<=S.length+1->1<=szL S l z/\szL S l z<=S.length+1
 |0,z,h1,h2=>⟨h1,h2⟩
 |l+1,z,h1,h2=>by
  unfold szL;cases hq:S[z-1]? with
  |none=>exact⟨h1,h2⟩
  |some d =>
   have:=hS _ _ hq;exact x8m hS l(z+d)(by omega)(by omega)
theorem z9k(ps:List Pr):∀(l:List Nd)(j d:Nat),(Q1a ps l)[j]? = some d->1<=d/\j+d<=l.length
 | [],j,d,h=>by simp[Q1a]at h
 |n::l,0,d,h=>by
  simp only[Q1a,List.getElem?_cons_zero,Option.some.injEq]at h;have:=x8m(S:=Q1a ps l)(fun j d h=>by rw[z2r];exact z9k ps l j d h)(arF ps n)1(by omega)(by omega);rw[z2r]at this;simp only[List.length_cons];omega
 |n::l,j+1,d,h=>by
  simp only[Q1a,List.getElem?_cons_succ]at h;have:=z9k ps l j d h;simp only[List.length_cons];omega
theorem z4f(ps:List Pr):∀(l:List Nd)(i:Nat),(Q1a ps l).drop i=Q1a ps(l.drop i)
 | [],i=>by simp[Q1a]
 |n::l,0=>rfl
 |n::l,i+1=>by simp only[Q1a,List.drop_succ_cons];exact z4f ps l i
theorem x40(ps:List Pr)(l:List Nd)(i:Nat)(hi:i<l.length):(Q1a ps l)[i]? = some(szL((Q1a ps l).drop(i+1))(arF ps l[i])1):=by
 have h1:(Q1a ps l)[i]? = ((Q1a ps l).drop i)[0]? := by simp
 rw[h1,z4f,qC hi,z4f];rfl
def Q57(hs:List Hd)(R:Nat)(k:List Sy):List Bool:=if(Q2u hs k Q0w).2 then Q2g(Q2u hs k Q0w).1 R else(Q2u hs k Q0w).1
def Q7t(ps:List Pr)(hs:List Hd)(H t:Nat)(k:List Sy)(st:List St):List Sy × List St:=(gTo ps(chF hs ps)t(Q22 H k.length)k st).getD(k,st)
structure W0f where
 err:Int
 wanted:List Int
 place:Nat
 st:List St
def Q6q(ps:List Pr)(hs:List Hd)(R H:Nat):List Int->Nat->List Sy->List St->W0f
 | [],a,k,st=>if(Q57 hs R k).getD R false then⟨0,[],0,(Q7t ps hs H R k st).2⟩else⟨10,Q3e(Q57 hs R k),a,[]⟩
 |t::l,a,k,st=>if(Q57 hs R k).getD t.toNat false then Q6q ps hs R H l(a+1)(Q7t ps hs H t.toNat k st).1(Q7t ps hs H t.toNat k st).2 else⟨10,Q3e(Q57 hs R k),a,[]⟩
theorem z3u{R H:Nat}{hs:List Hd}(hok:∀x∈hs,x.ok)(hR:R<=8)(k:List Sy)(hv:∀s∈k,0<=s.num/\s.num<(if s.isH then(H:Int)else R))(t:Nat):(Q57 hs R k).getD t false=Q6s(hN hs)(hF hs)R k t:=by
 have h1:=z68 hok hR t k Q0w rfl hv;rw[z4n,Bool.false_or]at h1;unfold Q57 Q6s;rw[z4u];split
 ·rename_i e;rw[z88(z1a hok _ _ rfl)(by omega)(by omega),h1,e];simp only[Bool.true_and];congr 1;rw[Bool.eq_iff_iff];simp;omega
 rename_i e;have:k.all(Q4a(hN hs))=false:=by simpa using e
 rw[h1,this];simp
theorem y75{hs:List Hd}(hok:∀x∈hs,x.ok)(R:Nat)(k:List Sy):(Q57 hs R k).length=9:=by
 unfold Q57;split
 ·exact z2i(z1a hok _ _ rfl)
 exact z1a hok _ _ rfl
def Nd.cells(n:Nd):List Value:=[.int .i64 n.prod,.int .i64 n.kind,.int .i64 n.place,.int .i64 n.size]
abbrev Q3z(w:World)(base:Nat)(v:Value)(l:List Nd):Prop:=w.ownsRow base 59 4 v l.length(Q01 Nd.cells l)
abbrev ndA(p k a s:Int):Array Value:=#[.int .i64 p,.int .i64 k,.int .i64 a,.int .i64 s]
theorem stoodNd:Tryz.prog.stoodInHeld 59=false:=by kernel_rfl
theorem guardNd:Tryz.prog.eqGuardType Tryz.prog.depth 59=false:=by kernel_rfl
theorem eqNd(d:Nat)(h t a b:Int)(w:World):(Op.equalIn(d+4)59(.agg(ndA h t a b))(.agg(ndA h t a b))).run Tryz.prog w=.ok true w:=by
 rw[run_equalIn_struct w(d+3)_ _ _(by kernel_rfl)stoodNd];have hf : ((Tryz.prog.fieldsOf 59).toList.map fun f => (f.name, f.type, f.offset)) = [("Prod", 3, 0), ("Kind", 3, 1), ("At", 3, 2), ("Size", 3, 3)] := by kernel_rfl
 generalize(Tryz.prog.fieldsOf 59).toList=fs at hf;rcases fs with _|⟨f0,_|⟨f1,_|⟨f2,_|⟨f3,_|⟨f4,fs⟩⟩⟩⟩⟩<;>simp at hf;obtain⟨⟨n0,t0,o0⟩,⟨n1,t1,o1⟩,⟨n2,t2,o2⟩,⟨n3,t3,o3⟩⟩:=hf;simp only[Op.eqFields,n0,t0,o0,n1,t1,o1,n2,t2,o2,n3,t3,o3];simp[partI,run_equalIn_int w(d+2)3 .i64 _ _ _ Tryz.underlying3]
def ldN(v:Value):Sem Value:=Instr.loadAt 59 v
theorem y2m(v:Value):Instr.loadAt 59 v=ldN v:=rfl
theorem szNd:(Tryz.prog.info? 59).map(·.size)=some 4:=by kernel_rfl
theorem x1x{w:World}{g o:Nat}{p k a s:Int}(hr:w.rangeAt g o [.int .i64 p,.int .i64 k,.int .i64 a,.int .i64 s]):(ldN(.pointer(some⟨g,o,none⟩))).run Tryz.prog w=.ok(.agg(ndA p k a s))w :=
 run_loadAt_mid w g o _ _ _ hr Tryz.underlying59 rfl szNd
abbrev NdsAt:=Q2k Nd.cells 4 59
attribute [local go_sem ↓] y2m
def Itm.cells(m:Itm):List Value:=[.int .i64 m.p,.int .i64 m.d,.int .i64 m.f]
abbrev itA(p d f:Int):Array Value:=#[.int .i64 p,.int .i64 d,.int .i64 f]
abbrev ItsAt:=Q2k Itm.cells 3 163
def itEq(a b:Itm):Bool:=a.p==b.p&&(a.d==b.d&&a.f==b.f)
theorem y83(a b:Itm):itEq a b=true↔a=b:=by
 obtain⟨a1,a2,a3⟩:=a;obtain⟨b1,b2,b3⟩:=b;simp[itEq]
def inI(l:List Itm)(m:Itm):Bool:=l.any(itEq · m)
theorem x1u(l:List Itm)(m:Itm):inI l m=true↔m∈l:=by
 unfold inI;rw[List.any_eq_true];constructor
 ·rintro⟨x,hx,e⟩;rw[y83]at e;exact e▸hx
 intro h;exact⟨m,h,(y83 m m).2 rfl⟩
theorem stoodIt:Tryz.prog.stoodInHeld 163=false:=by kernel_rfl
theorem guardIt:Tryz.prog.eqGuardType Tryz.prog.depth 163=false:=by kernel_rfl
theorem szIt:(Tryz.prog.info? 163).map(·.size)=some 3:=by kernel_rfl
theorem eqIt(d:Nat)(a b:Itm)(w:World):(Op.equalIn(d+4)163(.agg(itA a.p a.d a.f))(.agg(itA b.p b.d b.f))).run Tryz.prog w=.ok(itEq a b)w:=by
 obtain⟨a1,a2,a3⟩:=a;obtain⟨b1,b2,b3⟩:=b;rw[run_equalIn_struct w(d+3)_ _ _(by kernel_rfl)stoodIt];have hf : ((Tryz.prog.fieldsOf 163).toList.map fun f => (f.name, f.type, f.offset)) = [("Prod", 3, 0), ("Dot", 3, 1), ("From", 3, 2)] := by kernel_rfl
 generalize(Tryz.prog.fieldsOf 163).toList=fs at hf;rcases fs with _|⟨f0,_|⟨f1,_|⟨f2,_|⟨f3,fs⟩⟩⟩⟩<;>simp at hf;obtain⟨⟨n0,t0,o0⟩,⟨n1,t1,o1⟩,⟨n2,t2,o2⟩⟩:=hf;simp only[Op.eqFields,n0,t0,o0,n1,t1,o1,n2,t2,o2];have k:∀a b:Nat,a≠b->¬((a:Int)=(b:Int)):=fun a b h e=>h(by omega);have k2:∀a b:Nat,a≠b->(a==b)=false:=fun a b h=>by simpa using h
 by_cases e1:a1=b1
 ·subst e1;by_cases e2:a2=b2
  ·subst e2;by_cases e3:a3=b3
   ·subst e3;simp[itEq,partI,run_equalIn_int w(d+2)3 .i64 _ _ _ Tryz.underlying3]
   simp[itEq,k _ _ e3,k2 _ _ e3,partI,run_equalIn_int w(d+2)3 .i64 _ _ _ Tryz.underlying3]
  simp[itEq,k _ _ e2,k2 _ _ e2,partI,run_equalIn_int w(d+2)3 .i64 _ _ _ Tryz.underlying3]
 simp[itEq,k _ _ e1,k2 _ _ e1,partI,run_equalIn_int w(d+2)3 .i64 _ _ _ Tryz.underlying3]
def ldI(v:Value):Sem Value:=Instr.loadAt 163 v
theorem z5j(v:Value):Instr.loadAt 163 v=ldI v:=rfl
theorem z3a{w:World}{g o:Nat}{m:Itm}(hr:w.rangeAt g o m.cells):(ldI(.pointer(some⟨g,o,none⟩))).run Tryz.prog w=.ok(.agg(itA m.p m.d m.f))w :=
 run_loadAt_mid w g o _ _ _ hr Tryz.underlying163 rfl szIt
theorem W0e(w:World)(m:Itm)(t:TypeId):(w.alloc(.cells(itA m.p m.d m.f)t(0,0))).rangeAt w.heap.size 0 m.cells:=fun j v hj=>by
 rw[Q0b(z0a _ _),Nat.zero_add];simpa [Itm.cells]using hj
attribute [local go_sem ↓] z5j
theorem v1f(w:World)(v:Value)(l:List Itm)(m:Itm)(h:ItsAt w v l)(hl:l.length<=100000) :
  Calls Tryz.prog 95#[v,.agg(itA m.p m.d m.f)]w fun e w'=>e=.returned(.bool(inI l m))/\Q0a w w':=by
 obtain⟨ao,cap,hv⟩:=z0d h.own;subst hv;have HA:=hid h;generalize hR:inI l m=RES;unfold inI at hR;have HR:=hid hR;have HN:=hid(W0e w m 163);have j3:Hid(Q0a w(w.alloc(.cells(itA m.p m.d m.f)163(0,0)))):=(mRf _ w).alloc _;clear h hR;go_enter Tryz.func95,Tryz.ntmps95
 go_wp2;go_loopw [5](fun x5 wr=>∃(i:Nat),x5=.int .i64 i/\i<=l.length/\(l.drop i).any(itEq · m)=RES/\∃k,wr=(w.alloc(.cells(itA m.p m.d m.f)163(0,0))).drewN k)
   (fun x _=>100001-(intOf x).toNat)
 case atStart=>exact⟨0,rfl,by omega,HR.out,0,rfl⟩
 obtain⟨i,rfl,hi,hres,k,hfr⟩:=hrel;subst hfr;have j1:Hid(∀k,Q0a w((w.alloc(.cells(itA m.p m.d m.f)163(0,0))).drewN k)):=fun k=>j3.out.trans(Q4b _ k);have j4:=hid(Q2a(B:=100001)i(by omega));by_cases hlt:i<l.length
 ·have j6:(i:Int)<(l.length:Int):=by omega
  rw[qC hlt,List.any_cons]at hres;obtain⟨g,c',hg⟩:=Q1d.ownsRow_form HA.out.own(by omega);rw[qI]at hg;obtain⟨rfl,_,rfl⟩:=hg;have r1:=HA.out.range i hlt;generalize l[i]=li at r1 hres;have l1:∀k,(ldI(.pointer(some⟨g,i*3,none⟩))).run Tryz.prog((w.alloc(.cells(itA m.p m.d m.f)163(0,0))).drewN k)=.ok(.agg(itA li.p li.d li.f))((w.alloc(.cells(itA m.p m.d m.f)163(0,0))).drewN k):=fun k=>z3a(fun j v hj=>Q0j(j1.out k)(r1 j v hj));have l2:∀k,(ldI(.pointer(some⟨w.heap.size,0,none⟩))).run Tryz.prog((w.alloc(.cells(itA m.p m.d m.f)163(0,0))).drewN k)=.ok(.agg(itA m.p m.d m.f))((w.alloc(.cells(itA m.p m.d m.f)163(0,0))).drewN k):=fun k=>z3a(z0t HN.out rfl);have q1:∀w,(Op.equalIn 10000 163(.agg(itA li.p li.d li.f))(.agg(itA m.p m.d m.f))).run Tryz.prog w=.ok(itEq li m)w:=fun w=>eqIt 9996 li m w;have g1:=guardIt;clear r1;generalize itEq li m=bq at hres q1;cases bq
  ·rw[Bool.false_or]at hres;have j0:=hid hres;clear hres;go_wp2_with fail
   go_quiet(fail);go_wp2;go_roundw
   case rel=>exact⟨i+1,by go_num,by omega,j0.out,_,rfl⟩
   exact j4.out
  rw[Bool.true_or]at hres;have j0:=hid hres;clear hres;go_wp2_with fail
  go_quiet(fail);go_wp2;go_ret;exact⟨z0s j0.out,(j1.out _).trans(Q4b _ _)⟩
 have j2:i=l.length:=by omega
 have j5:¬(i:Int)<(l.length:Int):=by omega
 rw[j2,List.drop_length]at hres;have j0:=hid hres;clear hres;go_wp2;go_ret;exact⟨z0s(by rw[← j0.out];rfl),j1.out _⟩
structure FoI(hs1:List Hd)(QO:Int->Nat->Prop)(hs:List Hd):Prop where
 ok:∀x∈hs,x.ok
 kn:Q0o Hd.nul hs1 hs
 kf:Q0o Hd.fi hs1 hs
 kr:Q0o Hd.rch hs1 hs
 ku:Q0o Hd.fru hs1 hs
 o:∀X t,hO hs X t=true->QO X t
theorem x8u{hs hs':List Hd}(h:Q0o Hd.nul hs hs'):hN hs'=hN hs:=funext fun X=>h X
theorem x8s{hs hs':List Hd}(h:Q0o Hd.fi hs hs'):hF hs'=hF hs:=funext fun X=>funext fun t=>by unfold hF;rw[h X]
theorem foSS{QO:Int->Nat->Prop}{R H:Nat}(hR:R<=8){hs1:List Hd}(ph:Int)(syms:List Sy)(hv:∀s∈syms,0<=s.num/\s.num<(if s.isH then(H:Int)else R))
  (hq:∀a s b,syms=a++s::b->s.isH=true->∀t,(Q30(hN hs1)(fun X=>hF hs1 X t)t b=true∨(b.all(Q4a(hN hs1))=true/\QO ph t))->QO s.num t) :
  ∀(l a:List Sy)(hs:List Hd)(g:Bool),syms=a++l->FoI hs1 QO hs->FoI hs1 QO(Q23 ph l hs g).1
 | [],a,hs,g,e,h=>h
 |s::l,a,hs,g,e,h=>by
  unfold Q23;split
  ·exact foSS hR ph syms hv hq l(a++[s])hs g(by rw[e];simp)h
  rename_i c;have c':s.isH=true:=by simpa using c
  refine foSS hR ph syms hv hq l(a++[s])_ _(by rw[e];simp)?_;have j0:=h.ok;have j1:=z3d j0 ph l;refine⟨y57 j0 _⟨(z0k j0 s.num).fi,z04(z0k j0 s.num).fo j1⟩,?_,?_,?_,?_,?_⟩
  ·intro n;rw[z1d];split
   ·rename_i q;rw[q.1];exact h.kn s.num
   exact h.kn n
  ·intro n;rw[z1d];split
   ·rename_i q;rw[q.1];exact h.kf s.num
   exact h.kf n
  ·intro n;rw[z1d];split
   ·rename_i q;rw[q.1];exact h.kr s.num
   exact h.kr n
  ·intro n;rw[z1d];split
   ·rename_i q;rw[q.1];exact h.ku s.num
   exact h.ku n
  intro X t ht;unfold hO at ht;rw[z1d]at ht;split at ht
  ·rename_i q;rw[q.1];unfold Q5q at ht;dsimp only at ht;rw[z3n(by rw[(z0k j0 _).fo,j1])]at ht;simp only[Bool.or_eq_true]at ht;rcases ht with ht|ht
   ·exact h.o _ t ht
   rw[z9i j0 hR t ph l(fun x hx=>hv x(by rw[e];simp[hx])),x8u h.kn,x8s h.kf]at ht;simp only[Bool.or_eq_true,Bool.and_eq_true]at ht;refine hq a s l e c' t ?_;rcases ht with ht|ht
   ·exact .inl ht
   exact .inr⟨ht.1,h.o _ t ht.2⟩
  exact h.o X t ht
theorem foSL{ps:List Pr}{R H:Nat}(hT:Q1c ps R H)(hR:R<=8){QO:Int->Nat->Prop}{hs1:List Hd}
  (hq:∀p∈ps,∀a s b,p.syms=a++s::b->s.isH=true->∀t,(Q30(hN hs1)(fun X=>hF hs1 X t)t b=true∨(b.all(Q4a(hN hs1))=true/\QO p.head t))->QO s.num t) :
  ∀(l:List Pr)(hs:List Hd)(g:Bool),(∀p∈l,p∈ps)->FoI hs1 QO hs->FoI hs1 QO(Q5j l hs g).1
 | [],_,_,_,h=>h
 |p::l,hs,g,hl,h=>foSL hT hR hq l _ _(fun q hq=>hl q(by simp[hq]))(foSS hR p.head p.syms(hT.sy p(hl p(by simp)))(hq p(hl p(by simp)))p.syms []hs g rfl h)
theorem rcRS{QR:Int->Prop}:∀(l:List Sy)(hs:List Hd)(g:Bool),(∀s∈l,s.isH=true->QR s.num)->(∀X,(Q1l hs X).rch=true->QR X)->∀X,(Q1l(Q3j l hs g).1 X).rch=true->QR X
 | [],hs,g,_,h=>h
 |s::l,hs,g,hq,h=>by
  unfold Q3j;split
  ·exact rcRS l hs g(fun x hx=>hq x(by simp[hx]))h
  rename_i c;refine rcRS l _ _(fun x hx=>hq x(by simp[hx]))?_;intro X hX;rw[z1d]at hX;split at hX
  ·rename_i e;rw[e.1];exact hq s(by simp)(by simpa using c)
  exact h X hX
theorem rcRL{ps:List Pr}{QR:Int->Prop}(hq:∀p∈ps,QR p.head->∀s∈p.syms,s.isH=true->QR s.num):∀(l:List Pr)(hs:List Hd)(g:Bool),(∀p∈l,p∈ps)->(∀X,(Q1l hs X).rch=true->QR X)->∀X,(Q1l(Q3r l hs g).1 X).rch=true->QR X
 | [],_,_,_,h=>h
 |p::l,hs,g,hl,h=>by
  unfold Q3r;split
  ·exact rcRL hq l hs g(fun q hq=>hl q(by simp[hq]))h
  rename_i c;exact rcRL hq l _ _(fun q hq=>hl q(by simp[hq]))(rcRS p.syms hs g(hq p(hl p(by simp))(h _(by simpa using c)))h)
theorem fuFL{ps:List Pr}{QU:Int->Prop}(hq:∀p∈ps,(∀s∈p.syms,s.isH=true->QU s.num)->QU p.head):∀(l:List Pr)(hs:List Hd)(g:Bool),(∀p∈l,p∈ps)->(∀X,(Q1l hs X).fru=true->QU X)->∀X,(Q1l(Q47 l hs g).1 X).fru=true->QU X
 | [],_,_,_,h=>h
 |p::l,hs,g,hl,h=>by
  unfold Q47;refine fuFL hq l _ _(fun q hq=>hl q(by simp[hq]))?_;intro X hX;unfold Q4t at hX;rw[z1d]at hX;split at hX
  ·rename_i e;dsimp only at hX;rw[Bool.or_eq_true]at hX;rw[e.1];rcases hX with hX|hX
   ·exact h _ hX
   refine hq p(hl p(by simp))(fun s hs1 hs2=>h _ ?_);unfold Q43 at hX;rw[List.all_eq_true]at hX;have:=hX s hs1;unfold fruB at this;rw[hs2]at this;simpa using this
  exact h X hX
theorem x7i{ps:List Pr}{R H:Nat}(hT:Q1c ps R H)(hR:R<=8){QO:Int->Nat->Prop}{QR QU:Int->Prop}
  (q0:QO 0 R)(qo:∀p∈ps,∀a s b,p.syms=a++s::b->s.isH=true->∀t,(Q30(hN(Q34 ps(Q0x R H)))(fun X=>hF(Q34 ps(Q0x R H))X t)t b=true∨(b.all(Q4a(hN(Q34 ps(Q0x R H))))=true/\QO p.head t))->QO s.num t)
  (qr0:QR 0)(qr:∀p∈ps,QR p.head->∀s∈p.syms,s.isH=true->QR s.num)(qu:∀p∈ps,(∀s∈p.syms,s.isH=true->QU s.num)->QU p.head) :
  (∀X t,hO(Q34 ps(Q0x R H))X t=true->QO X t)/\(∀X,(Q1l(Q34 ps(Q0x R H))X).rch=true->QR X)/\(∀X,(Q1l(Q34 ps(Q0x R H))X).fru=true->QU X):=by
 have j1:=z79(R:Int)H;have hz:∀n,(Q1l(Q0x(R:Int)H)n).fru=false/\((Q1l(Q0x(R:Int)H)n).rch=true->n=0)/\(∀t,(Q1l(Q0x(R:Int)H)n).fo.getD t false=true->n=0/\t=R):=fun n=>by
  rw[z31];split
  ·rename_i e;unfold Q5e;split
   ·rename_i e0;refine⟨rfl,fun _=>by omega,fun t ht=>?_⟩;dsimp only at ht;rw[z88 rfl(by omega)(by omega),z4n]at ht;simp at ht;omega
   refine⟨rfl,fun q=>(by cases q),fun t ht=>?_⟩;have:Q15.fo=Q0w:=rfl;rw[this,z4n]at ht;cases ht
  refine⟨rfl,fun q=>(by cases q),fun t ht=>?_⟩;have:Q15.fo=Q0w:=rfl;rw[this,z4n]at ht;cases ht
 obtain⟨⟨kr1,ku1,ko1⟩,ok1,_,_⟩:=z1n(z2u ps)(I:=fun hs=>Q0o Hd.rch(Q0x(R:Int)H)hs/\Q0o Hd.fru(Q0x(R:Int)H)hs/\Q0o Hd.fo(Q0x(R:Int)H)hs)
  (fun hs _ h=>⟨h.1.trans(z1s(fun _ _ _=>rfl)ps hs false),h.2.1.trans(z1s(fun _ _ _=>rfl)ps hs false),h.2.2.trans(z1s(fun _ _ _=>rfl)ps hs false)⟩)j1⟨Q0o.refl _ _,Q0o.refl _ _,Q0o.refl _ _⟩
 have j0:Q34 ps(Q0x(R:Int)H)=Q44(Q72 ps)(Q44(Q6z ps)(Q44(Q5n ps)(Q44(Q8f ps)(Q0x(R:Int)H)))):=rfl;generalize hq1:Q44(Q8f ps)(Q0x(R:Int)H)=hs1 at kr1 ku1 ko1 ok1 j0;-- what later steps keep
 have k2:=z1n(z2b ps)(I:=fun hs=>Q0o Hd.nul hs1 hs/\Q0o Hd.fi hs1 hs)(fun hs _ h=>⟨h.1.trans(z1f(fun _ _=>rfl)ps hs false),h.2.trans(z1f(fun _ _=>rfl)ps hs false)⟩)ok1⟨Q0o.refl _ _,Q0o.refl _ _⟩;obtain⟨⟨kn2,kf2⟩,ok2,_,_⟩:=k2;obtain⟨⟨kn3,kf3,ko3,ku3⟩,ok3,_,_⟩:=z1n(z2c ps)(I:=fun hs=>Q0o Hd.nul(Q44(Q5n ps)hs1)hs/\Q0o Hd.fi(Q44(Q5n ps)hs1)hs/\Q0o Hd.fo(Q44(Q5n ps)hs1)hs/\Q0o Hd.fru(Q44(Q5n ps)hs1)hs)(fun hs _ h=>⟨h.1.trans(z0x(fun _ _=>rfl)ps hs false),h.2.1.trans(z0x(fun _ _=>rfl)ps hs false),h.2.2.1.trans(z0x(fun _ _=>rfl)ps hs false),h.2.2.2.trans(z0x(fun _ _=>rfl)ps hs false)⟩)ok2⟨Q0o.refl _ _,Q0o.refl _ _,Q0o.refl _ _,Q0o.refl _ _⟩;obtain⟨⟨kn4,kf4,ko4,kr4⟩,ok4,_,_⟩:=z1n(z2a ps)(I:=fun hs=>Q0o Hd.nul(Q44(Q6z ps)(Q44(Q5n ps)hs1))hs/\Q0o Hd.fi(Q44(Q6z ps)(Q44(Q5n ps)hs1))hs/\Q0o Hd.fo(Q44(Q6z ps)(Q44(Q5n ps)hs1))hs/\Q0o Hd.rch(Q44(Q6z ps)(Q44(Q5n ps)hs1))hs)(fun hs _ h=>⟨h.1.trans(z01(fun _ _=>rfl)ps hs false),h.2.1.trans(z01(fun _ _=>rfl)ps hs false),h.2.2.1.trans(z01(fun _ _=>rfl)ps hs false),h.2.2.2.trans(z01(fun _ _=>rfl)ps hs false)⟩)ok3⟨Q0o.refl _ _,Q0o.refl _ _,Q0o.refl _ _,Q0o.refl _ _⟩;rw[← j0]at kn4 kf4 ko4 kr4 ok4;have eN:hN(Q34 ps(Q0x(R:Int)H))=hN hs1:=x8u((kn2.trans kn3).trans kn4);have eF:hF(Q34 ps(Q0x(R:Int)H))=hF hs1:=x8s((kf2.trans kf3).trans kf4);rw[eN,eF]at qo;have i1:FoI hs1 QO hs1:=⟨ok1,Q0o.refl _ _,Q0o.refl _ _,Q0o.refl _ _,Q0o.refl _ _,fun X t h=>by
  unfold hO at h;rw[ko1 X]at h;obtain⟨e1,e2⟩:=(hz X).2.2 t h;rw[e1,e2];exact q0⟩
 obtain⟨i2,_,_,_⟩:=z1n(z2b ps)(I:=FoI hs1 QO)(fun hs _ h=>foSL hT hR qo ps hs false(fun _ hp=>hp)h)ok1 i1;have r2:∀X,(Q1l(Q44(Q5n ps)hs1)X).rch=true->QR X:=fun X h=>by
  rw[i2.kr X,kr1 X]at h;rw[(hz X).2.1 h];exact qr0
 obtain⟨r3,_,_,_⟩:=z1n(z2c ps)(I:=fun hs=>∀X,(Q1l hs X).rch=true->QR X)(fun hs _ h=>rcRL qr ps hs false(fun _ hp=>hp)h)ok2 r2;have u3:∀X,(Q1l(Q44(Q6z ps)(Q44(Q5n ps)hs1))X).fru=true->QU X:=fun X h=>by
  rw[ku3 X,i2.ku X,ku1 X,(hz X).1]at h;cases h
 obtain⟨u4,_,_,_⟩:=z1n(z2a ps)(I:=fun hs=>∀X,(Q1l hs X).fru=true->QU X)(fun hs _ h=>fuFL qu ps hs false(fun _ hp=>hp)h)ok3 u3;rw[← j0]at u4;refine⟨fun X t h=>i2.o X t ?_,fun X h=>r3 X ?_,u4⟩
 ·unfold hO at h ⊢;rw[ko4 X,ko3 X]at h;exact h
 rw[kr4 X]at h;exact h
end Go.Proofs.YtcpceafmlgaodaaGreat
