import Derived.Test.YtcpceafmlgaodaaGreatRm3
namespace Go.Proofs.YtcpceafmlgaodaaGreat
open Go.RowKit
set_option linter.unusedVariables false
set_option linter.unusedSimpArgs false
theorem y2g{α:Type}{P:List α->α->List α->Prop}(l:List α):(∃k,∃h:k<l.length,P(l.take k)l[k](l.drop(k+1)))↔∃a s b,l=a++s::b/\P a s b:=by
 constructor
 ·rintro⟨k,h,hp⟩;refine⟨l.take k,l[k],l.drop(k+1),?_,hp⟩;rw[← qC h,List.take_append_drop]
 rintro⟨a,s,b,e,hp⟩;have hl:a.length<l.length:=by rw[e];simp
 refine⟨a.length,hl,?_⟩;have e1:l.take a.length=a:=by rw[e];simp
 have e2:l[a.length]=s:=by
  have:l[a.length]? = some s:=by rw[e];simp
  rw[qE hl]at this;injection this
 have e3:l.drop(a.length+1)=b:=by rw[e];simp
 rw[e1,e2,e3];exact hp
theorem y8v{α β:Type}(f:α->β)(l:List α)(k:Nat)(d:β)(h:k<l.length):(l.map f).getD k d=f l[k]:=by
 rw[qD,List.getElem?_map,qE h];rfl
section
variable{ps:List Pr}{R H:Nat}{null:List Bool}
def bs(R:Nat):Int:=(R:Int)+1
theorem y21(P:Pr->List Sy->Sy->List Sy->Prop){C:Q1->Nat->Prop}(hC:∀p∈ps,∀(k:Nat)(h:k<p.syms.length),C(p.head,p.syms.map(Q0v R))k↔P p(p.syms.take k)p.syms[k](p.syms.drop(k+1))) :
  (∃z∈Q0e R ps,∃k,k<z.2.length/\C z k)↔∃p∈ps,∃a s b,p.syms=a++s::b/\P p a s b:=by
 constructor
 ·rintro⟨z,hz,k,hk,hc⟩;unfold Q0e at hz;rw[List.mem_map]at hz;obtain⟨p,hp,rfl⟩:=hz;have j0:k<p.syms.length:=by simpa using hk
  exact⟨p,hp,(y2g(P:=P p)p.syms).1⟨k,j0,(hC p hp k j0).1 hc⟩⟩
 rintro⟨p,hp,h⟩;obtain⟨k,hk,hc⟩:=(y2g(P:=P p)p.syms).2 h;exact⟨(p.head,p.syms.map(Q0v R)),by unfold Q0e;exact List.mem_map.2⟨p,hp,rfl⟩,k,by simpa using hk,(hC p hp k hk).2 hc⟩
theorem z7b(hT:Q1c ps R H){p:Pr}(hp:p∈ps){s:Sy}(hs:s∈p.syms):0<=Q0v R s/\Q0v R s<(R:Int)+1+H:=by
 have hv:=hT.sy p hp s hs;cases hb:s.isH
 ·rw[hb,if_neg(by simp)]at hv;rw[z36 hb];omega
 rw[hb,if_pos rfl]at hv;have:=z1p(R:=R)hb;omega
theorem v03(p:Pr)(k:Nat):((p.head,p.syms.map(Q0v R)):Q1).2.take k=(p.syms.take k).map(Q0v R):=(List.map_take).symm
theorem x8q(p:Pr)(k:Nat):((p.head,p.syms.map(Q0v R)):Q1).2.drop k=(p.syms.drop k).map(Q0v R):=(List.map_drop).symm
theorem y6r(p:Pr){k:Nat}(h:k<p.syms.length):((p.head,p.syms.map(Q0v R)):Q1).2.getD k 0=Q0v R p.syms[k]:=y8v _ _ _ _ h
theorem v00(hT:Q1c ps R H){p:Pr}(hp:p∈ps)(k:Nat):∀s∈p.syms.take k,0<=s.num/\s.num<(if s.isH then(H:Int)else R):=fun s hs=>hT.sy p hp s(List.mem_of_mem_take hs)
theorem x2m(hT:Q1c ps R H){p:Pr}(hp:p∈ps)(k:Nat):∀s∈p.syms.drop k,0<=s.num/\s.num<(if s.isH then(H:Int)else R):=fun s hs=>hT.sy p hp s(List.mem_of_mem_drop hs)
def ldZc(R:Nat)(null:List Bool)(z:Q1)(k:Nat):Bool:=Q4e(bs R)null(z.2.take k)
def ldX(R:Nat)(z:Q1):Nat:=(bs R+z.1).toNat
def Q96(z:Q1)(k:Nat):Nat:=(z.2.getD k 0).toNat
def ld0(R H:Nat)(null:List Bool)(q:List Q1):Mat:=cdI(ldZc R null)(ldX R)Q96 q(sqF(R+1+H))
def ldF(R H:Nat)(null:List Bool)(q:List Q1):Mat:=Q5k(ld0 R H null q)
theorem v1s(hT:Q1c ps R H)(hn:Q7c ps H null):Sq(R+1+H)(ld0 R H null(Q0e R ps))/\relM(ld0 R H null(Q0e R ps))=Ld ps R(NS ps H):=by
 obtain⟨c1,c2⟩:=y7t(n:=R+1+H)(c:=ldZc R null)(x:=ldX R)(y:=Q96)(Q0e R ps)(sqF(R+1+H))(y1c _)(by
  intro z hz;unfold Q0e at hz;rw[List.mem_map]at hz;obtain⟨p,hp,rfl⟩:=hz;have h1:=hT.hd p hp;refine⟨by unfold ldX bs;dsimp only;omega,fun k hk _=>?_⟩;have j1:k<p.syms.length:=by simpa using hk
  unfold Q96;rw[y6r p j1];have:=z7b hT hp(List.getElem_mem j1);omega)
 refine⟨c1,?_⟩;funext i j;apply propext;unfold relM ld0;rw[c2,x4u];have j0:=y21(ps:=ps)(R:=R)(fun p a s b=>a.all(Q4a(NS ps H))=true/\i.toNat=(bs R+p.head).toNat/\j.toNat=(Q0v R s).toNat)(C:=fun z k=>ldZc R null z k=true/\i.toNat=ldX R z/\j.toNat=Q96 z k)(fun p hp k hk=>by
  unfold ldZc ldX Q96;rw[v03,y6r p hk];unfold bs;rw[y2r hn(v00 hT hp k)])
 constructor
 ·rintro⟨h0,h1,h|h⟩
  ·cases h
  obtain⟨p,hp,a,s,b,e,ha,e1,e2⟩:=j0.1 h;have g1:=hT.hd p hp;have g2:=z7b hT hp(s:=s)(by rw[e];simp);unfold bs at e1;exact⟨p,hp,by omega,a,s,b,e,ha,by omega⟩
 rintro⟨p,hp,e1,a,s,b,e,ha,e2⟩;have g1:=hT.hd p hp;have g2:=z7b hT hp(s:=s)(by rw[e];simp);exact⟨by omega,by omega,.inr(j0.2⟨p,hp,a,s,b,e,ha,by unfold bs;omega,by omega⟩)⟩
theorem v1g(hT:Q1c ps R H)(hn:Q7c ps H null):Sq(R+1+H)(ldF R H null(Q0e R ps))/\∀c t:Nat,atM(ldF R H null(Q0e R ps))c t=true↔TC(Ld ps R(NS ps H))c t:=by
 obtain⟨h1,h2⟩:=v1s hT hn;have:=y0c h1;rw[h2]at this;exact this
theorem v1q(hT:Q1c ps R H){N:Int->Bool}{t:Nat}:∀(n:Nat)(X:Int),FS ps N t n X=true->t<R
 |0,X,h=>by cases h
 |n+1,X,h=>by
  unfold FS at h;rw[List.any_eq_true]at h;obtain⟨p,hp,h⟩:=h;rw[Bool.and_eq_true]at h;obtain⟨a,s,b,e,ha,hs⟩:=z1q h.2;have hv:=hT.sy p hp s(by rw[e];simp);cases hb:s.isH
  ·rw[hb,if_neg(by simp)]at hv;rw[hb,if_neg(by simp),beq_iff_eq]at hs;omega
  rw[hb,if_pos rfl]at hs;exact v1q hT n _ hs
theorem v1r(hT:Q1c ps R H){N:Int->Bool}{t:Nat}{l:List Sy}(hv:∀s∈l,0<=s.num/\s.num<(if s.isH then(H:Int)else R))(h:Q30 N(fun X=>FS ps N t H X)t l=true):t<R:=by
 obtain⟨a,s,b,e,ha,hs⟩:=z1q h;have j0:=hv s(by rw[e];simp);cases hb:s.isH
 ·rw[hb,if_neg(by simp)]at j0;rw[hb,if_neg(by simp),beq_iff_eq]at hs;omega
 rw[hb,if_pos rfl]at hs;exact v1q hT H _ hs
def fiF(R H:Nat)(null:List Bool)(q:List Q1)(l:List Int):List Bool:=firF(bs R)null(ldF R H null q)R l
theorem v1v(hT:Q1c ps R H)(hn:Q7c ps H null){l:List Sy}(hv:∀s∈l,0<=s.num/\s.num<(if s.isH then(H:Int)else R)) :
  (fiF R H null(Q0e R ps)(l.map(Q0v R))).length=R+1/\∀u,(fiF R H null(Q0e R ps)(l.map(Q0v R))).getD u false=Q30(NS ps H)(fun X=>FS ps(NS ps H)u H X)u l:=by
 obtain⟨f1,f2⟩:=x8o(base:=bs R)(null:=null)(L:=ldF R H null(Q0e R ps))(R:=R)(l:=l.map(Q0v R))(l.map(Q0v R)).length 0(List.replicate(R+1)false)(by simp);refine⟨f1,fun u=>?_⟩;unfold fiF firF;rw[Bool.eq_iff_iff,f2];have hz:¬(List.replicate(R+1)false).getD u false=true:=by
  rw[qD];by_cases h:u<R+1
  ·simp[h]
  simp[h]
 have hL:=(v1g hT hn).2;have j0:u<R->((∃k,0<=k/\k<0+(l.map(Q0v R)).length/\Q4e(bs R)null((l.map(Q0v R)).take k)=true/\((l.map(Q0v R)).getD k 0=u∨atM(ldF R H null(Q0e R ps))((l.map(Q0v R)).getD k 0).toNat u=true))↔Q30(NS ps H)(fun X=>FS ps(NS ps H)u H X)u l=true):=by
  intro hu;rw[x9n hT hu hv,← y2g(P:=fun a s b=>a.all(Q4a(NS ps H))=true/\(Q0v R s=u∨TC(Ld ps R(NS ps H))(Q0v R s)u))];have each:∀(k:Nat)(h:k<l.length),(Q4e(bs R)null((l.map(Q0v R)).take k)=true/\((l.map(Q0v R)).getD k 0=u∨atM(ldF R H null(Q0e R ps))((l.map(Q0v R)).getD k 0).toNat u=true))↔((l.take k).all(Q4a(NS ps H))=true/\(Q0v R l[k]=u∨TC(Ld ps R(NS ps H))(Q0v R l[k])u)):=fun k h=>by
   have j1:=hv l[k](List.getElem_mem h);have j2:0<=Q0v R l[k]:=by
    cases hb:l[k].isH
    ·rw[z36 hb];exact j1.1
    have:=z1p(R:=R)hb;omega
   rw[← List.map_take,y8v _ _ _ _ h,hL,show(((Q0v R l[k]).toNat:Nat):Int)=Q0v R l[k]by omega];unfold bs;rw[y2r hn(fun s hs=>hv s(List.mem_of_mem_take hs))]
  constructor
  ·rintro⟨k,_,h1,h2⟩;have h:k<l.length:=by simpa using h1
   exact⟨k,h,(each k h).1 h2⟩
  rintro⟨k,h,h2⟩;exact⟨k,by omega,by simpa using h,(each k h).2 h2⟩
 constructor
 ·rintro(h|⟨hu,h⟩)
  ·exact absurd h hz
  exact(j0 hu).1 h
 intro h;have hu:=v1r hT hv h;exact .inr⟨hu,(j0 hu).2 h⟩
def laC(R:Nat)(null:List Bool)(z:Q1)(k:Nat):Bool:=decide(0<=z.2.getD k 0-bs R)&&Q4e(bs R)null(z.2.drop(k+1))
def laX(z:Q1):Nat:=z.1.toNat
def laY(R:Nat)(z:Q1)(k:Nat):Nat:=(z.2.getD k 0-bs R).toNat
def la0(R H:Nat)(null:List Bool)(q:List Q1):Mat:=cdI(laC R null)laX(laY R)q(sqF H)
def laF(R H:Nat)(null:List Bool)(q:List Q1):Mat:=Q5k(la0 R H null q)
theorem z6e(hT:Q1c ps R H){p:Pr}(hp:p∈ps){s:Sy}(hs:s∈p.syms):0<=Q0v R s-bs R↔s.isH=true:=by
 have hv:=hT.sy p hp s hs;unfold bs;cases hb:s.isH
 ·rw[hb,if_neg(by simp)]at hv;rw[z36 hb];exact⟨fun h=>by omega,fun h=>by cases h⟩
 rw[z1p hb];exact⟨fun _=>rfl,fun _=>hv.1⟩
theorem v16(hT:Q1c ps R H)(hn:Q7c ps H null):Sq H(laF R H null(Q0e R ps))/\∀a b:Nat,atM(laF R H null(Q0e R ps))a b=true↔TC(Ls ps(NS ps H))a b:=by
 have j1:Sq H(la0 R H null(Q0e R ps))/\relM(la0 R H null(Q0e R ps))=Ls ps(NS ps H):=by
  obtain⟨c1,c2⟩:=y7t(n:=H)(c:=laC R null)(x:=laX)(y:=laY R)(Q0e R ps)(sqF H)(y1c _)(by
   intro z hz;unfold Q0e at hz;rw[List.mem_map]at hz;obtain⟨p,hp,rfl⟩:=hz;have h1:=hT.hd p hp;refine⟨by unfold laX;dsimp only;omega,fun k hk _=>?_⟩;have j2:k<p.syms.length:=by simpa using hk
   unfold laY;rw[y6r p j2];have:=z7b hT hp(List.getElem_mem j2);unfold bs;omega)
  refine⟨c1,?_⟩;funext i j;apply propext;unfold relM la0;rw[c2,x4u];have j0:=y21(ps:=ps)(R:=R)(fun p a s b=>(0<=Q0v R s-bs R/\b.all(Q4a(NS ps H))=true)/\i.toNat=p.head.toNat/\j.toNat=(Q0v R s-bs R).toNat)(C:=fun z k=>laC R null z k=true/\i.toNat=laX z/\j.toNat=laY R z k)(fun p hp k hk=>by
   unfold laC laX laY;rw[x8q,y6r p hk,Bool.and_eq_true,decide_eq_true_eq];have:=y2r hn(x2m hT hp(k+1));unfold bs;rw[this])
  constructor
  ·rintro⟨h0,h1,h|h⟩
   ·cases h
   obtain⟨p,hp,a,s,b,e,⟨e0,ha⟩,e1,e2⟩:=j0.1 h;have g1:=hT.hd p hp;have hs:s∈p.syms:=by rw[e];simp
   have hb:=(z6e hT hp hs).1 e0;have g3:=z1p(R:=R)hb;unfold bs at e0 e2;exact⟨p,hp,by omega,a,s,b,e,hb,by omega,ha⟩
  rintro⟨p,hp,e1,a,s,b,e,hb,e2,ha⟩;have g1:=hT.hd p hp;have hs:s∈p.syms:=by rw[e];simp
  have e0:=(z6e hT hp hs).2 hb;have g3:=z1p(R:=R)hb;have hv:=hT.sy p hp s hs;exact⟨by omega,by omega,.inr(j0.2⟨p,hp,a,s,b,e,⟨e0,ha⟩,by rw[e1],by unfold bs;omega⟩)⟩
 have:=y0c j1.1;rw[j1.2]at this;exact this
def reC(R:Nat)(z:Q1)(k:Nat):Bool:=decide(0<=z.2.getD k 0-bs R)
def re0(R H:Nat)(q:List Q1):Mat:=cdI(reC R)laX(laY R)q(sqF H)
def reF(R H:Nat)(q:List Q1):Mat:=Q5k(re0 R H q)
theorem v13(hT:Q1c ps R H):Sq H(reF R H(Q0e R ps))/\∀a b:Nat,atM(reF R H(Q0e R ps))a b=true↔TC(Rc ps)a b:=by
 have j1:Sq H(re0 R H(Q0e R ps))/\relM(re0 R H(Q0e R ps))=Rc ps:=by
  obtain⟨c1,c2⟩:=y7t(n:=H)(c:=reC R)(x:=laX)(y:=laY R)(Q0e R ps)(sqF H)(y1c _)(by
   intro z hz;unfold Q0e at hz;rw[List.mem_map]at hz;obtain⟨p,hp,rfl⟩:=hz;have h1:=hT.hd p hp;refine⟨by unfold laX;dsimp only;omega,fun k hk _=>?_⟩;have j2:k<p.syms.length:=by simpa using hk
   unfold laY;rw[y6r p j2];have:=z7b hT hp(List.getElem_mem j2);unfold bs;omega)
  refine⟨c1,?_⟩;funext i j;apply propext;unfold relM re0;rw[c2,x4u];have j0:=y21(ps:=ps)(R:=R)(fun p a s b=>0<=Q0v R s-bs R/\i.toNat=p.head.toNat/\j.toNat=(Q0v R s-bs R).toNat)(C:=fun z k=>reC R z k=true/\i.toNat=laX z/\j.toNat=laY R z k)(fun p hp k hk=>by
   unfold reC laX laY;rw[y6r p hk,decide_eq_true_eq])
  constructor
  ·rintro⟨h0,h1,h|h⟩
   ·cases h
   obtain⟨p,hp,a,s,b,e,e0,e1,e2⟩:=j0.1 h;have g1:=hT.hd p hp;have hs:s∈p.syms:=by rw[e];simp
   have hb:=(z6e hT hp hs).1 e0;have g3:=z1p(R:=R)hb;unfold bs at e0 e2;exact⟨p,hp,by omega,s,hs,hb,by omega⟩
  rintro⟨p,hp,e1,s,hs,hb,e2⟩;have g1:=hT.hd p hp;have e0:=(z6e hT hp hs).2 hb;have g3:=z1p(R:=R)hb;have hv:=hT.sy p hp s hs;obtain⟨a,b,e⟩:=List.append_of_mem hs;exact⟨by omega,by omega,.inr(j0.2⟨p,hp,a,s,b,e,e0,by rw[e1],by unfold bs;omega⟩)⟩
 have:=y0c j1.1;rw[j1.2]at this;exact this
def nxC(R:Nat)(head:Int)(z:Q1)(k:Nat):Bool:=z.2.getD k 0==bs R+head
def nxG(R H:Nat)(null:List Bool)(q:List Q1)(z:Q1)(k:Nat):List Bool:=fiF R H null q(z.2.drop(k+1))
def nxF(R H:Nat)(null:List Bool)(q:List Q1)(head:Int):List Bool:=orQ(R+1)(nxC R head)(nxG R H null q)q((List.replicate(R+1)false).set R(head==0))
theorem x91(hT:Q1c ps R H)(hn:Q7c ps H null){h:Int}(hh:0<=h):(nxF R H null(Q0e R ps)h).length=R+1/\∀t,t<R+1->((nxF R H null(Q0e R ps)h).getD t false=true↔Nx ps R(NS ps H)(fun X t=>FS ps(NS ps H)t H X)h t):=by
 obtain⟨q1,q2⟩:=x5a(n:=R+1)(c:=nxC R h)(g:=nxG R H null(Q0e R ps))(Q0e R ps)((List.replicate(R+1)false).set R(h==0))(by simp);refine⟨q1,fun t ht=>?_⟩;unfold nxF;rw[q2 t ht,z13 _ _ _ _ _(by simp)];have j0:=y21(ps:=ps)(R:=R)(fun p a s b=>Q0v R s=bs R+h/\Q30(NS ps H)(fun X=>FS ps(NS ps H)t H X)t b=true)(C:=fun z k=>nxC R h z k=true/\(nxG R H null(Q0e R ps)z k).getD t false=true)(fun p hp k hk=>by
  unfold nxC nxG;rw[x8q,y6r p hk,beq_iff_eq,(v1v hT hn(x2m hT hp(k+1))).2])
 rw[j0];unfold Nx;refine or_congr ?_ ?_
 ·by_cases e:t=R
  ·rw[if_pos e,beq_iff_eq];exact⟨fun q=>⟨q,e⟩,fun q=>q.1⟩
  rw[if_neg e];refine⟨fun q=>?_,fun q=>absurd q.2 e⟩;rw[qD]at q;simp[ht]at q
 constructor
 ·rintro⟨p,hp,a,s,b,e,e1,e2⟩;have hs:s∈p.syms:=by rw[e];simp
  have hb:=(z6e hT hp hs).1(by omega);have g3:=z1p(R:=R)hb;unfold bs at e1;exact⟨p,hp,a,s,b,e,hb,by omega,e2⟩
 rintro⟨p,hp,a,s,b,e,hb,e1,e2⟩;have g3:=z1p(R:=R)hb;exact⟨p,hp,a,s,b,e,by unfold bs;omega,e2⟩
def foF(R H:Nat)(null:List Bool)(q:List Q1)(head:Nat):List Bool:=orJ(R+1)(fun h=>atM(laF R H null q)h head)(fun h=>nxF R H null q h)H 0(nxF R H null q head)
theorem v2c(hT:Q1c ps R H)(hn:Q7c ps H null)(h:Nat):(foF R H null(Q0e R ps)h).length=R+1/\∀t,t<R+1->((foF R H null(Q0e R ps)h).getD t false=true↔Fo ps R(NS ps H)(fun X t=>FS ps(NS ps H)t H X)h t):=by
 obtain⟨n1,n2⟩:=x91 hT hn(h:=(h:Int))(by omega);obtain⟨q1,q2⟩:=y81(n:=R+1)(c:=fun k=>atM(laF R H null(Q0e R ps))k h)(g:=fun k=>nxF R H null(Q0e R ps)k)H 0(nxF R H null(Q0e R ps)h)n1;refine⟨q1,fun t ht=>?_⟩;unfold foF;rw[q2 t ht,n2 t ht];unfold Fo;refine or_congr Iff.rfl ?_;have la:=v16 hT hn;constructor
 ·rintro⟨k,_,_,h1,h2⟩;exact⟨k,(la.2 k h).1 h1,((x91 hT hn(h:=(k:Int))(by omega)).2 t ht).1 h2⟩
 rintro⟨k,h1,h2⟩;have hk:∃m:Nat,k=m:=by
  obtain⟨n,hp⟩:=h1;have:∃p∈ps,p.head=k:=by
   cases n with
   |zero=>obtain⟨p,hp,e,_⟩:=hp;exact⟨p,hp,e⟩
   |succ n=>obtain⟨_,⟨p,hp,e,_⟩,_⟩:=hp;exact⟨p,hp,e⟩
  obtain⟨p,hp,e⟩:=this;have:=hT.hd p hp;exact⟨k.toNat,by omega⟩
 obtain⟨m,rfl⟩:=hk;have j0:=(la.2 m h).2 h1;have:=la.1.atM_lt j0;exact⟨m,by omega,by omega,j0,((x91 hT hn(h:=(m:Int))(by omega)).2 t ht).2 h2⟩
end
structure Q8r(u:ByteArray)(x:Int)(m:Nat):Prop where
 pos:1<=m
 le:m<=8
 first:Q0n(atB u x)=true∨Q1n(atB u x)=true
 rest:∀k:Nat,1<=k->k<m->Q0n(atB u(x+k))=true
 stop:Q0n(atB u(x+m))=false
theorem y3g{c:Int}(h:Q1n c=true):Q0n c=false:=by
 unfold Q1n at h;unfold Q0n;rw[Bool.and_eq_true,decide_eq_true_eq,decide_eq_true_eq]at h;rw[Bool.and_eq_false_iff,decide_eq_false_iff_not,decide_eq_false_iff_not];omega
theorem y00(s:ByteArray):∀(f:Nat)(x:Int),(s.size:Int)+1<=f+x->(∀k:Nat,k<Q6l s f x->Q0n(atB s(x+k))=true)/\Q0n(atB s(x+Q6l s f x))=false
 |0,x,h=>by
  refine⟨fun k hk=>by simp[Q6l]at hk,?_⟩;rw[z19(by simp[Q6l];omega)];decide
 |f+1,x,h=>by
  rw[y6l];by_cases c:Q0n(atB s x)=true
  ·rw[if_pos c];obtain⟨h1,h2⟩:=y00 s f(x+1)(by omega);refine⟨fun k hk=>?_,?_⟩
   ·cases k with
    |zero=>simpa using c
    |succ k =>
     have:=h1 k(by omega);rw[show x+((k+1:Nat):Int)=x+1+k by omega];exact this
   rw[show x+((Q6l s f(x+1)+1:Nat):Int)=x+1+Q6l s f(x+1)by omega];exact h2
  rw[if_neg c];refine⟨fun k hk=>by omega,by simpa using c⟩
theorem z4x(s:ByteArray){x:Int}(h0:0<=x):(∀k:Nat,k<Q4c s x->Q0n(atB s(x+k))=true)/\Q0n(atB s(x+Q4c s x))=false:=y00 s _ x(by omega)
theorem y2p{s:ByteArray}{x:Int}{m:Nat}(h0:0<=x)(h:∀k:Nat,k<m->Q0n(atB s(x+k))=true)(hs:Q0n(atB s(x+m))=false):Q4c s x=m:=by
 obtain⟨h1,h2⟩:=z4x s h0;rcases Nat.lt_trichotomy(Q4c s x)m with q|q|q
 ·rw[h _ q]at h2;cases h2
 ·exact q
 rw[h1 m q]at hs;cases hs
theorem z97{u:ByteArray}{x:Int}(h0:0<=x)(h:0<=Q5t u x):∃m,Q8r u x m/\Q5t u x=x+m:=by
 unfold Q5t at h ⊢;by_cases c0:(u.size:Int)<=x
 ·rw[if_pos c0]at h;omega
 rw[if_neg c0]at h ⊢;by_cases c1:Q1n(atB u x)=true
 ·rw[if_pos c1]at h ⊢;obtain⟨h1,h2⟩:=z4x u(x:=x+1)(by omega);by_cases c2:8<1+(Q4c u(x+1):Int)
  ·rw[if_pos c2]at h;omega
  rw[if_neg c2];refine⟨Q4c u(x+1)+1,⟨by omega,by omega,.inr c1,fun k k1 k2=>?_,?_⟩,by omega⟩
  ·have:=h1(k-1)(by omega);rw[show x+(k:Int)=x+1+((k-1:Nat):Int)by omega];exact this
  rw[show x+((Q4c u(x+1)+1:Nat):Int)=x+1+Q4c u(x+1)by omega];exact h2
 rw[if_neg c1]at h ⊢;obtain⟨h1,h2⟩:=z4x u(x:=x)h0;by_cases c2:(Q4c u x:Int)=0∨8<(Q4c u x:Int)
 ·rw[if_pos c2]at h;omega
 rw[if_neg c2];refine⟨Q4c u x,⟨by omega,by omega,.inl ?_,fun k k1 k2=>h1 k k2,h2⟩,rfl⟩;have:=h1 0(by omega);simpa using this
theorem x1n{u:ByteArray}{x:Int}{m:Nat}(h0:0<=x)(h:Q8r u x m):Q5t u x=x+m:=by
 have hp:=h.pos;have hl:=h.le;have j0:¬(u.size:Int)<=x:=fun q=>by
  have e:=z19(p:=u)(i:=x)q;have:=h.first;rw[e]at this;revert this;decide
 unfold Q5t;rw[if_neg j0];by_cases c1:Q1n(atB u x)=true
 ·have e:Q4c u(x+1)=m-1:=y2p(by omega)(fun k hk=>by
   have:=h.rest(k+1)(by omega)(by omega);rw[show x+1+(k:Int)=x+((k+1:Nat):Int)by omega];exact this)(by
   rw[show x+1+((m-1:Nat):Int)=x+m by omega];exact h.stop)
  rw[if_pos c1,e,if_neg(by omega)];omega
 have c2:Q0n(atB u x)=true:=by
  rcases h.first with q|q
  ·exact q
  exact absurd q c1
 have e:Q4c u x=m:=y2p h0(fun k hk=>by
  by_cases k0:k=0
  ·subst k0;simpa using c2
  exact h.rest k(by omega)hk)h.stop
 rw[if_neg c1,e,if_neg(by omega)]
theorem y0b(s:ByteArray)(i:Int):∀(f n:Nat)(ls:List Int),n<=8->9<=f+n->(Q2l s i f n ls).2=i+8∨Q0n(atB s(Q2l s i f n ls).2)=false
 |0,n,ls,h1,h2=>by omega
 |f+1,n,ls,h1,h2=>by
  unfold Q2l;split
  ·split
   ·exact y0b s i f(n+1)_(by omega)(by omega)
   right;rename_i q;simpa using q
  left;rfl
theorem x0z{s:ByteArray}{i:Int}(h:(Q09 s i).2.2=true):(Q09 s i).2.1=i+8∨Q0n(atB s(Q09 s i).2.1)=false:=by
 unfold Q09 at h ⊢;split
 ·rename_i e;rw[if_pos e]at h;cases h
 exact y0b s i 9 1 _(by omega)(by omega)
theorem y2w{s:ByteArray}{i:Int}{m:Nat}(h:Q8r s i m):(Q09 s i).2.2=true/\(Q09 s i).2.1=i+m/\Q10 s i m(Q09 s i).1:=by
 have j0:(Q09 s i).2.2=true:=by
  unfold Q09;have:(!isSmallB(atB s i)&&!isCapB(atB s i))=false:=by
   rcases h.first with q|q<;>rw[q]<;>simp
  rw[if_neg(by rw[this];simp)]
 obtain⟨n,hw,hn⟩:=z7z s i j0;have hp:=hw.pos;have hl:=hw.le;have j2:=h.pos;have j1:=h.le;have e:n=m:=by
  rcases Nat.lt_trichotomy n m with q|q|q
  ·rcases x0z j0 with z|z
   ·omega
   rw[hn,h.rest n(by omega)q]at z;cases z
  ·exact q
  have z:=h.stop;rw[hw.rest m(by omega)q]at z;cases z
 subst e;exact⟨j0,hn,hw⟩
theorem Q10.wordy{s:ByteArray}{i:Int}{m:Nat}{d:Wd}(h:Q10 s i m d)(hs:Q0n(atB s(i+m))=false):Q8r s i m:=⟨h.pos,h.le,h.first,h.rest,hs⟩
theorem z03{s:ByteArray}{a e:Nat}(he:e<=s.size){k:Int}(h0:0<=k)(hk:a+k<e):atB(s.extract a e)k=atB s(a+k):=by
 obtain⟨n,rfl⟩:∃n:Nat,k=n:=⟨k.toNat,by omega⟩;exact z3w s a e n he(by omega)
theorem z1w{s:ByteArray}{a e:Nat}(he:e<=s.size):(s.extract a e).size=e-a:=by rw[ByteArray.size_extract];omega
section
variable{s:ByteArray}{a e:Nat}
theorem y8m(he:e<s.size)(h10:atB s(e:Nat)=10){x:Int}{m:Nat}(h0:0<=x)(h:Q8r(s.extract a e)x m):Q8r s(a+x)m/\a+x+m<=e:=by
 have hp:=h.pos;have j2:=z1w(s:=s)(a:=a)(e:=e)(by omega);have j1:∀k:Nat,k<m->a+x+k<e:=fun k hk=>by
  have hc:atB(s.extract a e)(x+k)≠-1:=by
   by_cases k0:k=0
   ·subst k0;intro q;have:=h.first;simp only[Int.natCast_zero,Int.add_zero]at q;rw[q]at this;revert this;decide
   exact y17(h.rest k(by omega)hk)
  have:=z0q hc;omega
 have hb:∀k:Nat,k<m->atB(s.extract a e)(x+k)=atB s(a+x+k):=fun k hk=>by
  rw[z03(by omega)(by omega)(by have:=j1 k hk;omega),Int.add_assoc]
 have j0:=j1(m-1)(by omega);refine⟨⟨h.pos,h.le,?_,fun k k1 k2=>?_,?_⟩,by omega⟩
 ·have:=hb 0(by omega);simp only[Int.natCast_zero,Int.add_zero]at this;rw[← this];exact h.first
 ·rw[← hb k k2];exact h.rest k k1 k2
 by_cases q:a+x+m<e
 ·have:=h.stop;rw[z03(by omega)(by omega)(by omega)]at this;rw[Int.add_assoc];exact this
 rw[show(a:Int)+x+m=(e:Nat)by omega,h10];decide
theorem y1k(he:e<s.size)(h10:atB s(e:Nat)=10){x:Int}{m:Nat}(h0:0<=x)(h:Q8r s(a+x)m)(hm:a+x+m<=e):Q8r(s.extract a e)x m:=by
 have hp:=h.pos;have j0:=z1w(s:=s)(a:=a)(e:=e)(by omega);have hb:∀k:Nat,k<m->atB(s.extract a e)(x+k)=atB s(a+x+k):=fun k hk=>by
  rw[z03(by omega)(by omega)(by omega),Int.add_assoc]
 refine⟨h.pos,h.le,?_,fun k k1 k2=>?_,?_⟩
 ·have:=hb 0(by omega);simp only[Int.natCast_zero,Int.add_zero]at this;rw[this];exact h.first
 ·rw[hb k k2];exact h.rest k k1 k2
 by_cases q:a+x+m<e
 ·rw[z03(by omega)(by omega)(by omega),← Int.add_assoc];exact h.stop
 rw[z19(by omega)];decide
end
theorem y3a(s:ByteArray)(a e b c:Nat)(he:e<=s.size)(hc:a+c<=e):(s.extract a e).extract b c=s.extract(a+b)(a+c):=by
 apply ByteArray.ext;simp only[ByteArray.data_extract,Array.extract_extract];have:s.size=s.data.size:=rfl;congr 1;omega
end Go.Proofs.YtcpceafmlgaodaaGreat
