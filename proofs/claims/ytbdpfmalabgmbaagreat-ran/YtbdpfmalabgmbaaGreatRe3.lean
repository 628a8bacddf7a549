import Derived.Test.YtbdpfmalabgmbaaGreatRbb
namespace Go.Proofs.YtbdpfmalabgmbaaGreat
open Go.RowKit
set_option maxRecDepth 99999
set_option maxHeartbeats 0
set_option linter.all false
theorem z74(w:World)(b R H:Nat)(q:List Q1)(hK:NumOk R H q)(hS:Q3q w b R H q)(hlen:(zclF R H q).length<=10000000000) :
  Calls Tryz.prog 19 #[.pointer (some ⟨b,0,none⟩)] w fun e w'=>∃v,e=.returned v/\Q69 w' w.heap.size v (zclF R H q)/\Q0a w w':=by
 obtain⟨i0,xc,xg,xh,xi⟩:=infoBS';obtain⟨j0,xe,xj,xk,xl⟩:=infoCl';have hQ:=hK.qk;have r8:=hQ.r8;have h8:=hQ.h8;have p20:=hQ.p20;have k4:=hQ.pos;have AL:=hid (x9t w b R H q hS hQ hK.n);have AH:=hid (fun(W1:World) (ab gn:Nat) (vL:Value) (gL:List Nat) (hA:Q8c W1 w.heap.size ab b R H q gn vL gL) (hf:Q0a w W1) (W:World) (hW:Q0a W1 W) (i:Nat) (hi:i<q.length)=>x1j W w.heap.size ab b R H q gn vL gL i hi (hA.fresh hW) (hS.fresh (hf.trans hW)) hK);obtain⟨a0,c0,a1,c1,a2,c2,v3,v4,sv,hN⟩:=hS;have k0:=hN.k0;have k1:=hN.k1;have k2:=hN.k2;have k3:=hN.k3;obtain⟨xn,x0,e3,x3,jb⟩:=hN.r3;rw[qAv]at e3;obtain⟨g3,o3,rfl,_⟩:=jb 0 (by rw[qAv];exact k4);rw[e3]at k3;have k7:Hid (∀(i:Nat) (h:i<q.length),w.cell? ⟨g3,o3+i,none⟩=some (.int .i64 q[i].1)):=hid (fun i h=>by
  obtain⟨g,o,e,hc⟩:=jb i (by rw[qAv];exact h);rw[qO,Addr.mk.injEq]at e;obtain⟨rfl,rfl,_⟩:=e;rw[qCd]at hc;exact hc)
 have kk:bs R=((R+1:Nat):Int):=by unfold bs;omega
 have BA:=hid (fun(W:World) (hW:Q0a w W)=>z1j W b R a0 c0 (Q0h hW k0) (by omega));rw[kk]at BA;have jr:Hid (∀(i:Nat) (h:i<q.length),(Q5r R H q).take (i+1)=(Q5r R H q).take i++[ahF R H (Q4q (bs R) false q H) q q[i]]):=hid (fun i h=>by
  unfold Q5r;rw[← List.map_take,← List.map_take,qCu,qBp,qE h];rfl)
 have jy:Hid ((Q5r R H q).length=q.length):=hid (by unfold Q5r;simp);have js:Hid (∀i,i<q.length->((Q5r R H q).getD i []).length=R+1):=hid (fun i h=>by
  unfold Q5r;rw[qD,qBt,qE h];exact x9s _ _ _ _ _)
 have hV:zcH q (Q5r R H q) R H 0 []=zclF R H q:=rfl;generalize zclF R H q=V at hV hlen ⊢;have HV:=hid hV;generalize Q5r R H q=A at jr jy js HV;have x6:Hid (∀h j2,zcT q A h (R+1) 0 j2=zcT q A h (R+1) 0 j2):=hid (fun _ _=>rfl);clear hV hN x3 e3 jb hK hQ k0 kk x6;have xf:R+1<=9:=by omega
 go_enter Tryz.func19,Tryz.ntmps19
 go_wp2_with (first
  |(go_at_call 45;refine(AL.out).mono ?_;rintro e w1⟨ab,gn,vL,gL,rfl,kh,kl⟩;have k6:=hid kh;have jq:=hid kl;clear kh kl))
 have jp:=hid (fun(W:World) (hW:Q0a w1 W) (i:Nat) (hi:i<q.length)=>AH.out w1 ab gn vL gL k6.out jq.out W hW i hi);generalize ahF R H (Q4q (bs R) false q H) q=AF at jr jp;clear AH k6 AL;generalize hq1:R+1=R1 at BA js jp xf;have kz:=hid hq1;clear hq1;have xr:w.heap.size<=w1.heap.size:=jq.size;go_loopw [4,5,6] (fun x4 x5 _ wr=>∃(i:Nat) (gs:List Nat),x5=.int .i64 i/\i<=q.length/\gs.length=i/\Q1v wr w1.heap.size R1 x4 gs (A.take i)/\Q0a w1 wr)
   (fun _ x _ _=>1001-(intOf x).toNat)
 case atStart=>exact⟨0,[],rfl,by omega,rfl,Q1v.nil _ _ _,mRf _ _⟩
 obtain⟨i,gs,rfl,hi,jz,hM,j3⟩:=hrel;have ke:=hid (Q19 (B:=1001) i (by omega));have HM:=hid hM;have HF:=hid j3;have kd:=hid jz;have ju:=Q0h (jq.trans j3) k1;obtain⟨ao,cp,hv⟩:=z0c hM.own;subst hv;have xp:gs.length<=100:=by omega
 by_cases ji:i<q.length
 ·have s1:(i:Int)<(q.length:Int):=by omega
  have k5:=hid (jp.out wr j3 i ji);have kf:=hid (jr.out i ji);generalize AF q[i]=ah at k5 kf;clear hM j3 jz;go_wp2_with (first
   |(at_builtin;refine z0f _ rfl _ _ 117 rfl w1.heap.size 118 i0 _ 1 24 Tryz.underlying117 xc xg xh xi rfl (by decide) (.slice ao gs.length cp) gs.length _ rfl (ky.alloc _) ⟨w2.heap.size,0,none⟩ 1 1 [bsl g2 R1] rfl rfl (z0m rfl) (by intro u hu;simp at hu;subst hu;rfl) (by unfold maxLen;omega) (by omega) (by have z1:=HF.size;have z2:=j4.size;simp;omega) ?_)
   |(go_at_call 46;refine(k5.out).mono ?_;rintro e w2⟨g2,rfl,km,ki,jg⟩;have jw:=hid km;have kr:=hid ki;have j4:=hid jg;have ky:=hid (HM.fresh jg).own;clear km ki jg))
  intro v' w6 j7 j5 jd;have jg:Q0a w2 (w2.alloc (.cells #[bsl g2 R1] 118)):=(mRf _ w2).alloc _;have jj:Hid (Q1v w6 w1.heap.size R1 v' (gs++[g2]) (A.take (i+1))/\Q0a w1 w6):=hid (by
   refine⟨?_,Mod.grown (S:=fun _=>False) ((HF.trans j4.out).trans jg) j5 (fun k hk ji=>by have:=(HM.own.lt k hk).1;omega)⟩;rw[kf.out];refine((HM.fresh j4.out).fresh jg).next (kr.fresh jg) (qDa HF.size jw.out) ?_ ?_ j7 j5 (by simpa using jd)
   ·intro e;have:=(HM.own.lt _ e).2;have:=jw.out;omega
   intro x hx e;obtain⟨k,hk,rfl⟩:=qBf hx;have:=(HM.blk k _ (qE hk)).2.lt;have:=jw.out;omega)
  have jx:Hid ((gs++[g2]).length=i+1):=hid (by rw[qP,kd.out];rfl);clear j7 j5 jd jg;go_wp2;go_roundw
  case rel=>exact⟨i+1,_,by go_num,by omega,jx.out,jj.1,jj.2⟩
  exact ke.out
 have s1:¬(i:Int)<(q.length:Int):=by omega
 have xd:i=q.length:=by omega
 rw[xd,← jy.out,qAw]at hM;have xb:gs.length=q.length:=by omega
 obtain⟨ga,cv,hv⟩:=Joins.ownsRow_form hM.own (by omega);rw[qI]at hv;obtain⟨rfl,hx,rfl⟩:=hv;clear hx;rename World=>wA
 have j8:Q0a w wA:=jq.trans j3;have CE:Hid (∀W,Q0a wA W->W.cell? ⟨b,1,none⟩=some (.slice a1 q.length c1)/\W.cell? ⟨b,2,none⟩=some (.slice a2 H c2)/\W.cell? ⟨b,3,none⟩=some (.slice (some ⟨g3,o3,none⟩) q.length x0)):=hid (fun W hW=>⟨Q0h (j8.trans hW) k1,Q0h (j8.trans hW) k2,Q0h (j8.trans hW) k3⟩);have kq:=hid (fun(W:World) (hW:Q0a wA W)=>BA.out W (j8.trans hW));have k8:Hid (∀W,Q0a wA W->∀(i:Nat) (h:i<q.length),W.cell? ⟨g3,o3+i,none⟩=some (.int .i64 q[i].1)):=hid (fun W hW i h=>Q0h (j8.trans hW) (k7.out i h));have kg:Hid (∀W,Q0a wA W->∀i,i<q.length->∃gi,W.cell? ⟨ga,i,none⟩=some (bsl gi R1)/\∀t,t<R1->W.cell? ⟨gi,t,none⟩=some (.bool (atM A i t))):=hid (fun W hW i h=>by
  have kj:=hM.fresh hW;have kn:gs[i]? = some gs[i]:=qE (by omega);exact⟨_,kj.row kn,fun t ht=>(kj.blk i _ kn).2.cell (by rw[js.out i h];exact ht)⟩)
 have xa:q.length<=gs.length:=by omega
 have kc:=hid j8;clear hM j3 xb HM HF kd jz jp jr jy js k7 k1 k2 k3 BA j8 ke;go_wp2;go_loopw [7,8,9,10,11] (fun x7 x8 _ _ _ wr=>∃(h:Nat) (j2:List Cl),x8=.int .i64 h/\h<=H/\Q69 wr wA.heap.size x7 j2/\Q0a wA wr/\zcH q A R (H-h) h j2=V)
   (fun _ x _ _ _ _=>1001-(intOf x).toNat)
 case atStart=>exact⟨0,[],rfl,by omega,qAh _ _ _ _,mRf _ _,HV.out⟩
 clear ju HV;obtain⟨h,j2,rfl,hh,hC,j3,j1⟩:=hrel;have kv:=hid (Q19 (B:=1001) h (by omega));have j6:=hid hC;have j4:=hid j3;obtain⟨-,xm,-⟩:=CE.out wr j3;obtain⟨co,cc,hv⟩:=z0c hC;subst hv;by_cases ji:h<H
 ·have s2:(h:Int)<(H:Int):=by omega
  rw[v3i _ _ _ _ _ _ ji,kz.out]at j1;generalize hF3:zcT q A h R1 0 j2=F3 at j1;have ks:Hid (F3.length<=10000000000):=hid (by have:=y90 q A R (H-(h+1)) (h+1) F3;rw[j1]at this;omega);have jl:=hid j1;have k9:=hid hF3;clear j1 hF3 hC j3;go_wp2;go_loopw [7,9,10,11] (fun x7 x9 _ _ wr=>∃(t:Nat) (j2:List Cl),x9=.int .i64 t/\t<=R1/\Q69 wr wA.heap.size x7 j2/\Q0a wA wr/\zcT q A h (R1-t) t j2=F3)
    (fun _ x _ _ _=>1001-(intOf x).toNat)
  case atStart=>exact⟨0,j2,rfl,by omega,j6.out,j4.out,k9.out⟩
  clear xm j6 j4 k9;obtain⟨t,j2,rfl,ht,hC,j3,j1⟩:=hrel;have kx:=hid (Q19 (B:=1001) t (by omega));have j6:=hid hC;have j4:=hid j3;have jv:=hid (kq.out wr j3);obtain⟨co,cc,hv⟩:=z0c hC;subst hv;by_cases jh:t<R1
  ·have s3:(t:Int)<(R1:Int):=by omega
   rw[v3l _ _ _ _ _ _ jh]at j1;generalize hF4:zcI q A h t q.length 0 j2=F4 at j1;have kt:Hid (F4.length<=10000000000):=hid (by have:=y3s q A h (R1-(t+1)) (t+1) F4;rw[j1]at this;have:=ks.out;omega);have jn:=hid j1;have ka:=hid hF4;clear j1 hF4 hC j3;go_wp2_with (first
    |(go_at_call 47;refine csm jv.out ?_))
   go_loopw [7,10,11] (fun x7 x10 _ wr=>∃(i:Nat) (j2:List Cl),x10=.int .i64 i/\i<=q.length/\Q69 wr wA.heap.size x7 j2/\Q0a wA wr/\zcI q A h t (q.length-i) i j2=F4)
     (fun _ x _ _=>1001-(intOf x).toNat)
   case atStart=>exact⟨0,j2,rfl,by omega,j6.out,j4.out,ka.out⟩
   clear j6 j4 ka jv;obtain⟨i,j2,rfl,hi,hC,j3,j1⟩:=hrel;have kw:=hid (Q19 (B:=1001) i (by omega));have j6:=hid hC;have j4:=hid j3;obtain⟨ju,-,-⟩:=CE.out wr j3;obtain⟨co,cc,hv⟩:=z0c hC;subst hv;by_cases je:i<q.length
   ·have s4:(i:Int)<(q.length:Int):=by omega
    rw[v3j _ _ _ _ _ _ _ je]at j1;generalize hF5:zcJ q A h t i (q.length-(i+1)) (i+1) j2=F5 at j1;have ku:Hid (F5.length<=10000000000):=hid (by have:=y3q q A h t (q.length-(i+1)) (i+1) F5;rw[j1]at this;have:=kt.out;omega);have jm:=hid j1;have kb:=hid hF5;clear j1 hF5 hC j3;go_wp2;go_loopw [7,11] (fun x7 x11 wr=>∃(j:Nat) (j2:List Cl),x11=.int .i64 j/\j<=q.length/\i<j/\Q69 wr wA.heap.size x7 j2/\Q0a wA wr/\zcJ q A h t i (q.length-j) j j2=F5)
      (fun _ x _=>1001-(intOf x).toNat)
    case atStart=>exact⟨i+1,j2,by go_num,by omega,by omega,j6.out,j4.out,kb.out⟩
    clear ju j6 j4 kb;obtain⟨j,j2,rfl,hj,xq,hC,j3,j1⟩:=hrel;have jk:=hid (Q19 (B:=1001) j (by omega));have j6:=hid hC;have j4:=hid j3;obtain⟨ju,-,xt⟩:=CE.out wr j3;obtain⟨co,cc,hv⟩:=z0c hC;subst hv;by_cases jf:j<q.length
    ·have s5:(j:Int)<(q.length:Int):=by omega
     rw[v3k _ _ _ _ _ _ _ _ jf]at j1;have d1:=k8.out wr j3 i je;have d2:=k8.out wr j3 j jf;obtain⟨gi,x1,ko⟩:=kg.out wr j3 i je;obtain⟨gj,x2,kp⟩:=kg.out wr j3 j jf;have y1:=ko t jh;have y2:=kp t jh;have s6:(i:Int)<(gs.length:Int):=by omega
     have s7:(j:Int)<(gs.length:Int):=by omega
     have jo:hitB q A h t i j=(((q[i].1==(h:Int)&&q[j].1==(h:Int))&&atM A i t)&&atM A j t):=by
      unfold hitB;rw[qD,qE je,qD,qE jf];rfl
     rw[jo]at j1;generalize q[i].1=hdi at d1 j1;generalize q[j].1=hdj at d2 j1;generalize atM A i t=at1 at y1 j1;generalize atM A j t=at2 at y2 j1;generalize hb1:(hdi==(h:Int))=b1 at j1;generalize hb2:(hdj==(h:Int))=b2 at j1;have j9:=hid j1;clear j1 hC j3 ko kp jo;have ja:Hid ((((b1&&b2)&&at1)&&at2)=false->zcJ q A h t i (q.length-(j+1)) (j+1) j2=F5):=hid (fun e=>by have:=j9.out;rw[e,qAa (by simp)]at this;exact this);cases b1
     ·clear d2 x1 x2 y1 y2 hb2;go_wp2;go_roundw
      case rel=>exact⟨j+1,j2,by go_num,by omega,by omega,j6.out,j4.out,ja.out (by simp)⟩
      exact jk.out
     cases b2
     ·clear x1 x2 y1 y2;go_wp2;go_roundw
      case rel=>exact⟨j+1,j2,by go_num,by omega,by omega,j6.out,j4.out,ja.out (by simp)⟩
      exact jk.out
     cases at1
     ·clear x2 y2;go_wp2;go_roundw
      case rel=>exact⟨j+1,j2,by go_num,by omega,by omega,j6.out,j4.out,ja.out (by simp)⟩
      exact jk.out
     cases at2
     ·go_wp2;go_roundw
      case rel=>exact⟨j+1,j2,by go_num,by omega,by omega,j6.out,j4.out,ja.out (by simp)⟩
      exact jk.out
     have jt:=j9.out;rw[qAb (by simp)]at jt;have xo:j2.length+1<=10000000000:=by
      have:=y3r q A h t i (q.length-(j+1)) (j+1) (j2++[⟨h,t,i,j⟩]);rw[jt,qP,qAj]at this;have:=ku.out;omega
     have jc:=hid jt;have xs:wA.heap.size<=wr.heap.size:=j4.size;clear jt ja j9;go_wp2_with (first
      |(at_builtin;refine z0f _ rfl _ _ 57 rfl wA.heap.size 122 j0 _ 4 32 Tryz.underlying57 xe xj xk xl rfl (by decide) (.slice co j2.length cc) j2.length (Q0y Cl.cells j2) rfl (j6.alloc _) ⟨wr.heap.size,0,none⟩ 1 1 [.int .i64 h,.int .i64 t,.int .i64 i,.int .i64 j] rfl rfl (z0m rfl) (by intro u hu;simp only[qBu,qEi,or_false]at hu;rcases hu with rfl|rfl|rfl|rfl<;>rfl) (by unfold maxLen;omega) (by omega) (by simp;omega) ?_))
     intro v' w6 j7 j5 jd;have jj:Hid (Q69 w6 wA.heap.size v' (j2++[⟨h,t,i,j⟩])/\Q0a wA w6):=hid ⟨by unfold Q69;rw[z0v,qP,qAj];exact j7,Mod.grown (S:=fun _=>False) (j4.alloc _) j5 (fun k hk ji=>by have:=(j6.lt k hk).1;omega)⟩;clear j7 j5 jd;go_wp2;go_roundw
     case rel=>exact⟨j+1,_,by go_num,by omega,by omega,jj.1,jj.2,jc.out⟩
     exact jk.out
    have s5:¬(j:Int)<(q.length:Int):=by omega
    rw[show q.length-j=0 by omega]at j1;have jc:=hid j1;clear j1 hC j3;go_wp2;go_roundw
    case rel=>exact⟨i+1,j2,by go_num,by omega,j6.out,j4.out,by have:=jc.out;unfold zcJ at this;rw[this];exact jm.out⟩
    exact kw.out
   have s4:¬(i:Int)<(q.length:Int):=by omega
   rw[show q.length-i=0 by omega]at j1;have jc:=hid j1;clear j1 hC j3;go_wp2;go_roundw
   case rel=>exact⟨t+1,j2,by go_num,by omega,j6.out,j4.out,by have:=jc.out;unfold zcI at this;rw[this];exact jn.out⟩
   exact kx.out
  have s3:¬(t:Int)<(R1:Int):=by omega
  rw[show R1-t=0 by omega]at j1;have jc:=hid j1;clear j1 hC j3;go_wp2_with (first
   |(go_at_call 47;refine csm jv.out ?_))
  go_roundw
  case rel=>exact⟨h+1,j2,by go_num,by omega,j6.out,j4.out,by have:=jc.out;unfold zcT at this;rw[this];exact jl.out⟩
  exact kv.out
 have s2:¬(h:Int)<(H:Int):=by omega
 rw[show H-h=0 by omega]at j1;have jc:=hid j1;clear j1 hC j3;go_wp2;go_ret;have e:=jc.out;unfold zcH at e;refine⟨_,rfl,?_,kc.trans j4.out⟩;rw[← e];exact z0g j6.out kc.size
theorem y07{s:ByteArray}(hc:(Q0u s).1=0):(Q13 s).length<=10000000000:=by
 obtain⟨hT,hR⟩:=x5l (z2w hc);have h8:=(x37 (z2w hc)).qk.h8;have hz:((Q0p (Q0c s).1).zip (Q0r (Q7p s) (Q0p (Q0c s).1))).length<=1000:=by
  rw[List.length_zip];have:=(y5w hc).2.2;omega
 have:=y6r _ hz (Q0g (Q0c s).1).length (Q0j (Q0c s).1).length (by omega) ((Q0j (Q0c s).1).length+1) 0;unfold Q13 Q6g;omega
def ldCz(v:Value):Sem Value:=Instr.loadAt 122 v
theorem x3k(v:Value):Instr.loadAt 122 v=ldCz v:=rfl
attribute [local go_sem ↓] x3k
theorem x6c{s:ByteArray}(h:800<s.size):(Q0u s).1=1:=by unfold Q0u;rw[qAb h]
def Q8r(gs:List Bool)(a r:Nat)(b:Int × Int):Nat->Int × Int
 |0=>b
 |n+1=>if 0<n/\gs.getD n false=true/\(Q8r gs a r b n).2<(a:Int)+n then((r:Int),(a:Int)+n) else Q8r gs a r b n
theorem y0l(gs:List Bool)(a r:Nat)(b:Int × Int):∀n,(Q8r gs a r b n=b/\∀m,0<m->m<n->On gs m->(a:Int)+m<=b.2)∨(∃m,0<m/\m<n/\On gs m/\Q8r gs a r b n=((r:Int),(a:Int)+m)/\b.2<(a:Int)+m/\∀m',m<m'->m'<n->¬On gs m')
 |0=>.inl ⟨rfl,fun m h1 h2=>by omega⟩
 |n+1=>by
  unfold Q8r;rcases y0l gs a r b n with⟨h1,h2⟩|⟨m,m1,m2,m3,m4,m5,m6⟩
  ·by_cases c:0<n/\gs.getD n false=true/\(Q8r gs a r b n).2<(a:Int)+n
   ·rw[qAb c];obtain⟨c1,c2,c3⟩:=c;rw[h1]at c3;exact .inr ⟨n,c1,by omega,z2e.2 c2,rfl,c3,fun m' q1 q2=>by omega⟩
   rw[qAa c];refine .inl ⟨h1,fun m q1 q2 q3=>?_⟩;by_cases e:m=n
   ·subst e;by_cases z:(a:Int)+m<=b.2
    ·exact z
    exact absurd ⟨q1,z2e.1 q3,by rw[h1];omega⟩ c
   exact h2 m q1 (by omega) q3
  by_cases c:0<n/\gs.getD n false=true/\(Q8r gs a r b n).2<(a:Int)+n
  ·rw[qAb c];obtain⟨c1,c2,c3⟩:=c;rw[m4]at c3;dsimp only at c3;exact .inr ⟨n,c1,by omega,z2e.2 c2,rfl,by omega,fun m' q1 q2=>by omega⟩
  rw[qAa c];refine .inr ⟨m,m1,by omega,m3,m4,m5,fun m' q1 q2 q3=>?_⟩;by_cases e:m'=n
  ·subst e;exact c ⟨by omega,z2e.1 q3,by rw[m4];dsimp only;omega⟩
  exact m6 m' q1 (by omega) q3
theorem x0a{t:ByteArray}{a n:Nat}(h:a+n<=t.size):Q1n (t.extract a t.size) 0 n=Q36 (t.extract a (a+n)):=by
 have s1:=z08 (s:=t) (a:=a) (e:=t.size) (qR _);have s2:=z08 (s:=t) (a:=a) (e:=a+n) h;unfold Q36;rw[s2,z8t _ 0 n (by omega),z8t _ 0 (a+n-a) (by omega),show a+n-a=n by omega];apply qEs;intro j hj;have j0:j<n:=by simpa using hj
 rw[qBy,z0z (qR _) (by omega) (by omega),z0z h (by omega) (by omega)]
theorem v2z{x:Ln}{t:ByteArray}{a r:Nat}{L:Q03}{gs:List Bool}{b:Int × Int}(ha:a<=t.size)(hL:∀u,Q31 x u=true↔L (Q36 u))(hl:gs.length=(t.extract a t.size).size+1)
  (hg:∀j,j<=(t.extract a t.size).size->(On gs j↔L (Q1n (t.extract a t.size) 0 j))) (hb:(a:Int)<=b.2) :
  Q8r gs a r b gs.length=if b.2<Q5f x.ns x.st x.en t a then((r:Int),Q5f x.ns x.st x.en t a) else b:=by
 have s1:=z08 (s:=t) (a:=a) (e:=t.size) (qR _);have j5:∀n,a+n<=t.size->(On gs n↔Q8w x.ns x.st x.en t a n=true):=fun n hn=>by
  rw[hg n (by omega),x0a hn,← y40 x t a n hn,hL]
 rcases z68 x.ns x.st x.en t a with⟨j,j1,j2,j3,j4⟩|⟨j1,j2⟩
 ·rw[j3];rcases y0l gs a r b gs.length with⟨h1,h2⟩|⟨m,m1,m2,m3,m4,m5,m6⟩
  ·rw[h1,qAa];intro q;by_cases j0:j=0
   ·subst j0;omega
   have:=h2 j (by omega) (by omega) ((j5 j j1).2 j2);omega
  have j6:m=j:=by
   rcases qFx m j with q|q|q
   ·exact absurd ((j5 j j1).2 j2) (m6 j q (by omega))
   ·exact q
   have:=(j5 m (by omega)).1 m3;rw[j4 m q (by omega)]at this;cases this
  subst j6;rw[m4,qAb (by omega)];congr 1
 rw[j1,qAa (by omega)];rcases y0l gs a r b gs.length with⟨h1,h2⟩|⟨m,m1,m2,m3,m4,m5,m6⟩
 ·exact h1
 have:=(j5 m (by omega)).1 m3;rw[j2 m (by omega)]at this;cases this
theorem x9z(lns:List Ln)(t:ByteArray)(i f k:Nat)(b:Int × Int):Q5d lns t i (f+1) k b=match lns[k]? with
  |some x=>Q5d lns t i f (k+1) (if b.2<Q5f x.ns x.st x.en t i then((k:Int),Q5f x.ns x.st x.en t i) else b)
  |none=>b:=rfl
def Q6t(lns:List Ln)(t:ByteArray):Nat->Nat->List Tk->List Tk × Int
 |0,_,_=>([],0)
 |f+1,i,toks =>
  if i<t.size then
   if(Q2j lns t i).2<=i then([],(i:Int))
   else Q6t lns t f (Q2j lns t i).2.toNat (toks++[⟨(Q2j lns t i).1,i,(Q2j lns t i).2⟩])
  else(toks,-1)
theorem y71(lns:List Ln)(t:ByteArray)(f i:Nat)(toks:List Tk):Q6t lns t (f+1) i toks=if i<t.size then
   if(Q2j lns t i).2<=i then([],(i:Int))
   else Q6t lns t f (Q2j lns t i).2.toNat (toks++[⟨(Q2j lns t i).1,i,(Q2j lns t i).2⟩])
  else(toks,-1):=rfl
theorem y6m{lns:List Ln}{t:ByteArray}{i:Nat}(hi:i<=t.size):(i:Int)<=(Q2j lns t i).2/\(Q2j lns t i).2<=t.size/\0<=(Q2j lns t i).1/\((i:Int)<(Q2j lns t i).2->(Q2j lns t i).1<lns.length):=by
 rcases x58 lns t i with⟨h1,_⟩|⟨r,hr,h1,h2,h3,_⟩
 ·rw[h1];dsimp only;omega
 rw[h2];dsimp only;obtain⟨n,n1,n2,n3,_⟩:=x97 h3;rw[n3];omega
theorem x2j(lns:List Ln)(t:ByteArray):∀(f i:Nat) (toks:List Tk),i<=t.size->t.size+1<=f+i ->
  Q93 lns t f i (toks.filter fun k=>!Q27 lns k.r)=if 0<=(Q6t lns t f i toks).2 then([],9,(Q6t lns t f i toks).2) else((Q6t lns t f i toks).1.filter (fun k=>!Q27 lns k.r),0,0)
 |0,i,toks,hi,hf=>by omega
 |f+1,i,toks,hi,hf=>by
  obtain⟨b1,b2,b3,b4⟩:=y6m (lns:=lns) hi;rw[y71];unfold Q93;by_cases c:i<t.size
  ·rw[qAb c,qAb c];by_cases c2:(Q2j lns t i).2<=i
   ·rw[qAb c2,qAb c2,qAb (by dsimp only;omega)]
   rw[qAa c2,qAa c2];have ih:=x2j lns t f (Q2j lns t i).2.toNat (toks++[⟨(Q2j lns t i).1,i,(Q2j lns t i).2⟩]) (by omega) (by omega);rw[← ih];congr 1;rw[qBx,qAq];cases Q27 lns (Q2j lns t i).1<;>simp
  rw[qAa c,qAa c,qAa (by dsimp only;omega)]
structure Q7s(lns:List Ln)(rs:List ZLV):Prop where
 len:lns.length=rs.length
 at':∀(k:Nat) (x:Ln) (z:ZLV),lns[k]? = some x->rs[k]? = some z->z.ln.skip=x.skip/\∃L,Q8u z.ln.pat L/\z.ln.pat.size<=1000/\∀t,Q31 x t=true↔L (Q36 t)
def CutRet(R:List Tk × Int)(w:World)(e:Ending)(w':World):Prop :=
 ∃v,e=.returned (.tuple #[v,.int .i64 R.2])/\Q0a w w'/\w'.ownsRow w.heap.size 63 3 v R.1.length (Q0y Tk.cells R.1)
theorem x8b(gs:List Bool)(a r:Nat)(b:Int × Int):Q8r gs a r b 1=b:=by
 unfold Q8r;rw[qAa (fun q=>absurd q.1 (qBw _))];rfl
theorem v2y(gs:List Bool)(a r:Nat)(b:Int × Int)(n:Nat):Q8r gs a r b (n+1)=if 0<n/\gs.getD n false=true/\(Q8r gs a r b n).2<(a:Int)+n then((r:Int),(a:Int)+n) else Q8r gs a r b n:=rfl
theorem x8n(w:World)(b:Nat)(X:SP)(v0 v1 v2 v3 v4:Value)(sv:List Value)(lns:List Ln)(t:ByteArray)(h:Q2f w b X v0 v1 v2 v3 v4 sv)(hR:Q7s lns X.rules)(hn:X.rules.length<=1000)(ht:t.size<=200) :
  Calls Tryz.prog 20 #[.pointer (some ⟨b,0,none⟩),.string t] w fun e w'=>CutRet (Q6t lns t (t.size+1) 0 []) w e w':=by
 obtain⟨i0,kh,km,kn,ko⟩:=Q8y;have HX:=hid (fun w' (hf:Q0a w w')=>h.fresh hf);have HR:=hid hR;have kt:=h.lt;obtain⟨a0,kp,kb⟩:=z0c (h.own 0 _ rfl);dsimp only at kb;subst kb;generalize hV:Q6t lns t (t.size+1) 0 []=V;have HV:=hid hV;clear h hR hV;go_enter Tryz.func20,Tryz.ntmps20
 go_wp2;go_loopw [6,7,8,9,10,11] (fun x6 x7 _ _ _ _ wr=>∃(f a:Nat) (toks:List Tk),x7=.int .i64 a/\a<=t.size/\t.size+1<=f+a/\toks.length<=a/\Q6t lns t f a toks=V/\wr.ownsRow w.heap.size 63 3 x6 toks.length (Q0y Tk.cells toks)/\Q0a w wr)
   (fun _ x _ _ _ _ _=>1001-(intOf x).toNat)
 case atStart=>exact⟨t.size+1,0,[],rfl,by omega,by omega,by simp,HV.out,qAh _ _ _ _,mRf _ _⟩
 obtain⟨f,a,toks,rfl,ha,hf,x0,j0,jb,j4⟩:=hrel;obtain⟨f,rfl⟩:∃g,f=g+1:=⟨f-1,by omega⟩;rw[y71]at j0;obtain⟨wo,kk⟩:∃wo,wo=wr:=⟨_,rfl⟩;subst kk;have HO:=hid jb;have HF:=hid j4;obtain⟨ao,cap,hv⟩:=z0c jb;subst hv;have kz:=j4.size;clear HV jb;by_cases jq:a<t.size
 ·have k1:(a:Int)<(t.size:Int):=by omega
  rw[qAb jq]at j0;obtain⟨b1,b2,b3,b4⟩:=y6m (lns:=lns) (t:=t) (i:=a) ha;generalize hbb:Q2j lns t a=bb at j0 b1 b2 b3 b4;have jt:Hid (Q5d lns t a (lns.length+1) 0 (0,(a:Int))=bb):=hbb;have j8:=hid j0;clear hbb j0 j4;go_wp2_with (first
   |(refine z0e rfl 63 _ _ rfl wo _ _ _ rfl rfl rfl W0j rfl (qCq (cs:=[.int .i64 0,.int .i64 a,.int .i64 a]) (by intro v hv;simp at hv;rcases hv with rfl|rfl<;>rfl)) ?_))
  go_loopw [9,10,11] (fun x9 _ _ wr=>∃(g r:Nat) (q:Int × Int),x9=.int .i64 r/\r<=lns.length/\lns.length+1<=g+r/\(a:Int)<=q.2/\q.2<=t.size/\Q5d lns t a g r q=bb/\wr.heap[wo.heap.size]? = some (.cells (Q2t q.1 a q.2) 63 (0,0))/\Q0a wo wr)
    (fun x _ _ _=>1001-(intOf x).toNat)
  case atStart=>exact⟨lns.length+1,0,(0,(a:Int)),rfl,by omega,by omega,by dsimp only;omega,by dsimp only;omega,jt.out,z0a _ _,(mRf _ wo).alloc _⟩
  obtain⟨g,r,q,rfl,hr,hg,jr,k7,j0,j1,j4⟩:=hrel;obtain⟨g,rfl⟩:∃k,g=k+1:=⟨g-1,by omega⟩;rw[x9z]at j0;obtain⟨wp,kl⟩:∃wp,wp=wr:=⟨_,rfl⟩;subst kl;have HB:=hid j1;have jv:=hid j4;have je:Hid (Q0a w wp):=HF.trans j4;have hX:=HX.out wp je.out;have k0:=Q2f.cell hX 0;simp at k0;have ks:=hX.lt;have jh:=HR.len;have js:=z0j j1;clear jt;by_cases ka:r<lns.length
  ·have jc:r<X.rules.length:=by omega
   have k2:(r:Int)<(X.rules.length:Int):=by omega
   rw[qE ka]at j0;dsimp only at j0;obtain⟨y1,L,y2,y3,y4⟩:=HR.at' r _ _ (qE ka) (qE jc);have jn:=Q2f.rules hX;obtain⟨gg,kg,hv⟩:=Joins.ownsRow_form jn.own (by omega);rw[qI]at hv;obtain⟨rfl,_,rfl⟩:=hv;have c3:=jn.cell r 3 jc (by omega);have kv:=(jn.own.lt gg rfl).2;have jk:=z08 (s:=t) (a:=a) (e:=t.size) (qR _);have LX:=hid (fun W=>z75 X.rules[r].ln.pat (t.extract a t.size) L W y3 (by omega) y2);have jx:=hid (fun(gs:List Bool) (h1:gs.length=(t.extract a t.size).size+1) h2=>v2z (r:=r) (b:=q) ha y4 h1 h2 jr);generalize X.rules[r]=x at c3 LX y1 y2 y3;obtain⟨⟨xr,xk,xn,xp,x3,x2⟩,vs,vp,x1⟩:=x;simp[ZLV.cells]at c3;dsimp only at LX;have j2:=hid j0;have jf:=hid jk;clear y1 y2 y3 y4 jn hX jh j0 jk j4;go_upto_region 8 with fail
   go_cut [10] (fun x10 wx=>∃(g9:Nat) (gs:List Bool),x10=bsl g9 (t.size-a+1)/\Q0a wp wx/\Q1x wx g9 gs/\gs.length=(t.extract a t.size).size+1/\∀j,j<=(t.extract a t.size).size->(On gs j↔L (Q1n (t.extract a t.size) 0 j)))
   case first =>
    go_region_with (first
     |(go_at_call 48;refine(LX.out _).mono ?_;rintro e w1⟨g9,gs,rfl,q1,q2,q3,q4⟩;have HN:=hid (And.intro q1 (And.intro q2 (And.intro q3 q4)));clear q1 q2 q3 q4))
    all_goals
     go_wp2_with fail
     go_meet;exact⟨g9,gs,rfl,(mRf _ wp).drew.trans HN.1,HN.2⟩
   obtain⟨g9,gs,rfl,jp,j6,j7,jz⟩:=hcut;have jd:=hid (jp.at HB.out id);have k4:g9≠wo.heap.size:=by
    intro e;have c:=j6.cell (j:=0) (by omega);rw[e,Q0b jd.out 0]at c;simp at c
   have ki:wo.heap.size≠g9:=fun e=>k4 e.symm;have jm:=hid (jx.out gs j7 jz);rw[jf.out]at j7;have jo:=hid j7;have ju:=hid j6;have jw:Hid (Q0a wo wc):=jv.trans jp;have ky:=j6.lt;have kq:=z0j jd.out;have lb:=y2q lns[r].ns lns[r].st lns[r].en t a;generalize Q5f lns[r].ns lns[r].st lns[r].en t a=far at jm j2 lb;clear HB jv je jp j6 j7 jz LX jx c3 k0 jf;obtain⟨q1,q2⟩:=q;dsimp only at jr k7 j2 jm jd;go_wp2_with fail
   go_loopw [11] (fun x11 wr=>∃n:Nat,x11=.int .i64 n/\1<=n/\n<=t.size-a+1/\wr.heap[wo.heap.size]? = some (.cells (Q2t (Q8r gs a r (q1,q2) n).1 a (Q8r gs a r (q1,q2) n).2) 63 (0,0))/\Q1x wr g9 gs/\Q0a wo wr)
     (fun x _=>1001-(intOf x).toNat)
   case atStart=>exact⟨1,rfl,by omega,by omega,by rw[x8b];exact jd.out,ju.out,jw.out⟩
   obtain⟨n,rfl,kw,kx,j1,j6,j4⟩:=hrel;have j3:=hid j1;have ja:=hid j6;have jl:=hid j4;have ku:=j6.lt;have kr:=z0j j1;clear jd ju jw;by_cases kj:n<t.size-a+1
   ·have k5:(n:Int)<((t.size-a+1:Nat):Int):=by omega
    have k6:(n:Int)<((t.size-a:Nat):Int)+1:=by omega
    have c1:=j6.cell (j:=n) (by rw[jo.out];exact kj);have c2:wr.cell? ⟨wo.heap.size,2,none⟩=some (.int .i64 (Q8r gs a r (q1,q2) n).2):=Q0b j1 2;have HU:=hid (v2y gs a r (q1,q2) n);have ji:=jo.out;generalize Q8r gs a r (q1,q2) n=u at c2 HU j3;obtain⟨u1,u2⟩:=u;dsimp only at c2 HU j3;generalize gs.getD n false=gn at c1 HU;clear j1 j6 j4 ji;cases gn
    ·have jg:Hid (Q8r gs a r (q1,q2) (n+1)=(u1,u2)):=by unfold Hid;rw[HU.out,qAa (fun q=>by simp at q)]
     clear HU;go_wp2;go_roundw
     case rel=>exact⟨n+1,by go_num,by omega,by omega,by rw[jg.out];exact j3.out,ja.out,jl.out⟩
     simp[intOf];omega
    by_cases k3:u2<(a:Int)+n
    ·have jg:Hid (Q8r gs a r (q1,q2) (n+1)=((r:Int),(a:Int)+n)):=by unfold Hid;rw[HU.out,qAb ⟨by omega,rfl,k3⟩]
     clear HU;go_wp2_with (first
      |(refine qAg rfl 63 _ _ rfl wo.heap.size (Q2t r a ((a:Int)+n)) rfl rfl _ _ j3.out W0j rfl (qCq (cs:=[.int .i64 r,.int .i64 a,.int .i64 ((a:Int)+n)]) (by intro v hv;simp at hv;rcases hv with rfl|rfl|rfl<;>rfl)) ?_))
     go_roundw
     case rel=>exact⟨n+1,by go_num,by omega,by omega,by rw[jg.out];exact qAn _ _ _ _ _ _ j3.out,z0p ja.out k4,jl.setRow (fun q=>absurd q (qBw _)) _⟩
     simp[intOf];omega
    have jg:Hid (Q8r gs a r (q1,q2) (n+1)=(u1,u2)):=by unfold Hid;rw[HU.out,qAa (fun q=>k3 q.2.2)]
    clear HU;go_wp2;go_roundw
    case rel=>exact⟨n+1,by go_num,by omega,by omega,by rw[jg.out];exact j3.out,ja.out,jl.out⟩
    simp[intOf];omega
   have k5:¬(n:Int)<((t.size-a+1:Nat):Int):=by omega
   have k6:¬(n:Int)<((t.size-a:Nat):Int)+1:=by omega
   have jj:n=gs.length:=by rw[jo.out];omega
   have kc:Hid (wr.heap[wo.heap.size]? = some (.cells (Q2t (if q2<far then((r:Int),far) else(q1,q2)).1 a (if q2<far then((r:Int),far) else(q1,q2)).2) 63 (0,0))):=by
    unfold Hid;rw[← jm.out,← jj];exact j3.out
   clear jj j1 jm j3 j6 j4;go_wp2;go_roundw
   case rel =>
    refine⟨g,r+1,_,by go_num,by omega,by omega,?_,?_,j2.out,kc.out,jl.out⟩
    ·split<;>(try dsimp only)<;>omega
    split<;>(try dsimp only)<;>omega
   simp[intOf];omega
  have jc:¬(r:Int)<(X.rules.length:Int):=by omega
  rw[qN (by omega)]at j0;dsimp only at j0;subst j0;have c2:wp.cell? ⟨wo.heap.size,2,none⟩=some (.int .i64 q.2):=Q0b j1 2;obtain⟨q1,q2⟩:=q;dsimp only at jr k7 c2 j8 HB b1 b2 b3 b4;have kf:=hid (z0d (w':=wp) HO.out (fun g hg=>j4.block g (HO.lt g hg).2 id));clear hX jh j1 j4;by_cases k8:q2<=(a:Int)
  ·have k9:q2=(a:Int):=by omega
   have k5:(q2==(a:Int))=true:=by simp[k9]
   have j2:Hid (V=([],(a:Int))):=by
    have:=j8.out;rw[qAb k8]at this;exact this.symm
   clear k9 j8;go_wp2;refine qAc (qEo rfl _ _ _) rfl ⟨.slice none 0 0,by rw[j2.out];rfl,je.out,by rw[j2.out];exact qAh _ _ _ _⟩
  have k5:(q2==(a:Int))=false:=by simp;omega
  have j2:Hid (Q6t lns t f q2.toNat (toks++[⟨q1,(a:Int),q2⟩])=V):=by
   have:=j8.out;rw[qAa k8]at this;exact this
  obtain⟨m,rfl⟩:∃m:Nat,q2=m:=⟨q2.toNat,by omega⟩;rw[qAo]at j2;clear j8;go_wp2_with (first
   |(refine qAf rfl 63 _ rfl wo.heap.size rfl _ (Q2t q1 a m) _ _ HB.out qFy rfl W0j ?_)
   |(at_builtin;refine z0f _ rfl _ _ 22 rfl w.heap.size 63 i0 _ 3 24 Tryz.underlying22 kh km kn ko rfl (by decide) _ _ _ rfl (kf.alloc _) ⟨wp.heap.size,0,none⟩ 1 1 [.int .i64 q1,.int .i64 a,.int .i64 m] rfl rfl (z0m rfl) (by intro u hu;simp at hu;rcases hu with rfl|rfl|rfl<;>rfl) (by unfold maxLen;omega) (by omega) (by have:=je.size;simp;omega) ?_;intro v' w2 j9 j5 j1;have c9:w2.cell? ⟨wo.heap.size,2,none⟩=some (.int .i64 m):=(by have hh:w2.heap[wo.heap.size]? = some (.cells (Q2t q1 a m) 63 (0,0)):=(by rw[j5.block _ (by simp;omega) (fun e=>by have:=(HO.lt _ e.symm).2;omega),z0s js];exact HB.out);exact Q0b hh 2);have jy:Q0a w w2:=Mod.grown (S:=fun _=>False) (je.alloc _) j5 (fun k hk jq=>by have:=(HO.lt k hk).1;omega);have ke:=hid j9;have kd:=hid jy;clear j9 j5 j1 jy))
  go_roundw
  case rel =>
   refine⟨f,m,toks++[⟨q1,(a:Int),(m:Int)⟩],rfl,by omega,by omega,by simp;omega,j2.out,?_,kd.out⟩;rw[z0v,qP,qAj];exact ke.out
  simp[intOf];omega
 have k1:¬(a:Int)<(t.size:Int):=by omega
 rw[qAa jq]at j0;have j8:=hid j0;clear j0;go_wp2;refine qAc (qEo rfl _ _ _) rfl ⟨_,by rw[← j8.out];rfl,HF.out,by rw[← j8.out];exact HO.out⟩
theorem z3y{w w':World}{g o:Nat}{cs:List Value}(h:w.rangeAt g o cs)(hb:w'.heap[g]? = w.heap[g]?):w'.rangeAt g o cs:=fun j v hj=>by
 have:=h j v hj;unfold World.cell? at this ⊢;dsimp only at this ⊢;rw[hb];exact this
theorem y91(lns:List Ln)(t:ByteArray):∀(f i:Nat) (toks:List Tk),i<=t.size->toks.length<=i->(∀k∈toks,0<=k.r/\k.r<lns.length)->(∀k∈(Q6t lns t f i toks).1,0<=k.r/\k.r<lns.length)/\(Q6t lns t f i toks).1.length<=t.size/\-1<=(Q6t lns t f i toks).2
 |0,i,toks,hi,hl,h=>by simp[Q6t]
 |f+1,i,toks,hi,hl,h=>by
  obtain⟨b1,b2,b3,b4⟩:=y6m (lns:=lns) hi;rw[y71];split
  ·split
   ·refine⟨fun k hk=>by(cases hk),by simp,by dsimp only;omega⟩
   rename_i c1 c2;refine y91 lns t f _ _ (by omega) (by simp;omega) (fun k hk=>?_);rcases qBs.1 hk with hk|hk
   ·exact h k hk
   simp at hk;subst hk;exact⟨b3,b4 (by omega)⟩
  exact⟨h,by dsimp only;omega,by simp⟩
def ldKz(v:Value):Sem Value:=Instr.loadAt 63 v
theorem x3l(v:Value):Instr.loadAt 63 v=ldKz v:=rfl
theorem y8x{w:World}{g o:Nat}{p k a:Int}(hr:w.rangeAt g o [.int .i64 p,.int .i64 k,.int .i64 a]):(ldKz (.pointer (some ⟨g,o,none⟩))).run Tryz.prog w=.ok (.agg (Q2t p k a)) w :=
 qFo w g o _ _ _ hr qFy rfl W0j
theorem isAggIz(w:World):(isAgg 3).run Tryz.prog w=.ok false w:=by
 unfold isAgg;rw[Sem.run_bind,run_underlying qEj];rfl
theorem partIz(xs:Array Value)(i:Nat)(v:Value)(h:xs[i]? = some v)(w:World):(part 3 xs i).run Tryz.prog w=.ok v w:=by
 simp[part,isAggIz,h]
theorem stoodToz:Tryz.prog.stoodInHeld 63=false:=by kernel_rfl
theorem guardToz:Tryz.prog.eqGuardType Tryz.prog.depth 63=false:=by kernel_rfl
theorem eqToz(d:Nat)(h t a:Int)(w:World):(Op.equalIn (d+4) 63 (.agg (Q2t h t a)) (.agg (Q2t h t a))).run Tryz.prog w=.ok true w:=by
 rw[run_equalIn_struct w (d+3) _ _ _ (by kernel_rfl) stoodToz];have hf : ((Tryz.prog.fieldsOf 63).toList.map fun f => (f.name, f.type, f.offset)) = [("Rule", 3, 0), ("From", 3, 1), ("To", 3, 2)] := by kernel_rfl
 generalize(Tryz.prog.fieldsOf 63).toList=fs at hf;rcases fs with _|⟨f0,_|⟨f1,_|⟨f2,_|⟨f3,fs⟩⟩⟩⟩<;>simp at hf;obtain⟨⟨n0,t0,o0⟩,⟨n1,t1,o1⟩,⟨n2,t2,o2⟩⟩:=hf;simp only[Op.eqFields,n0,t0,o0,n1,t1,o1,n2,t2,o2];simp[partIz,qFh w (d+2) 3 .i64 _ _ _ qEj]
attribute [local go_sem ↓] x3l
theorem y0v(w:World)(va vb:Value)(la:List Tk)(ha:Q43 w va la)(hb:Q43 w vb la)(hl:la.length<=100000) :
  Calls Tryz.prog 6 #[va,vb] w fun e w'=>e=.returned (.bool true)/\Q0a w w':=by
 obtain⟨aa,ca,j5⟩:=z0c ha.own;subst j5;obtain⟨ab,cb,j6⟩:=z0c hb.own;subst j6;have HA:=hid ha;have HB:=hid hb;clear ha hb;go_enter Tryz.func6,Tryz.ntmps6
 go_wp2;go_loopw [5] (fun x5 wr=>∃(i:Nat),x5=.int .i64 i/\i<=la.length/\∃m,wr=w.drewN m)
  (fun x _=>100001-(intOf x).toNat)
 case atStart=>exact⟨0,rfl,by omega,0,rfl⟩
 obtain⟨i,rfl,hi,m,j4⟩:=hrel;subst j4;have j2:Hid (∀m,Q0a w (w.drewN m)):=fun m=>Q3n w m;have j3:=hid (Q19 (B:=100001) i (by omega));by_cases j1:i<la.length
 ·have j8:(i:Int)<(la.length:Int):=by omega
  obtain⟨g,c',hg⟩:=Joins.ownsRow_form HA.own (by omega);rw[qI]at hg;obtain⟨rfl,_,rfl⟩:=hg;obtain⟨g2,j7,j0⟩:=Joins.ownsRow_form HB.own (by omega);rw[qI]at j0;obtain⟨rfl,_,rfl⟩:=j0;have r1:=HA.range i j1;have r2:=HB.range i j1;generalize la[i]=li at r1 r2;obtain⟨p,k,a⟩:=li;have l1:∀m,(ldKz (.pointer (some ⟨g,i*3,none⟩))).run Tryz.prog (w.drewN m)=.ok (.agg (Q2t p k a)) (w.drewN m):=fun m=>y8x (w:=w.drewN m) (z3y r1 rfl);have l2:∀m,(ldKz (.pointer (some ⟨g2,i*3,none⟩))).run Tryz.prog (w.drewN m)=.ok (.agg (Q2t p k a)) (w.drewN m):=fun m=>y8x (w:=w.drewN m) (z3y r2 rfl);have q1:∀w,(Op.equalIn 10000 63 (.agg (Q2t p k a)) (.agg (Q2t p k a))).run Tryz.prog w=.ok true w:=fun w=>eqToz 9996 p k a w;have g1:=guardToz;clear r1 r2;go_wp2_with fail
  go_quiet (fail);go_wp2;go_roundw
  case rel=>exact⟨i+1,by go_num,by omega,_,rfl⟩
  exact j3.out
 have j9:¬(i:Int)<(la.length:Int):=by omega
 go_wp2;go_ret;exact⟨rfl,j2.out _⟩
theorem x51(w:World)(b B0:Nat)(X:SP)(v0 v1 v2 v3 v4 v:Value)(sv:List Value)(lns:List Ln)(toks:List Tk)(h:Q2f w b X v0 v1 v2 v3 v4 sv)(hR:Q7s lns X.rules)(hn:X.rules.length<=1000)(ht:toks.length<=1000)
  (hT:w.ownsRow B0 63 3 v toks.length (Q0y Tk.cells toks)) (hok:∀k∈toks,0<=k.r/\k.r<lns.length) :
  Calls Tryz.prog 21 #[.pointer (some ⟨b,0,none⟩),v] w fun e w'=>∃v',e=.returned v'/\Q0a w w'/\Q43 w' v' (toks.filter fun k=>!Q27 lns k.r):=by
 obtain⟨i0,jv,jx,jy,jz⟩:=Q8y;have HX:=hid (fun w' (hf:Q0a w w')=>h.fresh hf);have HR:=hid hR;have k5:=h.lt;obtain⟨a0,k3,jo⟩:=z0c (h.own 0 _ rfl);dsimp only at jo;subst jo;obtain⟨ao,cap,hv⟩:=z0c hT;have js:Hid (∀w',Q0a w w'->Q43 w' v toks):=fun w' hf=>⟨z0g (z0d hT (fun g hg=>hf.block g (hT.lt g hg).2 id)) (qBq _),fun x _=>rfl⟩;have jr:=hid hok;subst hv;clear h hR hT hok;go_enter Tryz.func21,Tryz.ntmps21
 go_wp2;go_loopw [5,6] (fun x5 x6 wr=>∃(i:Nat),x6=.int .i64 i/\i<=toks.length/\wr.ownsRow w.heap.size 63 3 x5 ((toks.take i).filter fun k=>!Q27 lns k.r).length (Q0y Tk.cells ((toks.take i).filter fun k=>!Q27 lns k.r))/\Q0a w wr)
   (fun _ x _=>1001-(intOf x).toNat)
 case atStart=>exact⟨0,rfl,by omega,qAh _ _ _ _,mRf _ _⟩
 obtain⟨i,rfl,hi,j2,j9⟩:=hrel;have HO:=hid j2;have HF:=hid j9;obtain⟨ro,rc,jw⟩:=z0c j2;subst jw;have hX:=HX.out wr j9;have k0:=Q2f.cell hX 0;simp at k0;have k4:=hX.lt;have jk:Hid (1001-(intOf (.int .i64 ((i:Int)+1))).toNat<1001-(intOf (.int .i64 (i:Int))).toNat):=by unfold Hid;simp[intOf];omega
 have je:((toks.take i).filter fun k=>!Q27 lns k.r).length<=1000:=by
  have:=qCc (fun k:Tk=>!Q27 lns k.r) (toks.take i);have:=List.length_take_le i toks;omega
 clear j2;by_cases ja:i<toks.length
 ·have k1:(i:Int)<(toks.length:Int):=by omega
  have j5:=js.out wr j9;obtain⟨g,c',hg⟩:=Joins.ownsRow_form j5.own (by omega);rw[qI]at hg;obtain⟨rfl,_,rfl⟩:=hg;have j3:(toks.take (i+1)).filter (fun k=>!Q27 lns k.r)=((toks.take i).filter fun k=>!Q27 lns k.r)++(if Q27 lns toks[i].r=true then [] else [toks[i]]):=by
   rw[qCu,qE ja,qBx];simp only[Option.toList_some,qAq,List.filter_nil];cases Q27 lns toks[i].r<;>simp
  obtain⟨o1,o2⟩:=jr.out toks[i] (by simp);have t0:=j5.cell i 0 ja (by omega);have jf:=j5.range i ja;have k8:=(j5.own.lt g rfl).2;generalize toks[i]=tk at j3 o1 o2 t0 jf;obtain⟨tr,ta,tb⟩:=tk;dsimp only at o1 o2 j3;simp[Tk.cells]at t0;obtain⟨r,rfl⟩:∃r:Nat,tr=r:=⟨tr.toNat,by omega⟩;have jl:r<lns.length:=by omega
  have j6:r<X.rules.length:=by have:=HR.len;omega
  have k2:(r:Int)<(X.rules.length:Int):=by omega
  have j8:=Q2f.rules hX;obtain⟨gg,ju,hv⟩:=Joins.ownsRow_form j8.own (by omega);rw[qI]at hv;obtain⟨rfl,_,rfl⟩:=hv;have c1:=j8.cell r 1 j6 (by omega);have k6:=(j8.own.lt gg rfl).2;obtain⟨y1,_⟩:=HR.at' r _ _ (qE jl) (qE j6);have jm:Q27 lns (r:Int)=X.rules[r].ln.skip:=by
   unfold Q27;rw[qAa (by omega),qAo,qE jl];exact y1.symm
  rw[jm]at j3;generalize X.rules[r]=x at c1 j3;obtain⟨⟨xr,xk,xn,xp,kb,ka⟩,vs,vp,k9⟩:=x;simp[ZLV.cells]at c1;dsimp only at j3;have j7:=hid j3;have ji:=hid jf;clear y1 jm j3 j8 hX j5 jf j9;cases xk
  ·have j4:Hid ((toks.take (i+1)).filter (fun k=>!Q27 lns k.r)=((toks.take i).filter fun k=>!Q27 lns k.r)++[⟨(r:Int),ta,tb⟩]):=by
    unfold Hid;rw[j7.out,qAa (by simp)]
   clear j7;generalize(toks.take i).filter (fun k=>!Q27 lns k.r)=fl at HO j4 je;go_wp2_with fail
   go_quiet (fail);have jc:Hid ((wr.drewN nq).ownsRow w.heap.size 63 3 (.slice ro fl.length rc) fl.length (Q0y Tk.cells fl)):=HO.out;have jh:Hid ((wr.drewN nq).rangeAt g (i*3) [.int .i64 r,.int .i64 ta,.int .i64 tb]):=z3y ji.out rfl;have jb:Hid (Q0a w (wr.drewN nq)):=HF.trans (Q3n _ _);generalize hWW:wr.drewN nq=W3 at jc jh jb ⊢;clear hWW HO ji HF;have k7:=jb.size;go_wp2_with (first
    |(refine qAe rfl 63 _ rfl g (i*3) rfl [.int .i64 r,.int .i64 ta,.int .i64 tb] _ jh.out qFy rfl W0j ?_)
    |(at_builtin;refine z0f _ rfl _ _ 22 rfl w.heap.size 63 i0 _ 3 24 Tryz.underlying22 jv jx jy jz rfl (by decide) _ _ _ rfl (jc.alloc _) ⟨W3.heap.size,0,none⟩ 1 1 [.int .i64 r,.int .i64 ta,.int .i64 tb] rfl rfl (z0m rfl) (by intro u hu;simp at hu;rcases hu with rfl|rfl|rfl<;>rfl) (by unfold maxLen;omega) (by omega) (by simp;omega) ?_;intro v' w2 j1 j0 jd;have jj:Q0a w w2:=Mod.grown (S:=fun _=>False) (jb.alloc _) j0 (fun k hk ja=>by have:=(jc.lt k hk).1;omega);have jq:=hid j1;have jp:=hid jj;clear j1 j0 jd jj))
   go_roundw
   case rel =>
    refine⟨i+1,by go_num,by omega,?_,jp.out⟩;rw[j4.out,z0v,qP,qAj];exact jq.out
   exact jk.out
  have j4:Hid ((toks.take (i+1)).filter (fun k=>!Q27 lns k.r)=(toks.take i).filter (fun k=>!Q27 lns k.r)):=by
   unfold Hid;rw[j7.out,qAb rfl,qBd]
  clear j7;generalize(toks.take i).filter (fun k=>!Q27 lns k.r)=fl at HO j4 je;go_wp2_with fail
  go_quiet (fail);go_wp2;go_roundw
  case rel =>
   refine⟨i+1,by go_num,by omega,?_,HF.trans (Q3n _ _)⟩;rw[j4.out];exact HO.out
  exact jk.out
 have k1:¬(i:Int)<(toks.length:Int):=by omega
 have jn:toks.take i=toks:=qDg (by omega);have jt:=hid jn;clear jn hX;generalize hfx:(toks.take i).filter (fun k=>!Q27 lns k.r)=fl at HO je;have jg:=hid hfx;clear hfx;go_wp2;go_ret;refine⟨_,rfl,HF.out,?_⟩;rw[jt.out]at jg;rw[jg.out];exact⟨z0g HO.out (qBq _),fun x _=>rfl⟩
theorem x7y{s:ByteArray}{xs:List ZLV}(hs:s.size<=800)(h:Q88 s xs):Q7s (Q0i s) (Q1b Q2m xs).1.rules:=by
 obtain⟨e1,e2⟩:=x40 h;refine⟨e1,fun k x z h1 h2=>?_⟩;obtain⟨y1,L,y2,y3,y4⟩:=e2 k x z h1 h2;exact⟨y1,L,y2,by omega,y4⟩
end Go.Proofs.YtbdpfmalabgmbaaGreat
