import Derived.Test.YtcpceafmlgaodaaGreatRb9
namespace Go.Proofs.YtcpceafmlgaodaaGreat
open Go.RowKit
set_option maxRecDepth 99999
set_option maxHeartbeats 0
set_option linter.all false
theorem x6d(w:World)(B ab b R H:Nat)(q:List Q1)(gn:Nat)(vL:Value)(gL:List Nat)(hA:Q7y w B ab b R H q gn vL gL)(hS:Q3x w b R H q)(hQ:QOk R H q)(hnl:(Q4j (bs R) false q H).length=H) :
  Calls Tryz.prog 93 #[.pointer (some ⟨ab,0,none⟩)] w fun e w'=>MxRet w H (laF R H (Q4j (bs R) false q H) q) e w':=by
 obtain⟨a0,c0,a1,c1,a2,c2,v3,v4,sv,hN⟩:=hS;have r8:=hQ.r8;have h8:=hQ.h8;have p20:=hQ.p20;have p0:=Q0b hA.o 0;have p1:=Q0b hA.o 1;simp at p0 p1;have jm:=hA.n;generalize Q4j (bs R) false q H=null at jm hnl ⊢;have k7:=hid jm;have k6:=hid hnl;clear hA jm hnl;have HQ:=hid hQ;have HN:=hid hN;have k1:=hN.k1;have k2:=hN.k2;have SQ:=hid (z68 w H (by omega));have CH:=hid (fun(W:World) (B:Nat) (v:Value) (gs:List Nat) (M:Mat) (h1:Q1t W B H v gs M) (h2:Sq H M)=>z8l W B H v gs M h1 h2 (by omega));have hV:Q49 (cdI (laC R null) laX (laY R) q (sqF H))=laF R H null q:=rfl;generalize laF R H null q=V at hV ⊢;have HV:=hid hV;clear hN hQ hV;go_enter Tryz.func93,Tryz.ntmps93
 go_wp2_with (first
  |(go_at_call 74;refine(SQ.out).mono ?_;rintro e w3⟨v,gs,rfl,hm,hfx⟩;obtain⟨ao,cp,hv⟩:=z0d hm.own;subst hv;have HM:=hid hm;have HF:=hid hfx;clear hm hfx))
 generalize hL0:cdI (laC R null) laX (laY R) q (sqF H)=L0 at HV;have jx:=hid hL0;clear hL0 SQ;go_loopw [5,6,7,8] (fun x5 _ _ _ wr=>∃(i:Nat) (M:Mat),x5=.int .i64 i/\i<=q.length/\Q1t wr w.heap.size H (.slice ao gs.length cp) gs M/\Sq H M/\Q0a w wr/\cdI (laC R null) laX (laY R) (q.drop i) M=L0)
   (fun x _ _ _ _=>1001-(intOf x).toNat)
 case atStart=>exact⟨0,_,rfl,by omega,HM.out,y1k H,HF.out,jx.out⟩
 obtain⟨i,M,rfl,hi,hm,hs,hfr,hrec⟩:=hrel;have k5:=hid (Q15 (B:=1001) i (by omega));have jc:=hid hm;have jl:=hid hs;have ji:=hid hfr;have kf:=Q0i hfr k1;clear HM HF jx hs;by_cases hlt:i<q.length
 ·have s1:(i:Int)<(q.length:Int):=by omega
  rw[v05 _ _ _ _ _ _ hlt]at hrec;generalize hF2:cdJ (laC R null q[i]) (laX q[i]) (laY R q[i]) q[i].2.length 0 M=F2 at hrec;have j3:=hid hrec;have jz:=HQ.hd q[i] (qG hlt);have jf:=HQ.sy q[i] (qG hlt);obtain⟨g3,o3,c3,g4,o4,n4,c4,al,cl,hP⟩:=HN.pr hlt;generalize q[i]=z at hF2 jz jf hP;have jv:=hid hF2;have HP:=hid hP;have ke:=jf.1;have s4:(i:Int)<(n4:Int):=by have:=hP.n4;omega
  have jy:=hid jf.2;have q4:=(hP.fresh hfr).q4;have y4:=(hP.fresh hfr).y4;obtain⟨hdn,hhn⟩:∃a:Nat,z.1=a:=⟨z.1.toNat,by omega⟩;have ka:hdn<H:=by omega
  have jw:=hid hhn;clear hrec hF2 hP jf jz hfr hhn hm;go_wp2;go_loopw [6,7,8] (fun x6 _ _ wr=>∃(j:Nat) (M:Mat),x6=.int .i64 j/\j<=z.2.length/\Q1t wr w.heap.size H (.slice ao gs.length cp) gs M/\Sq H M/\Q0a w wr/\cdJ (laC R null z) (laX z) (laY R z) (z.2.length-j) j M=F2)
    (fun x _ _ _=>1001-(intOf x).toNat)
  case atStart=>exact⟨0,M,rfl,by omega,jc.out,jl.out,ji.out,jv.out⟩
  obtain⟨j,M2,rfl,hj,hm,hs,hfr,hrec⟩:=hrel;have jj:=hid (Q15 (B:=1001) j (by omega));have jd:=hid hm;have j7:=hid hs;have jb:=hid hfr;have j2:=HP.fresh hfr;have jp:=j2.l;clear jc jl ji jv q4 y4;have q4:=j2.q4;have y4:=j2.y4;by_cases hlt2:j<z.2.length
  ·have s2:(j:Int)<(z.2.length:Int):=by omega
   rw[v06 _ _ _ _ _ _ hlt2]at hrec;have BQ:=hid (fun n=>z1i (wr.drewN n) b R a0 c0 (Q0i (hfr.trans (Q0r wr n)) HN.k0) (by omega));have jq:=jp;obtain⟨ao5,cp5,e5,hc5,cell5⟩:=jp;rw[qI]at e5;obtain⟨rfl,_,rfl⟩:=e5;obtain⟨gl,ol,rfl,y5⟩:=cell5 j hlt2;have jn:=jy.out z.2[j] (qG hlt2);have je:z.2.getD j 0=z.2[j]:=by rw[qD,qE hlt2];rfl
   have ja:laX z=hdn:=by unfold laX;rw[jw.out];simp
   have jr:laY R z j=(z.2[j]-bs R).toNat:=by unfold laY;rw[je]
   have jo:laC R null z j=(decide (0<=z.2[j]-bs R)&&Q34 (bs R) null (z.2.drop (j+1))):=by unfold laC;rw[je]
   rw[jo,ja,jr]at hrec;have NQ:=hid (fun(n:Nat) (v:Value) (hv:Q0z wr v (z.2.drop (j+1)))=>z4o (wr.drewN n) b R H gn a0 c0 v (z.2.drop (j+1)) null (Q0i (hfr.trans (Q0r wr n)) HN.k0) (by omega) (by omega) (hv.fresh (Q0r wr n)) (by rw[qBx];omega) (k7.fresh (hfr.trans (Q0r wr n))) k6.out (fun c hc=>jy.out c (List.mem_of_mem_drop hc)));have u1:=Q0i hfr p1;generalize z.2[j]=c at hrec jn y5;generalize Q34 (bs R) null (z.2.drop (j+1))=nb at hrec NQ;have s8:(j:Int)+1<=(z.2.length:Int):=by omega
   have s9:(j:Int)+1<=(cl:Int):=by omega
   have j8:Hid (cl=j+1->∀(ao:Option Addr) (n c:Nat),n=0->Q0z wr (.slice ao n c) (z.2.drop (j+1))):=hid (fun h ao n c hn=>Q0z.none (qAi (by omega)) hn);have j9:Hid (Q0z wr (.slice (some ⟨gl,ol+(j+1),none⟩) (z.2.length-(j+1)) (cl-(j+1))) (z.2.drop (j+1))):=hid (Q0z.drop jq (j+1) (by omega));by_cases hneg:0<=c-bs R
   ·obtain⟨yn,hyn⟩:∃a:Nat,c-bs R=a:=⟨(c-bs R).toNat,by omega⟩;rw[qBl hneg,qBa,hyn,qAl]at hrec;have kc:yn<H:=by unfold bs at hyn;omega
    have t0:(0:Int)<=(yn:Int):=by omega
    have t2:(yn:Int)<(H:Int):=by omega
    have kd:IntKind.i64.wrap (c-bs R)=(yn:Int):=by rw[IntKind.wrap_i64];unfold bs at hyn ⊢;omega
    have kb:gs.length=H:=by rw[hm.len,hs.len]
    have t1:(hdn:Int)<(gs.length:Int):=by omega
    obtain⟨gx,hgx⟩:∃g,gs[hdn]? = some g:=⟨_,qE (by omega)⟩;obtain⟨gv,cv,hv⟩:=Joins.ownsRow_form hm.own (by omega);rw[qI]at hv;obtain⟨rfl,_,rfl⟩:=hv;have j6:=hid hgx;have j0:Hid (cdJ (laC R null z) (laX z) (laY R z) (z.2.length-(j+1)) (j+1) (if nb=true then Q7o M2 hdn yn true else M2)=F2):=hid (by rw[ja];exact hrec);clear hrec jn hneg hyn kb jo ja jr je hs hm hgx cell5 hfr jq;go_wp2;go_quiet (first|(go_at_call 34;refine Calls.quiet_of_same (BQ.out _)));have j1:=Q0r wr nq;have js:=Q0i j1 q4;have ju:=Q0i j1 y4;have jt:=Q0i j1 u1;obtain⟨W0,hW0⟩:∃W0,W0=wr.drewN nq:=⟨_,rfl⟩;have NR:=hid (fun(n:Nat) (v:Value) (hv:Q0z wr v (z.2.drop (j+1)))=>NQ.out (nq+n) v hv);simp only[← World.drewN_drewN]at NR;rw[← hW0]at j1 js ju jt NR ⊢;have jh:=hid j1;clear hW0 j1 q4 y4 u1 NQ;go_upto_region 10 with fail
    go_cut [8] (fun s8 wx=>s8=.bool nb/\Q0a W0 wx)
    case first =>
     clear j2;rcases(show cl=j+1∨¬cl=j+1 by omega)with hc1|hc1
     ·have jg:=hid hc1;subst hc1;go_quiet (first|(go_at_call 68;refine Calls.quiet_of (NR.out _ _ (j8.out jg.out _ _ _ (by first|rfl|omega)))));go_wp2_with fail
      go_meet;exact⟨rfl,Q0r W0 nq⟩
     have k9:¬cl-(j+1)=0:=by omega
     go_quiet (first|(go_at_call 68;refine Calls.quiet_of (NR.out _ _ j9.out)));go_wp2_with fail
     go_meet;exact⟨rfl,Q0r W0 nq⟩
    obtain⟨rfl,hf2⟩:=hcut;have hf:=jh.trans hf2;cases nb
    ·have j5:=hid hf;clear hf hf2 j2;go_wp2;go_roundw
     case rel=>exact⟨j+1,M2,by go_num,by omega,jd.fresh j5.out,j7.out,jb.trans j5.out,by have:=j0.out;rw[qAa (by simp)]at this;exact this⟩
     exact jj.out
    have j4:=jd.fresh hf;have p3:=(j2.fresh hf).q3;have e3:=(j2.fresh hf).y3;rw[jw.out]at e3;have r1:=j4.row j6.out;have d1:=j4.cell j7.out j6.out kc;have d2:=(j4.blk hdn gx j6.out).2.frozen yn;have jk:Hid (Q1t (wc.setCell ⟨gx,yn,none⟩ (.bool true)) w.heap.size H (.slice (some ⟨gv,0,none⟩) gs.length cp) gs (Q7o M2 hdn yn true)/\Sq H (Q7o M2 hdn yn true)/\Q0a w (wc.setCell ⟨gx,yn,none⟩ (.bool true))):=hid ⟨j4.put j6.out yn true,z9x j7.out ka true,(jb.trans hf).setCell (fun hlt=>by have:=(j4.blk hdn gx j6.out).1;exact absurd hlt (by show ¬gx<w.heap.size;omega)) _⟩;clear j4 hf hf2 j2 y5;go_wp2;go_roundw
    case rel=>exact⟨j+1,_,by go_num,by omega,jk.1,jk.2.1,jk.2.2,by have:=j0.out;rw[qAb rfl]at this;exact this⟩
    exact jj.out
   have j0:Hid (cdJ (laC R null z) (laX z) (laY R z) (z.2.length-(j+1)) (j+1) M2=F2):=hid (by rw[qBh hneg,qCi,qAa (by simp)]at hrec;rw[ja];exact hrec);have t0:¬0<=c-bs R:=hneg;have kd:IntKind.i64.wrap (c-bs R)=c-bs R:=by rw[IntKind.wrap_i64];unfold bs;omega
   clear hrec jn jo ja jr je hs hm cell5 hfr j2 jq;go_wp2;go_quiet (first|(go_at_call 34;refine Calls.quiet_of_same (BQ.out _)));have j1:=Q0r wr nq;have js:=Q0i j1 q4;have ju:=Q0i j1 y4;have jt:=Q0i j1 u1;obtain⟨W0,hW0⟩:∃W0,W0=wr.drewN nq:=⟨_,rfl⟩;have NR:=hid (fun(n:Nat) (v:Value) (hv:Q0z wr v (z.2.drop (j+1)))=>NQ.out (nq+n) v hv);simp only[← World.drewN_drewN]at NR;rw[← hW0]at j1 js ju jt NR ⊢;have jh:=hid j1;clear hW0 j1 q4 y4 u1 NQ;go_upto_region 10 with fail
   go_cut [8] (fun s8 wx=>s8=.bool nb/\Q0a W0 wx)
   case first =>
    rcases(show cl=j+1∨¬cl=j+1 by omega)with hc1|hc1
    ·have jg:=hid hc1;subst hc1;go_quiet (first|(go_at_call 68;refine Calls.quiet_of (NR.out _ _ (j8.out jg.out _ _ _ (by first|rfl|omega)))));go_wp2_with fail
     go_meet;exact⟨rfl,Q0r W0 nq⟩
    have k9:¬cl-(j+1)=0:=by omega
    go_quiet (first|(go_at_call 68;refine Calls.quiet_of (NR.out _ _ j9.out)));go_wp2_with fail
    go_meet;exact⟨rfl,Q0r W0 nq⟩
   obtain⟨rfl,hf2⟩:=hcut;have j5:=hid (jh.trans hf2);clear hf2;go_wp2;go_roundw
   case rel=>exact⟨j+1,M2,by go_num,by omega,jd.fresh j5.out,j7.out,jb.trans j5.out,j0.out⟩
   exact jj.out
  have s2:¬(j:Int)<(z.2.length:Int):=by omega
  have k3:z.2.length-j=0:=by omega
  rw[k3]at hrec;have j0:=hid hrec;clear hrec k3 hm hs hfr jp j2;go_wp2;go_roundw
  case rel=>exact⟨i+1,M2,by go_num,by omega,jd.out,j7.out,jb.out,by have:=j0.out;unfold cdJ at this;rw[this];exact j3.out⟩
  exact k5.out
 have s1:¬(i:Int)<(q.length:Int):=by omega
 rw[qAi (by omega)]at hrec;have j3:=hid hrec;clear hrec hfr hm;go_wp2_with (first
  |(go_at_call 92;refine(CH.out _ _ _ _ _ jc.out jl.out).mono ?_;rintro e w3⟨rfl,hm3,hu3⟩;have k4:=hid hm3;have k8:=hid hu3;clear hm3 hu3))
 go_ret;refine⟨_,gs,rfl,?_,?_⟩
 ·rw[← HV.out,← j3.out];exact k4.out
 exact ji.trans' k8.out (fun k hlt2 hk=>by
  obtain⟨j,hj,rfl⟩:=qAv hk;have:=(jc.blk j _ (qE hj)).1;omega)
end Go.Proofs.YtcpceafmlgaodaaGreat
