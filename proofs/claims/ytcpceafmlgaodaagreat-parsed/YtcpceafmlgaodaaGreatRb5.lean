import Derived.Test.YtcpceafmlgaodaaGreatRb3
import Derived.StillTailTactics
namespace Go.Proofs.YtcpceafmlgaodaaGreat
open Go.RowKit
set_option maxRecDepth 99999
set_option maxHeartbeats 0
set_option linter.all false
theorem Q0z.take{w:World}{ao:Option Addr}{n cap:Nat}{l:List Int}(h:Q0z w (.slice ao n cap) l)(hn:n=l.length){j:Nat}(hj:j<=l.length):Q0z w (.slice ao j cap) (l.take j):=by
 obtain⟨a1,c1,e,hc,hcell⟩:=h;rw[qI]at e;obtain⟨rfl,_,rfl⟩:=e;refine⟨ao,cap,by rw[qBo,qDq hj],by rw[qBo];omega,fun k hk=>?_⟩;rw[qBo]at hk;obtain⟨g,o,e1,e2⟩:=hcell k (by omega);exact⟨g,o,e1,by rw[List.getElem_take];exact e2⟩
theorem v06(c:Nat->Bool)(x:Nat)(y:Nat->Nat)(n j:Nat)(M:Mat)(h:j<n):cdJ c x y (n-j) j M=cdJ c x y (n-(j+1)) (j+1) (if c j=true then Q7o M x (y j) true else M):=by
 rw[show n-j=(n-(j+1))+1 by omega];rfl
theorem v05(c:Q1->Nat->Bool)(x:Q1->Nat)(y:Q1->Nat->Nat)(q:List Q1)(i:Nat)(M:Mat)(h:i<q.length):cdI c x y (q.drop i) M=cdI c x y (q.drop (i+1)) (cdJ (c q[i]) (x q[i]) (y q[i]) q[i].2.length 0 M):=by
 rw[qC h];rfl
structure PrAt(w:World)(b:Nat)(P i:Nat)(x:Q1)(g3 o3 c3 g4 o4 n4 c4:Nat)(al:Option Addr)(cl:Nat):Prop where
 q3:w.cell? ⟨b,3,none⟩=some (.slice (some ⟨g3,o3,none⟩) P c3)
 y3:w.cell? ⟨g3,o3+i,none⟩=some (.int .i64 x.1)
 q4:w.cell? ⟨b,4,none⟩=some (.slice (some ⟨g4,o4,none⟩) n4 c4)
 n4:i<n4
 y4:w.cell? ⟨g4,o4+i,none⟩=some (.slice al x.2.length cl)
 l:Q0z w (.slice al x.2.length cl) x.2
theorem NV.pr{w:World}{b R H:Nat}{q:List Q1}{a0 a1 a2:Option Addr}{c0 c1 c2:Nat}{v3 v4:Value}{sv:List Value}(h:NV w b R H q a0 c0 a1 c1 a2 c2 v3 v4 sv){i:Nat}(hi:i<q.length) :
  ∃g3 o3 c3 g4 o4 n4 c4 al cl,PrAt w b q.length i q[i] g3 o3 c3 g4 o4 n4 c4 al cl:=by
 have j0:i<sv.length:=by rw[h.len];exact hi
 obtain⟨ao4,cp4,e4,hc4,cell4⟩:=h.r4;obtain⟨g4,o4,rfl,y4⟩:=cell4 i j0;have q4:=h.k4;rw[e4]at q4;have hl:=h.each i sv[i] q[i] (qE j0) (qE hi);obtain⟨aol,cpl,el,hcl,celll⟩:=id hl;rw[el]at y4 hl;obtain⟨ao3,cp3,e3,hc3,cell3⟩:=h.r3;obtain⟨g3,o3,rfl,y3⟩:=cell3 i (by rw[qAo];exact hi);rw[qBt]at y3;rw[qAo]at e3;have q3:=h.k3;rw[e3]at q3;exact⟨g3,o3,cp3,g4,o4,sv.length,cp4,aol,cpl,q3,y3,q4,j0,y4,hl⟩
theorem PrAt.fresh{w w':World}{b P i:Nat}{x:Q1}{g3 o3 c3 g4 o4 n4 c4:Nat}{al:Option Addr}{cl:Nat}(h:PrAt w b P i x g3 o3 c3 g4 o4 n4 c4 al cl)(hf:Q0a w w'):PrAt w' b P i x g3 o3 c3 g4 o4 n4 c4 al cl :=
 ⟨Q0i hf h.q3,Q0i hf h.y3,Q0i hf h.q4,h.n4,Q0i hf h.y4,h.l.fresh hf⟩
theorem x27(w:World)(b R H gn:Nat)(q:List Q1)(null:List Bool)(hS:Q3x w b R H q)(hQ:QOk R H q)(hn:Q1y w gn null)(hnl:null.length=H) :
  Calls Tryz.prog 66 #[.pointer (some ⟨b,0,none⟩),bsl gn H] w fun e w'=>MxRet w (R+1+H) (ldF R H null q) e w':=by
 obtain⟨a0,c0,a1,c1,a2,c2,v3,v4,sv,hN⟩:=hS;have r8:=hQ.r8;have h8:=hQ.h8;have p20:=hQ.p20;have HQ:=hid hQ;have HN:=hid hN;have ju:=hid hn;have js:=hid hnl;have k0:=hN.k0;have k1:=hN.k1;have k2:=hN.k2;have BA:=hid (fun(W:World) (hW:Q0a w W)=>z1i W b R a0 c0 (Q0i hW k0) (by omega));have SQ:Hid (∀W:World,Q0a w W->W.heap.size=w.heap.size->Calls Tryz.prog 74 #[.int .i64 ((R+1+H:Nat):Int)] W fun e w'=>∃v gs,e=.returned v/\Q1t w' w.heap.size (R+1+H) v gs (sqF (R+1+H))/\Q0a w w'):=hid (fun W hW hz=>by
  refine(z68 W (R+1+H) (by omega)).mono ?_;rintro e w'⟨v,gs,he,hm,hf⟩;rw[hz]at hm;exact⟨v,gs,he,hm,hW.trans hf⟩)
 have CH:=hid (fun(W:World) (B:Nat) (v:Value) (gs:List Nat) (M:Mat) (h1:Q1t W B (R+1+H) v gs M) (h2:Sq (R+1+H) M)=>z8l W B (R+1+H) v gs M h1 h2 (by omega));have jo:IntKind.i64.wrap (bs R+(H:Int))=((R+1+H:Nat):Int):=by rw[IntKind.wrap_i64];unfold bs;omega
 have hV:Q49 (cdI (ldZc R null) (ldX R) Q9y q (sqF (R+1+H)))=ldF R H null q:=rfl;have jz:R+1+H<=100:=by omega
 generalize ldF R H null q=V at hV;generalize j7:R+1+H=n at hV SQ CH jo jz ⊢;have jt:=hid j7;have HV:=hid hV;clear hN hQ hV hn hnl k0 j7;go_enter Tryz.func66,Tryz.ntmps66
 go_upto_region 1 with fail
 go_cut [5] (fun s5 wx=>∃gs,Q1t wx w.heap.size n s5 gs (sqF n)/\Q0a w wx)
 case first =>
  go_region_with (first
   |(go_at_call 34;refine(BA.out _ (by first|exact mRf _ w|exact(mRf _ w).drew|exact((mRf _ w).drew).drew)).mono ?_;rintro e w'⟨rfl,hw⟩;rw[hw];clear hw)
   |(go_at_call 74;refine(SQ.out _ (by first|exact mRf _ w|exact(mRf _ w).drew|exact((mRf _ w).drew).drew) (by rfl)).mono ?_;rintro e w3⟨v,gs,rfl,hm3,hf3⟩))
  all_goals
   go_wp2_with fail
   go_meet;exact⟨gs,hm3,hf3⟩
 obtain⟨gs,hm,hfx⟩:=hcut;have HM:=hid hm;have HF:=hid hfx;generalize hL0:cdI (ldZc R null) (ldX R) Q9y q (sqF n)=L0 at HV;have jj:=hid hL0;obtain⟨ao,cp,hv⟩:=z0d hm.own;subst hv;clear hL0 hm hfx SQ jo;go_wp2;go_loopw [6,7,8] (fun x6 _ _ wr=>∃(i:Nat) (M:Mat),x6=.int .i64 i/\i<=q.length/\Q1t wr w.heap.size n (.slice ao gs.length cp) gs M/\Sq n M/\Q0a w wr/\cdI (ldZc R null) (ldX R) Q9y (q.drop i) M=L0)
   (fun x _ _ _=>1001-(intOf x).toNat)
 case atStart=>exact⟨0,_,rfl,by omega,HM.out,y1k n,HF.out,jj.out⟩
 obtain⟨i,M,rfl,hi,hm,hs,hfr,hrec⟩:=hrel;have jr:=hid (Q15 (B:=1001) i (by omega));have j6:=hid hm;have jf:=hid hs;have ja:=hid hfr;have k6:=Q0i hfr k1;clear HM HF jj hm hs;by_cases hlt:i<q.length
 ·have s1:(i:Int)<(q.length:Int):=by omega
  rw[v05 _ _ _ _ _ _ hlt]at hrec;generalize hF2:cdJ (ldZc R null q[i]) (ldX R q[i]) (Q9y q[i]) q[i].2.length 0 M=F2 at hrec;have j2:=hid hrec;have j5:=HQ.hd q[i] (qG hlt);have j8:=HQ.sy q[i] (qG hlt);obtain⟨g3,o3,c3,g4,o4,n4,c4,al,cl,hP⟩:=HN.pr hlt;generalize q[i]=z at hF2 j5 j8 hP;have ji:=hid hF2;have HP:=hid hP;have k5:=j8.1;have s4:(i:Int)<(n4:Int):=by have:=hP.n4;omega
  have q4:=(hP.fresh hfr).q4;have y4:=(hP.fresh hfr).y4;have jl:=hid j8.2;have jp:=hid j5;clear hrec hF2 hP j8 j5 hfr;go_wp2;go_loopw [7,8] (fun x7 _ wr=>∃(j:Nat) (M:Mat),x7=.int .i64 j/\j<=z.2.length/\Q1t wr w.heap.size n (.slice ao gs.length cp) gs M/\Sq n M/\Q0a w wr/\cdJ (ldZc R null z) (ldX R z) (Q9y z) (z.2.length-j) j M=F2)
    (fun x _ _=>1001-(intOf x).toNat)
  case atStart=>exact⟨0,M,rfl,by omega,j6.out,jf.out,ja.out,ji.out⟩
  obtain⟨j,M2,rfl,hj,hm,hs,hfr,hrec⟩:=hrel;have jk:=hid (Q15 (B:=1001) j (by omega));have jd:=hid hm;have j4:=hid hs;have jb:=hid hfr;have j3:=HP.fresh hfr;have q4:=j3.q4;have y4:=j3.y4;have jh:=j3.l;clear j6 jf ja ji q4 y4;have q4:=j3.q4;have y4:=j3.y4;by_cases hlt2:j<z.2.length
  ·have s2:(j:Int)<(z.2.length:Int):=by omega
   have s3:(j:Int)<=(z.2.length:Int):=by omega
   rw[v06 _ _ _ _ _ _ hlt2]at hrec;have j0:=hid hrec;have NO:=hid (z4o wr b R H gn a0 c0 (.slice al j cl) (z.2.take j) null (Q0i hfr HN.k0) (by omega) (by omega) (jh.take rfl (by omega)) (by rw[qBo];omega) (ju.fresh hfr) js.out (fun c hc=>jl.out c (qEd hc)));obtain⟨ao5,cp5,e5,hc5,cell5⟩:=jh;rw[qI]at e5;obtain⟨rfl,_,rfl⟩:=e5;obtain⟨gl,ol,rfl,y5⟩:=cell5 j hlt2;have s6:z.2.length<=cl:=hc5;have s7:(j:Int)<=(cl:Int):=by omega
   have HC:Hid (ldZc R null z j=Q34 (bs R) null (z.2.take j)):=hid rfl;generalize Q34 (bs R) null (z.2.take j)=nb at NO HC;clear hrec hm hs hfr cell5 j3;cases nb
   ·go_wp2_with (first
     |(go_at_call 68;refine(NO.out).mono ?_;rintro e w'⟨rfl,m,hw⟩;have HW:=hid hw;clear hw))
    go_roundw
    case rel =>
     have hf:=Q0r wr m;rw[← HW.out]at hf;refine⟨j+1,M2,by go_num,by omega,jd.fresh hf,j4.out,jb.trans hf,?_⟩;have:=j0.out;rw[HC.out,qAa (by simp)]at this;exact this
    exact jk.out
   go_upto_region 10 with(first
    |(go_at_call 68;refine(NO.out).mono ?_;rintro e W1⟨rfl,m,hw⟩;have HW:=hid hw;clear hw))
   have hf:Q0a wr W1:=by rw[HW.out];exact Q0r wr m
   have jc:=hid (jb.trans hf);have jg:=HP.fresh jc.out;have p3:=jg.q3;have e3:=jg.y3;have p4:=Q0i hf q4;have e4:=Q0i hf y4;have e5:=Q0i hf y5;have j1:=jd.fresh hf;have j5:=jp.out;obtain⟨hdn,hhn⟩:∃a:Nat,z.1=a:=⟨z.1.toNat,by omega⟩;have jx:=jl.out z.2[j] (qG hlt2);obtain⟨yn,hyn⟩:∃a:Nat,z.2[j]=a:=⟨z.2[j].toNat,by omega⟩;have j9:ldX R z=R+1+hdn:=by unfold ldX bs;omega
   have jn:Q9y z j=yn:=by unfold Q9y;rw[qD,qE hlt2,qDa,hyn,qAl]
   have j7:=jt.out;obtain⟨xn,hx⟩:∃a,a=R+1+hdn:=⟨_,rfl⟩;rw[← hx]at j9;have k3:xn<n:=by omega
   have k4:yn<n:=by omega
   have jy:gs.length=n:=by rw[j1.len,j4.len]
   obtain⟨gx,hgx⟩:∃g,gs[xn]? = some g:=⟨_,qE (by omega)⟩;obtain⟨gv,cv,hv⟩:=Joins.ownsRow_form j1.own (by omega);rw[qI]at hv;obtain⟨rfl,_,rfl⟩:=hv;have r1:=j1.row hgx;have d1:=j1.cell j4.out hgx k4;have d2:=(j1.blk xn gx hgx).2.frozen yn;rw[hhn]at e3;rw[hyn]at e5;have t1:(xn:Int)<(gs.length:Int):=by omega
   have t2:(yn:Int)<(n:Int):=by omega
   have k7:IntKind.i64.wrap (bs R+(hdn:Int))=(xn:Int):=by rw[IntKind.wrap_i64];unfold bs;omega
   have je:Hid (Q1t (W1.setCell ⟨gx,yn,none⟩ (.bool true)).drew w.heap.size n (.slice (some ⟨gv,0,none⟩) gs.length cp) gs (Q7o M2 xn yn true)/\Sq n (Q7o M2 xn yn true)/\Q0a w (W1.setCell ⟨gx,yn,none⟩ (.bool true)).drew):=hid
    ⟨(j1.put hgx yn true).drew,z9x j4.out k3 true,(jc.setCell (fun hlt=>by have:=(j1.blk xn gx hgx).1;exact absurd hlt (by show ¬gx<w.heap.size;omega)) _).drew⟩
   have jv:Hid (cdJ (ldZc R null z) (ldX R z) (Q9y z) (z.2.length-(j+1)) (j+1) (Q7o M2 xn yn true)=F2):=hid (by
    have:=j0.out;rw[HC.out,qAb rfl,j9,jn]at this;have e:ldX R z=xn:=j9;rw[e];exact this)
   clear hf jg j1 j5 hhn jx hyn j9 jn j7 hx jy hgx q4 y4 y5 NO j0;refine wp_region_still_tail 24 (by kernel_rfl) (by kernel_rfl) ?_;change wpStill _ _ W1.drew _ _ _;simp only[List.take_succ_cons,List.take_zero,List.drop_succ_cons,qDe];still_step
   still_step
   still_call (BA.out _ jc.drew)
   repeat still_step
   refine wpStill_nil ?_;change wpList _ _ _ _ _ W1.drew;go_wp2;go_roundw
   case rel=>exact⟨j+1,_,by go_num,by omega,je.1,je.2.1,je.2.2,jv.out⟩
   exact jk.out
  have s2:¬(j:Int)<(z.2.length:Int):=by omega
  have jm:z.2.length-j=0:=by omega
  rw[jm]at hrec;have j0:=hid hrec;clear hrec jm hm hs hfr jh j3;go_wp2;go_roundw
  case rel=>exact⟨i+1,M2,by go_num,by omega,jd.out,j4.out,jb.out,by have:=j0.out;unfold cdJ at this;rw[this];exact j2.out⟩
  exact jr.out
 have s1:¬(i:Int)<(q.length:Int):=by omega
 rw[qAi (by omega)]at hrec;have j2:=hid hrec;clear hrec hfr;go_wp2_with (first
  |(go_at_call 92;refine(CH.out _ _ _ _ _ j6.out jf.out).mono ?_;rintro e w3⟨rfl,hm3,hu3⟩;have jq:=hid hm3;have jw:=hid hu3;clear hm3 hu3))
 go_ret;refine⟨_,gs,rfl,?_,?_⟩
 ·rw[← HV.out,← j2.out];exact jq.out
 have hz:=ja.out;exact hz.trans' jw.out (fun k hlt2 hk=>by
  obtain⟨j,hj,rfl⟩:=qAv hk;have:=(j6.blk j _ (qE hj)).1;omega)
end Go.Proofs.YtcpceafmlgaodaaGreat
