import Derived.Test.YtbdpfmalabgmbaaGreatRb3
import Derived.StillTailTactics
namespace Go.Proofs.YtbdpfmalabgmbaaGreat
open Go.RowKit
set_option maxRecDepth 99999
set_option maxHeartbeats 0
set_option linter.all false
theorem Q1c.take{w:World}{ao:Option Addr}{n cap:Nat}{l:List Int}(h:Q1c w (.slice ao n cap) l)(hn:n=l.length){j:Nat}(hj:j<=l.length):Q1c w (.slice ao j cap) (l.take j):=by
 obtain⟨a1,c1,e,hc,j0⟩:=h;rw[qI]at e;obtain⟨rfl,_,rfl⟩:=e;refine⟨ao,cap,by rw[qCo,qFe hj],by rw[qCo];omega,fun k hk=>?_⟩;rw[qCo]at hk;obtain⟨g,o,e1,e2⟩:=j0 k (by omega);exact⟨g,o,e1,by rw[List.getElem_take];exact e2⟩
theorem v10(c:Nat->Bool)(x:Nat)(y:Nat->Nat)(n j:Nat)(M:Mat)(h:j<n):cdJ c x y (n-j) j M=cdJ c x y (n-(j+1)) (j+1) (if c j=true then Q72 M x (y j) true else M):=by
 rw[show n-j=(n-(j+1))+1 by omega];rfl
theorem v1z(c:Q1->Nat->Bool)(x:Q1->Nat)(y:Q1->Nat->Nat)(q:List Q1)(i:Nat)(M:Mat)(h:i<q.length):cdI c x y (q.drop i) M=cdI c x y (q.drop (i+1)) (cdJ (c q[i]) (x q[i]) (y q[i]) q[i].2.length 0 M):=by
 rw[qC h];rfl
structure PrAt(w:World)(b:Nat)(P i:Nat)(x:Q1)(g3 o3 c3 g4 o4 n4 c4:Nat)(al:Option Addr)(cl:Nat):Prop where
 q3:w.cell? ⟨b,3,none⟩=some (.slice (some ⟨g3,o3,none⟩) P c3)
 y3:w.cell? ⟨g3,o3+i,none⟩=some (.int .i64 x.1)
 q4:w.cell? ⟨b,4,none⟩=some (.slice (some ⟨g4,o4,none⟩) n4 c4)
 n4:i<n4
 y4:w.cell? ⟨g4,o4+i,none⟩=some (.slice al x.2.length cl)
 l:Q1c w (.slice al x.2.length cl) x.2
theorem NV.pr{w:World}{b R H:Nat}{q:List Q1}{a0 a1 a2:Option Addr}{c0 c1 c2:Nat}{v3 v4:Value}{sv:List Value}(h:NV w b R H q a0 c0 a1 c1 a2 c2 v3 v4 sv){i:Nat}(hi:i<q.length) :
  ∃g3 o3 c3 g4 o4 n4 c4 al cl,PrAt w b q.length i q[i] g3 o3 c3 g4 o4 n4 c4 al cl:=by
 have j0:i<sv.length:=by rw[h.len];exact hi
 obtain⟨j9,j6,e4,jb,j2⟩:=h.r4;obtain⟨g4,o4,rfl,y4⟩:=j2 i j0;have q4:=h.k4;rw[e4]at q4;have hl:=h.each i sv[i] q[i] (qE j0) (qE hi);obtain⟨j4,j7,el,jc,j3⟩:=id hl;rw[el]at y4 hl;obtain⟨j8,j5,e3,ja,j1⟩:=h.r3;obtain⟨g3,o3,rfl,y3⟩:=j1 i (by rw[qAv];exact hi);rw[qCd]at y3;rw[qAv]at e3;have q3:=h.k3;rw[e3]at q3;exact⟨g3,o3,j5,g4,o4,sv.length,j6,j4,j7,q3,y3,q4,j0,y4,hl⟩
theorem PrAt.fresh{w w':World}{b P i:Nat}{x:Q1}{g3 o3 c3 g4 o4 n4 c4:Nat}{al:Option Addr}{cl:Nat}(h:PrAt w b P i x g3 o3 c3 g4 o4 n4 c4 al cl)(hf:Q0a w w'):PrAt w' b P i x g3 o3 c3 g4 o4 n4 c4 al cl :=
 ⟨Q0h hf h.q3,Q0h hf h.y3,Q0h hf h.q4,h.n4,Q0h hf h.y4,h.l.fresh hf⟩
theorem x3p(w:World)(b R H gn:Nat)(q:List Q1)(null:List Bool)(hS:Q3q w b R H q)(hQ:QOk R H q)(hn:Q1x w gn null)(hnl:null.length=H) :
  Calls Tryz.prog 76 #[.pointer (some ⟨b,0,none⟩),bsl gn H] w fun e w'=>MxRet w (R+1+H) (ldF R H null q) e w':=by
 obtain⟨a0,c0,a1,c1,a2,c2,v3,v4,sv,hN⟩:=hS;have r8:=hQ.r8;have h8:=hQ.h8;have p20:=hQ.p20;have HQ:=hid hQ;have HN:=hid hN;have k9:=hid hn;have k7:=hid hnl;have k0:=hN.k0;have k1:=hN.k1;have k2:=hN.k2;have BA:=hid (fun(W:World) (hW:Q0a w W)=>z1j W b R a0 c0 (Q0h hW k0) (by omega));have SQ:Hid (∀W:World,Q0a w W->W.heap.size=w.heap.size->Calls Tryz.prog 85 #[.int .i64 ((R+1+H:Nat):Int)] W fun e w'=>∃v gs,e=.returned v/\Q1v w' w.heap.size (R+1+H) v gs (sqF (R+1+H))/\Q0a w w'):=hid (fun W hW hz=>by
  refine(z7h W (R+1+H) (by omega)).mono ?_;rintro e w'⟨v,gs,he,hm,hf⟩;rw[hz]at hm;exact⟨v,gs,he,hm,hW.trans hf⟩)
 have CH:=hid (fun(W:World) (B:Nat) (v:Value) (gs:List Nat) (M:Mat) (h1:Q1v W B (R+1+H) v gs M) (h2:Sq (R+1+H) M)=>z8w W B (R+1+H) v gs M h1 h2 (by omega));have k3:IntKind.i64.wrap (bs R+(H:Int))=((R+1+H:Nat):Int):=by rw[qBv];unfold bs;omega
 have hV:Q5j (cdI (ldZc R null) (ldX R) W0d q (sqF (R+1+H)))=ldF R H null q:=rfl;have kg:R+1+H<=100:=by omega
 generalize ldF R H null q=V at hV;generalize je:R+1+H=n at hV SQ CH k3 kg ⊢;have k8:=hid je;have HV:=hid hV;clear hN hQ hV hn hnl k0 je;go_enter Tryz.func76,Tryz.ntmps76
 go_upto_region 1 with fail
 go_cut [5] (fun s5 wx=>∃gs,Q1v wx w.heap.size n s5 gs (sqF n)/\Q0a w wx)
 case first =>
  go_region_with (first
   |(go_at_call 47;refine(BA.out _ (by first|exact mRf _ w|exact(mRf _ w).drew|exact((mRf _ w).drew).drew)).mono ?_;rintro e w'⟨rfl,hw⟩;rw[hw];clear hw)
   |(go_at_call 85;refine(SQ.out _ (by first|exact mRf _ w|exact(mRf _ w).drew|exact((mRf _ w).drew).drew) (by rfl)).mono ?_;rintro e w3⟨v,gs,rfl,jd,ke⟩))
  all_goals
   go_wp2_with fail
   go_meet;exact⟨gs,jd,ke⟩
 obtain⟨gs,hm,jv⟩:=hcut;have HM:=hid hm;have HF:=hid jv;generalize hL0:cdI (ldZc R null) (ldX R) W0d q (sqF n)=L0 at HV;have js:=hid hL0;obtain⟨ao,cp,hv⟩:=z0c hm.own;subst hv;clear hL0 hm jv SQ k3;go_wp2;go_loopw [6,7,8] (fun x6 _ _ wr=>∃(i:Nat) (M:Mat),x6=.int .i64 i/\i<=q.length/\Q1v wr w.heap.size n (.slice ao gs.length cp) gs M/\Sq n M/\Q0a w wr/\cdI (ldZc R null) (ldX R) W0d (q.drop i) M=L0)
   (fun x _ _ _=>1001-(intOf x).toNat)
 case atStart=>exact⟨0,_,rfl,by omega,HM.out,y12 n,HF.out,js.out⟩
 obtain⟨i,M,rfl,hi,hm,hs,j2,j0⟩:=hrel;have k6:=hid (Q19 (B:=1001) i (by omega));have jc:=hid hm;have jm:=hid hs;have jh:=hid j2;have km:=Q0h j2 k1;clear HM HF js hm hs;by_cases j9:i<q.length
 ·have s1:(i:Int)<(q.length:Int):=by omega
  rw[v1z _ _ _ _ _ _ j9]at j0;generalize hF2:cdJ (ldZc R null q[i]) (ldX R q[i]) (W0d q[i]) q[i].2.length 0 M=F2 at j0;have j6:=hid j0;have jb:=HQ.hd q[i] (qG j9);have jf:=HQ.sy q[i] (qG j9);obtain⟨g3,o3,c3,g4,o4,n4,c4,al,cl,hP⟩:=HN.pr j9;generalize q[i]=z at hF2 jb jf hP;have jr:=hid hF2;have HP:=hid hP;have kl:=jf.1;have s4:(i:Int)<(n4:Int):=by have:=hP.n4;omega
  have q4:=(hP.fresh j2).q4;have y4:=(hP.fresh j2).y4;have ju:=hid jf.2;have k4:=hid jb;clear j0 hF2 hP jf jb j2;go_wp2;go_loopw [7,8] (fun x7 _ wr=>∃(j:Nat) (M:Mat),x7=.int .i64 j/\j<=z.2.length/\Q1v wr w.heap.size n (.slice ao gs.length cp) gs M/\Sq n M/\Q0a w wr/\cdJ (ldZc R null z) (ldX R z) (W0d z) (z.2.length-j) j M=F2)
    (fun x _ _=>1001-(intOf x).toNat)
  case atStart=>exact⟨0,M,rfl,by omega,jc.out,jm.out,jh.out,jr.out⟩
  obtain⟨j,M2,rfl,hj,hm,hs,j2,j0⟩:=hrel;have jt:=hid (Q19 (B:=1001) j (by omega));have jk:=hid hm;have ja:=hid hs;have ji:=hid j2;have j7:=HP.fresh j2;have q4:=j7.q4;have y4:=j7.y4;have jp:=j7.l;clear jc jm jh jr q4 y4;have q4:=j7.q4;have y4:=j7.y4;by_cases j3:j<z.2.length
  ·have s2:(j:Int)<(z.2.length:Int):=by omega
   have s3:(j:Int)<=(z.2.length:Int):=by omega
   rw[v10 _ _ _ _ _ _ j3]at j0;have j1:=hid j0;have NO:=hid (z4q wr b R H gn a0 c0 (.slice al j cl) (z.2.take j) null (Q0h j2 HN.k0) (by omega) (by omega) (jp.take rfl (by omega)) (by rw[qCo];omega) (k9.fresh j2) k7.out (fun c hc=>ju.out c (qFl hc)));obtain⟨kj,kk,e5,kc,j4⟩:=jp;rw[qI]at e5;obtain⟨rfl,_,rfl⟩:=e5;obtain⟨gl,ol,rfl,y5⟩:=j4 j j3;have s6:z.2.length<=cl:=kc;have s7:(j:Int)<=(cl:Int):=by omega
   have HC:Hid (ldZc R null z j=Q4b (bs R) null (z.2.take j)):=hid rfl;generalize Q4b (bs R) null (z.2.take j)=nb at NO HC;clear j0 hm hs j2 j4 j7;cases nb
   ·go_wp2_with (first
     |(go_at_call 78;refine(NO.out).mono ?_;rintro e w'⟨rfl,m,hw⟩;have HW:=hid hw;clear hw))
    go_roundw
    case rel =>
     have hf:=Q0v wr m;rw[← HW.out]at hf;refine⟨j+1,M2,by go_num,by omega,jk.fresh hf,ja.out,ji.trans hf,?_⟩;have:=j1.out;rw[HC.out,qAa (by simp)]at this;exact this
    exact jt.out
   go_upto_region 10 with(first
    |(go_at_call 78;refine(NO.out).mono ?_;rintro e W1⟨rfl,m,hw⟩;have HW:=hid hw;clear hw))
   have hf:Q0a wr W1:=by rw[HW.out];exact Q0v wr m
   have jj:=hid (ji.trans hf);have jn:=HP.fresh jj.out;have p3:=jn.q3;have e3:=jn.y3;have p4:=Q0h hf q4;have e4:=Q0h hf y4;have e5:=Q0h hf y5;have j5:=jk.fresh hf;have jb:=k4.out;obtain⟨jo,jw⟩:∃a:Nat,z.1=a:=⟨z.1.toNat,by omega⟩;have kd:=ju.out z.2[j] (qG j3);obtain⟨yn,jq⟩:∃a:Nat,z.2[j]=a:=⟨z.2[j].toNat,by omega⟩;have jg:ldX R z=R+1+jo:=by unfold ldX bs;omega
   have jz:W0d z j=yn:=by unfold W0d;rw[qD,qE j3,qDy,jq,qAo]
   have je:=k8.out;obtain⟨xn,hx⟩:∃a,a=R+1+jo:=⟨_,rfl⟩;rw[← hx]at jg;have kh:xn<n:=by omega
   have ki:yn<n:=by omega
   have kf:gs.length=n:=by rw[j5.len,ja.len]
   obtain⟨gx,j8⟩:∃g,gs[xn]? = some g:=⟨_,qE (by omega)⟩;obtain⟨gv,cv,hv⟩:=Joins.ownsRow_form j5.own (by omega);rw[qI]at hv;obtain⟨rfl,_,rfl⟩:=hv;have r1:=j5.row j8;have d1:=j5.cell ja.out j8 ki;have d2:=(j5.blk xn gx j8).2.frozen yn;rw[jw]at e3;rw[jq]at e5;have t1:(xn:Int)<(gs.length:Int):=by omega
   have t2:(yn:Int)<(n:Int):=by omega
   have kn:IntKind.i64.wrap (bs R+(jo:Int))=(xn:Int):=by rw[qBv];unfold bs;omega
   have jl:Hid (Q1v (W1.setCell ⟨gx,yn,none⟩ (.bool true)).drew w.heap.size n (.slice (some ⟨gv,0,none⟩) gs.length cp) gs (Q72 M2 xn yn true)/\Sq n (Q72 M2 xn yn true)/\Q0a w (W1.setCell ⟨gx,yn,none⟩ (.bool true)).drew):=hid
    ⟨(j5.put j8 yn true).drew,y0b ja.out kh true,(jj.setCell (fun j9=>by have:=(j5.blk xn gx j8).1;exact absurd j9 (by show ¬gx<w.heap.size;omega)) _).drew⟩
   have ka:Hid (cdJ (ldZc R null z) (ldX R z) (W0d z) (z.2.length-(j+1)) (j+1) (Q72 M2 xn yn true)=F2):=hid (by
    have:=j1.out;rw[HC.out,qAb rfl,jg,jz]at this;have e:ldX R z=xn:=jg;rw[e];exact this)
   clear hf jn j5 jb jw kd jq jg jz je hx kf j8 q4 y4 y5 NO j1;refine wp_region_still_tail 24 (by kernel_rfl) (by kernel_rfl) ?_;change wpStill _ _ W1.drew _ _ _;simp only[List.take_succ_cons,List.take_zero,List.drop_succ_cons,qEc];still_step
   still_step
   still_call (BA.out _ jj.drew)
   repeat still_step
   refine wpStill_nil ?_;change wpList _ _ _ _ _ W1.drew;go_wp2;go_roundw
   case rel=>exact⟨j+1,_,by go_num,by omega,jl.1,jl.2.1,jl.2.2,ka.out⟩
   exact jt.out
  have s2:¬(j:Int)<(z.2.length:Int):=by omega
  have jx:z.2.length-j=0:=by omega
  rw[jx]at j0;have j1:=hid j0;clear j0 jx hm hs j2 jp j7;go_wp2;go_roundw
  case rel=>exact⟨i+1,M2,by go_num,by omega,jk.out,ja.out,ji.out,by have:=j1.out;unfold cdJ at this;rw[this];exact j6.out⟩
  exact k6.out
 have s1:¬(i:Int)<(q.length:Int):=by omega
 rw[qAp (by omega)]at j0;have j6:=hid j0;clear j0 j2;go_wp2_with (first
  |(go_at_call 108;refine(CH.out _ _ _ _ _ jc.out jm.out).mono ?_;rintro e w3⟨rfl,jd,jy⟩;have k5:=hid jd;have kb:=hid jy;clear jd jy))
 go_ret;refine⟨_,gs,rfl,?_,?_⟩
 ·rw[← HV.out,← j6.out];exact k5.out
 have hz:=jh.out;exact hz.trans' kb.out (fun k j3 hk=>by
  obtain⟨j,hj,rfl⟩:=qBf hk;have:=(jc.blk j _ (qE hj)).1;omega)
end Go.Proofs.YtbdpfmalabgmbaaGreat
