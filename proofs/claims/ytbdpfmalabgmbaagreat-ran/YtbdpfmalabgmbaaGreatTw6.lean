import Derived.Test.YtbdpfmalabgmbaaGreatEb9
namespace Go.Proofs.YtbdpfmalabgmbaaGreat
open Go.RowKit
set_option maxRecDepth 99999
set_option maxHeartbeats 0
set_option linter.all false
def hdOr(l:List Int):Int:=match l with
 | []=>-1
 |a::_=>a
def chT(z:List (Pr × List Bool))(j:Nat):Int:=hdOr (ovL ((j / 9:Nat):Int) ((j % 9:Nat):Int) z 0)
def Q6d(z:List (Pr × List Bool))(j:Nat):List Int:=(List.range j).map (chT z)++List.replicate (72-j) 0
theorem z8m(z:List (Pr × List Bool)){j:Nat}(h:j<=72):(Q6d z j).length=72:=by simp[Q6d];omega
theorem x77(z:List (Pr × List Bool)){j:Nat}(h:j<72):(Q6d z j).set j (chT z j)=Q6d z (j+1):=by
 unfold Q6d;rw[qFa _ _ (by simp)];simp only[qAv,List.length_range,qEm];rw[show 72-j=(72-(j+1))+1 by omega,List.replicate_succ,List.set_cons_zero,List.range_succ,qBp,qAs];rfl
theorem v1q(z:List (Pr × List Bool)){n t:Nat}(hn:n<8)(ht:t<9):(Q6d z 72).getD (n*9+t) 0=hdOr (ovL (n:Int) (t:Int) z 0):=by
 have h1:n*9+t<72:=by omega
 unfold Q6d;simp only[qEm,List.replicate_zero,qBd];rw[qD,qBt,qFp h1];simp only[qDw,qDy,chT];rw[show(n*9+t) / 9=n by omega,show(n*9+t) % 9=t by omega]
theorem x8y(fp:Value)(L:List Int)(j:Nat)(v:Int):(gdA fp L).setIfInBounds (1+j) (.int .i64 v)=gdA fp (L.set j v):=by
 unfold gdA;rw[Nat.add_comm];simp[qFr]
theorem x6m:Tryz.zeroCells145.toList.drop 1=Q9p (List.replicate 72 0):=by kernel_rfl
theorem v0a(b:Nat):Tryz.zeroCells145.setIfInBounds 0 (Q3c b)=gdA (Q3c b) (List.replicate 72 0):=by
 apply Array.ext';unfold gdA;rw[Array.toList_setIfInBounds];have h:=x6m;cases hq:Tryz.zeroCells145.toList with
 |nil=>rw[hq]at h;simp at h
 |cons x l=>rw[hq]at h;simp only[List.drop_succ_cons,qEc]at h;rw[h];rfl
theorem y44(w:World)(R H:Nat)(vp:Value)(ps:List PV)(hp:Q2e w w.heap.size vp ps)(hps:ps.length<=1000)(hH:H<=1000)(hR:R<=1000)(hok:∀x∈Q33 (Q0k ps) (Q0z R H),x.ok) :
  Calls Tryz.prog 35 #[.agg #[.int .i64 R,.int .i64 H,vp]] w fun e w'=>∃gb fb vh,e=.returned (Q3c gb)/\Q0a w w' /\
   w'.heap[gb]? = some (.cells (gdA (Q3c fb) (Q6d ((Q0k ps).zip (Q0r (Q33 (Q0k ps) (Q0z R H)) (Q0k ps))) 72)) 145 (0,0))/\FA w' fb R H vp vh ps (Q33 (Q0k ps) (Q0z R H)):=by
 obtain⟨pa,pc,jz⟩:=z0c hp.row.own;subst jz;have HP:=hid hp;have FI:=hid (y4c (w.alloc (.cells #[.int .i64 R,.int .i64 H,.slice pa ps.length pc] 42 (0,0))) R H (.slice pa ps.length pc) ps ((hp.kept (qR _) ((mRf (fun _=>False) w).alloc _) (fun _ _ x=>x)).up (by simp)) hps hH hR);generalize Q33 (Q0k ps) (Q0z R H)=AL at FI hok;have k2:((Q0k ps).zip (Q0r AL (Q0k ps))).length<=1000:=by simp[Q0r,Q0k];omega
 have jp:(Q0r AL (Q0k ps)).length=ps.length:=by simp[Q0r,Q0k]
 have jo:∀a∈Q0r AL (Q0k ps),a.length=9:=fun a ha=>by
  obtain⟨p,_,rfl⟩:=qBj.1 ha;exact z3j hok _ _
 generalize hz:(Q0k ps).zip (Q0r AL (Q0k ps))=z at k2 ⊢;have HZ:=hid hz;clear hp hok hz;go_enter Tryz.func35,Tryz.ntmps35
 go_wp2_with (first
  |(go_at_call 62;refine(z6e w1 b R H (.slice pa ps.length pc) vh ps AL jd hps).mono ?_;rintro e w2⟨va,rfl,j6,jg⟩)
  |(go_at_call 61;refine FI.mono ?_;rintro e w1⟨b,vh,rfl,j0,jd⟩))
 have ji:=hid (j6.at (j0.at (z0a _ _) id) id);have j8:Hid (Q0a w w2):=Mod.trans ((mRf _ w).alloc _) (j0.trans j6);have js:=hid (jd.fresh j6);have PO:=hid (fun(W:World) (hW:Q0a w2 W) (n t:Nat)=>z6p W R H (.slice pa ps.length pc) ps ((HP.kept (qR _) (j8.trans hW) (fun _ _ x=>x)).up ((j8.trans hW).size)) hps _ (Q0r AL (Q0k ps)) _ (z0d jg (fun g hg=>hW.block g (jg.lt g hg).2 id)) jp jo (n:Int) (t:Int));have kc:=j6.size;have kd:=j8.size;have kb:w.heap.size<w2.heap.size:=z0j ji.out;rw[HZ.out]at PO;clear jg jd j0 j6 FI jp jo;have jl:=hid (v0a b);generalize Tryz.zeroCells145.setIfInBounds 0 (Q3c b)=GZ at jl ⊢;go_loopw [16] (fun x16 wr=>∃(n:Nat),x16=.int .i64 n/\n<=8/\Q0a w2 wr/\wr.heap[w2.heap.size]? = some (.cells (gdA (Q3c b) (Q6d z (n*9))) 145 (0,0)))
   (fun x _=>9-(intOf x).toNat)
 case atStart=>exact⟨0,rfl,by omega,(mRf _ w2).alloc _,by rw[z0a,jl.out];rfl⟩
 obtain⟨n,rfl,hn,j3,j1⟩:=hrel;have jv:=hid (Q19 (B:=9) n (by omega));have ja:=hid j3;have jk:=hid j1;clear j3 j1;by_cases k5:n<8
 ·have k6:(n:Int)<8:=by omega
  go_wp2;obtain⟨wn,k0⟩:∃wn,wn=wr:=⟨_,rfl⟩;subst k0;go_loopw [19] (fun x19 wr=>∃(t:Nat),x19=.int .i64 t/\t<=9/\Q0a w2 wr/\wr.heap[w2.heap.size]? = some (.cells (gdA (Q3c b) (Q6d z (n*9+t))) 145 (0,0)))
    (fun x _=>10-(intOf x).toNat)
  case atStart=>exact⟨0,rfl,by omega,ja.out,jk.out⟩
  obtain⟨t,rfl,ht,j3,j1⟩:=hrel;have jm:=hid (Q19 (B:=10) t (by omega));have jt:=hid j3;have ju:=hid j1;by_cases jx:t<9
  ·have k8:(t:Int)<9:=by omega
   have hj:n*9+t<72:=by omega
   have c1:wr.cell? ⟨w2.heap.size,1+n*9+t,none⟩=some (.int .i64 ((Q6d z (n*9+t)).getD (n*9+t) 0)):=by
    rw[Q0b j1,qDm,x99 (by rw[z8m _ (by omega)];omega)]
   have z1:=Q0f j1 (1+n*9+t);generalize(Q6d z (n*9+t)).getD (n*9+t) 0=V0 at c1;have je:(wr.setCell ⟨w2.heap.size,1+n*9+t,none⟩ (.int .i64 (-1))).heap[w2.heap.size]? = some (.cells (gdA (Q3c b) ((Q6d z (n*9+t)).set (n*9+t) (-1))) 145 (0,0)):=by
    rw[zhs j1,qDm,x8y]
   have j0:Q0a w2 (wr.setCell ⟨w2.heap.size,1+n*9+t,none⟩ (.int .i64 (-1))):=j3.setCell (fun h=>absurd h (qBw _)) _;have j2:∀v,((Q6d z (n*9+t)).set (n*9+t) (-1)).set (n*9+t) v=(Q6d z (n*9+t)).set (n*9+t) v:=fun v=>List.set_set _;have jw:=hid j2;have jb:Hid ((Q6d z (n*9+t)).set (n*9+t) (hdOr (ovL (n:Int) (t:Int) z 0))=Q6d z (n*9+t+1)):=by
    have:=x77 z hj;unfold chT at this;rw[show(n*9+t) / 9=n by omega,show(n*9+t) % 9=t by omega]at this;exact this
   have k4:((Q6d z (n*9+t)).set (n*9+t) (-1)).length=72:=by rw[qBr,z8m _ (by omega)]
   clear j2;generalize hWW:wr.setCell ⟨w2.heap.size,1+n*9+t,none⟩ (.int .i64 (-1))=W1 at je j0;have jh:=hid je;have jj:=hid j0;have jc:=hid (PO.out W1 j0 n t);have jf:=hid (j0.at ji.out id);generalize ovL (n:Int) (t:Int) z 0=able at jc jb;clear j3 j1 j0 je;have t0:=Q0b jf.out 0;have t1:=Q0b jf.out 1;have t2:=Q0b jf.out 2;simp at t0 t1 t2;cases able with
   |nil =>
    go_wp2_with (first
     |(go_at_call 63;refine jc.mono ?_;rintro e w3⟨v8,rfl,j7,j4⟩;obtain⟨a8,c8,e8⟩:=z0c j4;simp only[qEq]at e8;subst e8;have j5:=hid j7;clear j4 j7 hWW))
    go_roundw
    case rel =>
     refine⟨t+1,by go_num,by omega,jj.trans j5.out,?_⟩;rw[← qDm,← jb.out];exact j5.at jh.out id
    exact jm.out
   |cons a r =>
    have k7:(0:Int)<(r.length:Int)+1:=by omega
    go_wp2_with (first
     |(go_at_call 63;refine jc.mono ?_;rintro e w3⟨v8,rfl,j7,j4⟩;obtain⟨a8,c8,e8⟩:=z0c j4;simp only[qBk]at e8;subst e8;have jn:=hid j4;have j5:=hid j7;clear j4 j7 hWW))
    obtain⟨g8,k3,jq⟩:=Joins.ownsRow_form jn.out (by simp);rw[qI]at jq;obtain⟨rfl,k1,rfl⟩:=jq;clear k1;have d0:w3.cell? ⟨g8,0,none⟩=some (.int .i64 a):=z50 jn.out 0 (by simp);have j9:=j5.at jh.out id;have d1:w3.cell? ⟨w2.heap.size,1+n*9+t,none⟩=some (.int .i64 (((Q6d z (n*9+t)).set (n*9+t) (-1)).getD (n*9+t) 0)):=by
     rw[Q0b j9,qDm,x99 (by omega)]
    have y1:=Q0f j9 (1+n*9+t);have jr:=hid j9;generalize((Q6d z (n*9+t)).set (n*9+t) (-1)).getD (n*9+t) 0=V1 at d1;clear j9;go_region;all_goals
     go_wp2;go_roundw
     case rel =>
      refine⟨t+1,by go_num,by omega,?_,?_⟩
      ·exact((jj.trans j5.out).setCell (fun h=>absurd h (qBw _)) _).drew
      rw[← qDm,← jb.out];show(w3.setCell _ _).heap[w2.heap.size]? = _;rw[zhs jr.out,qDm,x8y,jw.out];rfl
     exact jm.out
  have ka:t=9:=by omega
  have k9:¬((t:Int)<9):=by omega
  clear j3 j1;go_wp2;go_roundw
  case rel=>exact⟨n+1,by go_num,by omega,jt.out,by rw[show(n+1)*9=n*9+t by omega];exact ju.out⟩
  exact jv.out
 have jy:n=8:=by omega
 subst jy;go_wp2;go_ret;exact⟨_,b,vh,rfl,j8.trans ja.out,jk.out,js.fresh ja.out⟩
end Go.Proofs.YtbdpfmalabgmbaaGreat
