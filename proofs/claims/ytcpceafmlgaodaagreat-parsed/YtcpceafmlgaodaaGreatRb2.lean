import Derived.Test.YtcpceafmlgaodaaGreatRi4
import Derived.Laws.CopyOwn
import Derived.BigRegion
import Derived.StillTailTactics
namespace Go.Proofs.YtcpceafmlgaodaaGreat
open Go.RowKit
set_option maxRecDepth 99999
set_option maxHeartbeats 0
set_option linter.all false
theorem y9o(w:World)(ga gb n:Nat)(xs ys:List Bool)(ha:Q1y w ga xs)(hb:Q1y w gb ys)(la:xs.length=n)(lb:ys.length=n)(ty:TypeId) :
  (Builtin.copy_ #[90,90] ty #[bsl gb n,bsl ga n]).run Tryz.prog w=.ok (goInt n) (w.setRow gb (Q3y xs).toArray):=by
 have h:=run_copy_row (P:=Tryz.prog) w 90 90 ty 4 gb 0 n n ⟨ga,0,none⟩ n n (Q3y ys).toArray 4 (Q3y xs) Tryz.underlying90 (by kernel_rfl) hb (by simp[Q3y,la]) (fun j v hj=>by
  have j0:j<xs.length:=by have:=(qS hj).1;simpa [Q3y]using this
  have:=ha.cell j0;rw[Addr.add_mid,qBi,this];simp[Q3y,j0]at hj;rw[← hj];simp[j0]) (by simp[Q3y,la,lb]) (by intro v hv;simp[Q3y]at hv;rcases hv with⟨_,rfl⟩|⟨_,rfl⟩<;>rfl)
 have e1:(Q3y xs).length=n:=by simp[Q3y,la]
 have e2:((Q3y ys).toArray.toList.take 0++Q3y xs++(Q3y ys).toArray.toList.drop (0+n)).toArray=(Q3y xs).toArray:=by
  rw[qAi (by simp[Q3y,lb])];simp
 rw[e1,e2]at h;exact h
theorem x5e(base:Int)(rules:Bool)(out:List Bool)(l:List Int)(i:Nat)(hi:i<l.length):(l.drop i).all (Q6h base rules out)=(Q6h base rules out l[i]&&(l.drop (i+1)).all (Q6h base rules out)):=by
 rw[qC hi,qCp]
theorem x1u(base:Int)(rules:Bool)(out:List Bool)(q:List Q1)(i:Nat)(hi:i<q.length)(nx:List Bool):Q9v base rules out (q.drop i) nx=Q9v base rules out (q.drop (i+1)) (nx.set q[i].1.toNat (nx.getD q[i].1.toNat false||q[i].2.all (Q6h base rules out))):=by
 rw[qC hi];rfl
theorem y6c(w:World)(b R H:Nat)(q:List Q1)(rules:Bool)(hS:Q3x w b R H q)(hQ:QOk R H q) :
  Calls Tryz.prog 65 #[.pointer (some ⟨b,0,none⟩),.bool rules] w fun e w'=>∃g,w.heap.size<=g/\e=.returned (bsl g H)/\Q1y w' g (Q4j (bs R) rules q H)/\Q0a w w':=by
 obtain⟨a0,c0,a1,c1,a2,c2,v3,v4,sv,hN⟩:=hS;have r8:=hQ.r8;have h8:=hQ.h8;have p20:=hQ.p20;have HQ:=hid hQ;have HN:=hid hN;have k2:=hN.k2;have mk:=fun w=>run_make_row' (P:=Tryz.prog) 90 4 (.bool false) 1 Tryz.underlying90 (by kernel_rfl) rfl .i64 .i64 H (by omega) (by omega) w;generalize hV:Q4j (bs R) rules q H=V;have HV:=hid hV;clear hN hQ hV;go_enter Tryz.func65,Tryz.ntmps65
 go_wp2;go_loopw [5,6,7,8,9,10,11] (fun x5 x6 _ _ _ _ _ wr=>∃(n g:Nat) (out:List Bool),x6=.int .i64 n/\x5=bsl g H/\n<=H/\w.heap.size<=g/\Q1y wr g out/\out.length=H/\Q0a w wr/\derN (bs R) rules q (H-n) out=V)
   (fun _ x _ _ _ _ _ _=>1001-(intOf x).toNat)
 case atStart =>
  refine⟨0,w.heap.size,List.replicate H false,rfl,rfl,by omega,qR _,?_,by simp,(mRf _ w).alloc _,HV.out⟩;rw[z03];exact z0a _ _
 obtain⟨n,g,out,rfl,rfl,hn,hg,hB,hol,hfr,hrec⟩:=hrel;have jt:=hid (Q15 (B:=1001) n (by omega));have HF:=hid hfr;have HB:=hid hB;have jj:=hid hol;have k9:=Q0i hfr k2;by_cases hlt:n<H
 ·have k1:(n:Int)<(H:Int):=by omega
  rw[show H-n=(H-(n+1))+1 by omega]at hrec;unfold derN at hrec;have j3:=hid hrec;have jv:=hB.lt;have CP:=y9o (wr.alloc (.cells (madeCells #[.bool false] H) 4)) g wr.heap.size H out (List.replicate H false) (hB.fresh ((mRf _ wr).alloc _)) (by rw[z03];exact z0a _ _) hol (by simp);have j7:Hid (Q1y ((wr.alloc (.cells (madeCells #[.bool false] H) 4)).setRow wr.heap.size (Q3y out).toArray) wr.heap.size out):=hid (setRow_heap _ _ _ _ _ _ (z0a _ _));have ja:Hid (Q1y ((wr.alloc (.cells (madeCells #[.bool false] H) 4)).setRow wr.heap.size (Q3y out).toArray) g out):=hid (by
   have:=(hB.fresh ((mRf (fun _=>False) wr).alloc (.cells (madeCells #[.bool false] H) 4)));unfold Q1y at this ⊢;rw[setRow_other _ _ _ _ (by omega)];exact this)
  have jb:Hid (Q0a w ((wr.alloc (.cells (madeCells #[.bool false] H) 4)).setRow wr.heap.size (Q3y out).toArray)):=hid ((hfr.alloc _).setRow (by have:=hfr.size;simp;omega) _);generalize hW2:(wr.alloc (.cells (madeCells #[.bool false] H) 4)).setRow wr.heap.size (Q3y out).toArray=W2 at CP j7 ja jb;have jd:=hid (show w.heap.size<=wr.heap.size from hfr.size);have ji:=hid (show g≠wr.heap.size by omega);clear hW2 hfr hB hol hrec jv;go_wp2;generalize hNX:Q9v (bs R) rules out q out=NX at j3;have ju:=hid hNX;clear hNX;generalize hgx:wr.heap.size=gx at CP j7 jd ji ⊢;clear hgx CP mk k9 HF HB;go_loopw [8,9,10,11] (fun x8 _ _ _ wr=>∃(i:Nat) (nx:List Bool),x8=.int .i64 i/\i<=q.length/\Q1y wr gx nx/\nx.length=H/\Q1y wr g out/\Q0a w wr/\Q9v (bs R) rules out (q.drop i) nx=NX)
    (fun x _ _ _ _=>1001-(intOf x).toNat)
  case atStart=>exact⟨0,out,rfl,by omega,j7.out,jj.out,ja.out,jb.out,ju.out⟩
  obtain⟨i,nx,rfl,hi,hX,hxl,hB,hfr,hrec⟩:=hrel;have je:=hid (Q15 (B:=1001) i (by omega));have HX:=hid hX;have jf:=hid hxl;have jq:=hid hfr;have HB:=hid hB;have k8:=Q0i hfr HN.k1;clear j7 ja jb;by_cases hlt2:i<q.length
  ·have s1:(i:Int)<(q.length:Int):=by omega
   rw[x1u _ _ _ _ _ hlt2]at hrec;have j0:=hid hrec;clear hrec;have j4:=HN.fresh hfr;have j6:i<sv.length:=by rw[HN.len];exact hlt2
   have s4:(i:Int)<(sv.length:Int):=by omega
   obtain⟨ao4,cp4,e4,hc4,cell4⟩:=j4.r4;obtain⟨g4,o4,rfl,y4⟩:=cell4 i j6;have q4:=j4.k4;rw[e4]at q4;obtain⟨aol,cpl,el,hcl,celll⟩:=j4.each i sv[i] q[i] (qE j6) (qE hlt2);rw[el]at y4;obtain⟨ao3,cp3,e3,hc3,cell3⟩:=j4.r3;obtain⟨g3,o3,rfl,y3⟩:=cell3 i (by rw[qAo];exact hlt2);rw[qBt]at y3;rw[qAo]at e3;have q3:=j4.k3;rw[e3]at q3;have jy:=HQ.hd q[i] (qG hlt2);have jg:=HQ.sy q[i] (qG hlt2);have jn:=j4.k0;have k5:=j4.k1;obtain⟨hn',hhn⟩:∃m:Nat,q[i].1=m:=⟨q[i].1.toNat,by omega⟩;rw[hhn]at y3 jy j0;rw[qAl]at j0;have k7:hn'<H:=by omega
   have k6:=jg.1;have jk:=hid jg.2;have jh:=hid celll;generalize q[i].2=l at y4 jh jk j0 k6 hcl;generalize hFIN:l.all (Q6h (bs R) rules out)=FIN at j0;have jc:=hid hFIN;clear hFIN jg celll cell3 cell4 hc3 hc4 e3 e4 el j4 hhn hX hxl hB k8;obtain⟨wo,hwo⟩:∃wo,wo=wr:=⟨_,rfl⟩;subst hwo;have jl:=hid (And.intro q3 y3);have js:=hid hfr;clear hfr y3 q3;go_wp2;go_loopw [9,10,11] (fun x9 x10 _ wi=>∃(j m:Nat) (A:Bool),x10=.int .i64 j/\x9=.bool A/\j<=l.length/\wi=wo.drewN m/\(A&&(l.drop j).all (Q6h (bs R) rules out))=FIN)
     (fun _ x _ _=>1001-(intOf x).toNat)
   case atStart=>exact⟨0,0,true,rfl,rfl,by omega,rfl,by rw[qBa];exact jc.out⟩
   obtain⟨j,m,A,rfl,rfl,hj,rfl,hrec⟩:=hrel;have j5:=hid (Q15 (B:=1001) j (by omega));have z4:=Q0i (Q0r wo m) q4;have x4:=Q0i (Q0r wo m) y4;have z0:=Q0i (Q0r wo m) jn;have j2:=hid (Q0r wo m);generalize hW:wo.drewN m=wr at z4 x4 z0 j2 ⊢;have HW:=hid hW;clear hW q4 y4 jn k5;by_cases hlt3:j<l.length
   ·have s3:(j:Int)<(l.length:Int):=by omega
    rw[x5e _ _ _ _ _ hlt3]at hrec;obtain⟨gl,ol,rfl,y5⟩:=jh.out j hlt3;have z5:=Q0i j2.out y5;have j8:=jk.out l[j] (qG hlt3);have j9:=fun(k:Nat) (hk:k<H)=>(HB.fresh j2.out).cell (j:=k) (by rw[jj.out];exact hk);have BQ:=hid (fun n=>z1i (wr.drewN n) b R a0 c0 (Q0i (Q0r wr n) z0) (by omega));generalize l[j]=c at hrec z5 j8;clear y5;cases A
    ·rw[qCi]at hrec;have j1:=hid hrec;obtain⟨dz,jo⟩:∃dz:Int,IntKind.i64.wrap (c-bs R)=dz:=⟨_,rfl⟩;clear hrec j9 j8;go_wp2;go_quiet (first|(go_at_call 34;refine Calls.quiet_of_same (BQ.out _)));go_wp2;go_roundw
     case rel=>exact⟨j+1,m+nq,false,by go_num,rfl,by omega,by rw[← HW.out,World.drewN_drewN],j1.out⟩
     exact j5.out
    rw[qBa]at hrec;by_cases hneg:c-bs R<0
    ·have e1:Q6h (bs R) rules out c=rules:=by unfold Q6h;rw[qBl hneg,qBh (by omega)];simp
     rw[e1]at hrec;have j1:=hid hrec;have s1:decide (c-bs R<0)=true:=qBl hneg;have s6:¬0<=c-bs R:=by omega
     have jo:IntKind.i64.wrap (c-bs R)=c-bs R:=by rw[IntKind.wrap_i64];unfold bs;omega
     clear hrec j9 j8 e1;cases rules;all_goals
      go_wp2;go_quiet (first|(go_at_call 34;refine Calls.quiet_of_same (BQ.out _)));go_wp2;go_roundw
      case rel=>exact⟨j+1,m+nq,_,by go_num,rfl,by omega,by rw[← HW.out,World.drewN_drewN],j1.out⟩
      exact j5.out
    obtain⟨dz,hdz⟩:∃dz:Nat,c-bs R=dz:=⟨(c-bs R).toNat,by omega⟩;have jx:dz<H:=by unfold bs at hdz;omega
    have e1:Q6h (bs R) rules out c=out.getD dz false:=by unfold Q6h;rw[hdz,qBh (by omega),qBl (by omega),qAl];simp
    rw[e1]at hrec;have jm:=j9 dz jx;have s1:¬(dz:Int)<0:=by omega
    have s6:(0:Int)<=(dz:Int):=by omega
    have s7:(dz:Int)<(H:Int):=by omega
    have jo:IntKind.i64.wrap (c-bs R)=(dz:Int):=by rw[IntKind.wrap_i64];unfold bs at hdz ⊢;omega
    generalize out.getD dz false=oj at hrec jm;have j1:=hid hrec;clear hrec j9 j8 e1 hdz hneg;cases oj;all_goals
     go_wp2;go_quiet (first|(go_at_call 34;refine Calls.quiet_of_same (BQ.out _)));have jw:=Q0i (Q0r wr nq) jm;go_wp2;go_roundw
     case rel=>exact⟨j+1,m+nq,_,by go_num,rfl,by omega,by rw[← HW.out,World.drewN_drewN],j1.out⟩
     exact j5.out
   have s3:¬(j:Int)<(l.length:Int):=by omega
   rw[qAi (by omega),List.all_nil,Bool.and_true]at hrec;have j1:=hid hrec;have b1:=(HX.fresh j2.out).cell (j:=hn') (by rw[jf.out];exact k7);have b2:=(HX.fresh j2.out).frozen hn';have u3:=Q0i j2.out jl.1;have u4:=Q0i j2.out jl.2;have s5:(hn':Int)<(H:Int):=by omega
   have HP:Hid (∀c:Bool,Q1y (wr.setCell ⟨gx,hn',none⟩ (.bool c)).drew gx (nx.set hn' c)):=hid (fun c=>(HX.fresh j2.out).put hn' c);have jp:Hid (∀c:Bool,Q1y (wr.setCell ⟨gx,hn',none⟩ (.bool c)).drew g out):=hid (fun c=>by
    have:=HB.fresh j2.out;unfold Q1y at this ⊢;show(wr.setCell ⟨gx,hn',none⟩ (.bool c)).heap[g]? = _;rw[heap_setCell_other _ ji.out];exact this)
   have jr:Hid (∀c:Bool,Q0a w (wr.setCell ⟨gx,hn',none⟩ (.bool c)).drew):=hid (fun c=>((js.trans j2.out).setCell (by have:=jd.out;simp;omega) _).drew);generalize nx.getD hn' false=nb at j0 b1;clear hrec z0;cases nb<;>cases A;all_goals
    go_wp2_with fail
    go_region;all_goals
     go_wp2;go_roundw
     case rel=>exact⟨i+1,_,by go_num,by omega,HP.out _,by simp[jf.out],jp.out _,jr.out _,by have:=j0.out;rw[← j1.out]at this;simpa using this⟩
     exact je.out
  have s1:¬(i:Int)<(q.length:Int):=by omega
  rw[qAi (by omega)]at hrec;have j0:=hid hrec;clear hrec hX hxl hfr hB;go_wp2;go_roundw
  case rel=>exact⟨n+1,gx,nx,by go_num,rfl,by omega,jd.out,HX.out,jf.out,jq.out,by have:=j0.out;unfold Q9v at this;rw[this];exact j3.out⟩
  exact jt.out
 have k1:¬(n:Int)<(H:Int):=by omega
 have jz:n=H:=by omega
 rw[jz,qCu]at hrec;have j3:=hid hrec;clear hrec hfr hB hol;go_wp2;go_ret;exact⟨g,hg,rfl,by rw[← j3.out];exact HB.out,HF.out⟩
structure Q1t(w:World)(B n:Nat)(v:Value)(gs:List Nat)(M:Mat):Prop where
 own:w.ownsRow B 90 1 v gs.length (gs.map fun g=>bsl g n)
 len:gs.length=M.length
 blk:∀(i g:Nat),gs[i]? = some g->B<=g/\Q1y w g (M.getD i [])
 inj:∀(i j g:Nat),gs[i]? = some g->gs[j]? = some g->i=j
 ne:∀g∈gs,v.ownBlock≠some g
theorem Q1t.nil(w:World)(B n:Nat):Q1t w B n (.slice none 0 0) [] [] :=
 ⟨World.ownsRow_nil _ _ _ _,rfl,fun i g h=>by simp at h,fun i j g h=>by simp at h,fun g h=>by cases h⟩
theorem Q1t.fresh{w w':World}{B n:Nat}{v:Value}{gs:List Nat}{M:Mat}(h:Q1t w B n v gs M)(hf:Q0a w w'):Q1t w' B n v gs M :=
 ⟨z0c h.own (fun g hg=>hf.block g (h.own.lt g hg).2 (fun x=>x)),h.len,fun i g h1=>⟨(h.blk i g h1).1,(h.blk i g h1).2.fresh hf⟩,h.inj,h.ne⟩
theorem Q1t.next{w w':World}{B n:Nat}{v v':Value}{gs:List Nat}{M:Mat}{g:Nat}{f:List Bool}(h:Q1t w B n v gs M)(hg:Q1y w g f)(hBg:B<=g)(hne:v.ownBlock≠some g)(hnew:∀x∈gs,x≠g)
  (hown:w'.ownsRow B 90 1 v' (gs.length+1) ((gs.map fun g=>bsl g n)++[bsl g n])) (hgr:w.grownBy w' v.ownBlock) (hblk:∀k,v'.ownBlock=some k->v.ownBlock=some k∨w.heap.size<=k) :
  Q1t w' B n v' (gs++[g]) (M++[f]):=by
 have j1:=hg.lt;have hk:∀(k:Nat) (o:Obj),k<w.heap.size->v.ownBlock≠some k->w.heap[k]? = some o->w'.heap[k]? = some o:=fun k o h1 h2 h3=>by
  rw[hgr.block k h1 (fun e=>h2 e.symm)];exact h3
 have j3:∀x∈gs,x<w.heap.size:=fun x hx=>by
  obtain⟨i,hi,rfl⟩:=qAv hx;exact(h.blk i _ (qE hi)).2.lt
 refine⟨by simpa using hown,by simp[h.len],fun i g' h1=>?_,fun i j g' h1 h2=>?_,fun g' h1 e=>?_⟩
 ·by_cases hi:i<gs.length
  ·rw[qAe hi]at h1;obtain⟨q1,q2⟩:=h.blk i g' h1;refine⟨q1,?_⟩;have e:(M++[f]).getD i []=M.getD i []:=by
    rw[qD,qD,qAe (by rw[← h.len];exact hi)]
   rw[e];exact hk _ _ q2.lt (h.ne g' (qAd h1)) q2
  have j0:i=gs.length:=by
   have:=(qS h1).1;simp at this;omega
  subst j0;rw[qAg (qR _)]at h1;simp at h1;subst h1;refine⟨hBg,?_⟩;have e:(M++[f]).getD gs.length []=f:=by
   rw[qD,h.len,qAg (qR _)];simp
  rw[e];exact hk _ _ j1 hne hg
 ·by_cases hi:i<gs.length
  ·by_cases hj:j<gs.length
   ·rw[qAe hi]at h1;rw[qAe hj]at h2;exact h.inj i j g' h1 h2
   have j2:j=gs.length:=by
    have:=(qS h2).1;simp at this;omega
   subst j2;rw[qAe hi]at h1;rw[qAg (qR _)]at h2;simp at h2;exact absurd h2.symm (hnew g' (qAd h1))
  have j0:i=gs.length:=by
   have:=(qS h1).1;simp at this;omega
  subst j0;rw[qAg (qR _)]at h1;simp at h1;by_cases hj:j<gs.length
  ·rw[qAe hj]at h2;exact absurd h1.symm (hnew g' (qAd h2))
  have:=(qS h2).1;simp at this;omega
 rcases hblk _ e with q|q
 ·simp only[qU,qM]at h1;rcases h1 with h1|rfl
  ·exact h.ne g' h1 q
  exact hne q
 simp only[qU,qM]at h1;rcases h1 with h1|rfl
 ·have:=j3 g' h1;omega
 omega
theorem Q1t.put{w:World}{B n:Nat}{v:Value}{gs:List Nat}{M:Mat}(h:Q1t w B n v gs M){i g:Nat}(hi:gs[i]? = some g)(j:Nat)(b:Bool):Q1t (w.setCell ⟨g,j,none⟩ (.bool b)) B n v gs (Q7o M i j b):=by
 have j0:=(qS hi).1;refine⟨z0c h.own (fun k hk=>heap_setCell_other _ (fun e=>h.ne g (qAd hi) (by rw[← (show k=g from e)];exact hk))),by unfold Q7o;rw[qBd];exact h.len,fun k g' hk=>?_,h.inj,h.ne⟩;obtain⟨q1,q2⟩:=h.blk k g' hk;refine⟨q1,?_⟩;unfold Q7o;rw[z16 _ _ _ _ _ (by rw[← h.len];exact j0)];by_cases e:k=i
 ·subst e;rw[hi]at hk;injection hk with hk;subst hk;rw[qAb rfl];exact q2.put j b
 rw[qAa e];unfold Q1y at q2 ⊢;rw[heap_setCell_other _ (fun e2=>e (h.inj k i g (by rw[← (show g'=g from e2)];exact hk) hi))];exact q2
def MxRet(w:World)(n:Nat)(M:Mat)(e:Ending)(w':World):Prop:=∃v gs,e=.returned v/\Q1t w' w.heap.size n v gs M/\Q0a w w'
theorem z68(w:World)(n:Nat)(hn:n<=100) :
  Calls Tryz.prog 74 #[.int .i64 n] w fun e w'=>MxRet w n (sqF n) e w':=by
 have mk:=fun w=>run_make_row' (P:=Tryz.prog) 90 4 (.bool false) 1 Tryz.underlying90 (by kernel_rfl) rfl .i64 .i64 n (by omega) (by omega) w;obtain⟨i0,hi0,iz0,iz1,iz2⟩:=infoBS';go_enter Tryz.func74,Tryz.ntmps74
 go_wp2;go_loopw [3,4,5] (fun x3 x4 _ wr=>∃(i:Nat) (gs:List Nat),x4=.int .i64 i/\i<=n/\Q1t wr w.heap.size n x3 gs (List.replicate i (List.replicate n false))/\Q0a w wr)
   (fun _ x _ _=>1001-(intOf x).toNat)
 case atStart=>exact⟨0,[],rfl,by omega,Q1t.nil _ _ _,mRf _ _⟩
 obtain⟨i,gs,rfl,hi,hM,hfr⟩:=hrel;have j4:=hid (Q15 (B:=1001) i (by omega));have j3:gs.length=i:=by have:=hM.len;simpa using this
 have j7:gs.length<=100:=by omega
 have HM:=hid hM;have HF:=hid hfr;obtain⟨ao,cp,hv⟩:=z0d hM.own;subst hv;have j9:w.heap.size<=wr.heap.size:=hfr.size;by_cases hlt:i<n
 ·have k1:(i:Int)<(n:Int):=by omega
  have j5:Hid (∀o o2:Obj,((wr.alloc o).alloc o2).ownsRow w.heap.size 90 1 (.slice ao gs.length cp) gs.length (gs.map fun g=>bsl g n)):=hid (fun o o2=>(HM.own.alloc o).alloc o2);have j0:Hid (∀(o2:Obj) (v':Value) (w6:World),w6.ownsRow w.heap.size 90 1 v' (gs.length+1) ((gs.map fun g=>bsl g n)++[bsl wr.heap.size n])->((wr.alloc (.cells (madeCells #[.bool false] n) 4)).alloc o2).grownBy w6 (Value.ownBlock (.slice ao gs.length cp))->(∀k,v'.ownBlock=some k->Value.ownBlock (.slice ao gs.length cp)=some k∨((wr.alloc (.cells (madeCells #[.bool false] n) 4)).alloc o2).heap.size<=k) ->
    Q1t w6 w.heap.size n v' (gs++[wr.heap.size]) (List.replicate (i+1) (List.replicate n false))/\Q0a w w6):=hid (fun o2 v' w6 h1 h2 h3=>by
   have j2:Q0a wr ((wr.alloc (.cells (madeCells #[.bool false] n) 4)).alloc o2):=((mRf _ wr).alloc _).alloc _;have j6:Q1y ((wr.alloc (.cells (madeCells #[.bool false] n) 4)).alloc o2) wr.heap.size (List.replicate n false):=z0b (by rw[z03];exact z0a _ _);refine⟨?_,?_⟩
   ·rw[List.replicate_succ'];refine(HM.fresh j2).next j6 HF.size ?_ ?_ h1 h2 h3
    ·intro e;have:=(HM.own.lt _ e).2;omega
    intro x hx e;obtain⟨k,hk,rfl⟩:=qAv hx;have:=(HM.blk k _ (qE hk)).2.lt;omega
   exact Mod.grown (S:=fun _=>False) (HF.trans j2) h2 (fun k hk hlt=>by have:=(HM.own.lt k hk).1;omega))
  clear hM hfr j3;go_wp2_with (first
   |(at_builtin;refine z0g _ rfl _ _ 89 rfl w.heap.size 90 i0 _ 1 24 Tryz.underlying89 hi0 iz0 iz1 iz2 rfl (by decide) (.slice ao gs.length cp) gs.length _ rfl (j5.out _ _) ⟨wr.heap.size+1,0,none⟩ 1 1 [bsl wr.heap.size n] rfl rfl (z2s rfl) (by intro u hu;simp at hu;subst hu;rfl) (by unfold maxLen;omega) (by omega) (by simp;omega) ?_))
  intro v' w6 hown2 hgrow hblk;have j1:=hid (j0.out _ v' w6 hown2 hgrow (by simpa using hblk));clear hown2 hgrow hblk;go_wp2;go_roundw
  case rel=>exact⟨i+1,_,by go_num,by omega,j1.1,j1.2⟩
  exact j4.out
 have k1:¬(i:Int)<(n:Int):=by omega
 have j8:i=n:=by omega
 subst j8;clear hM hfr j3;go_wp2;go_ret;exact⟨_,gs,rfl,HM.out,HF.out⟩
abbrev UpM(gs:List Nat):World->World->Prop:=Mod (fun k=>k∈gs)
def ChRet(w:World)(B n:Nat)(v:Value)(gs:List Nat)(M:Mat)(e:Ending)(w':World):Prop:=e=.returned v/\Q1t w' B n v gs M/\UpM gs w w'
theorem Q1t.row{w:World}{B n:Nat}{g c m:Nat}{gs:List Nat}{M:Mat}(h:Q1t w B n (.slice (some ⟨g,0,none⟩) m c) gs M){i gi:Nat}(hi:gs[i]? = some gi):w.cell? ⟨g,i,none⟩=some (bsl gi n):=by
 have:=h.own.cells (g:=g) rfl i (bsl gi n) (by rw[qBe,hi];rfl);rwa [Addr.add_mid,qBi]at this
theorem Q1t.cell{w:World}{B n:Nat}{v:Value}{gs:List Nat}{M:Mat}(h:Q1t w B n v gs M)(hs:Sq n M){i gi j:Nat}(hi:gs[i]? = some gi)(hj:j<n):w.cell? ⟨gi,j,none⟩=some (.bool (atM M i j)):=by
 have hl:=(qS hi).1;exact(h.blk i gi hi).2.cell (by rw[hs.row i (by rw[← hs.len,← h.len];exact hl)];exact hj)
theorem Q1t.drew{w:World}{B n:Nat}{v:Value}{gs:List Nat}{M:Mat}(h:Q1t w B n v gs M):Q1t w.drew B n v gs M:=h.fresh ⟨rfl,rfl,rfl,qR _,fun _ _ _=>rfl⟩
theorem wJ_s(k i n j:Nat)(M:Mat)(h:j<n):wJ k i (n-j) j M=wJ k i (n-(j+1)) (j+1) (Q7o M i j (atM M i j||(atM M i k&&atM M k j))):=by
 rw[show n-j=(n-(j+1))+1 by omega];rfl
theorem wI_s(k n i:Nat)(M:Mat)(h:i<n):wI k n (n-i) i M=wI k n (n-(i+1)) (i+1) (wJ k i n 0 M):=by
 rw[show n-i=(n-(i+1))+1 by omega];rfl
theorem wK_s(n k:Nat)(M:Mat)(h:k<n):wK n (n-k) k M=wK n (n-(k+1)) (k+1) (wI k n n 0 M):=by
 rw[show n-k=(n-(k+1))+1 by omega];rfl
theorem z8l(w:World)(B n:Nat)(v:Value)(gs:List Nat)(M:Mat)(hM:Q1t w B n v gs M)(hs:Sq n M)(hn:n<=100) :
  Calls Tryz.prog 92 #[v] w fun e w'=>ChRet w B n v gs (Q49 M) e w':=by
 have jc:gs.length=n:=by rw[hM.len,hs.len]
 have jb:Q49 M=wK n n 0 M:=by unfold Q49;rw[hs.len]
 generalize Q49 M=V at jb;have HV:=hid jb.symm;obtain⟨ao,cp,hv⟩:=z0d hM.own;rw[jc]at hv;subst hv;have HM:=hid hM;have HS:=hid hs;have j4:=hid jc;clear hM hs jb jc;go_enter Tryz.func92,Tryz.ntmps92
 go_wp2;go_loopw [4,5,6] (fun x4 _ _ wr=>∃(k:Nat) (M':Mat),x4=.int .i64 k/\k<=n/\Q1t wr B n (.slice ao n cp) gs M'/\Sq n M'/\UpM gs w wr/\wK n (n-k) k M'=V)
   (fun x _ _ _=>1001-(intOf x).toNat)
 case atStart=>exact⟨0,M,rfl,by omega,HM.out,HS.out,mRf _ _,HV.out⟩
 obtain⟨k,M1,rfl,hk,hM,hs,hup,hrec⟩:=hrel;have jo:=hid (Q15 (B:=1001) k (by omega));have j5:=hid hM;have jh:=hid hs;have j9:=hid hup;clear HM HS HV hM hs hup;by_cases hlt:k<n
 ·have k1:(k:Int)<(n:Int):=by omega
  rw[wK_s _ _ _ hlt]at hrec;generalize hF2:wI k n n 0 M1=F2 at hrec;have jd:=hid hF2;have j2:=hid hrec;clear hF2 hrec;go_wp2;go_loopw [5,6] (fun x5 _ wr=>∃(i:Nat) (M':Mat),x5=.int .i64 i/\i<=n/\Q1t wr B n (.slice ao n cp) gs M'/\Sq n M'/\UpM gs w wr/\wI k n (n-i) i M'=F2)
    (fun x _ _=>1001-(intOf x).toNat)
  case atStart=>exact⟨0,M1,rfl,by omega,j5.out,jh.out,j9.out,jd.out⟩
  obtain⟨i,M2,rfl,hi,hM,hs,hup,hrec⟩:=hrel;have jn:=hid (Q15 (B:=1001) i (by omega));have j6:=hid hM;have j8:=hid hs;have ja:=hid hup;clear j5 jh j9 jd hM hs hup;by_cases hlt2:i<n
  ·have k2:(i:Int)<(n:Int):=by omega
   rw[wI_s _ _ _ _ hlt2]at hrec;generalize hF3:wJ k i n 0 M2=F3 at hrec;have je:=hid hF3;have j1:=hid hrec;clear hF3 hrec;obtain⟨gi,hgi⟩:∃g,gs[i]? = some g:=⟨_,qE (by rw[j4.out];exact hlt2)⟩;obtain⟨gk,hgk⟩:∃g,gs[k]? = some g:=⟨_,qE (by rw[j4.out];exact hlt)⟩;have j3:=hid hgi;have jf:=hid hgk;clear hgi hgk;go_wp2;go_loopw [6] (fun x6 wr=>∃(j:Nat) (M':Mat),x6=.int .i64 j/\j<=n/\Q1t wr B n (.slice ao n cp) gs M'/\Sq n M'/\UpM gs w wr/\wJ k i (n-j) j M'=F3)
     (fun x _=>1001-(intOf x).toNat)
   case atStart=>exact⟨0,M2,rfl,by omega,j6.out,j8.out,ja.out,je.out⟩
   obtain⟨j,M3,rfl,hj,hM,hs,hup,hrec⟩:=hrel;have j7:=hid (Q15 (B:=1001) j (by omega));have jj:=hid hup;have jg:=hid hM;have ji:=hid hs;clear j6 j8 ja je hup;by_cases hlt3:j<n
   ·have k3:(j:Int)<(n:Int):=by omega
    rw[wJ_s _ _ _ _ _ hlt3]at hrec;have j0:=hid hrec;obtain⟨gv,cv,hv⟩:=Joins.ownsRow_form hM.own (by rw[j4.out];omega);rw[j4.out,qI]at hv;obtain⟨rfl,_,rfl⟩:=hv;have r1:=hM.row j3.out;have r2:=hM.row jf.out;have c1:=hM.cell hs j3.out hlt3;have c2:=hM.cell hs j3.out hlt;have c3:=hM.cell hs jf.out hlt3;have z1:=(hM.blk i gi j3.out).2.frozen j;have HP:Hid (∀c:Bool,Q1t (wr.setCell ⟨gi,j,none⟩ (.bool c)).drew B n (.slice (some ⟨gv,0,none⟩) n cp) gs (Q7o M3 i j c)/\Sq n (Q7o M3 i j c)/\UpM gs w (wr.setCell ⟨gi,j,none⟩ (.bool c)).drew):=hid (fun c =>
     ⟨(jg.put j3.out j c).drew,z9x ji.out hlt2 c,(jj.setCell (fun _=>qAd j3.out) _).drew⟩)
    generalize atM M3 i j=xa at j0 c1;generalize atM M3 i k=xb at j0 c2;generalize atM M3 k j=xc at j0 c3;clear hM hs hrec;cases xa
    ·cases xb
     ·go_wp2_with fail
      go_region;all_goals
       go_wp2;go_roundw
       case rel=>exact⟨j+1,_,by go_num,by omega,(HP.out _).1,(HP.out _).2.1,(HP.out _).2.2,j0.out⟩
       exact j7.out
     cases xc;all_goals
      go_wp2_with fail
      go_region;all_goals
       go_wp2;go_roundw
       case rel=>exact⟨j+1,_,by go_num,by omega,(HP.out _).1,(HP.out _).2.1,(HP.out _).2.2,j0.out⟩
       exact j7.out
    go_wp2_with fail
    go_region;all_goals
     go_wp2;go_roundw
     case rel=>exact⟨j+1,_,by go_num,by omega,(HP.out _).1,(HP.out _).2.1,(HP.out _).2.2,by have:=j0.out;rw[Bool.true_or]at this;exact this⟩
     exact j7.out
   have k3:¬(j:Int)<(n:Int):=by omega
   have jl:j=n:=by omega
   rw[jl,qCu]at hrec;have j0:=hid hrec;clear hM hs hrec jl;go_wp2;go_roundw
   case rel=>exact⟨i+1,M3,by go_num,by omega,jg.out,ji.out,jj.out,by have:=j0.out;unfold wJ at this;rw[this];exact j1.out⟩
   exact jn.out
  have k2:¬(i:Int)<(n:Int):=by omega
  have jk:i=n:=by omega
  rw[jk,qCu]at hrec;have j1:=hid hrec;clear hrec jk;go_wp2;go_roundw
  case rel=>exact⟨k+1,M2,by go_num,by omega,j6.out,j8.out,ja.out,by have:=j1.out;unfold wI at this;rw[this];exact j2.out⟩
  exact jo.out
 have k1:¬(k:Int)<(n:Int):=by omega
 have jm:k=n:=by omega
 rw[jm,qCu]at hrec;have j2:=hid hrec;clear hrec jm;go_wp2;go_ret;refine⟨rfl,?_,j9.out⟩;have:=j2.out;unfold wK at this;rw[← this];exact j5.out
theorem Q0z.take{w:World}{ao:Option Addr}{n cap:Nat}{l:List Int}(h:Q0z w (.slice ao n cap) l)(hn:n=l.length){j:Nat}(hj:j<=l.length):Q0z w (.slice ao j cap) (l.take j):=by
 obtain⟨a1,c1,e,hc,hcell⟩:=h;rw[qI]at e;obtain⟨rfl,_,rfl⟩:=e;refine⟨ao,cap,by rw[qBo,qDq hj],by rw[qBo];omega,fun k hk=>?_⟩;rw[qBo]at hk;obtain⟨g,o,e1,e2⟩:=hcell k (by omega);exact⟨g,o,e1,by rw[List.getElem_take];exact e2⟩
theorem v06(c:Nat->Bool)(x:Nat)(y:Nat->Nat)(n j:Nat)(M:Mat)(h:j<n):cdJ c x y (n-j) j M=cdJ c x y (n-(j+1)) (j+1) (if c j=true then Q7o M x (y j) true else M):=by
 rw[show n-j=(n-(j+1))+1 by omega];rfl
theorem v05(c:Q1->Nat->Bool)(x:Q1->Nat)(y:Q1->Nat->Nat)(q:List Q1)(i:Nat)(M:Mat)(h:i<q.length):cdI c x y (q.drop i) M=cdI c x y (q.drop (i+1)) (cdJ (c q[i]) (x q[i]) (y q[i]) q[i].2.length 0 M):=by
 rw[qC h];rfl
structure PrAt(w:World)(b:Nat)(P i:Nat)(x:Q1)(g3 o3 c3 g4 o4 n4 c4:Nat)(al:Option Addr)(cl:Nat):Prop where
 q3:w.cell? ⟨b,3,none⟩=some (.slice (some ⟨g3,o3,none⟩) P c3)
 y3:w.cell? ⟨g3,o3+i,none⟩=some (.int .i64 x.1)
 q4:w.cell? ⟨b,4,none⟩=some (.slice (some ⟨g4,o4,none⟩) n4 c4)
 n4:i<n4
 y4:w.cell? ⟨g4,o4+i,none⟩=some (.slice al x.2.length cl)
 l:Q0z w (.slice al x.2.length cl) x.2
theorem NV.pr{w:World}{b R H:Nat}{q:List Q1}{a0 a1 a2:Option Addr}{c0 c1 c2:Nat}{v3 v4:Value}{sv:List Value}(h:NV w b R H q a0 c0 a1 c1 a2 c2 v3 v4 sv){i:Nat}(hi:i<q.length) :
  ∃g3 o3 c3 g4 o4 n4 c4 al cl,PrAt w b q.length i q[i] g3 o3 c3 g4 o4 n4 c4 al cl:=by
 have j0:i<sv.length:=by rw[h.len];exact hi
 obtain⟨ao4,cp4,e4,hc4,cell4⟩:=h.r4;obtain⟨g4,o4,rfl,y4⟩:=cell4 i j0;have q4:=h.k4;rw[e4]at q4;have hl:=h.each i sv[i] q[i] (qE j0) (qE hi);obtain⟨aol,cpl,el,hcl,celll⟩:=id hl;rw[el]at y4 hl;obtain⟨ao3,cp3,e3,hc3,cell3⟩:=h.r3;obtain⟨g3,o3,rfl,y3⟩:=cell3 i (by rw[qAo];exact hi);rw[qBt]at y3;rw[qAo]at e3;have q3:=h.k3;rw[e3]at q3;exact⟨g3,o3,cp3,g4,o4,sv.length,cp4,aol,cpl,q3,y3,q4,j0,y4,hl⟩
theorem PrAt.fresh{w w':World}{b P i:Nat}{x:Q1}{g3 o3 c3 g4 o4 n4 c4:Nat}{al:Option Addr}{cl:Nat}(h:PrAt w b P i x g3 o3 c3 g4 o4 n4 c4 al cl)(hf:Q0a w w'):PrAt w' b P i x g3 o3 c3 g4 o4 n4 c4 al cl :=
 ⟨Q0i hf h.q3,Q0i hf h.y3,Q0i hf h.q4,h.n4,Q0i hf h.y4,h.l.fresh hf⟩
theorem x27(w:World)(b R H gn:Nat)(q:List Q1)(null:List Bool)(hS:Q3x w b R H q)(hQ:QOk R H q)(hn:Q1y w gn null)(hnl:null.length=H) :
  Calls Tryz.prog 66 #[.pointer (some ⟨b,0,none⟩),bsl gn H] w fun e w'=>MxRet w (R+1+H) (ldF R H null q) e w':=by
 obtain⟨a0,c0,a1,c1,a2,c2,v3,v4,sv,hN⟩:=hS;have r8:=hQ.r8;have h8:=hQ.h8;have p20:=hQ.p20;have HQ:=hid hQ;have HN:=hid hN;have ju:=hid hn;have js:=hid hnl;have k0:=hN.k0;have k1:=hN.k1;have k2:=hN.k2;have BA:=hid (fun(W:World) (hW:Q0a w W)=>z1i W b R a0 c0 (Q0i hW k0) (by omega));have SQ:Hid (∀W:World,Q0a w W->W.heap.size=w.heap.size->Calls Tryz.prog 74 #[.int .i64 ((R+1+H:Nat):Int)] W fun e w'=>∃v gs,e=.returned v/\Q1t w' w.heap.size (R+1+H) v gs (sqF (R+1+H))/\Q0a w w'):=hid (fun W hW hz=>by
  refine(z68 W (R+1+H) (by omega)).mono ?_;rintro e w'⟨v,gs,he,hm,hf⟩;rw[hz]at hm;exact⟨v,gs,he,hm,hW.trans hf⟩)
 have CH:=hid (fun(W:World) (B:Nat) (v:Value) (gs:List Nat) (M:Mat) (h1:Q1t W B (R+1+H) v gs M) (h2:Sq (R+1+H) M)=>z8l W B (R+1+H) v gs M h1 h2 (by omega));have jo:IntKind.i64.wrap (bs R+(H:Int))=((R+1+H:Nat):Int):=by rw[IntKind.wrap_i64];unfold bs;omega
 have hV:Q49 (cdI (ldZc R null) (ldX R) Q9y q (sqF (R+1+H)))=ldF R H null q:=rfl;have jz:R+1+H<=100:=by omega
 generalize ldF R H null q=V at hV;generalize j7:R+1+H=n at hV SQ CH jo jz ⊢;have jt:=hid j7;have HV:=hid hV;clear hN hQ hV hn hnl k0 j7;go_enter Tryz.func66,Tryz.ntmps66
 go_upto_region 1 with fail
 go_cut [5] (fun s5 wx=>∃gs,Q1t wx w.heap.size n s5 gs (sqF n)/\Q0a w wx)
 case first =>
  go_region_with (first
   |(go_at_call 34;refine(BA.out _ (by first|exact mRf _ w|exact(mRf _ w).drew|exact((mRf _ w).drew).drew)).mono ?_;rintro e w'⟨rfl,hw⟩;rw[hw];clear hw)
   |(go_at_call 74;refine(SQ.out _ (by first|exact mRf _ w|exact(mRf _ w).drew|exact((mRf _ w).drew).drew) (by rfl)).mono ?_;rintro e w3⟨v,gs,rfl,hm3,hf3⟩))
  all_goals
   go_wp2_with fail
   go_meet;exact⟨gs,hm3,hf3⟩
 obtain⟨gs,hm,hfx⟩:=hcut;have HM:=hid hm;have HF:=hid hfx;generalize hL0:cdI (ldZc R null) (ldX R) Q9y q (sqF n)=L0 at HV;have jj:=hid hL0;obtain⟨ao,cp,hv⟩:=z0d hm.own;subst hv;clear hL0 hm hfx SQ jo;go_wp2;go_loopw [6,7,8] (fun x6 _ _ wr=>∃(i:Nat) (M:Mat),x6=.int .i64 i/\i<=q.length/\Q1t wr w.heap.size n (.slice ao gs.length cp) gs M/\Sq n M/\Q0a w wr/\cdI (ldZc R null) (ldX R) Q9y (q.drop i) M=L0)
   (fun x _ _ _=>1001-(intOf x).toNat)
 case atStart=>exact⟨0,_,rfl,by omega,HM.out,y1k n,HF.out,jj.out⟩
 obtain⟨i,M,rfl,hi,hm,hs,hfr,hrec⟩:=hrel;have jr:=hid (Q15 (B:=1001) i (by omega));have j6:=hid hm;have jf:=hid hs;have ja:=hid hfr;have k6:=Q0i hfr k1;clear HM HF jj hm hs;by_cases hlt:i<q.length
 ·have s1:(i:Int)<(q.length:Int):=by omega
  rw[v05 _ _ _ _ _ _ hlt]at hrec;generalize hF2:cdJ (ldZc R null q[i]) (ldX R q[i]) (Q9y q[i]) q[i].2.length 0 M=F2 at hrec;have j2:=hid hrec;have j5:=HQ.hd q[i] (qG hlt);have j8:=HQ.sy q[i] (qG hlt);obtain⟨g3,o3,c3,g4,o4,n4,c4,al,cl,hP⟩:=HN.pr hlt;generalize q[i]=z at hF2 j5 j8 hP;have ji:=hid hF2;have HP:=hid hP;have k5:=j8.1;have s4:(i:Int)<(n4:Int):=by have:=hP.n4;omega
  have q4:=(hP.fresh hfr).q4;have y4:=(hP.fresh hfr).y4;have jl:=hid j8.2;have jp:=hid j5;clear hrec hF2 hP j8 j5 hfr;go_wp2;go_loopw [7,8] (fun x7 _ wr=>∃(j:Nat) (M:Mat),x7=.int .i64 j/\j<=z.2.length/\Q1t wr w.heap.size n (.slice ao gs.length cp) gs M/\Sq n M/\Q0a w wr/\cdJ (ldZc R null z) (ldX R z) (Q9y z) (z.2.length-j) j M=F2)
    (fun x _ _=>1001-(intOf x).toNat)
  case atStart=>exact⟨0,M,rfl,by omega,j6.out,jf.out,ja.out,ji.out⟩
  obtain⟨j,M2,rfl,hj,hm,hs,hfr,hrec⟩:=hrel;have jk:=hid (Q15 (B:=1001) j (by omega));have jd:=hid hm;have j4:=hid hs;have jb:=hid hfr;have j3:=HP.fresh hfr;have q4:=j3.q4;have y4:=j3.y4;have jh:=j3.l;clear j6 jf ja ji q4 y4;have q4:=j3.q4;have y4:=j3.y4;by_cases hlt2:j<z.2.length
  ·have s2:(j:Int)<(z.2.length:Int):=by omega
   have s3:(j:Int)<=(z.2.length:Int):=by omega
   rw[v06 _ _ _ _ _ _ hlt2]at hrec;have j0:=hid hrec;have NO:=hid (z4o wr b R H gn a0 c0 (.slice al j cl) (z.2.take j) null (Q0i hfr HN.k0) (by omega) (by omega) (jh.take rfl (by omega)) (by rw[qBo];omega) (ju.fresh hfr) js.out (fun c hc=>jl.out c (qEd hc)));obtain⟨ao5,cp5,e5,hc5,cell5⟩:=jh;rw[qI]at e5;obtain⟨rfl,_,rfl⟩:=e5;obtain⟨gl,ol,rfl,y5⟩:=cell5 j hlt2;have s6:z.2.length<=cl:=hc5;have s7:(j:Int)<=(cl:Int):=by omega
   have HC:Hid (ldZc R null z j=Q34 (bs R) null (z.2.take j)):=hid rfl;generalize Q34 (bs R) null (z.2.take j)=nb at NO HC;clear hrec hm hs hfr cell5 j3;cases nb
   ·go_wp2_with (first
     |(go_at_call 68;refine(NO.out).mono ?_;rintro e w'⟨rfl,m,hw⟩;have HW:=hid hw;clear hw))
    go_roundw
    case rel =>
     have hf:=Q0r wr m;rw[← HW.out]at hf;refine⟨j+1,M2,by go_num,by omega,jd.fresh hf,j4.out,jb.trans hf,?_⟩;have:=j0.out;rw[HC.out,qAa (by simp)]at this;exact this
    exact jk.out
   go_upto_region 10 with(first
    |(go_at_call 68;refine(NO.out).mono ?_;rintro e W1⟨rfl,m,hw⟩;have HW:=hid hw;clear hw))
   have hf:Q0a wr W1:=by rw[HW.out];exact Q0r wr m
   have jc:=hid (jb.trans hf);have jg:=HP.fresh jc.out;have p3:=jg.q3;have e3:=jg.y3;have p4:=Q0i hf q4;have e4:=Q0i hf y4;have e5:=Q0i hf y5;have j1:=jd.fresh hf;have j5:=jp.out;obtain⟨hdn,hhn⟩:∃a:Nat,z.1=a:=⟨z.1.toNat,by omega⟩;have jx:=jl.out z.2[j] (qG hlt2);obtain⟨yn,hyn⟩:∃a:Nat,z.2[j]=a:=⟨z.2[j].toNat,by omega⟩;have j9:ldX R z=R+1+hdn:=by unfold ldX bs;omega
   have jn:Q9y z j=yn:=by unfold Q9y;rw[qD,qE hlt2,qDa,hyn,qAl]
   have j7:=jt.out;obtain⟨xn,hx⟩:∃a,a=R+1+hdn:=⟨_,rfl⟩;rw[← hx]at j9;have k3:xn<n:=by omega
   have k4:yn<n:=by omega
   have jy:gs.length=n:=by rw[j1.len,j4.len]
   obtain⟨gx,hgx⟩:∃g,gs[xn]? = some g:=⟨_,qE (by omega)⟩;obtain⟨gv,cv,hv⟩:=Joins.ownsRow_form j1.own (by omega);rw[qI]at hv;obtain⟨rfl,_,rfl⟩:=hv;have r1:=j1.row hgx;have d1:=j1.cell j4.out hgx k4;have d2:=(j1.blk xn gx hgx).2.frozen yn;rw[hhn]at e3;rw[hyn]at e5;have t1:(xn:Int)<(gs.length:Int):=by omega
   have t2:(yn:Int)<(n:Int):=by omega
   have k7:IntKind.i64.wrap (bs R+(hdn:Int))=(xn:Int):=by rw[IntKind.wrap_i64];unfold bs;omega
   have je:Hid (Q1t (W1.setCell ⟨gx,yn,none⟩ (.bool true)).drew w.heap.size n (.slice (some ⟨gv,0,none⟩) gs.length cp) gs (Q7o M2 xn yn true)/\Sq n (Q7o M2 xn yn true)/\Q0a w (W1.setCell ⟨gx,yn,none⟩ (.bool true)).drew):=hid
    ⟨(j1.put hgx yn true).drew,z9x j4.out k3 true,(jc.setCell (fun hlt=>by have:=(j1.blk xn gx hgx).1;exact absurd hlt (by show ¬gx<w.heap.size;omega)) _).drew⟩
   have jv:Hid (cdJ (ldZc R null z) (ldX R z) (Q9y z) (z.2.length-(j+1)) (j+1) (Q7o M2 xn yn true)=F2):=hid (by
    have:=j0.out;rw[HC.out,qAb rfl,j9,jn]at this;have e:ldX R z=xn:=j9;rw[e];exact this)
   clear hf jg j1 j5 hhn jx hyn j9 jn j7 hx jy hgx q4 y4 y5 NO j0;refine wp_region_still_tail 24 (by kernel_rfl) (by kernel_rfl) ?_;change wpStill _ _ W1.drew _ _ _;simp only[List.take_succ_cons,List.take_zero,List.drop_succ_cons,qDe];still_step
   still_step
   still_call (BA.out _ jc.drew)
   repeat still_step
   refine wpStill_nil ?_;change wpList _ _ _ _ _ W1.drew;go_wp2;go_roundw
   case rel=>exact⟨j+1,_,by go_num,by omega,je.1,je.2.1,je.2.2,jv.out⟩
   exact jk.out
  have s2:¬(j:Int)<(z.2.length:Int):=by omega
  have jm:z.2.length-j=0:=by omega
  rw[jm]at hrec;have j0:=hid hrec;clear hrec jm hm hs hfr jh j3;go_wp2;go_roundw
  case rel=>exact⟨i+1,M2,by go_num,by omega,jd.out,j4.out,jb.out,by have:=j0.out;unfold cdJ at this;rw[this];exact j2.out⟩
  exact jr.out
 have s1:¬(i:Int)<(q.length:Int):=by omega
 rw[qAi (by omega)]at hrec;have j2:=hid hrec;clear hrec hfr;go_wp2_with (first
  |(go_at_call 92;refine(CH.out _ _ _ _ _ j6.out jf.out).mono ?_;rintro e w3⟨rfl,hm3,hu3⟩;have jq:=hid hm3;have jw:=hid hu3;clear hm3 hu3))
 go_ret;refine⟨_,gs,rfl,?_,?_⟩
 ·rw[← HV.out,← j2.out];exact jq.out
 have hz:=ja.out;exact hz.trans' jw.out (fun k hlt2 hk=>by
  obtain⟨j,hj,rfl⟩:=qAv hk;have:=(j6.blk j _ (qE hj)).1;omega)
def Q4q(q:List Q1)(m:Itm):Int:=((q[m.p]?).bind fun x=>x.2[m.d]?).getD (-1)
theorem z5k(w:World)(cb b R H:Nat)(q:List Q1)(m:Itm)(kx:w.cell? ⟨cb,0,none⟩=some (.pointer (some ⟨b,0,none⟩)))(hS:Q3x w b R H q)(hQ:QOk R H q)(hm:m.p<q.length)(hd:m.d<=1000) :
  Calls Tryz.prog 73 #[.pointer (some ⟨cb,0,none⟩),.agg (itA m.p m.d m.f)] w fun e w'=>e=.returned (.int .i64 (Q4q q m))/\Q0a w w':=by
 obtain⟨p,d,f⟩:=m;dsimp only at hm hd ⊢;obtain⟨a0,c0,a1,c1,a2,c2,v3,v4,sv,hN⟩:=hS;obtain⟨g3,o3,c3,g4,o4,n4,c4,al,cl,hP⟩:=hN.pr hm;have j2:=hQ.p20;have j3:=(hQ.sy q[p] (qG hm)).1;have j1:Q4q q ⟨p,d,f⟩=(q[p].2[d]?).getD (-1):=by unfold Q4q;simp[qE hm]
 rw[j1];have j0:Q0a w (w.alloc (.cells (itA p d f) 163 (0,0))):=(mRf _ w).alloc _;have i0:=Q0b (z0a w (.cells (itA p d f) 163 (0,0))) 0;have i1:=Q0b (z0a w (.cells (itA p d f) 163 (0,0))) 1;simp at i0 i1;have x0:=Q0i j0 kx;have q4:=Q0i j0 hP.q4;have y4:=Q0i j0 hP.y4;have s4:(p:Int)<(n4:Int):=by have:=hP.n4;omega
 have hl:=hP.l.fresh j0;have HF:Hid (∀k,Q0a w ((w.alloc (.cells (itA p d f) 163 (0,0))).drewN k)):=fun k=>j0.trans (Q0r _ k);have j4:p<20:=by omega
 clear j0 j1 kx hN hQ hP;generalize q[p]=x at j3 y4 hl ⊢;clear hm j2;obtain⟨ao,cap,e,hc,hcell⟩:=hl;rw[qI]at e;obtain⟨rfl,_,rfl⟩:=e;have HC:=hid hcell;clear hcell;by_cases hlt:d<x.2.length
 ·obtain⟨g,o,rfl,hcl⟩:=HC.out d hlt;have h1:¬((x.2.length:Int)<=(d:Int)):=by omega
  have h2:(d:Int)<(x.2.length:Int):=by omega
  rw[qE hlt,qDa];have c1:=hcl;generalize x.2[d]=c at c1 ⊢;clear hcl HC;go_enter Tryz.func73,Tryz.ntmps73
  go_wp2_with fail
  go_quiet (fail);go_wp2_with fail
  go_quiet (fail);go_wp2;go_ret;exact⟨rfl,(HF.out _).trans (Q0r _ _)⟩
 have h1:((x.2.length:Int)<=(d:Int)):=by omega
 rw[qN (by omega),Option.getD_none];clear HC;go_enter Tryz.func73,Tryz.ntmps73
 go_wp2_with fail
 go_quiet (fail);go_wp2;go_ret;exact⟨rfl,HF.out _⟩
end Go.Proofs.YtcpceafmlgaodaaGreat
