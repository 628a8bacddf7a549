import Derived.Test.YtcpceafmlgaodaaGreatRi4
import Derived.Laws.CopyOwn
import Derived.BigRegion
import Derived.StillTailTactics
namespace Go.Proofs.YtcpceafmlgaodaaGreat
open Go.RowKit
set_option maxRecDepth 99999
set_option maxHeartbeats 0
set_option linter.all false
theorem y9r(w:World)(ga gb n:Nat)(xs ys:List Bool)(ha:Q1y w ga xs)(hb:Q1y w gb ys)(la:xs.length=n)(lb:ys.length=n)(ty:TypeId) :
  (Builtin.copy_ #[90,90] ty #[bsl gb n,bsl ga n]).run Tryz.prog w=.ok (goInt n) (w.setRow gb (Q3z xs).toArray):=by
 have h:=run_copy_row (P:=Tryz.prog) w 90 90 ty 4 gb 0 n n ⟨ga,0,none⟩ n n (Q3z ys).toArray 4 (Q3z xs) Tryz.underlying90 (by kernel_rfl) hb (by simp[Q3z,la]) (fun j v hj=>by
  have j0:j<xs.length:=by have:=(qS hj).1;simpa [Q3z]using this
  have:=ha.cell j0;rw[Addr.add_mid,Nat.zero_add,this];simp[Q3z,j0]at hj;rw[← hj];simp[j0]) (by simp[Q3z,la,lb]) (by intro v hv;simp[Q3z]at hv;rcases hv with⟨_,rfl⟩|⟨_,rfl⟩<;>rfl)
 have e1:(Q3z xs).length=n:=by simp[Q3z,la]
 have e2:((Q3z ys).toArray.toList.take 0++Q3z xs++(Q3z ys).toArray.toList.drop (0+n)).toArray=(Q3z xs).toArray:=by
  rw[List.drop_eq_nil_of_le (by simp[Q3z,lb])];simp
 rw[e1,e2]at h;exact h
theorem x4e(base:Int)(rules:Bool)(out:List Bool)(l:List Int)(i:Nat)(hi:i<l.length):(l.drop i).all (Q6f base rules out)=(Q6f base rules out l[i]&&(l.drop (i+1)).all (Q6f base rules out)):=by
 rw[qC hi,List.all_cons]
theorem x32(base:Int)(rules:Bool)(out:List Bool)(q:List Q1)(i:Nat)(hi:i<q.length)(nx:List Bool):Q9u base rules out (q.drop i) nx=Q9u base rules out (q.drop (i+1)) (nx.set q[i].1.toNat (nx.getD q[i].1.toNat false||q[i].2.all (Q6f base rules out))):=by
 rw[qC hi];rfl
theorem y64(w:World)(b R H:Nat)(q:List Q1)(rules:Bool)(hS:Q3y w b R H q)(hQ:QOk R H q) :
  Calls Tryz.prog 65 #[.pointer (some ⟨b,0,none⟩),.bool rules] w fun e w'=>∃g,w.heap.size<=g/\e=.returned (bsl g H)/\Q1y w' g (Q4j (bs R) rules q H)/\Q0a w w':=by
 obtain⟨a0,c0,a1,c1,a2,c2,v3,v4,sv,hN⟩:=hS;have r8:=hQ.r8;have h8:=hQ.h8;have p20:=hQ.p20;have HQ:=hid hQ;have HN:=hid hN;have k2:=hN.k2;have mk:=fun w=>run_make_row' (P:=Tryz.prog) 90 4 (.bool false) 1 Tryz.underlying90 (by kernel_rfl) rfl .i64 .i64 H (by omega) (by omega) w;generalize hV:Q4j (bs R) rules q H=V;have HV:=hid hV;clear hN hQ hV;go_enter Tryz.func65,Tryz.ntmps65
 go_wp2;go_loopw [5,6,7,8,9,10,11] (fun x5 x6 _ _ _ _ _ wr=>∃(n g:Nat) (out:List Bool),x6=.int .i64 n/\x5=bsl g H/\n<=H/\w.heap.size<=g/\Q1y wr g out/\out.length=H/\Q0a w wr/\derN (bs R) rules q (H-n) out=V)
   (fun _ x _ _ _ _ _ _=>1001-(intOf x).toNat)
 case atStart =>
  refine⟨0,w.heap.size,List.replicate H false,rfl,rfl,by omega,qR _,?_,by simp,(mRf _ w).alloc _,HV⟩;rw[z03];exact z0a _ _
 obtain⟨n,g,out,rfl,rfl,hn,hg,hB,hol,hfr,hrec⟩:=hrel;have k5:=hid (Q15 (B:=1001) n (by omega));have HF:=hid hfr;have HB:=hid hB;have jl:=hid hol;have k8:=Q0i hfr k2;by_cases hlt:n<H
 ·have k1:(n:Int)<(H:Int):=by omega
  rw[show H-n=(H-(n+1))+1 by omega]at hrec;unfold derN at hrec;have j3:=hid hrec;have k6:=hB.lt;have CP:=y9r (wr.alloc (.cells (madeCells #[.bool false] H) 4)) g wr.heap.size H out (List.replicate H false) (hB.fresh ((mRf _ wr).alloc _)) (by rw[z03];exact z0a _ _) hol (by simp);have j9:Hid (Q1y ((wr.alloc (.cells (madeCells #[.bool false] H) 4)).setRow wr.heap.size (Q3z out).toArray) wr.heap.size out):=hid (setRow_heap _ _ _ _ _ _ (z0a _ _));have jd:Hid (Q1y ((wr.alloc (.cells (madeCells #[.bool false] H) 4)).setRow wr.heap.size (Q3z out).toArray) g out):=hid (by
   have:=(hB.fresh ((mRf (fun _=>False) wr).alloc (.cells (madeCells #[.bool false] H) 4)));unfold Q1y at this ⊢;rw[setRow_other _ _ _ _ (by omega)];exact this)
  have jf:Hid (Q0a w ((wr.alloc (.cells (madeCells #[.bool false] H) 4)).setRow wr.heap.size (Q3z out).toArray)):=hid ((hfr.alloc _).setRow (by have:=hfr.size;simp;omega) _);generalize hW2:(wr.alloc (.cells (madeCells #[.bool false] H) 4)).setRow wr.heap.size (Q3z out).toArray=W2 at CP j9 jd jf;have jg:=hid (show w.heap.size<=wr.heap.size from hfr.size);have jn:=hid (show g≠wr.heap.size by omega);clear hW2 hfr hB hol hrec k6;go_wp2;generalize hNX:Q9u (bs R) rules out q out=NX at j3;have jy:=hid hNX;clear hNX;generalize hgx:wr.heap.size=gx at CP j9 jg jn ⊢;clear hgx CP mk k8 HF HB;go_loopw [8,9,10,11] (fun x8 _ _ _ wr=>∃(i:Nat) (nx:List Bool),x8=.int .i64 i/\i<=q.length/\Q1y wr gx nx/\nx.length=H/\Q1y wr g out/\Q0a w wr/\Q9u (bs R) rules out (q.drop i) nx=NX)
    (fun x _ _ _ _=>1001-(intOf x).toNat)
  case atStart=>exact⟨0,out,rfl,by omega,j9,jl,jd,jf,jy⟩
  obtain⟨i,nx,rfl,hi,hX,hxl,hB,hfr,hrec⟩:=hrel;have je:=hid (Q15 (B:=1001) i (by omega));have HX:=hid hX;have jc:=hid hxl;have k7:=hid hfr;have HB:=hid hB;have jr:=Q0i hfr HN.k1;clear j9 jd jf;by_cases hlt2:i<q.length
  ·have s1:(i:Int)<(q.length:Int):=by omega
   rw[x32 _ _ _ _ _ hlt2]at hrec;have j0:=hid hrec;clear hrec;have j4:=HN.fresh hfr;have j6:i<sv.length:=by rw[HN.len];exact hlt2
   have s4:(i:Int)<(sv.length:Int):=by omega
   obtain⟨ao4,cp4,e4,hc4,cell4⟩:=j4.r4;obtain⟨g4,o4,rfl,y4⟩:=cell4 i j6;have q4:=j4.k4;rw[e4]at q4;obtain⟨aol,cpl,el,hcl,celll⟩:=j4.each i sv[i] q[i] (qE j6) (qE hlt2);rw[el]at y4;obtain⟨ao3,cp3,e3,hc3,cell3⟩:=j4.r3;obtain⟨g3,o3,rfl,y3⟩:=cell3 i (by rw[List.length_map];exact hlt2);rw[List.getElem_map]at y3;rw[List.length_map]at e3;have q3:=j4.k3;rw[e3]at q3;have jp:=HQ.hd q[i] (qG hlt2);have ja:=HQ.sy q[i] (qG hlt2);have jj:=j4.k0;have jx:=j4.k1;obtain⟨hn',hhn⟩:∃m:Nat,q[i].1=m:=⟨q[i].1.toNat,by omega⟩;rw[hhn]at y3 jp j0;rw[Int.toNat_natCast]at j0;have jw:hn'<H:=by omega
   have jt:=ja.1;have jh:=hid ja.2;have jo:=hid celll;generalize q[i].2=l at y4 jo jh j0 jt hcl;generalize hFIN:l.all (Q6f (bs R) rules out)=FIN at j0;have jb:=hid hFIN;clear hFIN ja celll cell3 cell4 hc3 hc4 e3 e4 el j4 hhn hX hxl hB jr;obtain⟨wo,hwo⟩:∃wo,wo=wr:=⟨_,rfl⟩;subst hwo;have jm:=hid (And.intro q3 y3);have ju:=hid hfr;clear hfr y3 q3;go_wp2;go_loopw [9,10,11] (fun x9 x10 _ wi=>∃(j m:Nat) (A:Bool),x10=.int .i64 j/\x9=.bool A/\j<=l.length/\wi=wo.drewN m/\(A&&(l.drop j).all (Q6f (bs R) rules out))=FIN)
     (fun _ x _ _=>1001-(intOf x).toNat)
   case atStart=>exact⟨0,0,true,rfl,rfl,by omega,rfl,by rw[Bool.true_and];exact jb.out⟩
   obtain⟨j,m,A,rfl,rfl,hj,rfl,hrec⟩:=hrel;have j5:=hid (Q15 (B:=1001) j (by omega));have z4:=Q0i (Q0r wo m) q4;have x4:=Q0i (Q0r wo m) y4;have z0:=Q0i (Q0r wo m) jj;have j2:=hid (Q0r wo m);generalize hW:wo.drewN m=wr at z4 x4 z0 j2 ⊢;have HW:=hid hW;clear hW q4 y4 jj jx;by_cases hlt3:j<l.length
   ·have s3:(j:Int)<(l.length:Int):=by omega
    rw[x4e _ _ _ _ _ hlt3]at hrec;obtain⟨gl,ol,rfl,y5⟩:=jo.out j hlt3;have z5:=Q0i j2.out y5;have j8:=jh.out l[j] (qG hlt3);have j7:=fun(k:Nat) (hk:k<H)=>(HB.fresh j2.out).cell (j:=k) (by rw[jl.out];exact hk);have BQ:=hid (fun n=>z1i (wr.drewN n) b R a0 c0 (Q0i (Q0r wr n) z0) (by omega));generalize l[j]=c at hrec z5 j8;clear y5;cases A
    ·rw[Bool.false_and]at hrec;have j1:=hid hrec;obtain⟨dz,jk⟩:∃dz:Int,IntKind.i64.wrap (c-bs R)=dz:=⟨_,rfl⟩;clear hrec j7 j8;go_wp2;go_quiet (first|(go_at_call 34;refine Calls.quiet_of_same (BQ.out _)));go_wp2;go_roundw
     case rel=>exact⟨j+1,m+nq,false,by go_num,rfl,by omega,by rw[← HW.out,World.drewN_drewN],j1⟩
     exact j5
    rw[Bool.true_and]at hrec;by_cases hneg:c-bs R<0
    ·have e1:Q6f (bs R) rules out c=rules:=by unfold Q6f;rw[decide_eq_true hneg,decide_eq_false (by omega)];simp
     rw[e1]at hrec;have j1:=hid hrec;have s1:decide (c-bs R<0)=true:=decide_eq_true hneg;have s6:¬0<=c-bs R:=by omega
     have jk:IntKind.i64.wrap (c-bs R)=c-bs R:=by rw[IntKind.wrap_i64];unfold bs;omega
     clear hrec j7 j8 e1;cases rules;all_goals
      go_wp2;go_quiet (first|(go_at_call 34;refine Calls.quiet_of_same (BQ.out _)));go_wp2;go_roundw
      case rel=>exact⟨j+1,m+nq,_,by go_num,rfl,by omega,by rw[← HW.out,World.drewN_drewN],j1⟩
      exact j5
    obtain⟨dz,hdz⟩:∃dz:Nat,c-bs R=dz:=⟨(c-bs R).toNat,by omega⟩;have js:dz<H:=by unfold bs at hdz;omega
    have e1:Q6f (bs R) rules out c=out.getD dz false:=by unfold Q6f;rw[hdz,decide_eq_false (by omega),decide_eq_true (by omega),Int.toNat_natCast];simp
    rw[e1]at hrec;have ji:=j7 dz js;have s1:¬(dz:Int)<0:=by omega
    have s6:(0:Int)<=(dz:Int):=by omega
    have s7:(dz:Int)<(H:Int):=by omega
    have jk:IntKind.i64.wrap (c-bs R)=(dz:Int):=by rw[IntKind.wrap_i64];unfold bs at hdz ⊢;omega
    generalize out.getD dz false=oj at hrec ji;have j1:=hid hrec;clear hrec j7 j8 e1 hdz hneg;cases oj;all_goals
     go_wp2;go_quiet (first|(go_at_call 34;refine Calls.quiet_of_same (BQ.out _)));have jz:=Q0i (Q0r wr nq) ji;go_wp2;go_roundw
     case rel=>exact⟨j+1,m+nq,_,by go_num,rfl,by omega,by rw[← HW.out,World.drewN_drewN],j1⟩
     exact j5
   have s3:¬(j:Int)<(l.length:Int):=by omega
   rw[List.drop_eq_nil_of_le (by omega),List.all_nil,Bool.and_true]at hrec;have j1:=hid hrec;have b1:=(HX.fresh j2.out).cell (j:=hn') (by rw[jc.out];exact jw);have b2:=(HX.fresh j2.out).frozen hn';have u3:=Q0i j2.out jm.1;have u4:=Q0i j2.out jm.2;have s5:(hn':Int)<(H:Int):=by omega
   have HP:Hid (∀c:Bool,Q1y (wr.setCell ⟨gx,hn',none⟩ (.bool c)).drew gx (nx.set hn' c)):=hid (fun c=>(HX.fresh j2.out).put hn' c);have jq:Hid (∀c:Bool,Q1y (wr.setCell ⟨gx,hn',none⟩ (.bool c)).drew g out):=hid (fun c=>by
    have:=HB.fresh j2.out;unfold Q1y at this ⊢;show(wr.setCell ⟨gx,hn',none⟩ (.bool c)).heap[g]? = _;rw[heap_setCell_other _ jn.out];exact this)
   have k9:Hid (∀c:Bool,Q0a w (wr.setCell ⟨gx,hn',none⟩ (.bool c)).drew):=hid (fun c=>((ju.trans j2.out).setCell (by have:=jg.out;simp;omega) _).drew);generalize nx.getD hn' false=nb at j0 b1;clear hrec z0;cases nb<;>cases A;all_goals
    go_wp2_with fail
    go_region;all_goals
     go_wp2;go_roundw
     case rel=>exact⟨i+1,_,by go_num,by omega,HP.out _,by simp[jc.out],jq.out _,k9.out _,by have:=j0.out;rw[← j1.out]at this;simpa using this⟩
     exact je
  have s1:¬(i:Int)<(q.length:Int):=by omega
  rw[List.drop_eq_nil_of_le (by omega)]at hrec;have j0:=hid hrec;clear hrec hX hxl hfr hB;go_wp2;go_roundw
  case rel=>exact⟨n+1,gx,nx,by go_num,rfl,by omega,jg,HX,jc,k7,by have:=j0.out;unfold Q9u at this;rw[this];exact j3.out⟩
  exact k5
 have k1:¬(n:Int)<(H:Int):=by omega
 have jv:n=H:=by omega
 rw[jv,Nat.sub_self]at hrec;have j3:=hid hrec;clear hrec hfr hB hol;go_wp2;go_ret;exact⟨g,hg,rfl,by rw[← j3.out];exact HB.out,HF⟩
structure Q1s(w:World)(B n:Nat)(v:Value)(gs:List Nat)(M:Mat):Prop where
 own:w.ownsRow B 90 1 v gs.length (gs.map fun g=>bsl g n)
 len:gs.length=M.length
 blk:∀(i g:Nat),gs[i]? = some g->B<=g/\Q1y w g (M.getD i [])
 inj:∀(i j g:Nat),gs[i]? = some g->gs[j]? = some g->i=j
 ne:∀g∈gs,v.ownBlock≠some g
theorem Q1s.nil(w:World)(B n:Nat):Q1s w B n (.slice none 0 0) [] [] :=
 ⟨World.ownsRow_nil _ _ _ _,rfl,fun i g h=>by simp at h,fun i j g h=>by simp at h,fun g h=>by cases h⟩
theorem Q1s.fresh{w w':World}{B n:Nat}{v:Value}{gs:List Nat}{M:Mat}(h:Q1s w B n v gs M)(hf:Q0a w w'):Q1s w' B n v gs M :=
 ⟨z0c h.own (fun g hg=>hf.block g (h.own.lt g hg).2 (fun x=>x)),h.len,fun i g h1=>⟨(h.blk i g h1).1,(h.blk i g h1).2.fresh hf⟩,h.inj,h.ne⟩
theorem Q1s.next{w w':World}{B n:Nat}{v v':Value}{gs:List Nat}{M:Mat}{g:Nat}{f:List Bool}(h:Q1s w B n v gs M)(hg:Q1y w g f)(hBg:B<=g)(hne:v.ownBlock≠some g)(hnew:∀x∈gs,x≠g)
  (hown:w'.ownsRow B 90 1 v' (gs.length+1) ((gs.map fun g=>bsl g n)++[bsl g n])) (hgr:w.grownBy w' v.ownBlock) (hblk:∀k,v'.ownBlock=some k->v.ownBlock=some k∨w.heap.size<=k) :
  Q1s w' B n v' (gs++[g]) (M++[f]):=by
 have j1:=hg.lt;have hk:∀(k:Nat) (o:Obj),k<w.heap.size->v.ownBlock≠some k->w.heap[k]? = some o->w'.heap[k]? = some o:=fun k o h1 h2 h3=>by
  rw[hgr.block k h1 (fun e=>h2 e.symm)];exact h3
 have j3:∀x∈gs,x<w.heap.size:=fun x hx=>by
  obtain⟨i,hi,rfl⟩:=List.getElem_of_mem hx;exact(h.blk i _ (qE hi)).2.lt
 refine⟨by simpa using hown,by simp[h.len],fun i g' h1=>?_,fun i j g' h1 h2=>?_,fun g' h1 e=>?_⟩
 ·by_cases hi:i<gs.length
  ·rw[List.getElem?_append_left hi]at h1;obtain⟨q1,q2⟩:=h.blk i g' h1;refine⟨q1,?_⟩;have e:(M++[f]).getD i []=M.getD i []:=by
    rw[qD,qD,List.getElem?_append_left (by rw[← h.len];exact hi)]
   rw[e];exact hk _ _ q2.lt (h.ne g' (List.mem_of_getElem? h1)) q2
  have j0:i=gs.length:=by
   have:=(qS h1).1;simp at this;omega
  subst j0;rw[List.getElem?_append_right (qR _)]at h1;simp at h1;subst h1;refine⟨hBg,?_⟩;have e:(M++[f]).getD gs.length []=f:=by
   rw[qD,h.len,List.getElem?_append_right (qR _)];simp
  rw[e];exact hk _ _ j1 hne hg
 ·by_cases hi:i<gs.length
  ·by_cases hj:j<gs.length
   ·rw[List.getElem?_append_left hi]at h1;rw[List.getElem?_append_left hj]at h2;exact h.inj i j g' h1 h2
   have j2:j=gs.length:=by
    have:=(qS h2).1;simp at this;omega
   subst j2;rw[List.getElem?_append_left hi]at h1;rw[List.getElem?_append_right (qR _)]at h2;simp at h2;exact absurd h2.symm (hnew g' (List.mem_of_getElem? h1))
  have j0:i=gs.length:=by
   have:=(qS h1).1;simp at this;omega
  subst j0;rw[List.getElem?_append_right (qR _)]at h1;simp at h1;by_cases hj:j<gs.length
  ·rw[List.getElem?_append_left hj]at h2;exact absurd h1.symm (hnew g' (List.mem_of_getElem? h2))
  have:=(qS h2).1;simp at this;omega
 rcases hblk _ e with q|q
 ·simp only[qU,qM]at h1;rcases h1 with h1|rfl
  ·exact h.ne g' h1 q
  exact hne q
 simp only[qU,qM]at h1;rcases h1 with h1|rfl
 ·have:=j3 g' h1;omega
 omega
theorem Q1s.put{w:World}{B n:Nat}{v:Value}{gs:List Nat}{M:Mat}(h:Q1s w B n v gs M){i g:Nat}(hi:gs[i]? = some g)(j:Nat)(b:Bool):Q1s (w.setCell ⟨g,j,none⟩ (.bool b)) B n v gs (Q7f M i j b):=by
 have j0:=(qS hi).1;refine⟨z0c h.own (fun k hk=>heap_setCell_other _ (fun e=>h.ne g (List.mem_of_getElem? hi) (by rw[← (show k=g from e)];exact hk))),by unfold Q7f;rw[List.length_set];exact h.len,fun k g' hk=>?_,h.inj,h.ne⟩;obtain⟨q1,q2⟩:=h.blk k g' hk;refine⟨q1,?_⟩;unfold Q7f;rw[z14 _ _ _ _ _ (by rw[← h.len];exact j0)];by_cases e:k=i
 ·subst e;rw[hi]at hk;injection hk with hk;subst hk;rw[if_pos rfl];exact q2.put j b
 rw[if_neg e];unfold Q1y at q2 ⊢;rw[heap_setCell_other _ (fun e2=>e (h.inj k i g (by rw[← (show g'=g from e2)];exact hk) hi))];exact q2
def MxRet(w:World)(n:Nat)(M:Mat)(e:Ending)(w':World):Prop:=∃v gs,e=.returned v/\Q1s w' w.heap.size n v gs M/\Q0a w w'
theorem z63(w:World)(n:Nat)(hn:n<=100) :
  Calls Tryz.prog 74 #[.int .i64 n] w fun e w'=>MxRet w n (sqF n) e w':=by
 have mk:=fun w=>run_make_row' (P:=Tryz.prog) 90 4 (.bool false) 1 Tryz.underlying90 (by kernel_rfl) rfl .i64 .i64 n (by omega) (by omega) w;obtain⟨i0,hi0,iz0,iz1,iz2⟩:=infoBS';go_enter Tryz.func74,Tryz.ntmps74
 go_wp2;go_loopw [3,4,5] (fun x3 x4 _ wr=>∃(i:Nat) (gs:List Nat),x4=.int .i64 i/\i<=n/\Q1s wr w.heap.size n x3 gs (List.replicate i (List.replicate n false))/\Q0a w wr)
   (fun _ x _ _=>1001-(intOf x).toNat)
 case atStart=>exact⟨0,[],rfl,by omega,Q1s.nil _ _ _,mRf _ _⟩
 obtain⟨i,gs,rfl,hi,hM,hfr⟩:=hrel;have j4:=hid (Q15 (B:=1001) i (by omega));have j2:gs.length=i:=by have:=hM.len;simpa using this
 have j7:gs.length<=100:=by omega
 have HM:=hid hM;have HF:=hid hfr;obtain⟨ao,cp,hv⟩:=z0d hM.own;subst hv;have j9:w.heap.size<=wr.heap.size:=hfr.size;by_cases hlt:i<n
 ·have k1:(i:Int)<(n:Int):=by omega
  have j5:Hid (∀o o2:Obj,((wr.alloc o).alloc o2).ownsRow w.heap.size 90 1 (.slice ao gs.length cp) gs.length (gs.map fun g=>bsl g n)):=hid (fun o o2=>(HM.own.alloc o).alloc o2);have j0:Hid (∀(o2:Obj) (v':Value) (w6:World),w6.ownsRow w.heap.size 90 1 v' (gs.length+1) ((gs.map fun g=>bsl g n)++[bsl wr.heap.size n])->((wr.alloc (.cells (madeCells #[.bool false] n) 4)).alloc o2).grownBy w6 (Value.ownBlock (.slice ao gs.length cp))->(∀k,v'.ownBlock=some k->Value.ownBlock (.slice ao gs.length cp)=some k∨((wr.alloc (.cells (madeCells #[.bool false] n) 4)).alloc o2).heap.size<=k) ->
    Q1s w6 w.heap.size n v' (gs++[wr.heap.size]) (List.replicate (i+1) (List.replicate n false))/\Q0a w w6):=hid (fun o2 v' w6 h1 h2 h3=>by
   have j3:Q0a wr ((wr.alloc (.cells (madeCells #[.bool false] n) 4)).alloc o2):=((mRf _ wr).alloc _).alloc _;have j8:Q1y ((wr.alloc (.cells (madeCells #[.bool false] n) 4)).alloc o2) wr.heap.size (List.replicate n false):=z0b (by rw[z03];exact z0a _ _);refine⟨?_,?_⟩
   ·rw[List.replicate_succ'];refine(HM.fresh j3).next j8 HF.size ?_ ?_ h1 h2 h3
    ·intro e;have:=(HM.own.lt _ e).2;omega
    intro x hx e;obtain⟨k,hk,rfl⟩:=List.getElem_of_mem hx;have:=(HM.blk k _ (qE hk)).2.lt;omega
   exact Mod.grown (S:=fun _=>False) (HF.trans j3) h2 (fun k hk hlt=>by have:=(HM.own.lt k hk).1;omega))
  clear hM hfr j2;go_wp2_with (first
   |(at_builtin;refine z0g _ rfl _ _ 89 rfl w.heap.size 90 i0 _ 1 24 Tryz.underlying89 hi0 iz0 iz1 iz2 rfl (by decide) (.slice ao gs.length cp) gs.length _ rfl (j5.out _ _) ⟨wr.heap.size+1,0,none⟩ 1 1 [bsl wr.heap.size n] rfl rfl (z2t rfl) (by intro u hu;simp at hu;subst hu;rfl) (by unfold maxLen;omega) (by omega) (by simp;omega) ?_))
  intro v' w6 hown2 hgrow hblk;have j1:=hid (j0.out _ v' w6 hown2 hgrow (by simpa using hblk));clear hown2 hgrow hblk;go_wp2;go_roundw
  case rel=>exact⟨i+1,_,by go_num,by omega,j1.1,j1.2⟩
  exact j4
 have k1:¬(i:Int)<(n:Int):=by omega
 have j6:i=n:=by omega
 subst j6;clear hM hfr j2;go_wp2;go_ret;exact⟨_,gs,rfl,HM,HF⟩
abbrev UpM(gs:List Nat):World->World->Prop:=Mod (fun k=>k∈gs)
def ChRet(w:World)(B n:Nat)(v:Value)(gs:List Nat)(M:Mat)(e:Ending)(w':World):Prop:=e=.returned v/\Q1s w' B n v gs M/\UpM gs w w'
theorem Q1s.row{w:World}{B n:Nat}{g c m:Nat}{gs:List Nat}{M:Mat}(h:Q1s w B n (.slice (some ⟨g,0,none⟩) m c) gs M){i gi:Nat}(hi:gs[i]? = some gi):w.cell? ⟨g,i,none⟩=some (bsl gi n):=by
 have:=h.own.cells (g:=g) rfl i (bsl gi n) (by rw[List.getElem?_map,hi];rfl);rwa [Addr.add_mid,Nat.zero_add]at this
theorem Q1s.cell{w:World}{B n:Nat}{v:Value}{gs:List Nat}{M:Mat}(h:Q1s w B n v gs M)(hs:Sq n M){i gi j:Nat}(hi:gs[i]? = some gi)(hj:j<n):w.cell? ⟨gi,j,none⟩=some (.bool (atM M i j)):=by
 have hl:=(qS hi).1;exact(h.blk i gi hi).2.cell (by rw[hs.row i (by rw[← hs.len,← h.len];exact hl)];exact hj)
theorem Q1s.drew{w:World}{B n:Nat}{v:Value}{gs:List Nat}{M:Mat}(h:Q1s w B n v gs M):Q1s w.drew B n v gs M:=h.fresh ⟨rfl,rfl,rfl,qR _,fun _ _ _=>rfl⟩
theorem wJ_s(k i n j:Nat)(M:Mat)(h:j<n):wJ k i (n-j) j M=wJ k i (n-(j+1)) (j+1) (Q7f M i j (atM M i j||(atM M i k&&atM M k j))):=by
 rw[show n-j=(n-(j+1))+1 by omega];rfl
theorem wI_s(k n i:Nat)(M:Mat)(h:i<n):wI k n (n-i) i M=wI k n (n-(i+1)) (i+1) (wJ k i n 0 M):=by
 rw[show n-i=(n-(i+1))+1 by omega];rfl
theorem wK_s(n k:Nat)(M:Mat)(h:k<n):wK n (n-k) k M=wK n (n-(k+1)) (k+1) (wI k n n 0 M):=by
 rw[show n-k=(n-(k+1))+1 by omega];rfl
theorem y0e(w:World)(B n:Nat)(v:Value)(gs:List Nat)(M:Mat)(hM:Q1s w B n v gs M)(hs:Sq n M)(hn:n<=100) :
  Calls Tryz.prog 92 #[v] w fun e w'=>ChRet w B n v gs (Q5c M) e w':=by
 have jb:gs.length=n:=by rw[hM.len,hs.len]
 have jc:Q5c M=wK n n 0 M:=by unfold Q5c;rw[hs.len]
 generalize Q5c M=V at jc;have HV:=hid jc.symm;obtain⟨ao,cp,hv⟩:=z0d hM.own;rw[jb]at hv;subst hv;have HM:=hid hM;have HS:=hid hs;have j4:=hid jb;clear hM hs jc jb;go_enter Tryz.func92,Tryz.ntmps92
 go_wp2;go_loopw [4,5,6] (fun x4 _ _ wr=>∃(k:Nat) (M':Mat),x4=.int .i64 k/\k<=n/\Q1s wr B n (.slice ao n cp) gs M'/\Sq n M'/\UpM gs w wr/\wK n (n-k) k M'=V)
   (fun x _ _ _=>1001-(intOf x).toNat)
 case atStart=>exact⟨0,M,rfl,by omega,HM,HS,mRf _ _,HV⟩
 obtain⟨k,M1,rfl,hk,hM,hs,hup,hrec⟩:=hrel;have jo:=hid (Q15 (B:=1001) k (by omega));have j6:=hid hM;have jf:=hid hs;have j7:=hid hup;clear HM HS HV hM hs hup;by_cases hlt:k<n
 ·have k1:(k:Int)<(n:Int):=by omega
  rw[wK_s _ _ _ hlt]at hrec;generalize hF2:wI k n n 0 M1=F2 at hrec;have jk:=hid hF2;have j2:=hid hrec;clear hF2 hrec;go_wp2;go_loopw [5,6] (fun x5 _ wr=>∃(i:Nat) (M':Mat),x5=.int .i64 i/\i<=n/\Q1s wr B n (.slice ao n cp) gs M'/\Sq n M'/\UpM gs w wr/\wI k n (n-i) i M'=F2)
    (fun x _ _=>1001-(intOf x).toNat)
  case atStart=>exact⟨0,M1,rfl,by omega,j6,jf,j7,jk⟩
  obtain⟨i,M2,rfl,hi,hM,hs,hup,hrec⟩:=hrel;have jn:=hid (Q15 (B:=1001) i (by omega));have j5:=hid hM;have j9:=hid hs;have ja:=hid hup;clear j6 jf j7 jk hM hs hup;by_cases hlt2:i<n
  ·have k2:(i:Int)<(n:Int):=by omega
   rw[wI_s _ _ _ _ hlt2]at hrec;generalize hF3:wJ k i n 0 M2=F3 at hrec;have ji:=hid hF3;have j1:=hid hrec;clear hF3 hrec;obtain⟨gi,hgi⟩:∃g,gs[i]? = some g:=⟨_,qE (by rw[j4.out];exact hlt2)⟩;obtain⟨gk,hgk⟩:∃g,gs[k]? = some g:=⟨_,qE (by rw[j4.out];exact hlt)⟩;have j3:=hid hgi;have jg:=hid hgk;clear hgi hgk;go_wp2;go_loopw [6] (fun x6 wr=>∃(j:Nat) (M':Mat),x6=.int .i64 j/\j<=n/\Q1s wr B n (.slice ao n cp) gs M'/\Sq n M'/\UpM gs w wr/\wJ k i (n-j) j M'=F3)
     (fun x _=>1001-(intOf x).toNat)
   case atStart=>exact⟨0,M2,rfl,by omega,j5,j9,ja,ji⟩
   obtain⟨j,M3,rfl,hj,hM,hs,hup,hrec⟩:=hrel;have j8:=hid (Q15 (B:=1001) j (by omega));have jd:=hid hup;have jl:=hid hM;have jm:=hid hs;clear j5 j9 ja ji hup;by_cases hlt3:j<n
   ·have k3:(j:Int)<(n:Int):=by omega
    rw[wJ_s _ _ _ _ _ hlt3]at hrec;have j0:=hid hrec;obtain⟨gv,cv,hv⟩:=Joins.ownsRow_form hM.own (by rw[j4.out];omega);rw[j4.out,qI]at hv;obtain⟨rfl,_,rfl⟩:=hv;have r1:=hM.row j3.out;have r2:=hM.row jg.out;have c1:=hM.cell hs j3.out hlt3;have c2:=hM.cell hs j3.out hlt;have c3:=hM.cell hs jg.out hlt3;have z1:=(hM.blk i gi j3.out).2.frozen j;have HP:Hid (∀c:Bool,Q1s (wr.setCell ⟨gi,j,none⟩ (.bool c)).drew B n (.slice (some ⟨gv,0,none⟩) n cp) gs (Q7f M3 i j c)/\Sq n (Q7f M3 i j c)/\UpM gs w (wr.setCell ⟨gi,j,none⟩ (.bool c)).drew):=hid (fun c =>
     ⟨(jl.put j3.out j c).drew,z8e jm.out hlt2 c,(jd.setCell (fun _=>List.mem_of_getElem? j3.out) _).drew⟩)
    generalize atM M3 i j=xa at j0 c1;generalize atM M3 i k=xb at j0 c2;generalize atM M3 k j=xc at j0 c3;clear hM hs hrec;cases xa
    ·cases xb
     ·go_wp2_with fail
      go_region;all_goals
       go_wp2;go_roundw
       case rel=>exact⟨j+1,_,by go_num,by omega,(HP.out _).1,(HP.out _).2.1,(HP.out _).2.2,j0⟩
       exact j8
     cases xc;all_goals
      go_wp2_with fail
      go_region;all_goals
       go_wp2;go_roundw
       case rel=>exact⟨j+1,_,by go_num,by omega,(HP.out _).1,(HP.out _).2.1,(HP.out _).2.2,j0⟩
       exact j8
    go_wp2_with fail
    go_region;all_goals
     go_wp2;go_roundw
     case rel=>exact⟨j+1,_,by go_num,by omega,(HP.out _).1,(HP.out _).2.1,(HP.out _).2.2,by have:=j0.out;rw[Bool.true_or]at this;exact this⟩
     exact j8
   have k3:¬(j:Int)<(n:Int):=by omega
   have jj:j=n:=by omega
   rw[jj,Nat.sub_self]at hrec;have j0:=hid hrec;clear hM hs hrec jj;go_wp2;go_roundw
   case rel=>exact⟨i+1,M3,by go_num,by omega,jl,jm,jd,by have:=j0.out;unfold wJ at this;rw[this];exact j1.out⟩
   exact jn
  have k2:¬(i:Int)<(n:Int):=by omega
  have jh:i=n:=by omega
  rw[jh,Nat.sub_self]at hrec;have j1:=hid hrec;clear hrec jh;go_wp2;go_roundw
  case rel=>exact⟨k+1,M2,by go_num,by omega,j5,j9,ja,by have:=j1.out;unfold wI at this;rw[this];exact j2.out⟩
  exact jo
 have k1:¬(k:Int)<(n:Int):=by omega
 have je:k=n:=by omega
 rw[je,Nat.sub_self]at hrec;have j2:=hid hrec;clear hrec je;go_wp2;go_ret;refine⟨rfl,?_,j7⟩;have:=j2.out;unfold wK at this;rw[← this];exact j6
theorem Q00.take{w:World}{ao:Option Addr}{n cap:Nat}{l:List Int}(h:Q00 w (.slice ao n cap) l)(hn:n=l.length){j:Nat}(hj:j<=l.length):Q00 w (.slice ao j cap) (l.take j):=by
 obtain⟨a1,c1,e,hc,hcell⟩:=h;rw[qI]at e;obtain⟨rfl,_,rfl⟩:=e;refine⟨ao,cap,by rw[List.length_take,Nat.min_eq_left hj],by rw[List.length_take];omega,fun k hk=>?_⟩;rw[List.length_take]at hk;obtain⟨g,o,e1,e2⟩:=hcell k (by omega);exact⟨g,o,e1,by rw[List.getElem_take];exact e2⟩
theorem v1j(c:Nat->Bool)(x:Nat)(y:Nat->Nat)(n j:Nat)(M:Mat)(h:j<n):cdJ c x y (n-j) j M=cdJ c x y (n-(j+1)) (j+1) (if c j=true then Q7f M x (y j) true else M):=by
 rw[show n-j=(n-(j+1))+1 by omega];rfl
theorem v1f(c:Q1->Nat->Bool)(x:Q1->Nat)(y:Q1->Nat->Nat)(q:List Q1)(i:Nat)(M:Mat)(h:i<q.length):cdI c x y (q.drop i) M=cdI c x y (q.drop (i+1)) (cdJ (c q[i]) (x q[i]) (y q[i]) q[i].2.length 0 M):=by
 rw[qC h];rfl
structure PrAt(w:World)(b:Nat)(P i:Nat)(x:Q1)(g3 o3 c3 g4 o4 n4 c4:Nat)(al:Option Addr)(cl:Nat):Prop where
 q3:w.cell? ⟨b,3,none⟩=some (.slice (some ⟨g3,o3,none⟩) P c3)
 y3:w.cell? ⟨g3,o3+i,none⟩=some (.int .i64 x.1)
 q4:w.cell? ⟨b,4,none⟩=some (.slice (some ⟨g4,o4,none⟩) n4 c4)
 n4:i<n4
 y4:w.cell? ⟨g4,o4+i,none⟩=some (.slice al x.2.length cl)
 l:Q00 w (.slice al x.2.length cl) x.2
theorem NV.pr{w:World}{b R H:Nat}{q:List Q1}{a0 a1 a2:Option Addr}{c0 c1 c2:Nat}{v3 v4:Value}{sv:List Value}(h:NV w b R H q a0 c0 a1 c1 a2 c2 v3 v4 sv){i:Nat}(hi:i<q.length) :
  ∃g3 o3 c3 g4 o4 n4 c4 al cl,PrAt w b q.length i q[i] g3 o3 c3 g4 o4 n4 c4 al cl:=by
 have j0:i<sv.length:=by rw[h.len];exact hi
 obtain⟨ao4,cp4,e4,hc4,cell4⟩:=h.r4;obtain⟨g4,o4,rfl,y4⟩:=cell4 i j0;have q4:=h.k4;rw[e4]at q4;have hl:=h.each i sv[i] q[i] (qE j0) (qE hi);obtain⟨aol,cpl,el,hcl,celll⟩:=id hl;rw[el]at y4 hl;obtain⟨ao3,cp3,e3,hc3,cell3⟩:=h.r3;obtain⟨g3,o3,rfl,y3⟩:=cell3 i (by rw[List.length_map];exact hi);rw[List.getElem_map]at y3;rw[List.length_map]at e3;have q3:=h.k3;rw[e3]at q3;exact⟨g3,o3,cp3,g4,o4,sv.length,cp4,aol,cpl,q3,y3,q4,j0,y4,hl⟩
theorem PrAt.fresh{w w':World}{b P i:Nat}{x:Q1}{g3 o3 c3 g4 o4 n4 c4:Nat}{al:Option Addr}{cl:Nat}(h:PrAt w b P i x g3 o3 c3 g4 o4 n4 c4 al cl)(hf:Q0a w w'):PrAt w' b P i x g3 o3 c3 g4 o4 n4 c4 al cl :=
 ⟨Q0i hf h.q3,Q0i hf h.y3,Q0i hf h.q4,h.n4,Q0i hf h.y4,h.l.fresh hf⟩
theorem x47(w:World)(b R H gn:Nat)(q:List Q1)(null:List Bool)(hS:Q3y w b R H q)(hQ:QOk R H q)(hn:Q1y w gn null)(hnl:null.length=H) :
  Calls Tryz.prog 66 #[.pointer (some ⟨b,0,none⟩),bsl gn H] w fun e w'=>MxRet w (R+1+H) (ldF R H null q) e w':=by
 obtain⟨a0,c0,a1,c1,a2,c2,v3,v4,sv,hN⟩:=hS;have r8:=hQ.r8;have h8:=hQ.h8;have p20:=hQ.p20;have HQ:=hid hQ;have HN:=hid hN;have js:=hid hn;have ju:=hid hnl;have k0:=hN.k0;have k1:=hN.k1;have k2:=hN.k2;have BA:=hid (fun(W:World) (hW:Q0a w W)=>z1i W b R a0 c0 (Q0i hW k0) (by omega));have SQ:Hid (∀W:World,Q0a w W->W.heap.size=w.heap.size->Calls Tryz.prog 74 #[.int .i64 ((R+1+H:Nat):Int)] W fun e w'=>∃v gs,e=.returned v/\Q1s w' w.heap.size (R+1+H) v gs (sqF (R+1+H))/\Q0a w w'):=hid (fun W hW hz=>by
  refine(z63 W (R+1+H) (by omega)).mono ?_;rintro e w'⟨v,gs,he,hm,hf⟩;rw[hz]at hm;exact⟨v,gs,he,hm,hW.trans hf⟩)
 have CH:=hid (fun(W:World) (B:Nat) (v:Value) (gs:List Nat) (M:Mat) (h1:Q1s W B (R+1+H) v gs M) (h2:Sq (R+1+H) M)=>y0e W B (R+1+H) v gs M h1 h2 (by omega));have jl:IntKind.i64.wrap (bs R+(H:Int))=((R+1+H:Nat):Int):=by rw[IntKind.wrap_i64];unfold bs;omega
 have hV:Q5c (cdI (ldZc R null) (ldX R) Q94 q (sqF (R+1+H)))=ldF R H null q:=rfl;have k3:R+1+H<=100:=by omega
 generalize ldF R H null q=V at hV;generalize j8:R+1+H=n at hV SQ CH jl k3 ⊢;have jr:=hid j8;have HV:=hid hV;clear hN hQ hV hn hnl k0 j8;go_enter Tryz.func66,Tryz.ntmps66
 go_upto_region 1 with fail
 go_cut [5] (fun s5 wx=>∃gs,Q1s wx w.heap.size n s5 gs (sqF n)/\Q0a w wx)
 case first =>
  go_region_with (first
   |(go_at_call 34;refine(BA.out _ (by first|exact mRf _ w|exact(mRf _ w).drew|exact((mRf _ w).drew).drew)).mono ?_;rintro e w'⟨rfl,hw⟩;rw[hw];clear hw)
   |(go_at_call 74;refine(SQ.out _ (by first|exact mRf _ w|exact(mRf _ w).drew|exact((mRf _ w).drew).drew) (by rfl)).mono ?_;rintro e w3⟨v,gs,rfl,hm3,hf3⟩))
  all_goals
   go_wp2_with fail
   go_meet;exact⟨gs,hm3,hf3⟩
 obtain⟨gs,hm,hfx⟩:=hcut;have HM:=hid hm;have HF:=hid hfx;generalize hL0:cdI (ldZc R null) (ldX R) Q94 q (sqF n)=L0 at HV;have jn:=hid hL0;obtain⟨ao,cp,hv⟩:=z0d hm.own;subst hv;clear hL0 hm hfx SQ jl;go_wp2;go_loopw [6,7,8] (fun x6 _ _ wr=>∃(i:Nat) (M:Mat),x6=.int .i64 i/\i<=q.length/\Q1s wr w.heap.size n (.slice ao gs.length cp) gs M/\Sq n M/\Q0a w wr/\cdI (ldZc R null) (ldX R) Q94 (q.drop i) M=L0)
   (fun x _ _ _=>1001-(intOf x).toNat)
 case atStart=>exact⟨0,_,rfl,by omega,HM,y05 n,HF,jn⟩
 obtain⟨i,M,rfl,hi,hm,hs,hfr,hrec⟩:=hrel;have jv:=hid (Q15 (B:=1001) i (by omega));have j7:=hid hm;have jb:=hid hs;have jf:=hid hfr;have k6:=Q0i hfr k1;clear HM HF jn hm hs;by_cases hlt:i<q.length
 ·have s1:(i:Int)<(q.length:Int):=by omega
  rw[v1f _ _ _ _ _ _ hlt]at hrec;generalize hF2:cdJ (ldZc R null q[i]) (ldX R q[i]) (Q94 q[i]) q[i].2.length 0 M=F2 at hrec;have j3:=hid hrec;have j4:=HQ.hd q[i] (qG hlt);have j6:=HQ.sy q[i] (qG hlt);obtain⟨g3,o3,c3,g4,o4,n4,c4,al,cl,hP⟩:=HN.pr hlt;generalize q[i]=z at hF2 j4 j6 hP;have jo:=hid hF2;have HP:=hid hP;have k7:=j6.1;have s4:(i:Int)<(n4:Int):=by have:=hP.n4;omega
  have q4:=(hP.fresh hfr).q4;have y4:=(hP.fresh hfr).y4;have ji:=hid j6.2;have jw:=hid j4;clear hrec hF2 hP j6 j4 hfr;go_wp2;go_loopw [7,8] (fun x7 _ wr=>∃(j:Nat) (M:Mat),x7=.int .i64 j/\j<=z.2.length/\Q1s wr w.heap.size n (.slice ao gs.length cp) gs M/\Sq n M/\Q0a w wr/\cdJ (ldZc R null z) (ldX R z) (Q94 z) (z.2.length-j) j M=F2)
    (fun x _ _=>1001-(intOf x).toNat)
  case atStart=>exact⟨0,M,rfl,by omega,j7,jb,jf,jo⟩
  obtain⟨j,M2,rfl,hj,hm,hs,hfr,hrec⟩:=hrel;have jj:=hid (Q15 (B:=1001) j (by omega));have ja:=hid hm;have j5:=hid hs;have jg:=hid hfr;have j2:=HP.fresh hfr;have q4:=j2.q4;have y4:=j2.y4;have jc:=j2.l;clear j7 jb jf jo q4 y4;have q4:=j2.q4;have y4:=j2.y4;by_cases hlt2:j<z.2.length
  ·have s2:(j:Int)<(z.2.length:Int):=by omega
   have s3:(j:Int)<=(z.2.length:Int):=by omega
   rw[v1j _ _ _ _ _ _ hlt2]at hrec;have j0:=hid hrec;have NO:=hid (z4s wr b R H gn a0 c0 (.slice al j cl) (z.2.take j) null (Q0i hfr HN.k0) (by omega) (by omega) (jc.take rfl (by omega)) (by rw[List.length_take];omega) (js.fresh hfr) ju.out (fun c hc=>ji.out c (List.mem_of_mem_take hc)));obtain⟨ao5,cp5,e5,hc5,cell5⟩:=jc;rw[qI]at e5;obtain⟨rfl,_,rfl⟩:=e5;obtain⟨gl,ol,rfl,y5⟩:=cell5 j hlt2;have s6:z.2.length<=cl:=hc5;have s7:(j:Int)<=(cl:Int):=by omega
   have HC:Hid (ldZc R null z j=Q33 (bs R) null (z.2.take j)):=hid rfl;generalize Q33 (bs R) null (z.2.take j)=nb at NO HC;clear hrec hm hs hfr cell5 j2;cases nb
   ·go_wp2_with (first
     |(go_at_call 68;refine(NO.out).mono ?_;rintro e w'⟨rfl,m,hw⟩;have HW:=hid hw;clear hw))
    go_roundw
    case rel =>
     have hf:=Q0r wr m;rw[← HW.out]at hf;refine⟨j+1,M2,by go_num,by omega,ja.fresh hf,j5,jg.trans hf,?_⟩;have:=j0.out;rw[HC.out,if_neg (by simp)]at this;exact this
    exact jj
   go_upto_region 10 with(first
    |(go_at_call 68;refine(NO.out).mono ?_;rintro e W1⟨rfl,m,hw⟩;have HW:=hid hw;clear hw))
   have hf:Q0a wr W1:=by rw[HW.out];exact Q0r wr m
   have je:=hid (jg.trans hf);have jd:=HP.fresh je.out;have p3:=jd.q3;have e3:=jd.y3;have p4:=Q0i hf q4;have e4:=Q0i hf y4;have e5:=Q0i hf y5;have j1:=ja.fresh hf;have j4:=jw.out;obtain⟨hdn,hhn⟩:∃a:Nat,z.1=a:=⟨z.1.toNat,by omega⟩;have jx:=ji.out z.2[j] (qG hlt2);obtain⟨yn,hyn⟩:∃a:Nat,z.2[j]=a:=⟨z.2[j].toNat,by omega⟩;have j9:ldX R z=R+1+hdn:=by unfold ldX bs;omega
   have jk:Q94 z j=yn:=by unfold Q94;rw[qD,qE hlt2,Option.getD_some,hyn,Int.toNat_natCast]
   have j8:=jr.out;obtain⟨xn,hx⟩:∃a,a=R+1+hdn:=⟨_,rfl⟩;rw[← hx]at j9;have jp:xn<n:=by omega
   have jt:yn<n:=by omega
   have jz:gs.length=n:=by rw[j1.len,j5.len]
   obtain⟨gx,hgx⟩:∃g,gs[xn]? = some g:=⟨_,qE (by omega)⟩;obtain⟨gv,cv,hv⟩:=Joins.ownsRow_form j1.own (by omega);rw[qI]at hv;obtain⟨rfl,_,rfl⟩:=hv;have r1:=j1.row hgx;have d1:=j1.cell j5.out hgx jt;have d2:=(j1.blk xn gx hgx).2.frozen yn;rw[hhn]at e3;rw[hyn]at e5;have t1:(xn:Int)<(gs.length:Int):=by omega
   have t2:(yn:Int)<(n:Int):=by omega
   have k5:IntKind.i64.wrap (bs R+(hdn:Int))=(xn:Int):=by rw[IntKind.wrap_i64];unfold bs;omega
   have jh:Hid (Q1s (W1.setCell ⟨gx,yn,none⟩ (.bool true)).drew w.heap.size n (.slice (some ⟨gv,0,none⟩) gs.length cp) gs (Q7f M2 xn yn true)/\Sq n (Q7f M2 xn yn true)/\Q0a w (W1.setCell ⟨gx,yn,none⟩ (.bool true)).drew):=hid
    ⟨(j1.put hgx yn true).drew,z8e j5.out jp true,(je.setCell (fun hlt=>by have:=(j1.blk xn gx hgx).1;exact absurd hlt (by show ¬gx<w.heap.size;omega)) _).drew⟩
   have jy:Hid (cdJ (ldZc R null z) (ldX R z) (Q94 z) (z.2.length-(j+1)) (j+1) (Q7f M2 xn yn true)=F2):=hid (by
    have:=j0.out;rw[HC.out,if_pos rfl,j9,jk]at this;have e:ldX R z=xn:=j9;rw[e];exact this)
   clear hf jd j1 j4 hhn jx hyn j9 jk j8 hx jz hgx q4 y4 y5 NO j0;refine wp_region_still_tail 24 (by kernel_rfl) (by kernel_rfl) ?_;change wpStill _ _ W1.drew _ _ _;simp only[List.take_succ_cons,List.take_zero,List.drop_succ_cons,List.drop_zero];still_step
   still_step
   still_call (BA.out _ je.drew)
   repeat still_step
   refine wpStill_nil ?_;change wpList _ _ _ _ _ W1.drew;go_wp2;go_roundw
   case rel=>exact⟨j+1,_,by go_num,by omega,jh.1,jh.2.1,jh.2.2,jy⟩
   exact jj
  have s2:¬(j:Int)<(z.2.length:Int):=by omega
  have jm:z.2.length-j=0:=by omega
  rw[jm]at hrec;have j0:=hid hrec;clear hrec jm hm hs hfr jc j2;go_wp2;go_roundw
  case rel=>exact⟨i+1,M2,by go_num,by omega,ja,j5,jg,by have:=j0.out;unfold cdJ at this;rw[this];exact j3.out⟩
  exact jv
 have s1:¬(i:Int)<(q.length:Int):=by omega
 rw[List.drop_eq_nil_of_le (by omega)]at hrec;have j3:=hid hrec;clear hrec hfr;go_wp2_with (first
  |(go_at_call 92;refine(CH.out _ _ _ _ _ j7.out jb.out).mono ?_;rintro e w3⟨rfl,hm3,hu3⟩;have k4:=hid hm3;have jq:=hid hu3;clear hm3 hu3))
 go_ret;refine⟨_,gs,rfl,?_,?_⟩
 ·rw[← HV.out,← j3.out];exact k4
 have hz:=jf.out;exact hz.trans' jq.out (fun k hlt2 hk=>by
  obtain⟨j,hj,rfl⟩:=List.getElem_of_mem hk;have:=(j7.blk j _ (qE hj)).1;omega)
def Q4k(q:List Q1)(m:Itm):Int:=((q[m.p]?).bind fun x=>x.2[m.d]?).getD (-1)
theorem z5j(w:World)(cb b R H:Nat)(q:List Q1)(m:Itm)(kx:w.cell? ⟨cb,0,none⟩=some (.pointer (some ⟨b,0,none⟩)))(hS:Q3y w b R H q)(hQ:QOk R H q)(hm:m.p<q.length)(hd:m.d<=1000) :
  Calls Tryz.prog 73 #[.pointer (some ⟨cb,0,none⟩),.agg (itA m.p m.d m.f)] w fun e w'=>e=.returned (.int .i64 (Q4k q m))/\Q0a w w':=by
 obtain⟨p,d,f⟩:=m;dsimp only at hm hd ⊢;obtain⟨a0,c0,a1,c1,a2,c2,v3,v4,sv,hN⟩:=hS;obtain⟨g3,o3,c3,g4,o4,n4,c4,al,cl,hP⟩:=hN.pr hm;have j2:=hQ.p20;have j3:=(hQ.sy q[p] (qG hm)).1;have j1:Q4k q ⟨p,d,f⟩=(q[p].2[d]?).getD (-1):=by unfold Q4k;simp[qE hm]
 rw[j1];have j0:Q0a w (w.alloc (.cells (itA p d f) 163 (0,0))):=(mRf _ w).alloc _;have i0:=Q0b (z0a w (.cells (itA p d f) 163 (0,0))) 0;have i1:=Q0b (z0a w (.cells (itA p d f) 163 (0,0))) 1;simp at i0 i1;have x0:=Q0i j0 kx;have q4:=Q0i j0 hP.q4;have y4:=Q0i j0 hP.y4;have s4:(p:Int)<(n4:Int):=by have:=hP.n4;omega
 have hl:=hP.l.fresh j0;have HF:Hid (∀k,Q0a w ((w.alloc (.cells (itA p d f) 163 (0,0))).drewN k)):=fun k=>j0.trans (Q0r _ k);have j4:p<20:=by omega
 clear j0 j1 kx hN hQ hP;generalize q[p]=x at j3 y4 hl ⊢;clear hm j2;obtain⟨ao,cap,e,hc,hcell⟩:=hl;rw[qI]at e;obtain⟨rfl,_,rfl⟩:=e;have HC:=hid hcell;clear hcell;by_cases hlt:d<x.2.length
 ·obtain⟨g,o,rfl,hcl⟩:=HC.out d hlt;have h1:¬((x.2.length:Int)<=(d:Int)):=by omega
  have h2:(d:Int)<(x.2.length:Int):=by omega
  rw[qE hlt,Option.getD_some];have c1:=hcl;generalize x.2[d]=c at c1 ⊢;clear hcl HC;go_enter Tryz.func73,Tryz.ntmps73
  go_wp2_with fail
  go_quiet (fail);go_wp2_with fail
  go_quiet (fail);go_wp2;go_ret;exact⟨rfl,(HF.out _).trans (Q0r _ _)⟩
 have h1:((x.2.length:Int)<=(d:Int)):=by omega
 rw[qN (by omega),Option.getD_none];clear HC;go_enter Tryz.func73,Tryz.ntmps73
 go_wp2_with fail
 go_quiet (fail);go_wp2;go_ret;exact⟨rfl,HF.out _⟩
end Go.Proofs.YtcpceafmlgaodaaGreat
