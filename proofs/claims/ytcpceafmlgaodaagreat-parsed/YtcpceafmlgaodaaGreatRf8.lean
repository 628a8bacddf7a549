import Derived.Test.YtcpceafmlgaodaaGreatRg2
namespace Go.Proofs.YtcpceafmlgaodaaGreat
open Go.RowKit
set_option maxRecDepth 99999
set_option maxHeartbeats 0
set_option linter.all false
theorem y5w(s:ByteArray)(w:World)(hs:s.size<=70000)(n:Nat)(hn:Q37 s 0=n)(hn0:0<n)(hok:Q48 s n=false) :
  Calls Tryz.prog 60 #[.string s] w fun e w'=>e=.returned (.tuple #[.agg (zlA false false ⟨#[]⟩ ⟨#[]⟩ (.slice none 0 0) (.slice none 0 0) 0),.bool false])/\Q0a w w':=by
 have ZL:=hid (fun w=>z2g s 0 w (by omega) (by omega));have e0:((0:Nat):Int)=0:=rfl;rw[e0,hn]at ZL;have j1:=z8d s (s.size+2) 0 (by omega) (by omega);have j0:((Q37 s 0:Nat):Int)<=s.size:=by have h:0+((Q37 s 0:Nat):Int)<=s.size:=j1;omega
 rw[hn]at j0;have hz:(w.alloc (.cells (zlA false false ⟨#[]⟩ ⟨#[]⟩ (.slice none 0 0) (.slice none 0 0) 0) 85 (0,0))).heap[w.heap.size]? = some (.cells (zlA false false ⟨#[]⟩ ⟨#[]⟩ (.slice none 0 0) (.slice none 0 0) 0) 85 (0,0)):=z0a _ _;have HZ:=hid hz;clear hz j1 hn;have k1:0<(n:Int):=by omega
 unfold Q48 at hok;by_cases h8:8<n
 ·have k2:(8:Int)<(n:Int):=by omega
  clear hok;go_enter Tryz.func60,Tryz.ntmps60
  go_wp2_with (first
   |(go_at_call 87;refine csm (ZL.out _) ?_)
   |(refine wpList_store_row rfl 85 _ _ rfl w.heap.size _ rfl rfl _ _ HZ.out Q52 rfl (z3b rfl rfl) ?_))
  refine bodyPost_ret (Q7u rfl _ _ w.heap.size 85 _ (0,0) _ rfl (setRow_heap _ _ _ _ _ _ HZ.out) Tryz.underlying85 rfl Q52) rfl ⟨rfl,?_⟩;exact((mRf _ w).alloc _).setRow (by simp) _
 have k2:¬(8:Int)<(n:Int):=by omega
 by_cases hns:n<s.size
 ·have hb:=z1r hns;rw[hb,qBl (by omega),qBl hns]at hok;simp only[qBa,qBm]at hok;obtain⟨c1,c2⟩:=hok;have q1:((s[n].toNat:Int) != 61)=true:=by simpa using c1
  have q2:((s[n].toNat:Int) != 126)=true:=by simpa using c2
  have j2:s[n].toNat<256:=s[n].toNat_lt;have k3:¬(s.size:Int)<=(n:Int):=by omega
  have k4:(n:Int)<(s.size:Int):=by omega
  clear hb c1 c2;go_enter Tryz.func60,Tryz.ntmps60
  go_wp2_with (first
   |(go_at_call 87;refine csm (ZL.out _) ?_)
   |(refine wpList_store_row rfl 85 _ _ rfl w.heap.size _ rfl rfl _ _ HZ.out Q52 rfl (z3b rfl rfl) ?_))
  refine bodyPost_ret (Q7u rfl _ _ w.heap.size 85 _ (0,0) _ rfl (setRow_heap _ _ _ _ _ _ HZ.out) Tryz.underlying85 rfl Q52) rfl ⟨rfl,?_⟩;exact((mRf _ w).alloc _).setRow (by simp) _
 have k3:(s.size:Int)<=(n:Int):=by omega
 clear hok;go_enter Tryz.func60,Tryz.ntmps60
 go_wp2_with (first
  |(go_at_call 87;refine csm (ZL.out _) ?_)
  |(refine wpList_store_row rfl 85 _ _ rfl w.heap.size _ rfl rfl _ _ HZ.out Q52 rfl (z3b rfl rfl) ?_))
 refine bodyPost_ret (Q7u rfl _ _ w.heap.size 85 _ (0,0) _ rfl (setRow_heap _ _ _ _ _ _ HZ.out) Tryz.underlying85 rfl Q52) rfl ⟨rfl,?_⟩;exact((mRf _ w).alloc _).setRow (by simp) _
theorem y7h(s:ByteArray){i:Int}(h0:0<=i):Q5k s i=-1∨(i<Q5k s i/\Q5k s i<=s.size):=by
 by_cases h:0<=Q5k s i
 ·right;obtain⟨m,hw,hm⟩:=y0d h0 h;have hp:=hw.pos;have j0:atB s (i+((m-1:Nat):Int))≠-1:=by
   by_cases m1:m-1=0
   ·rw[m1];intro q;have:=hw.first;simp only[qDj,qCs]at q;rw[q]at this;revert this;decide
   exact y2s (hw.rest (m-1) (by omega) (by omega))
  have:=z0q j0;omega
 left;unfold Q5k at h ⊢;split
 ·rfl
 rename_i c0;rw[qAa c0]at h;split
 ·rename_i c1;rw[qAb c1]at h;split
  ·rfl
  rename_i c2;rw[qAa c2]at h;omega
 rename_i c1;rw[qAa c1]at h;split
 ·rfl
 rename_i c2;rw[qAa c2]at h;omega
theorem y5v(s:ByteArray)(w:World)(hs:s.size<=70000)(hn:Q37 s 0=0)(hok:¬(0<=Q5k s 0/\atB s (Q5k s 0)=58)) :
  Calls Tryz.prog 60 #[.string s] w fun e w'=>e=.returned (.tuple #[.agg (zlA false false ⟨#[]⟩ ⟨#[]⟩ (.slice none 0 0) (.slice none 0 0) 0),.bool false])/\Q0a w w':=by
 have ZL:=hid (fun w=>z2g s 0 w (by omega) (by omega));have ZY:=hid (fun w=>z50 s 0 w (by omega) (by omega));have e0:((0:Nat):Int)=0:=rfl;rw[e0,hn]at ZL;rw[e0]at ZL ZY;have j0:=y7h s (i:=0) (by omega);have hz:(w.alloc (.cells (zlA false false ⟨#[]⟩ ⟨#[]⟩ (.slice none 0 0) (.slice none 0 0) 0) 85 (0,0))).heap[w.heap.size]? = some (.cells (zlA false false ⟨#[]⟩ ⟨#[]⟩ (.slice none 0 0) (.slice none 0 0) 0) 85 (0,0)):=z0a _ _;have HZ:=hid hz;clear hz hn;generalize Q5k s 0=y at ZY j0 hok;by_cases y0:y<0
 ·clear hok j0;go_enter Tryz.func60,Tryz.ntmps60
  go_wp2_with (first
   |(go_at_call 87;refine csm (ZL.out _) ?_)
   |(go_at_call 89;refine csm (ZY.out _) ?_)
   |(refine wpList_store_row rfl 85 _ _ rfl w.heap.size _ rfl rfl _ _ HZ.out Q52 rfl (z3b rfl rfl) ?_))
  refine bodyPost_ret (Q7u rfl _ _ w.heap.size 85 _ (0,0) _ rfl (setRow_heap _ _ _ _ _ _ HZ.out) Tryz.underlying85 rfl Q52) rfl ⟨rfl,?_⟩;exact((mRf _ w).alloc _).setRow (by simp) _
 obtain⟨j,rfl⟩:∃j:Nat,y=j:=⟨y.toNat,by omega⟩;by_cases hj:j<s.size
 ·have hb:=z1r hj;rw[hb]at hok;have q1:((s[j].toNat:Int) != 58)=true:=by
   have:¬(s[j].toNat:Int)=58:=fun q=>hok ⟨by omega,q⟩;simpa using this
  have j1:s[j].toNat<256:=s[j].toNat_lt;have k3:¬(s.size:Int)<=(j:Int):=by omega
  have k4:(j:Int)<(s.size:Int):=by omega
  clear hb hok j0;go_enter Tryz.func60,Tryz.ntmps60
  go_wp2_with (first
   |(go_at_call 87;refine csm (ZL.out _) ?_)
   |(go_at_call 89;refine csm (ZY.out _) ?_)
   |(refine wpList_store_row rfl 85 _ _ rfl w.heap.size _ rfl rfl _ _ HZ.out Q52 rfl (z3b rfl rfl) ?_))
  refine bodyPost_ret (Q7u rfl _ _ w.heap.size 85 _ (0,0) _ rfl (setRow_heap _ _ _ _ _ _ HZ.out) Tryz.underlying85 rfl Q52) rfl ⟨rfl,?_⟩;exact((mRf _ w).alloc _).setRow (by simp) _
 have k3:(s.size:Int)<=(j:Int):=by omega
 clear hok j0;go_enter Tryz.func60,Tryz.ntmps60
 go_wp2_with (first
  |(go_at_call 87;refine csm (ZL.out _) ?_)
  |(go_at_call 89;refine csm (ZY.out _) ?_)
  |(refine wpList_store_row rfl 85 _ _ rfl w.heap.size _ rfl rfl _ _ HZ.out Q52 rfl (z3b rfl rfl) ?_))
 refine bodyPost_ret (Q7u rfl _ _ w.heap.size 85 _ (0,0) _ rfl (setRow_heap _ _ _ _ _ _ HZ.out) Tryz.underlying85 rfl Q52) rfl ⟨rfl,?_⟩;exact((mRf _ w).alloc _).setRow (by simp) _
structure LnM(w wr:World)(nm:ByteArray)(a:List ByteArray)(b:List Int)(vs vp:Value):Prop where
 fresh:Q0a w wr
 res:wr.heap[w.heap.size]? = some (.cells (zlA false false ⟨#[]⟩ ⟨#[]⟩ (.slice none 0 0) (.slice none 0 0) 0) 85 (0,0))
 loc:wr.heap[w.heap.size+1]? = some (.cells (zlA false false nm ⟨#[]⟩ vs vp 0) 85 (0,0))
 os:wr.ownsRow (w.heap.size+2) 9 1 vs a.length (Q9t a)
 op:wr.ownsRow (w.heap.size+2) 3 1 vp b.length (Q9w b)
 dis:∀k,vs.ownBlock=some k->vp.ownBlock=some k->False
section
variable {w wr W w1:World}{nm:ByteArray}{a:List ByteArray}{b:List Int}{vs vp v':Value}
theorem LnM.blk(h:LnM w wr nm a b vs vp)(hW:Q0a wr W){v:Value}(hv:v=vs∨v=vp)(hg:W.grownBy w1 v.ownBlock) :
  w1.heap[w.heap.size]? = some (.cells (zlA false false ⟨#[]⟩ ⟨#[]⟩ (.slice none 0 0) (.slice none 0 0) 0) 85 (0,0))/\w1.heap[w.heap.size+1]? = some (.cells (zlA false false nm ⟨#[]⟩ vs vp 0) 85 (0,0)):=by
 have h1:=hW.at h.res (fun x=>x);have h2:=hW.at h.loc (fun x=>x);have j0:∀k,v.ownBlock=some k->w.heap.size+2<=k:=by
  intro k hk;rcases hv with rfl|rfl
  ·exact(h.os.lt k hk).1
  exact(h.op.lt k hk).1
 exact⟨by rw[hg.block _ (z0j h1) (fun e=>by have:=j0 _ e.symm;omega)];exact h1,by rw[hg.block _ (z0j h2) (fun e=>by have:=j0 _ e.symm;omega)];exact h2⟩
theorem LnM.addS{x:ByteArray}(h:LnM w wr nm a b vs vp)(hW:Q0a wr W)(hown:w1.ownsRow (w.heap.size+2) 9 1 v' (a.length+1) (Q9t a++[.string x]))(hg:W.grownBy w1 vs.ownBlock)
  (hb:∀k,v'.ownBlock=some k->vs.ownBlock=some k∨W.heap.size<=k):LnM w (w1.setCell ⟨w.heap.size+1,4,none⟩ v') nm (a++[x]) b v' vp:=by
 obtain⟨k1,k2⟩:=h.blk hW (.inl rfl) hg;have hl:=hown.lt;refine⟨?_,?_,?_,?_,?_,?_⟩
 ·exact((h.fresh.trans hW).grown hg (fun k hk hlt=>by have:=h.os.lt k hk;omega)).setCell (fun q=>by dsimp only at q;omega) _
 ·exact z0i k1 (by simp)
 ·rw[zhs k2];rfl
 ·rw[qP,qAf];have e1:=qBf (f:=Value.string) (l₁:=a) (l₂:=[x]);rw[qCf]at e1;show World.ownsRow _ _ _ _ _ _ (List.map _ _);rw[e1];exact z0c hown (fun g hg'=>by rw[Proofs.YtcpceafmlgaodaaGreat.heap_setCell_other _ (by have:=hl g hg';simp;omega)])
 ·refine z0c h.op (fun g hg'=>?_);have l2:=h.op.lt g hg';rw[Proofs.YtcpceafmlgaodaaGreat.heap_setCell_other _ (by simp;omega),hg.block g (by have:=hW.size;omega) (fun e=>h.dis g e.symm hg'),hW.block g l2.2 (fun x=>x)]
 intro k q1 q2;rcases hb k q1 with q|q
 ·exact h.dis k q q2
 have:=h.op.lt k q2;have:=hW.size;omega
theorem LnM.addP{x:Int}(h:LnM w wr nm a b vs vp)(hW:Q0a wr W)(hown:w1.ownsRow (w.heap.size+2) 3 1 v' (b.length+1) (Q9w b++[.int .i64 x]))(hg:W.grownBy w1 vp.ownBlock)
  (hb:∀k,v'.ownBlock=some k->vp.ownBlock=some k∨W.heap.size<=k):LnM w (w1.setCell ⟨w.heap.size+1,5,none⟩ v') nm a (b++[x]) vs v':=by
 obtain⟨k1,k2⟩:=h.blk hW (.inr rfl) hg;have hl:=hown.lt;refine⟨?_,?_,?_,?_,?_,?_⟩
 ·exact((h.fresh.trans hW).grown hg (fun k hk hlt=>by have:=h.op.lt k hk;omega)).setCell (fun q=>by dsimp only at q;omega) _
 ·exact z0i k1 (by simp)
 ·rw[zhs k2];rfl
 ·refine z0c h.os (fun g hg'=>?_);have l2:=h.os.lt g hg';rw[Proofs.YtcpceafmlgaodaaGreat.heap_setCell_other _ (by simp;omega),hg.block g (by have:=hW.size;omega) (fun e=>h.dis g hg' e.symm),hW.block g l2.2 (fun x=>x)]
 ·rw[qP,qAf];have e1:=qBf (f:=Value.int .i64) (l₁:=b) (l₂:=[x]);rw[qCf]at e1;show World.ownsRow _ _ _ _ _ _ (List.map _ _);rw[e1];exact z0c hown (fun g hg'=>by rw[Proofs.YtcpceafmlgaodaaGreat.heap_setCell_other _ (by have:=hl g hg';simp;omega)])
 intro k q1 q2;rcases hb k q2 with q|q
 ·exact h.dis k q1 q
 have:=h.os.lt k q1;have:=hW.size;omega
theorem LnM.ret{ok:Bool}{r:Option ZLn}(h:LnM w wr nm a b vs vp)(hr:r.isSome=ok)(hz:∀z,r=some z->z=⟨false,false,nm,⟨#[]⟩,a,b⟩){e:Ending}{w':World}(hf:w'=wr.setRow w.heap.size (zlA false false nm ⟨#[]⟩ vs vp 0))(he:e=.returned (.tuple #[.agg (zlA false false nm ⟨#[]⟩ vs vp 0),.bool ok])):ZRet w r e w':=by
 subst hf;refine⟨⟨⟨false,false,nm,⟨#[]⟩,a,b⟩,vs,vp,0⟩,by rw[hr];exact he,⟨?_,?_⟩,h.fresh.setRow (by simp) _,fun z q=>(hz z q).symm⟩
 ·exact z0f (z0c h.os (fun g hg=>setRow_other _ _ _ _ (by have:=h.os.lt g hg;omega))) (by omega)
 exact z0f (z0c h.op (fun g hg=>setRow_other _ _ _ _ (by have:=h.op.lt g hg;omega))) (by omega)
end
attribute [local go_sem ↓] z13
theorem x02(s:ByteArray)(w:World)(hs:s.size<=70000)(hn:Q37 s 0=0)(hok:0<=Q5k s 0/\atB s (Q5k s 0)=58) :
  Calls Tryz.prog 60 #[.string s] w fun e w'=>ZRet w ((Q43 s (s.size+5) (Q5k s 0+1) [] []).map (fun l=>⟨false,false,s.extract 0 (Q5k s 0).toNat,⟨#[]⟩,l.1,l.2⟩)) e w':=by
 have ZL:=hid (fun w=>z2g s 0 w (by omega) (by omega));have ZY:=hid (fun w=>z50 s 0 w (by omega) (by omega));have ZS:=hid (fun(i:Nat) (w:World) (hi:i<=s.size)=>z50 s (i+1) w (by omega) (by omega));have e0:((0:Nat):Int)=0:=rfl;rw[e0,hn]at ZL;rw[e0]at ZL ZY;clear e0;have j7:=y7h s (i:=0) (by omega);have BD:=hid (fun(i:Nat)=>y7h s (i:=((i+1:Nat):Int)) (by omega));obtain⟨i0,hi0,hz0,hz1,hz2⟩:=Q8j;obtain⟨i1,hi1,hy0,hy1,hy2⟩:=Q6o;have hz:∀o:Obj,((w.alloc (.cells (zlA false false ⟨#[]⟩ ⟨#[]⟩ (.slice none 0 0) (.slice none 0 0) 0) 85 (0,0))).alloc o).heap[w.heap.size]? = some (.cells (zlA false false ⟨#[]⟩ ⟨#[]⟩ (.slice none 0 0) (.slice none 0 0) 0) 85 (0,0)):=fun o=>heap_alloc2_old _ _ _;have HZ:=hid hz;clear hz hn;generalize Q5k s 0=y at ZY j7 hok;obtain⟨y0,y58⟩:=hok;obtain⟨j,rfl⟩:∃j:Nat,y=j:=⟨y.toNat,by omega⟩;have hj:j<s.size:=by
  have:=z0q (s:=s) (i:=(j:Int)) (by omega);omega
 have hb:=z1r hj;rw[hb]at y58;have q1:((s[j].toNat:Int) != 58)=false:=by simp[y58]
 have ja:s[j].toNat<256:=s[j].toNat_lt;have k3:¬(s.size:Int)<=(j:Int):=by omega
 have k4:(j:Int)<(s.size:Int):=by omega
 have k5:decide (s.size<=j)=false:=by simpa using hj
 have k6:decide ((j:Int)<0)=false:=by simp
 have ej:((j:Int)).toNat=j:=by omega
 rw[ej];generalize hnm:s.extract 0 j=nm;have j5:=hid hnm;generalize hR:Q43 s (s.size+5) ((j:Int)+1) [] []=R;have HR:=hid hR;clear hb j7 y58 hR hnm ej;go_enter Tryz.func60,Tryz.ntmps60
 go_wp2_with (first
  |(go_at_call 87;refine csm (ZL.out _) ?_)
  |(go_at_call 89;refine csm (ZY.out _) ?_)
  |(refine z0e rfl 85 _ _ rfl (w.alloc (.cells (zlA false false ⟨#[]⟩ ⟨#[]⟩ (.slice none 0 0) (.slice none 0 0) 0) 85 (0,0))) _ _ _ rfl rfl rfl Q52 rfl (z3b rfl rfl) ?_))
 go_loopw [6,8] (fun x6 _ wr=>∃(f i:Nat) (a:List ByteArray) (b:List Int) (vs vp:Value),x6=.int .i64 i/\Q43 s f i a b=R/\s.size+2<=f+i/\i<=s.size/\a.length<=i/\b.length<=i/\LnM w wr nm a b vs vp)
   (fun x _ _=>80000-(intOf x).toNat)
 case atStart =>
  refine⟨s.size+5,j+1,[],[],.slice none 0 0,.slice none 0 0,by go_num,HR.out,by omega,by omega,by simp,by simp,?_⟩;rw[j5.out];exact⟨((mRf _ w).alloc _).alloc _,HZ.out _,heap_alloc2_new _ _ _,World.ownsRow_nil _ _ _ _,World.ownsRow_nil _ _ _ _,fun k q=>by simp[Value.ownBlock]at q⟩
 obtain⟨f,i,a,b,vs,vp,rfl,hR,hfu,hi,hal,hbl2,hM⟩:=hrel;clear HR j5 HZ q1;obtain⟨f,rfl⟩:∃g,f=g+1:=⟨f-1,by omega⟩;rw[z6q]at hR;have HM:=hid hM;obtain⟨as_,cs_,hvs⟩:=z0d hM.os;obtain⟨ap_,cp_,hvp⟩:=z0d hM.op;have j8:=Q0b hM.loc 4;have jg:=Q0g hM.loc 4;have jh:=hM.fresh.size;have jd:=z0j hM.loc;clear hM;subst hvs hvp;simp at j8;by_cases hi2:i<s.size
 ·have hb:=z1r hi2;have ja:s[i].toNat<256:=s[i].toNat_lt;have k4:(i:Int)<(s.size:Int):=by omega
  rw[qAb k4,hb]at hR;clear hb;by_cases c32:(s[i].toNat:Int)=32
  ·rw[qAb c32]at hR;have q1:((s[i].toNat:Int) != 32)=false:=by simp[c32]
   have ZX:=hid (fun w=>ZS.out i w hi);have bd:=BD.out i;have ei:((i+1:Nat):Int)=(i:Int)+1:=by omega
   rw[ei]at ZX bd;clear ei;generalize Q5k s ((i:Int)+1)=y at ZX bd hR;clear c32;by_cases y0:y<0
   ·rw[qAb y0]at hR;have j0:=hid hR;clear hR bd;go_wp2_with (first
     |(go_at_call 89;refine csm (ZX.out _) ?_)
     |(refine wpList_load_row rfl 85 _ rfl (w.heap.size+1) rfl _ _ _ _ HM.loc Tryz.underlying85 rfl Q52 ?_)
     |(refine wpList_store_row rfl 85 _ _ rfl w.heap.size _ rfl rfl _ _ HM.res Q52 rfl (z3b rfl rfl) ?_))
    refine bodyPost_ret (Q7u rfl _ _ w.heap.size 85 _ (0,0) _ rfl (setRow_heap _ _ _ _ _ _ HM.res) Tryz.underlying85 rfl Q52) rfl ?_;rw[← j0.out];exact HM.ret (ok:=false) rfl (fun z q=>by cases q) rfl rfl
   obtain⟨n,rfl⟩:∃n:Nat,y=n:=⟨y.toNat,by omega⟩;rw[qAa y0]at hR;have e1:((i:Int)+1).toNat=i+1:=by omega
   have e2:((n:Int)).toNat=n:=by omega
   rw[e1,e2]at hR;have b1:i+1<n:=by omega
   have b2:n<=s.size:=by omega
   have j0:=hid hR;clear hR bd e1 e2;have b3:(i:Int)+1<=(n:Int):=by omega
   have b4:(n:Int)<=(s.size:Int):=by omega
   go_upto_region 18 with(first
    |(go_at_call 89;refine csm (ZX.out _) ?_))
   obtain⟨v',w2,hrun,hown,hgrow,hblk⟩:=z2y (P:=Tryz.prog) (wr.alloc (.cells #[.string (s.extract (i+1) n)] 9)).drew (w.heap.size+2) 51 51 9 i0 _ 1 16 Tryz.underlying51 hi0 hz0 hz1 hz2 rfl (by decide) (.slice as_ a.length cs_) a.length (Q9t a) (HM.os.alloc _) ⟨wr.heap.size,0,none⟩ 1 1 [.string (s.extract (i+1) n)] rfl (z0l rfl) (by intro u hu;simp at hu;subst hu;rfl) (by unfold maxLen;omega) (by omega) (by simp[World.drew];omega);obtain⟨a',cap',hv'⟩:=z0d hown;have j3:=HM.blk (((mRf _ wr).alloc _).drew) (.inl rfl) hgrow;have jb:w2.cell? ⟨w.heap.size+1,4,none⟩=some (.slice as_ a.length cs_):=(Q0b j3.2 4);have jc:=Q0g j3.2 4;have j6:=hid hown;have j4:=hid hgrow;clear hown hgrow j3;subst hv';go_region;all_goals
    have M1:=HM.addS (x:=s.extract (i+1) n) (((mRf _ wr).alloc _).drew) j6.out j4.out hblk;generalize hWW:w2.setCell _ _=W1 at M1 ⊢;have j1:=hid M1;have k1:=Q0b M1.loc 5;have k2:=Q0g M1.loc 5;have je:=z0j M1.loc;have jf:=M1.fresh.size;clear hWW j6 j4 hblk jb jc hrun M1 HM j8 jg;simp at k1;go_wp2_with (first
     |(at_builtin;refine z0g _ rfl _ _ 22 rfl (w.heap.size+2) 3 i1 _ 1 8 Tryz.underlying22 hi1 hy0 hy1 hy2 rfl (by decide) (.slice ap_ b.length cp_) b.length (Q9w b) rfl (j1.op.alloc _) ⟨W1.heap.size,0,none⟩ 1 1 [.int .i64 ((i:Int)+1)] rfl rfl (z0l rfl) (by intro u hu;simp at hu;subst hu;rfl) (by unfold maxLen;omega) (by omega) (by simp;omega) ?_;intro v9 w4 hown hgrow hblk;obtain⟨a9,c9,hv9⟩:=z0d hown;have j2:=(j1.blk ((mRf _ W1).alloc _) (.inr rfl) hgrow).2;have k6:w4.cell? ⟨w.heap.size+1,5,none⟩=some (.slice ap_ b.length cp_):=Q0b j2 5;have k7:=Q0g j2 5;have M2:=j1.addP (x:=(i:Int)+1) ((mRf _ W1).alloc _) hown hgrow (by simpa using hblk);have j9:=hid M2;clear hown hgrow hblk M2 j2;subst hv9))
    go_roundw
    case rel =>
     refine⟨f,n,_,_,_,_,rfl,j0.out,by omega,by omega,?_,?_,j9.out⟩
     ·simp;omega
     simp;omega
    simp[intOf];omega
  rw[qAa c32]at hR;have q1:((s[i].toNat:Int) != 32)=true:=by simpa using c32
  have j0:=hid hR;clear hR c32;go_wp2_with (first
   |(refine wpList_load_row rfl 85 _ rfl (w.heap.size+1) rfl _ _ _ _ HM.loc Tryz.underlying85 rfl Q52 ?_)
   |(refine wpList_store_row rfl 85 _ _ rfl w.heap.size _ rfl rfl _ _ HM.res Q52 rfl (z3b rfl rfl) ?_))
  refine bodyPost_ret (Q7u rfl _ _ w.heap.size 85 _ (0,0) _ rfl (setRow_heap _ _ _ _ _ _ HM.res) Tryz.underlying85 rfl Q52) rfl ?_;rw[← j0.out];exact HM.ret (ok:=false) rfl (fun z q=>by cases q) rfl rfl
 have k4:¬(i:Int)<(s.size:Int):=by omega
 rw[qAa k4]at hR;have j0:=hid hR;clear hR;go_wp2_with (first
  |(refine wpList_load_row rfl 85 _ rfl (w.heap.size+1) rfl _ _ _ _ HM.loc Tryz.underlying85 rfl Q52 ?_)
  |(refine wpList_store_row rfl 85 _ _ rfl w.heap.size _ rfl rfl _ _ HM.res Q52 rfl (z3b rfl rfl) ?_))
 refine bodyPost_ret (Q7u rfl _ _ w.heap.size 85 _ (0,0) _ rfl (setRow_heap _ _ _ _ _ _ HM.res) Tryz.underlying85 rfl Q52) rfl ?_;rw[← j0.out];exact HM.ret (ok:=true) rfl (fun z q=>by simpa using q.symm) rfl rfl
theorem y5u(s:ByteArray)(w:World)(hs:s.size<=70000):Calls Tryz.prog 60 #[.string s] w fun e w'=>ZRet w (Q4u s) e w':=by
 unfold Q4u;by_cases c0:0<Q37 s 0
 ·rw[qAb c0];cases hok:Q48 s (Q37 s 0)
  ·refine(y5w s w hs _ rfl c0 hok).mono ?_;rintro e w'⟨rfl,hf⟩;rw[qAa (by simp)];exact⟨⟨noZL,nilS,nilS,0⟩,rfl,y8i _ _ _ rfl rfl rfl rfl,hf,fun z q=>by cases q⟩
  refine(x03 s w hs _ rfl c0 hok).mono ?_;rintro e w'⟨rfl,hf⟩;by_cases c1:zpK s 6 ((Q37 s 0:Nat)+1)=s.size
  ·rw[qAb ⟨rfl,c1⟩,c1];refine⟨⟨⟨true,atB s (Q37 s 0)==126,s.extract 0 (Q37 s 0),s.extract (Q37 s 0+1) s.size,[],[]⟩,nilS,nilS,0⟩,?_,y8i _ _ _ rfl rfl rfl rfl,hf,fun z q=>by simpa using q⟩;simp[ZLV.cells]
  rw[qAa (fun q=>c1 q.2)];refine⟨⟨⟨true,atB s (Q37 s 0)==126,s.extract 0 (Q37 s 0),s.extract (Q37 s 0+1) s.size,[],[]⟩,nilS,nilS,0⟩,?_,y8i _ _ _ rfl rfl rfl rfl,hf,fun z q=>by cases q⟩;have:(zpK s 6 ((Q37 s 0:Nat)+1)==(s.size:Int))=false:=by simpa using c1
  rw[this];simp[ZLV.cells]
 rw[qAa c0];by_cases c1:0<=Q5k s 0/\atB s (Q5k s 0)=58
 ·rw[qAb c1];exact x02 s w hs (by omega) c1
 rw[qAa c1];refine(y5v s w hs (by omega) c1).mono ?_;rintro e w'⟨rfl,hf⟩;exact⟨⟨noZL,nilS,nilS,0⟩,rfl,y8i _ _ _ rfl rfl rfl rfl,hf,fun z q=>by cases q⟩
end Go.Proofs.YtcpceafmlgaodaaGreat
