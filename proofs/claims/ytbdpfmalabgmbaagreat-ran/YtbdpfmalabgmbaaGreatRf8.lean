import Derived.Test.YtbdpfmalabgmbaaGreatRf4
namespace Go.Proofs.YtbdpfmalabgmbaaGreat
open Go.RowKit
set_option maxRecDepth 99999
set_option maxHeartbeats 0
set_option linter.all false
theorem y6e(s:ByteArray)(w:World)(hs:s.size<=70000)(n:Nat)(hn:Q4e s 0=n)(hn0:0<n)(hok:Q5i s n=false) :
  Calls Tryz.prog 71 #[.string s] w fun e w'=>e=.returned (.tuple #[.agg (zlA false false ⟨#[]⟩ ⟨#[]⟩ (.slice none 0 0) (.slice none 0 0) 0),.bool false])/\Q0a w w':=by
 have ZL:=hid (fun w=>z2n s 0 w (by omega) (by omega));have e0:((0:Nat):Int)=0:=rfl;rw[e0,hn]at ZL;have j1:=z8n s (s.size+2) 0 (by omega) (by omega);have j0:((Q4e s 0:Nat):Int)<=s.size:=by have h:0+((Q4e s 0:Nat):Int)<=s.size:=j1;omega
 rw[hn]at j0;have hz:(w.alloc (.cells (zlA false false ⟨#[]⟩ ⟨#[]⟩ (.slice none 0 0) (.slice none 0 0) 0) 113 (0,0))).heap[w.heap.size]? = some (.cells (zlA false false ⟨#[]⟩ ⟨#[]⟩ (.slice none 0 0) (.slice none 0 0) 0) 113 (0,0)):=z0a _ _;have HZ:=hid hz;clear hz j1 hn;have k1:0<(n:Int):=by omega
 unfold Q5i at hok;by_cases h8:8<n
 ·have k2:(8:Int)<(n:Int):=by omega
  clear hok;go_enter Tryz.func71,Tryz.ntmps71
  go_wp2_with (first
   |(go_at_call 104;refine csm (ZL.out _) ?_)
   |(refine qAg rfl 113 _ _ rfl w.heap.size _ rfl rfl _ _ HZ.out Q6c rfl (z3h rfl rfl) ?_))
  refine qAc (Q77 rfl _ _ w.heap.size 113 _ (0,0) _ rfl (qAn _ _ _ _ _ _ HZ.out) qCi rfl Q6c) rfl ⟨rfl,?_⟩;exact((mRf _ w).alloc _).setRow (by simp) _
 have k2:¬(8:Int)<(n:Int):=by omega
 by_cases j2:n<s.size
 ·have hb:=z1u j2;rw[hb,qCj (by omega),qCj j2]at hok;simp only[qBm,qCb]at hok;obtain⟨c1,c2⟩:=hok;have q1:((s[n].toNat:Int) != 61)=true:=by simpa using c1
  have q2:((s[n].toNat:Int) != 126)=true:=by simpa using c2
  have j3:s[n].toNat<256:=s[n].toNat_lt;have k3:¬(s.size:Int)<=(n:Int):=by omega
  have k4:(n:Int)<(s.size:Int):=by omega
  clear hb c1 c2;go_enter Tryz.func71,Tryz.ntmps71
  go_wp2_with (first
   |(go_at_call 104;refine csm (ZL.out _) ?_)
   |(refine qAg rfl 113 _ _ rfl w.heap.size _ rfl rfl _ _ HZ.out Q6c rfl (z3h rfl rfl) ?_))
  refine qAc (Q77 rfl _ _ w.heap.size 113 _ (0,0) _ rfl (qAn _ _ _ _ _ _ HZ.out) qCi rfl Q6c) rfl ⟨rfl,?_⟩;exact((mRf _ w).alloc _).setRow (by simp) _
 have k3:(s.size:Int)<=(n:Int):=by omega
 clear hok;go_enter Tryz.func71,Tryz.ntmps71
 go_wp2_with (first
  |(go_at_call 104;refine csm (ZL.out _) ?_)
  |(refine qAg rfl 113 _ _ rfl w.heap.size _ rfl rfl _ _ HZ.out Q6c rfl (z3h rfl rfl) ?_))
 refine qAc (Q77 rfl _ _ w.heap.size 113 _ (0,0) _ rfl (qAn _ _ _ _ _ _ HZ.out) qCi rfl Q6c) rfl ⟨rfl,?_⟩;exact((mRf _ w).alloc _).setRow (by simp) _
theorem y7y(s:ByteArray){i:Int}(h0:0<=i):Q5v s i=-1∨(i<Q5v s i/\Q5v s i<=s.size):=by
 by_cases h:0<=Q5v s i
 ·right;obtain⟨m,hw,hm⟩:=y0s h0 h;have hp:=hw.pos;have j0:atB s (i+((m-1:Nat):Int))≠-1:=by
   by_cases m1:m-1=0
   ·rw[m1];intro q;have:=hw.first;simp only[qEh,qDs]at q;rw[q]at this;revert this;decide
   exact y3a (hw.rest (m-1) (by omega) (by omega))
  have:=z0r j0;omega
 left;unfold Q5v at h ⊢;split
 ·rfl
 rename_i c0;rw[qAa c0]at h;split
 ·rename_i c1;rw[qAb c1]at h;split
  ·rfl
  rename_i c2;rw[qAa c2]at h;omega
 rename_i c1;rw[qAa c1]at h;split
 ·rfl
 rename_i c2;rw[qAa c2]at h;omega
theorem y6d(s:ByteArray)(w:World)(hs:s.size<=70000)(hn:Q4e s 0=0)(hok:¬(0<=Q5v s 0/\atB s (Q5v s 0)=58)) :
  Calls Tryz.prog 71 #[.string s] w fun e w'=>e=.returned (.tuple #[.agg (zlA false false ⟨#[]⟩ ⟨#[]⟩ (.slice none 0 0) (.slice none 0 0) 0),.bool false])/\Q0a w w':=by
 have ZL:=hid (fun w=>z2n s 0 w (by omega) (by omega));have ZY:=hid (fun w=>z58 s 0 w (by omega) (by omega));have e0:((0:Nat):Int)=0:=rfl;rw[e0,hn]at ZL;rw[e0]at ZL ZY;have j0:=y7y s (i:=0) (by omega);have hz:(w.alloc (.cells (zlA false false ⟨#[]⟩ ⟨#[]⟩ (.slice none 0 0) (.slice none 0 0) 0) 113 (0,0))).heap[w.heap.size]? = some (.cells (zlA false false ⟨#[]⟩ ⟨#[]⟩ (.slice none 0 0) (.slice none 0 0) 0) 113 (0,0)):=z0a _ _;have HZ:=hid hz;clear hz hn;generalize Q5v s 0=y at ZY j0 hok;by_cases y0:y<0
 ·clear hok j0;go_enter Tryz.func71,Tryz.ntmps71
  go_wp2_with (first
   |(go_at_call 104;refine csm (ZL.out _) ?_)
   |(go_at_call 106;refine csm (ZY.out _) ?_)
   |(refine qAg rfl 113 _ _ rfl w.heap.size _ rfl rfl _ _ HZ.out Q6c rfl (z3h rfl rfl) ?_))
  refine qAc (Q77 rfl _ _ w.heap.size 113 _ (0,0) _ rfl (qAn _ _ _ _ _ _ HZ.out) qCi rfl Q6c) rfl ⟨rfl,?_⟩;exact((mRf _ w).alloc _).setRow (by simp) _
 obtain⟨j,rfl⟩:∃j:Nat,y=j:=⟨y.toNat,by omega⟩;by_cases hj:j<s.size
 ·have hb:=z1u hj;rw[hb]at hok;have q1:((s[j].toNat:Int) != 58)=true:=by
   have:¬(s[j].toNat:Int)=58:=fun q=>hok ⟨by omega,q⟩;simpa using this
  have j1:s[j].toNat<256:=s[j].toNat_lt;have k3:¬(s.size:Int)<=(j:Int):=by omega
  have k4:(j:Int)<(s.size:Int):=by omega
  clear hb hok j0;go_enter Tryz.func71,Tryz.ntmps71
  go_wp2_with (first
   |(go_at_call 104;refine csm (ZL.out _) ?_)
   |(go_at_call 106;refine csm (ZY.out _) ?_)
   |(refine qAg rfl 113 _ _ rfl w.heap.size _ rfl rfl _ _ HZ.out Q6c rfl (z3h rfl rfl) ?_))
  refine qAc (Q77 rfl _ _ w.heap.size 113 _ (0,0) _ rfl (qAn _ _ _ _ _ _ HZ.out) qCi rfl Q6c) rfl ⟨rfl,?_⟩;exact((mRf _ w).alloc _).setRow (by simp) _
 have k3:(s.size:Int)<=(j:Int):=by omega
 clear hok j0;go_enter Tryz.func71,Tryz.ntmps71
 go_wp2_with (first
  |(go_at_call 104;refine csm (ZL.out _) ?_)
  |(go_at_call 106;refine csm (ZY.out _) ?_)
  |(refine qAg rfl 113 _ _ rfl w.heap.size _ rfl rfl _ _ HZ.out Q6c rfl (z3h rfl rfl) ?_))
 refine qAc (Q77 rfl _ _ w.heap.size 113 _ (0,0) _ rfl (qAn _ _ _ _ _ _ HZ.out) qCi rfl Q6c) rfl ⟨rfl,?_⟩;exact((mRf _ w).alloc _).setRow (by simp) _
structure LnM(w wr:World)(nm:ByteArray)(a:List ByteArray)(b:List Int)(vs vp:Value):Prop where
 fresh:Q0a w wr
 res:wr.heap[w.heap.size]? = some (.cells (zlA false false ⟨#[]⟩ ⟨#[]⟩ (.slice none 0 0) (.slice none 0 0) 0) 113 (0,0))
 loc:wr.heap[w.heap.size+1]? = some (.cells (zlA false false nm ⟨#[]⟩ vs vp 0) 113 (0,0))
 os:wr.ownsRow (w.heap.size+2) 9 1 vs a.length (Q98 a)
 op:wr.ownsRow (w.heap.size+2) 3 1 vp b.length (W0b b)
 dis:∀k,vs.ownBlock=some k->vp.ownBlock=some k->False
section
variable {w wr W w1:World}{nm:ByteArray}{a:List ByteArray}{b:List Int}{vs vp v':Value}
theorem LnM.blk(h:LnM w wr nm a b vs vp)(hW:Q0a wr W){v:Value}(hv:v=vs∨v=vp)(hg:W.grownBy w1 v.ownBlock) :
  w1.heap[w.heap.size]? = some (.cells (zlA false false ⟨#[]⟩ ⟨#[]⟩ (.slice none 0 0) (.slice none 0 0) 0) 113 (0,0))/\w1.heap[w.heap.size+1]? = some (.cells (zlA false false nm ⟨#[]⟩ vs vp 0) 113 (0,0)):=by
 have h1:=hW.at h.res id;have h2:=hW.at h.loc id;have j0:∀k,v.ownBlock=some k->w.heap.size+2<=k:=by
  intro k hk;rcases hv with rfl|rfl
  ·exact(h.os.lt k hk).1
  exact(h.op.lt k hk).1
 exact⟨by rw[hg.block _ (z0j h1) (fun e=>by have:=j0 _ e.symm;omega)];exact h1,by rw[hg.block _ (z0j h2) (fun e=>by have:=j0 _ e.symm;omega)];exact h2⟩
theorem LnM.addS{x:ByteArray}(h:LnM w wr nm a b vs vp)(hW:Q0a wr W)(hown:w1.ownsRow (w.heap.size+2) 9 1 v' (a.length+1) (Q98 a++[.string x]))(hg:W.grownBy w1 vs.ownBlock)
  (hb:∀k,v'.ownBlock=some k->vs.ownBlock=some k∨W.heap.size<=k):LnM w (w1.setCell ⟨w.heap.size+1,4,none⟩ v') nm (a++[x]) b v' vp:=by
 obtain⟨k1,k2⟩:=h.blk hW (.inl rfl) hg;have hl:=hown.lt;refine⟨?_,?_,?_,?_,?_,?_⟩
 ·exact((h.fresh.trans hW).grown hg (fun k hk hlt=>by have:=h.os.lt k hk;omega)).setCell (fun q=>by dsimp only at q;omega) _
 ·exact z0h k1 (by simp)
 ·rw[zhs k2];rfl
 ·rw[qP,qAj];have e1:=qBp (f:=Value.string) (l₁:=a) (l₂:=[x]);rw[qDb]at e1;show World.ownsRow _ _ _ _ _ _ (List.map _ _);rw[e1];exact z0d hown (fun g hg'=>by rw[Proofs.YtbdpfmalabgmbaaGreat.heap_setCell_other _ (by have:=hl g hg';simp;omega)])
 ·refine z0d h.op (fun g hg'=>?_);have l2:=h.op.lt g hg';rw[Proofs.YtbdpfmalabgmbaaGreat.heap_setCell_other _ (by simp;omega),hg.block g (by have:=hW.size;omega) (fun e=>h.dis g e.symm hg'),hW.block g l2.2 id]
 intro k q1 q2;rcases hb k q1 with q|q
 ·exact h.dis k q q2
 have:=h.op.lt k q2;have:=hW.size;omega
theorem LnM.addP{x:Int}(h:LnM w wr nm a b vs vp)(hW:Q0a wr W)(hown:w1.ownsRow (w.heap.size+2) 3 1 v' (b.length+1) (W0b b++[.int .i64 x]))(hg:W.grownBy w1 vp.ownBlock)
  (hb:∀k,v'.ownBlock=some k->vp.ownBlock=some k∨W.heap.size<=k):LnM w (w1.setCell ⟨w.heap.size+1,5,none⟩ v') nm a (b++[x]) vs v':=by
 obtain⟨k1,k2⟩:=h.blk hW (.inr rfl) hg;have hl:=hown.lt;refine⟨?_,?_,?_,?_,?_,?_⟩
 ·exact((h.fresh.trans hW).grown hg (fun k hk hlt=>by have:=h.op.lt k hk;omega)).setCell (fun q=>by dsimp only at q;omega) _
 ·exact z0h k1 (by simp)
 ·rw[zhs k2];rfl
 ·refine z0d h.os (fun g hg'=>?_);have l2:=h.os.lt g hg';rw[Proofs.YtbdpfmalabgmbaaGreat.heap_setCell_other _ (by simp;omega),hg.block g (by have:=hW.size;omega) (fun e=>h.dis g hg' e.symm),hW.block g l2.2 id]
 ·rw[qP,qAj];have e1:=qBp (f:=Value.int .i64) (l₁:=b) (l₂:=[x]);rw[qDb]at e1;show World.ownsRow _ _ _ _ _ _ (List.map _ _);rw[e1];exact z0d hown (fun g hg'=>by rw[Proofs.YtbdpfmalabgmbaaGreat.heap_setCell_other _ (by have:=hl g hg';simp;omega)])
 intro k q1 q2;rcases hb k q2 with q|q
 ·exact h.dis k q1 q
 have:=h.os.lt k q1;have:=hW.size;omega
theorem LnM.ret{ok:Bool}{r:Option ZLn}(h:LnM w wr nm a b vs vp)(hr:r.isSome=ok)(hz:∀z,r=some z->z=⟨false,false,nm,⟨#[]⟩,a,b⟩){e:Ending}{w':World}(hf:w'=wr.setRow w.heap.size (zlA false false nm ⟨#[]⟩ vs vp 0))(he:e=.returned (.tuple #[.agg (zlA false false nm ⟨#[]⟩ vs vp 0),.bool ok])):ZRet w r e w':=by
 subst hf;refine⟨⟨⟨false,false,nm,⟨#[]⟩,a,b⟩,vs,vp,0⟩,by rw[hr];exact he,⟨?_,?_⟩,h.fresh.setRow (by simp) _,fun z q=>(hz z q).symm⟩
 ·exact z0g (z0d h.os (fun g hg=>qCx _ _ _ _ (by have:=h.os.lt g hg;omega))) (by omega)
 exact z0g (z0d h.op (fun g hg=>qCx _ _ _ _ (by have:=h.op.lt g hg;omega))) (by omega)
end
attribute [local go_sem ↓] z17
theorem x1l(s:ByteArray)(w:World)(hs:s.size<=70000)(hn:Q4e s 0=0)(hok:0<=Q5v s 0/\atB s (Q5v s 0)=58) :
  Calls Tryz.prog 71 #[.string s] w fun e w'=>ZRet w ((Q5b s (s.size+5) (Q5v s 0+1) [] []).map (fun l=>⟨false,false,s.extract 0 (Q5v s 0).toNat,⟨#[]⟩,l.1,l.2⟩)) e w':=by
 have ZL:=hid (fun w=>z2n s 0 w (by omega) (by omega));have ZY:=hid (fun w=>z58 s 0 w (by omega) (by omega));have ZS:=hid (fun(i:Nat) (w:World) (hi:i<=s.size)=>z58 s (i+1) w (by omega) (by omega));have e0:((0:Nat):Int)=0:=rfl;rw[e0,hn]at ZL;rw[e0]at ZL ZY;clear e0;have jh:=y7y s (i:=0) (by omega);have BD:=hid (fun(i:Nat)=>y7y s (i:=((i+1:Nat):Int)) (by omega));obtain⟨i0,jp,k9,ka,kb⟩:=Q8x;obtain⟨i1,jq,jz,k0,k8⟩:=Q6z;have hz:∀o:Obj,((w.alloc (.cells (zlA false false ⟨#[]⟩ ⟨#[]⟩ (.slice none 0 0) (.slice none 0 0) 0) 113 (0,0))).alloc o).heap[w.heap.size]? = some (.cells (zlA false false ⟨#[]⟩ ⟨#[]⟩ (.slice none 0 0) (.slice none 0 0) 0) 113 (0,0)):=fun o=>qBg _ _ _;have HZ:=hid hz;clear hz hn;generalize Q5v s 0=y at ZY jh hok;obtain⟨y0,j9⟩:=hok;obtain⟨j,rfl⟩:∃j:Nat,y=j:=⟨y.toNat,by omega⟩;have hj:j<s.size:=by
  have:=z0r (s:=s) (i:=(j:Int)) (by omega);omega
 have hb:=z1u hj;rw[hb]at j9;have q1:((s[j].toNat:Int) != 58)=false:=by simp[j9]
 have jl:s[j].toNat<256:=s[j].toNat_lt;have k3:¬(s.size:Int)<=(j:Int):=by omega
 have k4:(j:Int)<(s.size:Int):=by omega
 have k5:decide (s.size<=j)=false:=by simpa using hj
 have k6:decide ((j:Int)<0)=false:=by simp
 have ej:((j:Int)).toNat=j:=by omega
 rw[ej];generalize hnm:s.extract 0 j=nm;have jb:=hid hnm;generalize hR:Q5b s (s.size+5) ((j:Int)+1) [] []=R;have HR:=hid hR;clear hb jh j9 hR hnm ej;go_enter Tryz.func71,Tryz.ntmps71
 go_wp2_with (first
  |(go_at_call 104;refine csm (ZL.out _) ?_)
  |(go_at_call 106;refine csm (ZY.out _) ?_)
  |(refine z0e rfl 113 _ _ rfl (w.alloc (.cells (zlA false false ⟨#[]⟩ ⟨#[]⟩ (.slice none 0 0) (.slice none 0 0) 0) 113 (0,0))) _ _ _ rfl rfl rfl Q6c rfl (z3h rfl rfl) ?_))
 go_loopw [6,8] (fun x6 _ wr=>∃(f i:Nat) (a:List ByteArray) (b:List Int) (vs vp:Value),x6=.int .i64 i/\Q5b s f i a b=R/\s.size+2<=f+i/\i<=s.size/\a.length<=i/\b.length<=i/\LnM w wr nm a b vs vp)
   (fun x _ _=>80000-(intOf x).toNat)
 case atStart =>
  refine⟨s.size+5,j+1,[],[],.slice none 0 0,.slice none 0 0,by go_num,HR.out,by omega,by omega,by simp,by simp,?_⟩;rw[jb.out];exact⟨((mRf _ w).alloc _).alloc _,HZ.out _,qBa _ _ _,qAh _ _ _ _,qAh _ _ _ _,fun k q=>by simp[Value.ownBlock]at q⟩
 obtain⟨f,i,a,b,vs,vp,rfl,hR,ke,hi,kd,jm,hM⟩:=hrel;clear HR jb HZ q1;obtain⟨f,rfl⟩:∃g,f=g+1:=⟨f-1,by omega⟩;rw[z6z]at hR;have HM:=hid hM;obtain⟨je,jg,jy⟩:=z0c hM.os;obtain⟨jd,jf,jx⟩:=z0c hM.op;have ji:=Q0b hM.loc 4;have kc:=Q0f hM.loc 4;have kf:=hM.fresh.size;have js:=z0j hM.loc;clear hM;subst jy jx;simp at ji;by_cases jr:i<s.size
 ·have hb:=z1u jr;have jl:s[i].toNat<256:=s[i].toNat_lt;have k4:(i:Int)<(s.size:Int):=by omega
  rw[qAb k4,hb]at hR;clear hb;by_cases j4:(s[i].toNat:Int)=32
  ·rw[qAb j4]at hR;have q1:((s[i].toNat:Int) != 32)=false:=by simp[j4]
   have ZX:=hid (fun w=>ZS.out i w hi);have bd:=BD.out i;have ei:((i+1:Nat):Int)=(i:Int)+1:=by omega
   rw[ei]at ZX bd;clear ei;generalize Q5v s ((i:Int)+1)=y at ZX bd hR;clear j4;by_cases y0:y<0
   ·rw[qAb y0]at hR;have j3:=hid hR;clear hR bd;go_wp2_with (first
     |(go_at_call 106;refine csm (ZX.out _) ?_)
     |(refine qAf rfl 113 _ rfl (w.heap.size+1) rfl _ _ _ _ HM.loc qCi rfl Q6c ?_)
     |(refine qAg rfl 113 _ _ rfl w.heap.size _ rfl rfl _ _ HM.res Q6c rfl (z3h rfl rfl) ?_))
    refine qAc (Q77 rfl _ _ w.heap.size 113 _ (0,0) _ rfl (qAn _ _ _ _ _ _ HM.res) qCi rfl Q6c) rfl ?_;rw[← j3.out];exact HM.ret (ok:=false) rfl (fun z q=>by cases q) rfl rfl
   obtain⟨n,rfl⟩:∃n:Nat,y=n:=⟨y.toNat,by omega⟩;rw[qAa y0]at hR;have e1:((i:Int)+1).toNat=i+1:=by omega
   have e2:((n:Int)).toNat=n:=by omega
   rw[e1,e2]at hR;have b1:i+1<n:=by omega
   have b2:n<=s.size:=by omega
   have j3:=hid hR;clear hR bd e1 e2;have b3:(i:Int)+1<=(n:Int):=by omega
   have b4:(n:Int)<=(s.size:Int):=by omega
   go_upto_region 18 with(first
    |(go_at_call 106;refine csm (ZX.out _) ?_))
   obtain⟨v',w2,j8,j1,j0,j2⟩:=z24 (P:=Tryz.prog) (wr.alloc (.cells #[.string (s.extract (i+1) n)] 9)).drew (w.heap.size+2) 108 108 9 i0 _ 1 16 Tryz.underlying108 jp k9 ka kb rfl (by decide) (.slice je a.length jg) a.length (Q98 a) (HM.os.alloc _) ⟨wr.heap.size,0,none⟩ 1 1 [.string (s.extract (i+1) n)] rfl (z0m rfl) (by intro u hu;simp at hu;subst hu;rfl) (by unfold maxLen;omega) (by omega) (by simp[World.drew];omega);obtain⟨a',jk,jv⟩:=z0c j1;have j7:=HM.blk (((mRf _ wr).alloc _).drew) (.inl rfl) j0;have jn:w2.cell? ⟨w.heap.size+1,4,none⟩=some (.slice je a.length jg):=(Q0b j7.2 4);have jo:=Q0f j7.2 4;have jc:=hid j1;have ja:=hid j0;clear j1 j0 j7;subst jv;go_region;all_goals
    have M1:=HM.addS (x:=s.extract (i+1) n) (((mRf _ wr).alloc _).drew) jc.out ja.out j2;generalize hWW:w2.setCell _ _=W1 at M1 ⊢;have j5:=hid M1;have k1:=Q0b M1.loc 5;have k2:=Q0f M1.loc 5;have jt:=z0j M1.loc;have ju:=M1.fresh.size;clear hWW jc ja j2 jn jo j8 M1 HM ji kc;simp at k1;go_wp2_with (first
     |(at_builtin;refine z0f _ rfl _ _ 24 rfl (w.heap.size+2) 3 i1 _ 1 8 qDq jq jz k0 k8 rfl (by decide) (.slice jd b.length jf) b.length (W0b b) rfl (j5.op.alloc _) ⟨W1.heap.size,0,none⟩ 1 1 [.int .i64 ((i:Int)+1)] rfl rfl (z0m rfl) (by intro u hu;simp at hu;subst hu;rfl) (by unfold maxLen;omega) (by omega) (by simp;omega) ?_;intro v9 w4 j1 j0 j2;obtain⟨a9,c9,jw⟩:=z0c j1;have j6:=(j5.blk ((mRf _ W1).alloc _) (.inr rfl) j0).2;have k6:w4.cell? ⟨w.heap.size+1,5,none⟩=some (.slice jd b.length jf):=Q0b j6 5;have k7:=Q0f j6 5;have M2:=j5.addP (x:=(i:Int)+1) ((mRf _ W1).alloc _) j1 j0 (by simpa using j2);have jj:=hid M2;clear j1 j0 j2 M2 j6;subst jw))
    go_roundw
    case rel =>
     refine⟨f,n,_,_,_,_,rfl,j3.out,by omega,by omega,?_,?_,jj.out⟩
     ·simp;omega
     simp;omega
    simp[intOf];omega
  rw[qAa j4]at hR;have q1:((s[i].toNat:Int) != 32)=true:=by simpa using j4
  have j3:=hid hR;clear hR j4;go_wp2_with (first
   |(refine qAf rfl 113 _ rfl (w.heap.size+1) rfl _ _ _ _ HM.loc qCi rfl Q6c ?_)
   |(refine qAg rfl 113 _ _ rfl w.heap.size _ rfl rfl _ _ HM.res Q6c rfl (z3h rfl rfl) ?_))
  refine qAc (Q77 rfl _ _ w.heap.size 113 _ (0,0) _ rfl (qAn _ _ _ _ _ _ HM.res) qCi rfl Q6c) rfl ?_;rw[← j3.out];exact HM.ret (ok:=false) rfl (fun z q=>by cases q) rfl rfl
 have k4:¬(i:Int)<(s.size:Int):=by omega
 rw[qAa k4]at hR;have j3:=hid hR;clear hR;go_wp2_with (first
  |(refine qAf rfl 113 _ rfl (w.heap.size+1) rfl _ _ _ _ HM.loc qCi rfl Q6c ?_)
  |(refine qAg rfl 113 _ _ rfl w.heap.size _ rfl rfl _ _ HM.res Q6c rfl (z3h rfl rfl) ?_))
 refine qAc (Q77 rfl _ _ w.heap.size 113 _ (0,0) _ rfl (qAn _ _ _ _ _ _ HM.res) qCi rfl Q6c) rfl ?_;rw[← j3.out];exact HM.ret (ok:=true) rfl (fun z q=>by simpa using q.symm) rfl rfl
theorem y6c(s:ByteArray)(w:World)(hs:s.size<=70000):Calls Tryz.prog 71 #[.string s] w fun e w'=>ZRet w (Q40 s) e w':=by
 unfold Q40;by_cases c0:0<Q4e s 0
 ·rw[qAb c0];cases hok:Q5i s (Q4e s 0)
  ·refine(y6e s w hs _ rfl c0 hok).mono ?_;rintro e w'⟨rfl,hf⟩;rw[qAa (by simp)];exact⟨⟨noZL,nilS,nilS,0⟩,rfl,y85 _ _ _ rfl rfl rfl rfl,hf,fun z q=>by cases q⟩
  refine(x1m s w hs _ rfl c0 hok).mono ?_;rintro e w'⟨rfl,hf⟩;by_cases c1:zpK s 6 ((Q4e s 0:Nat)+1)=s.size
  ·rw[qAb ⟨rfl,c1⟩,c1];refine⟨⟨⟨true,atB s (Q4e s 0)==126,s.extract 0 (Q4e s 0),s.extract (Q4e s 0+1) s.size,[],[]⟩,nilS,nilS,0⟩,?_,y85 _ _ _ rfl rfl rfl rfl,hf,fun z q=>by simpa using q⟩;simp[ZLV.cells]
  rw[qAa (fun q=>c1 q.2)];refine⟨⟨⟨true,atB s (Q4e s 0)==126,s.extract 0 (Q4e s 0),s.extract (Q4e s 0+1) s.size,[],[]⟩,nilS,nilS,0⟩,?_,y85 _ _ _ rfl rfl rfl rfl,hf,fun z q=>by cases q⟩;have:(zpK s 6 ((Q4e s 0:Nat)+1)==(s.size:Int))=false:=by simpa using c1
  rw[this];simp[ZLV.cells]
 rw[qAa c0];by_cases c1:0<=Q5v s 0/\atB s (Q5v s 0)=58
 ·rw[qAb c1];exact x1l s w hs (by omega) c1
 rw[qAa c1];refine(y6d s w hs (by omega) c1).mono ?_;rintro e w'⟨rfl,hf⟩;exact⟨⟨noZL,nilS,nilS,0⟩,rfl,y85 _ _ _ rfl rfl rfl rfl,hf,fun z q=>by cases q⟩
def ways:List ByteArray:=[⟨#[]⟩,⟨#[97]⟩,⟨#[97,61,97]⟩,⟨#[61,97]⟩,⟨#[58]⟩,⟨#[93]⟩,⟨#[97,93]⟩,⟨#[126,93]⟩,⟨#[126]⟩]
def Q4r(t:ByteArray):Nat->ByteArray
 |0=>t
 |k+1=>Q4r t k++⟨#[41]⟩
theorem z81(t:ByteArray):∀k,(Q4r t k).size=t.size+k
 |0=>rfl
 |k+1=>by rw[Q4r,ByteArray.size_append,z81 t k];rfl
def Q9d(s:ByteArray):Bool:=ways.any fun v=>(List.range 7).any fun k=>(Q40 (Q4r (s++v) k)).isSome
theorem x5q:∀v∈ways,v.size<=3:=by decide
theorem v1u{j:Nat}(hj:j<9):(ways[j]'hj).size<=3:=x5q _ (qG _)
theorem x6n(s:ByteArray)(w:World)(hs:s.size<=1000):Calls Tryz.prog 107 #[.string s] w fun e w'=>e=.returned (.bool (Q9d s))/\Q0a w w':=by
 have ZL:=hid (fun(t:ByteArray) (w:World) (h:t.size<=70000)=>y6c t w h);go_enter Tryz.func107,Tryz.ntmps107
 go_wp2;go_loopw [4] (fun x4 wr=>∃i:Nat,x4=.int .i64 i/\i<=9/\wr.heap[w.heap.size]? = some (.cells (Q98 ways).toArray 9 (0,0))/\Q0a w wr/\∀(j:Nat) (hj:j<9),j<i->∀k:Nat,k<7->(Q40 (Q4r (s++ways[j]'hj) k)).isSome=false)
   (fun x _=>10-(intOf x).toNat)
 case atStart=>exact⟨0,rfl,by omega,z0a _ _,(mRf _ w).alloc _,fun j _ h=>by omega⟩
 obtain⟨i,rfl,hi,j0,j4,j2⟩:=hrel;have HB:=hid j0;have HF:=hid j4;have HA:=hid j2;have j1:=fun o=>Q0b j0 o;clear j0 j4 j2;by_cases hi9:i<9
 ·have k1:(i:Int)<9:=by omega
  have hc:wr.cell? ⟨w.heap.size,i,none⟩=some (.string (ways[i]'hi9)):=by
   rw[j1 i];have:i<(Q98 ways).length:=by simp[ways];omega
   rw[qDp,qBt,qE (show i<ways.length from hi9)];rfl
  have hv:=v1u hi9;generalize hvv:ways[i]'hi9=v at hc hv;have HV:=hid hvv;clear hvv j1;generalize hw0:wr=w0 at HB HF hc;go_wp2;go_loopw [5,6] (fun x5 x6 wr=>∃k:Nat,x6=.int .i64 k/\k<=7/\x5=.string (Q4r (s++v) k)/\wr.heap[w.heap.size]? = some (.cells (Q98 ways).toArray 9 (0,0))/\Q0a w wr/\∀k':Nat,k'<k->(Q40 (Q4r (s++v) k')).isSome=false)
    (fun _ x _=>8-(intOf x).toNat)
  case atStart=>exact⟨0,rfl,by omega,rfl,HB.out,HF.out,fun k' h=>by omega⟩
  obtain⟨k,rfl,hk,rfl,j0,j4,j8⟩:=hrel;have HB:=hid j0;have HF:=hid j4;have HN:=hid j8;clear j0 j4 j8;by_cases ja:k<7
  ·have k2:(k:Int)<=6:=by omega
   have j9:(Q4r (s++v) k).size<=70000:=by rw[z81,ByteArray.size_append];omega
   have ZX:=hid (fun w=>ZL.out (Q4r (s++v) k) w j9);have HC:Hid (Q4r (s++v) (k+1)=Q4r (s++v) k++⟨#[41]⟩):=rfl;have HG:Hid ((Q40 (Q4r (s++v) k)).isSome=true->Q9d s=true):=fun h=>by
    unfold Q9d;rw[qBb];refine⟨v,by rw[← HV.out];exact qG _,?_⟩;rw[qBb];exact⟨k,by simpa using ja,h⟩
   have j7:Hid ((Q40 (Q4r (s++v) k)).isSome=false->∀k':Nat,k'<k+1->(Q40 (Q4r (s++v) k')).isSome=false):=fun h k' hk'=>by
    by_cases q:k'=k
    ·rw[q];exact h
    exact HN.out k' (by omega)
   generalize Q4r (s++v) k=tk at ZX HC HG j7 j9;generalize Q40 tk=zt at ZX HG j7;cases hz:zt with
   |some z =>
    subst hz;go_wp2_with (first
     |(go_at_call 71;refine(ZX.out _).mono ?_;rintro e w1⟨x,he,hA,j3,hx⟩;rw[Option.isSome_some]at he;subst he;have j5:=hid j3;have j6:=hid hA;clear j3 hA hx)
     |(refine z0e rfl 113 _ _ rfl w1 _ _ _ rfl rfl rfl Q6c rfl j6.one ?_))
    go_ret;exact⟨by rw[HG.out rfl];rfl,(HF.trans j5.out).alloc _⟩
   |none =>
    subst hz;go_wp2_with (first
     |(go_at_call 71;refine(ZX.out _).mono ?_;rintro e w1⟨x,he,hA,j3,hx⟩;rw[Option.isSome_none]at he;subst he;have j5:=hid j3;have j6:=hid hA;clear j3 hA hx)
     |(refine z0e rfl 113 _ _ rfl w1 _ _ _ rfl rfl rfl Q6c rfl j6.one ?_))
    go_roundw
    case rel =>
     refine⟨k+1,by go_num,by omega,by rw[HC.out],?_,(HF.trans j5.out).alloc _,j7.out rfl⟩;have h1:=j5.at HB.out id;rw[z0s (z0j h1)];exact h1
    simp[intOf];omega
  have k2:¬(k:Int)<=6:=by omega
  go_wp2;go_roundw
  case rel =>
   refine⟨i+1,by go_num,by omega,HB.out,HF.out,fun j hj hji k' hk'=>?_⟩;by_cases q:j=i
   ·subst q;rw[HV.out];exact HN.out k' (by omega)
   exact HA.out j hj (by omega) k' hk'
  simp[intOf];omega
 have k1:¬(i:Int)<9:=by omega
 go_wp2;go_ret;refine⟨z0w ?_,HF.out⟩;symm;cases hg:Q9d s
 ·rfl
 exfalso;unfold Q9d at hg;rw[qBb]at hg;obtain⟨v,hv,hg⟩:=hg;rw[qBb]at hg;obtain⟨k,hk,hg⟩:=hg;obtain⟨j,hj,rfl⟩:=qBf hv;have h9:j<9:=hj;have:=HA.out j h9 (by omega) k (by simpa using hk);have q:=this.symm.trans hg;cases q
def Q7b(s:ByteArray)(a n:Nat):Nat->Nat->Nat
 |0,k=>k
 |f+1,k=>if k<n then(if Q9d (s.extract a (k+1))=true then Q7b s a n f (k+1) else k) else n
def Q5p(s:ByteArray)(a n:Nat):Nat:=Q7b s a n (n+1) a
theorem x5e(s:ByteArray)(a n f k:Nat):Q7b s a n (f+1) k=if k<n then(if Q9d (s.extract a (k+1))=true then Q7b s a n f (k+1) else k) else n:=rfl
theorem x1a(s:ByteArray)(a n:Nat)(w:World)(hs:s.size<=1000)(ha:a<=n)(hn:n<=s.size):Calls Tryz.prog 72 #[.string s,.int .i64 a,.int .i64 n] w fun e w'=>e=.returned (.int .i64 (Q5p s a n:Nat))/\Q0a w w':=by
 generalize hV:Q5p s a n=V;have HV:Hid (Q7b s a n (n+1) a=V):=hV;have GO:=hid (fun(t:ByteArray) (w:World) (h:t.size<=1000)=>x6n t w h);clear hV;go_enter Tryz.func72,Tryz.ntmps72
 go_wp2;go_loopw [7] (fun x7 wr=>∃(k f:Nat),x7=.int .i64 k/\a<=k/\k<=n/\n+1<=f+k/\Q7b s a n f k=V/\Q0a w wr)
   (fun x _=>2000-(intOf x).toNat)
 case atStart=>exact⟨a,n+1,rfl,by omega,ha,by omega,HV.out,mRf _ _⟩
 obtain⟨k,f,rfl,j3,j4,hf,j0,j2⟩:=hrel;obtain⟨f,rfl⟩:∃g,f=g+1:=⟨f-1,by omega⟩;rw[x5e]at j0;have HF:=hid j2;clear HV j2;by_cases hk:k<n
 ·rw[qAb hk]at j0;have k1:(k:Int)<(n:Int):=by omega
  have GX:=hid (fun w=>GO.out (s.extract a (k+1)) w (by rw[qBl];omega));generalize Q9d (s.extract a (k+1))=g at GX j0;have b1:(a:Int)<=(k:Int)+1:=by omega
  have b2:(k:Int)+1<=(s.size:Int):=by omega
  cases g
  ·rw[qAa (by simp)]at j0;have HR:=hid j0;clear j0;go_wp2_with (first
    |(go_at_call 107;refine(GX.out _).mono ?_;rintro e w1⟨rfl,j1⟩))
   go_ret;exact⟨by rw[← HR.out];rfl,HF.trans j1⟩
  rw[qAb rfl]at j0;have HR:=hid j0;clear j0;go_wp2_with (first
   |(go_at_call 107;refine(GX.out _).mono ?_;rintro e w1⟨rfl,j1⟩))
  go_roundw
  case rel=>exact⟨k+1,f,by go_num,by omega,by omega,by omega,HR.out,HF.trans j1⟩
  simp[intOf];omega
 rw[qAa hk]at j0;have k1:¬(k:Int)<(n:Int):=by omega
 have HR:=hid j0;clear j0;go_wp2;go_ret;exact⟨by rw[← HR.out];rfl,HF.out⟩
theorem infoZL:(Tryz.prog.info? 113).map (fun i=>(i.zero,i.size,i.bytes))=some (some (.agg (zlA false false ⟨#[]⟩ ⟨#[]⟩ (.slice none 0 0) (.slice none 0 0) 0)),7,96):=by kernel_rfl
theorem infoZL':∃i,Tryz.prog.info? 113=some i/\i.zero=some (.agg (zlA false false ⟨#[]⟩ ⟨#[]⟩ (.slice none 0 0) (.slice none 0 0) 0))/\i.size=7/\i.bytes=96:=nfoE infoZL
structure Q44(b:Nat)(w:World)(v:Value)(xs:List ZLV):Prop where
 own:w.ownsRow b 113 7 v xs.length (Q0y ZLV.cells xs)
 each:∀x∈xs,x.At b w
structure ZLRel(w wr:World)(v:Value)(xs:List ZLV):Prop where
 own:wr.ownsRow w.heap.size 113 7 v xs.length (Q0y ZLV.cells xs)
 each:∀x∈xs,x.At w.heap.size wr
 dis:∀x∈xs,∀k,v.ownBlock=some k->x.vs.ownBlock≠some k/\x.vp.ownBlock≠some k
 fresh:Q0a w wr
theorem ZLV.At.lt{b:Nat}{w:World}{x:ZLV}(h:x.At b w):(∀k,x.vs.ownBlock=some k->b<=k/\k<w.heap.size)/\(∀k,x.vp.ownBlock=some k->b<=k/\k<w.heap.size):=⟨h.syms.lt,h.places.lt⟩
theorem ZLV.At.base{b b':Nat}{w:World}{x:ZLV}(h:x.At b w)(hb:b'<=b):x.At b' w:=⟨z0g h.syms hb,z0g h.places hb⟩
theorem ZLV.At.put{b:Nat}{w:World}{x:ZLV}(h:x.At b w)(a:Int):ZLV.At b w {x with pl:=a}:=⟨h.syms,h.places⟩
theorem ZLRel.next{w wr w1 W w2:World}{v v':Value}{xs:List ZLV}{x:ZLV}(h:ZLRel w wr v xs)(hf:Q0a wr w1)(hx:x.At wr.heap.size w1)(m1:Q0a w1 W)
  (hown:w2.ownsRow w.heap.size 113 7 v' (xs.length+1) (Q0y ZLV.cells xs++x.cells)) (hg:W.grownBy w2 v.ownBlock)
  (hb:∀k,v'.ownBlock=some k->v.ownBlock=some k∨W.heap.size<=k):ZLRel w w2 v' (xs++[x]):=by
 have m2:Mod (fun k=>v.ownBlock=some k) W w2:=Mod.grown (S:=fun k=>v.ownBlock=some k) (mRf _ _) hg (fun k hk _=>hk);have j1:∀k,v.ownBlock=some k->w.heap.size<=k/\k<wr.heap.size:=h.own.lt;have j2:=h.fresh.size;have j3:=hf.size;have j4:=m1.size;have j0:=hx.lt;refine⟨?_,?_,?_,?_⟩
 ·rw[z0v,qP,qAj];exact hown
 ·intro y hy;rcases qBs.1 hy with hy|hy
  ·exact(((h.each y hy).fresh hf).fresh m1).kept m2 (fun k hk e=>(h.dis y hy k e).1 hk) (fun k hk e=>(h.dis y hy k e).2 hk)
  simp at hy;subst hy;exact((hx.fresh m1).kept m2 (fun k hk e=>by have:=j0.1 k hk;have:=j1 k e;omega) (fun k hk e=>by have:=j0.2 k hk;have:=j1 k e;omega)).base j2
 ·intro y hy k hk;rcases qBs.1 hy with hy|hy
  ·rcases hb k hk with h1|h1
   ·exact h.dis y hy k h1
   have:=((h.each y hy).fresh hf).lt;exact⟨fun e=>by have:=this.1 k e;omega,fun e=>by have:=this.2 k e;omega⟩
  simp at hy;subst hy;rcases hb k hk with h1|h1
  ·have h3:=j1 k h1;exact⟨fun e=>by have:=j0.1 k e;omega,fun e=>by have:=j0.2 k e;omega⟩
  exact⟨fun e=>by have:=j0.1 k e;omega,fun e=>by have:=j0.2 k e;omega⟩
 exact Mod.trans' (S:=fun _=>False) ((h.fresh.trans hf).trans m1) m2 (fun i hi e=>by have:=j1 i e;omega)
def nlL(s:ByteArray):Nat->Nat->Nat
 |0,n=>n
 |f+1,n=>if n<s.size/\atB s n≠10 then nlL s f (n+1) else n
def nlF(s:ByteArray)(a:Nat):Nat:=nlL s (s.size+1) a
theorem v2h(s:ByteArray)(f n:Nat):nlL s (f+1) n=if n<s.size/\atB s n≠10 then nlL s f (n+1) else n:=rfl
theorem y86(s:ByteArray):∀(f n:Nat),n<=s.size->s.size+1<=f+n->n<=nlL s f n/\nlL s f n<=s.size/\(nlL s f n=s.size∨atB s (nlL s f n)=10)/\∀k,n<=k->k<nlL s f n->atB s (k:Nat)≠10
 |0,n,h1,h2=>by omega
 |f+1,n,h1,h2=>by
  rw[v2h];by_cases c:n<s.size/\atB s n≠10
  ·rw[qAb c];obtain⟨q1,q2,q3,q4⟩:=y86 s f (n+1) (by omega) (by omega);refine⟨by omega,q2,q3,fun k k1 k2=>?_⟩;by_cases e:k=n
   ·subst e;exact c.2
   exact q4 k (by omega) k2
  rw[qAa c];refine⟨qR _,h1,?_,fun k k1 k2=>by omega⟩;by_cases q:n<s.size
  ·right;by_cases q2:atB s n=10
   ·exact q2
   exact absurd ⟨q,q2⟩ c
  left;omega
theorem z8i(s:ByteArray){a:Nat}(h:a<=s.size):a<=nlF s a/\nlF s a<=s.size/\(nlF s a=s.size∨atB s (nlF s a)=10)/\∀k,a<=k->k<nlF s a->atB s (k:Nat)≠10:=y86 s _ a h (by omega)
def Q32(s:ByteArray):Nat->Nat->List (ZLn × Int)->List (ZLn × Int) × Int
 |0,_,acc=>(acc,-1)
 |f+1,a,acc =>
  if a<s.size then
   match Q40 (s.extract a (nlF s a))with
   |some z=>if nlF s a=s.size then([],(Q5p s a (nlF s a):Int)) else Q32 s f (nlF s a+1) (acc++[(z,(a:Int))])
   |none=>([],(Q5p s a (nlF s a):Int))
  else(acc,-1)
def Q4x(s:ByteArray):List (ZLn × Int) × Int:=Q32 s (s.size+1) 0 []
theorem z6w(s:ByteArray)(f a:Nat)(acc:List (ZLn × Int)):Q32 s (f+1) a acc=if a<s.size then
   match Q40 (s.extract a (nlF s a))with
   |some z=>if nlF s a=s.size then([],(Q5p s a (nlF s a):Int)) else Q32 s f (nlF s a+1) (acc++[(z,(a:Int))])
   |none=>([],(Q5p s a (nlF s a):Int))
  else(acc,-1):=rfl
def ZLV.both(x:ZLV):ZLn × Int:=(x.ln,x.pl)
theorem x5y(s:ByteArray)(w:World)(hs:s.size<=900) :
  Calls Tryz.prog 40 #[.string s] w fun e w'=>∃(v:Value) (xs:List ZLV),xs.map ZLV.both=(Q4x s).1/\e=.returned (.tuple #[v,.int .i64 (Q4x s).2])/\Q0a w w'/\Q44 w.heap.size w' v xs:=by
 generalize hR:Q4x s=R;have HR:Hid (Q32 s (s.size+1) 0 []=R):=hR;obtain⟨i0,hi,jm,jn,jo⟩:=infoZL';have ZL:=hid (fun(t:ByteArray) (w:World) (h:t.size<=70000)=>y6c t w h);have ST:=hid (fun(a n:Nat) (w:World) (h1:a<=n) (h2:n<=s.size)=>x1a s a n w (by omega) h1 h2);clear hR;go_enter Tryz.func40,Tryz.ntmps40
 go_wp2;go_loopw [4,5] (fun x4 x5 wr=>∃(f a:Nat) (xs:List ZLV),x5=.int .i64 a/\Q32 s f a (xs.map ZLV.both)=R/\a<=s.size/\s.size+1<=f+a/\xs.length<=a/\ZLRel w wr x4 xs)
   (fun _ x _=>2001-(intOf x).toNat)
 case atStart=>exact⟨s.size+1,0,[],rfl,HR.out,by omega,by omega,by simp,⟨qAh _ _ _ _,(fun _ h=>by cases h),(fun _ h=>by cases h),mRf _ _⟩⟩
 obtain⟨f,a,xs,rfl,hR,ha,jq,jl,hL⟩:=hrel;obtain⟨f,rfl⟩:∃g,f=g+1:=⟨f-1,by omega⟩;rw[z6w]at hR;have HL:=hid hL;obtain⟨ao,cap,hv⟩:=z0c hL.own;clear hL HR;subst hv;by_cases jf:a<s.size
 ·rw[qAb jf]at hR;obtain⟨n1,n2,n3,n4⟩:=z8i s (a:=a) (by omega);generalize hn:nlF s a=n at n1 n2 n3 n4 hR;have HN:Hid (nlL s (s.size+1) a=n):=hn;have j1:=hid hR;have jr:(a:Int)<(s.size:Int):=by omega
  clear hn hR n4 n3;generalize hw0:wr=w0 at HL;go_wp2;go_loopw [6] (fun x6 wr=>∃(g m:Nat),x6=.int .i64 m/\wr=w0/\a<=m/\m<=s.size/\s.size+1<=g+m/\nlL s g m=n)
    (fun x _=>2001-(intOf x).toNat)
  case atStart=>exact⟨s.size+1,a,rfl,by first|rfl|trivial,by omega,by omega,by omega,HN.out⟩
  obtain⟨g,m,rfl,rfl,js,jt,hg,j0⟩:=hrel;obtain⟨g,rfl⟩:∃k,g=k+1:=⟨g-1,by omega⟩;rw[v2h]at j0;clear HN;by_cases hm:m<s.size
  ·have hb:=z1u hm;have jp:s[m].toNat<256:=s[m].toNat_lt;have k1:(m:Int)<(s.size:Int):=by omega
   rw[hb]at j0;clear hb;by_cases j8:(s[m].toNat:Int)=10
   ·rw[qAa (fun q=>q.2 j8)]at j0;have q1:((s[m].toNat:Int) != 10)=false:=by simp[j8]
    subst j0;clear j8; -- the line ends here
    have jd:(s.extract a m).size<=70000:=by rw[qBl];omega
    have ZX:=hid (fun w=>ZL.out (s.extract a m) w jd);have SX:=hid (fun w=>ST.out a m w (by omega) (by omega));have b1:(a:Int)<=(m:Int):=by omega
    have b2:(m:Int)<=(s.size:Int):=by omega
    have k2:((m:Int)==(s.size:Int))=false:=by simp;omega
    have k3:¬(m:Int)=(s.size:Int):=by omega
    have HM:Hid (¬m=s.size):=by unfold Hid;omega
    generalize Q40 (s.extract a m)=zt at ZX j1;cases zt with
    |none =>
     have j3:Hid (R=([],(Q5p s a m:Int))):=j1.symm;clear j1;go_wp2_with (first
      |(go_at_call 71;refine(ZX.out _).mono ?_;rintro e w1⟨x,he,hA,j2,hx⟩;rw[Option.isSome_none]at he;subst he;have j5:=hid j2;have j4:=hid hA;clear j2 hA hx)
      |(refine z0e rfl 113 _ _ rfl w1 _ _ _ rfl rfl rfl Q6c rfl j4.one ?_)
      |(go_at_call 72;refine(SX.out _).mono ?_;rintro e w2⟨rfl,ja⟩))
     refine qAc (qEo rfl _ _ _) rfl ⟨.slice none 0 0,[],by rw[j3.out];rfl,by rw[j3.out];rfl,((HL.fresh.trans j5.out).alloc _).trans ja,⟨qAh _ _ _ _,fun _ h=>by cases h⟩⟩
    |some z =>
     have j3:Hid (Q32 s f (m+1) (xs.map ZLV.both++[(z,(a:Int))])=R):=by
      have:=j1.out;dsimp only at this;rw[qAa HM.out]at this;exact this
     clear j1;go_wp2_with (first
      |(go_at_call 71;refine(ZX.out _).mono ?_;rintro e w1⟨x,he,hA,j2,hx⟩;rw[Option.isSome_some]at he;subst he;have j5:=hid j2;have j4:=hid hA;have HX:=hid (hx z rfl);have ju:=j2.size;clear j2 hA hx;obtain⟨⟨xr,xk,xn,xp,jc,jb⟩,vs,vp,pl⟩:=x;obtain⟨so,sc,ji⟩:=z0c j4.syms;obtain⟨po,pc,jh⟩:=z0c j4.places;dsimp only at ji jh;subst ji;subst jh)
      |(refine z0e rfl 113 _ _ rfl w1 _ (zlA xr xk xn xp (.slice so jc.length sc) (.slice po jb.length pc) pl) _ rfl rfl rfl Q6c rfl (z3h rfl rfl) ?_)
      |(refine qAf rfl 113 _ rfl w1.heap.size rfl (zlA xr xk xn xp (.slice so jc.length sc) (.slice po jb.length pc) (a:Int)) _ _ _ (by rw[zhs (z0a _ _)];rfl) qCi rfl Q6c ?_)
      |(at_builtin;refine z0f _ rfl _ _ 102 rfl w.heap.size 113 i0 _ 7 96 Tryz.underlying102 hi jm jn jo rfl (by decide) _ _ _ rfl (((z0d HL.own (fun g hg=>j5.block g (HL.own.lt g hg).2 id)).alloc _).alloc _) ⟨w1.heap.size+1,0,none⟩ 1 1 (zlL xr xk xn xp (.slice so jc.length sc) (.slice po jb.length pc) (a:Int)) rfl rfl ?c1 ?c2 ?c3 ?c4 ?c5 ?_))
     case c1=>exact z13 rfl
     case c2=>intro u hu;exact(qCn.1 (z3h (r:=xr) (k:=xk) (nm:=xn) (pt:=xp) (vs:=.slice so jc.length sc) (vp:=.slice po jb.length pc) (a:=(a:Int)) rfl rfl)) u (by simpa using hu)
     case c3=>unfold maxLen;omega
     case c4=>omega
     case c5=>have:=HL.fresh.size;simp;omega
     intro v' w2 j7 j6 j9;have je:=HL.next j5.out (j4.put (a:Int)) (((mRf _ w1).alloc _).alloc _) j7 j6 (by simpa using j9);have jj:=hid je;clear j7 j6 j9 je;go_wp2;go_roundw
     case rel =>
      refine⟨f,m+1,_,by go_num,?_,by omega,by omega,?_,jj.out⟩
      ·rw[qBp,qDb];have hx:=HX.out;unfold ZLV.both;dsimp only;rw[hx];exact j3.out
      simp;omega
     simp[intOf];omega
   rw[qAb ⟨hm,j8⟩]at j0;have q1:((s[m].toNat:Int) != 10)=true:=by simpa using j8
   have jk:=hid j0;clear j0 j8;go_wp2;go_roundw
   case rel=>exact⟨g,m+1,by go_num,by first|rfl|trivial,by omega,by omega,by omega,jk.out⟩
   simp[intOf];omega
  rw[qAa (fun q=>hm q.1)]at j0;have jg:m=s.size:=by omega
  have k1:¬(m:Int)<(s.size:Int):=by omega
  subst j0;have jd:(s.extract a m).size<=70000:=by rw[qBl];omega
  have ZX:=hid (fun w=>ZL.out (s.extract a m) w jd);have SX:=hid (fun w=>ST.out a m w (by omega) (by omega));have b1:(a:Int)<=(m:Int):=by omega
  have b2:(m:Int)<=(s.size:Int):=by omega
  have k2:((m:Int)==(s.size:Int))=true:=by simp;omega
  have HM:=hid jg;clear jg;generalize Q40 (s.extract a m)=zt at ZX j1;cases zt with
  |none =>
   have j3:Hid (R=([],(Q5p s a m:Int))):=j1.symm;clear j1;go_wp2_with (first
    |(go_at_call 71;refine(ZX.out _).mono ?_;rintro e w1⟨x,he,hA,j2,hx⟩;rw[Option.isSome_none]at he;subst he;have j5:=hid j2;have j4:=hid hA;clear j2 hA hx)
    |(refine z0e rfl 113 _ _ rfl w1 _ _ _ rfl rfl rfl Q6c rfl j4.one ?_)
    |(go_at_call 72;refine(SX.out _).mono ?_;rintro e w2⟨rfl,ja⟩))
   refine qAc (qEo rfl _ _ _) rfl ⟨.slice none 0 0,[],by rw[j3.out];rfl,by rw[j3.out];rfl,((HL.fresh.trans j5.out).alloc _).trans ja,⟨qAh _ _ _ _,fun _ h=>by cases h⟩⟩
  |some z =>
   have j3:Hid (R=([],(Q5p s a m:Int))):=by
    have:=j1.out;dsimp only at this;rw[qAb HM.out]at this;exact this.symm
   clear j1;go_wp2_with (first
    |(go_at_call 71;refine(ZX.out _).mono ?_;rintro e w1⟨x,he,hA,j2,hx⟩;rw[Option.isSome_some]at he;subst he;have j5:=hid j2;have j4:=hid hA;clear j2 hA hx)
    |(refine z0e rfl 113 _ _ rfl w1 _ _ _ rfl rfl rfl Q6c rfl j4.one ?_)
    |(go_at_call 72;refine(SX.out _).mono ?_;rintro e w2⟨rfl,ja⟩))
   refine qAc (qEo rfl _ _ _) rfl ⟨.slice none 0 0,[],by rw[j3.out];rfl,by rw[j3.out];rfl,((HL.fresh.trans j5.out).alloc _).trans ja,⟨qAh _ _ _ _,fun _ h=>by cases h⟩⟩
 rw[qAa jf]at hR;have j1:=hid hR;have k1:¬(a:Int)<(s.size:Int):=by omega
 clear hR;go_wp2;refine qAc (qEo rfl _ _ _) rfl ⟨.slice ao xs.length cap,xs,by rw[← j1.out],by rw[← j1.out];rfl,HL.fresh,⟨HL.own,HL.each⟩⟩
theorem z60(l:List ByteArray)(s:ByteArray)(v:Value)(w:World)(hl:StrsAt w v l)(hn:l.length<=1000) :
  Calls Tryz.prog 73 #[v,.string s] w fun e w'=>e=.returned (.int .i64 (Q1y l s))/\w'=w:=by
 obtain⟨a,c,rfl,hc⟩:=hl;have HC:=hid hc;clear hc;go_enter Tryz.func73,Tryz.ntmps73
 go_wp2;go_loop [5] (fun x=>∃n:Nat,x=.int .i64 n/\n<=l.length/\∀j (hj:j<l.length),j<n->(l[j].toList==s.toList)=false)
  (fun x=>1001-(intOf x).toNat)
 case atStart=>exact⟨0,rfl,by omega,fun j _ h=>by omega⟩
 obtain⟨n,rfl,j6,j0⟩:=hrel;have j3:=hid (Q19 (B:=1001) n (by omega));have HA:=hid j0;clear j0;by_cases j1:n<l.length
 ·obtain⟨g,o,j4,j2⟩:=HC.out n j1;subst j4;cases h1:(l[n].toList==s.toList)
  ·go_wp2;go_round
   case rel =>
    refine⟨n+1,by go_num,by omega,?_⟩;intro j hj j5;by_cases e:j=n
    ·subst e;exact h1
    exact HA.out j hj (by omega)
   exact j3.out
  go_wp2;go_ret;refine⟨z1i ?_,rfl⟩;have:l.findIdx (fun x=>x.toList==s.toList)=n:=by
   rw[List.findIdx_eq j1];exact⟨h1,fun j hj=>HA.out j (by omega) hj⟩
  unfold Q1y;rw[this,qAb j1]
 go_wp2;go_ret;refine⟨z1i ?_,rfl⟩;have:l.findIdx (fun x=>x.toList==s.toList)=l.length:=by
  apply qDt;intro x hx;obtain⟨j,hj,rfl⟩:=qBf hx;exact HA.out j hj (by omega)
 unfold Q1y;rw[this,qAa (by omega)]
structure Rz where
 v:Value
 ty:TypeId
 k:Nat
 n:Nat
 cs:List Value
structure OAt(w:World)(b:Nat)(ty:TypeId)(rs:List Rz):Prop where
 blk:w.heap[b]? = some (.cells (rs.map Rz.v).toArray ty (0,0))
 own:∀(i:Nat) (r:Rz),rs[i]? = some r->w.ownsRow (b+1) r.ty r.k r.v r.n r.cs
 apart:∀(i j:Nat) (r r':Rz) (k:Nat),rs[i]? = some r->rs[j]? = some r'->r.v.ownBlock=some k->r'.v.ownBlock=some k->i=j
section
variable {w w' W w1:World}{b:Nat}{ty:TypeId}{rs:List Rz}
theorem OAt.lt(h:OAt w b ty rs):b<w.heap.size:=z0j h.blk
theorem OAt.own_lt(h:OAt w b ty rs){i:Nat}{r:Rz}(hr:rs[i]? = some r):∀k,r.v.ownBlock=some k->b<k/\k<w.heap.size:=fun k hk=>by
 have:=(h.own i r hr).lt k hk;omega
theorem OAt.kept{S:Nat->Prop}(h:OAt w b ty rs)(m:Mod S w w')(hs:∀k,b<=k->k<w.heap.size->¬S k):OAt w' b ty rs :=
 ⟨m.at h.blk (hs b (qR _) h.lt),fun i r hr=>z0d (h.own i r hr) (fun g hg=>m.block g (h.own_lt hr g hg).2 (hs g (by have:=h.own_lt hr g hg;omega) (h.own_lt hr g hg).2)),h.apart⟩
theorem OAt.fresh(h:OAt w b ty rs)(m:Q0a w w'):OAt w' b ty rs:=h.kept m (fun _ _ _ x=>x)
theorem OAt.blk_grown(h:OAt w b ty rs)(hW:Q0a w W){i:Nat}{r:Rz}(hi:rs[i]? = some r)(hg:W.grownBy w1 r.v.ownBlock):w1.heap[b]? = some (.cells (rs.map Rz.v).toArray ty (0,0)):=by
 have j0:=hW.at h.blk id;rw[hg.block b (z0j j0) (fun e=>by have:=h.own_lt hi b e.symm;omega)];exact j0
theorem oadd{i:Nat}{v v':Value}{e:TypeId}{k n:Nat}{xs x:List Value}(h:OAt w b ty rs)(hW:Q0a w W)(hi:rs[i]? = some ⟨v,e,k,n,xs⟩)
  (hown:w1.ownsRow (b+1) e k v' (n+1) (xs++x)) (hg:W.grownBy w1 v.ownBlock)
  (hb:∀j,v'.ownBlock=some j->v.ownBlock=some j∨W.heap.size<=j) :
  OAt (w1.setCell ⟨b,i,none⟩ v') b ty (rs.set i ⟨v',e,k,n+1,xs++x⟩)/\Mod (fun j=>b<=j) w (w1.setCell ⟨b,i,none⟩ v'):=by
 have j8:=(qS hi).1;have h1:=h.blk_grown hW hi hg;have j9:=hown.lt;have j0:∀(j:Nat) (r:Rz),(rs.set i ⟨v',e,k,n+1,xs++x⟩)[j]? = some r->(j=i/\r=⟨v',e,k,n+1,xs++x⟩)∨(j≠i/\rs[j]? = some r):=by
  intro j r hj;by_cases e:i=j
  ·subst e;rw[List.getElem?_set_self j8]at hj;left;exact⟨rfl,by simpa using hj.symm⟩
  rw[List.getElem?_set_ne e]at hj;right;exact⟨fun h=>e h.symm,hj⟩
 have j5:∀(j:Nat) (r:Rz) (q:Nat),j≠i->rs[j]? = some r->r.v.ownBlock=some q->v'.ownBlock=some q->False:=by
  intro j r q j3 hj hk j2;rcases hb q j2 with h2|h2
  ·exact j3 (h.apart j i r _ q hj hi hk h2)
  have:=h.own_lt hj q hk;have:=hW.size;omega
 refine⟨⟨?_,?_,?_⟩,?_⟩
 ·have:=zhs h1 i v';rw[this,qFr];simp
 ·intro j r hj;rcases j0 j r hj with⟨rfl,rfl⟩|⟨j3,hj⟩
  ·exact z0d hown (fun g hg'=>by rw[Proofs.YtbdpfmalabgmbaaGreat.heap_setCell_other _ (by have:=j9 g hg';simp;omega)])
  refine z0d ((h.own j r hj)) (fun g hg'=>?_);have hl:=h.own_lt hj g hg';rw[Proofs.YtbdpfmalabgmbaaGreat.heap_setCell_other _ (by simp;omega),hg.block g (by have:=hW.size;omega) (fun e=>j3 (h.apart j i r _ g hj hi hg' e.symm)),hW.block g hl.2 id]
 ·intro j j' r r' q hj j6 hk j2;rcases j0 j r hj with⟨e1,e2⟩|⟨j3,j7⟩
  ·rcases j0 j' r' j6 with⟨e3,e4⟩|⟨j4,j1⟩
   ·rw[e1,e3]
   subst e2;exact(j5 j' r' q j4 j1 j2 hk).elim
  rcases j0 j' r' j6 with⟨e3,e4⟩|⟨j4,j1⟩
  ·subst e4;exact(j5 j r q j3 j7 hk j2).elim
  exact h.apart j j' r r' q j7 j1 hk j2
 have m1:Mod (fun j=>b<=j) w W:=hW.mono (fun _ _ x=>x.elim);exact(m1.grown hg (fun q hk _=>by have:=h.own_lt hi q hk;omega)).setCell (fun _=>qR _) _
end
structure SP where
 rules:List ZLV
 prods:List ZLV
 heads:List ByteArray
 head:List Int
abbrev Q51(X:SP)(v0 v1 v2 v3 v4:Value)(sv:List Value):List Rz :=
 [⟨v0,113,7,X.rules.length,Q0y ZLV.cells X.rules⟩,⟨v1,113,7,X.prods.length,Q0y ZLV.cells X.prods⟩,⟨v2,9,1,X.heads.length,Q98 X.heads⟩,⟨v3,3,1,X.head.length,W0b X.head⟩,⟨v4,24,1,sv.length,sv⟩]
abbrev Q2f(w:World)(b:Nat)(X:SP)(v0 v1 v2 v3 v4:Value)(sv:List Value):Prop:=OAt w b 111 (Q51 X v0 v1 v2 v3 v4 sv)
section
variable {w W w1:World}{b:Nat}{X:SP}{v0 v1 v2 v3 v4 v':Value}{sv:List Value}
abbrev UpZ(b:Nat):World->World->Prop:=Mod (fun k=>b<=k)
theorem Q2f.cell(h:Q2f w b X v0 v1 v2 v3 v4 sv)(o:Nat):w.cell? ⟨b,o,none⟩=#[v0,v1,v2,v3,v4][o]? := by
 have:=Q0b h.blk o;simpa using this
theorem Q2f.frozen(h:Q2f w b X v0 v1 v2 v3 v4 sv)(o:Nat):w.frozen? ⟨b,o,none⟩=false:=Q0f h.blk o
theorem Q2f.add0{x:ZLV}(h:Q2f w b X v0 v1 v2 v3 v4 sv)(hW:Q0a w W)(hown:w1.ownsRow (b+1) 113 7 v' (X.rules.length+1) (Q0y ZLV.cells X.rules++x.cells))(hg:W.grownBy w1 v0.ownBlock)
  (hb:∀k,v'.ownBlock=some k->v0.ownBlock=some k∨W.heap.size<=k) :
  Q2f (w1.setCell ⟨b,0,none⟩ v') b {X with rules:=X.rules++[x]} v' v1 v2 v3 v4 sv/\UpZ b w (w1.setCell ⟨b,0,none⟩ v'):=by
 obtain⟨a1,m⟩:=oadd (i:=0) h hW rfl hown hg hb;refine⟨?_,m⟩;have e:(Q51 X v0 v1 v2 v3 v4 sv).set 0 ⟨v',113,7,X.rules.length+1,Q0y ZLV.cells X.rules++x.cells⟩=Q51 {X with rules:=X.rules++[x]} v' v1 v2 v3 v4 sv:=by simp[Q51,z0v]
 rw[e]at a1;exact a1
theorem Q2f.add1{x:ZLV}(h:Q2f w b X v0 v1 v2 v3 v4 sv)(hW:Q0a w W)(hown:w1.ownsRow (b+1) 113 7 v' (X.prods.length+1) (Q0y ZLV.cells X.prods++x.cells))(hg:W.grownBy w1 v1.ownBlock)
  (hb:∀k,v'.ownBlock=some k->v1.ownBlock=some k∨W.heap.size<=k) :
  Q2f (w1.setCell ⟨b,1,none⟩ v') b {X with prods:=X.prods++[x]} v0 v' v2 v3 v4 sv/\UpZ b w (w1.setCell ⟨b,1,none⟩ v'):=by
 obtain⟨a1,m⟩:=oadd (i:=1) h hW rfl hown hg hb;refine⟨?_,m⟩;have e:(Q51 X v0 v1 v2 v3 v4 sv).set 1 ⟨v',113,7,X.prods.length+1,Q0y ZLV.cells X.prods++x.cells⟩=Q51 {X with prods:=X.prods++[x]} v0 v' v2 v3 v4 sv:=by simp[Q51,z0v]
 rw[e]at a1;exact a1
theorem Q2f.add2{x:ByteArray}(h:Q2f w b X v0 v1 v2 v3 v4 sv)(hW:Q0a w W)(hown:w1.ownsRow (b+1) 9 1 v' (X.heads.length+1) (Q98 X.heads++[.string x]))(hg:W.grownBy w1 v2.ownBlock)
  (hb:∀k,v'.ownBlock=some k->v2.ownBlock=some k∨W.heap.size<=k) :
  Q2f (w1.setCell ⟨b,2,none⟩ v') b {X with heads:=X.heads++[x]} v0 v1 v' v3 v4 sv/\UpZ b w (w1.setCell ⟨b,2,none⟩ v'):=by
 obtain⟨a1,m⟩:=oadd (i:=2) h hW rfl hown hg hb;refine⟨?_,m⟩;have e:(Q51 X v0 v1 v2 v3 v4 sv).set 2 ⟨v',9,1,X.heads.length+1,Q98 X.heads++[.string x]⟩=Q51 {X with heads:=X.heads++[x]} v0 v1 v' v3 v4 sv:=by simp[Q51]
 rw[e]at a1;exact a1
theorem Q2f.add3{x:Int}(h:Q2f w b X v0 v1 v2 v3 v4 sv)(hW:Q0a w W)(hown:w1.ownsRow (b+1) 3 1 v' (X.head.length+1) (W0b X.head++[.int .i64 x]))(hg:W.grownBy w1 v3.ownBlock)
  (hb:∀k,v'.ownBlock=some k->v3.ownBlock=some k∨W.heap.size<=k) :
  Q2f (w1.setCell ⟨b,3,none⟩ v') b {X with head:=X.head++[x]} v0 v1 v2 v' v4 sv/\UpZ b w (w1.setCell ⟨b,3,none⟩ v'):=by
 obtain⟨a1,m⟩:=oadd (i:=3) h hW rfl hown hg hb;refine⟨?_,m⟩;have e:(Q51 X v0 v1 v2 v3 v4 sv).set 3 ⟨v',3,1,X.head.length+1,W0b X.head++[.int .i64 x]⟩=Q51 {X with head:=X.head++[x]} v0 v1 v2 v' v4 sv:=by simp[Q51]
 rw[e]at a1;exact a1
theorem Q2f.add4{u:Value}(h:Q2f w b X v0 v1 v2 v3 v4 sv)(hW:Q0a w W)(hown:w1.ownsRow (b+1) 24 1 v' (sv.length+1) (sv++[u]))(hg:W.grownBy w1 v4.ownBlock)
  (hb:∀k,v'.ownBlock=some k->v4.ownBlock=some k∨W.heap.size<=k) :
  Q2f (w1.setCell ⟨b,4,none⟩ v') b X v0 v1 v2 v3 v' (sv++[u])/\UpZ b w (w1.setCell ⟨b,4,none⟩ v'):=by
 obtain⟨a1,m⟩:=oadd (i:=4) h hW rfl hown hg hb;refine⟨?_,m⟩;have e:(Q51 X v0 v1 v2 v3 v4 sv).set 4 ⟨v',24,1,sv.length+1,sv++[u]⟩=Q51 X v0 v1 v2 v3 v' (sv++[u]):=by simp[Q51]
 rw[e]at a1;exact a1
end
theorem Q44.kept{S:Nat->Prop}{b:Nat}{w w':World}{v:Value}{xs:List ZLV}(h:Q44 b w v xs)(m:Mod S w w')(hs:∀k,k<w.heap.size->¬S k):Q44 b w' v xs :=
 ⟨z0d h.own (fun g hg=>m.block g (h.own.lt g hg).2 (hs g (h.own.lt g hg).2)),fun x hx=>(h.each x hx).kept m (fun k hk=>hs k ((h.each x hx).syms.lt k hk).2) (fun k hk=>hs k ((h.each x hx).places.lt k hk).2)⟩
theorem Q44.row{b:Nat}{w:World}{v:Value}{xs:List ZLV}(h:Q44 b w v xs):Q18 ZLV.cells 7 113 w v xs:=⟨z0g h.own (qBq _),fun x _=>rfl⟩
end Go.Proofs.YtbdpfmalabgmbaaGreat
