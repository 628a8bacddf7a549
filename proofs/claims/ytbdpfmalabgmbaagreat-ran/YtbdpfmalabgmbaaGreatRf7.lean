import Derived.Test.YtbdpfmalabgmbaaGreatRa6
import Derived.Deep.DeepCutAuto
namespace Go.Proofs.YtbdpfmalabgmbaaGreat
open Go.RowKit
set_option maxRecDepth 99999
set_option maxHeartbeats 0
set_option linter.all false
theorem Q77{P:Program}{fn:Func}{p u:Tmp}{ty:TypeId}(h:fn.results=#[.cell p ty,.tmp u])(tmps:Array Value)(w:World)(g:Nat)(t:TypeId)(cs:Array Value)(fr:Nat × Nat)(d:TypeDesc)
  (hp:tmps.getD p undef=.pointer (some ⟨g,0,none⟩)) (hg:w.heap[g]? = some (.cells cs t fr))
  (hu:P.underlying ty=some d) (hd:(match d with | .struct _ | .array _ _=>true|_=>false)=true) (hi:(P.info? ty).map (·.size)=some cs.size) :
  (results fn tmps).run P w=.ok (.tuple #[.agg cs,tmps.getD u undef]) w:=by
 have j0:tmps[p]?.getD undef=.pointer (some ⟨g,0,none⟩):=by simpa using hp
 simp[results,h,j0,asAddr,run_loadVar_row w g t ty cs fr d hg hu hd hi]
theorem z99{P:Program}(w:World)(g:Nat)(t ty:TypeId)(old cells:Array Value)(hg:w.heap[g]? = some (.cells old t (0,0)))(hi:(P.info? ty).map (·.size)=some cells.size)(hold:old.size=cells.size)(h1:cells.all (·.oneCell')=true) :
  (Instr.storeAt ty (.pointer (some ⟨g,0,none⟩)) (.agg cells)).run P w=.ok () (w.setRow g cells):=by
 simp only[Instr.storeAt,Instr.sureAddr,Sem.run_bind,Sem.run_pure,Result.andThen_ok,run_storeVar_row w g t ty old cells hg hi hold h1]
abbrev nilS:Value:=.slice none 0 0
abbrev zlL(r k:Bool)(nm pt:ByteArray)(vs vp:Value)(a:Int):List Value:=[.bool r,.bool k,.string nm,.string pt,vs,vp,.int .i64 a]
abbrev zlA(r k:Bool)(nm pt:ByteArray)(vs vp:Value)(a:Int):Array Value:=#[.bool r,.bool k,.string nm,.string pt,vs,vp,.int .i64 a]
theorem Q6c:(Tryz.prog.info? 113).map (·.size)=some 7:=by kernel_rfl
theorem z3h{r k:Bool}{nm pt:ByteArray}{vs vp:Value}{a:Int}(h1:vs.oneCell'=true)(h2:vp.oneCell'=true):(zlA r k nm pt vs vp a).all (·.oneCell')=true:=by
 refine qCq (cs:=zlL r k nm pt vs vp a) ?_;intro v hv;simp only[qBu,qEi,or_false]at hv;rcases hv with rfl|rfl|rfl|rfl|rfl|rfl|rfl
 ·rfl
 ·rfl
 ·rfl
 ·rfl
 ·exact h1
 ·exact h2
 rfl
def stZ(p v:Value):Sem Unit:=Instr.storeAt 113 p v
theorem x75(p v:Value):Instr.storeAt 113 p v=stZ p v:=rfl
structure ZLV where
 ln:ZLn
 vs:Value
 vp:Value
 pl:Int
def ZLV.cells(x:ZLV):List Value:=zlL x.ln.rule x.ln.skip x.ln.name x.ln.pat x.vs x.vp x.pl
structure ZLV.At(b:Nat)(w:World)(x:ZLV):Prop where
 syms:w.ownsRow b 9 1 x.vs x.ln.syms.length (Q98 x.ln.syms)
 places:w.ownsRow b 3 1 x.vp x.ln.places.length (W0b x.ln.places)
def noZL:ZLn:=⟨false,false,⟨#[]⟩,⟨#[]⟩,[],[]⟩
theorem ZLV.At.fresh{b:Nat}{w w':World}{x:ZLV}(h:x.At b w)(hm:Q0a w w'):x.At b w' :=
 ⟨z0d h.syms (fun g hg=>hm.block g (h.syms.lt g hg).2 id),z0d h.places (fun g hg=>hm.block g (h.places.lt g hg).2 id)⟩
theorem ZLV.At.kept{S:Nat->Prop}{b:Nat}{w w':World}{x:ZLV}(h:x.At b w)(hm:Mod S w w')(h1:∀k,x.vs.ownBlock=some k->¬S k)(h2:∀k,x.vp.ownBlock=some k->¬S k):x.At b w' :=
 ⟨z0d h.syms (fun g hg=>hm.block g (h.syms.lt g hg).2 (h1 g hg)),z0d h.places (fun g hg=>hm.block g (h.places.lt g hg).2 (h2 g hg))⟩
theorem ZLV.At.one{b:Nat}{w:World}{x:ZLV}(h:x.At b w):x.cells.toArray.all (·.oneCell')=true:=z3h (z6s h.syms) (z6s h.places)
def ZRet(w:World)(r:Option ZLn)(e:Ending)(w':World):Prop :=
 ∃x:ZLV,e=.returned (.tuple #[.agg x.cells.toArray,.bool r.isSome])/\x.At w.heap.size w'/\Q0a w w'/\∀z,r=some z->x.ln=z
theorem y85(b:Nat)(w:World)(x:ZLV)(h1:x.ln.syms=[])(h2:x.ln.places=[])(h3:x.vs=nilS)(h4:x.vp=nilS):x.At b w:=by
 refine⟨?_,?_⟩
 ·rw[h1,h3];exact qAh _ _ _ _
 rw[h2,h4];exact qAh _ _ _ _
attribute [local go_sem ↓] x75
theorem x1m(s:ByteArray)(w:World)(hs:s.size<=70000)(n:Nat)(hn:Q4e s 0=n)(hn0:0<n)(hok:Q5i s n=true) :
  Calls Tryz.prog 71 #[.string s] w fun e w'=>e=.returned (.tuple #[.agg (zlA true (atB s n==126) (s.extract 0 n) (s.extract (n+1) s.size) (.slice none 0 0) (.slice none 0 0) 0),.bool (zpK s 6 (n+1)==(s.size:Int))])/\Q0a w w':=by
 have ZL:=hid (fun w=>z2n s 0 w (by omega) (by omega));have e0:((0:Nat):Int)=0:=rfl;rw[e0,hn]at ZL;unfold Q5i at hok;rw[qAd,qAd,qAu,qAu,qAt]at hok;obtain⟨⟨h8,j2⟩,j1⟩:=hok;have PT:=hid (fun w=>y3t s (by omega) 6 0 (by omega) (n+1) w (by omega));have en:((n+1:Nat):Int)=(n:Int)+1:=by omega
 rw[en,e0]at PT;have hb:=z1u j2;rw[hb]at j1 ⊢;have j3:s[n].toNat<256:=s[n].toNat_lt;have k1:0<(n:Int):=by omega
 have k2:¬(8:Int)<(n:Int):=by omega
 have k3:¬(s.size:Int)<=(n:Int):=by omega
 have k4:(n:Int)<(s.size:Int):=by omega
 have k5:((s[n].toNat:Int) != 61&&(s[n].toNat:Int) != 126)=false:=by
  rcases j1 with h|h
  ·have:(s[n].toNat:Int)=61:=by simpa using h
   rw[this];decide
  have:(s[n].toNat:Int)=126:=by simpa using h
  rw[this];decide
 generalize zpK s 6 ((n:Int)+1)=pk at PT ⊢;have hz:(w.alloc (.cells (zlA false false ⟨#[]⟩ ⟨#[]⟩ (.slice none 0 0) (.slice none 0 0) 0) 113 (0,0))).heap[w.heap.size]? = some (.cells (zlA false false ⟨#[]⟩ ⟨#[]⟩ (.slice none 0 0) (.slice none 0 0) 0) 113 (0,0)):=z0a _ _;clear hb hn;have s1:(stZ (.pointer (some ⟨w.heap.size,0,none⟩)) (.agg #[.bool true,.bool ((s[n].toNat:Int)==126),.string (s.extract 0 n),.string (s.extract (n+1) s.size),.slice none 0 0,.slice none 0 0,.int .i64 0])).run Tryz.prog (w.alloc (.cells #[.bool false,.bool false,.string ⟨#[]⟩,.string ⟨#[]⟩,.slice none 0 0,.slice none 0 0,.int .i64 0] 113 (0,0))).drew=.ok () ((w.alloc (.cells #[.bool false,.bool false,.string ⟨#[]⟩,.string ⟨#[]⟩,.slice none 0 0,.slice none 0 0,.int .i64 0] 113 (0,0))).drew.setRow w.heap.size #[.bool true,.bool ((s[n].toNat:Int)==126),.string (s.extract 0 n),.string (s.extract (n+1) s.size),.slice none 0 0,.slice none 0 0,.int .i64 0]) :=
  z99 (t:=113) (old :=  #[.bool false,.bool false,.string ⟨#[]⟩,.string ⟨#[]⟩,.slice none 0 0,.slice none 0 0,.int .i64 0]) _ _ _ _ hz Q6c rfl (z3h rfl rfl)
 by_cases j0:s[n].toNat=61
 ·have q1:((s[n].toNat:Int) != 61)=false:=by simp[j0]
  clear j0;go_enter Tryz.func71,Tryz.ntmps71
  go_upto_region 6 with(first
   |(go_at_call 104;refine csm (ZL.out _) ?_)
   |(go_at_call 105;refine csm (PT.out _) ?_))
  go_region;all_goals
   go_wp2_with fail
   refine qAc (Q77 rfl _ _ w.heap.size 113 _ (0,0) _ rfl (qAn _ _ _ _ _ _ hz) qCi rfl Q6c) rfl ⟨rfl,?_⟩;exact((mRf _ w).alloc _).drew.setRow (by simp) _
 have q1:((s[n].toNat:Int) != 61)=true:=by simp;omega
 have q2:((s[n].toNat:Int) != 126)=false:=by rw[q1]at k5;simpa using k5
 clear j0 k5;go_enter Tryz.func71,Tryz.ntmps71
 go_upto_region 6 with(first
  |(go_at_call 104;refine csm (ZL.out _) ?_)
  |(go_at_call 105;refine csm (PT.out _) ?_))
 go_region;all_goals
  go_wp2_with fail
  refine qAc (Q77 rfl _ _ w.heap.size 113 _ (0,0) _ rfl (qAn _ _ _ _ _ _ hz) qCi rfl Q6c) rfl ⟨rfl,?_⟩;exact((mRf _ w).alloc _).drew.setRow (by simp) _
theorem y6e(s:ByteArray)(w:World)(hs:s.size<=70000)(n:Nat)(hn:Q4e s 0=n)(hn0:0<n)(hok:Q5i s n=false) :
  Calls Tryz.prog 71 #[.string s] w fun e w'=>e=.returned (.tuple #[.agg (zlA false false ⟨#[]⟩ ⟨#[]⟩ (.slice none 0 0) (.slice none 0 0) 0),.bool false])/\Q0a w w':=by
 have ZL:=hid (fun w=>z2n s 0 w (by omega) (by omega));have e0:((0:Nat):Int)=0:=rfl;rw[e0,hn]at ZL;have j1:=z8n s (s.size+2) 0 (by omega) (by omega);have j0:((Q4e s 0:Nat):Int)<=s.size:=by have h:0+((Q4e s 0:Nat):Int)<=s.size:=j1;omega
 rw[hn]at j0;have hz:(w.alloc (.cells (zlA false false ⟨#[]⟩ ⟨#[]⟩ (.slice none 0 0) (.slice none 0 0) 0) 113 (0,0))).heap[w.heap.size]? = some (.cells (zlA false false ⟨#[]⟩ ⟨#[]⟩ (.slice none 0 0) (.slice none 0 0) 0) 113 (0,0)):=z0a _ _;have HZ:=hid hz;clear hz j1 hn;have k1:0<(n:Int):=by omega
 unfold Q5i at hok;by_cases h8:8<n
 ·have k2:(8:Int)<(n:Int):=by omega
  clear hok;go_enter Tryz.func71,Tryz.ntmps71
  go_wp2_with (first
   |(go_at_call 104;refine csm (ZL.out _) ?_)
   |(refine qAg rfl 113 _ _ rfl w.heap.size _ rfl rfl _ _ HZ.out Q6c rfl (z3h rfl rfl) ?_))
  refine qAc (Q77 rfl _ _ w.heap.size 113 _ (0,0) _ rfl (qAn _ _ _ _ _ _ HZ.out) qCi rfl Q6c) rfl ⟨rfl,?_⟩;exact((mRf _ w).alloc _).setRow (by simp) _
 have k2:¬(8:Int)<(n:Int):=by omega
 by_cases j2:n<s.size
 ·have hb:=z1u j2;rw[hb,qCj (by omega),qCj j2]at hok;simp only[qBm,qCb]at hok;obtain⟨c1,c2⟩:=hok;have q1:((s[n].toNat:Int) != 61)=true:=by simpa using c1
  have q2:((s[n].toNat:Int) != 126)=true:=by simpa using c2
  have j3:s[n].toNat<256:=s[n].toNat_lt;have k3:¬(s.size:Int)<=(n:Int):=by omega
  have k4:(n:Int)<(s.size:Int):=by omega
  clear hb c1 c2;go_enter Tryz.func71,Tryz.ntmps71
  go_wp2_with (first
   |(go_at_call 104;refine csm (ZL.out _) ?_)
   |(refine qAg rfl 113 _ _ rfl w.heap.size _ rfl rfl _ _ HZ.out Q6c rfl (z3h rfl rfl) ?_))
  refine qAc (Q77 rfl _ _ w.heap.size 113 _ (0,0) _ rfl (qAn _ _ _ _ _ _ HZ.out) qCi rfl Q6c) rfl ⟨rfl,?_⟩;exact((mRf _ w).alloc _).setRow (by simp) _
 have k3:(s.size:Int)<=(n:Int):=by omega
 clear hok;go_enter Tryz.func71,Tryz.ntmps71
 go_wp2_with (first
  |(go_at_call 104;refine csm (ZL.out _) ?_)
  |(refine qAg rfl 113 _ _ rfl w.heap.size _ rfl rfl _ _ HZ.out Q6c rfl (z3h rfl rfl) ?_))
 refine qAc (Q77 rfl _ _ w.heap.size 113 _ (0,0) _ rfl (qAn _ _ _ _ _ _ HZ.out) qCi rfl Q6c) rfl ⟨rfl,?_⟩;exact((mRf _ w).alloc _).setRow (by simp) _
theorem y7y(s:ByteArray){i:Int}(h0:0<=i):Q5v s i=-1∨(i<Q5v s i/\Q5v s i<=s.size):=by
 by_cases h:0<=Q5v s i
 ·right;obtain⟨m,hw,hm⟩:=y0s h0 h;have hp:=hw.pos;have j0:atB s (i+((m-1:Nat):Int))≠-1:=by
   by_cases m1:m-1=0
   ·rw[m1];intro q;have:=hw.first;simp only[qEh,qDs]at q;rw[q]at this;revert this;decide
   exact y3a (hw.rest (m-1) (by omega) (by omega))
  have:=z0r j0;omega
 left;unfold Q5v at h ⊢;split
 ·rfl
 rename_i c0;rw[qAa c0]at h;split
 ·rename_i c1;rw[qAb c1]at h;split
  ·rfl
  rename_i c2;rw[qAa c2]at h;omega
 rename_i c1;rw[qAa c1]at h;split
 ·rfl
 rename_i c2;rw[qAa c2]at h;omega
theorem y6d(s:ByteArray)(w:World)(hs:s.size<=70000)(hn:Q4e s 0=0)(hok:¬(0<=Q5v s 0/\atB s (Q5v s 0)=58)) :
  Calls Tryz.prog 71 #[.string s] w fun e w'=>e=.returned (.tuple #[.agg (zlA false false ⟨#[]⟩ ⟨#[]⟩ (.slice none 0 0) (.slice none 0 0) 0),.bool false])/\Q0a w w':=by
 have ZL:=hid (fun w=>z2n s 0 w (by omega) (by omega));have ZY:=hid (fun w=>z58 s 0 w (by omega) (by omega));have e0:((0:Nat):Int)=0:=rfl;rw[e0,hn]at ZL;rw[e0]at ZL ZY;have j0:=y7y s (i:=0) (by omega);have hz:(w.alloc (.cells (zlA false false ⟨#[]⟩ ⟨#[]⟩ (.slice none 0 0) (.slice none 0 0) 0) 113 (0,0))).heap[w.heap.size]? = some (.cells (zlA false false ⟨#[]⟩ ⟨#[]⟩ (.slice none 0 0) (.slice none 0 0) 0) 113 (0,0)):=z0a _ _;have HZ:=hid hz;clear hz hn;generalize Q5v s 0=y at ZY j0 hok;by_cases y0:y<0
 ·clear hok j0;go_enter Tryz.func71,Tryz.ntmps71
  go_wp2_with (first
   |(go_at_call 104;refine csm (ZL.out _) ?_)
   |(go_at_call 106;refine csm (ZY.out _) ?_)
   |(refine qAg rfl 113 _ _ rfl w.heap.size _ rfl rfl _ _ HZ.out Q6c rfl (z3h rfl rfl) ?_))
  refine qAc (Q77 rfl _ _ w.heap.size 113 _ (0,0) _ rfl (qAn _ _ _ _ _ _ HZ.out) qCi rfl Q6c) rfl ⟨rfl,?_⟩;exact((mRf _ w).alloc _).setRow (by simp) _
 obtain⟨j,rfl⟩:∃j:Nat,y=j:=⟨y.toNat,by omega⟩;by_cases hj:j<s.size
 ·have hb:=z1u hj;rw[hb]at hok;have q1:((s[j].toNat:Int) != 58)=true:=by
   have:¬(s[j].toNat:Int)=58:=fun q=>hok ⟨by omega,q⟩;simpa using this
  have j1:s[j].toNat<256:=s[j].toNat_lt;have k3:¬(s.size:Int)<=(j:Int):=by omega
  have k4:(j:Int)<(s.size:Int):=by omega
  clear hb hok j0;go_enter Tryz.func71,Tryz.ntmps71
  go_wp2_with (first
   |(go_at_call 104;refine csm (ZL.out _) ?_)
   |(go_at_call 106;refine csm (ZY.out _) ?_)
   |(refine qAg rfl 113 _ _ rfl w.heap.size _ rfl rfl _ _ HZ.out Q6c rfl (z3h rfl rfl) ?_))
  refine qAc (Q77 rfl _ _ w.heap.size 113 _ (0,0) _ rfl (qAn _ _ _ _ _ _ HZ.out) qCi rfl Q6c) rfl ⟨rfl,?_⟩;exact((mRf _ w).alloc _).setRow (by simp) _
 have k3:(s.size:Int)<=(j:Int):=by omega
 clear hok j0;go_enter Tryz.func71,Tryz.ntmps71
 go_wp2_with (first
  |(go_at_call 104;refine csm (ZL.out _) ?_)
  |(go_at_call 106;refine csm (ZY.out _) ?_)
  |(refine qAg rfl 113 _ _ rfl w.heap.size _ rfl rfl _ _ HZ.out Q6c rfl (z3h rfl rfl) ?_))
 refine qAc (Q77 rfl _ _ w.heap.size 113 _ (0,0) _ rfl (qAn _ _ _ _ _ _ HZ.out) qCi rfl Q6c) rfl ⟨rfl,?_⟩;exact((mRf _ w).alloc _).setRow (by simp) _
structure LnM(w wr:World)(nm:ByteArray)(a:List ByteArray)(b:List Int)(vs vp:Value):Prop where
 fresh:Q0a w wr
 res:wr.heap[w.heap.size]? = some (.cells (zlA false false ⟨#[]⟩ ⟨#[]⟩ (.slice none 0 0) (.slice none 0 0) 0) 113 (0,0))
 loc:wr.heap[w.heap.size+1]? = some (.cells (zlA false false nm ⟨#[]⟩ vs vp 0) 113 (0,0))
 os:wr.ownsRow (w.heap.size+2) 9 1 vs a.length (Q98 a)
 op:wr.ownsRow (w.heap.size+2) 3 1 vp b.length (W0b b)
 dis:∀k,vs.ownBlock=some k->vp.ownBlock=some k->False
section
variable {w wr W w1:World}{nm:ByteArray}{a:List ByteArray}{b:List Int}{vs vp v':Value}
theorem LnM.blk(h:LnM w wr nm a b vs vp)(hW:Q0a wr W){v:Value}(hv:v=vs∨v=vp)(hg:W.grownBy w1 v.ownBlock) :
  w1.heap[w.heap.size]? = some (.cells (zlA false false ⟨#[]⟩ ⟨#[]⟩ (.slice none 0 0) (.slice none 0 0) 0) 113 (0,0))/\w1.heap[w.heap.size+1]? = some (.cells (zlA false false nm ⟨#[]⟩ vs vp 0) 113 (0,0)):=by
 have h1:=hW.at h.res id;have h2:=hW.at h.loc id;have j0:∀k,v.ownBlock=some k->w.heap.size+2<=k:=by
  intro k hk;rcases hv with rfl|rfl
  ·exact(h.os.lt k hk).1
  exact(h.op.lt k hk).1
 exact⟨by rw[hg.block _ (z0j h1) (fun e=>by have:=j0 _ e.symm;omega)];exact h1,by rw[hg.block _ (z0j h2) (fun e=>by have:=j0 _ e.symm;omega)];exact h2⟩
theorem LnM.addS{x:ByteArray}(h:LnM w wr nm a b vs vp)(hW:Q0a wr W)(hown:w1.ownsRow (w.heap.size+2) 9 1 v' (a.length+1) (Q98 a++[.string x]))(hg:W.grownBy w1 vs.ownBlock)
  (hb:∀k,v'.ownBlock=some k->vs.ownBlock=some k∨W.heap.size<=k):LnM w (w1.setCell ⟨w.heap.size+1,4,none⟩ v') nm (a++[x]) b v' vp:=by
 obtain⟨k1,k2⟩:=h.blk hW (.inl rfl) hg;have hl:=hown.lt;refine⟨?_,?_,?_,?_,?_,?_⟩
 ·exact((h.fresh.trans hW).grown hg (fun k hk hlt=>by have:=h.os.lt k hk;omega)).setCell (fun q=>by dsimp only at q;omega) _
 ·exact z0h k1 (by simp)
 ·rw[zhs k2];rfl
 ·rw[qP,qAj];have e1:=qBp (f:=Value.string) (l₁:=a) (l₂:=[x]);rw[qDb]at e1;show World.ownsRow _ _ _ _ _ _ (List.map _ _);rw[e1];exact z0d hown (fun g hg'=>by rw[Proofs.YtbdpfmalabgmbaaGreat.heap_setCell_other _ (by have:=hl g hg';simp;omega)])
 ·refine z0d h.op (fun g hg'=>?_);have l2:=h.op.lt g hg';rw[Proofs.YtbdpfmalabgmbaaGreat.heap_setCell_other _ (by simp;omega),hg.block g (by have:=hW.size;omega) (fun e=>h.dis g e.symm hg'),hW.block g l2.2 id]
 intro k q1 q2;rcases hb k q1 with q|q
 ·exact h.dis k q q2
 have:=h.op.lt k q2;have:=hW.size;omega
theorem LnM.addP{x:Int}(h:LnM w wr nm a b vs vp)(hW:Q0a wr W)(hown:w1.ownsRow (w.heap.size+2) 3 1 v' (b.length+1) (W0b b++[.int .i64 x]))(hg:W.grownBy w1 vp.ownBlock)
  (hb:∀k,v'.ownBlock=some k->vp.ownBlock=some k∨W.heap.size<=k):LnM w (w1.setCell ⟨w.heap.size+1,5,none⟩ v') nm a (b++[x]) vs v':=by
 obtain⟨k1,k2⟩:=h.blk hW (.inr rfl) hg;have hl:=hown.lt;refine⟨?_,?_,?_,?_,?_,?_⟩
 ·exact((h.fresh.trans hW).grown hg (fun k hk hlt=>by have:=h.op.lt k hk;omega)).setCell (fun q=>by dsimp only at q;omega) _
 ·exact z0h k1 (by simp)
 ·rw[zhs k2];rfl
 ·refine z0d h.os (fun g hg'=>?_);have l2:=h.os.lt g hg';rw[Proofs.YtbdpfmalabgmbaaGreat.heap_setCell_other _ (by simp;omega),hg.block g (by have:=hW.size;omega) (fun e=>h.dis g hg' e.symm),hW.block g l2.2 id]
 ·rw[qP,qAj];have e1:=qBp (f:=Value.int .i64) (l₁:=b) (l₂:=[x]);rw[qDb]at e1;show World.ownsRow _ _ _ _ _ _ (List.map _ _);rw[e1];exact z0d hown (fun g hg'=>by rw[Proofs.YtbdpfmalabgmbaaGreat.heap_setCell_other _ (by have:=hl g hg';simp;omega)])
 intro k q1 q2;rcases hb k q2 with q|q
 ·exact h.dis k q1 q
 have:=h.os.lt k q1;have:=hW.size;omega
theorem LnM.ret{ok:Bool}{r:Option ZLn}(h:LnM w wr nm a b vs vp)(hr:r.isSome=ok)(hz:∀z,r=some z->z=⟨false,false,nm,⟨#[]⟩,a,b⟩){e:Ending}{w':World}(hf:w'=wr.setRow w.heap.size (zlA false false nm ⟨#[]⟩ vs vp 0))(he:e=.returned (.tuple #[.agg (zlA false false nm ⟨#[]⟩ vs vp 0),.bool ok])):ZRet w r e w':=by
 subst hf;refine⟨⟨⟨false,false,nm,⟨#[]⟩,a,b⟩,vs,vp,0⟩,by rw[hr];exact he,⟨?_,?_⟩,h.fresh.setRow (by simp) _,fun z q=>(hz z q).symm⟩
 ·exact z0g (z0d h.os (fun g hg=>qCx _ _ _ _ (by have:=h.os.lt g hg;omega))) (by omega)
 exact z0g (z0d h.op (fun g hg=>qCx _ _ _ _ (by have:=h.op.lt g hg;omega))) (by omega)
end
attribute [local go_sem ↓] z17
theorem x1l(s:ByteArray)(w:World)(hs:s.size<=70000)(hn:Q4e s 0=0)(hok:0<=Q5v s 0/\atB s (Q5v s 0)=58) :
  Calls Tryz.prog 71 #[.string s] w fun e w'=>ZRet w ((Q5b s (s.size+5) (Q5v s 0+1) [] []).map (fun l=>⟨false,false,s.extract 0 (Q5v s 0).toNat,⟨#[]⟩,l.1,l.2⟩)) e w':=by
 have ZL:=hid (fun w=>z2n s 0 w (by omega) (by omega));have ZY:=hid (fun w=>z58 s 0 w (by omega) (by omega));have ZS:=hid (fun(i:Nat) (w:World) (hi:i<=s.size)=>z58 s (i+1) w (by omega) (by omega));have e0:((0:Nat):Int)=0:=rfl;rw[e0,hn]at ZL;rw[e0]at ZL ZY;clear e0;have jh:=y7y s (i:=0) (by omega);have BD:=hid (fun(i:Nat)=>y7y s (i:=((i+1:Nat):Int)) (by omega));obtain⟨i0,jp,k9,ka,kb⟩:=Q8x;obtain⟨i1,jq,jz,k0,k8⟩:=Q6z;have hz:∀o:Obj,((w.alloc (.cells (zlA false false ⟨#[]⟩ ⟨#[]⟩ (.slice none 0 0) (.slice none 0 0) 0) 113 (0,0))).alloc o).heap[w.heap.size]? = some (.cells (zlA false false ⟨#[]⟩ ⟨#[]⟩ (.slice none 0 0) (.slice none 0 0) 0) 113 (0,0)):=fun o=>qBg _ _ _;have HZ:=hid hz;clear hz hn;generalize Q5v s 0=y at ZY jh hok;obtain⟨y0,j9⟩:=hok;obtain⟨j,rfl⟩:∃j:Nat,y=j:=⟨y.toNat,by omega⟩;have hj:j<s.size:=by
  have:=z0r (s:=s) (i:=(j:Int)) (by omega);omega
 have hb:=z1u hj;rw[hb]at j9;have q1:((s[j].toNat:Int) != 58)=false:=by simp[j9]
 have jl:s[j].toNat<256:=s[j].toNat_lt;have k3:¬(s.size:Int)<=(j:Int):=by omega
 have k4:(j:Int)<(s.size:Int):=by omega
 have k5:decide (s.size<=j)=false:=by simpa using hj
 have k6:decide ((j:Int)<0)=false:=by simp
 have ej:((j:Int)).toNat=j:=by omega
 rw[ej];generalize hnm:s.extract 0 j=nm;have jb:=hid hnm;generalize hR:Q5b s (s.size+5) ((j:Int)+1) [] []=R;have HR:=hid hR;clear hb jh j9 hR hnm ej;go_enter Tryz.func71,Tryz.ntmps71
 go_wp2_with (first
  |(go_at_call 104;refine csm (ZL.out _) ?_)
  |(go_at_call 106;refine csm (ZY.out _) ?_)
  |(refine z0e rfl 113 _ _ rfl (w.alloc (.cells (zlA false false ⟨#[]⟩ ⟨#[]⟩ (.slice none 0 0) (.slice none 0 0) 0) 113 (0,0))) _ _ _ rfl rfl rfl Q6c rfl (z3h rfl rfl) ?_))
 go_loopw [6,8] (fun x6 _ wr=>∃(f i:Nat) (a:List ByteArray) (b:List Int) (vs vp:Value),x6=.int .i64 i/\Q5b s f i a b=R/\s.size+2<=f+i/\i<=s.size/\a.length<=i/\b.length<=i/\LnM w wr nm a b vs vp)
   (fun x _ _=>80000-(intOf x).toNat)
 case atStart =>
  refine⟨s.size+5,j+1,[],[],.slice none 0 0,.slice none 0 0,by go_num,HR.out,by omega,by omega,by simp,by simp,?_⟩;rw[jb.out];exact⟨((mRf _ w).alloc _).alloc _,HZ.out _,qBa _ _ _,qAh _ _ _ _,qAh _ _ _ _,fun k q=>by simp[Value.ownBlock]at q⟩
 obtain⟨f,i,a,b,vs,vp,rfl,hR,ke,hi,kd,jm,hM⟩:=hrel;clear HR jb HZ q1;obtain⟨f,rfl⟩:∃g,f=g+1:=⟨f-1,by omega⟩;rw[z6z]at hR;have HM:=hid hM;obtain⟨je,jg,jy⟩:=z0c hM.os;obtain⟨jd,jf,jx⟩:=z0c hM.op;have ji:=Q0b hM.loc 4;have kc:=Q0f hM.loc 4;have kf:=hM.fresh.size;have js:=z0j hM.loc;clear hM;subst jy jx;simp at ji;by_cases jr:i<s.size
 ·have hb:=z1u jr;have jl:s[i].toNat<256:=s[i].toNat_lt;have k4:(i:Int)<(s.size:Int):=by omega
  rw[qAb k4,hb]at hR;clear hb;by_cases j4:(s[i].toNat:Int)=32
  ·rw[qAb j4]at hR;have q1:((s[i].toNat:Int) != 32)=false:=by simp[j4]
   have ZX:=hid (fun w=>ZS.out i w hi);have bd:=BD.out i;have ei:((i+1:Nat):Int)=(i:Int)+1:=by omega
   rw[ei]at ZX bd;clear ei;generalize Q5v s ((i:Int)+1)=y at ZX bd hR;clear j4;by_cases y0:y<0
   ·rw[qAb y0]at hR;have j3:=hid hR;clear hR bd;go_wp2_with (first
     |(go_at_call 106;refine csm (ZX.out _) ?_)
     |(refine qAf rfl 113 _ rfl (w.heap.size+1) rfl _ _ _ _ HM.loc qCi rfl Q6c ?_)
     |(refine qAg rfl 113 _ _ rfl w.heap.size _ rfl rfl _ _ HM.res Q6c rfl (z3h rfl rfl) ?_))
    refine qAc (Q77 rfl _ _ w.heap.size 113 _ (0,0) _ rfl (qAn _ _ _ _ _ _ HM.res) qCi rfl Q6c) rfl ?_;rw[← j3.out];exact HM.ret (ok:=false) rfl (fun z q=>by cases q) rfl rfl
   obtain⟨n,rfl⟩:∃n:Nat,y=n:=⟨y.toNat,by omega⟩;rw[qAa y0]at hR;have e1:((i:Int)+1).toNat=i+1:=by omega
   have e2:((n:Int)).toNat=n:=by omega
   rw[e1,e2]at hR;have b1:i+1<n:=by omega
   have b2:n<=s.size:=by omega
   have j3:=hid hR;clear hR bd e1 e2;have b3:(i:Int)+1<=(n:Int):=by omega
   have b4:(n:Int)<=(s.size:Int):=by omega
   go_upto_region 18 with(first
    |(go_at_call 106;refine csm (ZX.out _) ?_))
   obtain⟨v',w2,j8,j1,j0,j2⟩:=z24 (P:=Tryz.prog) (wr.alloc (.cells #[.string (s.extract (i+1) n)] 9)).drew (w.heap.size+2) 108 108 9 i0 _ 1 16 Tryz.underlying108 jp k9 ka kb rfl (by decide) (.slice je a.length jg) a.length (Q98 a) (HM.os.alloc _) ⟨wr.heap.size,0,none⟩ 1 1 [.string (s.extract (i+1) n)] rfl (z0m rfl) (by intro u hu;simp at hu;subst hu;rfl) (by unfold maxLen;omega) (by omega) (by simp[World.drew];omega);obtain⟨a',jk,jv⟩:=z0c j1;have j7:=HM.blk (((mRf _ wr).alloc _).drew) (.inl rfl) j0;have jn:w2.cell? ⟨w.heap.size+1,4,none⟩=some (.slice je a.length jg):=(Q0b j7.2 4);have jo:=Q0f j7.2 4;have jc:=hid j1;have ja:=hid j0;clear j1 j0 j7;subst jv;go_region;all_goals
    have M1:=HM.addS (x:=s.extract (i+1) n) (((mRf _ wr).alloc _).drew) jc.out ja.out j2;generalize hWW:w2.setCell _ _=W1 at M1 ⊢;have j5:=hid M1;have k1:=Q0b M1.loc 5;have k2:=Q0f M1.loc 5;have jt:=z0j M1.loc;have ju:=M1.fresh.size;clear hWW jc ja j2 jn jo j8 M1 HM ji kc;simp at k1;go_wp2_with (first
     |(at_builtin;refine z0f _ rfl _ _ 24 rfl (w.heap.size+2) 3 i1 _ 1 8 qDq jq jz k0 k8 rfl (by decide) (.slice jd b.length jf) b.length (W0b b) rfl (j5.op.alloc _) ⟨W1.heap.size,0,none⟩ 1 1 [.int .i64 ((i:Int)+1)] rfl rfl (z0m rfl) (by intro u hu;simp at hu;subst hu;rfl) (by unfold maxLen;omega) (by omega) (by simp;omega) ?_;intro v9 w4 j1 j0 j2;obtain⟨a9,c9,jw⟩:=z0c j1;have j6:=(j5.blk ((mRf _ W1).alloc _) (.inr rfl) j0).2;have k6:w4.cell? ⟨w.heap.size+1,5,none⟩=some (.slice jd b.length jf):=Q0b j6 5;have k7:=Q0f j6 5;have M2:=j5.addP (x:=(i:Int)+1) ((mRf _ W1).alloc _) j1 j0 (by simpa using j2);have jj:=hid M2;clear j1 j0 j2 M2 j6;subst jw))
    go_roundw
    case rel =>
     refine⟨f,n,_,_,_,_,rfl,j3.out,by omega,by omega,?_,?_,jj.out⟩
     ·simp;omega
     simp;omega
    simp[intOf];omega
  rw[qAa j4]at hR;have q1:((s[i].toNat:Int) != 32)=true:=by simpa using j4
  have j3:=hid hR;clear hR j4;go_wp2_with (first
   |(refine qAf rfl 113 _ rfl (w.heap.size+1) rfl _ _ _ _ HM.loc qCi rfl Q6c ?_)
   |(refine qAg rfl 113 _ _ rfl w.heap.size _ rfl rfl _ _ HM.res Q6c rfl (z3h rfl rfl) ?_))
  refine qAc (Q77 rfl _ _ w.heap.size 113 _ (0,0) _ rfl (qAn _ _ _ _ _ _ HM.res) qCi rfl Q6c) rfl ?_;rw[← j3.out];exact HM.ret (ok:=false) rfl (fun z q=>by cases q) rfl rfl
 have k4:¬(i:Int)<(s.size:Int):=by omega
 rw[qAa k4]at hR;have j3:=hid hR;clear hR;go_wp2_with (first
  |(refine qAf rfl 113 _ rfl (w.heap.size+1) rfl _ _ _ _ HM.loc qCi rfl Q6c ?_)
  |(refine qAg rfl 113 _ _ rfl w.heap.size _ rfl rfl _ _ HM.res Q6c rfl (z3h rfl rfl) ?_))
 refine qAc (Q77 rfl _ _ w.heap.size 113 _ (0,0) _ rfl (qAn _ _ _ _ _ _ HM.res) qCi rfl Q6c) rfl ?_;rw[← j3.out];exact HM.ret (ok:=true) rfl (fun z q=>by simpa using q.symm) rfl rfl
theorem y6c(s:ByteArray)(w:World)(hs:s.size<=70000):Calls Tryz.prog 71 #[.string s] w fun e w'=>ZRet w (Q40 s) e w':=by
 unfold Q40;by_cases c0:0<Q4e s 0
 ·rw[qAb c0];cases hok:Q5i s (Q4e s 0)
  ·refine(y6e s w hs _ rfl c0 hok).mono ?_;rintro e w'⟨rfl,hf⟩;rw[qAa (by simp)];exact⟨⟨noZL,nilS,nilS,0⟩,rfl,y85 _ _ _ rfl rfl rfl rfl,hf,fun z q=>by cases q⟩
  refine(x1m s w hs _ rfl c0 hok).mono ?_;rintro e w'⟨rfl,hf⟩;by_cases c1:zpK s 6 ((Q4e s 0:Nat)+1)=s.size
  ·rw[qAb ⟨rfl,c1⟩,c1];refine⟨⟨⟨true,atB s (Q4e s 0)==126,s.extract 0 (Q4e s 0),s.extract (Q4e s 0+1) s.size,[],[]⟩,nilS,nilS,0⟩,?_,y85 _ _ _ rfl rfl rfl rfl,hf,fun z q=>by simpa using q⟩;simp[ZLV.cells]
  rw[qAa (fun q=>c1 q.2)];refine⟨⟨⟨true,atB s (Q4e s 0)==126,s.extract 0 (Q4e s 0),s.extract (Q4e s 0+1) s.size,[],[]⟩,nilS,nilS,0⟩,?_,y85 _ _ _ rfl rfl rfl rfl,hf,fun z q=>by cases q⟩;have:(zpK s 6 ((Q4e s 0:Nat)+1)==(s.size:Int))=false:=by simpa using c1
  rw[this];simp[ZLV.cells]
 rw[qAa c0];by_cases c1:0<=Q5v s 0/\atB s (Q5v s 0)=58
 ·rw[qAb c1];exact x1l s w hs (by omega) c1
 rw[qAa c1];refine(y6d s w hs (by omega) c1).mono ?_;rintro e w'⟨rfl,hf⟩;exact⟨⟨noZL,nilS,nilS,0⟩,rfl,y85 _ _ _ rfl rfl rfl rfl,hf,fun z q=>by cases q⟩
def ways:List ByteArray:=[⟨#[]⟩,⟨#[97]⟩,⟨#[97,61,97]⟩,⟨#[61,97]⟩,⟨#[58]⟩,⟨#[93]⟩,⟨#[97,93]⟩,⟨#[126,93]⟩,⟨#[126]⟩]
def Q4r(t:ByteArray):Nat->ByteArray
 |0=>t
 |k+1=>Q4r t k++⟨#[41]⟩
theorem z81(t:ByteArray):∀k,(Q4r t k).size=t.size+k
 |0=>rfl
 |k+1=>by rw[Q4r,ByteArray.size_append,z81 t k];rfl
def Q9d(s:ByteArray):Bool:=ways.any fun v=>(List.range 7).any fun k=>(Q40 (Q4r (s++v) k)).isSome
theorem x5q:∀v∈ways,v.size<=3:=by decide
theorem v1u{j:Nat}(hj:j<9):(ways[j]'hj).size<=3:=x5q _ (qG _)
theorem x6n(s:ByteArray)(w:World)(hs:s.size<=1000):Calls Tryz.prog 107 #[.string s] w fun e w'=>e=.returned (.bool (Q9d s))/\Q0a w w':=by
 have ZL:=hid (fun(t:ByteArray) (w:World) (h:t.size<=70000)=>y6c t w h);go_enter Tryz.func107,Tryz.ntmps107
 go_wp2;go_loopw [4] (fun x4 wr=>∃i:Nat,x4=.int .i64 i/\i<=9/\wr.heap[w.heap.size]? = some (.cells (Q98 ways).toArray 9 (0,0))/\Q0a w wr/\∀(j:Nat) (hj:j<9),j<i->∀k:Nat,k<7->(Q40 (Q4r (s++ways[j]'hj) k)).isSome=false)
   (fun x _=>10-(intOf x).toNat)
 case atStart=>exact⟨0,rfl,by omega,z0a _ _,(mRf _ w).alloc _,fun j _ h=>by omega⟩
 obtain⟨i,rfl,hi,j0,j4,j2⟩:=hrel;have HB:=hid j0;have HF:=hid j4;have HA:=hid j2;have j1:=fun o=>Q0b j0 o;clear j0 j4 j2;by_cases j8:i<9
 ·have k1:(i:Int)<9:=by omega
  have hc:wr.cell? ⟨w.heap.size,i,none⟩=some (.string (ways[i]'hi9)):=by
   rw[j1 i];have:i<(Q98 ways).length:=by simp[ways];omega
   rw[qDp,qBt,qE (show i<ways.length from j8)];rfl
  have hv:=v1u j8;generalize hvv:ways[i]'hi9=v at hc hv;have HV:=hid hvv;clear hvv j1;generalize hw0:wr=w0 at HB HF hc;go_wp2;go_loopw [5,6] (fun x5 x6 wr=>∃k:Nat,x6=.int .i64 k/\k<=7/\x5=.string (Q4r (s++v) k)/\wr.heap[w.heap.size]? = some (.cells (Q98 ways).toArray 9 (0,0))/\Q0a w wr/\∀k':Nat,k'<k->(Q40 (Q4r (s++v) k')).isSome=false)
    (fun _ x _=>8-(intOf x).toNat)
  case atStart=>exact⟨0,rfl,by omega,rfl,HB.out,HF.out,fun k' h=>by omega⟩
  obtain⟨k,rfl,hk,rfl,j0,j4,j9⟩:=hrel;have HB:=hid j0;have HF:=hid j4;have HN:=hid j9;clear j0 j4 j9;by_cases jb:k<7
  ·have k2:(k:Int)<=6:=by omega
   have ja:(Q4r (s++v) k).size<=70000:=by rw[z81,ByteArray.size_append];omega
   have ZX:=hid (fun w=>ZL.out (Q4r (s++v) k) w ja);have HC:Hid (Q4r (s++v) (k+1)=Q4r (s++v) k++⟨#[41]⟩):=rfl;have HG:Hid ((Q40 (Q4r (s++v) k)).isSome=true->Q9d s=true):=fun h=>by
    unfold Q9d;rw[qBb];refine⟨v,by rw[← HV.out];exact qG _,?_⟩;rw[qBb];exact⟨k,by simpa using jb,h⟩
   have j7:Hid ((Q40 (Q4r (s++v) k)).isSome=false->∀k':Nat,k'<k+1->(Q40 (Q4r (s++v) k')).isSome=false):=fun h k' hk'=>by
    by_cases q:k'=k
    ·rw[q];exact h
    exact HN.out k' (by omega)
   generalize Q4r (s++v) k=tk at ZX HC HG j7 ja;generalize Q40 tk=zt at ZX HG j7;cases hz:zt with
   |some z =>
    subst hz;go_wp2_with (first
     |(go_at_call 71;refine(ZX.out _).mono ?_;rintro e w1⟨x,he,hA,j3,hx⟩;rw[Option.isSome_some]at he;subst he;have j5:=hid j3;have j6:=hid hA;clear j3 hA hx)
     |(refine z0e rfl 113 _ _ rfl w1 _ _ _ rfl rfl rfl Q6c rfl j6.one ?_))
    go_ret;exact⟨by rw[HG.out rfl];rfl,(HF.trans j5.out).alloc _⟩
   |none =>
    subst hz;go_wp2_with (first
     |(go_at_call 71;refine(ZX.out _).mono ?_;rintro e w1⟨x,he,hA,j3,hx⟩;rw[Option.isSome_none]at he;subst he;have j5:=hid j3;have j6:=hid hA;clear j3 hA hx)
     |(refine z0e rfl 113 _ _ rfl w1 _ _ _ rfl rfl rfl Q6c rfl j6.one ?_))
    go_roundw
    case rel =>
     refine⟨k+1,by go_num,by omega,by rw[HC.out],?_,(HF.trans j5.out).alloc _,j7.out rfl⟩;have h1:=j5.at HB.out id;rw[z0s (z0j h1)];exact h1
    simp[intOf];omega
  have k2:¬(k:Int)<=6:=by omega
  go_wp2;go_roundw
  case rel =>
   refine⟨i+1,by go_num,by omega,HB.out,HF.out,fun j hj hji k' hk'=>?_⟩;by_cases q:j=i
   ·subst q;rw[HV.out];exact HN.out k' (by omega)
   exact HA.out j hj (by omega) k' hk'
  simp[intOf];omega
 have k1:¬(i:Int)<9:=by omega
 go_wp2;go_ret;refine⟨z0w ?_,HF.out⟩;symm;cases hg:Q9d s
 ·rfl
 exfalso;unfold Q9d at hg;rw[qBb]at hg;obtain⟨v,hv,hg⟩:=hg;rw[qBb]at hg;obtain⟨k,hk,hg⟩:=hg;obtain⟨j,hj,rfl⟩:=qBf hv;have h9:j<9:=hj;have:=HA.out j h9 (by omega) k (by simpa using hk);have q:=this.symm.trans hg;cases q
def Q7b(s:ByteArray)(a n:Nat):Nat->Nat->Nat
 |0,k=>k
 |f+1,k=>if k<n then(if Q9d (s.extract a (k+1))=true then Q7b s a n f (k+1) else k) else n
def Q5p(s:ByteArray)(a n:Nat):Nat:=Q7b s a n (n+1) a
theorem x5e(s:ByteArray)(a n f k:Nat):Q7b s a n (f+1) k=if k<n then(if Q9d (s.extract a (k+1))=true then Q7b s a n f (k+1) else k) else n:=rfl
theorem x1a(s:ByteArray)(a n:Nat)(w:World)(hs:s.size<=1000)(ha:a<=n)(hn:n<=s.size):Calls Tryz.prog 72 #[.string s,.int .i64 a,.int .i64 n] w fun e w'=>e=.returned (.int .i64 (Q5p s a n:Nat))/\Q0a w w':=by
 generalize hV:Q5p s a n=V;have HV:Hid (Q7b s a n (n+1) a=V):=hV;have GO:=hid (fun(t:ByteArray) (w:World) (h:t.size<=1000)=>x6n t w h);clear hV;go_enter Tryz.func72,Tryz.ntmps72
 go_wp2;go_loopw [7] (fun x7 wr=>∃(k f:Nat),x7=.int .i64 k/\a<=k/\k<=n/\n+1<=f+k/\Q7b s a n f k=V/\Q0a w wr)
   (fun x _=>2000-(intOf x).toNat)
 case atStart=>exact⟨a,n+1,rfl,by omega,ha,by omega,HV.out,mRf _ _⟩
 obtain⟨k,f,rfl,j3,j4,hf,j0,j2⟩:=hrel;obtain⟨f,rfl⟩:∃g,f=g+1:=⟨f-1,by omega⟩;rw[x5e]at j0;have HF:=hid j2;clear HV j2;by_cases hk:k<n
 ·rw[qAb hk]at j0;have k1:(k:Int)<(n:Int):=by omega
  have GX:=hid (fun w=>GO.out (s.extract a (k+1)) w (by rw[qBl];omega));generalize Q9d (s.extract a (k+1))=g at GX j0;have b1:(a:Int)<=(k:Int)+1:=by omega
  have b2:(k:Int)+1<=(s.size:Int):=by omega
  cases g
  ·rw[qAa (by simp)]at j0;have HR:=hid j0;clear j0;go_wp2_with (first
    |(go_at_call 107;refine(GX.out _).mono ?_;rintro e w1⟨rfl,j1⟩))
   go_ret;exact⟨by rw[← HR.out];rfl,HF.trans j1⟩
  rw[qAb rfl]at j0;have HR:=hid j0;clear j0;go_wp2_with (first
   |(go_at_call 107;refine(GX.out _).mono ?_;rintro e w1⟨rfl,j1⟩))
  go_roundw
  case rel=>exact⟨k+1,f,by go_num,by omega,by omega,by omega,HR.out,HF.trans j1⟩
  simp[intOf];omega
 rw[qAa hk]at j0;have k1:¬(k:Int)<(n:Int):=by omega
 have HR:=hid j0;clear j0;go_wp2;go_ret;exact⟨by rw[← HR.out];rfl,HF.out⟩
end Go.Proofs.YtbdpfmalabgmbaaGreat
