import Derived.Test.YtcpceafmlgaodaaGreatSg4
import Derived.Deep.DeepCutAuto
import Derived.BigRegion
namespace Go.Proofs.YtcpceafmlgaodaaGreat
open Go.RowKit
set_option maxRecDepth 99999
set_option maxHeartbeats 0
set_option linter.all false
structure Q7v(w0 w:World)(cb gs cap b:Nat)(vs:List Value)(L:List (List Itm)):Prop where
 fr:Q0a w0 w
 c:w.heap[cb]? = some (.cells #[.pointer (some ⟨b,0,none⟩),.slice (some ⟨gs,0,none⟩) vs.length cap] 160 (0,0))
 cB:w0.heap.size<=cb
 gB:w0.heap.size<=gs
 ne:gs≠cb
 row:w.ownsRow 0 164 1 (.slice (some ⟨gs,0,none⟩) vs.length cap) vs.length vs
 len:vs.length=L.length
 each:∀(k:Nat) (v:Value) (X:List Itm),vs[k]? = some v->L[k]? = some X->ItsAt w v X
 low:∀(k:Nat) (v:Value) (g:Nat),vs[k]? = some v->v.ownBlock=some g->w0.heap.size<=g/\g≠cb/\g≠gs
 sep:∀(j k:Nat) (v u:Value) (g:Nat),vs[j]? = some v->vs[k]? = some u->v.ownBlock=some g->u.ownBlock=some g->j=k
section
variable {w0 w w':World}{cb gs cap b:Nat}{vs:List Value}{L:List (List Itm)}
theorem Q7v.fresh(h:Q7v w0 w cb gs cap b vs L)(hf:Q0a w w'):Q7v w0 w' cb gs cap b vs L :=
 ⟨h.fr.trans hf,by rw[hf.block cb (z0j h.c) (fun x=>x)];exact h.c,h.cB,h.gB,h.ne,z0c h.row (fun g hg=>hf.block g (h.row.lt g hg).2 (fun x=>x)),h.len,fun k v X h1 h2=>(h.each k v X h1 h2).fresh hf,h.low,h.sep⟩
theorem Q7v.x(h:Q7v w0 w cb gs cap b vs L):w.cell? ⟨cb,0,none⟩=some (.pointer (some ⟨b,0,none⟩)):=by rw[Q0b h.c 0];rfl
theorem Q7v.s(h:Q7v w0 w cb gs cap b vs L):w.cell? ⟨cb,1,none⟩=some (.slice (some ⟨gs,0,none⟩) vs.length cap):=by rw[Q0b h.c 1];rfl
theorem Q7v.at(h:Q7v w0 w cb gs cap b vs L){k:Nat}{v:Value}(hk:vs[k]? = some v):w.cell? ⟨gs,k,none⟩=some v:=by
 obtain⟨h1,h2⟩:=h.row;rcases h2 with⟨e,_⟩|⟨g,cp,cur,e,_,hg,_,_,hs,ht⟩
 ·cases e
 rw[qI]at e;obtain⟨e1,_,_⟩:=e;cases e1;rw[Q0b hg k];have j0:=(qS hk).1;have:=qDn (·[k]?) ht;simp only[Nat.mul_one,List.getElem?_take]at this;rw[qAb j0,hk]at this;simpa using this
theorem Q5x{α:Type}{l:List α}{n k:Nat}{a u:α}(h:(l.set n a)[k]? = some u):(k=n/\u=a)∨(k≠n/\l[k]? = some u):=by
 rw[qBy]at h;split at h
 ·rename_i e;split at h
  ·rw[qO]at h;exact .inl ⟨e.symm,h.symm⟩
  cases h
 rename_i e;exact .inr ⟨fun x=>e x.symm,h⟩
theorem Q7v.put(h:Q7v w0 w cb gs cap b vs L){n:Nat}{v v':Value}{X:List Itm}{m:Itm}(hn:vs[n]? = some v)(hX:L[n]? = some X){W w2:World}(hf:Q0a w W)
  (ho:w2.ownsRow 0 163 3 v' (X.length+1) (Q00 Itm.cells X++m.cells)) (hg:W.grownBy w2 v.ownBlock) (hb:∀k,v'.ownBlock=some k->v.ownBlock=some k∨W.heap.size<=k) :
  Q7v w0 (w2.setCell ⟨gs,n,none⟩ v') cb gs cap b (vs.set n v') (L.set n (X++[m])):=by
 have j2:gs<w.heap.size:=(h.row.lt gs rfl).2;have j1:cb<w.heap.size:=z0j h.c;have j7:=hf.size;have j6:=hg.size;have keep:∀x,x<w.heap.size->v.ownBlock≠some x->w2.heap[x]? = w.heap[x]? := fun x hx hne=>(hg.block x (by omega) (fun e=>hne e.symm)).trans (hf.block x hx (fun q=>q));have j5:v.ownBlock≠some gs:=fun e=>(h.low n v gs hn e).2.2 rfl;have j4:v.ownBlock≠some cb:=fun e=>(h.low n v cb hn e).2.1 rfl;have j0:∀g,v'.ownBlock=some g->w0.heap.size<=g/\g≠cb/\g≠gs:=fun g e=>by
  rcases hb g e with q|q
  ·exact h.low n v g hn q
  have:=h.fr.size;exact⟨by omega,by omega,by omega⟩
 have F:Q0a w0 w2:=⟨hg.os.trans (hf.os.trans h.fr.os),hg.tape.trans (hf.tape.trans h.fr.tape),hg.output.trans (hf.output.trans h.fr.output),by have:=h.fr.size;omega,fun x hx _=>by
  rw[keep x (by have:=h.fr.size;omega) (fun e=>by have:=(h.low n v x hn e).1;omega)];exact h.fr.block x hx (fun q=>q)⟩
 have j3:n<vs.length:=(qS hn).1;refine⟨F.setCell (p:=⟨gs,n,none⟩) (fun hlt=>absurd hlt (by have:=h.gB;dsimp only;omega)) v',?_,h.cB,h.gB,h.ne,?_,?_,fun k u Y h1 h2=>?_,fun k u g h1 h2=>?_,fun j k u u' g h1 h2 h3 h4=>?_⟩
 ·rw[qBd];exact z0i (by rw[keep cb j1 j4];exact h.c) (fun e=>h.ne e.symm)
 ·rw[qBd];exact z4p (z0c h.row (fun g e=>by cases e;exact keep gs j2 j5)) rfl n v' j3
 ·rw[qBd,qBd];exact h.len
 ·rcases Q5x h1 with⟨e1,e2⟩|⟨e1,e2⟩
  ·subst e1 e2;rcases Q5x h2 with⟨_,e3⟩|⟨e3,_⟩
   ·subst e3;refine⟨?_,fun x _=>rfl⟩;rw[qP,qAf,z0y];exact z0c ho (fun g e=>heap_setCell_other _ (j0 g e).2.2)
   exact absurd rfl e3
  rcases Q5x h2 with⟨e3,_⟩|⟨_,e3⟩
  ·exact absurd e3 e1
  have hE:=h.each k u Y e2 e3;refine⟨z0c hE.own (fun g e=>?_),hE.wf⟩;rw[heap_setCell_other _ (h.low k u g e2 e).2.2];exact keep g (hE.own.lt g e).2 (fun q=>e1 (h.sep k n u v g e2 hn e q))
 ·rcases Q5x h1 with⟨e1,e2⟩|⟨e1,e2⟩
  ·subst e2;exact j0 g h2
  exact h.low k u g e2 h2
 have old:∀(j:Nat) (u:Value),j≠n->vs[j]? = some u->u.ownBlock=some g->v'.ownBlock=some g->False:=fun j u hj hu h3 h4=>by
  rcases hb g h4 with q|q
  ·exact hj (h.sep j n u v g hu hn h3 q)
  have hl:j<L.length:=by rw[← h.len];exact(qS hu).1
  have:=((h.each j u _ hu (qE hl)).own.lt g h3).2;omega
 rcases Q5x h1 with⟨e1,e2⟩|⟨e1,e2⟩<;>rcases Q5x h2 with⟨e3,e4⟩|⟨e3,e4⟩
 ·rw[e1,e3]
 ·exact(old k u' e3 e4 h4 (e2▸h3)).elim
 ·exact(old j u e1 e2 h3 (e4▸h4)).elim
 exact h.sep j k u u' g e2 e4 h3 h4
end
theorem infoIt:(Tryz.prog.info? 163).map (fun i=>(i.zero,i.size,i.bytes))=some (some (.agg (itA 0 0 0)),3,24):=by kernel_rfl
theorem infoIt':∃i,Tryz.prog.info? 163=some i/\i.zero=some (.agg (itA 0 0 0))/\i.size=3/\i.bytes=24:=nfoE infoIt
def ChG(w0 w:World)(cb gs cap b:Nat)(L:List (List Itm)):Prop:=∃vs,Q7v w0 w cb gs cap b vs L
theorem ChG.fresh{w0 w w':World}{cb gs cap b:Nat}{L:List (List Itm)}(h:ChG w0 w cb gs cap b L)(hf:Q0a w w'):ChG w0 w' cb gs cap b L:=by
 obtain⟨vs,h⟩:=h;exact⟨vs,h.fresh hf⟩
theorem Q7v.fz{w0 w:World}{cb gs cap b:Nat}{vs:List Value}{L:List (List Itm)}(h:Q7v w0 w cb gs cap b vs L)(k:Nat):w.frozen? ⟨gs,k,none⟩=false:=by
 obtain⟨h1,h2⟩:=h.row;rcases h2 with⟨e,_⟩|⟨g,cp,cur,e,_,hg,_,_,hs,ht⟩
 ·cases e
 rw[qI]at e;obtain⟨e1,_,_⟩:=e;cases e1;exact Q0g hg k
theorem ChG.set{w0 w:World}{cb gs cap b:Nat}{P:List (List Itm)}{X:List Itm}(h:ChG w0 w cb gs cap b (P++[X])){s:Nat}(hs:s<=P.length):∃vs a c,Q7v w0 w cb gs cap b vs (P++[X])/\vs.length=P.length+1/\vs[s]? = some (.slice a (atS P X s).length c)/\ItsAt w (.slice a (atS P X s).length c) (atS P X s):=by
 obtain⟨vs,h⟩:=h;have hl:vs.length=P.length+1:=by rw[h.len];simp
 have hk:s<vs.length:=by omega
 have hI:=h.each s vs[s] (atS P X s) (qE hk) (x1f hs);obtain⟨a,c,e⟩:=z0d hI.own;refine⟨vs,a,c,h,hl,?_,?_⟩
 ·rw[qE hk,e]
 rw[← e];exact hI
attribute [local go_sem ↓] z5h z13
theorem y1v(w0 w:World)(cb gs cap b:Nat)(P:List (List Itm))(X:List Itm)(m:Itm)(h:ChG w0 w cb gs cap b (P++[X]))(hP:P.length<=1000)(hX:X.length<=10000) :
  Calls Tryz.prog 71 #[.pointer (some ⟨cb,0,none⟩),.agg (itA m.p m.d m.f)] w fun e w'=>e=.returned (.bool (!inI X m))/\ChG w0 w' cb gs cap b (P++[Q8m X m]):=by
 obtain⟨i0,hi0,hz0,hz1,hz2⟩:=infoIt';obtain⟨vs,a,c,hC,hl,hv,hI⟩:=h.set (qR _);rw[z2h]at hv hI;have HC:=hid hC;have HI:=hid hI;have HV:=hid hv;have HN:=hid (Q9x w m 163);have j1:Q0a w (w.alloc (.cells (itA m.p m.d m.f) 163 (0,0))):=(mRf _ w).alloc _;have j2:=hid j1;have k1:=(hC.fresh j1).s;have k2:=(hC.fresh j1).at hv;have jc:cb<w.heap.size:=z0j hC.c;have jf:gs<w.heap.size:=(hC.row.lt gs rfl).2;have IN:=hid (fun W (hW:Q0a w W)=>v1g W _ X m (hI.fresh hW) (by omega));generalize hp:P.length=p at hl hv k2 HV hP;have j4:=hid hp;have j9:((vs.length:Nat):Int)=(p:Int)+1:=by omega
 rw[show vs.length=p+1 from hl]at k1;have l1:(ldI (.pointer (some ⟨w.heap.size,0,none⟩))).run Tryz.prog (w.alloc (.cells (itA m.p m.d m.f) 163 (0,0))).drew=.ok (.agg (itA m.p m.d m.f)) (w.alloc (.cells (itA m.p m.d m.f) 163 (0,0))).drew:=z3a HN.out;have ji:IntKind.i64.wrap ((p:Int)+1-1)=(p:Int):=by rw[IntKind.wrap_i64];omega
 have jj:IntKind.i64.wrap (((p+1:Nat):Int)-1)=(p:Int):=by rw[IntKind.wrap_i64];omega
 have s1:(p:Int)<((p+1:Nat):Int):=by omega
 clear hC hI hv h j9 hp hl j1;go_enter Tryz.func71,Tryz.ntmps71
 go_upto_region 2 with fail
 go_cut [6] (fun s6 wx=>s6=.bool (inI X m)/\Q0a (w.alloc (.cells (itA m.p m.d m.f) 163 (0,0))) wx)
 case first =>
  go_region_with (first
   |(go_at_call 95;refine(IN.out _ j2.drew).mono ?_;rintro e w3⟨rfl,hf3⟩))
  all_goals
   go_wp2_with fail
   go_meet;exact⟨rfl,((mRf _ _).drew).trans hf3⟩
 obtain⟨rfl,hfx⟩:=hcut;have j3:=hid (j2.trans hfx);have j0:wc.rangeAt w.heap.size 0 m.cells:=fun j v hj=>Q0i hfx (HN.out j v hj);have jh:w.heap.size<wc.heap.size:=z0j (hfx.at (z0a w _) (fun x=>x));have l2:(ldI (.pointer (some ⟨w.heap.size,0,none⟩))).run Tryz.prog wc.drew=.ok (.agg (itA m.p m.d m.f)) wc.drew:=z3a j0;clear l1 k1 k2 IN hfx j0 HN j2;have hC:=HC.fresh j3.out;have jd:cb<wc.heap.size:=by omega
 have jg:gs<wc.heap.size:=by omega
 have s2:(p:Int)<(p:Int)+1:=by omega
 have k1:=hC.s;have k2:=hC.at HV.out;have j7:vs.length=p+1:=by have:=hC.len;rw[this,qP,j4.out];rfl
 rw[j7]at k1;cases hin:inI X m
 ·obtain⟨v',w2,hrun,hown,hgrow,hblk⟩:=z2y (P:=Tryz.prog) (wc.alloc (.cells (itA m.p m.d m.f) 163)).drew 0 164 164 163 i0 _ 3 24 Tryz.underlying164 hi0 hz0 hz1 hz2 rfl (by decide) (.slice a X.length c) X.length (Q00 Itm.cells X) (((HI.fresh j3.out).own.alloc _)) ⟨wc.heap.size,0,none⟩ 1 1 m.cells rfl (z0l rfl) (by intro u hu;simp[Itm.cells]at hu;rcases hu with rfl|rfl|rfl<;>rfl) (by unfold maxLen;omega) (by omega) (by omega);obtain⟨a',cap',hv'⟩:=z0d hown;have j8:=hid (hC.put (m:=m) HV.out (by rw[← j4.out];exact x1f (qR _)) (((mRf _ wc).alloc (.cells (itA m.p m.d m.f) 163)).drew) (by rw[z2h];exact hown) hgrow hblk);have j5:w2.heap[gs]? = wc.heap[gs]? := by
   rw[hgrow.block gs (by simp[World.drew];omega) (fun e=>by have:=(hC.low p _ gs HV.out e.symm).2.2;exact this rfl)];exact z0w (by omega)
  have ja:w2.cell? ⟨gs,p,none⟩=some (.slice a X.length c):=by rw[← k2];simp[World.cell?,j5]
  have je:w2.frozen? ⟨gs,p,none⟩=false:=by have:=hC.fz p;simp[World.frozen?,j5]at this ⊢;exact this
  have j6:w2.heap[cb]? = wc.heap[cb]? := by
   rw[hgrow.block cb (by simp[World.drew];omega) (fun e=>by have:=(hC.low p _ cb HV.out e.symm).2.1;exact this rfl)];exact z0w (by omega)
  have jb:w2.cell? ⟨cb,1,none⟩=some (.slice (some ⟨gs,0,none⟩) (p+1:Nat) cap):=by rw[← k1];simp[World.cell?,j6]
  clear hown hgrow hblk j5 j6 hC HC HI HV j7;subst hv';go_wp2_with fail
  go_region;all_goals
   go_wp2;go_ret;refine⟨by rw[hin];rfl,vs.set p (.slice a' (X.length+1) cap'),?_⟩;have:=j8.out;rw[show(P++[X]).set p (atS P X P.length++[m])=P++[Q8m X m] by rw[z2h,← j4.out,qCy _ _ (qR _),qCu,show Q8m X m=X++[m] by unfold Q8m;rw[hin];rfl];rfl]at this;exact this
 go_wp2;go_ret;refine⟨by rw[hin];rfl,vs,?_⟩;rw[show Q8m X m=X by unfold Q8m;rw[hin];rfl];exact HC.fresh j3.out
end Go.Proofs.YtcpceafmlgaodaaGreat
