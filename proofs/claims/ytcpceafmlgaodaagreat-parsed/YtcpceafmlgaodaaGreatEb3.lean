import Derived.Test.YtcpceafmlgaodaaGreatRb2
namespace Go.Proofs.YtcpceafmlgaodaaGreat
open Go.RowKit
set_option maxRecDepth 99999
set_option maxHeartbeats 0
set_option linter.all false
structure Q7v(w0 w:World)(cb gs cap b:Nat)(vs:List Value)(L:List (List Itm)):Prop where
 fr:Q0a w0 w
 c:w.heap[cb]? = some (.cells #[.pointer (some ⟨b,0,none⟩),.slice (some ⟨gs,0,none⟩) vs.length cap] 160 (0,0))
 cB:w0.heap.size<=cb
 gB:w0.heap.size<=gs
 ne:gs≠cb
 row:w.ownsRow 0 164 1 (.slice (some ⟨gs,0,none⟩) vs.length cap) vs.length vs
 len:vs.length=L.length
 each:∀(k:Nat) (v:Value) (X:List Itm),vs[k]? = some v->L[k]? = some X->ItsAt w v X
 low:∀(k:Nat) (v:Value) (g:Nat),vs[k]? = some v->v.ownBlock=some g->w0.heap.size<=g/\g≠cb/\g≠gs
 sep:∀(j k:Nat) (v u:Value) (g:Nat),vs[j]? = some v->vs[k]? = some u->v.ownBlock=some g->u.ownBlock=some g->j=k
section
variable {w0 w w':World}{cb gs cap b:Nat}{vs:List Value}{L:List (List Itm)}
theorem Q7v.fresh(h:Q7v w0 w cb gs cap b vs L)(hf:Q0a w w'):Q7v w0 w' cb gs cap b vs L :=
 ⟨h.fr.trans hf,by rw[hf.block cb (z0j h.c) (fun x=>x)];exact h.c,h.cB,h.gB,h.ne,z0c h.row (fun g hg=>hf.block g (h.row.lt g hg).2 (fun x=>x)),h.len,fun k v X h1 h2=>(h.each k v X h1 h2).fresh hf,h.low,h.sep⟩
theorem Q7v.x(h:Q7v w0 w cb gs cap b vs L):w.cell? ⟨cb,0,none⟩=some (.pointer (some ⟨b,0,none⟩)):=by rw[Q0b h.c 0];rfl
theorem Q7v.s(h:Q7v w0 w cb gs cap b vs L):w.cell? ⟨cb,1,none⟩=some (.slice (some ⟨gs,0,none⟩) vs.length cap):=by rw[Q0b h.c 1];rfl
theorem Q7v.at(h:Q7v w0 w cb gs cap b vs L){k:Nat}{v:Value}(hk:vs[k]? = some v):w.cell? ⟨gs,k,none⟩=some v:=by
 obtain⟨h1,h2⟩:=h.row;rcases h2 with⟨e,_⟩|⟨g,cp,cur,e,_,hg,_,_,hs,ht⟩
 ·cases e
 rw[qI]at e;obtain⟨e1,_,_⟩:=e;cases e1;rw[Q0b hg k];have j0:=(qS hk).1;have:=qDn (·[k]?) ht;simp only[Nat.mul_one,List.getElem?_take]at this;rw[qAb j0,hk]at this;simpa using this
theorem Q5x{α:Type}{l:List α}{n k:Nat}{a u:α}(h:(l.set n a)[k]? = some u):(k=n/\u=a)∨(k≠n/\l[k]? = some u):=by
 rw[qBy]at h;split at h
 ·rename_i e;split at h
  ·rw[qO]at h;exact .inl ⟨e.symm,h.symm⟩
  cases h
 rename_i e;exact .inr ⟨fun x=>e x.symm,h⟩
theorem Q7v.put(h:Q7v w0 w cb gs cap b vs L){n:Nat}{v v':Value}{X:List Itm}{m:Itm}(hn:vs[n]? = some v)(hX:L[n]? = some X){W w2:World}(hf:Q0a w W)
  (ho:w2.ownsRow 0 163 3 v' (X.length+1) (Q00 Itm.cells X++m.cells)) (hg:W.grownBy w2 v.ownBlock) (hb:∀k,v'.ownBlock=some k->v.ownBlock=some k∨W.heap.size<=k) :
  Q7v w0 (w2.setCell ⟨gs,n,none⟩ v') cb gs cap b (vs.set n v') (L.set n (X++[m])):=by
 have j2:gs<w.heap.size:=(h.row.lt gs rfl).2;have j1:cb<w.heap.size:=z0j h.c;have j7:=hf.size;have j6:=hg.size;have keep:∀x,x<w.heap.size->v.ownBlock≠some x->w2.heap[x]? = w.heap[x]? := fun x hx hne=>(hg.block x (by omega) (fun e=>hne e.symm)).trans (hf.block x hx (fun q=>q));have j5:v.ownBlock≠some gs:=fun e=>(h.low n v gs hn e).2.2 rfl;have j4:v.ownBlock≠some cb:=fun e=>(h.low n v cb hn e).2.1 rfl;have j0:∀g,v'.ownBlock=some g->w0.heap.size<=g/\g≠cb/\g≠gs:=fun g e=>by
  rcases hb g e with q|q
  ·exact h.low n v g hn q
  have:=h.fr.size;exact⟨by omega,by omega,by omega⟩
 have F:Q0a w0 w2:=⟨hg.os.trans (hf.os.trans h.fr.os),hg.tape.trans (hf.tape.trans h.fr.tape),hg.output.trans (hf.output.trans h.fr.output),by have:=h.fr.size;omega,fun x hx _=>by
  rw[keep x (by have:=h.fr.size;omega) (fun e=>by have:=(h.low n v x hn e).1;omega)];exact h.fr.block x hx (fun q=>q)⟩
 have j3:n<vs.length:=(qS hn).1;refine⟨F.setCell (p:=⟨gs,n,none⟩) (fun hlt=>absurd hlt (by have:=h.gB;dsimp only;omega)) v',?_,h.cB,h.gB,h.ne,?_,?_,fun k u Y h1 h2=>?_,fun k u g h1 h2=>?_,fun j k u u' g h1 h2 h3 h4=>?_⟩
 ·rw[qBd];exact z0i (by rw[keep cb j1 j4];exact h.c) (fun e=>h.ne e.symm)
 ·rw[qBd];exact z4p (z0c h.row (fun g e=>by cases e;exact keep gs j2 j5)) rfl n v' j3
 ·rw[qBd,qBd];exact h.len
 ·rcases Q5x h1 with⟨e1,e2⟩|⟨e1,e2⟩
  ·subst e1 e2;rcases Q5x h2 with⟨_,e3⟩|⟨e3,_⟩
   ·subst e3;refine⟨?_,fun x _=>rfl⟩;rw[qP,qAf,z0y];exact z0c ho (fun g e=>heap_setCell_other _ (j0 g e).2.2)
   exact absurd rfl e3
  rcases Q5x h2 with⟨e3,_⟩|⟨_,e3⟩
  ·exact absurd e3 e1
  have hE:=h.each k u Y e2 e3;refine⟨z0c hE.own (fun g e=>?_),hE.wf⟩;rw[heap_setCell_other _ (h.low k u g e2 e).2.2];exact keep g (hE.own.lt g e).2 (fun q=>e1 (h.sep k n u v g e2 hn e q))
 ·rcases Q5x h1 with⟨e1,e2⟩|⟨e1,e2⟩
  ·subst e2;exact j0 g h2
  exact h.low k u g e2 h2
 have old:∀(j:Nat) (u:Value),j≠n->vs[j]? = some u->u.ownBlock=some g->v'.ownBlock=some g->False:=fun j u hj hu h3 h4=>by
  rcases hb g h4 with q|q
  ·exact hj (h.sep j n u v g hu hn h3 q)
  have hl:j<L.length:=by rw[← h.len];exact(qS hu).1
  have:=((h.each j u _ hu (qE hl)).own.lt g h3).2;omega
 rcases Q5x h1 with⟨e1,e2⟩|⟨e1,e2⟩<;>rcases Q5x h2 with⟨e3,e4⟩|⟨e3,e4⟩
 ·rw[e1,e3]
 ·exact(old k u' e3 e4 h4 (e2▸h3)).elim
 ·exact(old j u e1 e2 h3 (e4▸h4)).elim
 exact h.sep j k u u' g e2 e4 h3 h4
end
theorem z9j:∀(n:Nat) (l:List Nat),l.Nodup->(∀x∈l,x<n)->l.length<=n
 |0,l,_,h=>by
  cases l with
  |nil=>simp
  |cons a l=>exact absurd (h a (by simp)) (by omega)
 |n+1,l,hd,h=>by
  by_cases hm:n∈l
  ·have h1:=List.length_erase_of_mem hm;have:=z9j n (l.erase n) (hd.erase n) (fun x hx=>by
    have h2:=hd.mem_erase_iff.1 hx;have:=h x h2.2;have:=h2.1;omega)
   have:0<l.length:=List.length_pos_of_mem hm;omega
  have:=z9j n l hd (fun x hx=>by
   have:=h x hx;have:x≠n:=fun e=>hm (e▸hx);omega)
  omega
def ItB(m:Itm):Prop:=m.p<20/\m.d<=6/\m.f<=60
theorem x9r{X:List Itm}(hd:X.Nodup)(hb:∀m∈X,ItB m):X.length<=8540:=by
 have h:=z9j 8540 (X.map fun m=>(m.p*7+m.d)*61+m.f) ?_ ?_
 ·simpa using h
 ·unfold List.Nodup at hd ⊢;rw[List.pairwise_map];refine List.Pairwise.imp_of_mem ?_ hd;intro a b ha hb' hne e;obtain⟨a1,a2,a3⟩:=a;obtain⟨b1,b2,b3⟩:=b;have h1:=hb _ ha;have h2:=hb _ hb';simp only[ItB]at h1 h2 e;have e3:a3=b3:=by omega
  have e2:a2=b2:=by omega
  have e1:a1=b1:=by omega
  subst e1 e2 e3;exact hne rfl
 intro x hx;rw[qBp]at hx;obtain⟨m,hm,rfl⟩:=hx;have h1:=hb m hm;simp only[ItB]at h1;omega
def Q8m(X:List Itm)(m:Itm):List Itm:=if inI X m=true then X else X++[m]
def mvI(m:Itm):Itm:=⟨m.p,m.d+1,m.f⟩
theorem y17(X:List Itm)(m:Itm):m∈Q8m X m:=by
 unfold Q8m;split
 ·rename_i h;exact(x2s _ _).1 h
 simp
structure Q4s(Q:Itm->Prop)(X X':List Itm):Prop where
 pre:∃Y,X'=X++Y
 nd:X'.Nodup
 q:∀m∈X',Q m
section
variable {Q:Itm->Prop}{X X' X2:List Itm}
theorem Q4s.put{m:Itm}(h:Q4s Q X X')(hm:Q m):Q4s Q X (Q8m X' m):=by
 unfold Q8m;split
 ·exact h
 rename_i c;have hn:m ∉ X':=fun e=>c ((x2s _ _).2 e);obtain⟨Y,e⟩:=h.pre;refine⟨⟨Y++[m],by rw[e,qAh]⟩,?_,fun x hx=>?_⟩
 ·rw[List.nodup_append];exact⟨h.nd,by simp,fun a ha b hb=>by simp at hb;subst hb;exact fun e=>hn (e▸ha)⟩
 rw[qU,qM]at hx;rcases hx with hx|rfl
 ·exact h.q x hx
 exact hm
theorem Q4s.le(h:Q4s Q X X'):X.length<=X'.length:=by
 obtain⟨Y,e⟩:=h.pre;rw[e,qP];omega
theorem Q4s.same(h:Q4s Q X X')(hl:X'.length=X.length):X'=X:=by
 obtain⟨Y,e⟩:=h.pre;rw[e,qP]at hl;rw[e,qBs (by omega:Y.length=0),qAt]
theorem Q4s.mem(h:Q4s Q X X'){m:Itm}(hm:m∈X):m∈X':=by
 obtain⟨Y,e⟩:=h.pre;rw[e];simp[hm]
theorem Q4s.trans(h:Q4s Q X X')(h2:Q4s Q X' X2):Q4s Q X X2:=by
 obtain⟨Y,e⟩:=h.pre;obtain⟨Z,e2⟩:=h2.pre;exact⟨⟨Y++Z,by rw[e2,e,qAh]⟩,h2.nd,h2.q⟩
theorem Q4s.refl(h:Q4s Q X X'):Q4s Q X' X':=⟨⟨[],by simp⟩,h.nd,h.q⟩
theorem y8h(hl:X.length<=X'.length)(m:Itm):decide (X.length<(Q8m X' m).length)=(decide (X.length<X'.length)||!inI X' m):=by
 unfold Q8m;cases h:inI X' m
 ·simp;omega
 simp
theorem y92(h:Q4s Q X X')(h2:Q4s Q X' X2):decide (X.length<X2.length)=(decide (X.length<X'.length)||decide (X'.length<X2.length)):=by
 have h1:=h.le;have h2:=h2.le;rw[qAs];simp;omega
end
def atS(P:List (List Itm))(X:List Itm)(s:Nat):List Itm:=(P++[X]).getD s []
section
variable {P:List (List Itm)}{X X':List Itm}{s:Nat}
theorem z2h:atS P X P.length=X:=by unfold atS;simp
theorem y1r(h:s<P.length):atS P X s=P.getD s []:=by
 unfold atS;rw[qD,qD,qAe h]
theorem x1f(h:s<=P.length):(P++[X])[s]? = some (atS P X s):=by
 unfold atS;rw[qD];have:s<(P++[X]).length:=by simp;omega
 rw[qE this];rfl
theorem x9z(h:s<=P.length){m:Itm}(hm:m∈atS P X s):m∈P.getD s []∨(s=P.length/\m∈X):=by
 rcases qBn s P.length with q|q
 ·rw[y1r q]at hm;exact .inl hm
 obtain rfl:s=P.length:=by omega
 rw[z2h]at hm;exact .inr ⟨rfl,hm⟩
theorem x87(h:s<=P.length)(e:∃Y,X'=X++Y):∃Z,atS P X' s=atS P X s++Z:=by
 obtain⟨Y,e⟩:=e;rcases qBn s P.length with q|q
 ·rw[y1r q,y1r q];exact⟨[],by simp⟩
 obtain rfl:s=P.length:=by omega
 rw[z2h,z2h];exact⟨Y,e⟩
end
theorem infoIt:(Tryz.prog.info? 163).map (fun i=>(i.zero,i.size,i.bytes))=some (some (.agg (itA 0 0 0)),3,24):=by kernel_rfl
theorem infoIt':∃i,Tryz.prog.info? 163=some i/\i.zero=some (.agg (itA 0 0 0))/\i.size=3/\i.bytes=24:=nfoE infoIt
def ChG(w0 w:World)(cb gs cap b:Nat)(L:List (List Itm)):Prop:=∃vs,Q7v w0 w cb gs cap b vs L
theorem ChG.fresh{w0 w w':World}{cb gs cap b:Nat}{L:List (List Itm)}(h:ChG w0 w cb gs cap b L)(hf:Q0a w w'):ChG w0 w' cb gs cap b L:=by
 obtain⟨vs,h⟩:=h;exact⟨vs,h.fresh hf⟩
theorem Q7v.fz{w0 w:World}{cb gs cap b:Nat}{vs:List Value}{L:List (List Itm)}(h:Q7v w0 w cb gs cap b vs L)(k:Nat):w.frozen? ⟨gs,k,none⟩=false:=by
 obtain⟨h1,h2⟩:=h.row;rcases h2 with⟨e,_⟩|⟨g,cp,cur,e,_,hg,_,_,hs,ht⟩
 ·cases e
 rw[qI]at e;obtain⟨e1,_,_⟩:=e;cases e1;exact Q0g hg k
theorem ChG.set{w0 w:World}{cb gs cap b:Nat}{P:List (List Itm)}{X:List Itm}(h:ChG w0 w cb gs cap b (P++[X])){s:Nat}(hs:s<=P.length):∃vs a c,Q7v w0 w cb gs cap b vs (P++[X])/\vs.length=P.length+1/\vs[s]? = some (.slice a (atS P X s).length c)/\ItsAt w (.slice a (atS P X s).length c) (atS P X s):=by
 obtain⟨vs,h⟩:=h;have hl:vs.length=P.length+1:=by rw[h.len];simp
 have hk:s<vs.length:=by omega
 have hI:=h.each s vs[s] (atS P X s) (qE hk) (x1f hs);obtain⟨a,c,e⟩:=z0d hI.own;refine⟨vs,a,c,h,hl,?_,?_⟩
 ·rw[qE hk,e]
 rw[← e];exact hI
attribute [local go_sem ↓] z5h z13
theorem y1v(w0 w:World)(cb gs cap b:Nat)(P:List (List Itm))(X:List Itm)(m:Itm)(h:ChG w0 w cb gs cap b (P++[X]))(hP:P.length<=1000)(hX:X.length<=10000) :
  Calls Tryz.prog 71 #[.pointer (some ⟨cb,0,none⟩),.agg (itA m.p m.d m.f)] w fun e w'=>e=.returned (.bool (!inI X m))/\ChG w0 w' cb gs cap b (P++[Q8m X m]):=by
 obtain⟨i0,hi0,hz0,hz1,hz2⟩:=infoIt';obtain⟨vs,a,c,hC,hl,hv,hI⟩:=h.set (qR _);rw[z2h]at hv hI;have HC:=hid hC;have HI:=hid hI;have HV:=hid hv;have HN:=hid (Q9x w m 163);have j1:Q0a w (w.alloc (.cells (itA m.p m.d m.f) 163 (0,0))):=(mRf _ w).alloc _;have j2:=hid j1;have k1:=(hC.fresh j1).s;have k2:=(hC.fresh j1).at hv;have jc:cb<w.heap.size:=z0j hC.c;have jf:gs<w.heap.size:=(hC.row.lt gs rfl).2;have IN:=hid (fun W (hW:Q0a w W)=>v1g W _ X m (hI.fresh hW) (by omega));generalize hp:P.length=p at hl hv k2 HV hP;have j4:=hid hp;have j9:((vs.length:Nat):Int)=(p:Int)+1:=by omega
 rw[show vs.length=p+1 from hl]at k1;have l1:(ldI (.pointer (some ⟨w.heap.size,0,none⟩))).run Tryz.prog (w.alloc (.cells (itA m.p m.d m.f) 163 (0,0))).drew=.ok (.agg (itA m.p m.d m.f)) (w.alloc (.cells (itA m.p m.d m.f) 163 (0,0))).drew:=z3a HN.out;have ji:IntKind.i64.wrap ((p:Int)+1-1)=(p:Int):=by rw[IntKind.wrap_i64];omega
 have jj:IntKind.i64.wrap (((p+1:Nat):Int)-1)=(p:Int):=by rw[IntKind.wrap_i64];omega
 have s1:(p:Int)<((p+1:Nat):Int):=by omega
 clear hC hI hv h j9 hp hl j1;go_enter Tryz.func71,Tryz.ntmps71
 go_upto_region 2 with fail
 go_cut [6] (fun s6 wx=>s6=.bool (inI X m)/\Q0a (w.alloc (.cells (itA m.p m.d m.f) 163 (0,0))) wx)
 case first =>
  go_region_with (first
   |(go_at_call 95;refine(IN.out _ j2.drew).mono ?_;rintro e w3⟨rfl,hf3⟩))
  all_goals
   go_wp2_with fail
   go_meet;exact⟨rfl,((mRf _ _).drew).trans hf3⟩
 obtain⟨rfl,hfx⟩:=hcut;have j3:=hid (j2.trans hfx);have j0:wc.rangeAt w.heap.size 0 m.cells:=fun j v hj=>Q0i hfx (HN.out j v hj);have jh:w.heap.size<wc.heap.size:=z0j (hfx.at (z0a w _) (fun x=>x));have l2:(ldI (.pointer (some ⟨w.heap.size,0,none⟩))).run Tryz.prog wc.drew=.ok (.agg (itA m.p m.d m.f)) wc.drew:=z3a j0;clear l1 k1 k2 IN hfx j0 HN j2;have hC:=HC.fresh j3.out;have jd:cb<wc.heap.size:=by omega
 have jg:gs<wc.heap.size:=by omega
 have s2:(p:Int)<(p:Int)+1:=by omega
 have k1:=hC.s;have k2:=hC.at HV.out;have j7:vs.length=p+1:=by have:=hC.len;rw[this,qP,j4.out];rfl
 rw[j7]at k1;cases hin:inI X m
 ·obtain⟨v',w2,hrun,hown,hgrow,hblk⟩:=z2y (P:=Tryz.prog) (wc.alloc (.cells (itA m.p m.d m.f) 163)).drew 0 164 164 163 i0 _ 3 24 Tryz.underlying164 hi0 hz0 hz1 hz2 rfl (by decide) (.slice a X.length c) X.length (Q00 Itm.cells X) (((HI.fresh j3.out).own.alloc _)) ⟨wc.heap.size,0,none⟩ 1 1 m.cells rfl (z0l rfl) (by intro u hu;simp[Itm.cells]at hu;rcases hu with rfl|rfl|rfl<;>rfl) (by unfold maxLen;omega) (by omega) (by omega);obtain⟨a',cap',hv'⟩:=z0d hown;have j8:=hid (hC.put (m:=m) HV.out (by rw[← j4.out];exact x1f (qR _)) (((mRf _ wc).alloc (.cells (itA m.p m.d m.f) 163)).drew) (by rw[z2h];exact hown) hgrow hblk);have j5:w2.heap[gs]? = wc.heap[gs]? := by
   rw[hgrow.block gs (by simp[World.drew];omega) (fun e=>by have:=(hC.low p _ gs HV.out e.symm).2.2;exact this rfl)];exact z0w (by omega)
  have ja:w2.cell? ⟨gs,p,none⟩=some (.slice a X.length c):=by rw[← k2];simp[World.cell?,j5]
  have je:w2.frozen? ⟨gs,p,none⟩=false:=by have:=hC.fz p;simp[World.frozen?,j5]at this ⊢;exact this
  have j6:w2.heap[cb]? = wc.heap[cb]? := by
   rw[hgrow.block cb (by simp[World.drew];omega) (fun e=>by have:=(hC.low p _ cb HV.out e.symm).2.1;exact this rfl)];exact z0w (by omega)
  have jb:w2.cell? ⟨cb,1,none⟩=some (.slice (some ⟨gs,0,none⟩) (p+1:Nat) cap):=by rw[← k1];simp[World.cell?,j6]
  clear hown hgrow hblk j5 j6 hC HC HI HV j7;subst hv';go_wp2_with fail
  go_region;all_goals
   go_wp2;go_ret;refine⟨by rw[hin];rfl,vs.set p (.slice a' (X.length+1) cap'),?_⟩;have:=j8.out;rw[show(P++[X]).set p (atS P X P.length++[m])=P++[Q8m X m] by rw[z2h,← j4.out,qCy _ _ (qR _),qCu,show Q8m X m=X++[m] by unfold Q8m;rw[hin];rfl];rfl]at this;exact this
 go_wp2;go_ret;refine⟨by rw[hin];rfl,vs,?_⟩;rw[show Q8m X m=X by unfold Q8m;rw[hin];rfl];exact HC.fresh j3.out
def Q8g(q:List Q1)(Y:List Itm):Prop:=Y.length<=8540/\∀m∈Y,m.p<q.length/\m.d<=6
def ItQ(q:List Q1)(Q:Itm->Prop):Prop:=∀m,Q m->m.p<q.length/\m.d<=6/\m.f<=60
section
variable {q:List Q1}{Q:Itm->Prop}{P:List (List Itm)}{X X':List Itm}{s:Nat}
theorem Q4s.len(hb:ItQ q Q)(hq:q.length<=20)(hg:Q4s Q X X'):X'.length<=8540:=x9r hg.nd (fun m hm=>by
 have:=hb m (hg.q m hm);exact⟨by omega,this.2⟩)
theorem v1w(hPb:∀Y∈P,Q8g q Y)(hb:ItQ q Q)(hq:q.length<=20)(hs:s<=P.length)(hg:Q4s Q X X'):Q8g q (atS P X' s):=by
 rcases qBn s P.length with h|h
 ·rw[y1r h,qD,qE h];exact hPb _ (qG h)
 obtain rfl:s=P.length:=by omega
 rw[z2h];exact⟨hg.len hb hq,fun m hm=>⟨(hb m (hg.q m hm)).1,(hb m (hg.q m hm)).2.1⟩⟩
theorem x7u{c:Int}{k:Nat}(hs:s<=P.length)(hk:k<(atS P X' s).length)(hg:Q4s Q X X')(hm:Q (mvI (atS P X' s)[k]))(ha:∀m∈(atS P X' s).take k,Q4q q m=c->mvI m∈X') :
  k+1<=(atS P (Q8m X' (mvI (atS P X' s)[k])) s).length/\Q4s Q X (Q8m X' (mvI (atS P X' s)[k]))/\∀m∈(atS P (Q8m X' (mvI (atS P X' s)[k])) s).take (k+1),Q4q q m=c->mvI m∈Q8m X' (mvI (atS P X' s)[k]):=by
 have h2:=hg.refl.put hm;obtain⟨Z,e⟩:=x87 (P:=P) hs h2.pre;refine⟨by rw[e,qP];omega,hg.put hm,fun m hm2 hc=>?_⟩;rw[e,List.take_append_of_le_length (by omega),Q6g hk,qU,qM]at hm2;rcases hm2 with hm2|rfl
 ·exact h2.mem (ha m hm2 hc)
 exact y17 _ _
end
theorem y79(a b c:Int):(itA a b c).all Value.oneCell'=true:=all_oneCell_toArray (cs:=[.int .i64 a,.int .i64 b,.int .i64 c]) (by intro v hv;simp at hv;rcases hv with rfl|rfl|rfl<;>rfl)
attribute [local go_sem ↓] z5h
theorem x7t(w0 w:World)(cb gs cap b R H:Nat)(q:List Q1)(P:List (List Itm))(X:List Itm)(Q:Itm->Prop)(s:Nat)(hd:Int)(hS:Q3x w0 b R H q)(hQ:QOk R H q)(h:ChG w0 w cb gs cap b (P++[X]))(hg:Q4s Q X X)(hP:P.length<=60)(hs:s<=P.length)
  (hPb:∀Y∈P,Q8g q Y) (hb:ItQ q Q) (hd0:0<=hd/\hd<H) (hc:∀m,(m∈P.getD s []∨(s=P.length/\Q m))->Q4q q m=bs R+hd->Q (mvI m)) :
  Calls Tryz.prog 96 #[.pointer (some ⟨cb,0,none⟩),.int .i64 s,.int .i64 hd] w fun e w'=>∃X',e=.returned (.bool (decide (X.length<X'.length)))/\ChG w0 w' cb gs cap b (P++[X'])/\Q4s Q X X'/\∀m∈atS P X' s,Q4q q m=bs R+hd->mvI m∈X':=by
 have j5:=hQ.p20;have jw:=hQ.r8;have jv:=hQ.h8;obtain⟨d1,d2⟩:=hd0;have HS:=hid hS;have HQ:=hid hQ;have HC:=hid h;have HG:=hid hg;have js:=hid hPb;have HB:=hid hb;have jg:=hid hc;obtain⟨a0,c0,a1,c1,a2,c2,v3,v4,sv,hN⟩:=hS;have HK:=hid hN.k0;have jo:IntKind.i64.wrap (bs R+hd)=bs R+hd:=by rw[IntKind.wrap_i64];unfold bs;omega
 generalize hcd:bs R+hd=cd at jo jg ⊢;have j9:=hid hcd;clear hQ h hg hPb hb hc hN hcd;go_enter Tryz.func96,Tryz.ntmps96
 go_wp2;go_loopw [7,8,9,10,11] (fun x7 x8 _ _ _ wr=>∃(k:Nat) (X':List Itm),x7=.bool (decide (X.length<X'.length))/\x8=.int .i64 k/\k<=(atS P X' s).length/\ChG w0 wr cb gs cap b (P++[X'])/\Q4s Q X X'/\∀m∈(atS P X' s).take k,Q4q q m=cd->mvI m∈X')
   (fun _ x _ _ _ _=>10001-(intOf x).toNat)
 case atStart=>exact⟨0,X,by simp,rfl,by omega,HC.out,HG.out,fun m hm=>by simp at hm⟩
 obtain⟨k,X',rfl,rfl,hk,hC,hg,ha⟩:=hrel;have j8:=v1w (s:=s) js.out HB.out j5 hs hg;have jx:=hg.len HB.out j5;have jj:=hid (Q15 (B:=10001) k (by have:=j8.1;omega));obtain⟨vs,a,c,hA,hl,hv,hI⟩:=hC.set hs;have k1:=hA.s;have k2:=hA.at hv;have ju:(vs.length:Int)=(P.length:Int)+1:=by omega
 have jy:(atS P X' s).length<=8540:=j8.1;rw[hl]at k1;have s1:(s:Int)<((P.length+1:Nat):Int):=by omega
 have je:=hid hC;have j1:=hid hg;have HA:=hid ha;have jt:=hA.fr;have HF:=hid jt;have kx:=hA.x;clear hC hg ha HC HG hl ju;by_cases hlt:k<(atS P X' s).length
 ·have s2:(k:Int)<((atS P X' s).length:Int):=by omega
  have jn:=j8.2 _ (qG hlt);have jm:=fun(hm:Q (mvI (atS P X' s)[k]))=>x7u (c:=cd) hs hlt j1.out hm HA.out;have jl:Q4q q (atS P X' s)[k]=cd->Q (mvI (atS P X' s)[k]):=fun e=>jg.out _ ((x9z hs (qG hlt)).imp id (fun z=>⟨z.1,j1.q _ z.2⟩)) e;have jk:Q4q q (atS P X' s)[k]≠cd->∀m∈(atS P X' s).take (k+1),Q4q q m=cd->mvI m∈X':=fun hne m hm e=>by
   rw[Q6g hlt,qU,qM]at hm;rcases hm with hm|rfl
   ·exact HA.out m hm e
   exact absurd e hne
  obtain⟨g,c',hgf⟩:=Joins.ownsRow_form hI.own (by omega);rw[qI]at hgf;obtain⟨rfl,_,rfl⟩:=hgf;have r1:=hI.range k hlt;have j6:=hid jm;have j3:=hid jl;have j2:=hid jk;generalize(atS P X' s)[k]=m at r1 jn j6 j3 j2;have l1:(ldI (.pointer (some ⟨g,k*3,none⟩))).run Tryz.prog wr=.ok (.agg (itA m.p m.d m.f)) wr:=z3a r1;clear r1 jm jl jk hI j8 hA hv HA;obtain⟨hm1,hm2⟩:=jn;go_upto_region 6 with(first
   |(refine z0e rfl 163 _ _ rfl wr _ (itA m.p m.d m.f) _ rfl rfl rfl szIt rfl (y79 _ _ _) ?_))
  have HN:=Q9x wr m 163;have j4:Q0a wr (wr.alloc (.cells (itA m.p m.d m.f) 163 (0,0))):=(mRf _ wr).alloc _;have jc:=z0a wr (.cells (itA m.p m.d m.f) 163 (0,0));generalize(wr.alloc (.cells (itA m.p m.d m.f) 163 (0,0)))=W2 at HN j4 jc ⊢;have l2:(ldI (.pointer (some ⟨wr.heap.size,0,none⟩))).run Tryz.prog W2=.ok (.agg (itA m.p m.d m.f)) W2:=z3a HN;have jh:=hid j4;have jd:=hid jc;have SY:=hid (z5k W2 cb b R H q m (Q0i j4 kx) (HS.fresh (HF.trans j4)) HQ.out hm1 (by omega));clear l1 k1 k2 kx HN j4 jc;go_upto_region 7 with(first
   |(go_at_call 73;refine(SY.out).mono ?_;rintro e W3⟨rfl,hf3⟩;have ji:=hid (jh.trans hf3);have j0:=hid (hf3.at jd.out (fun x=>x));clear hf3))
  have jb:=je.fresh ji.out;have BA:=hid (z1i W3 b R a0 c0 (Q0i (HF.trans ji.out) HK.out) (by omega));have kx:W3.cell? ⟨cb,0,none⟩=some (.pointer (some ⟨b,0,none⟩)):=by
   obtain⟨vs,z⟩:=jb;exact z.x
  have b0:W3.cell? ⟨wr.heap.size,0,none⟩=some (.int .i64 m.p):=Q0b j0.out 0;have b1:W3.cell? ⟨wr.heap.size,1,none⟩=some (.int .i64 m.d):=Q0b j0.out 1;have b2:W3.cell? ⟨wr.heap.size,2,none⟩=some (.int .i64 m.f):=Q0b j0.out 2;have jf:=hid jb;rw[← j9.out]at j2 j3 j6 jo;clear jb l2 SY jh jd j0;generalize hsc:Q4q q m=sc at j2 j3;by_cases heq:sc=bs R+hd
  ·have PU:Hid (Calls Tryz.prog 71 #[.pointer (some ⟨cb,0,none⟩),.agg (itA m.p ((m.d:Int)+1) m.f)] W3 fun e w'=>e=.returned (.bool (!inI X' (mvI m)))/\ChG w0 w' cb gs cap b (P++[Q8m X' (mvI m)])):=hid (y1v w0 W3 cb gs cap b P X' (mvI m) jf.out (by omega) (by omega));have HW:=hid (j6.out (j3.out heq));have j7:=y8h j1.le (mvI m);generalize decide (X.length<X'.length)=mo at j7 ⊢;generalize inI X' (mvI m)=pr at PU j7;have jr:=hid j7;clear j7 j6 j3 j2 hsc;subst heq;cases mo<;>cases pr;all_goals
    go_wp2_with (first
     |(go_at_call 34;refine csm BA.out ?_)
     |(go_at_call 71;refine(PU.out).mono ?_;rintro e W4⟨rfl,hC4⟩;have jq:=hid hC4;clear hC4))
    go_roundw
    case rel=>exact⟨k+1,_,by rw[jr.out];rfl,by go_num,HW.1,jq.out,HW.2.1,by have:=HW.2.2;rw[j9.out]at this;exact this⟩
    exact jj.out
  have ja:=hid (j2.out heq);go_wp2_with (first
   |(go_at_call 34;refine csm BA.out ?_))
  go_roundw
  case rel=>exact⟨k+1,X',rfl,by go_num,by omega,jf.out,j1.out,by have:=ja.out;rw[j9.out]at this;exact this⟩
  exact jj.out
 have s2:¬(k:Int)<((atS P X' s).length:Int):=by omega
 have jp:Hid (∀m∈atS P X' s,Q4q q m=cd->mvI m∈X'):=hid (by
  have:=HA.out;rw[qCh (by omega)]at this;exact this)
 go_wp2;go_ret;exact⟨X',rfl,je.out,j1.out,jp.out⟩
def slN:Option Value->Nat
 |some (.slice _ n _)=>n
 |_=>0
theorem ChG.lenN{w0 w:World}{cb gs cap b:Nat}{P:List (List Itm)}{X:List Itm}(h:ChG w0 w cb gs cap b (P++[X])):slN (w.cell? ⟨gs,P.length,none⟩)=X.length:=by
 obtain⟨vs,a,c,hA,_,hv,_⟩:=h.set (qR _);rw[hA.at hv,z2h];rfl
structure Q57(R:Nat)(q:List Q1)(P:List (List Itm))(X:List Itm)(m:Itm):Prop where
 pred:∀(p:Nat) (x:Q1),q[p]? = some x->Q4q q m=bs R+x.1->(⟨p,0,P.length⟩:Itm)∈X
 comp:Q4q q m<0->∀x:Q1,q[m.p]? = some x->∀m'∈atS P X m.f,Q4q q m'=bs R+x.1->mvI m'∈X
structure FillQ(R:Nat)(q:List Q1)(P:List (List Itm))(Q:Itm->Prop):Prop where
 b:ItQ q Q
 f:∀m,Q m->m.f<=P.length
 pred:∀(m:Itm) (p:Nat) (x:Q1),Q m->q[p]? = some x->Q4q q m=bs R+x.1->Q ⟨p,0,P.length⟩
 comp:∀(m:Itm) (x:Q1) (m':Itm),Q m->Q4q q m<0->q[m.p]? = some x->(m'∈P.getD m.f []∨(m.f=P.length/\Q m'))->Q4q q m'=bs R+x.1->Q (mvI m')
section
variable {R:Nat}{q:List Q1}{P:List (List Itm)}{Q:Itm->Prop}
theorem x0t{X0 X2 X4:List Itm}{k:Nat}(h2:Q4s Q X0 X2)(h4:Q4s Q X2 X4)(hk:k<X2.length)(hd:X2.length=X0.length->∀m∈X0.take k,Q57 R q P X0 m)
  (hA:X4.length=X0.length->Q4q q X2[k]<0->∀x:Q1,q[X2[k].p]? = some x->∀m'∈atS P X0 X2[k].f,Q4q q m'=bs R+x.1->mvI m'∈X0)
  (hB:∀(p:Nat) (x:Q1),q[p]? = some x->Q4q q X2[k]=bs R+x.1->(⟨p,0,P.length⟩:Itm)∈X4) :
  X4.length=X0.length->∀m∈X0.take (k+1),Q57 R q P X0 m:=by
 intro hl m hm;have l2:=h2.le;have l4:=h4.le;have e2:=h2.same (by omega);have e4:=h4.same (by omega);subst e4;subst e2;rw[Q6g hk,qU,qM]at hm;rcases hm with hm|rfl
 ·exact hd rfl m hm
 exact⟨hB,hA rfl⟩
end
attribute [local go_sem ↓] z5h
theorem y7y(w0 w:World)(cb gs cap b R H:Nat)(q:List Q1)(P:List (List Itm))(X:List Itm)(Q:Itm->Prop)(hS:Q3x w0 b R H q)(hQ:QOk R H q)(h:ChG w0 w cb gs cap b (P++[X]))(hg:Q4s Q X X)(hP:P.length<=60)
  (hPb:∀Y∈P,Q8g q Y) (hF:FillQ R q P Q) :
  Calls Tryz.prog 72 #[.pointer (some ⟨cb,0,none⟩)] w fun e w'=>e=.returned (.tuple #[])/\∃X',ChG w0 w' cb gs cap b (P++[X'])/\Q4s Q X X'/\∀m∈X',Q57 R q P X' m:=by
 have jg:=hQ.p20;have ks:=hQ.r8;have kr:=hQ.h8;have HS:=hid hS;have HQ:=hid hQ;have HG:=hid hg;have kh:=hid hPb;have j4:=hid hF;have HC:=hid h;obtain⟨a0,c0,a1,c1,a2,c2,v3,v4,sv,hN⟩:=hS;have HN:=hid hN;obtain⟨vs,hA⟩:=h;have k1:=hA.s;have hl:vs.length=P.length+1:=by rw[hA.len];simp
 rw[hl]at k1;generalize hp:P.length=n at hP hl k1;have j1:=hid hp;have kv:IntKind.i64.wrap (((n+1:Nat):Int)-1)=(n:Int):=by rw[IntKind.wrap_i64];omega
 clear hQ hg hPb hF hN hA hp hl;go_enter Tryz.func72,Tryz.ntmps72
 go_wp2;go_loopw [3,4,5,6,7,8,9] (fun x3 _ _ _ _ _ _ wr=>∃(mo:Bool) (X0:List Itm),x3=.bool mo/\ChG w0 wr cb gs cap b (P++[X0])/\Q4s Q X X0/\(mo=false->∀m∈X0,Q57 R q P X0 m))
   (fun x3 _ _ _ _ _ _ wr=>2*(10000-slN (wr.cell? ⟨gs,n,none⟩))+Q7z x3)
 case atStart=>exact⟨true,X,rfl,HC.out,HG.out,fun e=>by cases e⟩
 obtain⟨mo,X0,rfl,hC0,hg0,hd0⟩:=hrel;have jm:=hid hC0;have jq:=hid hg0;have jx:=hid hd0;have kf:Hid (slN (wr.cell? ⟨gs,n,none⟩)=X0.length):=hid (by rw[← j1.out];exact hC0.lenN);clear hC0 hg0 hd0 HC HG k1;cases mo
 ·go_wp2;exact bodyPost_end (results_none rfl _ _ _) rfl ⟨rfl,X0,jm.out,jq.out,jx.out (by first|rfl|trivial)⟩
 clear jx;go_wp2;go_loopw [3,4,5,6,7,8,9] (fun x3 x4 _ _ _ _ _ wr=>∃(k:Nat) (X2:List Itm),x3=.bool (decide (X0.length<X2.length))/\x4=.int .i64 k/\k<=X2.length/\ChG w0 wr cb gs cap b (P++[X2])/\Q4s Q X0 X2/\(X2.length=X0.length->∀m∈X0.take k,Q57 R q P X0 m))
   (fun _ x _ _ _ _ _ _=>10001-(intOf x).toNat)
 case atStart=>exact⟨0,X0,by simp,rfl,by omega,jm.out,jq.refl,fun _ m hm=>by simp at hm⟩
 obtain⟨k,X2,rfl,rfl,hk,hC2,hg2,hd2⟩:=hrel;have ku:=hg2.len j4.b jg;have k3:=hid (Q15 (B:=10001) k (by omega));have jj:=hid hC2;have j0:=hid hg2;have jn:=hid hd2;obtain⟨vs,a,c,hA,hl,hv,hI⟩:=hC2.set (qR _);rw[z2h]at hv hI;have k1:=hA.s;have k2:=hA.at hv;have kx:=hA.x;have HF:=hid hA.fr;rw[hl,j1.out]at k1;rw[j1.out]at k2;have s1:(n:Int)<((n+1:Nat):Int):=by omega
 clear hC2 hg2 hd2 jm;by_cases hlt:k<X2.length
 ·have s2:(k:Int)<(X2.length:Int):=by omega
  obtain⟨g,c',hgf⟩:=Joins.ownsRow_form hI.own (by omega);rw[qI]at hgf;obtain⟨rfl,_,rfl⟩:=hgf;have r1:=hI.range k hlt;have je:=j0.q _ (qG hlt);have k8:=fun(X4:List Itm) (h4:Q4s Q X2 X4)=>x0t (R:=R) (q:=q) (P:=P) j0.out h4 hlt jn.out;have k6:=hid k8;generalize X2[k]=m at r1 je k6;have l1:(ldI (.pointer (some ⟨g,k*3,none⟩))).run Tryz.prog wr=.ok (.agg (itA m.p m.d m.f)) wr:=z3a r1;have ko:=j4.b m je;have k9:=j4.f m je;rw[j1.out]at k9;have k5:=hid je;clear r1 k8 hI hA hv jn hl je;obtain⟨hm1,hm2,hm3⟩:=ko;go_upto_region 8 with(first
   |(refine z0e rfl 163 _ _ rfl wr _ (itA m.p m.d m.f) _ rfl rfl rfl szIt rfl (y79 _ _ _) ?_))
  have jt:=Q9x wr m 163;have jf:Q0a wr (wr.alloc (.cells (itA m.p m.d m.f) 163 (0,0))):=(mRf _ wr).alloc _;have ju:=z0a wr (.cells (itA m.p m.d m.f) 163 (0,0));generalize(wr.alloc (.cells (itA m.p m.d m.f) 163 (0,0)))=W2 at jt jf ju ⊢;have l2:(ldI (.pointer (some ⟨wr.heap.size,0,none⟩))).run Tryz.prog W2=.ok (.agg (itA m.p m.d m.f)) W2:=z3a jt;have jy:=hid jf;have jw:=hid ju;have SY:=hid (z5k W2 cb b R H q m (Q0i jf kx) (HS.fresh (HF.trans jf)) HQ.out hm1 (by omega));clear l1 k1 k2 kx jt jf ju;go_upto_if 43 with(first
   |(go_at_call 73;refine(SY.out).mono ?_;rintro e W3⟨rfl,hf3⟩;have jo:=hid (jy.trans hf3);have j2:=hid (hf3.at jw.out (fun x=>x));clear hf3))
  have jk:=hid (jj.fresh jo.out);have jz:=hid (HF.trans jo.out);have kk:∃x,q[m.p]? = some x:=⟨_,qE hm1⟩;obtain⟨x,hx⟩:=kk;have HX:=hid hx;have km:=HQ.hd x (qAd hx);clear hx l2 SY jy jw jj;generalize ja:decide (X0.length<X2.length)=mo;have jc:=hid ja;generalize jh:Q4q q m=sc;have jd:=hid jh;clear ja jh;go_cut [3,7] (fun s3 _ wx=>∃X3,s3=.bool (decide (X0.length<X3.length))/\ChG w0 wx cb gs cap b (P++[X3])/\Q4s Q X2 X3/\(sc<0->∀m'∈atS P X3 m.f,Q4q q m'=bs R+x.1->mvI m'∈X3))
  case first =>
   by_cases hneg:sc<0
   ·obtain⟨vs,hA⟩:=jk.out;have kx:=hA.x;have ki:=(HN.fresh jz.out).pr hm1;obtain⟨g3,o3,c3,g4,o4,n4,c4,al,cl,hPr⟩:=ki;have q3:=hPr.q3;have y3:=hPr.y3;have ex:q[m.p]=x:=by have:=HX.out;rw[qE hm1]at this;injection this
    rw[ex]at y3;have b0:W3.cell? ⟨wr.heap.size,0,none⟩=some (.int .i64 m.p):=Q0b j2.out 0;have b2:W3.cell? ⟨wr.heap.size,2,none⟩=some (.int .i64 m.f):=Q0b j2.out 2;have s4:(m.p:Int)<(q.length:Int):=by omega
    have WT:=hid (fun W (hW:Q0a W3 W)=>x7t w0 W cb gs cap b R H q P X2 Q m.f x.1 HS.out HQ.out (jk.fresh hW) j0.refl (by rw[j1.out];exact hP) (by rw[j1.out];exact k9) kh.out j4.b km (fun m' h1 h2=>j4.comp m x m' k5.out (by rw[jd.out];exact hneg) HX.out h1 h2));clear hA hPr j2 ex;cases mo;all_goals
     go_wp2_with fail
     go_region_with (first
      |(go_at_call 96;refine(WT.out _ (mRf _ W3).drew).mono ?_;rintro e W4⟨X3,rfl,hC4,hg4,ha4⟩;have j8:=hid hC4;have j3:=hid hg4;have kb:=hid ha4;clear hC4 hg4 ha4))
     all_goals
      go_wp2_with fail
      go_meet;exact⟨X3,by rw[y92 j0.out j3.out,jc.out];rfl,j8.out,j3.out,fun _=>kb.out⟩
   have kg:=hid hneg;go_wp2_with fail
   go_meet;exact⟨X2,by rw[jc.out],jk.out,j0.refl,fun e=>absurd e (by have:=kg.out;omega)⟩
  obtain⟨X3,rfl,hC3,hg3,ha3⟩:=hcut;have jb:=hid hC3;have j6:=hid hg3;have ka:=hid ha3;clear jk hC3 hg3 ha3 j2 jc mo jz jo HF;go_wp2;go_loopw [3,8,9] (fun x3 x8 _ wr=>∃(p:Nat) (X4:List Itm),x3=.bool (decide (X0.length<X4.length))/\x8=.int .i64 p/\p<=q.length/\ChG w0 wr cb gs cap b (P++[X4])/\Q4s Q X3 X4/\∀(p':Nat) (z:Q1),p'<p->q[p']? = some z->sc=bs R+z.1->(⟨p',0,P.length⟩:Itm)∈X4)
    (fun _ x _ _=>1001-(intOf x).toNat)
  case atStart=>exact⟨0,X3,rfl,rfl,by omega,jb.out,j6.refl,fun p' z h=>absurd h (by omega)⟩
  obtain⟨p,X4,rfl,rfl,hp,hC4,hg4,hB4⟩:=hrel;have kt:=hg4.len j4.b jg;have k4:=hid (Q15 (B:=1001) p (by omega));have j8:=hid hC4;have j3:=hid hg4;have jv:=hid hB4;obtain⟨vs,hA⟩:=hC4;have kx:=hA.x;have j9:=HN.fresh hA.fr;have z0:=j9.k0;have z1:=j9.k1;have BA:=hid (z1i wr b R a0 c0 z0 (by omega));have BQ:=hid (fun n=>z1i (wr.drewN n) b R a0 c0 (Q0i (Q0r wr n) z0) (by omega));have js:=(j0.trans j6.out).trans hg4;have j5:=hid js;have jl:Hid ((∀(p':Nat) (z:Q1),q[p']? = some z->sc=bs R+z.1->(⟨p',0,P.length⟩:Itm)∈X4)->X4.length=X0.length->∀m∈X0.take (k+1),Q57 R q P X0 m):=hid (fun hB=>k6.out X4 (j6.trans hg4) (fun hl hn y hy=>by
   have l3:=(j0.trans j6.out).le;have l4:=hg4.le;have e3:=(j0.trans j6.out).same (by omega);rw[HX.out]at hy;injection hy with hy;subst hy;have:=ka.out (by rw[← jd.out];exact hn);rw[e3]at this;exact this) (fun p' z hz e=>hB p' z hz (by rw[← jd.out];exact e)))
  clear jb hA hg4 hB4;by_cases hlp:p<q.length
  ·have s5:(p:Int)<(q.length:Int):=by omega
   by_cases hge:bs R<=sc
   ·have kj:=j9.pr hlp;obtain⟨g3,o3,c3,g4,o4,n4,c4,al,cl,hPr⟩:=kj;have q3:=hPr.q3;have y3:=hPr.y3;have hz:q[p]? = some q[p]:=qE hlp;have ji:Hid (∀X5,Q4s Q X4 X5->(sc=bs R+q[p].1->(⟨p,0,P.length⟩:Itm)∈X5)->∀(p':Nat) (z:Q1),p'<p+1->q[p']? = some z->sc=bs R+z.1->(⟨p',0,P.length⟩:Itm)∈X5):=hid (fun X5 h5 hin p' z hp' hz' e=>by
     rcases qBn p' p with r|r
     ·exact h5.mem (jv.out p' z r hz' e)
     obtain rfl:p'=p:=by omega
     rw[hz]at hz';injection hz' with hz';subst hz';exact hin e)
    have kn:=HQ.hd q[p] (qG hlp);have k7:sc=bs R+q[p].1->Q ⟨p,0,P.length⟩:=fun e=>j4.pred m p q[p] k5.out hz (by rw[jd.out];exact e);have jr:=hid k7;have kp:sc<=1000:=by
     rw[← jd.out];unfold Q4q;rw[HX.out];show(x.2[m.d]?).getD (-1)<=1000;cases hxd:x.2[m.d]? with
     |none=>simp
     |some y=>have:=(HQ.sy x (qAd HX.out)).2 y (qAd hxd);simp;omega
    generalize q[p]=y at y3 ji kn jr;have kw:IntKind.i64.wrap (sc-bs R)=sc-bs R:=by rw[IntKind.wrap_i64];unfold bs at hge ⊢;omega
    clear hPr j9 hz k7;by_cases heq:y.1=sc-bs R
    ·have jh:sc=bs R+y.1:=by omega
     have PU:Hid (∀W,Q0a wr W->Calls Tryz.prog 71 #[.pointer (some ⟨cb,0,none⟩),.agg (itA p 0 n)] W fun e w'=>e=.returned (.bool (!inI X4 ⟨p,0,n⟩))/\ChG w0 w' cb gs cap b (P++[Q8m X4 ⟨p,0,n⟩])):=hid (fun W hW=>y1v w0 W cb gs cap b P X4 ⟨p,0,n⟩ (j8.fresh hW) (by rw[j1.out];omega) (by omega));have j7:=hid (jr.out jh);have ja:=y8h j5.le ⟨p,0,n⟩;generalize decide (X0.length<X4.length)=mo at ja ⊢;have jc:=hid ja;rw[j1.out]at j7 ji;clear ja jr jl jh;cases mo;all_goals
      go_wp2_with (first
       |(go_at_call 34;refine csm BA.out ?_))
      go_quiet (first|(go_at_call 34;refine Calls.quiet_of_same (BQ.out _)));go_wp2_with (first
       |(go_at_call 71;refine(PU.out _ (Q0r _ _)).mono ?_;rintro e W5⟨rfl,hC5⟩;have kd:=hid hC5;clear hC5))
      go_roundw
      case rel=>exact⟨p+1,_,by rw[jc.out];rfl,by go_num,by omega,kd.out,j3.put j7.out,by rw[j1.out];exact ji.out _ (j3.refl.put j7.out) (fun _=>y17 _ _)⟩
      exact k4.out
    have kc:=hid (ji.out X4 j3.refl (fun e=>absurd (by omega:y.1=sc-bs R) heq));go_wp2_with (first
     |(go_at_call 34;refine csm BA.out ?_))
    go_quiet (first|(go_at_call 34;refine Calls.quiet_of_same (BQ.out _)));go_wp2;go_roundw
    case rel=>exact⟨p+1,X4,rfl,by go_num,by omega,j8.fresh (Q0r _ _),j3.out,kc.out⟩
    exact k4.out
   have jp:=hid (jl.out (fun p' z hz e=>by
    have:=(HQ.hd z (qAd hz)).1;omega))
   have kl:¬bs R<=sc:=hge;clear j9;go_wp2_with (first
    |(go_at_call 34;refine csm BA.out ?_))
   go_roundw
   case rel=>exact⟨k+1,X4,rfl,by go_num,by have:=(j6.trans j3.out).le;omega,j8.out,j5.out,jp.out⟩
   exact k3.out
  have s5:¬(p:Int)<(q.length:Int):=by omega
  have jp:=hid (jl.out (fun p' z hz e=>jv.out p' z (by have:=(qS hz).1;omega) hz e));clear j9;go_wp2;go_roundw
  case rel=>exact⟨k+1,X4,rfl,by go_num,by have:=(j6.trans j3.out).le;omega,j8.out,j5.out,jp.out⟩
  exact k3.out
 have s2:¬(k:Int)<(X2.length:Int):=by omega
 have ke:Hid (decide (X0.length<X2.length)=false->∀m∈X2,Q57 R q P X2 m):=hid (fun e m hm=>by
  have e1:¬X0.length<X2.length:=of_decide_eq_false e;have l:=j0.le;have e2:=j0.same (by omega);have:=jn.out (by omega);rw[qCh (by omega)]at this;rw[e2]at hm ⊢;exact this m hm)
 have kq:=j0.le;clear hI hA hv;go_wp2;go_roundw
 case rel=>exact⟨_,X2,rfl,jj.out,jq.trans j0.out,ke.out⟩
 have z1:=kf.out;have z2:=jj.lenN;rw[j1.out]at z2;rw[z1,z2];by_cases hgr:X0.length<X2.length
 ·rw[qBl hgr];show 2*(10000-X2.length)+1<2*(10000-X0.length)+1;omega
 rw[qBh hgr];show 2*(10000-X2.length)+0<2*(10000-X0.length)+1;omega
end Go.Proofs.YtcpceafmlgaodaaGreat
