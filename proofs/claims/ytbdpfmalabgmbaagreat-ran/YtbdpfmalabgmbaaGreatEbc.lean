import Derived.Test.YtbdpfmalabgmbaaGreatEbe
import Derived.Test.YtbdpfmalabgmbaaGreatRbc
namespace Go.Proofs.YtbdpfmalabgmbaaGreat
open Go.RowKit
set_option maxRecDepth 99999
set_option maxHeartbeats 0
set_option linter.all false
def Q9k(f:Nat->Nat):Nat->Nat
 |0=>0
 |n+1=>Q9k f n+f n
theorem z3z{f g:Nat->Nat}:∀{n:Nat},(∀i,i<n->f i<=g i)->Q9k f n<=Q9k g n
 |0,_=>qR _
 |n+1,h=>Nat.add_le_add (z3z fun i hi=>h i (by omega)) (h n (by omega))
theorem y7p{f g:Nat->Nat}{n:Nat}(h:∀i,i<n->f i=g i):Q9k f n=Q9k g n :=
 Nat.le_antisymm (z3z fun i hi=>by rw[h i hi];exact qR _) (z3z fun i hi=>by rw[h i hi];exact qR _)
theorem y3f{f g:Nat->Nat}:∀{n:Nat},(∀i,i<n->f i<=g i)->(∃i,i<n/\f i<g i)->Q9k f n<Q9k g n
 |0,_,⟨i,h,_⟩=>absurd h (by omega)
 |n+1,h,⟨i,hi,hl⟩=>by
  have h1:=z3z fun i (hi:i<n)=>h i (by omega);have h2:=h n (by omega);unfold Q9k;by_cases e:i=n
  ·subst e;omega
  have:=y3f (n:=n) (fun i hi=>h i (by omega)) ⟨i,by omega,hl⟩;omega
theorem y3e{f:Nat->Nat}{B:Nat}:∀{n:Nat},(∀i,i<n->f i<=B)->Q9k f n<=n*B
 |0,_=>by simp[Q9k]
 |n+1,h=>by
  have h1:=y3e fun i (hi:i<n)=>h i (by omega);have h2:=h n (by omega);unfold Q9k;rw[Nat.succ_mul];omega
def Q9o(H n:Nat)(D:List Mat):Nat:=Q9k (fun h=>Q9k (fun i=>Q9k (fun j=>(atM (D.getD h []) i j).toNat) n) n) H
def cntW(us:List Nat)(n:Nat)(w:World):Nat:=Q9k (fun h=>Q9k (fun i=>Q9k (fun j=>match w.cell? ⟨us.getD h 0,i,none⟩with
 |some (.slice (some a) _ _)=>(match w.cell? ⟨a.block,j,none⟩with
  |some (.bool true)=>1
  |_=>0)
 |_=>0) n) n) us.length
def Q97(D:List Mat)(h i:Nat)(r:List Bool):List Mat:=D.set h ((D.getD h []).set i r)
theorem z14{α:Type}(l:List α)(i j:Nat)(a d:α)(h:i<l.length):(l.set i a).getD j d=if j=i then a else l.getD j d:=by
 rw[qD,qCs,qD];by_cases e:i=j
 ·subst e;simp[h]
 rw[qAa e,qAa (fun x=>e x.symm)]
theorem x4k{D:List Mat}{h i:Nat}{r:List Bool}(hh:h<D.length)(hi:i<(D.getD h []).length)(h' i':Nat):((Q97 D h i r).getD h' []).getD i' []=if h'=h/\i'=i then r else(D.getD h' []).getD i' []:=by
 unfold Q97;rw[z14 _ _ _ _ _ hh];by_cases e:h'=h
 ·subst e;rw[qAb rfl,z14 _ _ _ _ _ hi];simp
 rw[qAa e,qAa (fun x=>e x.1)]
theorem x4l{D:List Mat}{h i:Nat}(hh:h<D.length)(hi:i<(D.getD h []).length):Q97 D h i ((D.getD h []).getD i [])=D:=by
 unfold Q97;have e:(D.getD h []).set i ((D.getD h []).getD i [])=D.getD h []:=by
  apply qEd;intro k;rw[qCs];by_cases e:i=k
  ·subst e;rw[qAb rfl,qAb hi,qD,qE hi];rfl
  rw[qAa e]
 rw[e];apply qEd;intro k;rw[qCs];by_cases e:h=k
 ·subst e;rw[qAb rfl,qAb hh,qD,qE hh];rfl
 rw[qAa e]
theorem y64{xs ys:List Bool}{n:Nat}:moI xs ys n=true↔∃j,j<n/\ys.getD j false=true/\xs.getD j false=false:=by
 unfold moI;rw[qBb];constructor
 ·rintro⟨j,h1,h2⟩;rw[List.mem_range]at h1;simp at h2;exact⟨j,h1,by simpa using h2.1,by simpa using h2.2⟩
 rintro⟨j,h1,h2,h3⟩;exact⟨j,List.mem_range.2 h1,by rw[h2,h3];rfl⟩
theorem x69{xs ys:List Bool}{n:Nat}(hl:xs.length=n)(h:moI xs ys n=false):orI xs ys n n=xs:=by
 apply qEu
 ·rw[z2s,hl]
 intro j h1 h2;have hj:j<n:=by rw[z2s]at h1;exact h1
 have e1:(orI xs ys n n).getD j false=xs.getD j false:=by
  rw[z9y hj];cases hx:xs.getD j false
  ·cases hy:ys.getD j false
   ·rfl
   have:=y64.2 ⟨j,hj,hy,hx⟩;rw[h]at this;cases this
  rfl
 rw[qD,qE h1,qD,qE h2]at e1;exact e1
section
variable {D:List Mat}{H n h i:Nat}{ys:List Bool}
theorem x91(hD:D.length=H)(hh:h<H)(hi:i<n)(hr:(D.getD h []).length=n):Q9o H n D<=Q9o H n (Q97 D h i (orI ((D.getD h []).getD i []) ys n n))/\(moI ((D.getD h []).getD i []) ys n=true->Q9o H n D<Q9o H n (Q97 D h i (orI ((D.getD h []).getD i []) ys n n))):=by
 have j0:∀h' i' j,j<n->(atM (D.getD h' []) i' j).toNat<=(atM ((Q97 D h i (orI ((D.getD h []).getD i []) ys n n)).getD h' []) i' j).toNat:=fun h' i' j hj=>by
  unfold atM;rw[x4k (by omega) (by omega)];split
  ·rename_i e;rw[e.1,e.2,z9y hj];cases ((D.getD h []).getD i []).getD j false<;>simp
  exact qR _
 refine⟨z3z fun h' _=>z3z fun i' _=>z3z fun j hj=>j0 h' i' j hj,fun hm=>?_⟩;obtain⟨j,hj,h1,h2⟩:=y64.1 hm;refine y3f (fun h' _=>z3z fun i' _=>z3z fun j hj=>j0 h' i' j hj) ⟨h,hh,y3f (fun i' _=>z3z fun j hj=>j0 h i' j hj) ⟨i,hi,y3f (fun j hj=>j0 h i j hj) ⟨j,hj,?_⟩⟩⟩;unfold atM;rw[x4k (by omega) (by omega),qAb ⟨rfl,rfl⟩,z9y hj,h1,h2];decide
theorem v11:Q9o H n D<=H*(n*(n*1)):=y3e fun _ _=>y3e fun _ _=>y3e fun j _=>by cases atM _ _ j<;>simp
end
def W0l(w:World)(n u:Nat)(M:Mat):Prop:=M.length=n/\∃cur,w.heap[u]? = some (.cells cur 118 (0,0))/\∀i,i<n->∃g,cur[i]? = some (bsl g n)/\Q1x w g (M.getD i [])/\(M.getD i []).length=n
theorem W0l.fresh{w w':World}{n u:Nat}{M:Mat}(h:W0l w n u M)(hf:Q0a w w'):W0l w' n u M:=by
 obtain⟨h0,j0,h1,h2⟩:=h;refine⟨h0,j0,hf.at h1 id,fun i hi=>?_⟩;obtain⟨g,g1,g2,g3⟩:=h2 i hi;exact⟨g,g1,g2.fresh hf,g3⟩
theorem x1e{w:World}{a b:Nat}{c1 c2:Array Value}{e1 e2:TypeId}{f1 f2:Nat × Nat}(h1:w.heap[a]? = some (.cells c1 e1 f1))(h2:w.heap[b]? = some (.cells c2 e2 f2))(he:e1≠e2):a≠b:=fun e=>by
 subst e;rw[h1]at h2;injection h2 with h2;injection h2 with _ h3;exact he h3
theorem z2z{w:World}{B k n:Nat}{e:TypeId}{v:Value}{xs:List Value}(h:w.ownsRow B e k v n xs){g:Nat}(hg:v.ownBlock=some g):∃cur,w.heap[g]? = some (.cells cur e (0,0)):=by
 obtain⟨h1,h2⟩:=h;rcases h2 with⟨q,_⟩|⟨g',cp,cur,q,_,j0,_⟩
 ·subst q;cases hg
 subst q;cases hg;exact⟨cur,j0⟩
theorem W0l.kept{w w':World}{n u:Nat}{M:Mat}(h:W0l w n u M)(hu:w'.heap[u]? = w.heap[u]?)(hb:∀(g:Nat) (c:Array Value),w.heap[g]? = some (.cells c 4 (0,0))->w'.heap[g]? = w.heap[g]?):W0l w' n u M:=by
 obtain⟨h0,j0,h1,h2⟩:=h;refine⟨h0,j0,by rw[hu];exact h1,fun i hi=>?_⟩;obtain⟨g,g1,g2,g3⟩:=h2 i hi;refine⟨g,g1,?_,g3⟩;unfold Q1x at g2 ⊢;rw[hb g _ g2];exact g2
structure DAt(w0 w:World)(sb b:Nat)(vk dv:Value)(n:Nat)(us:List (Nat × Nat))(D:List Mat):Prop where
 fr:Q0a w0 w
 c:w.heap[sb]? = some (.cells #[.pointer (some ⟨b,0,none⟩),vk,dv] 185 (0,0))
 sB:w0.heap.size<=sb
 own:w.ownsRow w0.heap.size 117 1 dv us.length (us.map fun u=>.slice (some ⟨u.1,0,none⟩) n u.2)
 len:us.length=D.length
 rows:∀(k:Nat) (u:Nat × Nat),us[k]? = some u->w0.heap.size<=u.1/\W0l w n u.1 (D.getD k [])
 inj:∀(j k:Nat) (u v:Nat × Nat),us[j]? = some u->us[k]? = some v->u.1=v.1->j=k
section
variable {w0 w w' W w2:World}{sb b n:Nat}{vk dv dv':Value}{us:List (Nat × Nat)}{D:List Mat}
theorem DAt.fresh(h:DAt w0 w sb b vk dv n us D)(hf:Q0a w w'):DAt w0 w' sb b vk dv n us D :=
 ⟨h.fr.trans hf,hf.at h.c id,h.sB,z0d h.own (fun g hg=>hf.block g (h.own.lt g hg).2 id),h.len,fun k u hu=>⟨(h.rows k u hu).1,(h.rows k u hu).2.fresh hf⟩,h.inj⟩
theorem DAt.push{u cap:Nat}{M:Mat}(h:DAt w0 w sb b vk dv n us D)(hf:Q0a w W)(hu:w.heap.size<=u)(hR:W0l W n u M) (ho:w2.ownsRow w0.heap.size 117 1 dv' (us.length+1) ((us.map fun u=>.slice (some ⟨u.1,0,none⟩) n u.2)++[.slice (some ⟨u,0,none⟩) n cap])) (hg:W.grownBy w2 dv.ownBlock) (hb:∀k,dv'.ownBlock=some k->dv.ownBlock=some k∨W.heap.size<=k) :
  DAt w0 (w2.setCell ⟨sb,2,none⟩ dv') sb b vk dv' n (us++[(u,cap)]) (D++[M]):=by
 have hW:=h.fresh hf;have keep:∀(x:Nat) (c:Array Value) (e:TypeId) (f:Nat × Nat),W.heap[x]? = some (.cells c e f)->e≠117->w2.heap[x]? = W.heap[x]? := fun x c e f hx he=>hg.block x (z0j hx) (fun q=>by
  obtain⟨j0,hc⟩:=z2z hW.own q.symm;exact x1e hx hc he rfl)
 have j1:w2.heap[sb]? = some (.cells #[.pointer (some ⟨b,0,none⟩),vk,dv] 185 (0,0)):=by rw[keep sb _ _ _ hW.c (by decide)];exact hW.c
 have j2:∀(x:Nat) (c:Array Value) (e:TypeId) (f:Nat × Nat),W.heap[x]? = some (.cells c e f)->e≠117->e≠185->(w2.setCell ⟨sb,2,none⟩ dv').heap[x]? = W.heap[x]? := fun x c e f hx h1 h2=>by
  rw[heap_setCell_other _ (show x≠sb from x1e hx hW.c h2)];exact keep x c e f hx h1
 have kr:∀(u:Nat) (M:Mat),W0l W n u M->W0l (w2.setCell ⟨sb,2,none⟩ dv') n u M:=fun u M hr=>by
  obtain⟨h0,j0,h1,h2⟩:=id hr;exact hr.kept (j2 u _ _ _ h1 (by decide) (by decide)) (fun g c hg=>j2 g _ _ _ hg (by decide) (by decide))
 have j3:=h.fr.size;have j4:=hf.size;have F:Q0a w0 w2:=Mod.grown (S:=fun _=>False) (h.fr.trans hf) hg (fun k hk hlt=>by have:=(h.own.lt k hk).1;omega);have lt:∀(k:Nat) (x:Nat × Nat),us[k]? = some x->x.1<w.heap.size:=fun k x hx=>by
  obtain⟨_,_,j0,h1,_⟩:=h.rows k x hx;exact z0j h1
 refine⟨F.setCell (p:=⟨sb,2,none⟩) (fun hlt=>absurd hlt (by have:=h.sB;dsimp only;omega)) _,?_,h.sB,?_,by simp[h.len],fun k x hx=>?_,fun j k x y hx hy e=>?_⟩
 ·rw[zhs j1 2];rfl
 ·rw[qP,qBp];exact z0d ho (fun g e=>by
   refine heap_setCell_other _ (show g≠sb from ?_);obtain⟨j0,hc⟩:=z2z ho e;exact x1e hc j1 (by decide))
 ·rcases qCk k us.length with q|q
  ·rw[qAl q]at hx;have hr:=hW.rows k x hx;refine⟨hr.1,?_⟩;rw[qD,qAl (by rw[← h.len];exact q),← qD];exact kr _ _ hr.2
  rw[qAr q]at hx;have e:k=us.length:=by
   have:=(qS hx).1;simp at this;omega
  subst e;simp at hx;subst hx;refine⟨by dsimp only;omega,?_⟩;rw[qD,h.len,qAr (qR _)];simp;exact kr _ _ hR
 rcases qCk j us.length with q|q<;>rcases qCk k us.length with r|r
 ·rw[qAl q]at hx;rw[qAl r]at hy;exact h.inj j k x y hx hy e
 ·rw[qAl q]at hx;rw[qAr r]at hy;have:=lt j x hx;have hk:=(qS hy).1;simp at hk;rw[show k-us.length=0 by omega]at hy;simp at hy;subst hy;dsimp only at e;omega
 ·rw[qAr q]at hx;rw[qAl r]at hy;have:=lt k y hy;have hk:=(qS hx).1;simp at hk;rw[show j-us.length=0 by omega]at hx;simp at hx;subst hx;dsimp only at e;omega
 have h1:=(qS hx).1;have h2:=(qS hy).1;simp at h1 h2;omega
theorem DAt.set(h:DAt w0 w sb b vk dv n us D){k i g:Nat}{u:Nat × Nat}{r:List Bool}(hu:us[k]? = some u)(hi:i<n)(hg:Q1x w g r)(hr:r.length=n):DAt w0 (w.setCell ⟨u.1,i,none⟩ (bsl g n)) sb b vk dv n us (Q97 D k i r):=by
 obtain⟨hB,h0,j4,h1,h2⟩:=h.rows k u hu;have j0:k<D.length:=by rw[← h.len];exact(qS hu).1
 have keep:∀(x:Nat) (c:Array Value) (e:TypeId) (f:Nat × Nat),w.heap[x]? = some (.cells c e f)->e≠118->(w.setCell ⟨u.1,i,none⟩ (bsl g n)).heap[x]? = w.heap[x]? := fun x c e f hx he=>heap_setCell_other _ (show x≠u.1 from x1e hx h1 he);refine⟨h.fr.setCell (p:=⟨u.1,i,none⟩) (fun hlt=>absurd hlt (by dsimp only;omega)) _,?_,h.sB,?_,by unfold Q97;rw[qBr];exact h.len,fun k' u' hu'=>?_,h.inj⟩
 ·rw[keep sb _ _ _ h.c (by decide)];exact h.c
 ·refine z0d h.own (fun x e=>?_);obtain⟨c,hc⟩:=z2z h.own e;exact keep x _ _ _ hc (by decide)
 obtain⟨j1,j2⟩:=h.rows k' u' hu';refine⟨j1,?_⟩;by_cases e:k'=k
 ·subst e;rw[hu]at hu';injection hu' with hu';subst hu';unfold Q97;rw[z14 _ _ _ _ _ j0,qAb rfl];refine⟨by rw[qBr];exact h0,_,zhs h1 i (bsl g n),fun i' hi'=>?_⟩;obtain⟨g',g1,g2,g3⟩:=h2 i' hi';by_cases e:i'=i
  ·subst e;have j3:=(Array.getElem?_eq_some_iff.1 g1).1;refine⟨g,by simp[j3],?_,?_⟩
   ·rw[z14 _ _ _ _ _ (by omega),qAb rfl];unfold Q1x at hg ⊢;rw[keep g _ _ _ hg (by decide)];exact hg
   rw[z14 _ _ _ _ _ (by omega),qAb rfl];exact hr
  refine⟨g',by rw[Array.getElem?_setIfInBounds_ne (fun x=>e x.symm)];exact g1,?_,?_⟩
  ·rw[z14 _ _ _ _ _ (by omega),qAa e];unfold Q1x at g2 ⊢;rw[keep g' _ _ _ g2 (by decide)];exact g2
  rw[z14 _ _ _ _ _ (by omega),qAa e];exact g3
 unfold Q97;rw[z14 _ _ _ _ _ j0,qAa e];exact j2.kept (heap_setCell_other _ (fun x=>e (h.inj k' k u' u hu' hu x))) (fun g c hg=>keep g _ _ _ hg (by decide))
theorem DAt.rowD{da:Option Addr}{m dc:Nat}(h:DAt w0 w sb b vk (.slice da m dc) n us D){k i:Nat}(hk:k<us.length)(hi:i<n):RowD w n da k i ((D.getD k []).getD i [])/\∃gd u g,da=some ⟨gd,0,none⟩/\us[k]? = some u/\w.cell? ⟨gd,k,none⟩=some (.slice (some ⟨u.1,0,none⟩) n u.2)/\w.cell? ⟨u.1,i,none⟩=some (bsl g n)/\w.frozen? ⟨u.1,i,none⟩=false/\Q1x w g ((D.getD k []).getD i []):=by
 obtain⟨gd,c',hv⟩:=Joins.ownsRow_form h.own (by omega);rw[qI]at hv;obtain⟨rfl,_,rfl⟩:=hv;have hu:us[k]? = some us[k]:=qE hk;obtain⟨hB,h0,j0,h1,h2⟩:=h.rows k _ hu;obtain⟨g,g1,g2,g3⟩:=h2 i hi;have e1:=h.own.cells (g:=gd) rfl k (.slice (some ⟨us[k].1,0,none⟩) n us[k].2) (by rw[qBt,hu];rfl);rw[qDd,qBy]at e1;have e2:w.cell? ⟨us[k].1,i,none⟩=some (bsl g n):=by rw[Q0b h1 i];exact g1
 exact⟨⟨gd,_,_,g,rfl,e1,e2,g2,g3⟩,gd,us[k],g,rfl,hu,e1,e2,Q0f h1 i,g2⟩
theorem DAt.cnt(h:DAt w0 w sb b vk dv n us D):cntW (us.map Prod.fst) n w=Q9o us.length n D:=by
 unfold cntW Q9o;rw[qAv];refine y7p fun k hk=>y7p fun i hi=>y7p fun j hj=>?_;have hu:us[k]? = some us[k]:=qE hk;obtain⟨hB,h0,j0,h1,h2⟩:=h.rows k _ hu;obtain⟨g,g1,g2,g3⟩:=h2 i hi;have eu:(us.map Prod.fst).getD k 0=us[k].1:=by rw[qD,qBt,hu];rfl
 rw[eu,Q0b h1 i,g1];show(match w.cell? ⟨g,j,none⟩with
  |some (.bool true)=>1
  |_=>0)=_
 rw[g2.cell (j:=j) (by omega)];unfold atM;cases ((D.getD k []).getD i []).getD j false<;>rfl
end
theorem Q1v.rowB{w:World}{B n:Nat}{v:Value}{gs:List Nat}{M:Mat}(h:Q1v w B n v gs M)(hs:Sq n M)(hn:0<n):∃u cap,v=.slice (some ⟨u,0,none⟩) n cap/\B<=u/\W0l w n u M:=by
 have j1:gs.length=n:=by rw[h.len,hs.len]
 obtain⟨u,cap,hv⟩:=Joins.ownsRow_form h.own (by omega);rw[j1]at hv;subst hv;obtain⟨j0,hc⟩:=z2z h.own (g:=u) rfl;refine⟨u,cap,rfl,(h.own.lt u rfl).1,hs.len,j0,hc,fun i hi=>?_⟩;have hg:gs[i]? = some gs[i]:=qE (by omega);refine⟨gs[i],?_,(h.blk i _ hg).2,hs.row i hi⟩;rw[← Q0b hc i];exact h.row hg
theorem x6h{q:List Q1}{rb:List Int->Nat->Nat->Bool}{h:Int}{i j p:Nat}{x:Q1}(hx:q[p]? = some x)(hp:(x.1==h&&rb x.2 i j)=true)(hn:∀(p':Nat) (y:Q1),p'<p->q[p']? = some y->(y.1==h&&rb y.2 i j)=false):Q9b q rb h i j=p:=by
 obtain⟨hl,he⟩:=qS hx;unfold Q9b;rw[List.findIdx_eq hl];refine⟨by rw[he];exact hp,fun k hk=>?_⟩;exact hn k _ hk (qE (by omega))
theorem x6i{q:List Q1}{rb:List Int->Nat->Nat->Bool}{h:Int}{i j:Nat}(hn:∀(p':Nat) (y:Q1),q[p']? = some y->(y.1==h&&rb y.2 i j)=false):q[Q9b q rb h i j]? = none:=by
 unfold Q9b;rw[qDt,qN (qR _)];intro x hx;obtain⟨k,hk⟩:=List.getElem?_of_mem hx;rw[hn k x hk]
attribute [local go_sem ↓] z17
theorem x5m(sb b R H:Nat)(q:List Q1)(ka:Option Addr)(kc:Nat)(l:List Int)(da:Option Addr)(dc:Nat)(D:List Mat)(hQ:QOk R H q)(hl:l.length<=60)(f:Nat)(hf:f+1<=2000)(hT:Q9a sb b R H q ka kc l da dc D f):Q9a sb b R H q ka kc l da dc D (f+1):=by
 intro w h i j hS kk hj hB;obtain⟨i0,kj,kr,ks,kt⟩:=Q9s;have ky:=hQ.r8;have kw:=hQ.h8;have kn:=hQ.p20;obtain⟨a0,c0,a1,c1,a2,c2,v3,v4,sv,hN⟩:=hS.s;have HN:=hid hN;have HS:=hid hS;have HQ:=hid hQ;have RE:=hid (fun(W:World) (hW:Q0a w W) (v:Value) (cs:List Int) (hv:Q1c W v cs) (h1:cs.length<=1000) (h2:∀c∈cs,0<=c/\c<(R:Int)+1+H)=>z95 W sb b R H q ka kc l da dc D (hS.fresh hW) hQ hl v cs hv h1 h2 i (by omega));have jy:Hid (∀cs,(rcF (bs R) l D cs i).length=l.length+1):=hid (fun cs=>by
  unfold rcF;have:∀(cs:List Int) (s:List Bool),s.length=l.length+1->(rhF (bs R) l D (l.length+1) cs s).length=l.length+1:=by
   intro cs;induction cs with
   |nil=>intro s hs;exact hs
   |cons c cs ih=>intro s hs;exact ih _ (y3d (bs R) l D c s)
  exact this cs _ (by simp))
 have kg:=hid (fun(W:World) (hW:Q0a w W) (v:Value) (cs:List Int) (hv:Q1c W v cs) (h1:cs.length<=6) (h2:∀c∈cs,0<=c/\c<(R:Int)+1+H) (h3:(Q9u (bs R) (rcB R l D) (Q5n (bs R) q (rcB R l D) f) cs i j).length<=1000000000000)=>v1f W sb b R H q ka kc l da dc D f (by omega) hT (hS.fresh hW) hQ hl v cs hv h1 h2 i j kk hj h3);generalize hVV:Q5n (bs R) q (rcB R l D) (f+1) h i j=V at hB ⊢;have k0:=hid hVV;generalize hn:l.length+1=n at RE jy;have kx:(j:Int)<(n:Int):=by omega
 have km:n<=61:=by omega
 generalize hfz:((f+1:Nat):Int)=fz;have sA:¬fz=0:=by omega
 have sB:(fz==0)=false:=by simpa using sA
 have x1:IntKind.i64.wrap (fz-1)=(f:Int):=by rw[qBv];omega
 have kl:j<n:=by omega
 clear hS hQ hN hT hVV hn hfz;go_enter Tryz.func54,Tryz.ntmps54
 go_wp2;go_loopw [10,11,12,13,14] (fun _ x11 _ _ _ wr=>∃p:Nat,x11=.int .i64 p/\p<=q.length/\Q0a w wr/\∀(p':Nat) (y:Q1),p'<p->q[p']? = some y->(y.1==h&&rcB R l D y.2 i j)=false)
   (fun _ x _ _ _ _=>1001-(intOf x).toNat)
 case atStart=>exact⟨0,rfl,by omega,mRf _ _,fun p' y hp=>absurd hp (by omega)⟩
 obtain⟨p,rfl,hp,jb,kb⟩:=hrel;have jw:=hid (Q19 (B:=1001) p (by omega));have HF:=hid jb;have je:=hid kb;have k7:=HS.fresh jb;have d0:=k7.c0;have ja:=HN.fresh jb;have z1:=ja.k1;clear kb k7;by_cases j7:p<q.length
 ·have s1:(p:Int)<(q.length:Int):=by omega
  have hx:q[p]? = some q[p]:=qE j7;obtain⟨g3,o3,c3,g4,o4,n4,c4,al,cl,j2⟩:=ja.pr j7;generalize q[p]=x at hx j2;have HX:=hid hx;have jx:=hid j2;have q4:=j2.q4;have y4:=j2.y4;have s4:(p:Int)<(n4:Int):=by have:=j2.n4;omega
  have jq:=HQ.sy x (qAi hx);have k2:=hid (RE.out wr jb _ x.2 j2.l (by omega) jq.2);have L1:=hid (jy.out x.2);have j8:Hid ((x.1==h&&rcB R l D x.2 i j)=false->∀(p':Nat) (y:Q1),p'<p+1->q[p']? = some y->(y.1==h&&rcB R l D y.2 i j)=false):=hid (fun e p' y hp' hy=>by
   rcases qCk p' p with z|z
   ·exact je.out p' y z hy
   obtain rfl:p'=p:=by omega
   rw[HX.out]at hy;injection hy with hy;subst hy;exact e)
  have jz:=hid jq;have ji:Hid ((x.1==h&&rcB R l D x.2 i j)=true->V=⟨(p:Int),-1,i,((Q9u (bs R) (rcB R l D) (Q5n (bs R) q (rcB R l D) f) x.2 i j).length:Int)+1⟩::Q9u (bs R) (rcB R l D) (Q5n (bs R) q (rcB R l D) f) x.2 i j):=hid (fun e=>by
   have ki:=x6h HX.out e je.out;rw[← k0.out,Q5n,ki,HX.out])
  have er:rcB R l D x.2 i j=(rcF (bs R) l D x.2 i).getD j false:=rfl;rw[er]at j8 ji;clear hx j2 ja jq er;go_upto_region 7 with(first
   |(go_at_call 86;refine(k2.out).mono ?_;rintro e W1⟨g1,rfl,k3,k8⟩;have js:=hid k3;have jc:=hid k8;clear k3 k8))
  have j9:=hid (jx.fresh jc.out);have p3:=j9.q3;have r3:=j9.y3;have d1:=Q0h jc.out d0;have b1:=js.cell (j:=j) (by rw[L1.out];exact kl);generalize(rcF (bs R) l D x.2 i).getD j false=bj at b1 j8 ji;have j4:=hid (HF.trans jc.out);clear q4 y4 d0 z1 k2 jx js;by_cases kd:x.1=h
  ·cases bj
   ·have jd:=hid (j8.out (by simp));go_wp2;go_roundw
    case rel=>exact⟨p+1,by go_num,by omega,j4.out,jd.out⟩
    exact jw.out
   have jh:=hid (ji.out (by simp[kd]));have k4:=hB;rw[jh.out,qBk]at k4;have RW:=hid (fun(W:World) (hW:Q0a W1 W)=>kg.out W (j4.trans hW) _ x.2 (j9.l.fresh hW) (by have:=jz.1;omega) jz.2 (by omega));generalize Q9u (bs R) (rcB R l D) (Q5n (bs R) q (rcB R l D) f) x.2 i j=RL at RW jh k4;have j6:Q0a W1 (W1.alloc (.cells #[.int .i64 p,.int .i64 (-1),.int .i64 i,.int .i64 0] 67)):=(mRf _ W1).alloc _;have ko:w.heap.size<=W1.heap.size:=j4.size;have k6:(W1.alloc (.cells #[.int .i64 p,.int .i64 (-1),.int .i64 i,.int .i64 0] 67)).ownsRow w.heap.size 67 4 (.slice (some ⟨W1.heap.size,0,none⟩) 1 1) 1 [.int .i64 p,.int .i64 (-1),.int .i64 i,.int .i64 0]:=World.ownsRow_lit W1 #[.int .i64 p,.int .i64 (-1),.int .i64 i,.int .i64 0] 1 ko (by unfold maxLen;omega) rfl;have jf:=hid k6;have jt:=hid j6;have jj:=hid (RW.out _ j6);have e2:=Q0h j6 d1;have jg:=j9.fresh j6;have q4:=jg.q4;have y4:=jg.y4;clear k6 j6 jg RW;go_upto_region 9 with fail
   generalize W1.alloc (.cells #[.int .i64 p,.int .i64 (-1),.int .i64 i,.int .i64 0] 67)=W2 at jf jt jj e2 q4 y4 ⊢;go_upto_region 10 with(first
    |(go_at_call 87;refine(jj.out).mono ?_;rintro e W3⟨v3,rfl,jo,k9⟩;have ke:=hid jo;have ju:=hid k9;obtain⟨ta,tc,kq⟩:=z0c jo;clear jo k9;subst kq))
   have jl:W3.ownsRow w.heap.size 67 4 (.slice (some ⟨W1.heap.size,0,none⟩) 1 1) 1 [.int .i64 p,.int .i64 (-1),.int .i64 i,.int .i64 0]:=z0d jf.out (fun g hg=>ju.block g (jf.lt g hg).2 id);have jk:Q0a w W3:=(j4.trans jt.out).trans ju.out;have x0:=jk.size;obtain⟨v',w4,jp,j0,j1,jm⟩:=x1w (P:=Tryz.prog) W3 w.heap.size 23 23 67 i0 _ 4 32 Tryz.underlying23 kj kr ks kt rfl (by decide) (.slice (some ⟨W1.heap.size,0,none⟩) 1 1) 1 [.int .i64 p,.int .i64 (-1),.int .i64 i,.int .i64 0] jl (.slice ta RL.length tc) RL.length (Q0y Nd.cells RL) (z0g ke.out (qBq _)) (x3z RL) (by unfold maxLen;omega) (by omega) (by omega);obtain⟨g',kh,kp⟩:=Joins.ownsRow_form j0 (by omega);subst kp;have k5:Q0a w w4:=Mod.grown (S:=fun _=>False) jk j1 (fun k hk j7=>by have:=(jl.lt k hk).1;omega);have kv:=(j0.lt g' rfl).1;have x3:=j0.cells (g:=g') rfl 3 (.int .i64 0) rfl;rw[qDd,qBy]at x3;have x4:w4.frozen? ⟨g',3,none⟩=false:=by
    obtain⟨ku,jn⟩:=z2z j0 (g:=g') rfl;exact Q0f jn 3
   have jr:=hid (z52 j0 (g:=g') rfl 3 (.int .i64 ((1+RL.length:Nat):Int)) (by simp));have jv:Hid (Q0a w (w4.setCell ⟨g',3,none⟩ (.int .i64 ((1+RL.length:Nat):Int)))):=hid (k5.setCell (fun j7=>absurd j7 (by dsimp only;omega)) _);have s9:(0:Int)<((1+RL.length:Nat):Int):=by omega
   have j5:Nd.cells ⟨(p:Int),-1,i,(RL.length:Int)+1⟩=[.int .i64 p,.int .i64 (-1),.int .i64 i,.int .i64 ((1+RL.length:Nat):Int)]:=by
    unfold Nd.cells;rw[show(((1+RL.length:Nat)):Int)=(RL.length:Int)+1 by omega]
   have j3:=hid j5;have kz:RL.length<=1000000000000:=by omega
   generalize hm:1+RL.length=m at jp jr jv s9 j3;have HM:=hid hm;clear j0 j1 jm jl k5 jk hm j5 e2 q4 y4 jj;go_wp2;go_ret;refine⟨_,rfl,?_,jv.out⟩;rw[jh.out];unfold Q2x;rw[qBk,show Q0y Nd.cells (⟨(p:Int),-1,i,(RL.length:Int)+1⟩::RL)=Nd.cells ⟨(p:Int),-1,i,(RL.length:Int)+1⟩++Q0y Nd.cells RL by simp[Q0y],j3.out,show RL.length+1=m by have:=HM.out;omega];exact jr.out
  have jd:=hid (j8.out (by simp[kd]));go_wp2;go_roundw
  case rel=>exact⟨p+1,by go_num,by omega,j4.out,jd.out⟩
  exact jw.out
 have s1:¬(p:Int)<(q.length:Int):=by omega
 have kf:Hid (V=[]):=hid (by
  rw[← k0.out,Q5n,x6i (fun p' y hy=>je.out p' y (by have:=(qS hy).1;omega) hy)])
 clear ja;go_wp2;go_ret;exact⟨_,rfl,by rw[kf.out];exact qAh _ _ _ _,HF.out⟩
theorem x5n(sb b R H:Nat)(q:List Q1)(ka:Option Addr)(kc:Nat)(l:List Int)(da:Option Addr)(dc:Nat)(D:List Mat):Q9a sb b R H q ka kc l da dc D 0:=by
 intro w h i j hS j0 hj hB;clear hS hB;go_enter Tryz.func54,Tryz.ntmps54
 go_wp2;go_ret;exact⟨_,rfl,qAh _ _ _ _,mRf _ _⟩
theorem y9s(sb b R H:Nat)(q:List Q1)(ka:Option Addr)(kc:Nat)(l:List Int)(da:Option Addr)(dc:Nat)(D:List Mat)(hQ:QOk R H q)(hl:l.length<=60):∀f,f<=2000->Q9a sb b R H q ka kc l da dc D f
 |0,_=>x5n sb b R H q ka kc l da dc D
 |f+1,hf=>x5m sb b R H q ka kc l da dc D hQ hl f hf (y9s sb b R H q ka kc l da dc D hQ hl f (by omega))
theorem z74(w:World)(b R H:Nat)(q:List Q1)(hK:NumOk R H q)(hS:Q3q w b R H q)(hlen:(zclF R H q).length<=10000000000) :
  Calls Tryz.prog 19 #[.pointer (some ⟨b,0,none⟩)] w fun e w'=>∃v,e=.returned v/\Q69 w' w.heap.size v (zclF R H q)/\Q0a w w':=by
 obtain⟨i0,xc,xg,xh,xi⟩:=infoBS';obtain⟨j0,xe,xj,xk,xl⟩:=infoCl';have hQ:=hK.qk;have r8:=hQ.r8;have h8:=hQ.h8;have p20:=hQ.p20;have k4:=hQ.pos;have AL:=hid (x9t w b R H q hS hQ hK.n);have AH:=hid (fun(W1:World) (ab gn:Nat) (vL:Value) (gL:List Nat) (hA:Q8c W1 w.heap.size ab b R H q gn vL gL) (hf:Q0a w W1) (W:World) (hW:Q0a W1 W) (i:Nat) (hi:i<q.length)=>x1j W w.heap.size ab b R H q gn vL gL i hi (hA.fresh hW) (hS.fresh (hf.trans hW)) hK);obtain⟨a0,c0,a1,c1,a2,c2,v3,v4,sv,hN⟩:=hS;have k0:=hN.k0;have k1:=hN.k1;have k2:=hN.k2;have k3:=hN.k3;obtain⟨xn,x0,e3,x3,jb⟩:=hN.r3;rw[qAv]at e3;obtain⟨g3,o3,rfl,_⟩:=jb 0 (by rw[qAv];exact k4);rw[e3]at k3;have k7:Hid (∀(i:Nat) (h:i<q.length),w.cell? ⟨g3,o3+i,none⟩=some (.int .i64 q[i].1)):=hid (fun i h=>by
  obtain⟨g,o,e,hc⟩:=jb i (by rw[qAv];exact h);rw[qO,Addr.mk.injEq]at e;obtain⟨rfl,rfl,_⟩:=e;rw[qCd]at hc;exact hc)
 have kk:bs R=((R+1:Nat):Int):=by unfold bs;omega
 have BA:=hid (fun(W:World) (hW:Q0a w W)=>z1j W b R a0 c0 (Q0h hW k0) (by omega));rw[kk]at BA;have jr:Hid (∀(i:Nat) (h:i<q.length),(Q5r R H q).take (i+1)=(Q5r R H q).take i++[ahF R H (Q4q (bs R) false q H) q q[i]]):=hid (fun i h=>by
  unfold Q5r;rw[← List.map_take,← List.map_take,qCu,qBp,qE h];rfl)
 have jy:Hid ((Q5r R H q).length=q.length):=hid (by unfold Q5r;simp);have js:Hid (∀i,i<q.length->((Q5r R H q).getD i []).length=R+1):=hid (fun i h=>by
  unfold Q5r;rw[qD,qBt,qE h];exact x9s _ _ _ _ _)
 have hV:zcH q (Q5r R H q) R H 0 []=zclF R H q:=rfl;generalize zclF R H q=V at hV hlen ⊢;have HV:=hid hV;generalize Q5r R H q=A at jr jy js HV;have x6:Hid (∀h j2,zcT q A h (R+1) 0 j2=zcT q A h (R+1) 0 j2):=hid (fun _ _=>rfl);clear hV hN x3 e3 jb hK hQ k0 kk x6;have xf:R+1<=9:=by omega
 go_enter Tryz.func19,Tryz.ntmps19
 go_wp2_with (first
  |(go_at_call 45;refine(AL.out).mono ?_;rintro e w1⟨ab,gn,vL,gL,rfl,kh,kl⟩;have k6:=hid kh;have jq:=hid kl;clear kh kl))
 have jp:=hid (fun(W:World) (hW:Q0a w1 W) (i:Nat) (hi:i<q.length)=>AH.out w1 ab gn vL gL k6.out jq.out W hW i hi);generalize ahF R H (Q4q (bs R) false q H) q=AF at jr jp;clear AH k6 AL;generalize hq1:R+1=R1 at BA js jp xf;have kz:=hid hq1;clear hq1;have xr:w.heap.size<=w1.heap.size:=jq.size;go_loopw [4,5,6] (fun x4 x5 _ wr=>∃(i:Nat) (gs:List Nat),x5=.int .i64 i/\i<=q.length/\gs.length=i/\Q1v wr w1.heap.size R1 x4 gs (A.take i)/\Q0a w1 wr)
   (fun _ x _ _=>1001-(intOf x).toNat)
 case atStart=>exact⟨0,[],rfl,by omega,rfl,Q1v.nil _ _ _,mRf _ _⟩
 obtain⟨i,gs,rfl,hi,jz,hM,j3⟩:=hrel;have ke:=hid (Q19 (B:=1001) i (by omega));have HM:=hid hM;have HF:=hid j3;have kd:=hid jz;have ju:=Q0h (jq.trans j3) k1;obtain⟨ao,cp,hv⟩:=z0c hM.own;subst hv;have xp:gs.length<=100:=by omega
 by_cases ji:i<q.length
 ·have s1:(i:Int)<(q.length:Int):=by omega
  have k5:=hid (jp.out wr j3 i ji);have kf:=hid (jr.out i ji);generalize AF q[i]=ah at k5 kf;clear hM j3 jz;go_wp2_with (first
   |(at_builtin;refine z0f _ rfl _ _ 117 rfl w1.heap.size 118 i0 _ 1 24 Tryz.underlying117 xc xg xh xi rfl (by decide) (.slice ao gs.length cp) gs.length _ rfl (ky.alloc _) ⟨w2.heap.size,0,none⟩ 1 1 [bsl g2 R1] rfl rfl (z0m rfl) (by intro u hu;simp at hu;subst hu;rfl) (by unfold maxLen;omega) (by omega) (by have z1:=HF.size;have z2:=j4.size;simp;omega) ?_)
   |(go_at_call 46;refine(k5.out).mono ?_;rintro e w2⟨g2,rfl,km,ki,jg⟩;have jw:=hid km;have kr:=hid ki;have j4:=hid jg;have ky:=hid (HM.fresh jg).own;clear km ki jg))
  intro v' w6 j7 j5 jd;have jg:Q0a w2 (w2.alloc (.cells #[bsl g2 R1] 118)):=(mRf _ w2).alloc _;have jj:Hid (Q1v w6 w1.heap.size R1 v' (gs++[g2]) (A.take (i+1))/\Q0a w1 w6):=hid (by
   refine⟨?_,Mod.grown (S:=fun _=>False) ((HF.trans j4.out).trans jg) j5 (fun k hk ji=>by have:=(HM.own.lt k hk).1;omega)⟩;rw[kf.out];refine((HM.fresh j4.out).fresh jg).next (kr.fresh jg) (qDa HF.size jw.out) ?_ ?_ j7 j5 (by simpa using jd)
   ·intro e;have:=(HM.own.lt _ e).2;have:=jw.out;omega
   intro x hx e;obtain⟨k,hk,rfl⟩:=qBf hx;have:=(HM.blk k _ (qE hk)).2.lt;have:=jw.out;omega)
  have jx:Hid ((gs++[g2]).length=i+1):=hid (by rw[qP,kd.out];rfl);clear j7 j5 jd jg;go_wp2;go_roundw
  case rel=>exact⟨i+1,_,by go_num,by omega,jx.out,jj.1,jj.2⟩
  exact ke.out
 have s1:¬(i:Int)<(q.length:Int):=by omega
 have xd:i=q.length:=by omega
 rw[xd,← jy.out,qAw]at hM;have xb:gs.length=q.length:=by omega
 obtain⟨ga,cv,hv⟩:=Joins.ownsRow_form hM.own (by omega);rw[qI]at hv;obtain⟨rfl,hx,rfl⟩:=hv;clear hx;rename World=>wA
 have j8:Q0a w wA:=jq.trans j3;have CE:Hid (∀W,Q0a wA W->W.cell? ⟨b,1,none⟩=some (.slice a1 q.length c1)/\W.cell? ⟨b,2,none⟩=some (.slice a2 H c2)/\W.cell? ⟨b,3,none⟩=some (.slice (some ⟨g3,o3,none⟩) q.length x0)):=hid (fun W hW=>⟨Q0h (j8.trans hW) k1,Q0h (j8.trans hW) k2,Q0h (j8.trans hW) k3⟩);have kq:=hid (fun(W:World) (hW:Q0a wA W)=>BA.out W (j8.trans hW));have k8:Hid (∀W,Q0a wA W->∀(i:Nat) (h:i<q.length),W.cell? ⟨g3,o3+i,none⟩=some (.int .i64 q[i].1)):=hid (fun W hW i h=>Q0h (j8.trans hW) (k7.out i h));have kg:Hid (∀W,Q0a wA W->∀i,i<q.length->∃gi,W.cell? ⟨ga,i,none⟩=some (bsl gi R1)/\∀t,t<R1->W.cell? ⟨gi,t,none⟩=some (.bool (atM A i t))):=hid (fun W hW i h=>by
  have kj:=hM.fresh hW;have kn:gs[i]? = some gs[i]:=qE (by omega);exact⟨_,kj.row kn,fun t ht=>(kj.blk i _ kn).2.cell (by rw[js.out i h];exact ht)⟩)
 have xa:q.length<=gs.length:=by omega
 have kc:=hid j8;clear hM j3 xb HM HF kd jz jp jr jy js k7 k1 k2 k3 BA j8 ke;go_wp2;go_loopw [7,8,9,10,11] (fun x7 x8 _ _ _ wr=>∃(h:Nat) (j2:List Cl),x8=.int .i64 h/\h<=H/\Q69 wr wA.heap.size x7 j2/\Q0a wA wr/\zcH q A R (H-h) h j2=V)
   (fun _ x _ _ _ _=>1001-(intOf x).toNat)
 case atStart=>exact⟨0,[],rfl,by omega,qAh _ _ _ _,mRf _ _,HV.out⟩
 clear ju HV;obtain⟨h,j2,rfl,hh,hC,j3,j1⟩:=hrel;have kv:=hid (Q19 (B:=1001) h (by omega));have j6:=hid hC;have j4:=hid j3;obtain⟨-,xm,-⟩:=CE.out wr j3;obtain⟨co,cc,hv⟩:=z0c hC;subst hv;by_cases ji:h<H
 ·have s2:(h:Int)<(H:Int):=by omega
  rw[v3i _ _ _ _ _ _ ji,kz.out]at j1;generalize hF3:zcT q A h R1 0 j2=F3 at j1;have ks:Hid (F3.length<=10000000000):=hid (by have:=y90 q A R (H-(h+1)) (h+1) F3;rw[j1]at this;omega);have jl:=hid j1;have k9:=hid hF3;clear j1 hF3 hC j3;go_wp2;go_loopw [7,9,10,11] (fun x7 x9 _ _ wr=>∃(t:Nat) (j2:List Cl),x9=.int .i64 t/\t<=R1/\Q69 wr wA.heap.size x7 j2/\Q0a wA wr/\zcT q A h (R1-t) t j2=F3)
    (fun _ x _ _ _=>1001-(intOf x).toNat)
  case atStart=>exact⟨0,j2,rfl,by omega,j6.out,j4.out,k9.out⟩
  clear xm j6 j4 k9;obtain⟨t,j2,rfl,ht,hC,j3,j1⟩:=hrel;have kx:=hid (Q19 (B:=1001) t (by omega));have j6:=hid hC;have j4:=hid j3;have jv:=hid (kq.out wr j3);obtain⟨co,cc,hv⟩:=z0c hC;subst hv;by_cases jh:t<R1
  ·have s3:(t:Int)<(R1:Int):=by omega
   rw[v3l _ _ _ _ _ _ jh]at j1;generalize hF4:zcI q A h t q.length 0 j2=F4 at j1;have kt:Hid (F4.length<=10000000000):=hid (by have:=y3s q A h (R1-(t+1)) (t+1) F4;rw[j1]at this;have:=ks.out;omega);have jn:=hid j1;have ka:=hid hF4;clear j1 hF4 hC j3;go_wp2_with (first
    |(go_at_call 47;refine csm jv.out ?_))
   go_loopw [7,10,11] (fun x7 x10 _ wr=>∃(i:Nat) (j2:List Cl),x10=.int .i64 i/\i<=q.length/\Q69 wr wA.heap.size x7 j2/\Q0a wA wr/\zcI q A h t (q.length-i) i j2=F4)
     (fun _ x _ _=>1001-(intOf x).toNat)
   case atStart=>exact⟨0,j2,rfl,by omega,j6.out,j4.out,ka.out⟩
   clear j6 j4 ka jv;obtain⟨i,j2,rfl,hi,hC,j3,j1⟩:=hrel;have kw:=hid (Q19 (B:=1001) i (by omega));have j6:=hid hC;have j4:=hid j3;obtain⟨ju,-,-⟩:=CE.out wr j3;obtain⟨co,cc,hv⟩:=z0c hC;subst hv;by_cases je:i<q.length
   ·have s4:(i:Int)<(q.length:Int):=by omega
    rw[v3j _ _ _ _ _ _ _ je]at j1;generalize hF5:zcJ q A h t i (q.length-(i+1)) (i+1) j2=F5 at j1;have ku:Hid (F5.length<=10000000000):=hid (by have:=y3q q A h t (q.length-(i+1)) (i+1) F5;rw[j1]at this;have:=kt.out;omega);have jm:=hid j1;have kb:=hid hF5;clear j1 hF5 hC j3;go_wp2;go_loopw [7,11] (fun x7 x11 wr=>∃(j:Nat) (j2:List Cl),x11=.int .i64 j/\j<=q.length/\i<j/\Q69 wr wA.heap.size x7 j2/\Q0a wA wr/\zcJ q A h t i (q.length-j) j j2=F5)
      (fun _ x _=>1001-(intOf x).toNat)
    case atStart=>exact⟨i+1,j2,by go_num,by omega,by omega,j6.out,j4.out,kb.out⟩
    clear ju j6 j4 kb;obtain⟨j,j2,rfl,hj,xq,hC,j3,j1⟩:=hrel;have jk:=hid (Q19 (B:=1001) j (by omega));have j6:=hid hC;have j4:=hid j3;obtain⟨ju,-,xt⟩:=CE.out wr j3;obtain⟨co,cc,hv⟩:=z0c hC;subst hv;by_cases jf:j<q.length
    ·have s5:(j:Int)<(q.length:Int):=by omega
     rw[v3k _ _ _ _ _ _ _ _ jf]at j1;have d1:=k8.out wr j3 i je;have d2:=k8.out wr j3 j jf;obtain⟨gi,x1,ko⟩:=kg.out wr j3 i je;obtain⟨gj,x2,kp⟩:=kg.out wr j3 j jf;have y1:=ko t jh;have y2:=kp t jh;have s6:(i:Int)<(gs.length:Int):=by omega
     have s7:(j:Int)<(gs.length:Int):=by omega
     have jo:hitB q A h t i j=(((q[i].1==(h:Int)&&q[j].1==(h:Int))&&atM A i t)&&atM A j t):=by
      unfold hitB;rw[qD,qE je,qD,qE jf];rfl
     rw[jo]at j1;generalize q[i].1=hdi at d1 j1;generalize q[j].1=hdj at d2 j1;generalize atM A i t=at1 at y1 j1;generalize atM A j t=at2 at y2 j1;generalize hb1:(hdi==(h:Int))=b1 at j1;generalize hb2:(hdj==(h:Int))=b2 at j1;have j9:=hid j1;clear j1 hC j3 ko kp jo;have ja:Hid ((((b1&&b2)&&at1)&&at2)=false->zcJ q A h t i (q.length-(j+1)) (j+1) j2=F5):=hid (fun e=>by have:=j9.out;rw[e,qAa (by simp)]at this;exact this);cases b1
     ·clear d2 x1 x2 y1 y2 hb2;go_wp2;go_roundw
      case rel=>exact⟨j+1,j2,by go_num,by omega,by omega,j6.out,j4.out,ja.out (by simp)⟩
      exact jk.out
     cases b2
     ·clear x1 x2 y1 y2;go_wp2;go_roundw
      case rel=>exact⟨j+1,j2,by go_num,by omega,by omega,j6.out,j4.out,ja.out (by simp)⟩
      exact jk.out
     cases at1
     ·clear x2 y2;go_wp2;go_roundw
      case rel=>exact⟨j+1,j2,by go_num,by omega,by omega,j6.out,j4.out,ja.out (by simp)⟩
      exact jk.out
     cases at2
     ·go_wp2;go_roundw
      case rel=>exact⟨j+1,j2,by go_num,by omega,by omega,j6.out,j4.out,ja.out (by simp)⟩
      exact jk.out
     have jt:=j9.out;rw[qAb (by simp)]at jt;have xo:j2.length+1<=10000000000:=by
      have:=y3r q A h t i (q.length-(j+1)) (j+1) (j2++[⟨h,t,i,j⟩]);rw[jt,qP,qAj]at this;have:=ku.out;omega
     have jc:=hid jt;have xs:wA.heap.size<=wr.heap.size:=j4.size;clear jt ja j9;go_wp2_with (first
      |(at_builtin;refine z0f _ rfl _ _ 57 rfl wA.heap.size 122 j0 _ 4 32 Tryz.underlying57 xe xj xk xl rfl (by decide) (.slice co j2.length cc) j2.length (Q0y Cl.cells j2) rfl (j6.alloc _) ⟨wr.heap.size,0,none⟩ 1 1 [.int .i64 h,.int .i64 t,.int .i64 i,.int .i64 j] rfl rfl (z0m rfl) (by intro u hu;simp only[qBu,qEi,or_false]at hu;rcases hu with rfl|rfl|rfl|rfl<;>rfl) (by unfold maxLen;omega) (by omega) (by simp;omega) ?_))
     intro v' w6 j7 j5 jd;have jj:Hid (Q69 w6 wA.heap.size v' (j2++[⟨h,t,i,j⟩])/\Q0a wA w6):=hid ⟨by unfold Q69;rw[z0v,qP,qAj];exact j7,Mod.grown (S:=fun _=>False) (j4.alloc _) j5 (fun k hk ji=>by have:=(j6.lt k hk).1;omega)⟩;clear j7 j5 jd;go_wp2;go_roundw
     case rel=>exact⟨j+1,_,by go_num,by omega,by omega,jj.1,jj.2,jc.out⟩
     exact jk.out
    have s5:¬(j:Int)<(q.length:Int):=by omega
    rw[show q.length-j=0 by omega]at j1;have jc:=hid j1;clear j1 hC j3;go_wp2;go_roundw
    case rel=>exact⟨i+1,j2,by go_num,by omega,j6.out,j4.out,by have:=jc.out;unfold zcJ at this;rw[this];exact jm.out⟩
    exact kw.out
   have s4:¬(i:Int)<(q.length:Int):=by omega
   rw[show q.length-i=0 by omega]at j1;have jc:=hid j1;clear j1 hC j3;go_wp2;go_roundw
   case rel=>exact⟨t+1,j2,by go_num,by omega,j6.out,j4.out,by have:=jc.out;unfold zcI at this;rw[this];exact jn.out⟩
   exact kx.out
  have s3:¬(t:Int)<(R1:Int):=by omega
  rw[show R1-t=0 by omega]at j1;have jc:=hid j1;clear j1 hC j3;go_wp2_with (first
   |(go_at_call 47;refine csm jv.out ?_))
  go_roundw
  case rel=>exact⟨h+1,j2,by go_num,by omega,j6.out,j4.out,by have:=jc.out;unfold zcT at this;rw[this];exact jl.out⟩
  exact kv.out
 have s2:¬(h:Int)<(H:Int):=by omega
 rw[show H-h=0 by omega]at j1;have jc:=hid j1;clear j1 hC j3;go_wp2;go_ret;have e:=jc.out;unfold zcH at e;refine⟨_,rfl,?_,kc.trans j4.out⟩;rw[← e];exact z0g j6.out kc.size
theorem y07{s:ByteArray}(hc:(Q0u s).1=0):(Q13 s).length<=10000000000:=by
 obtain⟨hT,hR⟩:=x5l (z2w hc);have h8:=(x37 (z2w hc)).qk.h8;have hz:((Q0p (Q0c s).1).zip (Q0r (Q7p s) (Q0p (Q0c s).1))).length<=1000:=by
  rw[List.length_zip];have:=(y5w hc).2.2;omega
 have:=y6r _ hz (Q0g (Q0c s).1).length (Q0j (Q0c s).1).length (by omega) ((Q0j (Q0c s).1).length+1) 0;unfold Q13 Q6g;omega
def ldCz(v:Value):Sem Value:=Instr.loadAt 122 v
theorem x3k(v:Value):Instr.loadAt 122 v=ldCz v:=rfl
attribute [local go_sem ↓] x3k
end Go.Proofs.YtbdpfmalabgmbaaGreat
