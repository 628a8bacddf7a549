import Derived.Test.YtcpceafmlgaodaaGreatEbe
import Derived.Test.YtcpceafmlgaodaaGreatRe3
namespace Go.Proofs.YtcpceafmlgaodaaGreat
open Go.RowKit
set_option maxRecDepth 99999
set_option maxHeartbeats 0
set_option linter.all false
def Q83(f:Nat->Nat):Nat->Nat
 |0=>0
 |n+1=>Q83 f n+f n
theorem z3v{f g:Nat->Nat}:∀{n:Nat},(∀i,i<n->f i<=g i)->Q83 f n<=Q83 g n
 |0,_=>qR _
 |n+1,h=>Nat.add_le_add (z3v fun i hi=>h i (by omega)) (h n (by omega))
theorem y67{f g:Nat->Nat}{n:Nat}(h:∀i,i<n->f i=g i):Q83 f n=Q83 g n :=
 Nat.le_antisymm (z3v fun i hi=>by rw[h i hi];exact qR _) (z3v fun i hi=>by rw[h i hi];exact qR _)
theorem y2x{f g:Nat->Nat}:∀{n:Nat},(∀i,i<n->f i<=g i)->(∃i,i<n/\f i<g i)->Q83 f n<Q83 g n
 |0,_,⟨i,h,_⟩=>absurd h (by omega)
 |n+1,h,⟨i,hi,hl⟩=>by
  have h1:=z3v fun i (hi:i<n)=>h i (by omega);have h2:=h n (by omega);unfold Q83;by_cases e:i=n
  ·subst e;omega
  have:=y2x (n:=n) (fun i hi=>h i (by omega)) ⟨i,by omega,hl⟩;omega
theorem y2w{f:Nat->Nat}{B:Nat}:∀{n:Nat},(∀i,i<n->f i<=B)->Q83 f n<=n*B
 |0,_=>by simp[Q83]
 |n+1,h=>by
  have h1:=y2w fun i (hi:i<n)=>h i (by omega);have h2:=h n (by omega);unfold Q83;rw[Nat.succ_mul];omega
def Q87(H n:Nat)(D:List Mat):Nat:=Q83 (fun h=>Q83 (fun i=>Q83 (fun j=>(atM (D.getD h []) i j).toNat) n) n) H
def cntW(us:List Nat)(n:Nat)(w:World):Nat:=Q83 (fun h=>Q83 (fun i=>Q83 (fun j=>match w.cell? ⟨us.getD h 0,i,none⟩with
 |some (.slice (some a) _ _)=>(match w.cell? ⟨a.block,j,none⟩with
  |some (.bool true)=>1
  |_=>0)
 |_=>0) n) n) us.length
def Q9s(D:List Mat)(h i:Nat)(r:List Bool):List Mat:=D.set h ((D.getD h []).set i r)
theorem z11{α:Type}(l:List α)(i j:Nat)(a d:α)(h:i<l.length):(l.set i a).getD j d=if j=i then a else l.getD j d:=by
 rw[qD,qBy,qD];by_cases e:i=j
 ·subst e;simp[h]
 rw[qAa e,qAa (fun x=>e x.symm)]
theorem x37{D:List Mat}{h i:Nat}{r:List Bool}(hh:h<D.length)(hi:i<(D.getD h []).length)(h' i':Nat):((Q9s D h i r).getD h' []).getD i' []=if h'=h/\i'=i then r else(D.getD h' []).getD i' []:=by
 unfold Q9s;rw[z11 _ _ _ _ _ hh];by_cases e:h'=h
 ·subst e;rw[qAb rfl,z11 _ _ _ _ _ hi];simp
 rw[qAa e,qAa (fun x=>e x.1)]
theorem x38{D:List Mat}{h i:Nat}(hh:h<D.length)(hi:i<(D.getD h []).length):Q9s D h i ((D.getD h []).getD i [])=D:=by
 unfold Q9s;have e:(D.getD h []).set i ((D.getD h []).getD i [])=D.getD h []:=by
  apply qDf;intro k;rw[qBy];by_cases e:i=k
  ·subst e;rw[qAb rfl,qAb hi,qD,qE hi];rfl
  rw[qAa e]
 rw[e];apply qDf;intro k;rw[qBy];by_cases e:h=k
 ·subst e;rw[qAb rfl,qAb hh,qD,qE hh];rfl
 rw[qAa e]
theorem y6n{xs ys:List Bool}{n:Nat}:moI xs ys n=true↔∃j,j<n/\ys.getD j false=true/\xs.getD j false=false:=by
 unfold moI;rw[qAq];constructor
 ·rintro⟨j,h1,h2⟩;rw[List.mem_range]at h1;simp at h2;exact⟨j,h1,by simpa using h2.1,by simpa using h2.2⟩
 rintro⟨j,h1,h2,h3⟩;exact⟨j,List.mem_range.2 h1,by rw[h2,h3];rfl⟩
theorem x6t{xs ys:List Bool}{n:Nat}(hl:xs.length=n)(h:moI xs ys n=false):orI xs ys n n=xs:=by
 apply qDu
 ·rw[z2l,hl]
 intro j h1 h2;have hj:j<n:=by rw[z2l]at h1;exact h1
 have e1:(orI xs ys n n).getD j false=xs.getD j false:=by
  rw[z9k hj];cases hx:xs.getD j false
  ·cases hy:ys.getD j false
   ·rfl
   have:=y6n.2 ⟨j,hj,hy,hx⟩;rw[h]at this;cases this
  rfl
 rw[qD,qE h1,qD,qE h2]at e1;exact e1
section
variable {D:List Mat}{H n h i:Nat}{ys:List Bool}
theorem x9c(hD:D.length=H)(hh:h<H)(hi:i<n)(hr:(D.getD h []).length=n):Q87 H n D<=Q87 H n (Q9s D h i (orI ((D.getD h []).getD i []) ys n n))/\(moI ((D.getD h []).getD i []) ys n=true->Q87 H n D<Q87 H n (Q9s D h i (orI ((D.getD h []).getD i []) ys n n))):=by
 have j0:∀h' i' j,j<n->(atM (D.getD h' []) i' j).toNat<=(atM ((Q9s D h i (orI ((D.getD h []).getD i []) ys n n)).getD h' []) i' j).toNat:=fun h' i' j hj=>by
  unfold atM;rw[x37 (by omega) (by omega)];split
  ·rename_i e;rw[e.1,e.2,z9k hj];cases ((D.getD h []).getD i []).getD j false<;>simp
  exact qR _
 refine⟨z3v fun h' _=>z3v fun i' _=>z3v fun j hj=>j0 h' i' j hj,fun hm=>?_⟩;obtain⟨j,hj,h1,h2⟩:=y6n.1 hm;refine y2x (fun h' _=>z3v fun i' _=>z3v fun j hj=>j0 h' i' j hj) ⟨h,hh,y2x (fun i' _=>z3v fun j hj=>j0 h i' j hj) ⟨i,hi,y2x (fun j hj=>j0 h i j hj) ⟨j,hj,?_⟩⟩⟩;unfold atM;rw[x37 (by omega) (by omega),qAb ⟨rfl,rfl⟩,z9k hj,h1,h2];decide
theorem v07:Q87 H n D<=H*(n*(n*1)):=y2w fun _ _=>y2w fun _ _=>y2w fun j _=>by cases atM _ _ j<;>simp
end
def Q96(w:World)(n u:Nat)(M:Mat):Prop:=M.length=n/\∃cur,w.heap[u]? = some (.cells cur 90 (0,0))/\∀i,i<n->∃g,cur[i]? = some (bsl g n)/\Q1y w g (M.getD i [])/\(M.getD i []).length=n
theorem Q96.fresh{w w':World}{n u:Nat}{M:Mat}(h:Q96 w n u M)(hf:Q0a w w'):Q96 w' n u M:=by
 obtain⟨h0,cur,h1,h2⟩:=h;refine⟨h0,cur,hf.at h1 (fun x=>x),fun i hi=>?_⟩;obtain⟨g,g1,g2,g3⟩:=h2 i hi;exact⟨g,g1,g2.fresh hf,g3⟩
theorem x5a{w:World}{a b:Nat}{c1 c2:Array Value}{e1 e2:TypeId}{f1 f2:Nat × Nat}(h1:w.heap[a]? = some (.cells c1 e1 f1))(h2:w.heap[b]? = some (.cells c2 e2 f2))(he:e1≠e2):a≠b:=fun e=>by
 subst e;rw[h1]at h2;injection h2 with h2;injection h2 with _ h3;exact he h3
theorem z3i{w:World}{B k n:Nat}{e:TypeId}{v:Value}{xs:List Value}(h:w.ownsRow B e k v n xs){g:Nat}(hg:v.ownBlock=some g):∃cur,w.heap[g]? = some (.cells cur e (0,0)):=by
 obtain⟨h1,h2⟩:=h;rcases h2 with⟨q,_⟩|⟨g',cp,cur,q,_,hg',_⟩
 ·subst q;cases hg
 subst q;cases hg;exact⟨cur,hg'⟩
theorem Q96.kept{w w':World}{n u:Nat}{M:Mat}(h:Q96 w n u M)(hu:w'.heap[u]? = w.heap[u]?)(hb:∀(g:Nat) (c:Array Value),w.heap[g]? = some (.cells c 4 (0,0))->w'.heap[g]? = w.heap[g]?):Q96 w' n u M:=by
 obtain⟨h0,cur,h1,h2⟩:=h;refine⟨h0,cur,by rw[hu];exact h1,fun i hi=>?_⟩;obtain⟨g,g1,g2,g3⟩:=h2 i hi;refine⟨g,g1,?_,g3⟩;unfold Q1y at g2 ⊢;rw[hb g _ g2];exact g2
structure DAt(w0 w:World)(sb b:Nat)(vk dv:Value)(n:Nat)(us:List (Nat × Nat))(D:List Mat):Prop where
 fr:Q0a w0 w
 c:w.heap[sb]? = some (.cells #[.pointer (some ⟨b,0,none⟩),vk,dv] 168 (0,0))
 sB:w0.heap.size<=sb
 own:w.ownsRow w0.heap.size 89 1 dv us.length (us.map fun u=>.slice (some ⟨u.1,0,none⟩) n u.2)
 len:us.length=D.length
 rows:∀(k:Nat) (u:Nat × Nat),us[k]? = some u->w0.heap.size<=u.1/\Q96 w n u.1 (D.getD k [])
 inj:∀(j k:Nat) (u v:Nat × Nat),us[j]? = some u->us[k]? = some v->u.1=v.1->j=k
section
variable {w0 w w' W w2:World}{sb b n:Nat}{vk dv dv':Value}{us:List (Nat × Nat)}{D:List Mat}
theorem DAt.fresh(h:DAt w0 w sb b vk dv n us D)(hf:Q0a w w'):DAt w0 w' sb b vk dv n us D :=
 ⟨h.fr.trans hf,hf.at h.c (fun x=>x),h.sB,z0c h.own (fun g hg=>hf.block g (h.own.lt g hg).2 (fun x=>x)),h.len,fun k u hu=>⟨(h.rows k u hu).1,(h.rows k u hu).2.fresh hf⟩,h.inj⟩
theorem DAt.push{u cap:Nat}{M:Mat}(h:DAt w0 w sb b vk dv n us D)(hf:Q0a w W)(hu:w.heap.size<=u)(hR:Q96 W n u M) (ho:w2.ownsRow w0.heap.size 89 1 dv' (us.length+1) ((us.map fun u=>.slice (some ⟨u.1,0,none⟩) n u.2)++[.slice (some ⟨u,0,none⟩) n cap])) (hg:W.grownBy w2 dv.ownBlock) (hb:∀k,dv'.ownBlock=some k->dv.ownBlock=some k∨W.heap.size<=k) :
  DAt w0 (w2.setCell ⟨sb,2,none⟩ dv') sb b vk dv' n (us++[(u,cap)]) (D++[M]):=by
 have hW:=h.fresh hf;have keep:∀(x:Nat) (c:Array Value) (e:TypeId) (f:Nat × Nat),W.heap[x]? = some (.cells c e f)->e≠89->w2.heap[x]? = W.heap[x]? := fun x c e f hx he=>hg.block x (z0j hx) (fun q=>by
  obtain⟨cur,hc⟩:=z3i hW.own q.symm;exact x5a hx hc he rfl)
 have j0:w2.heap[sb]? = some (.cells #[.pointer (some ⟨b,0,none⟩),vk,dv] 168 (0,0)):=by rw[keep sb _ _ _ hW.c (by decide)];exact hW.c
 have j1:∀(x:Nat) (c:Array Value) (e:TypeId) (f:Nat × Nat),W.heap[x]? = some (.cells c e f)->e≠89->e≠168->(w2.setCell ⟨sb,2,none⟩ dv').heap[x]? = W.heap[x]? := fun x c e f hx h1 h2=>by
  rw[heap_setCell_other _ (show x≠sb from x5a hx hW.c h2)];exact keep x c e f hx h1
 have kr:∀(u:Nat) (M:Mat),Q96 W n u M->Q96 (w2.setCell ⟨sb,2,none⟩ dv') n u M:=fun u M hr=>by
  obtain⟨h0,cur,h1,h2⟩:=id hr;exact hr.kept (j1 u _ _ _ h1 (by decide) (by decide)) (fun g c hg=>j1 g _ _ _ hg (by decide) (by decide))
 have j2:=h.fr.size;have j3:=hf.size;have F:Q0a w0 w2:=Mod.grown (S:=fun _=>False) (h.fr.trans hf) hg (fun k hk hlt=>by have:=(h.own.lt k hk).1;omega);have lt:∀(k:Nat) (x:Nat × Nat),us[k]? = some x->x.1<w.heap.size:=fun k x hx=>by
  obtain⟨_,_,cur,h1,_⟩:=h.rows k x hx;exact z0j h1
 refine⟨F.setCell (p:=⟨sb,2,none⟩) (fun hlt=>absurd hlt (by have:=h.sB;dsimp only;omega)) _,?_,h.sB,?_,by simp[h.len],fun k x hx=>?_,fun j k x y hx hy e=>?_⟩
 ·rw[zhs j0 2];rfl
 ·rw[qP,qBf];exact z0c ho (fun g e=>by
   refine heap_setCell_other _ (show g≠sb from ?_);obtain⟨cur,hc⟩:=z3i ho e;exact x5a hc j0 (by decide))
 ·rcases qBn k us.length with q|q
  ·rw[qAe q]at hx;have hr:=hW.rows k x hx;refine⟨hr.1,?_⟩;rw[qD,qAe (by rw[← h.len];exact q),← qD];exact kr _ _ hr.2
  rw[qAg q]at hx;have e:k=us.length:=by
   have:=(qS hx).1;simp at this;omega
  subst e;simp at hx;subst hx;refine⟨by dsimp only;omega,?_⟩;rw[qD,h.len,qAg (qR _)];simp;exact kr _ _ hR
 rcases qBn j us.length with q|q<;>rcases qBn k us.length with r|r
 ·rw[qAe q]at hx;rw[qAe r]at hy;exact h.inj j k x y hx hy e
 ·rw[qAe q]at hx;rw[qAg r]at hy;have:=lt j x hx;have hk:=(qS hy).1;simp at hk;rw[show k-us.length=0 by omega]at hy;simp at hy;subst hy;dsimp only at e;omega
 ·rw[qAg q]at hx;rw[qAe r]at hy;have:=lt k y hy;have hk:=(qS hx).1;simp at hk;rw[show j-us.length=0 by omega]at hx;simp at hx;subst hx;dsimp only at e;omega
 have h1:=(qS hx).1;have h2:=(qS hy).1;simp at h1 h2;omega
theorem DAt.set(h:DAt w0 w sb b vk dv n us D){k i g:Nat}{u:Nat × Nat}{r:List Bool}(hu:us[k]? = some u)(hi:i<n)(hg:Q1y w g r)(hr:r.length=n):DAt w0 (w.setCell ⟨u.1,i,none⟩ (bsl g n)) sb b vk dv n us (Q9s D k i r):=by
 obtain⟨hB,h0,cur,h1,h2⟩:=h.rows k u hu;have j0:k<D.length:=by rw[← h.len];exact(qS hu).1
 have keep:∀(x:Nat) (c:Array Value) (e:TypeId) (f:Nat × Nat),w.heap[x]? = some (.cells c e f)->e≠90->(w.setCell ⟨u.1,i,none⟩ (bsl g n)).heap[x]? = w.heap[x]? := fun x c e f hx he=>heap_setCell_other _ (show x≠u.1 from x5a hx h1 he);refine⟨h.fr.setCell (p:=⟨u.1,i,none⟩) (fun hlt=>absurd hlt (by dsimp only;omega)) _,?_,h.sB,?_,by unfold Q9s;rw[qBd];exact h.len,fun k' u' hu'=>?_,h.inj⟩
 ·rw[keep sb _ _ _ h.c (by decide)];exact h.c
 ·refine z0c h.own (fun x e=>?_);obtain⟨c,hc⟩:=z3i h.own e;exact keep x _ _ _ hc (by decide)
 obtain⟨hB',hr'⟩:=h.rows k' u' hu';refine⟨hB',?_⟩;by_cases e:k'=k
 ·subst e;rw[hu]at hu';injection hu' with hu';subst hu';unfold Q9s;rw[z11 _ _ _ _ _ j0,qAb rfl];refine⟨by rw[qBd];exact h0,_,zhs h1 i (bsl g n),fun i' hi'=>?_⟩;obtain⟨g',g1,g2,g3⟩:=h2 i' hi';by_cases e:i'=i
  ·subst e;have j1:=(Array.getElem?_eq_some_iff.1 g1).1;refine⟨g,by simp[j1],?_,?_⟩
   ·rw[z11 _ _ _ _ _ (by omega),qAb rfl];unfold Q1y at hg ⊢;rw[keep g _ _ _ hg (by decide)];exact hg
   rw[z11 _ _ _ _ _ (by omega),qAb rfl];exact hr
  refine⟨g',by rw[Array.getElem?_setIfInBounds_ne (fun x=>e x.symm)];exact g1,?_,?_⟩
  ·rw[z11 _ _ _ _ _ (by omega),qAa e];unfold Q1y at g2 ⊢;rw[keep g' _ _ _ g2 (by decide)];exact g2
  rw[z11 _ _ _ _ _ (by omega),qAa e];exact g3
 unfold Q9s;rw[z11 _ _ _ _ _ j0,qAa e];exact hr'.kept (heap_setCell_other _ (fun x=>e (h.inj k' k u' u hu' hu x))) (fun g c hg=>keep g _ _ _ hg (by decide))
theorem DAt.rowD{da:Option Addr}{m dc:Nat}(h:DAt w0 w sb b vk (.slice da m dc) n us D){k i:Nat}(hk:k<us.length)(hi:i<n):RowD w n da k i ((D.getD k []).getD i [])/\∃gd u g,da=some ⟨gd,0,none⟩/\us[k]? = some u/\w.cell? ⟨gd,k,none⟩=some (.slice (some ⟨u.1,0,none⟩) n u.2)/\w.cell? ⟨u.1,i,none⟩=some (bsl g n)/\w.frozen? ⟨u.1,i,none⟩=false/\Q1y w g ((D.getD k []).getD i []):=by
 obtain⟨gd,c',hv⟩:=Joins.ownsRow_form h.own (by omega);rw[qI]at hv;obtain⟨rfl,_,rfl⟩:=hv;have hu:us[k]? = some us[k]:=qE hk;obtain⟨hB,h0,cur,h1,h2⟩:=h.rows k _ hu;obtain⟨g,g1,g2,g3⟩:=h2 i hi;have e1:=h.own.cells (g:=gd) rfl k (.slice (some ⟨us[k].1,0,none⟩) n us[k].2) (by rw[qBe,hu];rfl);rw[Addr.add_mid,qBi]at e1;have e2:w.cell? ⟨us[k].1,i,none⟩=some (bsl g n):=by rw[Q0b h1 i];exact g1
 exact⟨⟨gd,_,_,g,rfl,e1,e2,g2,g3⟩,gd,us[k],g,rfl,hu,e1,e2,Q0g h1 i,g2⟩
theorem DAt.cnt(h:DAt w0 w sb b vk dv n us D):cntW (us.map Prod.fst) n w=Q87 us.length n D:=by
 unfold cntW Q87;rw[qAo];refine y67 fun k hk=>y67 fun i hi=>y67 fun j hj=>?_;have hu:us[k]? = some us[k]:=qE hk;obtain⟨hB,h0,cur,h1,h2⟩:=h.rows k _ hu;obtain⟨g,g1,g2,g3⟩:=h2 i hi;have eu:(us.map Prod.fst).getD k 0=us[k].1:=by rw[qD,qBe,hu];rfl
 rw[eu,Q0b h1 i,g1];show(match w.cell? ⟨g,j,none⟩with
  |some (.bool true)=>1
  |_=>0)=_
 rw[g2.cell (j:=j) (by omega)];unfold atM;cases ((D.getD k []).getD i []).getD j false<;>rfl
end
theorem Q1t.rowB{w:World}{B n:Nat}{v:Value}{gs:List Nat}{M:Mat}(h:Q1t w B n v gs M)(hs:Sq n M)(hn:0<n):∃u cap,v=.slice (some ⟨u,0,none⟩) n cap/\B<=u/\Q96 w n u M:=by
 have j0:gs.length=n:=by rw[h.len,hs.len]
 obtain⟨u,cap,hv⟩:=Joins.ownsRow_form h.own (by omega);rw[j0]at hv;subst hv;obtain⟨cur,hc⟩:=z3i h.own (g:=u) rfl;refine⟨u,cap,rfl,(h.own.lt u rfl).1,hs.len,cur,hc,fun i hi=>?_⟩;have hg:gs[i]? = some gs[i]:=qE (by omega);refine⟨gs[i],?_,(h.blk i _ hg).2,hs.row i hi⟩;rw[← Q0b hc i];exact h.row hg
theorem x50{q:List Q1}{rb:List Int->Nat->Nat->Bool}{h:Int}{i j p:Nat}{x:Q1}(hx:q[p]? = some x)(hp:(x.1==h&&rb x.2 i j)=true)(hn:∀(p':Nat) (y:Q1),p'<p->q[p']? = some y->(y.1==h&&rb y.2 i j)=false):Q8v q rb h i j=p:=by
 obtain⟨hl,he⟩:=qS hx;unfold Q8v;rw[List.findIdx_eq hl];refine⟨by rw[he];exact hp,fun k hk=>?_⟩;exact hn k _ hk (qE (by omega))
theorem x51{q:List Q1}{rb:List Int->Nat->Nat->Bool}{h:Int}{i j:Nat}(hn:∀(p':Nat) (y:Q1),q[p']? = some y->(y.1==h&&rb y.2 i j)=false):q[Q8v q rb h i j]? = none:=by
 unfold Q8v;rw[qCv,qN (qR _)];intro x hx;obtain⟨k,hk⟩:=List.getElem?_of_mem hx;rw[hn k x hk]
attribute [local go_sem ↓] z13
theorem x48(sb b R H:Nat)(q:List Q1)(ka:Option Addr)(kc:Nat)(l:List Int)(da:Option Addr)(dc:Nat)(D:List Mat)(hQ:QOk R H q)(hl:l.length<=60)(f:Nat)(hf:f+1<=2000)(hT:Q8t sb b R H q ka kc l da dc D f):Q8t sb b R H q ka kc l da dc D (f+1):=by
 intro w h i j hS hij hj hB;obtain⟨i0,hi0,iz0,iz1,iz2⟩:=Q9c;have k9:=hQ.r8;have k7:=hQ.h8;have k4:=hQ.p20;obtain⟨a0,c0,a1,c1,a2,c2,v3,v4,sv,hN⟩:=hS.s;have HN:=hid hN;have HS:=hid hS;have HQ:=hid hQ;have RE:=hid (fun(W:World) (hW:Q0a w W) (v:Value) (cs:List Int) (hv:Q0z W v cs) (h1:cs.length<=1000) (h2:∀c∈cs,0<=c/\c<(R:Int)+1+H)=>z9r W sb b R H q ka kc l da dc D (hS.fresh hW) hQ hl v cs hv h1 h2 i (by omega));have jp:Hid (∀cs,(rcF (bs R) l D cs i).length=l.length+1):=hid (fun cs=>by
  unfold rcF;have:∀(cs:List Int) (s:List Bool),s.length=l.length+1->(rhF (bs R) l D (l.length+1) cs s).length=l.length+1:=by
   intro cs;induction cs with
   |nil=>intro s hs;exact hs
   |cons c cs ih=>intro s hs;exact ih _ (y2v (bs R) l D c s)
  exact this cs _ (by simp))
 have jz:=hid (fun(W:World) (hW:Q0a w W) (v:Value) (cs:List Int) (hv:Q0z W v cs) (h1:cs.length<=6) (h2:∀c∈cs,0<=c/\c<(R:Int)+1+H) (h3:(Q9e (bs R) (rcB R l D) (Q5c (bs R) q (rcB R l D) f) cs i j).length<=1000000000000)=>v0o W sb b R H q ka kc l da dc D f (by omega) hT (hS.fresh hW) hQ hl v cs hv h1 h2 i j hij hj h3);generalize hVV:Q5c (bs R) q (rcB R l D) (f+1) h i j=V at hB ⊢;have jr:=hid hVV;generalize hn:l.length+1=n at RE jp;have k8:(j:Int)<(n:Int):=by omega
 have k3:n<=61:=by omega
 generalize hfz:((f+1:Nat):Int)=fz;have sA:¬fz=0:=by omega
 have sB:(fz==0)=false:=by simpa using sA
 have ke:IntKind.i64.wrap (fz-1)=(f:Int):=by rw[IntKind.wrap_i64];omega
 have k2:j<n:=by omega
 clear hS hQ hN hT hVV hn hfz;go_enter Tryz.func40,Tryz.ntmps40
 go_wp2;go_loopw [10,11,12,13,14] (fun _ x11 _ _ _ wr=>∃p:Nat,x11=.int .i64 p/\p<=q.length/\Q0a w wr/\∀(p':Nat) (y:Q1),p'<p->q[p']? = some y->(y.1==h&&rcB R l D y.2 i j)=false)
   (fun _ x _ _ _ _=>1001-(intOf x).toNat)
 case atStart=>exact⟨0,rfl,by omega,mRf _ _,fun p' y hp=>absurd hp (by omega)⟩
 obtain⟨p,rfl,hp,hfr,hno⟩:=hrel;have jn:=hid (Q15 (B:=1001) p (by omega));have HF:=hid hfr;have j9:=hid hno;have jw:=HS.fresh hfr;have d0:=jw.c0;have j6:=HN.fresh hfr;have z1:=j6.k1;clear hno jw;by_cases hlt:p<q.length
 ·have s1:(p:Int)<(q.length:Int):=by omega
  have hx:q[p]? = some q[p]:=qE hlt;obtain⟨g3,o3,c3,g4,o4,n4,c4,al,cl,hPr⟩:=j6.pr hlt;generalize q[p]=x at hx hPr;have HX:=hid hx;have jo:=hid hPr;have q4:=hPr.q4;have y4:=hPr.y4;have s4:(p:Int)<(n4:Int):=by have:=hPr.n4;omega
  have jh:=HQ.sy x (qAd hx);have js:=hid (RE.out wr hfr _ x.2 hPr.l (by omega) jh.2);have L1:=hid (jp.out x.2);have j4:Hid ((x.1==h&&rcB R l D x.2 i j)=false->∀(p':Nat) (y:Q1),p'<p+1->q[p']? = some y->(y.1==h&&rcB R l D y.2 i j)=false):=hid (fun e p' y hp' hy=>by
   rcases qBn p' p with z|z
   ·exact j9.out p' y z hy
   obtain rfl:p'=p:=by omega
   rw[HX.out]at hy;injection hy with hy;subst hy;exact e)
  have jq:=hid jh;have jd:Hid ((x.1==h&&rcB R l D x.2 i j)=true->V=⟨(p:Int),-1,i,((Q9e (bs R) (rcB R l D) (Q5c (bs R) q (rcB R l D) f) x.2 i j).length:Int)+1⟩::Q9e (bs R) (rcB R l D) (Q5c (bs R) q (rcB R l D) f) x.2 i j):=hid (fun e=>by
   have k0:=x50 HX.out e j9.out;rw[← jr.out,Q5c,k0,HX.out])
  have er:rcB R l D x.2 i j=(rcF (bs R) l D x.2 i).getD j false:=rfl;rw[er]at j4 jd;clear hx hPr j6 jh er;go_upto_region 7 with(first
   |(go_at_call 75;refine(js.out).mono ?_;rintro e W1⟨g1,rfl,hB1,hf1⟩;have jj:=hid hB1;have j7:=hid hf1;clear hB1 hf1))
  have j5:=hid (jo.fresh j7.out);have p3:=j5.q3;have r3:=j5.y3;have d1:=Q0i j7.out d0;have b1:=jj.cell (j:=j) (by rw[L1.out];exact k2);generalize(rcF (bs R) l D x.2 i).getD j false=bj at b1 j4 jd;have j1:=hid (HF.trans j7.out);clear q4 y4 d0 z1 js jo jj;by_cases hxh:x.1=h
  ·cases bj
   ·have j8:=hid (j4.out (by simp));go_wp2;go_roundw
    case rel=>exact⟨p+1,by go_num,by omega,j1.out,j8.out⟩
    exact jn.out
   have jc:=hid (jd.out (by simp[hxh]));have jt:=hB;rw[jc.out,qAy]at jt;have RW:=hid (fun(W:World) (hW:Q0a W1 W)=>jz.out W (j1.trans hW) _ x.2 (j5.l.fresh hW) (by have:=jq.1;omega) jq.2 (by omega));generalize Q9e (bs R) (rcB R l D) (Q5c (bs R) q (rcB R l D) f) x.2 i j=RL at RW jc jt;have j3:Q0a W1 (W1.alloc (.cells #[.int .i64 p,.int .i64 (-1),.int .i64 i,.int .i64 0] 59)):=(mRf _ W1).alloc _;have k5:w.heap.size<=W1.heap.size:=j1.size;have jv:(W1.alloc (.cells #[.int .i64 p,.int .i64 (-1),.int .i64 i,.int .i64 0] 59)).ownsRow w.heap.size 59 4 (.slice (some ⟨W1.heap.size,0,none⟩) 1 1) 1 [.int .i64 p,.int .i64 (-1),.int .i64 i,.int .i64 0]:=World.ownsRow_lit W1 #[.int .i64 p,.int .i64 (-1),.int .i64 i,.int .i64 0] 1 k5 (by unfold maxLen;omega) rfl;have ja:=hid jv;have jk:=hid j3;have je:=hid (RW.out _ j3);have e2:=Q0i j3 d1;have jb:=j5.fresh j3;have q4:=jb.q4;have y4:=jb.y4;clear jv j3 jb RW;go_upto_region 9 with fail
   generalize W1.alloc (.cells #[.int .i64 p,.int .i64 (-1),.int .i64 i,.int .i64 0] 59)=W2 at ja jk je e2 q4 y4 ⊢;go_upto_region 10 with(first
    |(go_at_call 76;refine(je.out).mono ?_;rintro e W3⟨v3,rfl,ho3,hf3⟩;have jx:=hid ho3;have jl:=hid hf3;obtain⟨ta,tc,hv3⟩:=z0d ho3;clear ho3 hf3;subst hv3))
   have jg:W3.ownsRow w.heap.size 59 4 (.slice (some ⟨W1.heap.size,0,none⟩) 1 1) 1 [.int .i64 p,.int .i64 (-1),.int .i64 i,.int .i64 0]:=z0c ja.out (fun g hg=>jl.block g (ja.lt g hg).2 (fun x=>x));have jf:Q0a w W3:=(j1.trans jk.out).trans jl.out;have kd:=jf.size;obtain⟨v',w4,hrun,hown,hgrow,hblk⟩:=x1d (P:=Tryz.prog) W3 w.heap.size 23 23 59 i0 _ 4 32 Tryz.underlying23 hi0 iz0 iz1 iz2 rfl (by decide) (.slice (some ⟨W1.heap.size,0,none⟩) 1 1) 1 [.int .i64 p,.int .i64 (-1),.int .i64 i,.int .i64 0] jg (.slice ta RL.length tc) RL.length (Q00 Nd.cells RL) (z0f jx.out (qBg _)) (x3j RL) (by unfold maxLen;omega) (by omega) (by omega);obtain⟨g',cap',hv'⟩:=Joins.ownsRow_form hown (by omega);subst hv';have ju:Q0a w w4:=Mod.grown (S:=fun _=>False) jf hgrow (fun k hk hlt=>by have:=(jg.lt k hk).1;omega);have k6:=(hown.lt g' rfl).1;have x3:=hown.cells (g:=g') rfl 3 (.int .i64 0) rfl;rw[Addr.add_mid,qBi]at x3;have x4:w4.frozen? ⟨g',3,none⟩=false:=by
    obtain⟨cur,hcur⟩:=z3i hown (g:=g') rfl;exact Q0g hcur 3
   have ji:=hid (z4p hown (g:=g') rfl 3 (.int .i64 ((1+RL.length:Nat):Int)) (by simp));have jm:Hid (Q0a w (w4.setCell ⟨g',3,none⟩ (.int .i64 ((1+RL.length:Nat):Int)))):=hid (ju.setCell (fun hlt=>absurd hlt (by dsimp only;omega)) _);have s9:(0:Int)<((1+RL.length:Nat):Int):=by omega
   have j2:Nd.cells ⟨(p:Int),-1,i,(RL.length:Int)+1⟩=[.int .i64 p,.int .i64 (-1),.int .i64 i,.int .i64 ((1+RL.length:Nat):Int)]:=by
    unfold Nd.cells;rw[show(((1+RL.length:Nat)):Int)=(RL.length:Int)+1 by omega]
   have j0:=hid j2;have kb:RL.length<=1000000000000:=by omega
   generalize hm:1+RL.length=m at hrun ji jm s9 j0;have HM:=hid hm;clear hown hgrow hblk jg ju jf hm j2 e2 q4 y4 je;go_wp2;go_ret;refine⟨_,rfl,?_,jm.out⟩;rw[jc.out];unfold Q3l;rw[qAy,show Q00 Nd.cells (⟨(p:Int),-1,i,(RL.length:Int)+1⟩::RL)=Nd.cells ⟨(p:Int),-1,i,(RL.length:Int)+1⟩++Q00 Nd.cells RL by simp[Q00],j0.out,show RL.length+1=m by have:=HM.out;omega];exact ji.out
  have j8:=hid (j4.out (by simp[hxh]));go_wp2;go_roundw
  case rel=>exact⟨p+1,by go_num,by omega,j1.out,j8.out⟩
  exact jn.out
 have s1:¬(p:Int)<(q.length:Int):=by omega
 have jy:Hid (V=[]):=hid (by
  rw[← jr.out,Q5c,x51 (fun p' y hy=>j9.out p' y (by have:=(qS hy).1;omega) hy)])
 clear j6;go_wp2;go_ret;exact⟨_,rfl,by rw[jy.out];exact World.ownsRow_nil _ _ _ _,HF.out⟩
theorem x49(sb b R H:Nat)(q:List Q1)(ka:Option Addr)(kc:Nat)(l:List Int)(da:Option Addr)(dc:Nat)(D:List Mat):Q8t sb b R H q ka kc l da dc D 0:=by
 intro w h i j hS hij hj hB;clear hS hB;go_enter Tryz.func40,Tryz.ntmps40
 go_wp2;go_ret;exact⟨_,rfl,World.ownsRow_nil _ _ _ _,mRf _ _⟩
theorem y84(sb b R H:Nat)(q:List Q1)(ka:Option Addr)(kc:Nat)(l:List Int)(da:Option Addr)(dc:Nat)(D:List Mat)(hQ:QOk R H q)(hl:l.length<=60):∀f,f<=2000->Q8t sb b R H q ka kc l da dc D f
 |0,_=>x49 sb b R H q ka kc l da dc D
 |f+1,hf=>x48 sb b R H q ka kc l da dc D hQ hl f hf (y84 sb b R H q ka kc l da dc D hQ hl f (by omega))
theorem y9n{s:ByteArray}(hc:(Q0t s).1=0):(Q26 s).length<=10000000000:=by
 obtain⟨hT,hR⟩:=x45 (z31 hc);have h8:=(x8i (z31 hc)).qk.h8;have hz:((Q0q (Q0c s).1).zip (Q0p (Q7p s) (Q0q (Q0c s).1))).length<=1000:=by
  rw[List.length_zip];have:=(y5e hc).2.2;omega
 have:=y59 _ hz (Q0f (Q0c s).1).length (Q0h (Q0c s).1).length (by omega) ((Q0h (Q0c s).1).length+1) 0;unfold Q26 Q55;omega
def ldCz(v:Value):Sem Value:=Instr.loadAt 94 v
theorem x23(v:Value):Instr.loadAt 94 v=ldCz v:=rfl
attribute [local go_sem ↓] x23
end Go.Proofs.YtcpceafmlgaodaaGreat
