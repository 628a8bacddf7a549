import Derived.BigRegion
import Derived.Test.YtbdpfmalabgmbaaGreatTwa
import Derived.Test.YtbdpfmalabgmbaaGreatRa6
namespace Go.Proofs.YtbdpfmalabgmbaaGreat
open Go.RowKit
set_option maxRecDepth 99999
set_option maxHeartbeats 0
set_option linter.all false
structure Q78(w0 w:World)(cb gs cap b:Nat)(vs:List Value)(L:List (List Itm)):Prop where
 fr:Q0a w0 w
 c:w.heap[cb]? = some (.cells #[.pointer (some ⟨b,0,none⟩),.slice (some ⟨gs,0,none⟩) vs.length cap] 177 (0,0))
 cB:w0.heap.size<=cb
 gB:w0.heap.size<=gs
 ne:gs≠cb
 row:w.ownsRow 0 181 1 (.slice (some ⟨gs,0,none⟩) vs.length cap) vs.length vs
 len:vs.length=L.length
 each:∀(k:Nat) (v:Value) (X:List Itm),vs[k]? = some v->L[k]? = some X->ItsAt w v X
 low:∀(k:Nat) (v:Value) (g:Nat),vs[k]? = some v->v.ownBlock=some g->w0.heap.size<=g/\g≠cb/\g≠gs
 sep:∀(j k:Nat) (v u:Value) (g:Nat),vs[j]? = some v->vs[k]? = some u->v.ownBlock=some g->u.ownBlock=some g->j=k
section
variable {w0 w w':World}{cb gs cap b:Nat}{vs:List Value}{L:List (List Itm)}
theorem Q78.fresh(h:Q78 w0 w cb gs cap b vs L)(hf:Q0a w w'):Q78 w0 w' cb gs cap b vs L :=
 ⟨h.fr.trans hf,by rw[hf.block cb (z0j h.c) id];exact h.c,h.cB,h.gB,h.ne,z0d h.row (fun g hg=>hf.block g (h.row.lt g hg).2 id),h.len,fun k v X h1 h2=>(h.each k v X h1 h2).fresh hf,h.low,h.sep⟩
theorem Q78.x(h:Q78 w0 w cb gs cap b vs L):w.cell? ⟨cb,0,none⟩=some (.pointer (some ⟨b,0,none⟩)):=by rw[Q0b h.c 0];rfl
theorem Q78.s(h:Q78 w0 w cb gs cap b vs L):w.cell? ⟨cb,1,none⟩=some (.slice (some ⟨gs,0,none⟩) vs.length cap):=by rw[Q0b h.c 1];rfl
theorem Q78.at(h:Q78 w0 w cb gs cap b vs L){k:Nat}{v:Value}(hk:vs[k]? = some v):w.cell? ⟨gs,k,none⟩=some v:=by
 obtain⟨h1,h2⟩:=h.row;rcases h2 with⟨e,_⟩|⟨g,cp,j1,e,_,hg,_,_,hs,ht⟩
 ·cases e
 rw[qI]at e;obtain⟨e1,_,_⟩:=e;cases e1;rw[Q0b hg k];have j0:=(qS hk).1;have:=qEn (·[k]?) ht;simp only[Nat.mul_one,List.getElem?_take]at this;rw[qAb j0,hk]at this;simpa using this
theorem Q56{α:Type}{l:List α}{n k:Nat}{a u:α}(h:(l.set n a)[k]? = some u):(k=n/\u=a)∨(k≠n/\l[k]? = some u):=by
 rw[qCs]at h;split at h
 ·rename_i e;split at h
  ·rw[qO]at h;exact .inl ⟨e.symm,h.symm⟩
  cases h
 rename_i e;exact .inr ⟨fun x=>e x.symm,h⟩
theorem Q78.put(h:Q78 w0 w cb gs cap b vs L){n:Nat}{v v':Value}{X:List Itm}{m:Itm}(hn:vs[n]? = some v)(hX:L[n]? = some X){W w2:World}(hf:Q0a w W)
  (ho:w2.ownsRow 0 180 3 v' (X.length+1) (Q0y Itm.cells X++m.cells)) (hg:W.grownBy w2 v.ownBlock) (hb:∀k,v'.ownBlock=some k->v.ownBlock=some k∨W.heap.size<=k) :
  Q78 w0 (w2.setCell ⟨gs,n,none⟩ v') cb gs cap b (vs.set n v') (L.set n (X++[m])):=by
 have j2:gs<w.heap.size:=(h.row.lt gs rfl).2;have j1:cb<w.heap.size:=z0j h.c;have j7:=hf.size;have j6:=hg.size;have keep:∀x,x<w.heap.size->v.ownBlock≠some x->w2.heap[x]? = w.heap[x]? := fun x hx hne=>(hg.block x (by omega) (fun e=>hne e.symm)).trans (hf.block x hx (fun q=>q));have j5:v.ownBlock≠some gs:=fun e=>(h.low n v gs hn e).2.2 rfl;have j4:v.ownBlock≠some cb:=fun e=>(h.low n v cb hn e).2.1 rfl;have j0:∀g,v'.ownBlock=some g->w0.heap.size<=g/\g≠cb/\g≠gs:=fun g e=>by
  rcases hb g e with q|q
  ·exact h.low n v g hn q
  have:=h.fr.size;exact⟨by omega,by omega,by omega⟩
 have F:Q0a w0 w2:=⟨hg.os.trans (hf.os.trans h.fr.os),hg.tape.trans (hf.tape.trans h.fr.tape),hg.output.trans (hf.output.trans h.fr.output),by have:=h.fr.size;omega,fun x hx _=>by
  rw[keep x (by have:=h.fr.size;omega) (fun e=>by have:=(h.low n v x hn e).1;omega)];exact h.fr.block x hx (fun q=>q)⟩
 have j3:n<vs.length:=(qS hn).1;refine⟨F.setCell (p:=⟨gs,n,none⟩) (fun hlt=>absurd hlt (by have:=h.gB;dsimp only;omega)) v',?_,h.cB,h.gB,h.ne,?_,?_,fun k u Y h1 h2=>?_,fun k u g h1 h2=>?_,fun j k u u' g h1 h2 h3 h4=>?_⟩
 ·rw[qBr];exact z0h (by rw[keep cb j1 j4];exact h.c) (fun e=>h.ne e.symm)
 ·rw[qBr];exact z52 (z0d h.row (fun g e=>by cases e;exact keep gs j2 j5)) rfl n v' j3
 ·rw[qBr,qBr];exact h.len
 ·rcases Q56 h1 with⟨e1,e2⟩|⟨e1,e2⟩
  ·subst e1 e2;rcases Q56 h2 with⟨_,e3⟩|⟨e3,_⟩
   ·subst e3;refine⟨?_,fun x _=>rfl⟩;rw[qP,qAj,z0v];exact z0d ho (fun g e=>heap_setCell_other _ (j0 g e).2.2)
   exact absurd rfl e3
  rcases Q56 h2 with⟨e3,_⟩|⟨_,e3⟩
  ·exact absurd e3 e1
  have hE:=h.each k u Y e2 e3;refine⟨z0d hE.own (fun g e=>?_),hE.wf⟩;rw[heap_setCell_other _ (h.low k u g e2 e).2.2];exact keep g (hE.own.lt g e).2 (fun q=>e1 (h.sep k n u v g e2 hn e q))
 ·rcases Q56 h1 with⟨e1,e2⟩|⟨e1,e2⟩
  ·subst e2;exact j0 g h2
  exact h.low k u g e2 h2
 have old:∀(j:Nat) (u:Value),j≠n->vs[j]? = some u->u.ownBlock=some g->v'.ownBlock=some g->False:=fun j u hj hu h3 h4=>by
  rcases hb g h4 with q|q
  ·exact hj (h.sep j n u v g hu hn h3 q)
  have hl:j<L.length:=by rw[← h.len];exact(qS hu).1
  have:=((h.each j u _ hu (qE hl)).own.lt g h3).2;omega
 rcases Q56 h1 with⟨e1,e2⟩|⟨e1,e2⟩<;>rcases Q56 h2 with⟨e3,e4⟩|⟨e3,e4⟩
 ·rw[e1,e3]
 ·exact(old k u' e3 e4 h4 (e2▸h3)).elim
 ·exact(old j u e1 e2 h3 (e4▸h4)).elim
 exact h.sep j k u u' g e2 e4 h3 h4
end
theorem infoIt:(Tryz.prog.info? 180).map (fun i=>(i.zero,i.size,i.bytes))=some (some (.agg (itA 0 0 0)),3,24):=by kernel_rfl
theorem infoIt':∃i,Tryz.prog.info? 180=some i/\i.zero=some (.agg (itA 0 0 0))/\i.size=3/\i.bytes=24:=nfoE infoIt
def ChG(w0 w:World)(cb gs cap b:Nat)(L:List (List Itm)):Prop:=∃vs,Q78 w0 w cb gs cap b vs L
theorem ChG.fresh{w0 w w':World}{cb gs cap b:Nat}{L:List (List Itm)}(h:ChG w0 w cb gs cap b L)(hf:Q0a w w'):ChG w0 w' cb gs cap b L:=by
 obtain⟨vs,h⟩:=h;exact⟨vs,h.fresh hf⟩
theorem Q78.fz{w0 w:World}{cb gs cap b:Nat}{vs:List Value}{L:List (List Itm)}(h:Q78 w0 w cb gs cap b vs L)(k:Nat):w.frozen? ⟨gs,k,none⟩=false:=by
 obtain⟨h1,h2⟩:=h.row;rcases h2 with⟨e,_⟩|⟨g,cp,j0,e,_,hg,_,_,hs,ht⟩
 ·cases e
 rw[qI]at e;obtain⟨e1,_,_⟩:=e;cases e1;exact Q0f hg k
theorem ChG.set{w0 w:World}{cb gs cap b:Nat}{P:List (List Itm)}{X:List Itm}(h:ChG w0 w cb gs cap b (P++[X])){s:Nat}(hs:s<=P.length):∃vs a c,Q78 w0 w cb gs cap b vs (P++[X])/\vs.length=P.length+1/\vs[s]? = some (.slice a (atS P X s).length c)/\ItsAt w (.slice a (atS P X s).length c) (atS P X s):=by
 obtain⟨vs,h⟩:=h;have hl:vs.length=P.length+1:=by rw[h.len];simp
 have hk:s<vs.length:=by omega
 have hI:=h.each s vs[s] (atS P X s) (qE hk) (x1y hs);obtain⟨a,c,e⟩:=z0c hI.own;refine⟨vs,a,c,h,hl,?_,?_⟩
 ·rw[qE hk,e]
 rw[← e];exact hI
attribute [local go_sem ↓] z5n z17
theorem y2d(w0 w:World)(cb gs cap b:Nat)(P:List (List Itm))(X:List Itm)(m:Itm)(h:ChG w0 w cb gs cap b (P++[X]))(hP:P.length<=1000)(hX:X.length<=10000) :
  Calls Tryz.prog 82 #[.pointer (some ⟨cb,0,none⟩),.agg (itA m.p m.d m.f)] w fun e w'=>e=.returned (.bool (!inI X m))/\ChG w0 w' cb gs cap b (P++[Q81 X m]):=by
 obtain⟨i0,jf,jj,jk,jl⟩:=infoIt';obtain⟨vs,a,c,hC,hl,hv,hI⟩:=h.set (qR _);rw[z2o]at hv hI;have HC:=hid hC;have HI:=hid hI;have HV:=hid hv;have HN:=hid (W0c w m 180);have j4:Q0a w (w.alloc (.cells (itA m.p m.d m.f) 180 (0,0))):=(mRf _ w).alloc _;have j6:=hid j4;have k1:=(hC.fresh j4).s;have k2:=(hC.fresh j4).at hv;have jo:cb<w.heap.size:=z0j hC.c;have jr:gs<w.heap.size:=(hC.row.lt gs rfl).2;have IN:=hid (fun W (hW:Q0a w W)=>v2a W _ X m (hI.fresh hW) (by omega));generalize hp:P.length=p at hl hv k2 HV hP;have j8:=hid hp;have ji:((vs.length:Nat):Int)=(p:Int)+1:=by omega
 rw[show vs.length=p+1 from hl]at k1;have l1:(ldI (.pointer (some ⟨w.heap.size,0,none⟩))).run Tryz.prog (w.alloc (.cells (itA m.p m.d m.f) 180 (0,0))).drew=.ok (.agg (itA m.p m.d m.f)) (w.alloc (.cells (itA m.p m.d m.f) 180 (0,0))).drew:=z3g HN.out;have ju:IntKind.i64.wrap ((p:Int)+1-1)=(p:Int):=by rw[qBv];omega
 have jv:IntKind.i64.wrap (((p+1:Nat):Int)-1)=(p:Int):=by rw[qBv];omega
 have s1:(p:Int)<((p+1:Nat):Int):=by omega
 clear hC hI hv h ji hp hl j4;go_enter Tryz.func82,Tryz.ntmps82
 go_upto_region 2 with fail
 go_cut [6] (fun s6 wx=>s6=.bool (inI X m)/\Q0a (w.alloc (.cells (itA m.p m.d m.f) 180 (0,0))) wx)
 case first =>
  go_region_with (first
   |(go_at_call 113;refine(IN.out _ j6.drew).mono ?_;rintro e w3⟨rfl,je⟩))
  all_goals
   go_wp2_with fail
   go_meet;exact⟨rfl,((mRf _ _).drew).trans je⟩
 obtain⟨rfl,j5⟩:=hcut;have j7:=hid (j6.trans j5);have j3:wc.rangeAt w.heap.size 0 m.cells:=fun j v hj=>Q0h j5 (HN.out j v hj);have jt:w.heap.size<wc.heap.size:=z0j (j5.at (z0a w _) id);have l2:(ldI (.pointer (some ⟨w.heap.size,0,none⟩))).run Tryz.prog wc.drew=.ok (.agg (itA m.p m.d m.f)) wc.drew:=z3g j3;clear l1 k1 k2 IN j5 j3 HN j6;have hC:=HC.fresh j7.out;have jp:cb<wc.heap.size:=by omega
 have js:gs<wc.heap.size:=by omega
 have s2:(p:Int)<(p:Int)+1:=by omega
 have k1:=hC.s;have k2:=hC.at HV.out;have jc:vs.length=p+1:=by have:=hC.len;rw[this,qP,j8.out];rfl
 rw[jc]at k1;cases hin:inI X m
 ·obtain⟨v',w2,jg,j1,j0,j2⟩:=z24 (P:=Tryz.prog) (wc.alloc (.cells (itA m.p m.d m.f) 180)).drew 0 181 181 180 i0 _ 3 24 Tryz.underlying181 jf jj jk jl rfl (by decide) (.slice a X.length c) X.length (Q0y Itm.cells X) (((HI.fresh j7.out).own.alloc _)) ⟨wc.heap.size,0,none⟩ 1 1 m.cells rfl (z0m rfl) (by intro u hu;simp[Itm.cells]at hu;rcases hu with rfl|rfl|rfl<;>rfl) (by unfold maxLen;omega) (by omega) (by omega);obtain⟨a',j9,jh⟩:=z0c j1;have jd:=hid (hC.put (m:=m) HV.out (by rw[← j8.out];exact x1y (qR _)) (((mRf _ wc).alloc (.cells (itA m.p m.d m.f) 180)).drew) (by rw[z2o];exact j1) j0 j2);have ja:w2.heap[gs]? = wc.heap[gs]? := by
   rw[j0.block gs (by simp[World.drew];omega) (fun e=>by have:=(hC.low p _ gs HV.out e.symm).2.2;exact this rfl)];exact z0s (by omega)
  have jm:w2.cell? ⟨gs,p,none⟩=some (.slice a X.length c):=by rw[← k2];simp[World.cell?,ja]
  have jq:w2.frozen? ⟨gs,p,none⟩=false:=by have:=hC.fz p;simp[World.frozen?,ja]at this ⊢;exact this
  have jb:w2.heap[cb]? = wc.heap[cb]? := by
   rw[j0.block cb (by simp[World.drew];omega) (fun e=>by have:=(hC.low p _ cb HV.out e.symm).2.1;exact this rfl)];exact z0s (by omega)
  have jn:w2.cell? ⟨cb,1,none⟩=some (.slice (some ⟨gs,0,none⟩) (p+1:Nat) cap):=by rw[← k1];simp[World.cell?,jb]
  clear j1 j0 j2 ja jb hC HC HI HV jc;subst jh;go_wp2_with fail
  go_region;all_goals
   go_wp2;go_ret;refine⟨by rw[hin];rfl,vs.set p (.slice a' (X.length+1) j9),?_⟩;have:=jd.out;rw[show(P++[X]).set p (atS P X P.length++[m])=P++[Q81 X m] by rw[z2o,← j8.out,qFa _ _ (qR _),qEm,show Q81 X m=X++[m] by unfold Q81;rw[hin];rfl];rfl]at this;exact this
 go_wp2;go_ret;refine⟨by rw[hin];rfl,vs,?_⟩;rw[show Q81 X m=X by unfold Q81;rw[hin];rfl];exact HC.fresh j7.out
section
variable {ps:List Pr}{R H:Nat}
end
section
variable {w W w1:World}{b B u u':Nat}{vx vc vh vn vk v':Value}{NL:List Nd}{KL:List Int}
end
def HtAt(w:World)(hb:Nat)(hts:List Nat):Prop:=w.heap[hb]? = some (.cells (i64s (hts.map Int.ofNat)) 3 (0,0))
section
variable {ps:List Pr}{hts:List Nat}{X i:Nat}{al:List Int}{lo:Int}
end
structure TX(w:World)(xb g3 c3 g5 c5 hb:Nat)(sv:Nat->Value)(ps:List Pr)(hts:List Nat)(vc:Value)(code:List Int):Prop where
 xv:XV w xb g3 c3 g5 c5 sv ps
 ht:HtAt w hb hts
 co:Q1c w vc code
theorem z26{ps:List Pr}:∀(A:List St) (ys r k:List Sy),Q1i ps A ys=some r->Q1i ps A (ys++k)=some (r++k)
 | [],ys,r,k,h=>by cases h;rfl
 |s::A,ys,r,k,h=>by
  cases hs:s.leaf
  ·obtain⟨y,k',p,rfl,h1,h2,h3,h4,h5⟩:=z05 hs h;have:=z26 A _ _ k h5;simp only[qBh,Q1i,hs,qF,qAz];rw[qAb ⟨h1,h2⟩,h3];simp only[];rw[qAb h4,← qAs];exact this
  obtain⟨y,k',rfl,h1,h2,h3⟩:=z09 hs h;simp only[qBh,Q1i,hs,qBn];rw[qAb ⟨h1,h2⟩];exact z26 A _ _ k h3
theorem y5s{ps:List Pr}{A T:List St}{ys:List Sy}{y:Sy}(h1:Q1i ps A ys=some [])(h2:Q1i ps T [y]=some []):Q1i ps (A++T) (ys++[y])=some []:=by
 rw[z1g,z26 A ys [] [y] h1];exact h2
attribute [local go_sem ↓] z17
def Q8r(gs:List Bool)(a r:Nat)(b:Int × Int):Nat->Int × Int
 |0=>b
 |n+1=>if 0<n/\gs.getD n false=true/\(Q8r gs a r b n).2<(a:Int)+n then((r:Int),(a:Int)+n) else Q8r gs a r b n
theorem y0l(gs:List Bool)(a r:Nat)(b:Int × Int):∀n,(Q8r gs a r b n=b/\∀m,0<m->m<n->On gs m->(a:Int)+m<=b.2)∨(∃m,0<m/\m<n/\On gs m/\Q8r gs a r b n=((r:Int),(a:Int)+m)/\b.2<(a:Int)+m/\∀m',m<m'->m'<n->¬On gs m')
 |0=>.inl ⟨rfl,fun m h1 h2=>by omega⟩
 |n+1=>by
  unfold Q8r;rcases y0l gs a r b n with⟨h1,h2⟩|⟨m,m1,m2,m3,m4,m5,m6⟩
  ·by_cases c:0<n/\gs.getD n false=true/\(Q8r gs a r b n).2<(a:Int)+n
   ·rw[qAb c];obtain⟨c1,c2,c3⟩:=c;rw[h1]at c3;exact .inr ⟨n,c1,by omega,z2e.2 c2,rfl,c3,fun m' q1 q2=>by omega⟩
   rw[qAa c];refine .inl ⟨h1,fun m q1 q2 q3=>?_⟩;by_cases e:m=n
   ·subst e;by_cases z:(a:Int)+m<=b.2
    ·exact z
    exact absurd ⟨q1,z2e.1 q3,by rw[h1];omega⟩ c
   exact h2 m q1 (by omega) q3
  by_cases c:0<n/\gs.getD n false=true/\(Q8r gs a r b n).2<(a:Int)+n
  ·rw[qAb c];obtain⟨c1,c2,c3⟩:=c;rw[m4]at c3;dsimp only at c3;exact .inr ⟨n,c1,by omega,z2e.2 c2,rfl,by omega,fun m' q1 q2=>by omega⟩
  rw[qAa c];refine .inr ⟨m,m1,by omega,m3,m4,m5,fun m' q1 q2 q3=>?_⟩;by_cases e:m'=n
  ·subst e;exact c ⟨by omega,z2e.1 q3,by rw[m4];dsimp only;omega⟩
  exact m6 m' q1 (by omega) q3
theorem x0a{t:ByteArray}{a n:Nat}(h:a+n<=t.size):Q1n (t.extract a t.size) 0 n=Q36 (t.extract a (a+n)):=by
 have s1:=z08 (s:=t) (a:=a) (e:=t.size) (qR _);have s2:=z08 (s:=t) (a:=a) (e:=a+n) h;unfold Q36;rw[s2,z8t _ 0 n (by omega),z8t _ 0 (a+n-a) (by omega),show a+n-a=n by omega];apply qEs;intro j hj;have j0:j<n:=by simpa using hj
 rw[qBy,z0z (qR _) (by omega) (by omega),z0z h (by omega) (by omega)]
theorem v2z{x:Ln}{t:ByteArray}{a r:Nat}{L:Q03}{gs:List Bool}{b:Int × Int}(ha:a<=t.size)(hL:∀u,Q31 x u=true↔L (Q36 u))(hl:gs.length=(t.extract a t.size).size+1)
  (hg:∀j,j<=(t.extract a t.size).size->(On gs j↔L (Q1n (t.extract a t.size) 0 j))) (hb:(a:Int)<=b.2) :
  Q8r gs a r b gs.length=if b.2<Q5f x.ns x.st x.en t a then((r:Int),Q5f x.ns x.st x.en t a) else b:=by
 have s1:=z08 (s:=t) (a:=a) (e:=t.size) (qR _);have j5:∀n,a+n<=t.size->(On gs n↔Q8w x.ns x.st x.en t a n=true):=fun n hn=>by
  rw[hg n (by omega),x0a hn,← y40 x t a n hn,hL]
 rcases z68 x.ns x.st x.en t a with⟨j,j1,j2,j3,j4⟩|⟨j1,j2⟩
 ·rw[j3];rcases y0l gs a r b gs.length with⟨h1,h2⟩|⟨m,m1,m2,m3,m4,m5,m6⟩
  ·rw[h1,qAa];intro q;by_cases j0:j=0
   ·subst j0;omega
   have:=h2 j (by omega) (by omega) ((j5 j j1).2 j2);omega
  have j6:m=j:=by
   rcases qFx m j with q|q|q
   ·exact absurd ((j5 j j1).2 j2) (m6 j q (by omega))
   ·exact q
   have:=(j5 m (by omega)).1 m3;rw[j4 m q (by omega)]at this;cases this
  subst j6;rw[m4,qAb (by omega)];congr 1
 rw[j1,qAa (by omega)];rcases y0l gs a r b gs.length with⟨h1,h2⟩|⟨m,m1,m2,m3,m4,m5,m6⟩
 ·exact h1
 have:=(j5 m (by omega)).1 m3;rw[j2 m (by omega)]at this;cases this
theorem x9z(lns:List Ln)(t:ByteArray)(i f k:Nat)(b:Int × Int):Q5d lns t i (f+1) k b=match lns[k]? with
  |some x=>Q5d lns t i f (k+1) (if b.2<Q5f x.ns x.st x.en t i then((k:Int),Q5f x.ns x.st x.en t i) else b)
  |none=>b:=rfl
def Q6t(lns:List Ln)(t:ByteArray):Nat->Nat->List Tk->List Tk × Int
 |0,_,_=>([],0)
 |f+1,i,toks =>
  if i<t.size then
   if(Q2j lns t i).2<=i then([],(i:Int))
   else Q6t lns t f (Q2j lns t i).2.toNat (toks++[⟨(Q2j lns t i).1,i,(Q2j lns t i).2⟩])
  else(toks,-1)
theorem y71(lns:List Ln)(t:ByteArray)(f i:Nat)(toks:List Tk):Q6t lns t (f+1) i toks=if i<t.size then
   if(Q2j lns t i).2<=i then([],(i:Int))
   else Q6t lns t f (Q2j lns t i).2.toNat (toks++[⟨(Q2j lns t i).1,i,(Q2j lns t i).2⟩])
  else(toks,-1):=rfl
theorem y6m{lns:List Ln}{t:ByteArray}{i:Nat}(hi:i<=t.size):(i:Int)<=(Q2j lns t i).2/\(Q2j lns t i).2<=t.size/\0<=(Q2j lns t i).1/\((i:Int)<(Q2j lns t i).2->(Q2j lns t i).1<lns.length):=by
 rcases x58 lns t i with⟨h1,_⟩|⟨r,hr,h1,h2,h3,_⟩
 ·rw[h1];dsimp only;omega
 rw[h2];dsimp only;obtain⟨n,n1,n2,n3,_⟩:=x97 h3;rw[n3];omega
theorem x2j(lns:List Ln)(t:ByteArray):∀(f i:Nat) (toks:List Tk),i<=t.size->t.size+1<=f+i ->
  Q93 lns t f i (toks.filter fun k=>!Q27 lns k.r)=if 0<=(Q6t lns t f i toks).2 then([],9,(Q6t lns t f i toks).2) else((Q6t lns t f i toks).1.filter (fun k=>!Q27 lns k.r),0,0)
 |0,i,toks,hi,hf=>by omega
 |f+1,i,toks,hi,hf=>by
  obtain⟨b1,b2,b3,b4⟩:=y6m (lns:=lns) hi;rw[y71];unfold Q93;by_cases c:i<t.size
  ·rw[qAb c,qAb c];by_cases c2:(Q2j lns t i).2<=i
   ·rw[qAb c2,qAb c2,qAb (by dsimp only;omega)]
   rw[qAa c2,qAa c2];have ih:=x2j lns t f (Q2j lns t i).2.toNat (toks++[⟨(Q2j lns t i).1,i,(Q2j lns t i).2⟩]) (by omega) (by omega);rw[← ih];congr 1;rw[qBx,qAq];cases Q27 lns (Q2j lns t i).1<;>simp
  rw[qAa c,qAa c,qAa (by dsimp only;omega)]
end Go.Proofs.YtbdpfmalabgmbaaGreat
