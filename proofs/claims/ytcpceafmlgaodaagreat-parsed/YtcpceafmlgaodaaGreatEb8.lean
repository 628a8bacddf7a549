import Derived.Test.YtcpceafmlgaodaaGreatEb3
namespace Go.Proofs.YtcpceafmlgaodaaGreat
open Go.RowKit
set_option maxRecDepth 99999
set_option maxHeartbeats 0
set_option linter.all false
def Q4g(q:List Q1)(c:Int)(l:List Itm):List Itm:=(l.filter (fun m=>Q4q q m==c)).map mvI
theorem y95(q:List Q1)(c:Int)(l:List Itm)(m:Itm):Q4g q c (l++[m])=Q4g q c l++(if Q4q q m=c then [mvI m] else []):=by
 unfold Q4g;rw[qBu,qBf];by_cases h:Q4q q m=c
 ·rw[qAb h];simp[h]
 rw[qAa h];simp[h]
theorem x3k(q:List Q1)(c:Int)(l:List Itm):(Q4g q c l).length<=l.length:=by
 unfold Q4g;rw[qAo];exact qCw _ _
theorem z6d{q:List Q1}{c:Int}{l:List Itm}{y:Itm}:y∈Q4g q c l↔∃m∈l,Q4q q m=c/\mvI m=y:=by
 unfold Q4g;rw[qBp];constructor
 ·rintro⟨m,h1,h2⟩;rw[qCx,qAx]at h1;exact⟨m,h1.1,h1.2,h2⟩
 rintro⟨m,h1,h2,h3⟩;exact⟨m,by rw[qCx,qAx];exact⟨h1,h2⟩,h3⟩
theorem x6o{q:List Q1}{c:Int}{l:List Itm}(h:l.Nodup):(Q4g q c l).Nodup:=by
 unfold Q4g List.Nodup at *;rw[List.pairwise_map];refine(List.Pairwise.filter _ h).imp ?_;intro a b hne e;apply hne;obtain⟨a1,a2,a3⟩:=a;obtain⟨b1,b2,b3⟩:=b;simp only[mvI,Itm.mk.injEq]at e ⊢;omega
theorem infoIts:(Tryz.prog.info? 164).map (fun i=>(i.zero,i.size,i.bytes))=some (some (.slice none 0 0),1,24):=by kernel_rfl
theorem Q9r:∃i,Tryz.prog.info? 164=some i/\i.zero=some (.slice none 0 0)/\i.size=1/\i.bytes=24:=nfoE infoIts
theorem Q6s{α:Type}{l:List α}{a u:α}{k:Nat}(h:(l++[a])[k]? = some u):(k<l.length/\l[k]? = some u)∨(k=l.length/\u=a):=by
 rcases qBn k l.length with q|q
 ·rw[qAe q]at h;exact .inl ⟨q,h⟩
 rw[qAg q]at h;have:=(qS h).1;simp at this;have e:k=l.length:=by omega
 subst e;simp at h;exact .inr ⟨rfl,h.symm⟩
theorem Q7v.push{w0 w W w2:World}{cb gs cap b:Nat}{vs:List Value}{L:List (List Itm)}{v v':Value}{X:List Itm}(h:Q7v w0 w cb gs cap b vs L)(hf:Q0a w W)(hI:ItsAt W v X)(hvb:∀g,v.ownBlock=some g->w.heap.size<=g)
  (ho:w2.ownsRow 0 164 1 v' (vs.length+1) (vs++[v])) (hg:W.grownBy w2 (some gs)) (hb:∀k,v'.ownBlock=some k->(some gs:Option Nat)=some k∨W.heap.size<=k) :
  ∃gs' cap',Q7v w0 (w2.setCell ⟨cb,1,none⟩ v') cb gs' cap' b (vs++[v]) (L++[X]):=by
 obtain⟨gs',cap',e⟩:=Joins.ownsRow_form ho (by omega);subst e;have j9:gs<w.heap.size:=(h.row.lt gs rfl).2;have j5:cb<w.heap.size:=z0j h.c;have j8:=hf.size;have j6:=h.fr.size;have j7:=hg.size;have j4:=hb gs' rfl;have keep:∀x,x<W.heap.size->x≠gs->w2.heap[x]? = W.heap[x]? := fun x hx hne=>hg.block x hx (fun e=>hne (by injection e));have j0:∀x,x<w.heap.size->x≠gs->w2.heap[x]? = w.heap[x]? := fun x hx hne=>(keep x (by omega) hne).trans (hf.block x hx (fun q=>q));have j2:gs'=gs∨W.heap.size<=gs':=by
  rcases j4 with q|q
  ·injection q with q;exact .inl q.symm
  exact .inr q
 have j1:gs'≠cb:=by
  rcases j2 with q|q
  ·rw[q];exact h.ne
  omega
 have F:Q0a w0 w2:=⟨hg.os.trans (hf.os.trans h.fr.os),hg.tape.trans (hf.tape.trans h.fr.tape),hg.output.trans (hf.output.trans h.fr.output),by omega,fun x hx _=>by
  rw[j0 x (by omega) (fun e=>by have:=h.gB;omega)];exact h.fr.block x hx (fun q=>q)⟩
 have j3:∀(k:Nat) (u:Value) (g:Nat),vs[k]? = some u->u.ownBlock=some g->g<w.heap.size:=fun k u g hu hg'=>by
  have hl:k<L.length:=by rw[← h.len];exact(qS hu).1
  exact((h.each k u _ hu (qE hl)).own.lt g hg').2
 refine⟨gs',cap',F.setCell (p:=⟨cb,1,none⟩) (fun hlt=>absurd hlt (by have:=h.cB;dsimp only;omega)) _,?_,h.cB,?_,j1,?_,by simp[h.len],fun k u Y h1 h2=>?_,fun k u g h1 h2=>?_,fun j k u u' g h1 h2 h3 h4=>?_⟩
 ·rw[zhs (by rw[j0 cb j5 (fun e=>h.ne e.symm)];exact h.c) 1,qP];rfl
 ·rcases j2 with q|q
  ·rw[q];exact h.gB
  omega
 ·rw[qP];exact z0c ho (fun g e=>by cases e;exact heap_setCell_other _ j1)
 ·rcases Q6s h1 with⟨q1,q2⟩|⟨q1,q2⟩
  ·rw[qAe (by rw[← h.len];exact q1)]at h2;have hE:=h.each k u Y q2 h2;refine⟨z0c hE.own (fun g e=>?_),hE.wf⟩;have hl:=h.low k u g q2 e;rw[heap_setCell_other _ hl.2.1];exact j0 g (hE.own.lt g e).2 hl.2.2
  subst q2;rw[q1,h.len,qAg (qR _),qCu]at h2;simp at h2;subst h2;refine⟨z0c hI.own (fun g e=>?_),hI.wf⟩;have:=hvb g e;rw[heap_setCell_other _ (by dsimp only;omega)];exact keep g (hI.own.lt g e).2 (by omega)
 ·rcases Q6s h1 with⟨q1,q2⟩|⟨q1,q2⟩
  ·have hl:=h.low k u g q2 h2;have:=j3 k u g q2 h2;refine⟨hl.1,hl.2.1,fun e=>?_⟩;rcases j2 with q|q
   ·exact hl.2.2 (e.trans q)
   omega
  subst q2;have h5:=hvb g h2;have h6:=(hI.own.lt g h2).2;exact⟨by omega,by omega,fun e=>by rcases j2 with q|q<;>omega⟩
 rcases Q6s h1 with⟨q1,q2⟩|⟨q1,q2⟩<;>rcases Q6s h2 with⟨q3,q4⟩|⟨q3,q4⟩
 ·exact h.sep j k u u' g q2 q4 h3 h4
 ·subst q4;have:=hvb g h4;have:=j3 j u g q2 h3;omega
 ·subst q2;have:=hvb g h3;have:=j3 k u' g q4 h4;omega
 omega
def TkRet(w0:World)(cb gs cap b R:Nat)(q:List Q1)(P:List (List Itm))(X:List Itm)(c:Int)(Q:Itm->Prop)(e:Ending)(w':World):Prop :=
 (Q4g q c X=[]/\e=.returned (.bool false)/\ChG w0 w' cb gs cap b (P++[X]))∨(Q4g q c X≠[]/\e=.returned (.bool true)/\∃gs' cap' X',ChG w0 w' cb gs' cap' b ((P++[X])++[X'])/\Q4s Q (Q4g q c X) X'/\∀m∈X',Q57 R q (P++[X]) X' m)
attribute [local go_sem ↓] z5h
theorem x1s(w0 w:World)(cb gs cap b R H:Nat)(q:List Q1)(P:List (List Itm))(X:List Itm)(c:Int)(Q:Itm->Prop)(hS:Q3x w0 b R H q)(hQ:QOk R H q)(h:ChG w0 w cb gs cap b (P++[X]))(hX:X.Nodup)(hP:P.length<60)
  (hPb:∀Y∈P++[X],Q8g q Y) (hF:FillQ R q (P++[X]) Q) (hsc:∀m∈X,Q4q q m=c->Q (mvI m)) :
  Calls Tryz.prog 36 #[.pointer (some ⟨cb,0,none⟩),.int .i64 c] w fun e w'=>TkRet w0 cb gs cap b R q P X c Q e w':=by
 obtain⟨i0,hi0,hz0,hz1,hz2⟩:=infoIt';obtain⟨i1,hi1,hy0,hy1,hy2⟩:=Q9r;obtain⟨vs,a,cp,hA,hl,hv,hI⟩:=h.set (qR _);rw[z2h]at hv hI;have j9:=hPb X (by simp);have k8:=j9.1;have HA:=hid hA;have HC:=hid h;have HS:=hid hS;have HQ:=hid hQ;have HV:=hid hv;have HI:=hid hI;have k4:cb<w.heap.size:=z0j hA.c;have k5:gs<w.heap.size:=(hA.row.lt gs rfl).2;have k1:=hA.s;rw[hl]at k1;have jm:=hid j9.2;have FI:Hid (∀(W:World) (gs' cap':Nat),ChG w0 W cb gs' cap' b ((P++[X])++[Q4g q c X])->Calls Tryz.prog 72 #[.pointer (some ⟨cb,0,none⟩)] W fun e w'=>e=.returned (.tuple #[])/\∃X',ChG w0 w' cb gs' cap' b ((P++[X])++[X'])/\Q4s Q (Q4g q c X) X'/\∀m∈X',Q57 R q (P++[X]) X' m):=hid (fun W gs' cap' hW=>y7y w0 W cb gs' cap' b R H q (P++[X]) (Q4g q c X) Q hS hQ hW ⟨⟨[],by simp⟩,x6o hX,fun m hm=>by
  obtain⟨y,y1,y2,rfl⟩:=z6d.1 hm;exact hsc y y1 y2⟩ (by simp;omega) hPb hF)
 generalize hp:P.length=n at hP hl k1 HV hv;have k3:=hid hp;have j7:=hid hl;have k9:IntKind.i64.wrap (((n+1:Nat):Int)-1)=(n:Int):=by rw[IntKind.wrap_i64];omega
 have s1:(n:Int)<((n+1:Nat):Int):=by omega
 generalize hNF:Q4g q c X=NF at FI;have j3:=hid hNF;clear hA hv hI h hS hQ j9 hPb hF hsc hp hX hNF hl;go_enter Tryz.func36,Tryz.ntmps36
 go_wp2;go_loopw [6,7,8,9] (fun x6 x7 _ _ wr=>∃(k:Nat) (N:List Itm),x7=.int .i64 k/\k<=X.length/\N=Q4g q c (X.take k)/\wr.ownsRow w.heap.size 163 3 x6 N.length (Q00 Itm.cells N)/\Q0a w wr)
   (fun _ x _ _ _=>10001-(intOf x).toNat)
 case atStart=>exact⟨0,[],rfl,by omega,by simp[Q4g],World.ownsRow_nil _ _ _ _,mRf _ _⟩
 obtain⟨k,N,rfl,hk,hNk,hown,hfr⟩:=hrel;have k0:N.length<=8540:=by rw[hNk];have:=x3k q c (X.take k);rw[qBo]at this;omega
 have jh:=hid (Q15 (B:=10001) k (by omega));have HO:=hid hown;have HF:=hid hfr;have jj:=hid hNk;obtain⟨na,nc,hnv⟩:=z0d hown;subst hnv;have k1:=(HA.fresh hfr).s;rw[j7.out]at k1;have k2:=(HA.fresh hfr).at HV.out;have kx:=(HA.fresh hfr).x;have hI:=HI.fresh hfr;have k7:w.heap.size<=wr.heap.size:=hfr.size;clear hown hNk;by_cases hlt:k<X.length
 ·have s2:(k:Int)<(X.length:Int):=by omega
  obtain⟨g,c',hgf⟩:=Joins.ownsRow_form hI.own (by omega);rw[qI]at hgf;obtain⟨rfl,_,rfl⟩:=hgf;have r1:=hI.range k hlt;have jo:=jm.out _ (qG hlt);have jd:X.take (k+1)=X.take k++[X[k]]:=Q6g hlt;generalize X[k]=m at r1 jo jd;have l1:(ldI (.pointer (some ⟨g,k*3,none⟩))).run Tryz.prog wr=.ok (.agg (itA m.p m.d m.f)) wr:=z3a r1;have jl:=hid jd;obtain⟨hm1,hm2⟩:=jo;clear r1 hI jd;go_upto_region 7 with(first
   |(refine z0e rfl 163 _ _ rfl wr _ (itA m.p m.d m.f) _ rfl rfl rfl szIt rfl (y79 _ _ _) ?_))
  have j8:=Q9x wr m 163;have j4:Q0a wr (wr.alloc (.cells (itA m.p m.d m.f) 163 (0,0))):=(mRf _ wr).alloc _;have jb:=z0a wr (.cells (itA m.p m.d m.f) 163 (0,0));generalize(wr.alloc (.cells (itA m.p m.d m.f) 163 (0,0)))=W2 at j8 j4 jb ⊢;have l2:(ldI (.pointer (some ⟨wr.heap.size,0,none⟩))).run Tryz.prog W2=.ok (.agg (itA m.p m.d m.f)) W2:=z3a j8;have jf:=hid j4;have je:=hid jb;have SY:=hid (z5k W2 cb b R H q m (Q0i j4 kx) (HS.fresh ((HA.fr.trans hfr).trans j4)) HQ.out hm1 (by omega));clear l1 k1 k2 kx j8 j4 jb hfr;go_upto_region 8 with(first
   |(go_at_call 73;refine(SY.out).mono ?_;rintro e W3⟨rfl,hf3⟩;have j5:=hid (jf.trans hf3);have j0:=hid (hf3.at je.out (fun x=>x));clear hf3))
  have b0:W3.cell? ⟨wr.heap.size,0,none⟩=some (.int .i64 m.p):=Q0b j0.out 0;have b1:W3.cell? ⟨wr.heap.size,1,none⟩=some (.int .i64 m.d):=Q0b j0.out 1;have b2:W3.cell? ⟨wr.heap.size,2,none⟩=some (.int .i64 m.f):=Q0b j0.out 2;have j6:=hid (z0c HO.out (fun g hg=>j5.block g (HO.lt g hg).2 (fun x=>x)));have k6:w.heap.size<=W3.heap.size:=by have:=j5.size;omega
  have jg:=hid (HF.trans j5.out);have j1:=y95 q c (X.take k) m;rw[← jl.out,← jj.out]at j1;generalize hsy:Q4q q m=sc at j1;clear l2 SY jf je j0 jl;by_cases heq:sc=c
  ·subst heq;rw[qAb rfl]at j1;have j2:=hid j1;clear j1;go_wp2_with (first
    |(at_builtin;refine z0g _ rfl _ _ 164 rfl w.heap.size 163 i0 _ 3 24 Tryz.underlying164 hi0 hz0 hz1 hz2 rfl (by decide) (.slice na N.length nc) N.length (Q00 Itm.cells N) rfl (World.ownsRow.alloc j6.out _) ⟨W3.heap.size,0,none⟩ 1 1 (mvI m).cells rfl rfl (z0l rfl) (by intro u hu;simp[Itm.cells]at hu;rcases hu with rfl|rfl|rfl<;>rfl) (by unfold maxLen;omega) (by omega) (by simp;omega) ?_;intro v9 w4 hown2 hgrow hblk;have jv:=hid hown2;have jt:=hid (Mod.grown (S:=fun _=>False) (jg.alloc _) hgrow (fun k hk hlt=>by have:=(j6.lt k hk).1;omega));clear hown2 hgrow hblk))
   go_roundw
   case rel=>exact⟨k+1,N++[mvI m],by go_num,by omega,j2.symm,by rw[qP,z0y];exact jv.out,jt.out⟩
   exact jh.out
  rw[qAa heq,qAt]at j1;have j2:=hid j1;clear j1;go_wp2;go_roundw
  case rel=>exact⟨k+1,N,by go_num,by omega,j2.symm,j6.out,jg.out⟩
  exact jh.out
 have s2:¬(k:Int)<(X.length:Int):=by omega
 have jx:N=NF:=by rw[jj.out,qCh (by omega),j3.out]
 subst jx;cases N with
 |nil =>
  go_wp2;go_ret;exact .inl ⟨j3.out,rfl,HC.fresh HF.out⟩
 |cons y N =>
  have jc:¬(((y::N).length:Int)=0):=by simp;omega
  have ji:Hid (y::N≠[]):=hid (by simp);generalize y::N=NF at jc ji HO j3 FI k0;have jk:=hid (z0c HA.row (fun g hg=>HF.block g (HA.row.lt g hg).2 (fun x=>x)));have jz:n<=60:=by omega
  have PU:Hid (∀(o:Obj) (v':Value) (w2:World),w2.ownsRow 0 164 1 v' (vs.length+1) (vs++[.slice na NF.length nc])->(wr.alloc o).grownBy w2 (some gs)->(∀k,v'.ownBlock=some k->(some gs:Option Nat)=some k∨(wr.alloc o).heap.size<=k)->∃gs' cap',ChG w0 (w2.setCell ⟨cb,1,none⟩ v') cb gs' cap' b ((P++[X])++[NF])):=hid (fun o v' w2 h1 h2 h3=>by
   have jy:Q0a w (wr.alloc o):=HF.alloc _;obtain⟨gs',cap',hz⟩:=HA.push jy (v:=.slice na NF.length nc) (X:=NF) (Q2e.fresh ⟨z0f HO.out (qBg _),fun x _=>rfl⟩ ((mRf _ wr).alloc _)) (fun g hg=>(HO.lt g hg).1) h1 h2 h3;exact⟨gs',cap',_,hz⟩)
  have jp:Hid (∀(o:Obj) (w2:World),(wr.alloc o).grownBy w2 (some gs)->w2.heap[cb]? = wr.heap[cb]?):=hid (fun o w2 h2=>by
   rw[h2.block cb (by have:=HF.size;simp;omega) (fun e=>by injection e with e;exact HA.ne e.symm)];exact z0w (by omega))
  have jn:wr.heap[cb]? = some (.cells #[.pointer (some ⟨b,0,none⟩),.slice (some ⟨gs,0,none⟩) (n+1:Nat) cap] 160 (0,0)):=by
   have:=(HA.fresh HF.out).c;rw[j7.out]at this;exact this
  have jr:=hid jn;rw[j7.out]at PU jk;clear jn kx hI HO HI jm;go_wp2_with (first
   |(at_builtin;refine z0g _ rfl _ _ 158 rfl 0 164 i1 _ 1 24 Tryz.underlying158 hi1 hy0 hy1 hy2 rfl (by decide) (.slice (some ⟨gs,0,none⟩) (n+1:Nat) cap) (n+1) vs rfl (World.ownsRow.alloc jk.out _) ⟨wr.heap.size,0,none⟩ 1 1 [.slice na NF.length nc] rfl rfl (z0l rfl) (by intro u hu;simp at hu;subst hu;rfl) (by unfold maxLen;omega) (by omega) (by omega) ?_;intro v9 w4 hown2 hgrow hblk;obtain⟨gs9,cap9,hpu⟩:=PU.out _ _ _ hown2 hgrow hblk;have jw:=hid hpu;have ja:w4.heap[cb]? = _:=(jp.out _ _ hgrow).trans jr.out;have kk:=Q0b ja 1;have kf:=Q0g ja 1;simp at kk;obtain⟨a9,c9,hv9⟩:=z0d hown2;clear hown2 hgrow hblk hpu ja;subst hv9)
   |(go_at_call 72;refine(FI.out _ _ _ jw.out).mono ?_;rintro e w5⟨rfl,X',hC5,hg5,hd5⟩;have jq:=hid hC5;have ju:=hid hg5;have js:=hid hd5;clear hC5 hg5 hd5))
  go_ret;refine .inr ⟨by rw[j3.out];exact ji.out,rfl,_,_,X',jq.out,?_,js.out⟩;rw[j3.out];exact ju.out
theorem Q7v.init{w0 W w2:World}{cb b:Nat}{v':Value}(hf:Q0a w0 W)(hcb:w0.heap.size<=cb)(hlt:cb<W.heap.size){a:Value}(hc:W.heap[cb]? = some (.cells #[.pointer (some ⟨b,0,none⟩),a] 160 (0,0)))
  (ho:w2.ownsRow w0.heap.size 164 1 v' 1 [.slice none 0 0]) (hg:W.grownBy w2 none) (hb:∀k,v'.ownBlock=some k->W.heap.size<=k) :
  ∃gs cap,Q7v w0 (w2.setCell ⟨cb,1,none⟩ v') cb gs cap b [.slice none 0 0] ([]++[[]]):=by
 obtain⟨gs,cap,e⟩:=Joins.ownsRow_form ho (by omega);subst e;have j1:=hb gs rfl;have j0:=hg.size;have h0:=hf.size;have keep:∀x,x<W.heap.size->w2.heap[x]? = W.heap[x]? := fun x hx=>hg.block x hx (fun e=>by cases e);have F:Q0a w0 w2:=⟨hg.os.trans hf.os,hg.tape.trans hf.tape,hg.output.trans hf.output,by omega,fun x hx _=>by
  rw[keep x (by omega)];exact hf.block x hx (fun q=>q)⟩
 have one:∀(k:Nat) (u:Value),([.slice none 0 0]:List Value)[k]? = some u->k=0/\u=.slice none 0 0:=fun k u h=>by
  rcases k with _|k
  ·simp at h;exact⟨rfl,h.symm⟩
  simp at h
 refine⟨gs,cap,F.setCell (p:=⟨cb,1,none⟩) (fun hlt=>absurd hlt (by dsimp only;omega)) _,?_,hcb,by omega,by omega,?_,by simp,fun k u Y h1 h2=>?_,fun k u g h1 h2=>?_,fun j k u u' g h1 h2 h3 h4=>?_⟩
 ·rw[zhs (by rw[keep cb hlt];exact hc) 1];rfl
 ·exact z0c (z0f ho (qBg _)) (fun g e=>by cases e;exact heap_setCell_other _ (by dsimp only;omega))
 ·obtain⟨rfl,rfl⟩:=one k u h1;simp at h2;subst h2;exact Q2e.nil _ _ _ _
 ·obtain⟨rfl,rfl⟩:=one k u h1;cases h2
 obtain⟨rfl,rfl⟩:=one j u h1;cases h3
def CtRet(w:World)(b R:Nat)(q:List Q1)(Q:Itm->Prop)(e:Ending)(w':World):Prop:=∃cb gs cap X',e=.returned (.pointer (some ⟨cb,0,none⟩))/\ChG w w' cb gs cap b ([]++[X'])/\Q4s Q [] X'/\(∀m∈X',Q57 R q [] X' m)/\∀(p:Nat) (x:Q1),q[p]? = some x->x.1=0->(⟨p,0,0⟩:Itm)∈X'
theorem x1k(w:World)(b R H:Nat)(q:List Q1)(Q:Itm->Prop)(hS:Q3x w b R H q)(hQ:QOk R H q)(hF:FillQ R q [] Q)(hi:∀(p:Nat) (x:Q1),q[p]? = some x->x.1=0->Q ⟨p,0,0⟩) :
  Calls Tryz.prog 35 #[.pointer (some ⟨b,0,none⟩)] w fun e w'=>CtRet w b R q Q e w':=by
 obtain⟨i1,hi1,hy0,hy1,hy2⟩:=Q9r;have j6:=hQ.p20;have HS:=hid hS;have HQ:=hid hQ;have j7:=hid hF;have HI:=hid hi;obtain⟨a0,c0,a1,c1,a2,c2,v3,v4,sv,hN⟩:=hS;have HN:=hid hN;have FI:Hid (∀(W:World) (cb gs cap:Nat) (X:List Itm),ChG w W cb gs cap b ([]++[X])->Q4s Q X X->Calls Tryz.prog 72 #[.pointer (some ⟨cb,0,none⟩)] W fun e w'=>e=.returned (.tuple #[])/\∃X',ChG w w' cb gs cap b ([]++[X'])/\Q4s Q X X'/\∀m∈X',Q57 R q [] X' m):=hid (fun W cb gs cap X hW hX=>y7y w W cb gs cap b R H q [] X Q HS.out HQ.out hW hX (by simp) (fun Y hY=>by cases hY) j7.out);have j0:=z0a w (.cells #[.pointer (some ⟨b,0,none⟩),.slice none 0 0] 160);have j5:=Q0g j0 1;have jc:Hid (∀(o:Obj) (v':Value) (w2:World),w2.ownsRow w.heap.size 164 1 v' (0+1) ([]++[.slice none 0 0])->((w.alloc (.cells #[.pointer (some ⟨b,0,none⟩),.slice none 0 0] 160)).alloc o).grownBy w2 (Value.ownBlock (.slice none 0 0))->(∀k,v'.ownBlock=some k->Value.ownBlock (.slice none 0 0)=some k∨((w.alloc (.cells #[.pointer (some ⟨b,0,none⟩),.slice none 0 0] 160)).alloc o).heap.size<=k) ->
   (∃gs cap,ChG w (w2.setCell ⟨w.heap.size,1,none⟩ v') w.heap.size gs cap b ([]++[[]]))/\w2.heap[w.heap.size]? = some (.cells #[.pointer (some ⟨b,0,none⟩),.slice none 0 0] 160 (0,0))):=hid (fun o v' w2 h1 h2 h3=>by
  have hc:((w.alloc (.cells #[.pointer (some ⟨b,0,none⟩),.slice none 0 0] 160)).alloc o).heap[w.heap.size]? = some (.cells #[.pointer (some ⟨b,0,none⟩),.slice none 0 0] 160 (0,0)):=z0b (z0a _ _);constructor
  ·obtain⟨gs,cap,hz⟩:=Q7v.init (w0:=w) (b:=b) (((mRf _ w).alloc _).alloc o) (qR _) (z0j hc) hc h1 h2 (fun k hk=>by
    rcases h3 k hk with z|z
    ·cases z
    exact z)
   exact⟨gs,cap,_,hz⟩
  rw[h2.block _ (z0j hc) (fun e=>by cases e)];exact hc)
 clear hQ hF hi hN;go_enter Tryz.func35,Tryz.ntmps35
 go_upto_region 3 with(first
  |(at_builtin;refine z0g _ rfl _ _ 158 rfl w.heap.size 164 i1 _ 1 24 Tryz.underlying158 hi1 hy0 hy1 hy2 rfl (by decide) (.slice none 0 0) 0 [] rfl (World.ownsRow_nil _ _ _ _) ⟨w.heap.size+1,0,none⟩ 1 1 [.slice none 0 0] rfl rfl (z2s rfl) (by intro u hu;simp at hu;subst hu;rfl) (by unfold maxLen;omega) (by omega) (by simp;omega) ?_;intro v9 w4 hown2 hgrow hblk;obtain⟨⟨gs,cap,hpu⟩,hb9⟩:=jc.out _ _ _ hown2 hgrow hblk;have j4:=hid hpu;have kk:=Q0b hb9 1;have kf:=Q0g hb9 1;simp at kk;obtain⟨a9,c9,hv9⟩:=z0d hown2;clear hown2 hgrow hblk hpu hb9;subst hv9))
 generalize w4.setCell _ _=W1 at j4 ⊢;clear jc kk kf j0 j5;go_wp2;go_loopw [4] (fun x4 wr=>∃(p:Nat) (X:List Itm),x4=.int .i64 p/\p<=q.length/\ChG w wr w.heap.size gs cap b ([]++[X])/\Q4s Q [] X/\∀(p':Nat) (z:Q1),p'<p->q[p']? = some z->z.1=0->(⟨p',0,0⟩:Itm)∈X)
   (fun x _=>1001-(intOf x).toNat)
 case atStart=>exact⟨0,[],rfl,by omega,j4.out,⟨⟨[],rfl⟩,by simp,fun m hm=>by cases hm⟩,fun p' z h=>absurd h (by omega)⟩
 obtain⟨p,X,rfl,hp,hC,hg,hB⟩:=hrel;have j9:=hid (Q15 (B:=1001) p (by omega));have HC:=hid hC;have HG:=hid hg;have HB:=hid hB;have jf:=hg.len j7.b j6;obtain⟨vs,hA⟩:=hC;have hN:=HN.fresh hA.fr;have z1:=hN.k1;clear j4 hg hB hA;by_cases hlt:p<q.length
 ·have s1:(p:Int)<(q.length:Int):=by omega
  obtain⟨g3,o3,c3,g4,o4,n4,c4,al,cl,hPr⟩:=hN.pr hlt;have q3:=hPr.q3;have y3:=hPr.y3;have hz:q[p]? = some q[p]:=qE hlt;have j1:Hid (∀X5,Q4s Q X X5->(q[p].1=0->(⟨p,0,0⟩:Itm)∈X5)->∀(p':Nat) (z:Q1),p'<p+1->q[p']? = some z->z.1=0->(⟨p',0,0⟩:Itm)∈X5):=hid (fun X5 h5 hin p' z hp' hz' e=>by
   rcases qBn p' p with r|r
   ·exact h5.mem (HB.out p' z r hz' e)
   obtain rfl:p'=p:=by omega
   rw[hz]at hz';injection hz' with hz';subst hz';exact hin e)
  have jb:=hid (HI.out p q[p] hz);generalize q[p]=y at y3 j1 jb;clear hPr hN hz;by_cases h0:y.1=0
  ·have PU:Hid (Calls Tryz.prog 71 #[.pointer (some ⟨w.heap.size,0,none⟩),.agg (itA p 0 0)] wr fun e w'=>e=.returned (.bool (!inI X ⟨p,0,0⟩))/\ChG w w' w.heap.size gs cap b ([]++[Q8m X ⟨p,0,0⟩])):=hid (y1v w wr w.heap.size gs cap b [] X ⟨p,0,0⟩ HC.out (by simp) (by omega));have ja:=hid (jb.out h0);rw[h0]at y3;go_wp2_with (first
    |(go_at_call 71;refine(PU.out).mono ?_;rintro e W5⟨rfl,hC5⟩;have j3:=hid hC5;clear hC5))
   go_roundw
   case rel=>exact⟨p+1,_,by go_num,by omega,j3.out,HG.put ja.out,j1.out _ (HG.refl.put ja.out) (fun _=>y17 _ _)⟩
   exact j9.out
  have j2:=hid (j1.out X HG.refl (fun e=>absurd e h0));go_wp2;go_roundw
  case rel=>exact⟨p+1,X,by go_num,by omega,HC.out,HG.out,j2.out⟩
  exact j9.out
 have s1:¬(p:Int)<(q.length:Int):=by omega
 have jd:=hid (FI.out wr w.heap.size gs cap X HC.out HG.refl);have j2:=hid (fun(p':Nat) (z:Q1) (h1:q[p']? = some z) (h2:z.1=0)=>HB.out p' z (by have:=(qS h1).1;omega) h1 h2);clear hN;go_wp2_with (first
  |(go_at_call 72;refine(jd.out).mono ?_;rintro e w5⟨rfl,X',hC5,hg5,hd5⟩;have j3:=hid hC5;have j8:=hid hg5;have je:=hid hd5;clear hC5 hg5 hd5))
 go_ret;exact⟨_,gs,cap,X',rfl,j3.out,HG.trans j8.out,je.out,fun p' z h1 h2=>j8.mem (j2.out p' z h1 h2)⟩
def hdI(q:List Q1)(m:Itm):Int:=((q[m.p]?).map Prod.fst).getD 0
def wanS(R:Nat)(q:List Q1)(o:List Bool)(m:Itm):List Bool :=
 if Q4q q m<0 then(if m.f=0/\hdI q m=0 then o.set R true else o) else if Q4q q m<R then o.set (Q4q q m).toNat true else o
def Q94(R:Nat)(q:List Q1):List Itm->List Bool->List Bool
 | [],o=>o
 |m::l,o=>Q94 R q l (wanS R q o m)
theorem x7v(R:Nat)(q:List Q1)(o:List Bool)(m:Itm):(wanS R q o m).length=o.length:=by
 unfold wanS;split
 ·split<;>simp
 split<;>simp
def WnRet(w:World)(R:Nat)(l:List Bool)(e:Ending)(w':World):Prop:=∃g,e=.returned (bsl g (R+1))/\Q1y w' g l/\Q0a w w'
attribute [local go_sem ↓] z5h
theorem y7n(w0 w:World)(cb gs cap b R H:Nat)(q:List Q1)(P:List (List Itm))(X:List Itm)(hS:Q3x w0 b R H q)(hQ:QOk R H q)(h:ChG w0 w cb gs cap b (P++[X]))(hP:P.length<=60)(hXb:Q8g q X) :
  Calls Tryz.prog 38 #[.pointer (some ⟨cb,0,none⟩)] w fun e w'=>WnRet w R (Q94 R q X (List.replicate (R+1) false)) e w':=by
 obtain⟨vs,a,cp,hA,hl,hv,hI⟩:=h.set (qR _);rw[z2h]at hv hI;have jo:=hQ.r8;have jn:=hQ.h8;have jk:=hQ.p20;have jr:=hXb.1;have HA:=hid hA;have HS:=hid hS;have HQ:=hid hQ;have HV:=hid hv;have HI:=hid hI;have k1:=hA.s;have kx:=hA.x;rw[hl]at k1;have jj:=hid hXb.2;obtain⟨a0,c0,a1,c1,a2,c2,v3,v4,sv,hN⟩:=hS.fresh hA.fr;have HN:=hid hN;have BA:Hid (Calls Tryz.prog 34 #[.pointer (some ⟨b,0,none⟩)] w fun e w'=>e=.returned (.int .i64 ((R+1:Nat):Int))/\w'=w):=hid (z1i w b R a0 c0 hN.k0 (by omega));have mk:=fun w=>run_make_row' (P:=Tryz.prog) 90 4 (.bool false) 1 Tryz.underlying90 (by kernel_rfl) rfl .i64 .i64 (R+1) (by omega) (by omega) w;have kA:=(HA.fresh ((mRf _ w).alloc (.cells (madeCells #[.bool false] (R+1)) 4))).s;rw[hl]at kA;generalize hV:Q94 R q X (List.replicate (R+1) false)=V;have jf:=hid hV;unfold WnRet;generalize j4:R+1=r1 at BA mk kA jf ⊢;have je:=hid j4;have jp:r1<=9:=by omega
 generalize hp:P.length=n at hP hl k1 kA HV hv;have ji:=hid hl;have jt:IntKind.i64.wrap (((n+1:Nat):Int)-1)=(n:Int):=by rw[IntKind.wrap_i64];omega
 have s1:(n:Int)<((n+1:Nat):Int):=by omega
 have jm:cb<w.heap.size:=z0j hA.c;clear hA hv hI h hS hQ hXb hp hl hN hV j4;go_enter Tryz.func38,Tryz.ntmps38
 go_wp2_with (first
  |(go_at_call 34;refine csm BA.out ?_))
 go_loopw [5,6,7] (fun x5 _ _ wr=>∃(k:Nat) (o:List Bool),x5=.int .i64 k/\k<=X.length/\Q1y wr w.heap.size o/\o.length=r1/\Q0a w wr/\Q94 R q (X.drop k) o=V)
   (fun x _ _ _=>10001-(intOf x).toNat)
 case atStart =>
  refine⟨0,List.replicate r1 false,rfl,by omega,?_,by simp,(mRf _ w).alloc _,jf.out⟩;rw[z03];exact z0a _ _
 obtain⟨k,o,rfl,hk,hB,hol,hfr,hrec⟩:=hrel;have j6:=hid (Q15 (B:=10001) k (by omega));have HB:=hid hB;have HF:=hid hfr;have j3:=hid hol;clear k1 kx kA;have k1:=(HA.fresh hfr).s;rw[ji.out]at k1;have k2:=(HA.fresh hfr).at HV.out;have kx:=(HA.fresh hfr).x;have hI:=HI.fresh hfr;clear hB hol mk;by_cases hlt:k<X.length
 ·have s2:(k:Int)<(X.length:Int):=by omega
  obtain⟨g,c',hgf⟩:=Joins.ownsRow_form hI.own (by omega);rw[qI]at hgf;obtain⟨rfl,_,rfl⟩:=hgf;have r1:=hI.range k hlt;have jh:=jj.out _ (qG hlt);rw[qC hlt,Q94]at hrec;generalize X[k]=m at r1 jh hrec;have l1:(ldI (.pointer (some ⟨g,k*3,none⟩))).run Tryz.prog wr=.ok (.agg (itA m.p m.d m.f)) wr:=z3a r1;obtain⟨hm1,hm2⟩:=jh;have j1:=hid hrec;clear r1 hI hrec;go_upto_region 7 with(first
   |(refine z0e rfl 163 _ _ rfl wr _ (itA m.p m.d m.f) _ rfl rfl rfl szIt rfl (y79 _ _ _) ?_))
  have j9:=Q9x wr m 163;have j7:Q0a wr (wr.alloc (.cells (itA m.p m.d m.f) 163 (0,0))):=(mRf _ wr).alloc _;have ja:=z0a wr (.cells (itA m.p m.d m.f) 163 (0,0));generalize(wr.alloc (.cells (itA m.p m.d m.f) 163 (0,0)))=W2 at j9 j7 ja ⊢;have l2:(ldI (.pointer (some ⟨wr.heap.size,0,none⟩))).run Tryz.prog W2=.ok (.agg (itA m.p m.d m.f)) W2:=z3a j9;have jc:=hid j7;have jb:=hid ja;have SY:=hid (z5k W2 cb b R H q m (Q0i j7 kx) (HS.fresh ((HA.fr.trans hfr).trans j7)) HQ.out hm1 (by omega));clear l1 k1 k2 kx j9 j7 ja hfr;go_upto_region 8 with(first
   |(go_at_call 73;refine(SY.out).mono ?_;rintro e W3⟨rfl,hf3⟩;have jd:=hid (jc.trans hf3);have j5:=hid (hf3.at jb.out (fun x=>x));clear hf3))
  have b0:W3.cell? ⟨wr.heap.size,0,none⟩=some (.int .i64 m.p):=Q0b j5.out 0;have b2:W3.cell? ⟨wr.heap.size,2,none⟩=some (.int .i64 m.f):=Q0b j5.out 2;have j0:=hid (HB.fresh jd.out);have j2:=hid (HF.trans jd.out);have kx:=(HA.fresh j2.out).x;have j8:=HN.fresh j2.out;have z0:=j8.k0;obtain⟨g3,o3,c3,g4,o4,n4,c4,al,cl,hPr⟩:=j8.pr hm1;have q3:=hPr.q3;have y3:=hPr.y3;have jg:hdI q m=q[m.p].1:=by unfold hdI;rw[qE hm1];rfl
  rw[← jg]at y3;have s4:(m.p:Int)<(q.length:Int):=by omega
  have hW:=j1.out;unfold wanS at hW;generalize Q4q q m=sc at hW;generalize hdI q m=hm at hW y3;have jq:=j0.lt;clear l2 SY jc jb j8 hPr jg j1;by_cases hneg:sc<0
  ·rw[qAb hneg]at hW;have d1:decide (sc<0)=true:=qBl hneg;have d2:¬0<=sc:=by omega
   by_cases hf0:m.f=0
   ·have d3:(m.f:Int)=0:=by omega
    by_cases hh0:hm=0
    ·rw[qAb ⟨hf0,hh0⟩]at hW;have HW:=hid hW;have j4:=je.out;have c1:=j0.cell (j:=R) (by rw[j3.out];omega);have c2:=j0.frozen R;have s5:(R:Int)<(r1:Int):=by omega
     clear j4;have HP:=hid (j0.put R true);subst hh0;rw[d3]at b2;clear hW;go_wp2_with fail
     go_quiet (fail);have jl:=Q0i (Q0r W3 nq) c1;have ju:=Q0i (Q0r W3 nq) z0;have js:=Q0i (Q0r W3 nq) kx;go_wp2;go_roundw
     case rel=>exact⟨k+1,_,by go_num,by omega,HP.out,by simp[j3.out],(j2.trans (Q0r W3 nq)).setCell (fun h=>absurd h (qBk _)) _,HW.out⟩
     exact j6.out
    rw[qAa (fun e=>hh0 e.2)]at hW;have HW:=hid hW;rw[d3]at b2;clear hW;go_wp2_with fail
    go_quiet (fail);go_wp2;go_roundw
    case rel=>exact⟨k+1,o,by go_num,by omega,j0.fresh (Q0r _ _),j3.out,j2.trans (Q0r _ _),HW.out⟩
    exact j6.out
   rw[qAa (fun e=>hf0 e.1)]at hW;have HW:=hid hW;have d3:decide ((m.f:Int)=0)=false:=qBh (by omega);have d4:¬(m.f:Int)=0:=by omega
   clear hW;go_wp2_with fail
   go_quiet (fail);go_wp2;go_roundw
   case rel=>exact⟨k+1,o,by go_num,by omega,j0.fresh (Q0r _ _),j3.out,j2.trans (Q0r _ _),HW.out⟩
   exact j6.out
  rw[qAa hneg]at hW;have d1:decide (sc<0)=false:=qBh hneg;obtain⟨j,rfl⟩:∃j:Nat,sc=j:=⟨sc.toNat,by omega⟩;by_cases hlr:(j:Int)<(R:Int)
  ·rw[qAb hlr,qAl]at hW;have HW:=hid hW;have j4:=je.out;have c1:=j0.cell (j:=j) (by rw[j3.out];omega);have c2:=j0.frozen j;have s5:(j:Int)<(r1:Int):=by omega
   clear j4;have HP:=hid (j0.put j true);clear hW;go_wp2_with fail
   go_quiet (fail);go_wp2;go_roundw
   case rel=>exact⟨k+1,_,by go_num,by omega,HP.fresh (Q0r _ _),by simp[j3.out],(j2.setCell (fun h=>absurd h (qBk _)) _).trans (Q0r _ _),HW.out⟩
   exact j6.out
  rw[qAa hlr]at hW;have HW:=hid hW;clear hW;go_wp2_with fail
  go_quiet (fail);go_wp2;go_roundw
  case rel=>exact⟨k+1,o,by go_num,by omega,j0.fresh (Q0r _ _),j3.out,j2.trans (Q0r _ _),HW.out⟩
  exact j6.out
 have s2:¬(k:Int)<(X.length:Int):=by omega
 rw[qAi (by omega),Q94]at hrec;have j1:=hid hrec;clear hrec hI;go_wp2;go_ret;exact⟨_,rfl,by rw[← j1.out];exact HB.out,HF.out⟩
theorem z74(w:World)(v:Value)(l:List Int)(n:Int)(h:Q0z w v l)(hl:l.length<=1000) :
  Calls Tryz.prog 24 #[v,.int .i64 n] w fun e w'=>e=.returned (.bool (l.any (·==n)))/\w'=w:=by
 obtain⟨ao,cap,rfl,hc,hcell⟩:=h;have HC:=hid hcell;generalize hR:l.any (·==n)=RES;have HR:=hid hR;clear hcell hR;go_enter Tryz.func24,Tryz.ntmps24
 go_wp2;go_loopw [6,9] (fun _ x5 wr=>∃(i:Nat),x5=.int .i64 i/\i<=l.length/\(l.drop i).any (·==n)=RES/\wr=w)
   (fun _ x _=>1001-(intOf x).toNat)
 case atStart=>exact⟨0,rfl,by omega,HR.out,rfl⟩
 obtain⟨i,rfl,hi,hres,hfr⟩:=hrel;subst hfr;have j1:=hid (Q15 (B:=1001) i (by omega));by_cases hlt:i<l.length
 ·have j3:(i:Int)<(l.length:Int):=by omega
  rw[qC hlt,List.any_cons]at hres;obtain⟨g,o,rfl,hcl⟩:=HC.out i hlt;have c1:=hcl;generalize l[i]=li at hres c1;cases hq:(li==n)
  ·rw[hq,qCj]at hres;have j0:=hid hres;clear hcl hres;go_wp2;go_roundw
   case rel=>exact⟨i+1,by go_num,by omega,j0.out,by first|rfl|trivial⟩
   exact j1.out
  rw[hq,Bool.true_or]at hres;have j0:=hid hres;clear hcl hres;go_wp2;go_ret;exact⟨z0s j0.out,rfl⟩
 have j2:i=l.length:=by omega
 have j4:¬(i:Int)<(l.length:Int):=by omega
 rw[j2,qBw]at hres;have j0:=hid hres;clear hres;go_wp2;go_ret;exact⟨z0s (by rw[← j0.out];rfl),rfl⟩
def Q0w(R:Int)(l:List Int):Bool:=l.all fun k=>decide (0<=k)&&decide (k<R)
theorem y3e(w:World)(R H:Int)(vp v:Value)(l:List Int)(h:Q0z w v l)(hl:l.length<=1000) :
  Calls Tryz.prog 12 #[.agg #[.int .i64 R,.int .i64 H,vp],v] w fun e w'=>e=.returned (.bool (Q0w R l))/\Q0a w w':=by
 obtain⟨ao,cap,rfl,hc,hcell⟩:=h;have HC:=hid hcell;generalize hR:Q0w R l=RES;have HR:=hid hR;clear hcell hR;go_enter Tryz.func12,Tryz.ntmps12
 go_wp2;go_loopw [6,9] (fun _ x5 wr=>∃(i:Nat),x5=.int .i64 i/\i<=l.length/\Q0w R (l.drop i)=RES/\Q0a w wr/\wr.cell? ⟨w.heap.size,0,none⟩=some (.int .i64 R))
   (fun _ x _=>1001-(intOf x).toNat)
 case atStart=>exact⟨0,rfl,by omega,HR.out,(mRf _ w).alloc _,by rw[Q0b (z0a w _) 0];rfl⟩
 obtain⟨i,rfl,hi,hres,hfr,c0⟩:=hrel;have j1:=hid hfr;have C0:=hid c0;have j2:=hid (Q15 (B:=1001) i (by omega));by_cases hlt:i<l.length
 ·have j4:(i:Int)<(l.length:Int):=by omega
  unfold Q0w at hres;rw[qC hlt,qCp]at hres;obtain⟨g,o,rfl,hcl⟩:=HC.out i hlt;have c1:=Q0i hfr hcl;generalize l[i]=li at hres c1;by_cases h0:0<=li
  ·by_cases h1:li<R
   ·rw[qBl h0,qBl h1]at hres;have j0:=hid hres;clear hcl hres hfr;go_wp2;go_roundw
    case rel=>exact⟨i+1,by go_num,by omega,j0.out,j1.out,C0.out⟩
    exact j2.out
   rw[qBl h0,qBh h1]at hres;have j0:=hid hres;clear hcl hres hfr;go_wp2;go_ret;exact⟨z0s j0.out,j1.out⟩
  rw[qBh h0]at hres;have j0:=hid hres;clear hcl hres hfr;go_wp2;go_ret;exact⟨z0s j0.out,j1.out⟩
 have j3:i=l.length:=by omega
 have j5:¬(i:Int)<(l.length:Int):=by omega
 rw[j3,qBw]at hres;have j0:=hid hres;clear hres hfr;go_wp2;go_ret;exact⟨z0s (by rw[← j0.out];rfl),j1.out⟩
def gdA(fp:Value)(L:List Int):Array Value:=(fp::Q5w L).toArray
theorem x9i{fp:Value}{L:List Int}{j:Nat}(h:j<L.length):(gdA fp L)[1+j]? = some (.int .i64 (L.getD j 0)):=by
 unfold gdA;rw[qCb,Nat.add_comm,qEm,qBe,qE h];simp[h]
theorem y9m(w:World)(gb:Nat)(fp:Value)(L:List Int)(hL:L.length=72)(hb:w.heap[gb]? = some (.cells (gdA fp L) 128 (0,0)))(n t:Nat)(hn:n<8)(ht:t<9) :
  Calls Tryz.prog 57 #[Q25 gb,.int .i64 n,.int .i64 t] w fun e w'=>e=.returned (.int .i64 (L.getD (n*9+t) 0))/\w'=w:=by
 have c1:w.cell? ⟨gb,1+n*9+t,none⟩=some (.int .i64 (L.getD (n*9+t) 0)):=by
  rw[Q0b hb,qCm,x9i (by omega)]
 generalize L.getD (n*9+t) 0=V at c1;have h1:(n:Int)<8:=by omega
 have h2:(t:Int)<9:=by omega
 clear hb hL;go_enter Tryz.func57,Tryz.ntmps57
 go_wp2;go_ret;exact⟨rfl,rfl⟩
def St.cells(s:St):List Value:=[.bool s.leaf,.int .i8 s.num]
abbrev StOwn(w:World)(base:Nat)(v:Value)(l:List St):Prop:=w.ownsRow base 141 2 v l.length (Q00 St.cells l)
theorem infoSt:(Tryz.prog.info? 141).map (fun i=>(i.zero,i.size,i.bytes))=some (some (.agg #[.bool false,.int .i8 0]),2,2):=by kernel_rfl
theorem infoSt':∃i,Tryz.prog.info? 141=some i/\i.zero=some (.agg #[.bool false,.int .i8 0])/\i.size=2/\i.bytes=2:=nfoE infoSt
theorem z6x{α:Type}(f:α->List Value)(l:List α)(x:α):Q00 f (l++[x])=Q00 f l++f x:=by simp[Q00]
structure GA(w:World)(b B:Nat)(R H:Int)(vp vg vk vs:Value)(k:List Sy)(st:List St):Prop where
 lo:B<=b
 blk:w.heap[b]? = some (.cells #[.int .i64 R,.int .i64 H,vp,vg,vk,vs] 74 (0,0))
 ks:SyOwn w B vk k.reverse
 ss:StOwn w B vs st
 kb:vk.ownBlock≠some b
 sb:vs.ownBlock≠some b
 ap:∀j,vk.ownBlock=some j->vs.ownBlock≠some j
section
variable {w W w1:World}{b B:Nat}{R H:Int}{vp vg vk vs v':Value}{k:List Sy}{st:List St}
theorem GA.lt(h:GA w b B R H vp vg vk vs k st):b<w.heap.size:=z0j h.blk
theorem GA.cell(h:GA w b B R H vp vg vk vs k st)(o:Nat):w.cell? ⟨b,o,none⟩=#[.int .i64 R,.int .i64 H,vp,vg,vk,vs][o]? := Q0b h.blk o
theorem GA.frozen(h:GA w b B R H vp vg vk vs k st)(o:Nat):w.frozen? ⟨b,o,none⟩=false:=Q0g h.blk o
theorem GA.fresh(h:GA w b B R H vp vg vk vs k st)(hf:Q0a w W):GA W b B R H vp vg vk vs k st :=
 ⟨h.lo,hf.at h.blk (fun x=>x),z0c h.ks (fun g hg=>hf.block g (h.ks.lt g hg).2 (fun x=>x)),z0c h.ss (fun g hg=>hf.block g (h.ss.lt g hg).2 (fun x=>x)),h.kb,h.sb,h.ap⟩
theorem GA.grown5(h:GA w b B R H vp vg vk vs k st)(hW:Q0a w W)(hg:W.grownBy w1 vs.ownBlock):w1.heap[b]? = some (.cells #[.int .i64 R,.int .i64 H,vp,vg,vk,vs] 74 (0,0)):=by
 have j0:=hW.at h.blk (fun x=>x);rw[hg.block b (z0j j0) (fun e=>h.sb e.symm)];exact j0
theorem GA.grown4(h:GA w b B R H vp vg vk vs k st)(hW:Q0a w W)(hg:W.grownBy w1 vk.ownBlock):w1.heap[b]? = some (.cells #[.int .i64 R,.int .i64 H,vp,vg,vk,vs] 74 (0,0)):=by
 have j0:=hW.at h.blk (fun x=>x);rw[hg.block b (z0j j0) (fun e=>h.kb e.symm)];exact j0
theorem GA.step(h:GA w b B R H vp vg vk vs k st)(hW:Q0a w W){x:St}(hown:w1.ownsRow B 141 2 v' (st.length+1) (Q00 St.cells st++x.cells))(hg:W.grownBy w1 vs.ownBlock)
  (hb:∀j,v'.ownBlock=some j->vs.ownBlock=some j∨W.heap.size<=j) :
  GA (w1.setCell ⟨b,5,none⟩ v') b B R H vp vg vk v' k (st++[x])/\UpB B w (w1.setCell ⟨b,5,none⟩ v'):=by
 have h1:=h.grown5 hW hg;have j0:=h.lt;have j1:=hW.size;have hv'b:v'.ownBlock≠some b:=fun e=>by
  rcases hb b e with h2|h2
  ·exact h.sb h2
  omega
 refine⟨⟨h.lo,?_,?_,?_,h.kb,hv'b,?_⟩,?_⟩
 ·rw[zhs h1 5 v'];rfl
 ·refine z0c h.ks (fun g hg'=>?_);have hl:=h.ks.lt g hg';rw[Proofs.YtcpceafmlgaodaaGreat.heap_setCell_other _ (by intro e;exact h.kb (by rw[hg'];exact qDn some e)),hg.block g (by omega) (fun e=>h.ap g hg' e.symm),hW.block g hl.2 (fun x=>x)]
 ·show World.ownsRow _ _ _ _ _ (st++[x]).length _;rw[z6x,qP,qAf];exact z0c hown (fun g hg'=>by rw[Proofs.YtcpceafmlgaodaaGreat.heap_setCell_other _ (by intro e;exact hv'b (by rw[hg'];exact qDn some e))])
 ·intro j hj hj';rcases hb j hj' with h2|h2
  ·exact h.ap j hj h2
  have:=(h.ks.lt j hj).2;omega
 have m1:UpB B w W:=hW.mono (fun _ _ x=>x.elim);exact(m1.grown hg (fun j hj _=>(h.ss.lt j hj).1)).setCell (fun _=>h.lo) _
theorem GA.push(h:GA w b B R H vp vg vk vs k st)(hW:Q0a w W){x:Sy}(hown:w1.ownsRow B 69 2 v' (k.reverse.length+1) (Q00 Sy.cells k.reverse++x.cells))(hg:W.grownBy w1 vk.ownBlock)
  (hb:∀j,v'.ownBlock=some j->vk.ownBlock=some j∨W.heap.size<=j) :
  GA (w1.setCell ⟨b,4,none⟩ v') b B R H vp vg v' vs (x::k) st/\UpB B w (w1.setCell ⟨b,4,none⟩ v'):=by
 have h1:=h.grown4 hW hg;have j0:=h.lt;have j1:=hW.size;have hv'b:v'.ownBlock≠some b:=fun e=>by
  rcases hb b e with h2|h2
  ·exact h.kb h2
  omega
 refine⟨⟨h.lo,?_,?_,?_,hv'b,h.sb,?_⟩,?_⟩
 ·rw[zhs h1 4 v'];rfl
 ·show World.ownsRow _ _ _ _ _ (x::k).reverse.length _;rw[List.reverse_cons,z6x,qP,qAf];exact z0c hown (fun g hg'=>by rw[Proofs.YtcpceafmlgaodaaGreat.heap_setCell_other _ (by intro e;exact hv'b (by rw[hg'];exact qDn some e))])
 ·refine z0c h.ss (fun g hg'=>?_);have hl:=h.ss.lt g hg';rw[Proofs.YtcpceafmlgaodaaGreat.heap_setCell_other _ (by intro e;exact h.sb (by rw[hg'];exact qDn some e)),hg.block g (by omega) (fun e=>h.ap g e.symm hg'),hW.block g hl.2 (fun x=>x)]
 ·intro j hj hj';rcases hb j hj with h2|h2
  ·exact h.ap j h2 hj'
  have:=(h.ss.lt j hj').2;omega
 have m1:UpB B w W:=hW.mono (fun _ _ x=>x.elim);exact(m1.grown hg (fun j hj _=>(h.ks.lt j hj).1)).setCell (fun _=>h.lo) _
theorem y6v{e:TypeId}{size n cap:Nat}{ao:Option Addr}{xs ys:List Value}(h:w.ownsRow B e size (.slice ao (n+1) cap) (n+1) (xs++ys))(hy:ys.length=size):w.ownsRow B e size (.slice ao n cap) n xs:=by
 obtain⟨h1,h2⟩:=h;have hx:xs.length=n*size:=by
  rw[qP,hy,qDt,Nat.one_mul]at h1;omega
 refine⟨hx,?_⟩;rcases h2 with⟨_,h0⟩|⟨g,cap',cur,hv,hb,hg,hnc,hcm,hcs,ht⟩
 ·omega
 rw[qI]at hv;obtain⟨rfl,_,rfl⟩:=hv;refine .inr ⟨g,cap,cur,rfl,hb,hg,by omega,hcm,hcs,?_⟩;have e1:(xs++ys).take (n*size)=xs:=by rw[List.take_append_of_le_length (by omega),qCh (by omega)]
 rw[← ht,qEf,qDq (by rw[qDt];omega)]at e1;exact e1
theorem GA.pop{ao:Option Addr}{cap:Nat}{s:Sy}(h:GA w b B R H vp vg (.slice ao (k.length+1) cap) vs (s::k) st) :
  GA (w.setCell ⟨b,4,none⟩ (.slice ao k.length cap)) b B R H vp vg (.slice ao k.length cap) vs k st/\UpB B w (w.setCell ⟨b,4,none⟩ (.slice ao k.length cap)):=by
 have j0:=h.ks;unfold SyOwn at j0;rw[List.reverse_cons,z6x,qP,qAf,qDs]at j0;have hp:=y6v j0 rfl;have j1:Value.ownBlock (.slice ao k.length cap)=Value.ownBlock (.slice ao (k.length+1) cap):=by cases ao<;>rfl
 refine⟨⟨h.lo,?_,?_,?_,by rw[j1];exact h.kb,h.sb,fun j hj=>h.ap j (by rw[j1]at hj;exact hj)⟩,(mRf _ w).setCell (fun _=>h.lo) _⟩
 ·rw[zhs h.blk 4 _];rfl
 ·show World.ownsRow _ _ _ _ _ k.reverse.length _;rw[qDs];exact z0c hp (fun g hg'=>by rw[Proofs.YtcpceafmlgaodaaGreat.heap_setCell_other _ (by intro e;exact h.kb (by rw[← j1,hg'];exact qDn some e))])
 exact z0c h.ss (fun g hg'=>by rw[Proofs.YtcpceafmlgaodaaGreat.heap_setCell_other _ (by intro e;exact h.sb (by rw[hg'];exact qDn some e))])
end
end Go.Proofs.YtcpceafmlgaodaaGreat
