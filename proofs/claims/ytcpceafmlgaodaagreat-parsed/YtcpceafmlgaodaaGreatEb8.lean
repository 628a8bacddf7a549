import Derived.Test.YtcpceafmlgaodaaGreatEb7
namespace Go.Proofs.YtcpceafmlgaodaaGreat
open Go.RowKit
set_option maxRecDepth 99999
set_option maxHeartbeats 0
set_option linter.all false
def Q4g(q:List Q1)(c:Int)(l:List Itm):List Itm:=(l.filter (fun m=>Q4q q m==c)).map mvI
theorem y95(q:List Q1)(c:Int)(l:List Itm)(m:Itm):Q4g q c (l++[m])=Q4g q c l++(if Q4q q m=c then [mvI m] else []):=by
 unfold Q4g;rw[qBu,qBf];by_cases h:Q4q q m=c
 ·rw[qAb h];simp[h]
 rw[qAa h];simp[h]
theorem x3k(q:List Q1)(c:Int)(l:List Itm):(Q4g q c l).length<=l.length:=by
 unfold Q4g;rw[qAo];exact qCw _ _
theorem z6d{q:List Q1}{c:Int}{l:List Itm}{y:Itm}:y∈Q4g q c l↔∃m∈l,Q4q q m=c/\mvI m=y:=by
 unfold Q4g;rw[qBp];constructor
 ·rintro⟨m,h1,h2⟩;rw[qCx,qAx]at h1;exact⟨m,h1.1,h1.2,h2⟩
 rintro⟨m,h1,h2,h3⟩;exact⟨m,by rw[qCx,qAx];exact⟨h1,h2⟩,h3⟩
theorem x6o{q:List Q1}{c:Int}{l:List Itm}(h:l.Nodup):(Q4g q c l).Nodup:=by
 unfold Q4g List.Nodup at *;rw[List.pairwise_map];refine(List.Pairwise.filter _ h).imp ?_;intro a b hne e;apply hne;obtain⟨a1,a2,a3⟩:=a;obtain⟨b1,b2,b3⟩:=b;simp only[mvI,Itm.mk.injEq]at e ⊢;omega
theorem infoIts:(Tryz.prog.info? 164).map (fun i=>(i.zero,i.size,i.bytes))=some (some (.slice none 0 0),1,24):=by kernel_rfl
theorem Q9r:∃i,Tryz.prog.info? 164=some i/\i.zero=some (.slice none 0 0)/\i.size=1/\i.bytes=24:=nfoE infoIts
theorem Q6s{α:Type}{l:List α}{a u:α}{k:Nat}(h:(l++[a])[k]? = some u):(k<l.length/\l[k]? = some u)∨(k=l.length/\u=a):=by
 rcases qBn k l.length with q|q
 ·rw[qAe q]at h;exact .inl ⟨q,h⟩
 rw[qAg q]at h;have:=(qS h).1;simp at this;have e:k=l.length:=by omega
 subst e;simp at h;exact .inr ⟨rfl,h.symm⟩
theorem Q7v.push{w0 w W w2:World}{cb gs cap b:Nat}{vs:List Value}{L:List (List Itm)}{v v':Value}{X:List Itm}(h:Q7v w0 w cb gs cap b vs L)(hf:Q0a w W)(hI:ItsAt W v X)(hvb:∀g,v.ownBlock=some g->w.heap.size<=g)
  (ho:w2.ownsRow 0 164 1 v' (vs.length+1) (vs++[v])) (hg:W.grownBy w2 (some gs)) (hb:∀k,v'.ownBlock=some k->(some gs:Option Nat)=some k∨W.heap.size<=k) :
  ∃gs' cap',Q7v w0 (w2.setCell ⟨cb,1,none⟩ v') cb gs' cap' b (vs++[v]) (L++[X]):=by
 obtain⟨gs',cap',e⟩:=Joins.ownsRow_form ho (by omega);subst e;have j9:gs<w.heap.size:=(h.row.lt gs rfl).2;have j5:cb<w.heap.size:=z0j h.c;have j8:=hf.size;have j6:=h.fr.size;have j7:=hg.size;have j4:=hb gs' rfl;have keep:∀x,x<W.heap.size->x≠gs->w2.heap[x]? = W.heap[x]? := fun x hx hne=>hg.block x hx (fun e=>hne (by injection e));have j0:∀x,x<w.heap.size->x≠gs->w2.heap[x]? = w.heap[x]? := fun x hx hne=>(keep x (by omega) hne).trans (hf.block x hx (fun q=>q));have j2:gs'=gs∨W.heap.size<=gs':=by
  rcases j4 with q|q
  ·injection q with q;exact .inl q.symm
  exact .inr q
 have j1:gs'≠cb:=by
  rcases j2 with q|q
  ·rw[q];exact h.ne
  omega
 have F:Q0a w0 w2:=⟨hg.os.trans (hf.os.trans h.fr.os),hg.tape.trans (hf.tape.trans h.fr.tape),hg.output.trans (hf.output.trans h.fr.output),by omega,fun x hx _=>by
  rw[j0 x (by omega) (fun e=>by have:=h.gB;omega)];exact h.fr.block x hx (fun q=>q)⟩
 have j3:∀(k:Nat) (u:Value) (g:Nat),vs[k]? = some u->u.ownBlock=some g->g<w.heap.size:=fun k u g hu hg'=>by
  have hl:k<L.length:=by rw[← h.len];exact(qS hu).1
  exact((h.each k u _ hu (qE hl)).own.lt g hg').2
 refine⟨gs',cap',F.setCell (p:=⟨cb,1,none⟩) (fun hlt=>absurd hlt (by have:=h.cB;dsimp only;omega)) _,?_,h.cB,?_,j1,?_,by simp[h.len],fun k u Y h1 h2=>?_,fun k u g h1 h2=>?_,fun j k u u' g h1 h2 h3 h4=>?_⟩
 ·rw[zhs (by rw[j0 cb j5 (fun e=>h.ne e.symm)];exact h.c) 1,qP];rfl
 ·rcases j2 with q|q
  ·rw[q];exact h.gB
  omega
 ·rw[qP];exact z0c ho (fun g e=>by cases e;exact heap_setCell_other _ j1)
 ·rcases Q6s h1 with⟨q1,q2⟩|⟨q1,q2⟩
  ·rw[qAe (by rw[← h.len];exact q1)]at h2;have hE:=h.each k u Y q2 h2;refine⟨z0c hE.own (fun g e=>?_),hE.wf⟩;have hl:=h.low k u g q2 e;rw[heap_setCell_other _ hl.2.1];exact j0 g (hE.own.lt g e).2 hl.2.2
  subst q2;rw[q1,h.len,qAg (qR _),qCu]at h2;simp at h2;subst h2;refine⟨z0c hI.own (fun g e=>?_),hI.wf⟩;have:=hvb g e;rw[heap_setCell_other _ (by dsimp only;omega)];exact keep g (hI.own.lt g e).2 (by omega)
 ·rcases Q6s h1 with⟨q1,q2⟩|⟨q1,q2⟩
  ·have hl:=h.low k u g q2 h2;have:=j3 k u g q2 h2;refine⟨hl.1,hl.2.1,fun e=>?_⟩;rcases j2 with q|q
   ·exact hl.2.2 (e.trans q)
   omega
  subst q2;have h5:=hvb g h2;have h6:=(hI.own.lt g h2).2;exact⟨by omega,by omega,fun e=>by rcases j2 with q|q<;>omega⟩
 rcases Q6s h1 with⟨q1,q2⟩|⟨q1,q2⟩<;>rcases Q6s h2 with⟨q3,q4⟩|⟨q3,q4⟩
 ·exact h.sep j k u u' g q2 q4 h3 h4
 ·subst q4;have:=hvb g h4;have:=j3 j u g q2 h3;omega
 ·subst q2;have:=hvb g h3;have:=j3 k u' g q4 h4;omega
 omega
def TkRet(w0:World)(cb gs cap b R:Nat)(q:List Q1)(P:List (List Itm))(X:List Itm)(c:Int)(Q:Itm->Prop)(e:Ending)(w':World):Prop :=
 (Q4g q c X=[]/\e=.returned (.bool false)/\ChG w0 w' cb gs cap b (P++[X]))∨(Q4g q c X≠[]/\e=.returned (.bool true)/\∃gs' cap' X',ChG w0 w' cb gs' cap' b ((P++[X])++[X'])/\Q4s Q (Q4g q c X) X'/\∀m∈X',Q57 R q (P++[X]) X' m)
attribute [local go_sem ↓] z5h
theorem x1s(w0 w:World)(cb gs cap b R H:Nat)(q:List Q1)(P:List (List Itm))(X:List Itm)(c:Int)(Q:Itm->Prop)(hS:Q3x w0 b R H q)(hQ:QOk R H q)(h:ChG w0 w cb gs cap b (P++[X]))(hX:X.Nodup)(hP:P.length<60)
  (hPb:∀Y∈P++[X],Q8g q Y) (hF:FillQ R q (P++[X]) Q) (hsc:∀m∈X,Q4q q m=c->Q (mvI m)) :
  Calls Tryz.prog 36 #[.pointer (some ⟨cb,0,none⟩),.int .i64 c] w fun e w'=>TkRet w0 cb gs cap b R q P X c Q e w':=by
 obtain⟨i0,hi0,hz0,hz1,hz2⟩:=infoIt';obtain⟨i1,hi1,hy0,hy1,hy2⟩:=Q9r;obtain⟨vs,a,cp,hA,hl,hv,hI⟩:=h.set (qR _);rw[z2h]at hv hI;have j9:=hPb X (by simp);have k8:=j9.1;have HA:=hid hA;have HC:=hid h;have HS:=hid hS;have HQ:=hid hQ;have HV:=hid hv;have HI:=hid hI;have k4:cb<w.heap.size:=z0j hA.c;have k5:gs<w.heap.size:=(hA.row.lt gs rfl).2;have k1:=hA.s;rw[hl]at k1;have jm:=hid j9.2;have FI:Hid (∀(W:World) (gs' cap':Nat),ChG w0 W cb gs' cap' b ((P++[X])++[Q4g q c X])->Calls Tryz.prog 72 #[.pointer (some ⟨cb,0,none⟩)] W fun e w'=>e=.returned (.tuple #[])/\∃X',ChG w0 w' cb gs' cap' b ((P++[X])++[X'])/\Q4s Q (Q4g q c X) X'/\∀m∈X',Q57 R q (P++[X]) X' m):=hid (fun W gs' cap' hW=>y7y w0 W cb gs' cap' b R H q (P++[X]) (Q4g q c X) Q hS hQ hW ⟨⟨[],by simp⟩,x6o hX,fun m hm=>by
  obtain⟨y,y1,y2,rfl⟩:=z6d.1 hm;exact hsc y y1 y2⟩ (by simp;omega) hPb hF)
 generalize hp:P.length=n at hP hl k1 HV hv;have k3:=hid hp;have j7:=hid hl;have k9:IntKind.i64.wrap (((n+1:Nat):Int)-1)=(n:Int):=by rw[IntKind.wrap_i64];omega
 have s1:(n:Int)<((n+1:Nat):Int):=by omega
 generalize hNF:Q4g q c X=NF at FI;have j3:=hid hNF;clear hA hv hI h hS hQ j9 hPb hF hsc hp hX hNF hl;go_enter Tryz.func36,Tryz.ntmps36
 go_wp2;go_loopw [6,7,8,9] (fun x6 x7 _ _ wr=>∃(k:Nat) (N:List Itm),x7=.int .i64 k/\k<=X.length/\N=Q4g q c (X.take k)/\wr.ownsRow w.heap.size 163 3 x6 N.length (Q00 Itm.cells N)/\Q0a w wr)
   (fun _ x _ _ _=>10001-(intOf x).toNat)
 case atStart=>exact⟨0,[],rfl,by omega,by simp[Q4g],World.ownsRow_nil _ _ _ _,mRf _ _⟩
 obtain⟨k,N,rfl,hk,hNk,hown,hfr⟩:=hrel;have k0:N.length<=8540:=by rw[hNk];have:=x3k q c (X.take k);rw[qBo]at this;omega
 have jh:=hid (Q15 (B:=10001) k (by omega));have HO:=hid hown;have HF:=hid hfr;have jj:=hid hNk;obtain⟨na,nc,hnv⟩:=z0d hown;subst hnv;have k1:=(HA.fresh hfr).s;rw[j7.out]at k1;have k2:=(HA.fresh hfr).at HV.out;have kx:=(HA.fresh hfr).x;have hI:=HI.fresh hfr;have k7:w.heap.size<=wr.heap.size:=hfr.size;clear hown hNk;by_cases hlt:k<X.length
 ·have s2:(k:Int)<(X.length:Int):=by omega
  obtain⟨g,c',hgf⟩:=Joins.ownsRow_form hI.own (by omega);rw[qI]at hgf;obtain⟨rfl,_,rfl⟩:=hgf;have r1:=hI.range k hlt;have jo:=jm.out _ (qG hlt);have jd:X.take (k+1)=X.take k++[X[k]]:=Q6g hlt;generalize X[k]=m at r1 jo jd;have l1:(ldI (.pointer (some ⟨g,k*3,none⟩))).run Tryz.prog wr=.ok (.agg (itA m.p m.d m.f)) wr:=z3a r1;have jl:=hid jd;obtain⟨hm1,hm2⟩:=jo;clear r1 hI jd;go_upto_region 7 with(first
   |(refine z0e rfl 163 _ _ rfl wr _ (itA m.p m.d m.f) _ rfl rfl rfl szIt rfl (y79 _ _ _) ?_))
  have j8:=Q9x wr m 163;have j4:Q0a wr (wr.alloc (.cells (itA m.p m.d m.f) 163 (0,0))):=(mRf _ wr).alloc _;have jb:=z0a wr (.cells (itA m.p m.d m.f) 163 (0,0));generalize(wr.alloc (.cells (itA m.p m.d m.f) 163 (0,0)))=W2 at j8 j4 jb ⊢;have l2:(ldI (.pointer (some ⟨wr.heap.size,0,none⟩))).run Tryz.prog W2=.ok (.agg (itA m.p m.d m.f)) W2:=z3a j8;have jf:=hid j4;have je:=hid jb;have SY:=hid (z5k W2 cb b R H q m (Q0i j4 kx) (HS.fresh ((HA.fr.trans hfr).trans j4)) HQ.out hm1 (by omega));clear l1 k1 k2 kx j8 j4 jb hfr;go_upto_region 8 with(first
   |(go_at_call 73;refine(SY.out).mono ?_;rintro e W3⟨rfl,hf3⟩;have j5:=hid (jf.trans hf3);have j0:=hid (hf3.at je.out (fun x=>x));clear hf3))
  have b0:W3.cell? ⟨wr.heap.size,0,none⟩=some (.int .i64 m.p):=Q0b j0.out 0;have b1:W3.cell? ⟨wr.heap.size,1,none⟩=some (.int .i64 m.d):=Q0b j0.out 1;have b2:W3.cell? ⟨wr.heap.size,2,none⟩=some (.int .i64 m.f):=Q0b j0.out 2;have j6:=hid (z0c HO.out (fun g hg=>j5.block g (HO.lt g hg).2 (fun x=>x)));have k6:w.heap.size<=W3.heap.size:=by have:=j5.size;omega
  have jg:=hid (HF.trans j5.out);have j1:=y95 q c (X.take k) m;rw[← jl.out,← jj.out]at j1;generalize hsy:Q4q q m=sc at j1;clear l2 SY jf je j0 jl;by_cases heq:sc=c
  ·subst heq;rw[qAb rfl]at j1;have j2:=hid j1;clear j1;go_wp2_with (first
    |(at_builtin;refine z0g _ rfl _ _ 164 rfl w.heap.size 163 i0 _ 3 24 Tryz.underlying164 hi0 hz0 hz1 hz2 rfl (by decide) (.slice na N.length nc) N.length (Q00 Itm.cells N) rfl (World.ownsRow.alloc j6.out _) ⟨W3.heap.size,0,none⟩ 1 1 (mvI m).cells rfl rfl (z0l rfl) (by intro u hu;simp[Itm.cells]at hu;rcases hu with rfl|rfl|rfl<;>rfl) (by unfold maxLen;omega) (by omega) (by simp;omega) ?_;intro v9 w4 hown2 hgrow hblk;have jv:=hid hown2;have jt:=hid (Mod.grown (S:=fun _=>False) (jg.alloc _) hgrow (fun k hk hlt=>by have:=(j6.lt k hk).1;omega));clear hown2 hgrow hblk))
   go_roundw
   case rel=>exact⟨k+1,N++[mvI m],by go_num,by omega,j2.symm,by rw[qP,z0y];exact jv.out,jt.out⟩
   exact jh.out
  rw[qAa heq,qAt]at j1;have j2:=hid j1;clear j1;go_wp2;go_roundw
  case rel=>exact⟨k+1,N,by go_num,by omega,j2.symm,j6.out,jg.out⟩
  exact jh.out
 have s2:¬(k:Int)<(X.length:Int):=by omega
 have jx:N=NF:=by rw[jj.out,qCh (by omega),j3.out]
 subst jx;cases N with
 |nil =>
  go_wp2;go_ret;exact .inl ⟨j3.out,rfl,HC.fresh HF.out⟩
 |cons y N =>
  have jc:¬(((y::N).length:Int)=0):=by simp;omega
  have ji:Hid (y::N≠[]):=hid (by simp);generalize y::N=NF at jc ji HO j3 FI k0;have jk:=hid (z0c HA.row (fun g hg=>HF.block g (HA.row.lt g hg).2 (fun x=>x)));have jz:n<=60:=by omega
  have PU:Hid (∀(o:Obj) (v':Value) (w2:World),w2.ownsRow 0 164 1 v' (vs.length+1) (vs++[.slice na NF.length nc])->(wr.alloc o).grownBy w2 (some gs)->(∀k,v'.ownBlock=some k->(some gs:Option Nat)=some k∨(wr.alloc o).heap.size<=k)->∃gs' cap',ChG w0 (w2.setCell ⟨cb,1,none⟩ v') cb gs' cap' b ((P++[X])++[NF])):=hid (fun o v' w2 h1 h2 h3=>by
   have jy:Q0a w (wr.alloc o):=HF.alloc _;obtain⟨gs',cap',hz⟩:=HA.push jy (v:=.slice na NF.length nc) (X:=NF) (Q2e.fresh ⟨z0f HO.out (qBg _),fun x _=>rfl⟩ ((mRf _ wr).alloc _)) (fun g hg=>(HO.lt g hg).1) h1 h2 h3;exact⟨gs',cap',_,hz⟩)
  have jp:Hid (∀(o:Obj) (w2:World),(wr.alloc o).grownBy w2 (some gs)->w2.heap[cb]? = wr.heap[cb]?):=hid (fun o w2 h2=>by
   rw[h2.block cb (by have:=HF.size;simp;omega) (fun e=>by injection e with e;exact HA.ne e.symm)];exact z0w (by omega))
  have jn:wr.heap[cb]? = some (.cells #[.pointer (some ⟨b,0,none⟩),.slice (some ⟨gs,0,none⟩) (n+1:Nat) cap] 160 (0,0)):=by
   have:=(HA.fresh HF.out).c;rw[j7.out]at this;exact this
  have jr:=hid jn;rw[j7.out]at PU jk;clear jn kx hI HO HI jm;go_wp2_with (first
   |(at_builtin;refine z0g _ rfl _ _ 158 rfl 0 164 i1 _ 1 24 Tryz.underlying158 hi1 hy0 hy1 hy2 rfl (by decide) (.slice (some ⟨gs,0,none⟩) (n+1:Nat) cap) (n+1) vs rfl (World.ownsRow.alloc jk.out _) ⟨wr.heap.size,0,none⟩ 1 1 [.slice na NF.length nc] rfl rfl (z0l rfl) (by intro u hu;simp at hu;subst hu;rfl) (by unfold maxLen;omega) (by omega) (by omega) ?_;intro v9 w4 hown2 hgrow hblk;obtain⟨gs9,cap9,hpu⟩:=PU.out _ _ _ hown2 hgrow hblk;have jw:=hid hpu;have ja:w4.heap[cb]? = _:=(jp.out _ _ hgrow).trans jr.out;have kk:=Q0b ja 1;have kf:=Q0g ja 1;simp at kk;obtain⟨a9,c9,hv9⟩:=z0d hown2;clear hown2 hgrow hblk hpu ja;subst hv9)
   |(go_at_call 72;refine(FI.out _ _ _ jw.out).mono ?_;rintro e w5⟨rfl,X',hC5,hg5,hd5⟩;have jq:=hid hC5;have ju:=hid hg5;have js:=hid hd5;clear hC5 hg5 hd5))
  go_ret;refine .inr ⟨by rw[j3.out];exact ji.out,rfl,_,_,X',jq.out,?_,js.out⟩;rw[j3.out];exact ju.out
theorem Q7v.init{w0 W w2:World}{cb b:Nat}{v':Value}(hf:Q0a w0 W)(hcb:w0.heap.size<=cb)(hlt:cb<W.heap.size){a:Value}(hc:W.heap[cb]? = some (.cells #[.pointer (some ⟨b,0,none⟩),a] 160 (0,0)))
  (ho:w2.ownsRow w0.heap.size 164 1 v' 1 [.slice none 0 0]) (hg:W.grownBy w2 none) (hb:∀k,v'.ownBlock=some k->W.heap.size<=k) :
  ∃gs cap,Q7v w0 (w2.setCell ⟨cb,1,none⟩ v') cb gs cap b [.slice none 0 0] ([]++[[]]):=by
 obtain⟨gs,cap,e⟩:=Joins.ownsRow_form ho (by omega);subst e;have j1:=hb gs rfl;have j0:=hg.size;have h0:=hf.size;have keep:∀x,x<W.heap.size->w2.heap[x]? = W.heap[x]? := fun x hx=>hg.block x hx (fun e=>by cases e);have F:Q0a w0 w2:=⟨hg.os.trans hf.os,hg.tape.trans hf.tape,hg.output.trans hf.output,by omega,fun x hx _=>by
  rw[keep x (by omega)];exact hf.block x hx (fun q=>q)⟩
 have one:∀(k:Nat) (u:Value),([.slice none 0 0]:List Value)[k]? = some u->k=0/\u=.slice none 0 0:=fun k u h=>by
  rcases k with _|k
  ·simp at h;exact⟨rfl,h.symm⟩
  simp at h
 refine⟨gs,cap,F.setCell (p:=⟨cb,1,none⟩) (fun hlt=>absurd hlt (by dsimp only;omega)) _,?_,hcb,by omega,by omega,?_,by simp,fun k u Y h1 h2=>?_,fun k u g h1 h2=>?_,fun j k u u' g h1 h2 h3 h4=>?_⟩
 ·rw[zhs (by rw[keep cb hlt];exact hc) 1];rfl
 ·exact z0c (z0f ho (qBg _)) (fun g e=>by cases e;exact heap_setCell_other _ (by dsimp only;omega))
 ·obtain⟨rfl,rfl⟩:=one k u h1;simp at h2;subst h2;exact Q2e.nil _ _ _ _
 ·obtain⟨rfl,rfl⟩:=one k u h1;cases h2
 obtain⟨rfl,rfl⟩:=one j u h1;cases h3
def CtRet(w:World)(b R:Nat)(q:List Q1)(Q:Itm->Prop)(e:Ending)(w':World):Prop:=∃cb gs cap X',e=.returned (.pointer (some ⟨cb,0,none⟩))/\ChG w w' cb gs cap b ([]++[X'])/\Q4s Q [] X'/\(∀m∈X',Q57 R q [] X' m)/\∀(p:Nat) (x:Q1),q[p]? = some x->x.1=0->(⟨p,0,0⟩:Itm)∈X'
theorem x1k(w:World)(b R H:Nat)(q:List Q1)(Q:Itm->Prop)(hS:Q3x w b R H q)(hQ:QOk R H q)(hF:FillQ R q [] Q)(hi:∀(p:Nat) (x:Q1),q[p]? = some x->x.1=0->Q ⟨p,0,0⟩) :
  Calls Tryz.prog 35 #[.pointer (some ⟨b,0,none⟩)] w fun e w'=>CtRet w b R q Q e w':=by
 obtain⟨i1,hi1,hy0,hy1,hy2⟩:=Q9r;have j6:=hQ.p20;have HS:=hid hS;have HQ:=hid hQ;have j7:=hid hF;have HI:=hid hi;obtain⟨a0,c0,a1,c1,a2,c2,v3,v4,sv,hN⟩:=hS;have HN:=hid hN;have FI:Hid (∀(W:World) (cb gs cap:Nat) (X:List Itm),ChG w W cb gs cap b ([]++[X])->Q4s Q X X->Calls Tryz.prog 72 #[.pointer (some ⟨cb,0,none⟩)] W fun e w'=>e=.returned (.tuple #[])/\∃X',ChG w w' cb gs cap b ([]++[X'])/\Q4s Q X X'/\∀m∈X',Q57 R q [] X' m):=hid (fun W cb gs cap X hW hX=>y7y w W cb gs cap b R H q [] X Q HS.out HQ.out hW hX (by simp) (fun Y hY=>by cases hY) j7.out);have j0:=z0a w (.cells #[.pointer (some ⟨b,0,none⟩),.slice none 0 0] 160);have j5:=Q0g j0 1;have jc:Hid (∀(o:Obj) (v':Value) (w2:World),w2.ownsRow w.heap.size 164 1 v' (0+1) ([]++[.slice none 0 0])->((w.alloc (.cells #[.pointer (some ⟨b,0,none⟩),.slice none 0 0] 160)).alloc o).grownBy w2 (Value.ownBlock (.slice none 0 0))->(∀k,v'.ownBlock=some k->Value.ownBlock (.slice none 0 0)=some k∨((w.alloc (.cells #[.pointer (some ⟨b,0,none⟩),.slice none 0 0] 160)).alloc o).heap.size<=k) ->
   (∃gs cap,ChG w (w2.setCell ⟨w.heap.size,1,none⟩ v') w.heap.size gs cap b ([]++[[]]))/\w2.heap[w.heap.size]? = some (.cells #[.pointer (some ⟨b,0,none⟩),.slice none 0 0] 160 (0,0))):=hid (fun o v' w2 h1 h2 h3=>by
  have hc:((w.alloc (.cells #[.pointer (some ⟨b,0,none⟩),.slice none 0 0] 160)).alloc o).heap[w.heap.size]? = some (.cells #[.pointer (some ⟨b,0,none⟩),.slice none 0 0] 160 (0,0)):=z0b (z0a _ _);constructor
  ·obtain⟨gs,cap,hz⟩:=Q7v.init (w0:=w) (b:=b) (((mRf _ w).alloc _).alloc o) (qR _) (z0j hc) hc h1 h2 (fun k hk=>by
    rcases h3 k hk with z|z
    ·cases z
    exact z)
   exact⟨gs,cap,_,hz⟩
  rw[h2.block _ (z0j hc) (fun e=>by cases e)];exact hc)
 clear hQ hF hi hN;go_enter Tryz.func35,Tryz.ntmps35
 go_upto_region 3 with(first
  |(at_builtin;refine z0g _ rfl _ _ 158 rfl w.heap.size 164 i1 _ 1 24 Tryz.underlying158 hi1 hy0 hy1 hy2 rfl (by decide) (.slice none 0 0) 0 [] rfl (World.ownsRow_nil _ _ _ _) ⟨w.heap.size+1,0,none⟩ 1 1 [.slice none 0 0] rfl rfl (z2s rfl) (by intro u hu;simp at hu;subst hu;rfl) (by unfold maxLen;omega) (by omega) (by simp;omega) ?_;intro v9 w4 hown2 hgrow hblk;obtain⟨⟨gs,cap,hpu⟩,hb9⟩:=jc.out _ _ _ hown2 hgrow hblk;have j4:=hid hpu;have kk:=Q0b hb9 1;have kf:=Q0g hb9 1;simp at kk;obtain⟨a9,c9,hv9⟩:=z0d hown2;clear hown2 hgrow hblk hpu hb9;subst hv9))
 generalize w4.setCell _ _=W1 at j4 ⊢;clear jc kk kf j0 j5;go_wp2;go_loopw [4] (fun x4 wr=>∃(p:Nat) (X:List Itm),x4=.int .i64 p/\p<=q.length/\ChG w wr w.heap.size gs cap b ([]++[X])/\Q4s Q [] X/\∀(p':Nat) (z:Q1),p'<p->q[p']? = some z->z.1=0->(⟨p',0,0⟩:Itm)∈X)
   (fun x _=>1001-(intOf x).toNat)
 case atStart=>exact⟨0,[],rfl,by omega,j4.out,⟨⟨[],rfl⟩,by simp,fun m hm=>by cases hm⟩,fun p' z h=>absurd h (by omega)⟩
 obtain⟨p,X,rfl,hp,hC,hg,hB⟩:=hrel;have j9:=hid (Q15 (B:=1001) p (by omega));have HC:=hid hC;have HG:=hid hg;have HB:=hid hB;have jf:=hg.len j7.b j6;obtain⟨vs,hA⟩:=hC;have hN:=HN.fresh hA.fr;have z1:=hN.k1;clear j4 hg hB hA;by_cases hlt:p<q.length
 ·have s1:(p:Int)<(q.length:Int):=by omega
  obtain⟨g3,o3,c3,g4,o4,n4,c4,al,cl,hPr⟩:=hN.pr hlt;have q3:=hPr.q3;have y3:=hPr.y3;have hz:q[p]? = some q[p]:=qE hlt;have j1:Hid (∀X5,Q4s Q X X5->(q[p].1=0->(⟨p,0,0⟩:Itm)∈X5)->∀(p':Nat) (z:Q1),p'<p+1->q[p']? = some z->z.1=0->(⟨p',0,0⟩:Itm)∈X5):=hid (fun X5 h5 hin p' z hp' hz' e=>by
   rcases qBn p' p with r|r
   ·exact h5.mem (HB.out p' z r hz' e)
   obtain rfl:p'=p:=by omega
   rw[hz]at hz';injection hz' with hz';subst hz';exact hin e)
  have jb:=hid (HI.out p q[p] hz);generalize q[p]=y at y3 j1 jb;clear hPr hN hz;by_cases h0:y.1=0
  ·have PU:Hid (Calls Tryz.prog 71 #[.pointer (some ⟨w.heap.size,0,none⟩),.agg (itA p 0 0)] wr fun e w'=>e=.returned (.bool (!inI X ⟨p,0,0⟩))/\ChG w w' w.heap.size gs cap b ([]++[Q8m X ⟨p,0,0⟩])):=hid (y1v w wr w.heap.size gs cap b [] X ⟨p,0,0⟩ HC.out (by simp) (by omega));have ja:=hid (jb.out h0);rw[h0]at y3;go_wp2_with (first
    |(go_at_call 71;refine(PU.out).mono ?_;rintro e W5⟨rfl,hC5⟩;have j3:=hid hC5;clear hC5))
   go_roundw
   case rel=>exact⟨p+1,_,by go_num,by omega,j3.out,HG.put ja.out,j1.out _ (HG.refl.put ja.out) (fun _=>y17 _ _)⟩
   exact j9.out
  have j2:=hid (j1.out X HG.refl (fun e=>absurd e h0));go_wp2;go_roundw
  case rel=>exact⟨p+1,X,by go_num,by omega,HC.out,HG.out,j2.out⟩
  exact j9.out
 have s1:¬(p:Int)<(q.length:Int):=by omega
 have jd:=hid (FI.out wr w.heap.size gs cap X HC.out HG.refl);have j2:=hid (fun(p':Nat) (z:Q1) (h1:q[p']? = some z) (h2:z.1=0)=>HB.out p' z (by have:=(qS h1).1;omega) h1 h2);clear hN;go_wp2_with (first
  |(go_at_call 72;refine(jd.out).mono ?_;rintro e w5⟨rfl,X',hC5,hg5,hd5⟩;have j3:=hid hC5;have j8:=hid hg5;have je:=hid hd5;clear hC5 hg5 hd5))
 go_ret;exact⟨_,gs,cap,X',rfl,j3.out,HG.trans j8.out,je.out,fun p' z h1 h2=>j8.mem (j2.out p' z h1 h2)⟩
end Go.Proofs.YtcpceafmlgaodaaGreat
