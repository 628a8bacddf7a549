import Derived.Test.YtbdpfmalabgmbaaGreatEb7
namespace Go.Proofs.YtbdpfmalabgmbaaGreat
open Go.RowKit
set_option maxRecDepth 99999
set_option maxHeartbeats 0
set_option linter.all false
def Q4n(q:List Q1)(c:Int)(l:List Itm):List Itm:=(l.filter (fun m=>Q4w q m==c)).map mvI
theorem x0r(q:List Q1)(c:Int)(l:List Itm)(m:Itm):Q4n q c (l++[m])=Q4n q c l++(if Q4w q m=c then [mvI m] else []):=by
 unfold Q4n;rw[qBx,qBp];by_cases h:Q4w q m=c
 ·rw[qAb h];simp[h]
 rw[qAa h];simp[h]
theorem x31(q:List Q1)(c:Int)(l:List Itm):(Q4n q c l).length<=l.length:=by
 unfold Q4n;rw[qAv];exact qCc _ _
theorem z6m{q:List Q1}{c:Int}{l:List Itm}{y:Itm}:y∈Q4n q c l↔∃m∈l,Q4w q m=c/\mvI m=y:=by
 unfold Q4n;rw[qBj];constructor
 ·rintro⟨m,h1,h2⟩;rw[qDi,qBi]at h1;exact⟨m,h1.1,h1.2,h2⟩
 rintro⟨m,h1,h2,h3⟩;exact⟨m,by rw[qDi,qBi];exact⟨h1,h2⟩,h3⟩
theorem x64{q:List Q1}{c:Int}{l:List Itm}(h:l.Nodup):(Q4n q c l).Nodup:=by
 unfold Q4n List.Nodup at *;rw[List.pairwise_map];refine(List.Pairwise.filter _ h).imp ?_;intro a b j0 e;apply j0;obtain⟨a1,a2,a3⟩:=a;obtain⟨b1,b2,b3⟩:=b;simp only[mvI,Itm.mk.injEq]at e ⊢;omega
theorem infoIts:(Tryz.prog.info? 181).map (fun i=>(i.zero,i.size,i.bytes))=some (some (.slice none 0 0),1,24):=by kernel_rfl
theorem Q96:∃i,Tryz.prog.info? 181=some i/\i.zero=some (.slice none 0 0)/\i.size=1/\i.bytes=24:=nfoE infoIts
theorem Q63{α:Type}{l:List α}{a u:α}{k:Nat}(h:(l++[a])[k]? = some u):(k<l.length/\l[k]? = some u)∨(k=l.length/\u=a):=by
 rcases qCk k l.length with q|q
 ·rw[qAl q]at h;exact .inl ⟨q,h⟩
 rw[qAr q]at h;have:=(qS h).1;simp at this;have e:k=l.length:=by omega
 subst e;simp at h;exact .inr ⟨rfl,h.symm⟩
theorem Q78.push{w0 w W w2:World}{cb gs cap b:Nat}{vs:List Value}{L:List (List Itm)}{v v':Value}{X:List Itm}(h:Q78 w0 w cb gs cap b vs L)(hf:Q0a w W)(hI:ItsAt W v X)(hvb:∀g,v.ownBlock=some g->w.heap.size<=g)
  (ho:w2.ownsRow 0 181 1 v' (vs.length+1) (vs++[v])) (hg:W.grownBy w2 (some gs)) (hb:∀k,v'.ownBlock=some k->(some gs:Option Nat)=some k∨W.heap.size<=k) :
  ∃gs' cap',Q78 w0 (w2.setCell ⟨cb,1,none⟩ v') cb gs' cap' b (vs++[v]) (L++[X]):=by
 obtain⟨gs',cap',e⟩:=Joins.ownsRow_form ho (by omega);subst e;have j9:gs<w.heap.size:=(h.row.lt gs rfl).2;have j5:cb<w.heap.size:=z0j h.c;have j8:=hf.size;have j6:=h.fr.size;have j7:=hg.size;have j4:=hb gs' rfl;have keep:∀x,x<W.heap.size->x≠gs->w2.heap[x]? = W.heap[x]? := fun x hx hne=>hg.block x hx (fun e=>hne (by injection e));have j0:∀x,x<w.heap.size->x≠gs->w2.heap[x]? = w.heap[x]? := fun x hx hne=>(keep x (by omega) hne).trans (hf.block x hx (fun q=>q));have j2:gs'=gs∨W.heap.size<=gs':=by
  rcases j4 with q|q
  ·injection q with q;exact .inl q.symm
  exact .inr q
 have j1:gs'≠cb:=by
  rcases j2 with q|q
  ·rw[q];exact h.ne
  omega
 have F:Q0a w0 w2:=⟨hg.os.trans (hf.os.trans h.fr.os),hg.tape.trans (hf.tape.trans h.fr.tape),hg.output.trans (hf.output.trans h.fr.output),by omega,fun x hx _=>by
  rw[j0 x (by omega) (fun e=>by have:=h.gB;omega)];exact h.fr.block x hx (fun q=>q)⟩
 have j3:∀(k:Nat) (u:Value) (g:Nat),vs[k]? = some u->u.ownBlock=some g->g<w.heap.size:=fun k u g hu hg'=>by
  have hl:k<L.length:=by rw[← h.len];exact(qS hu).1
  exact((h.each k u _ hu (qE hl)).own.lt g hg').2
 refine⟨gs',cap',F.setCell (p:=⟨cb,1,none⟩) (fun hlt=>absurd hlt (by have:=h.cB;dsimp only;omega)) _,?_,h.cB,?_,j1,?_,by simp[h.len],fun k u Y h1 h2=>?_,fun k u g h1 h2=>?_,fun j k u u' g h1 h2 h3 h4=>?_⟩
 ·rw[zhs (by rw[j0 cb j5 (fun e=>h.ne e.symm)];exact h.c) 1,qP];rfl
 ·rcases j2 with q|q
  ·rw[q];exact h.gB
  omega
 ·rw[qP];exact z0d ho (fun g e=>by cases e;exact heap_setCell_other _ j1)
 ·rcases Q63 h1 with⟨q1,q2⟩|⟨q1,q2⟩
  ·rw[qAl (by rw[← h.len];exact q1)]at h2;have hE:=h.each k u Y q2 h2;refine⟨z0d hE.own (fun g e=>?_),hE.wf⟩;have hl:=h.low k u g q2 e;rw[heap_setCell_other _ hl.2.1];exact j0 g (hE.own.lt g e).2 hl.2.2
  subst q2;rw[q1,h.len,qAr (qR _),qEm]at h2;simp at h2;subst h2;refine⟨z0d hI.own (fun g e=>?_),hI.wf⟩;have:=hvb g e;rw[heap_setCell_other _ (by dsimp only;omega)];exact keep g (hI.own.lt g e).2 (by omega)
 ·rcases Q63 h1 with⟨q1,q2⟩|⟨q1,q2⟩
  ·have hl:=h.low k u g q2 h2;have:=j3 k u g q2 h2;refine⟨hl.1,hl.2.1,fun e=>?_⟩;rcases j2 with q|q
   ·exact hl.2.2 (e.trans q)
   omega
  subst q2;have h5:=hvb g h2;have h6:=(hI.own.lt g h2).2;exact⟨by omega,by omega,fun e=>by rcases j2 with q|q<;>omega⟩
 rcases Q63 h1 with⟨q1,q2⟩|⟨q1,q2⟩<;>rcases Q63 h2 with⟨q3,q4⟩|⟨q3,q4⟩
 ·exact h.sep j k u u' g q2 q4 h3 h4
 ·subst q4;have:=hvb g h4;have:=j3 j u g q2 h3;omega
 ·subst q2;have:=hvb g h3;have:=j3 k u' g q4 h4;omega
 omega
def TkRet(w0:World)(cb gs cap b R:Nat)(q:List Q1)(P:List (List Itm))(X:List Itm)(c:Int)(Q:Itm->Prop)(e:Ending)(w':World):Prop :=
 (Q4n q c X=[]/\e=.returned (.bool false)/\ChG w0 w' cb gs cap b (P++[X]))∨(Q4n q c X≠[]/\e=.returned (.bool true)/\∃gs' cap' X',ChG w0 w' cb gs' cap' b ((P++[X])++[X'])/\Q4y Q (Q4n q c X) X'/\∀m∈X',Q6i R q (P++[X]) X' m)
attribute [local go_sem ↓] z5n
theorem x2i(w0 w:World)(cb gs cap b R H:Nat)(q:List Q1)(P:List (List Itm))(X:List Itm)(c:Int)(Q:Itm->Prop)(hS:Q3q w0 b R H q)(hQ:QOk R H q)(h:ChG w0 w cb gs cap b (P++[X]))(hX:X.Nodup)(hP:P.length<60)
  (hPb:∀Y∈P++[X],Q8s q Y) (hF:FillQ R q (P++[X]) Q) (hsc:∀m∈X,Q4w q m=c->Q (mvI m)) :
  Calls Tryz.prog 50 #[.pointer (some ⟨cb,0,none⟩),.int .i64 c] w fun e w'=>TkRet w0 cb gs cap b R q P X c Q e w':=by
 obtain⟨i0,kj,ku,kv,kw⟩:=infoIt';obtain⟨i1,kl,kr,ks,kt⟩:=Q96;obtain⟨vs,a,cp,hA,hl,hv,hI⟩:=h.set (qR _);rw[z2o]at hv hI;have ji:=hPb X (by simp);have x5:=ji.1;have HA:=hid hA;have HC:=hid h;have HS:=hid hS;have HQ:=hid hQ;have HV:=hid hv;have HI:=hid hI;have x0:cb<w.heap.size:=z0j hA.c;have x1:gs<w.heap.size:=(hA.row.lt gs rfl).2;have k1:=hA.s;rw[hl]at k1;have jw:=hid ji.2;have FI:Hid (∀(W:World) (j6 j2:Nat),ChG w0 W cb j6 j2 b ((P++[X])++[Q4n q c X])->Calls Tryz.prog 83 #[.pointer (some ⟨cb,0,none⟩)] W fun e w'=>e=.returned (.tuple #[])/\∃X',ChG w0 w' cb j6 j2 b ((P++[X])++[X'])/\Q4y Q (Q4n q c X) X'/\∀m∈X',Q6i R q (P++[X]) X' m):=hid (fun W j6 j2 hW=>y8j w0 W cb j6 j2 b R H q (P++[X]) (Q4n q c X) Q hS hQ hW ⟨⟨[],by simp⟩,x64 hX,fun m hm=>by
  obtain⟨y,y1,y2,rfl⟩:=z6m.1 hm;exact hsc y y1 y2⟩ (by simp;omega) hPb hF)
 generalize hp:P.length=n at hP hl k1 HV hv;have ky:=hid hp;have jf:=hid hl;have x8:IntKind.i64.wrap (((n+1:Nat):Int)-1)=(n:Int):=by rw[qBv];omega
 have s1:(n:Int)<((n+1:Nat):Int):=by omega
 generalize hNF:Q4n q c X=NF at FI;have ja:=hid hNF;clear hA hv hI h hS hQ ji hPb hF hsc hp hX hNF hl;go_enter Tryz.func50,Tryz.ntmps50
 go_wp2;go_loopw [6,7,8,9] (fun x6 x7 _ _ wr=>∃(k:Nat) (N:List Itm),x7=.int .i64 k/\k<=X.length/\N=Q4n q c (X.take k)/\wr.ownsRow w.heap.size 180 3 x6 N.length (Q0y Itm.cells N)/\Q0a w wr)
   (fun _ x _ _ _=>10001-(intOf x).toNat)
 case atStart=>exact⟨0,[],rfl,by omega,by simp[Q4n],qAh _ _ _ _,mRf _ _⟩
 obtain⟨k,N,rfl,hk,jh,j9,j7⟩:=hrel;have ko:N.length<=8540:=by rw[jh];have:=x31 q c (X.take k);rw[qCo]at this;omega
 have jr:=hid (Q19 (B:=10001) k (by omega));have HO:=hid j9;have HF:=hid j7;have jt:=hid jh;obtain⟨na,nc,kp⟩:=z0c j9;subst kp;have k1:=(HA.fresh j7).s;rw[jf.out]at k1;have k2:=(HA.fresh j7).at HV.out;have kx:=(HA.fresh j7).x;have hI:=HI.fresh j7;have x4:w.heap.size<=wr.heap.size:=j7.size;clear j9 jh;by_cases jc:k<X.length
 ·have s2:(k:Int)<(X.length:Int):=by omega
  obtain⟨g,c',k4⟩:=Joins.ownsRow_form hI.own (by omega);rw[qI]at k4;obtain⟨rfl,_,rfl⟩:=k4;have r1:=hI.range k jc;have k5:=jw.out _ (qG jc);have jn:X.take (k+1)=X.take k++[X[k]]:=Q6e jc;generalize X[k]=m at r1 k5 jn;have l1:(ldI (.pointer (some ⟨g,k*3,none⟩))).run Tryz.prog wr=.ok (.agg (itA m.p m.d m.f)) wr:=z3g r1;have jv:=hid jn;obtain⟨km,x2⟩:=k5;clear r1 hI jn;go_upto_region 7 with(first
   |(refine z0e rfl 180 _ _ rfl wr _ (itA m.p m.d m.f) _ rfl rfl rfl szIt rfl (y8v _ _ _) ?_))
  have jg:=W0c wr m 180;have jb:Q0a wr (wr.alloc (.cells (itA m.p m.d m.f) 180 (0,0))):=(mRf _ wr).alloc _;have jk:=z0a wr (.cells (itA m.p m.d m.f) 180 (0,0));generalize(wr.alloc (.cells (itA m.p m.d m.f) 180 (0,0)))=W2 at jg jb jk ⊢;have l2:(ldI (.pointer (some ⟨wr.heap.size,0,none⟩))).run Tryz.prog W2=.ok (.agg (itA m.p m.d m.f)) W2:=z3g jg;have jp:=hid jb;have jo:=hid jk;have SY:=hid (z5q W2 cb b R H q m (Q0h jb kx) (HS.fresh ((HA.fr.trans j7).trans jb)) HQ.out km (by omega));clear l1 k1 k2 kx jg jb jk j7;go_upto_region 8 with(first
   |(go_at_call 84;refine(SY.out).mono ?_;rintro e W3⟨rfl,jl⟩;have jd:=hid (jp.trans jl);have j3:=hid (jl.at jo.out id);clear jl))
  have b0:W3.cell? ⟨wr.heap.size,0,none⟩=some (.int .i64 m.p):=Q0b j3.out 0;have b1:W3.cell? ⟨wr.heap.size,1,none⟩=some (.int .i64 m.d):=Q0b j3.out 1;have b2:W3.cell? ⟨wr.heap.size,2,none⟩=some (.int .i64 m.f):=Q0b j3.out 2;have je:=hid (z0d HO.out (fun g hg=>jd.block g (HO.lt g hg).2 id));have x3:w.heap.size<=W3.heap.size:=by have:=jd.size;omega
  have jq:=hid (HF.trans jd.out);have j5:=x0r q c (X.take k) m;rw[← jv.out,← jt.out]at j5;generalize hsy:Q4w q m=sc at j5;clear l2 SY jp jo j3 jv;by_cases k0:sc=c
  ·subst k0;rw[qAb rfl]at j5;have j8:=hid j5;clear j5;go_wp2_with (first
    |(at_builtin;refine z0f _ rfl _ _ 181 rfl w.heap.size 180 i0 _ 3 24 Tryz.underlying181 kj ku kv kw rfl (by decide) (.slice na N.length nc) N.length (Q0y Itm.cells N) rfl (qFq je.out _) ⟨W3.heap.size,0,none⟩ 1 1 (mvI m).cells rfl rfl (z0m rfl) (by intro u hu;simp[Itm.cells]at hu;rcases hu with rfl|rfl|rfl<;>rfl) (by unfold maxLen;omega) (by omega) (by simp;omega) ?_;intro v9 w4 j1 j0 j4;have kd:=hid j1;have kb:=hid (Mod.grown (S:=fun _=>False) (jq.alloc _) j0 (fun k hk jc=>by have:=(je.lt k hk).1;omega));clear j1 j0 j4))
   go_roundw
   case rel=>exact⟨k+1,N++[mvI m],by go_num,by omega,j8.symm,by rw[qP,z0v];exact kd.out,kb.out⟩
   exact jr.out
  rw[qAa k0,qBd]at j5;have j8:=hid j5;clear j5;go_wp2;go_roundw
  case rel=>exact⟨k+1,N,by go_num,by omega,j8.symm,je.out,jq.out⟩
  exact jr.out
 have s2:¬(k:Int)<(X.length:Int):=by omega
 have kh:N=NF:=by rw[jt.out,qDg (by omega),ja.out]
 subst kh;cases N with
 |nil =>
  go_wp2;go_ret;exact .inl ⟨ja.out,rfl,HC.fresh HF.out⟩
 |cons y N =>
  have jm:¬(((y::N).length:Int)=0):=by simp;omega
  have js:Hid (y::N≠[]):=hid (by simp);generalize y::N=NF at jm js HO ja FI ko;have ju:=hid (z0d HA.row (fun g hg=>HF.block g (HA.row.lt g hg).2 id));have kn:n<=60:=by omega
  have PU:Hid (∀(o:Obj) (v':Value) (w2:World),w2.ownsRow 0 181 1 v' (vs.length+1) (vs++[.slice na NF.length nc])->(wr.alloc o).grownBy w2 (some gs)->(∀k,v'.ownBlock=some k->(some gs:Option Nat)=some k∨(wr.alloc o).heap.size<=k)->∃j6 j2,ChG w0 (w2.setCell ⟨cb,1,none⟩ v') cb j6 j2 b ((P++[X])++[NF])):=hid (fun o v' w2 h1 h2 h3=>by
   have ki:Q0a w (wr.alloc o):=HF.alloc _;obtain⟨j6,j2,hz⟩:=HA.push ki (v:=.slice na NF.length nc) (X:=NF) (Q18.fresh ⟨z0g HO.out (qBq _),fun x _=>rfl⟩ ((mRf _ wr).alloc _)) (fun g hg=>(HO.lt g hg).1) h1 h2 h3;exact⟨j6,j2,_,hz⟩)
  have k7:Hid (∀(o:Obj) (w2:World),(wr.alloc o).grownBy w2 (some gs)->w2.heap[cb]? = wr.heap[cb]?):=hid (fun o w2 h2=>by
   rw[h2.block cb (by have:=HF.size;simp;omega) (fun e=>by injection e with e;exact HA.ne e.symm)];exact z0s (by omega))
  have jy:wr.heap[cb]? = some (.cells #[.pointer (some ⟨b,0,none⟩),.slice (some ⟨gs,0,none⟩) (n+1:Nat) cap] 177 (0,0)):=by
   have:=(HA.fresh HF.out).c;rw[jf.out]at this;exact this
  have k9:=hid jy;rw[jf.out]at PU ju;clear jy kx hI HO HI jw;go_wp2_with (first
   |(at_builtin;refine z0f _ rfl _ _ 175 rfl 0 181 i1 _ 1 24 Tryz.underlying175 kl kr ks kt rfl (by decide) (.slice (some ⟨gs,0,none⟩) (n+1:Nat) cap) (n+1) vs rfl (qFq ju.out _) ⟨wr.heap.size,0,none⟩ 1 1 [.slice na NF.length nc] rfl rfl (z0m rfl) (by intro u hu;simp at hu;subst hu;rfl) (by unfold maxLen;omega) (by omega) (by omega) ?_;intro v9 w4 j1 j0 j4;obtain⟨kz,kg,k6⟩:=PU.out _ _ _ j1 j0 j4;have ke:=hid k6;have jj:w4.heap[cb]? = _:=(k7.out _ _ j0).trans k9.out;have kk:=Q0b jj 1;have kf:=Q0f jj 1;simp at kk;obtain⟨a9,c9,kq⟩:=z0c j1;clear j1 j0 j4 k6 jj;subst kq)
   |(go_at_call 83;refine(FI.out _ _ _ ke.out).mono ?_;rintro e w5⟨rfl,X',jx,k3,jz⟩;have k8:=hid jx;have kc:=hid k3;have ka:=hid jz;clear jx k3 jz))
  go_ret;refine .inr ⟨by rw[ja.out];exact js.out,rfl,_,_,X',k8.out,?_,ka.out⟩;rw[ja.out];exact kc.out
theorem Q78.init{w0 W w2:World}{cb b:Nat}{v':Value}(hf:Q0a w0 W)(hcb:w0.heap.size<=cb)(hlt:cb<W.heap.size){a:Value}(hc:W.heap[cb]? = some (.cells #[.pointer (some ⟨b,0,none⟩),a] 177 (0,0)))
  (ho:w2.ownsRow w0.heap.size 181 1 v' 1 [.slice none 0 0]) (hg:W.grownBy w2 none) (hb:∀k,v'.ownBlock=some k->W.heap.size<=k) :
  ∃gs cap,Q78 w0 (w2.setCell ⟨cb,1,none⟩ v') cb gs cap b [.slice none 0 0] ([]++[[]]):=by
 obtain⟨gs,cap,e⟩:=Joins.ownsRow_form ho (by omega);subst e;have j1:=hb gs rfl;have j0:=hg.size;have h0:=hf.size;have keep:∀x,x<W.heap.size->w2.heap[x]? = W.heap[x]? := fun x hx=>hg.block x hx (fun e=>by cases e);have F:Q0a w0 w2:=⟨hg.os.trans hf.os,hg.tape.trans hf.tape,hg.output.trans hf.output,by omega,fun x hx _=>by
  rw[keep x (by omega)];exact hf.block x hx (fun q=>q)⟩
 have one:∀(k:Nat) (u:Value),([.slice none 0 0]:List Value)[k]? = some u->k=0/\u=.slice none 0 0:=fun k u h=>by
  rcases k with _|k
  ·simp at h;exact⟨rfl,h.symm⟩
  simp at h
 refine⟨gs,cap,F.setCell (p:=⟨cb,1,none⟩) (fun hlt=>absurd hlt (by dsimp only;omega)) _,?_,hcb,by omega,by omega,?_,by simp,fun k u Y h1 h2=>?_,fun k u g h1 h2=>?_,fun j k u u' g h1 h2 h3 h4=>?_⟩
 ·rw[zhs (by rw[keep cb hlt];exact hc) 1];rfl
 ·exact z0d (z0g ho (qBq _)) (fun g e=>by cases e;exact heap_setCell_other _ (by dsimp only;omega))
 ·obtain⟨rfl,rfl⟩:=one k u h1;simp at h2;subst h2;exact Q18.nil _ _ _ _
 ·obtain⟨rfl,rfl⟩:=one k u h1;cases h2
 obtain⟨rfl,rfl⟩:=one j u h1;cases h3
def CtRet(w:World)(b R:Nat)(q:List Q1)(Q:Itm->Prop)(e:Ending)(w':World):Prop:=∃cb gs cap X',e=.returned (.pointer (some ⟨cb,0,none⟩))/\ChG w w' cb gs cap b ([]++[X'])/\Q4y Q [] X'/\(∀m∈X',Q6i R q [] X' m)/\∀(p:Nat) (x:Q1),q[p]? = some x->x.1=0->(⟨p,0,0⟩:Itm)∈X'
theorem x2b(w:World)(b R H:Nat)(q:List Q1)(Q:Itm->Prop)(hS:Q3q w b R H q)(hQ:QOk R H q)(hF:FillQ R q [] Q)(hi:∀(p:Nat) (x:Q1),q[p]? = some x->x.1=0->Q ⟨p,0,0⟩) :
  Calls Tryz.prog 49 #[.pointer (some ⟨b,0,none⟩)] w fun e w'=>CtRet w b R q Q e w':=by
 obtain⟨i1,jp,jr,js,jt⟩:=Q96;have jc:=hQ.p20;have HS:=hid hS;have HQ:=hid hQ;have jd:=hid hF;have HI:=hid hi;obtain⟨a0,c0,a1,c1,a2,c2,v3,v4,sv,hN⟩:=hS;have HN:=hid hN;have FI:Hid (∀(W:World) (cb gs cap:Nat) (X:List Itm),ChG w W cb gs cap b ([]++[X])->Q4y Q X X->Calls Tryz.prog 83 #[.pointer (some ⟨cb,0,none⟩)] W fun e w'=>e=.returned (.tuple #[])/\∃X',ChG w w' cb gs cap b ([]++[X'])/\Q4y Q X X'/\∀m∈X',Q6i R q [] X' m):=hid (fun W cb gs cap X hW hX=>y8j w W cb gs cap b R H q [] X Q HS.out HQ.out hW hX (by simp) (fun Y hY=>by cases hY) jd.out);have j3:=z0a w (.cells #[.pointer (some ⟨b,0,none⟩),.slice none 0 0] 177);have jb:=Q0f j3 1;have ji:Hid (∀(o:Obj) (v':Value) (w2:World),w2.ownsRow w.heap.size 181 1 v' (0+1) ([]++[.slice none 0 0])->((w.alloc (.cells #[.pointer (some ⟨b,0,none⟩),.slice none 0 0] 177)).alloc o).grownBy w2 (Value.ownBlock (.slice none 0 0))->(∀k,v'.ownBlock=some k->Value.ownBlock (.slice none 0 0)=some k∨((w.alloc (.cells #[.pointer (some ⟨b,0,none⟩),.slice none 0 0] 177)).alloc o).heap.size<=k) ->
   (∃gs cap,ChG w (w2.setCell ⟨w.heap.size,1,none⟩ v') w.heap.size gs cap b ([]++[[]]))/\w2.heap[w.heap.size]? = some (.cells #[.pointer (some ⟨b,0,none⟩),.slice none 0 0] 177 (0,0))):=hid (fun o v' w2 h1 h2 h3=>by
  have hc:((w.alloc (.cells #[.pointer (some ⟨b,0,none⟩),.slice none 0 0] 177)).alloc o).heap[w.heap.size]? = some (.cells #[.pointer (some ⟨b,0,none⟩),.slice none 0 0] 177 (0,0)):=z0b (z0a _ _);constructor
  ·obtain⟨gs,cap,hz⟩:=Q78.init (w0:=w) (b:=b) (((mRf _ w).alloc _).alloc o) (qR _) (z0j hc) hc h1 h2 (fun k hk=>by
    rcases h3 k hk with z|z
    ·cases z
    exact z)
   exact⟨gs,cap,_,hz⟩
  rw[h2.block _ (z0j hc) (fun e=>by cases e)];exact hc)
 clear hQ hF hi hN;go_enter Tryz.func49,Tryz.ntmps49
 go_upto_region 3 with(first
  |(at_builtin;refine z0f _ rfl _ _ 175 rfl w.heap.size 181 i1 _ 1 24 Tryz.underlying175 jp jr js jt rfl (by decide) (.slice none 0 0) 0 [] rfl (qAh _ _ _ _) ⟨w.heap.size+1,0,none⟩ 1 1 [.slice none 0 0] rfl rfl (z13 rfl) (by intro u hu;simp at hu;subst hu;rfl) (by unfold maxLen;omega) (by omega) (by simp;omega) ?_;intro v9 w4 j0 j1 j4;obtain⟨⟨gs,cap,jm⟩,ja⟩:=ji.out _ _ _ j0 j1 j4;have j8:=hid jm;have kk:=Q0b ja 1;have kf:=Q0f ja 1;simp at kk;obtain⟨a9,c9,jq⟩:=z0c j0;clear j0 j1 j4 jm ja;subst jq))
 generalize w4.setCell _ _=W1 at j8 ⊢;clear ji kk kf j3 jb;go_wp2;go_loopw [4] (fun x4 wr=>∃(p:Nat) (X:List Itm),x4=.int .i64 p/\p<=q.length/\ChG w wr w.heap.size gs cap b ([]++[X])/\Q4y Q [] X/\∀(p':Nat) (z:Q1),p'<p->q[p']? = some z->z.1=0->(⟨p',0,0⟩:Itm)∈X)
   (fun x _=>1001-(intOf x).toNat)
 case atStart=>exact⟨0,[],rfl,by omega,j8.out,⟨⟨[],rfl⟩,by simp,fun m hm=>by cases hm⟩,fun p' z h=>absurd h (by omega)⟩
 obtain⟨p,X,rfl,hp,hC,hg,hB⟩:=hrel;have jf:=hid (Q19 (B:=1001) p (by omega));have HC:=hid hC;have HG:=hid hg;have HB:=hid hB;have ju:=hg.len jd.b jc;obtain⟨vs,hA⟩:=hC;have hN:=HN.fresh hA.fr;have z1:=hN.k1;clear j8 hg hB hA;by_cases jl:p<q.length
 ·have s1:(p:Int)<(q.length:Int):=by omega
  obtain⟨g3,o3,c3,g4,o4,n4,c4,al,cl,j9⟩:=hN.pr jl;have q3:=j9.q3;have y3:=j9.y3;have hz:q[p]? = some q[p]:=qE jl;have j5:Hid (∀X5,Q4y Q X X5->(q[p].1=0->(⟨p,0,0⟩:Itm)∈X5)->∀(p':Nat) (z:Q1),p'<p+1->q[p']? = some z->z.1=0->(⟨p',0,0⟩:Itm)∈X5):=hid (fun X5 h5 hin p' z hp' hz' e=>by
   rcases qCk p' p with r|r
   ·exact h5.mem (HB.out p' z r hz' e)
   obtain rfl:p'=p:=by omega
   rw[hz]at hz';injection hz' with hz';subst hz';exact hin e)
  have jh:=hid (HI.out p q[p] hz);generalize q[p]=y at y3 j5 jh;clear j9 hN hz;by_cases h0:y.1=0
  ·have PU:Hid (Calls Tryz.prog 82 #[.pointer (some ⟨w.heap.size,0,none⟩),.agg (itA p 0 0)] wr fun e w'=>e=.returned (.bool (!inI X ⟨p,0,0⟩))/\ChG w w' w.heap.size gs cap b ([]++[Q81 X ⟨p,0,0⟩])):=hid (y2d w wr w.heap.size gs cap b [] X ⟨p,0,0⟩ HC.out (by simp) (by omega));have jg:=hid (jh.out h0);rw[h0]at y3;go_wp2_with (first
    |(go_at_call 82;refine(PU.out).mono ?_;rintro e W5⟨rfl,j2⟩;have j7:=hid j2;clear j2))
   go_roundw
   case rel=>exact⟨p+1,_,by go_num,by omega,j7.out,HG.put jg.out,j5.out _ (HG.refl.put jg.out) (fun _=>y2r _ _)⟩
   exact jf.out
  have j6:=hid (j5.out X HG.refl (fun e=>absurd e h0));go_wp2;go_roundw
  case rel=>exact⟨p+1,X,by go_num,by omega,HC.out,HG.out,j6.out⟩
  exact jf.out
 have s1:¬(p:Int)<(q.length:Int):=by omega
 have jn:=hid (FI.out wr w.heap.size gs cap X HC.out HG.refl);have j6:=hid (fun(p':Nat) (z:Q1) (h1:q[p']? = some z) (h2:z.1=0)=>HB.out p' z (by have:=(qS h1).1;omega) h1 h2);clear hN;go_wp2_with (first
  |(go_at_call 83;refine(jn.out).mono ?_;rintro e w5⟨rfl,X',j2,jk,jj⟩;have j7:=hid j2;have je:=hid jk;have jo:=hid jj;clear j2 jk jj))
 go_ret;exact⟨_,gs,cap,X',rfl,j7.out,HG.trans je.out,jo.out,fun p' z h1 h2=>je.mem (j6.out p' z h1 h2)⟩
end Go.Proofs.YtbdpfmalabgmbaaGreat
