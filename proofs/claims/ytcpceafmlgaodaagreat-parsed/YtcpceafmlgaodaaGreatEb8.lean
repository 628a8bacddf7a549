import Derived.Test.YtcpceafmlgaodaaGreatEb6
namespace Go.Proofs.YtcpceafmlgaodaaGreat
open Go.RowKit
set_option maxRecDepth 100000
set_option maxHeartbeats 16000000
set_option linter.unusedVariables false
set_option linter.unusedSimpArgs false
def Q4p(q:List Q1)(c:Int)(l:List Itm):List Itm:=(l.filter(fun m=>Q4r q m==c)).map mvI
theorem x01(q:List Q1)(c:Int)(l:List Itm)(m:Itm):Q4p q c(l++[m])=Q4p q c l++(if Q4r q m=c then [mvI m]else []):=by
 unfold Q4p;rw[List.filter_append,List.map_append];by_cases h:Q4r q m=c
 ·rw[if_pos h];simp[h]
 rw[if_neg h];simp[h]
theorem x29(q:List Q1)(c:Int)(l:List Itm):(Q4p q c l).length<=l.length:=by
 unfold Q4p;rw[List.length_map];exact List.length_filter_le _ _
theorem z6m{q:List Q1}{c:Int}{l:List Itm}{y:Itm}:y∈Q4p q c l↔∃m∈l,Q4r q m=c/\mvI m=y:=by
 unfold Q4p;rw[List.mem_map];constructor
 ·rintro⟨m,h1,h2⟩;rw[List.mem_filter,beq_iff_eq]at h1;exact⟨m,h1.1,h1.2,h2⟩
 rintro⟨m,h1,h2,h3⟩;exact⟨m,by rw[List.mem_filter,beq_iff_eq];exact⟨h1,h2⟩,h3⟩
theorem x6z{q:List Q1}{c:Int}{l:List Itm}(h:l.Nodup):(Q4p q c l).Nodup:=by
 unfold Q4p List.Nodup at *;rw[List.pairwise_map];refine(List.Pairwise.filter _ h).imp ?_;intro a b hne e;apply hne;obtain⟨a1,a2,a3⟩:=a;obtain⟨b1,b2,b3⟩:=b;simp only[mvI,Itm.mk.injEq]at e ⊢;omega
theorem infoIts:(Tryz.prog.info? 164).map(fun i=>(i.zero,i.size,i.bytes))=some(some(.slice none 0 0),1,24):=by kernel_rfl
theorem Q91:∃i,Tryz.prog.info? 164=some i/\i.zero=some(.slice none 0 0)/\i.size=1/\i.bytes=24:=by
 have h:=infoIts;cases hq:Tryz.prog.info? 164 with
 |none=>simp[hq]at h
 |some i=>simp[hq]at h;exact⟨i,rfl,h.1,h.2.1,h.2.2⟩
theorem Q6u{α:Type}{l:List α}{a u:α}{k:Nat}(h:(l++[a])[k]? = some u):(k<l.length/\l[k]? = some u)∨(k=l.length/\u=a):=by
 rcases Nat.lt_or_ge k l.length with q|q
 ·rw[List.getElem?_append_left q]at h;exact .inl⟨q,h⟩
 rw[List.getElem?_append_right q]at h;have:=(qS h).1;simp at this;have e:k=l.length:=by omega
 subst e;simp at h;exact .inr⟨rfl,h.symm⟩
theorem Q76.push{w0 w W w2:World}{cb gs cap b:Nat}{vs:List Value}{L:List(List Itm)}{v v':Value}{X:List Itm}(h:Q76 w0 w cb gs cap b vs L)(hf:Q0a w W)(hI:ItsAt W v X)(hvb:∀g,v.ownBlock=some g->w.heap.size<=g)
  (ho:w2.ownsRow 0 164 1 v'(vs.length+1)(vs++[v]))(hg:W.grownBy w2(some gs))(hb:∀k,v'.ownBlock=some k->(some gs:Option Nat)=some k∨W.heap.size<=k) :
  ∃gs' cap',Q76 w0(w2.setCell⟨cb,1,none⟩v')cb gs' cap' b(vs++[v])(L++[X]):=by
 obtain⟨gs',cap',e⟩:=Q1d.ownsRow_form ho(by omega);subst e;have j7:gs<w.heap.size:=(h.row.lt gs rfl).2;have j5:cb<w.heap.size:=z0j h.c;have j9:=hf.size;have j6:=h.fr.size;have j8:=hg.size;have j4:=hb gs' rfl;have keep:∀x,x<W.heap.size->x≠gs->w2.heap[x]? = W.heap[x]? := fun x hx hne=>hg.block x hx(fun e=>hne(by injection e));have j0:∀x,x<w.heap.size->x≠gs->w2.heap[x]? = w.heap[x]? := fun x hx hne=>(keep x(by omega)hne).trans(hf.block x hx(fun q=>q));have j2:gs'=gs∨W.heap.size<=gs':=by
  rcases j4 with q|q
  ·injection q with q;exact .inl q.symm
  exact .inr q
 have j1:gs'≠cb:=by
  rcases j2 with q|q
  ·rw[q];exact h.ne
  omega
 have F:Q0a w0 w2:=⟨hg.os.trans(hf.os.trans h.fr.os),hg.tape.trans(hf.tape.trans h.fr.tape),hg.output.trans(hf.output.trans h.fr.output),by omega,fun x hx _=>by
  rw[j0 x(by omega)(fun e=>by have:=h.gB;omega)];exact h.fr.block x hx(fun q=>q)⟩
 have j3:∀(k:Nat)(u:Value)(g:Nat),vs[k]? = some u->u.ownBlock=some g->g<w.heap.size:=fun k u g hu hg'=>by
  have hl:k<L.length:=by rw[← h.len];exact(qS hu).1
  exact((h.each k u _ hu(qE hl)).own.lt g hg').2
 refine⟨gs',cap',F.setCell(p:=⟨cb,1,none⟩)(fun hlt=>absurd hlt(by have:=h.cB;dsimp only;omega))_,?_,h.cB,?_,j1,?_,by simp[h.len],fun k u Y h1 h2=>?_,fun k u g h1 h2=>?_,fun j k u u' g h1 h2 h3 h4=>?_⟩
 ·rw[zhs(by rw[j0 cb j5(fun e=>h.ne e.symm)];exact h.c)1,List.length_append];rfl
 ·rcases j2 with q|q
  ·rw[q];exact h.gB
  omega
 ·rw[List.length_append];exact z0c ho(fun g e=>by cases e;exact heap_setCell_other _ j1)
 ·rcases Q6u h1 with⟨q1,q2⟩|⟨q1,q2⟩
  ·rw[List.getElem?_append_left(by rw[← h.len];exact q1)]at h2;have hE:=h.each k u Y q2 h2;refine⟨z0c hE.own(fun g e=>?_),hE.wf⟩;have hl:=h.low k u g q2 e;rw[heap_setCell_other _ hl.2.1];exact j0 g(hE.own.lt g e).2 hl.2.2
  subst q2;rw[q1,h.len,List.getElem?_append_right(qR _),Nat.sub_self]at h2;simp at h2;subst h2;refine⟨z0c hI.own(fun g e=>?_),hI.wf⟩;have:=hvb g e;rw[heap_setCell_other _(by dsimp only;omega)];exact keep g(hI.own.lt g e).2(by omega)
 ·rcases Q6u h1 with⟨q1,q2⟩|⟨q1,q2⟩
  ·have hl:=h.low k u g q2 h2;have:=j3 k u g q2 h2;refine⟨hl.1,hl.2.1,fun e=>?_⟩;rcases j2 with q|q
   ·exact hl.2.2(e.trans q)
   omega
  subst q2;have h5:=hvb g h2;have h6:=(hI.own.lt g h2).2;exact⟨by omega,by omega,fun e=>by rcases j2 with q|q<;>omega⟩
 rcases Q6u h1 with⟨q1,q2⟩|⟨q1,q2⟩<;>rcases Q6u h2 with⟨q3,q4⟩|⟨q3,q4⟩
 ·exact h.sep j k u u' g q2 q4 h3 h4
 ·subst q4;have:=hvb g h4;have:=j3 j u g q2 h3;omega
 ·subst q2;have:=hvb g h3;have:=j3 k u' g q4 h4;omega
 omega
def TkRet(w0:World)(cb gs cap b R:Nat)(q:List Q1)(P:List(List Itm))(X:List Itm)(c:Int)(Q:Itm->Prop)(e:Ending)(w':World):Prop :=
 (Q4p q c X=[]/\e=.returned(.bool false)/\ChG w0 w' cb gs cap b(P++[X]))∨(Q4p q c X≠[]/\e=.returned(.bool true)/\∃gs' cap' X',ChG w0 w' cb gs' cap' b((P++[X])++[X'])/\Q4z Q(Q4p q c X)X'/\∀m∈X',Q6n R q(P++[X])X' m)
attribute [local go_sem ↓] z5j
theorem x3m(w0 w:World)(cb gs cap b R H:Nat)(q:List Q1)(P:List(List Itm))(X:List Itm)(c:Int)(Q:Itm->Prop)(hS:Q35 w0 b R H q)(hQ:QOk R H q)(h:ChG w0 w cb gs cap b(P++[X]))(hX:X.Nodup)(hP:P.length<60)
  (hPb:∀Y∈P++[X],Q8p q Y)(hF:FillQ R q(P++[X])Q)(hsc:∀m∈X,Q4r q m=c->Q(mvI m)) :
  Calls Tryz.prog 36#[.pointer(some⟨cb,0,none⟩),.int .i64 c]w fun e w'=>TkRet w0 cb gs cap b R q P X c Q e w':=by
 obtain⟨i0,hi0,hz0,hz1,hz2⟩:=infoIt';obtain⟨i1,hi1,hy0,hy1,hy2⟩:=Q91;obtain⟨vs,a,cp,hA,hl,hv,hI⟩:=h.set(qR _);rw[z2m]at hv hI;have j7:=hPb X(by simp);have k7:=j7.1;have HA:=hid hA;have HC:=hid h;have HS:=hid hS;have HQ:=hid hQ;have HV:=hid hv;have HI:=hid hI;have k5:cb<w.heap.size:=z0j hA.c;have k3:gs<w.heap.size:=(hA.row.lt gs rfl).2;have k1:=hA.s;rw[hl]at k1;have jm:=hid j7.2;have FI:Hid(∀(W:World)(gs' cap':Nat),ChG w0 W cb gs' cap' b((P++[X])++[Q4p q c X])->Calls Tryz.prog 72#[.pointer(some⟨cb,0,none⟩)]W fun e w'=>e=.returned(.tuple#[])/\∃X',ChG w0 w' cb gs' cap' b((P++[X])++[X'])/\Q4z Q(Q4p q c X)X'/\∀m∈X',Q6n R q(P++[X])X' m):=hid(fun W gs' cap' hW=>y8w w0 W cb gs' cap' b R H q(P++[X])(Q4p q c X)Q hS hQ hW⟨⟨[],by simp⟩,x6z hX,fun m hm=>by
  obtain⟨y,y1,y2,rfl⟩:=z6m.1 hm;exact hsc y y1 y2⟩(by simp;omega)hPb hF)
 generalize hp:P.length=n at hP hl k1 HV hv;have k6:=hid hp;have ja:=hid hl;have k8:IntKind.i64.wrap(((n+1:Nat):Int)-1)=(n:Int):=by rw[IntKind.wrap_i64];omega
 have s1:(n:Int)<((n+1:Nat):Int):=by omega
 generalize hNF:Q4p q c X=NF at FI;have j3:=hid hNF;clear hA hv hI h hS hQ j7 hPb hF hsc hp hX hNF hl;go_enter Tryz.func36,Tryz.ntmps36
 go_wp2;go_loopw [6,7,8,9](fun x6 x7 _ _ wr=>∃(k:Nat)(N:List Itm),x7=.int .i64 k/\k<=X.length/\N=Q4p q c(X.take k)/\wr.ownsRow w.heap.size 163 3 x6 N.length(Q01 Itm.cells N)/\Q0a w wr)
   (fun _ x _ _ _=>10001-(intOf x).toNat)
 case atStart=>exact⟨0,[],rfl,by omega,by simp[Q4p],World.ownsRow_nil _ _ _ _,mRf _ _⟩
 obtain⟨k,N,rfl,hk,hNk,hown,hfr⟩:=hrel;have jp:N.length<=8540:=by rw[hNk];have:=x29 q c(X.take k);rw[List.length_take]at this;omega
 have jn:=hid(Q2a(B:=10001)k(by omega));have HO:=hid hown;have HF:=hid hfr;have jg:=hid hNk;obtain⟨na,nc,hnv⟩:=z0d hown;subst hnv;have k1:=(HA.out.fresh hfr).s;rw[ja.out]at k1;have k2:=(HA.out.fresh hfr).at HV.out;have kx:=(HA.out.fresh hfr).x;have hI:=HI.out.fresh hfr;have k9:w.heap.size<=wr.heap.size:=hfr.size;clear hown hNk;by_cases hlt:k<X.length
 ·have s2:(k:Int)<(X.length:Int):=by omega
  obtain⟨g,c',hgf⟩:=Q1d.ownsRow_form hI.own(by omega);rw[qI]at hgf;obtain⟨rfl,_,rfl⟩:=hgf;have r1:=hI.range k hlt;have jk:=jm.out _(List.getElem_mem hlt);have jb:X.take(k+1)=X.take k++[X[k]]:=Q6g hlt;generalize X[k]=m at r1 jk jb;have l1:(ldI(.pointer(some⟨g,k*3,none⟩))).run Tryz.prog wr=.ok(.agg(itA m.p m.d m.f))wr:=z3a r1;have jj:=hid jb;obtain⟨hm1,hm2⟩:=jk;clear r1 hI jb;go_upto_region 7 with(first
   |(refine z0e rfl 163 _ _ rfl wr _(itA m.p m.d m.f)_ rfl rfl rfl szIt rfl(y7w _ _ _)?_))
  have jd:=W0e wr m 163;have j4:Q0a wr(wr.alloc(.cells(itA m.p m.d m.f)163(0,0))):=(mRf _ wr).alloc _;have j5:=z0a wr(.cells(itA m.p m.d m.f)163(0,0));generalize(wr.alloc(.cells(itA m.p m.d m.f)163(0,0)))=W2 at jd j4 j5 ⊢;have l2:(ldI(.pointer(some⟨wr.heap.size,0,none⟩))).run Tryz.prog W2=.ok(.agg(itA m.p m.d m.f))W2:=z3a jd;have ji:=hid j4;have jl:=hid j5;have SY:=hid(z5f W2 cb b R H q m(Q0j j4 kx)(HS.out.fresh((HA.out.fr.trans hfr).trans j4))HQ.out hm1(by omega));clear l1 k1 k2 kx jd j4 j5 hfr;go_upto_region 8 with(first
   |(go_at_call 73;refine(SY.out).mono ?_;rintro e W3⟨rfl,hf3⟩;have j9:=hid(ji.out.trans hf3);have j0:=hid(hf3.at jl.out(fun x=>x));clear hf3))
  have b0:W3.cell?⟨wr.heap.size,0,none⟩=some(.int .i64 m.p):=Q0b j0.out 0;have b1:W3.cell?⟨wr.heap.size,1,none⟩=some(.int .i64 m.d):=Q0b j0.out 1;have b2:W3.cell?⟨wr.heap.size,2,none⟩=some(.int .i64 m.f):=Q0b j0.out 2;have j8:=hid(z0c HO.out(fun g hg=>j9.out.block g(HO.out.lt g hg).2(fun x=>x)));have k4:w.heap.size<=W3.heap.size:=by have:=j9.out.size;omega
  have jf:=hid(HF.out.trans j9.out);have j1:=x01 q c(X.take k)m;rw[← jj.out,← jg.out]at j1;generalize hsy:Q4r q m=sc at j1;clear l2 SY ji jl j0 jj;by_cases heq:sc=c
  ·subst heq;rw[if_pos rfl]at j1;have j2:=hid j1;clear j1;go_wp2_with(first
    |(at_builtin;refine z0g _ rfl _ _ 164 rfl w.heap.size 163 i0 _ 3 24 Tryz.underlying164 hi0 hz0 hz1 hz2 rfl(by decide)(.slice na N.length nc)N.length(Q01 Itm.cells N)rfl(World.ownsRow.alloc j8.out _)⟨W3.heap.size,0,none⟩1 1(mvI m).cells rfl rfl(z0l rfl)(by intro u hu;simp[Itm.cells]at hu;rcases hu with rfl|rfl|rfl<;>rfl)(by unfold maxLen;omega)(by omega)(by simp;omega)?_;intro v9 w4 hown2 hgrow hblk;have js:=hid hown2;have k0:=hid(Mod.grown(S:=fun _=>False)(jf.out.alloc _)hgrow(fun k hk hlt=>by have:=(j8.out.lt k hk).1;omega));clear hown2 hgrow hblk))
   go_roundw
   case rel=>exact⟨k+1,N++[mvI m],by go_num,by omega,j2.out.symm,by rw[List.length_append,z0y];exact js.out,k0.out⟩
   exact jn.out
  rw[if_neg heq,List.append_nil]at j1;have j2:=hid j1;clear j1;go_wp2;go_roundw
  case rel=>exact⟨k+1,N,by go_num,by omega,j2.out.symm,j8.out,jf.out⟩
  exact jn.out
 have s2:¬(k:Int)<(X.length:Int):=by omega
 have jz:N=NF:=by rw[jg.out,List.take_of_length_le(by omega),j3.out]
 subst jz;cases N with
 |nil =>
  go_wp2;go_ret;exact .inl⟨j3.out,rfl,HC.out.fresh HF.out⟩
 |cons y N =>
  have j6:¬(((y::N).length:Int)=0):=by simp;omega
  have jo:Hid(y::N≠[]):=hid(by simp);generalize y::N=NF at j6 jo HO j3 FI jp;have jh:=hid(z0c HA.out.row(fun g hg=>HF.out.block g(HA.out.row.lt g hg).2(fun x=>x)));have jq:n<=60:=by omega
  have PU:Hid(∀(o:Obj)(v':Value)(w2:World),w2.ownsRow 0 164 1 v'(vs.length+1)(vs++[.slice na NF.length nc])->(wr.alloc o).grownBy w2(some gs)->(∀k,v'.ownBlock=some k->(some gs:Option Nat)=some k∨(wr.alloc o).heap.size<=k)->∃gs' cap',ChG w0(w2.setCell⟨cb,1,none⟩v')cb gs' cap' b((P++[X])++[NF])):=hid(fun o v' w2 h1 h2 h3=>by
   have jy:Q0a w(wr.alloc o):=HF.out.alloc _;obtain⟨gs',cap',hz⟩:=HA.out.push jy(v:=.slice na NF.length nc)(X:=NF)(Q2k.fresh⟨z0f HO.out(Nat.zero_le _),fun x _=>rfl⟩((mRf _ wr).alloc _))(fun g hg=>(HO.out.lt g hg).1)h1 h2 h3;exact⟨gs',cap',_,hz⟩)
  have ju:Hid(∀(o:Obj)(w2:World),(wr.alloc o).grownBy w2(some gs)->w2.heap[cb]? = wr.heap[cb]?):=hid(fun o w2 h2=>by
   rw[h2.block cb(by have:=HF.out.size;simp;omega)(fun e=>by injection e with e;exact HA.out.ne e.symm)];exact z0w(by omega))
  have je:wr.heap[cb]? = some(.cells#[.pointer(some⟨b,0,none⟩),.slice(some⟨gs,0,none⟩)(n+1:Nat)cap]160(0,0)):=by
   have:=(HA.out.fresh HF.out).c;rw[ja.out]at this;exact this
  have jr:=hid je;rw[ja.out]at PU jh;clear je kx hI HO HI jm;go_wp2_with(first
   |(at_builtin;refine z0g _ rfl _ _ 158 rfl 0 164 i1 _ 1 24 Tryz.underlying158 hi1 hy0 hy1 hy2 rfl(by decide)(.slice(some⟨gs,0,none⟩)(n+1:Nat)cap)(n+1)vs rfl(World.ownsRow.alloc jh.out _)⟨wr.heap.size,0,none⟩1 1 [.slice na NF.length nc]rfl rfl(z0l rfl)(by intro u hu;simp at hu;subst hu;rfl)(by unfold maxLen;omega)(by omega)(by omega)?_;intro v9 w4 hown2 hgrow hblk;obtain⟨gs9,cap9,hpu⟩:=PU.out _ _ _ hown2 hgrow hblk;have jx:=hid hpu;have jc:w4.heap[cb]? = _:=(ju.out _ _ hgrow).trans jr.out;have kk:=Q0b jc 1;have kf:=Q0h jc 1;simp at kk;obtain⟨a9,c9,hv9⟩:=z0d hown2;clear hown2 hgrow hblk hpu jc;subst hv9)
   |(go_at_call 72;refine(FI.out _ _ _ jx.out).mono ?_;rintro e w5⟨rfl,X',hC5,hg5,hd5⟩;have jv:=hid hC5;have jw:=hid hg5;have jt:=hid hd5;clear hC5 hg5 hd5))
  go_ret;refine .inr⟨by rw[j3.out];exact jo.out,rfl,_,_,X',jv.out,?_,jt.out⟩;rw[j3.out];exact jw.out
theorem Q76.init{w0 W w2:World}{cb b:Nat}{v':Value}(hf:Q0a w0 W)(hcb:w0.heap.size<=cb)(hlt:cb<W.heap.size){a:Value}(hc:W.heap[cb]? = some(.cells#[.pointer(some⟨b,0,none⟩),a]160(0,0)))
  (ho:w2.ownsRow w0.heap.size 164 1 v' 1 [.slice none 0 0])(hg:W.grownBy w2 none)(hb:∀k,v'.ownBlock=some k->W.heap.size<=k) :
  ∃gs cap,Q76 w0(w2.setCell⟨cb,1,none⟩v')cb gs cap b [.slice none 0 0]([]++[[]]):=by
 obtain⟨gs,cap,e⟩:=Q1d.ownsRow_form ho(by omega);subst e;have j0:=hb gs rfl;have j1:=hg.size;have h0:=hf.size;have keep:∀x,x<W.heap.size->w2.heap[x]? = W.heap[x]? := fun x hx=>hg.block x hx(fun e=>by cases e);have F:Q0a w0 w2:=⟨hg.os.trans hf.os,hg.tape.trans hf.tape,hg.output.trans hf.output,by omega,fun x hx _=>by
  rw[keep x(by omega)];exact hf.block x hx(fun q=>q)⟩
 have one:∀(k:Nat)(u:Value),([.slice none 0 0]:List Value)[k]? = some u->k=0/\u=.slice none 0 0:=fun k u h=>by
  rcases k with _|k
  ·simp at h;exact⟨rfl,h.symm⟩
  simp at h
 refine⟨gs,cap,F.setCell(p:=⟨cb,1,none⟩)(fun hlt=>absurd hlt(by dsimp only;omega))_,?_,hcb,by omega,by omega,?_,by simp,fun k u Y h1 h2=>?_,fun k u g h1 h2=>?_,fun j k u u' g h1 h2 h3 h4=>?_⟩
 ·rw[zhs(by rw[keep cb hlt];exact hc)1];rfl
 ·exact z0c(z0f ho(Nat.zero_le _))(fun g e=>by cases e;exact heap_setCell_other _(by dsimp only;omega))
 ·obtain⟨rfl,rfl⟩:=one k u h1;simp at h2;subst h2;exact Q2k.nil _ _ _ _
 ·obtain⟨rfl,rfl⟩:=one k u h1;cases h2
 obtain⟨rfl,rfl⟩:=one j u h1;cases h3
def CtRet(w:World)(b R:Nat)(q:List Q1)(Q:Itm->Prop)(e:Ending)(w':World):Prop:=∃cb gs cap X',e=.returned(.pointer(some⟨cb,0,none⟩))/\ChG w w' cb gs cap b([]++[X'])/\Q4z Q []X'/\(∀m∈X',Q6n R q []X' m)/\∀(p:Nat)(x:Q1),q[p]? = some x->x.1=0->(⟨p,0,0⟩:Itm)∈X'
theorem x09(w:World)(b R H:Nat)(q:List Q1)(Q:Itm->Prop)(hS:Q35 w b R H q)(hQ:QOk R H q)(hF:FillQ R q []Q)(hi:∀(p:Nat)(x:Q1),q[p]? = some x->x.1=0->Q⟨p,0,0⟩) :
  Calls Tryz.prog 35#[.pointer(some⟨b,0,none⟩)]w fun e w'=>CtRet w b R q Q e w':=by
 obtain⟨i1,hi1,hy0,hy1,hy2⟩:=Q91;have j4:=hQ.p20;have HS:=hid hS;have HQ:=hid hQ;have j8:=hid hF;have HI:=hid hi;obtain⟨a0,c0,a1,c1,a2,c2,v3,v4,sv,hN⟩:=hS;have HN:=hid hN;have FI:Hid(∀(W:World)(cb gs cap:Nat)(X:List Itm),ChG w W cb gs cap b([]++[X])->Q4z Q X X->Calls Tryz.prog 72#[.pointer(some⟨cb,0,none⟩)]W fun e w'=>e=.returned(.tuple#[])/\∃X',ChG w w' cb gs cap b([]++[X'])/\Q4z Q X X'/\∀m∈X',Q6n R q []X' m):=hid(fun W cb gs cap X hW hX=>y8w w W cb gs cap b R H q []X Q HS.out HQ.out hW hX(by simp)(fun Y hY=>by cases hY)j8.out);have j0:=z0a w(.cells#[.pointer(some⟨b,0,none⟩),.slice none 0 0]160);have j1:=Q0h j0 1;have jb:Hid(∀(o:Obj)(v':Value)(w2:World),w2.ownsRow w.heap.size 164 1 v'(0+1)([]++[.slice none 0 0])->((w.alloc(.cells#[.pointer(some⟨b,0,none⟩),.slice none 0 0]160)).alloc o).grownBy w2(Value.ownBlock(.slice none 0 0))->(∀k,v'.ownBlock=some k->Value.ownBlock(.slice none 0 0)=some k∨((w.alloc(.cells#[.pointer(some⟨b,0,none⟩),.slice none 0 0]160)).alloc o).heap.size<=k) ->
   (∃gs cap,ChG w(w2.setCell⟨w.heap.size,1,none⟩v')w.heap.size gs cap b([]++[[]]))/\w2.heap[w.heap.size]? = some(.cells#[.pointer(some⟨b,0,none⟩),.slice none 0 0]160(0,0))):=hid(fun o v' w2 h1 h2 h3=>by
  have hc:((w.alloc(.cells#[.pointer(some⟨b,0,none⟩),.slice none 0 0]160)).alloc o).heap[w.heap.size]? = some(.cells#[.pointer(some⟨b,0,none⟩),.slice none 0 0]160(0,0)):=z0b(z0a _ _);constructor
  ·obtain⟨gs,cap,hz⟩:=Q76.init(w0:=w)(b:=b)(((mRf _ w).alloc _).alloc o)(qR _)(z0j hc)hc h1 h2(fun k hk=>by
    rcases h3 k hk with z|z
    ·cases z
    exact z)
   exact⟨gs,cap,_,hz⟩
  rw[h2.block _(z0j hc)(fun e=>by cases e)];exact hc)
 clear hQ hF hi hN;go_enter Tryz.func35,Tryz.ntmps35
 go_upto_region 3 with(first
  |(at_builtin;refine z0g _ rfl _ _ 158 rfl w.heap.size 164 i1 _ 1 24 Tryz.underlying158 hi1 hy0 hy1 hy2 rfl(by decide)(.slice none 0 0)0 []rfl(World.ownsRow_nil _ _ _ _)⟨w.heap.size+1,0,none⟩1 1 [.slice none 0 0]rfl rfl(z2w rfl)(by intro u hu;simp at hu;subst hu;rfl)(by unfold maxLen;omega)(by omega)(by simp;omega)?_;intro v9 w4 hown2 hgrow hblk;obtain⟨⟨gs,cap,hpu⟩,hb9⟩:=jb.out _ _ _ hown2 hgrow hblk;have j6:=hid hpu;have kk:=Q0b hb9 1;have kf:=Q0h hb9 1;simp at kk;obtain⟨a9,c9,hv9⟩:=z0d hown2;clear hown2 hgrow hblk hpu hb9;subst hv9))
 generalize w4.setCell _ _=W1 at j6 ⊢;clear jb kk kf j0 j1;go_wp2;go_loopw [4](fun x4 wr=>∃(p:Nat)(X:List Itm),x4=.int .i64 p/\p<=q.length/\ChG w wr w.heap.size gs cap b([]++[X])/\Q4z Q []X/\∀(p':Nat)(z:Q1),p'<p->q[p']? = some z->z.1=0->(⟨p',0,0⟩:Itm)∈X)
   (fun x _=>1001-(intOf x).toNat)
 case atStart=>exact⟨0,[],rfl,by omega,j6.out,⟨⟨[],rfl⟩,by simp,fun m hm=>by cases hm⟩,fun p' z h=>absurd h(by omega)⟩
 obtain⟨p,X,rfl,hp,hC,hg,hB⟩:=hrel;have j9:=hid(Q2a(B:=1001)p(by omega));have HC:=hid hC;have HG:=hid hg;have HB:=hid hB;have jf:=hg.len j8.out.b j4;obtain⟨vs,hA⟩:=hC;have hN:=HN.out.fresh hA.fr;have z1:=hN.k1;clear j6 hg hB hA;by_cases hlt:p<q.length
 ·have s1:(p:Int)<(q.length:Int):=by omega
  obtain⟨g3,o3,c3,g4,o4,n4,c4,al,cl,hPr⟩:=hN.pr hlt;have q3:=hPr.q3;have y3:=hPr.y3;have hz:q[p]? = some q[p]:=qE hlt;have j5:Hid(∀X5,Q4z Q X X5->(q[p].1=0->(⟨p,0,0⟩:Itm)∈X5)->∀(p':Nat)(z:Q1),p'<p+1->q[p']? = some z->z.1=0->(⟨p',0,0⟩:Itm)∈X5):=hid(fun X5 h5 hin p' z hp' hz' e=>by
   rcases Nat.lt_or_ge p' p with r|r
   ·exact h5.mem(HB.out p' z r hz' e)
   obtain rfl:p'=p:=by omega
   rw[hz]at hz';injection hz' with hz';subst hz';exact hin e)
  have jc:=hid(HI.out p q[p]hz);generalize q[p]=y at y3 j5 jc;clear hPr hN hz;by_cases h0:y.1=0
  ·have PU:Hid(Calls Tryz.prog 71#[.pointer(some⟨w.heap.size,0,none⟩),.agg(itA p 0 0)]wr fun e w'=>e=.returned(.bool(!inI X⟨p,0,0⟩))/\ChG w w' w.heap.size gs cap b([]++[Q8q X⟨p,0,0⟩])):=hid(y15 w wr w.heap.size gs cap b []X⟨p,0,0⟩HC.out(by simp)(by omega));have j7:=hid(jc.out h0);rw[h0]at y3;go_wp2_with(first
    |(go_at_call 71;refine(PU.out).mono ?_;rintro e W5⟨rfl,hC5⟩;have j2:=hid hC5;clear hC5))
   go_roundw
   case rel=>exact⟨p+1,_,by go_num,by omega,j2.out,HG.out.put j7.out,j5.out _(HG.out.refl.put j7.out)(fun _=>y2l _ _)⟩
   exact j9.out
  have j3:=hid(j5.out X HG.out.refl(fun e=>absurd e h0));go_wp2;go_roundw
  case rel=>exact⟨p+1,X,by go_num,by omega,HC.out,HG.out,j3.out⟩
  exact j9.out
 have s1:¬(p:Int)<(q.length:Int):=by omega
 have jd:=hid(FI.out wr w.heap.size gs cap X HC.out HG.out.refl);have j3:=hid(fun(p':Nat)(z:Q1)(h1:q[p']? = some z)(h2:z.1=0)=>HB.out p' z(by have:=(qS h1).1;omega)h1 h2);clear hN;go_wp2_with(first
  |(go_at_call 72;refine(jd.out).mono ?_;rintro e w5⟨rfl,X',hC5,hg5,hd5⟩;have j2:=hid hC5;have ja:=hid hg5;have je:=hid hd5;clear hC5 hg5 hd5))
 go_ret;exact⟨_,gs,cap,X',rfl,j2.out,HG.out.trans ja.out,je.out,fun p' z h1 h2=>ja.out.mem(j3.out p' z h1 h2)⟩
def hdI(q:List Q1)(m:Itm):Int:=((q[m.p]?).map Prod.fst).getD 0
def wanS(R:Nat)(q:List Q1)(o:List Bool)(m:Itm):List Bool :=
 if Q4r q m<0 then(if m.f=0/\hdI q m=0 then o.set R true else o)else if Q4r q m<R then o.set(Q4r q m).toNat true else o
def W0a(R:Nat)(q:List Q1):List Itm->List Bool->List Bool
 | [],o=>o
 |m::l,o=>W0a R q l(wanS R q o m)
theorem x7m(R:Nat)(q:List Q1)(o:List Bool)(m:Itm):(wanS R q o m).length=o.length:=by
 unfold wanS;split
 ·split<;>simp
 split<;>simp
def WnRet(w:World)(R:Nat)(l:List Bool)(e:Ending)(w':World):Prop:=∃g,e=.returned(bsl g(R+1))/\Q13 w' g l/\Q0a w w'
attribute [local go_sem ↓] z5j
theorem y6f(w0 w:World)(cb gs cap b R H:Nat)(q:List Q1)(P:List(List Itm))(X:List Itm)(hS:Q35 w0 b R H q)(hQ:QOk R H q)(h:ChG w0 w cb gs cap b(P++[X]))(hP:P.length<=60)(hXb:Q8p q X) :
  Calls Tryz.prog 38#[.pointer(some⟨cb,0,none⟩)]w fun e w'=>WnRet w R(W0a R q X(List.replicate(R+1)false))e w':=by
 obtain⟨vs,a,cp,hA,hl,hv,hI⟩:=h.set(qR _);rw[z2m]at hv hI;have jl:=hQ.r8;have jq:=hQ.h8;have ji:=hQ.p20;have jr:=hXb.1;have HA:=hid hA;have HS:=hid hS;have HQ:=hid hQ;have HV:=hid hv;have HI:=hid hI;have k1:=hA.s;have kx:=hA.x;rw[hl]at k1;have jk:=hid hXb.2;obtain⟨a0,c0,a1,c1,a2,c2,v3,v4,sv,hN⟩:=hS.fresh hA.fr;have HN:=hid hN;have BA:Hid(Calls Tryz.prog 34#[.pointer(some⟨b,0,none⟩)]w fun e w'=>e=.returned(.int .i64((R+1:Nat):Int))/\w'=w):=hid(z1i w b R a0 c0 hN.k0(by omega));have mk:=fun w=>run_make_row'(P:=Tryz.prog)90 4(.bool false)1 Tryz.underlying90(by kernel_rfl)rfl .i64 .i64(R+1)(by omega)(by omega)w;have kA:=(HA.out.fresh((mRf _ w).alloc(.cells(madeCells#[.bool false](R+1))4))).s;rw[hl]at kA;generalize hV:W0a R q X(List.replicate(R+1)false)=V;have jc:=hid hV;unfold WnRet;generalize j4:R+1=r1 at BA mk kA jc ⊢;have jg:=hid j4;have jn:r1<=9:=by omega
 generalize hp:P.length=n at hP hl k1 kA HV hv;have jj:=hid hl;have js:IntKind.i64.wrap(((n+1:Nat):Int)-1)=(n:Int):=by rw[IntKind.wrap_i64];omega
 have s1:(n:Int)<((n+1:Nat):Int):=by omega
 have jm:cb<w.heap.size:=z0j hA.c;clear hA hv hI h hS hQ hXb hp hl hN hV j4;go_enter Tryz.func38,Tryz.ntmps38
 go_wp2_with(first
  |(go_at_call 34;refine(BA.out).mono ?_;rintro e w'⟨rfl,hw⟩;rw[hw];clear hw))
 go_loopw [5,6,7](fun x5 _ _ wr=>∃(k:Nat)(o:List Bool),x5=.int .i64 k/\k<=X.length/\Q13 wr w.heap.size o/\o.length=r1/\Q0a w wr/\W0a R q(X.drop k)o=V)
   (fun x _ _ _=>10001-(intOf x).toNat)
 case atStart =>
  refine⟨0,List.replicate r1 false,rfl,by omega,?_,by simp,(mRf _ w).alloc _,jc.out⟩;rw[z02];exact z0a _ _
 obtain⟨k,o,rfl,hk,hB,hol,hfr,hrec⟩:=hrel;have j7:=hid(Q2a(B:=10001)k(by omega));have HB:=hid hB;have HF:=hid hfr;have j2:=hid hol;clear k1 kx kA;have k1:=(HA.out.fresh hfr).s;rw[jj.out]at k1;have k2:=(HA.out.fresh hfr).at HV.out;have kx:=(HA.out.fresh hfr).x;have hI:=HI.out.fresh hfr;clear hB hol mk;by_cases hlt:k<X.length
 ·have s2:(k:Int)<(X.length:Int):=by omega
  obtain⟨g,c',hgf⟩:=Q1d.ownsRow_form hI.own(by omega);rw[qI]at hgf;obtain⟨rfl,_,rfl⟩:=hgf;have r1:=hI.range k hlt;have je:=jk.out _(List.getElem_mem hlt);rw[qC hlt,W0a]at hrec;generalize X[k]=m at r1 je hrec;have l1:(ldI(.pointer(some⟨g,k*3,none⟩))).run Tryz.prog wr=.ok(.agg(itA m.p m.d m.f))wr:=z3a r1;obtain⟨hm1,hm2⟩:=je;have j1:=hid hrec;clear r1 hI hrec;go_upto_region 7 with(first
   |(refine z0e rfl 163 _ _ rfl wr _(itA m.p m.d m.f)_ rfl rfl rfl szIt rfl(y7w _ _ _)?_))
  have j9:=W0e wr m 163;have j6:Q0a wr(wr.alloc(.cells(itA m.p m.d m.f)163(0,0))):=(mRf _ wr).alloc _;have j8:=z0a wr(.cells(itA m.p m.d m.f)163(0,0));generalize(wr.alloc(.cells(itA m.p m.d m.f)163(0,0)))=W2 at j9 j6 j8 ⊢;have l2:(ldI(.pointer(some⟨wr.heap.size,0,none⟩))).run Tryz.prog W2=.ok(.agg(itA m.p m.d m.f))W2:=z3a j9;have jd:=hid j6;have jf:=hid j8;have SY:=hid(z5f W2 cb b R H q m(Q0j j6 kx)(HS.out.fresh((HA.out.fr.trans hfr).trans j6))HQ.out hm1(by omega));clear l1 k1 k2 kx j9 j6 j8 hfr;go_upto_region 8 with(first
   |(go_at_call 73;refine(SY.out).mono ?_;rintro e W3⟨rfl,hf3⟩;have jb:=hid(jd.out.trans hf3);have j5:=hid(hf3.at jf.out(fun x=>x));clear hf3))
  have b0:W3.cell?⟨wr.heap.size,0,none⟩=some(.int .i64 m.p):=Q0b j5.out 0;have b2:W3.cell?⟨wr.heap.size,2,none⟩=some(.int .i64 m.f):=Q0b j5.out 2;have j0:=hid(HB.out.fresh jb.out);have j3:=hid(HF.out.trans jb.out);have kx:=(HA.out.fresh j3.out).x;have ja:=HN.out.fresh j3.out;have z0:=ja.k0;obtain⟨g3,o3,c3,g4,o4,n4,c4,al,cl,hPr⟩:=ja.pr hm1;have q3:=hPr.q3;have y3:=hPr.y3;have jh:hdI q m=q[m.p].1:=by unfold hdI;rw[qE hm1];rfl
  rw[← jh]at y3;have s4:(m.p:Int)<(q.length:Int):=by omega
  have hW:=j1.out;unfold wanS at hW;generalize Q4r q m=sc at hW;generalize hdI q m=hm at hW y3;have jp:=j0.out.lt;clear l2 SY jd jf ja hPr jh j1;by_cases hneg:sc<0
  ·rw[if_pos hneg]at hW;have d1:decide(sc<0)=true:=decide_eq_true hneg;have d2:¬0<=sc:=by omega
   by_cases hf0:m.f=0
   ·have d3:(m.f:Int)=0:=by omega
    by_cases hh0:hm=0
    ·rw[if_pos⟨hf0,hh0⟩]at hW;have HW:=hid hW;have j4:=jg.out;have c1:=j0.out.cell(j:=R)(by rw[j2.out];omega);have c2:=j0.out.frozen R;have s5:(R:Int)<(r1:Int):=by omega
     clear j4;have HP:=hid(j0.out.put R true);subst hh0;rw[d3]at b2;clear hW;go_wp2_with fail
     go_quiet(fail);have jo:=Q0j(Q0s W3 nq)c1;have jt:=Q0j(Q0s W3 nq)z0;have ju:=Q0j(Q0s W3 nq)kx;go_wp2;go_roundw
     case rel=>exact⟨k+1,_,by go_num,by omega,HP.out,by simp[j2.out],(j3.out.trans(Q0s W3 nq)).setCell(fun h=>absurd h(Nat.lt_irrefl _))_,HW.out⟩
     exact j7.out
    rw[if_neg(fun e=>hh0 e.2)]at hW;have HW:=hid hW;rw[d3]at b2;clear hW;go_wp2_with fail
    go_quiet(fail);go_wp2;go_roundw
    case rel=>exact⟨k+1,o,by go_num,by omega,j0.out.fresh(Q0s _ _),j2.out,j3.out.trans(Q0s _ _),HW.out⟩
    exact j7.out
   rw[if_neg(fun e=>hf0 e.1)]at hW;have HW:=hid hW;have d3:decide((m.f:Int)=0)=false:=decide_eq_false(by omega);have d4:¬(m.f:Int)=0:=by omega
   clear hW;go_wp2_with fail
   go_quiet(fail);go_wp2;go_roundw
   case rel=>exact⟨k+1,o,by go_num,by omega,j0.out.fresh(Q0s _ _),j2.out,j3.out.trans(Q0s _ _),HW.out⟩
   exact j7.out
  rw[if_neg hneg]at hW;have d1:decide(sc<0)=false:=decide_eq_false hneg;obtain⟨j,rfl⟩:∃j:Nat,sc=j:=⟨sc.toNat,by omega⟩;by_cases hlr:(j:Int)<(R:Int)
  ·rw[if_pos hlr,Int.toNat_natCast]at hW;have HW:=hid hW;have j4:=jg.out;have c1:=j0.out.cell(j:=j)(by rw[j2.out];omega);have c2:=j0.out.frozen j;have s5:(j:Int)<(r1:Int):=by omega
   clear j4;have HP:=hid(j0.out.put j true);clear hW;go_wp2_with fail
   go_quiet(fail);go_wp2;go_roundw
   case rel=>exact⟨k+1,_,by go_num,by omega,HP.out.fresh(Q0s _ _),by simp[j2.out],(j3.out.setCell(fun h=>absurd h(Nat.lt_irrefl _))_).trans(Q0s _ _),HW.out⟩
   exact j7.out
  rw[if_neg hlr]at hW;have HW:=hid hW;clear hW;go_wp2_with fail
  go_quiet(fail);go_wp2;go_roundw
  case rel=>exact⟨k+1,o,by go_num,by omega,j0.out.fresh(Q0s _ _),j2.out,j3.out.trans(Q0s _ _),HW.out⟩
  exact j7.out
 have s2:¬(k:Int)<(X.length:Int):=by omega
 rw[List.drop_eq_nil_of_le(by omega),W0a]at hrec;have j1:=hid hrec;clear hrec hI;go_wp2;go_ret;exact⟨_,rfl,by rw[← j1.out];exact HB.out,HF.out⟩
theorem z76(w:World)(v:Value)(l:List Int)(n:Int)(h:Q02 w v l)(hl:l.length<=1000) :
  Calls Tryz.prog 24#[v,.int .i64 n]w fun e w'=>e=.returned(.bool(l.any(·==n)))/\w'=w:=by
 obtain⟨ao,cap,rfl,hc,hcell⟩:=h;have HC:=hid hcell;generalize hR:l.any(·==n)=RES;have HR:=hid hR;clear hcell hR;go_enter Tryz.func24,Tryz.ntmps24
 go_wp2;go_loopw [6,9](fun _ x5 wr=>∃(i:Nat),x5=.int .i64 i/\i<=l.length/\(l.drop i).any(·==n)=RES/\wr=w)
   (fun _ x _=>1001-(intOf x).toNat)
 case atStart=>exact⟨0,rfl,by omega,HR.out,rfl⟩
 obtain⟨i,rfl,hi,hres,hfr⟩:=hrel;subst hfr;have j2:=hid(Q2a(B:=1001)i(by omega));by_cases hlt:i<l.length
 ·have j4:(i:Int)<(l.length:Int):=by omega
  rw[qC hlt,List.any_cons]at hres;obtain⟨g,o,rfl,hcl⟩:=HC.out i hlt;have c1:=hcl;generalize l[i]=li at hres c1;cases hq:(li==n)
  ·rw[hq,Bool.false_or]at hres;have j0:=hid hres;clear hcl hres;go_wp2;go_roundw
   case rel=>exact⟨i+1,by go_num,by omega,j0.out,by first|rfl|trivial⟩
   exact j2.out
  rw[hq,Bool.true_or]at hres;have j0:=hid hres;clear hcl hres;go_wp2;go_ret;exact⟨z0s j0.out,rfl⟩
 have j1:i=l.length:=by omega
 have j3:¬(i:Int)<(l.length:Int):=by omega
 rw[j1,List.drop_length]at hres;have j0:=hid hres;clear hres;go_wp2;go_ret;exact⟨z0s(by rw[← j0.out];rfl),rfl⟩
def Q0y(R:Int)(l:List Int):Bool:=l.all fun k=>decide(0<=k)&&decide(k<R)
theorem y42(w:World)(R H:Int)(vp v:Value)(l:List Int)(h:Q02 w v l)(hl:l.length<=1000) :
  Calls Tryz.prog 12#[.agg#[.int .i64 R,.int .i64 H,vp],v]w fun e w'=>e=.returned(.bool(Q0y R l))/\Q0a w w':=by
 obtain⟨ao,cap,rfl,hc,hcell⟩:=h;have HC:=hid hcell;generalize hR:Q0y R l=RES;have HR:=hid hR;clear hcell hR;go_enter Tryz.func12,Tryz.ntmps12
 go_wp2;go_loopw [6,9](fun _ x5 wr=>∃(i:Nat),x5=.int .i64 i/\i<=l.length/\Q0y R(l.drop i)=RES/\Q0a w wr/\wr.cell?⟨w.heap.size,0,none⟩=some(.int .i64 R))
   (fun _ x _=>1001-(intOf x).toNat)
 case atStart=>exact⟨0,rfl,by omega,HR.out,(mRf _ w).alloc _,by rw[Q0b(z0a w _)0];rfl⟩
 obtain⟨i,rfl,hi,hres,hfr,c0⟩:=hrel;have j1:=hid hfr;have C0:=hid c0;have j3:=hid(Q2a(B:=1001)i(by omega));by_cases hlt:i<l.length
 ·have j5:(i:Int)<(l.length:Int):=by omega
  unfold Q0y at hres;rw[qC hlt,List.all_cons]at hres;obtain⟨g,o,rfl,hcl⟩:=HC.out i hlt;have c1:=Q0j hfr hcl;generalize l[i]=li at hres c1;by_cases h0:0<=li
  ·by_cases h1:li<R
   ·rw[decide_eq_true h0,decide_eq_true h1]at hres;have j0:=hid hres;clear hcl hres hfr;go_wp2;go_roundw
    case rel=>exact⟨i+1,by go_num,by omega,j0.out,j1.out,C0.out⟩
    exact j3.out
   rw[decide_eq_true h0,decide_eq_false h1]at hres;have j0:=hid hres;clear hcl hres hfr;go_wp2;go_ret;exact⟨z0s j0.out,j1.out⟩
  rw[decide_eq_false h0]at hres;have j0:=hid hres;clear hcl hres hfr;go_wp2;go_ret;exact⟨z0s j0.out,j1.out⟩
 have j2:i=l.length:=by omega
 have j4:¬(i:Int)<(l.length:Int):=by omega
 rw[j2,List.drop_length]at hres;have j0:=hid hres;clear hres hfr;go_wp2;go_ret;exact⟨z0s(by rw[← j0.out];rfl),j1.out⟩
def gdA(fp:Value)(L:List Int):Array Value:=(fp::Q56 L).toArray
theorem x9v{fp:Value}{L:List Int}{j:Nat}(h:j<L.length):(gdA fp L)[1+j]? = some(.int .i64(L.getD j 0)):=by
 unfold gdA;rw[List.getElem?_toArray,Nat.add_comm,List.getElem?_cons_succ,List.getElem?_map,qE h];simp[h]
theorem y91(w:World)(gb:Nat)(fp:Value)(L:List Int)(hL:L.length=72)(hb:w.heap[gb]? = some(.cells(gdA fp L)128(0,0)))(n t:Nat)(hn:n<8)(ht:t<9) :
  Calls Tryz.prog 57#[Q3b gb,.int .i64 n,.int .i64 t]w fun e w'=>e=.returned(.int .i64(L.getD(n*9+t)0))/\w'=w:=by
 have c1:w.cell?⟨gb,1+n*9+t,none⟩=some(.int .i64(L.getD(n*9+t)0)):=by
  rw[Q0b hb,Nat.add_assoc,x9v(by omega)]
 generalize L.getD(n*9+t)0=V at c1;have h1:(n:Int)<8:=by omega
 have h2:(t:Int)<9:=by omega
 clear hb hL;go_enter Tryz.func57,Tryz.ntmps57
 go_wp2;go_ret;exact⟨rfl,rfl⟩
end Go.Proofs.YtcpceafmlgaodaaGreat
