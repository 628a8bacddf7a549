import Derived.Test.YtcpceafmlgaodaaGreatEb8
namespace Go.Proofs.YtcpceafmlgaodaaGreat
open Go.RowKit
set_option maxRecDepth 100000
set_option maxHeartbeats 16000000
set_option linter.unusedVariables false
set_option linter.unusedSimpArgs false
def St.cells(s:St):List Value:=[.bool s.leaf,.int .i8 s.num]
abbrev StOwn(w:World)(base:Nat)(v:Value)(l:List St):Prop:=w.ownsRow base 141 2 v l.length(Q01 St.cells l)
theorem infoSt:(Tryz.prog.info? 141).map(fun i=>(i.zero,i.size,i.bytes))=some(some(.agg#[.bool false,.int .i8 0]),2,2):=by kernel_rfl
theorem infoSt':∃i,Tryz.prog.info? 141=some i/\i.zero=some(.agg#[.bool false,.int .i8 0])/\i.size=2/\i.bytes=2:=by
 have h:=infoSt;cases hq:Tryz.prog.info? 141 with
 |none=>simp[hq]at h
 |some i=>simp[hq]at h;exact⟨i,rfl,h.1,h.2.1,h.2.2⟩
theorem z67{α:Type}(f:α->List Value)(l:List α)(x:α):Q01 f(l++[x])=Q01 f l++f x:=by simp[Q01]
structure GA(w:World)(b B:Nat)(R H:Int)(vp vg vk vs:Value)(k:List Sy)(st:List St):Prop where
 lo:B<=b
 blk:w.heap[b]? = some(.cells#[.int .i64 R,.int .i64 H,vp,vg,vk,vs]74(0,0))
 ks:Q74 w B vk k.reverse
 ss:StOwn w B vs st
 kb:vk.ownBlock≠some b
 sb:vs.ownBlock≠some b
 ap:∀j,vk.ownBlock=some j->vs.ownBlock≠some j
section
variable{w W w1:World}{b B:Nat}{R H:Int}{vp vg vk vs v':Value}{k:List Sy}{st:List St}
theorem GA.lt(h:GA w b B R H vp vg vk vs k st):b<w.heap.size:=z0j h.blk
theorem GA.cell(h:GA w b B R H vp vg vk vs k st)(o:Nat):w.cell?⟨b,o,none⟩=#[.int .i64 R,.int .i64 H,vp,vg,vk,vs][o]? := Q0b h.blk o
theorem GA.frozen(h:GA w b B R H vp vg vk vs k st)(o:Nat):w.frozen?⟨b,o,none⟩=false:=Q0h h.blk o
theorem GA.fresh(h:GA w b B R H vp vg vk vs k st)(hf:Q0a w W):GA W b B R H vp vg vk vs k st :=
 ⟨h.lo,hf.at h.blk(fun x=>x),z0c h.ks(fun g hg=>hf.block g(h.ks.lt g hg).2(fun x=>x)),z0c h.ss(fun g hg=>hf.block g(h.ss.lt g hg).2(fun x=>x)),h.kb,h.sb,h.ap⟩
theorem GA.grown5(h:GA w b B R H vp vg vk vs k st)(hW:Q0a w W)(hg:W.grownBy w1 vs.ownBlock):w1.heap[b]? = some(.cells#[.int .i64 R,.int .i64 H,vp,vg,vk,vs]74(0,0)):=by
 have j0:=hW.at h.blk(fun x=>x);rw[hg.block b(z0j j0)(fun e=>h.sb e.symm)];exact j0
theorem GA.grown4(h:GA w b B R H vp vg vk vs k st)(hW:Q0a w W)(hg:W.grownBy w1 vk.ownBlock):w1.heap[b]? = some(.cells#[.int .i64 R,.int .i64 H,vp,vg,vk,vs]74(0,0)):=by
 have j0:=hW.at h.blk(fun x=>x);rw[hg.block b(z0j j0)(fun e=>h.kb e.symm)];exact j0
theorem GA.step(h:GA w b B R H vp vg vk vs k st)(hW:Q0a w W){x:St}(hown:w1.ownsRow B 141 2 v'(st.length+1)(Q01 St.cells st++x.cells))(hg:W.grownBy w1 vs.ownBlock)
  (hb:∀j,v'.ownBlock=some j->vs.ownBlock=some j∨W.heap.size<=j) :
  GA(w1.setCell⟨b,5,none⟩v')b B R H vp vg vk v' k(st++[x])/\UpB B w(w1.setCell⟨b,5,none⟩v'):=by
 have h1:=h.grown5 hW hg;have j1:=h.lt;have j0:=hW.size;have hv'b:v'.ownBlock≠some b:=fun e=>by
  rcases hb b e with h2|h2
  ·exact h.sb h2
  omega
 refine⟨⟨h.lo,?_,?_,?_,h.kb,hv'b,?_⟩,?_⟩
 ·rw[zhs h1 5 v'];rfl
 ·refine z0c h.ks(fun g hg'=>?_);have hl:=h.ks.lt g hg';rw[Proofs.YtcpceafmlgaodaaGreat.heap_setCell_other _(by intro e;exact h.kb(by rw[hg'];exact congrArg some e)),hg.block g(by omega)(fun e=>h.ap g hg' e.symm),hW.block g hl.2(fun x=>x)]
 ·show World.ownsRow _ _ _ _ _(st++[x]).length _;rw[z67,List.length_append,List.length_singleton];exact z0c hown(fun g hg'=>by rw[Proofs.YtcpceafmlgaodaaGreat.heap_setCell_other _(by intro e;exact hv'b(by rw[hg'];exact congrArg some e))])
 ·intro j hj hj';rcases hb j hj' with h2|h2
  ·exact h.ap j hj h2
  have:=(h.ks.lt j hj).2;omega
 have m1:UpB B w W:=hW.mono(fun _ _ x=>x.elim);exact(m1.grown hg(fun j hj _=>(h.ss.lt j hj).1)).setCell(fun _=>h.lo)_
theorem GA.push(h:GA w b B R H vp vg vk vs k st)(hW:Q0a w W){x:Sy}(hown:w1.ownsRow B 69 2 v'(k.reverse.length+1)(Q01 Sy.cells k.reverse++x.cells))(hg:W.grownBy w1 vk.ownBlock)
  (hb:∀j,v'.ownBlock=some j->vk.ownBlock=some j∨W.heap.size<=j) :
  GA(w1.setCell⟨b,4,none⟩v')b B R H vp vg v' vs(x::k)st/\UpB B w(w1.setCell⟨b,4,none⟩v'):=by
 have h1:=h.grown4 hW hg;have j1:=h.lt;have j0:=hW.size;have hv'b:v'.ownBlock≠some b:=fun e=>by
  rcases hb b e with h2|h2
  ·exact h.kb h2
  omega
 refine⟨⟨h.lo,?_,?_,?_,hv'b,h.sb,?_⟩,?_⟩
 ·rw[zhs h1 4 v'];rfl
 ·show World.ownsRow _ _ _ _ _(x::k).reverse.length _;rw[List.reverse_cons,z67,List.length_append,List.length_singleton];exact z0c hown(fun g hg'=>by rw[Proofs.YtcpceafmlgaodaaGreat.heap_setCell_other _(by intro e;exact hv'b(by rw[hg'];exact congrArg some e))])
 ·refine z0c h.ss(fun g hg'=>?_);have hl:=h.ss.lt g hg';rw[Proofs.YtcpceafmlgaodaaGreat.heap_setCell_other _(by intro e;exact h.sb(by rw[hg'];exact congrArg some e)),hg.block g(by omega)(fun e=>h.ap g e.symm hg'),hW.block g hl.2(fun x=>x)]
 ·intro j hj hj';rcases hb j hj with h2|h2
  ·exact h.ap j h2 hj'
  have:=(h.ss.lt j hj').2;omega
 have m1:UpB B w W:=hW.mono(fun _ _ x=>x.elim);exact(m1.grown hg(fun j hj _=>(h.ks.lt j hj).1)).setCell(fun _=>h.lo)_
theorem y7j{e:TypeId}{size n cap:Nat}{ao:Option Addr}{xs ys:List Value}(h:w.ownsRow B e size(.slice ao(n+1)cap)(n+1)(xs++ys))(hy:ys.length=size):w.ownsRow B e size(.slice ao n cap)n xs:=by
 obtain⟨h1,h2⟩:=h;have hx:xs.length=n*size:=by
  rw[List.length_append,hy,Nat.add_mul,Nat.one_mul]at h1;omega
 refine⟨hx,?_⟩;rcases h2 with⟨_,h0⟩|⟨g,cap',cur,hv,hb,hg,hnc,hcm,hcs,ht⟩
 ·omega
 rw[qI]at hv;obtain⟨rfl,_,rfl⟩:=hv;refine .inr⟨g,cap,cur,rfl,hb,hg,by omega,hcm,hcs,?_⟩;have e1:(xs++ys).take(n*size)=xs:=by rw[List.take_append_of_le_length(by omega),List.take_of_length_le(by omega)]
 rw[← ht,List.take_take,Nat.min_eq_left(by rw[Nat.add_mul];omega)]at e1;exact e1
theorem GA.pop{ao:Option Addr}{cap:Nat}{s:Sy}(h:GA w b B R H vp vg(.slice ao(k.length+1)cap)vs(s::k)st) :
  GA(w.setCell⟨b,4,none⟩(.slice ao k.length cap))b B R H vp vg(.slice ao k.length cap)vs k st/\UpB B w(w.setCell⟨b,4,none⟩(.slice ao k.length cap)):=by
 have j0:=h.ks;unfold Q74 at j0;rw[List.reverse_cons,z67,List.length_append,List.length_singleton,List.length_reverse]at j0;have hp:=y7j j0 rfl;have j1:Value.ownBlock(.slice ao k.length cap)=Value.ownBlock(.slice ao(k.length+1)cap):=by cases ao<;>rfl
 refine⟨⟨h.lo,?_,?_,?_,by rw[j1];exact h.kb,h.sb,fun j hj=>h.ap j(by rw[j1]at hj;exact hj)⟩,(mRf _ w).setCell(fun _=>h.lo)_⟩
 ·rw[zhs h.blk 4 _];rfl
 ·show World.ownsRow _ _ _ _ _ k.reverse.length _;rw[List.length_reverse];exact z0c hp(fun g hg'=>by rw[Proofs.YtcpceafmlgaodaaGreat.heap_setCell_other _(by intro e;exact h.kb(by rw[← j1,hg'];exact congrArg some e))])
 exact z0c h.ss(fun g hg'=>by rw[Proofs.YtcpceafmlgaodaaGreat.heap_setCell_other _(by intro e;exact h.sb(by rw[hg'];exact congrArg some e))])
end
def ldY(v:Value):Sem Value:=Instr.loadAt 69 v
theorem y76(v:Value):Instr.loadAt 69 v=ldY v:=rfl
theorem x4w{w:World}{g o:Nat}{h:Bool}{n:Int}(hr:w.rangeAt g o [.bool h,.int .i64 n]):(ldY(.pointer(some⟨g,o,none⟩))).run Tryz.prog w=.ok(.agg#[.bool h,.int .i64 n])w :=
 run_loadAt_mid w g o _ _ _ hr Tryz.underlying69 rfl szSy2
attribute [local go_sem ↓] y76
attribute [local go_sem ↓] z16
theorem x5t(w:World)(b B:Nat)(R H:Int)(vp vg vk vs:Value)(k:List Sy)(st:List St)(ps:List PV)(i:Nat)(h:GA w b B R H vp vg vk vs k st)(hp:Q3p w B vp ps)(hi:i<ps.length)(hps:ps.length<=100)
  (hst:st.length<=1000000000000)(hk:k.length<=100000000000)(hsy:ps[i].pr.syms.length<=6)(hB:B<=w.heap.size) :
  Calls Tryz.prog 58#[Q3b b,.int .i64 i]w fun e w'=>e=.returned(.tuple#[])/\∃vk' vs',GA w' b B R H vp vg vk' vs'(ps[i].pr.syms++k)(st++[⟨false,i⟩])/\UpB B w w':=by
 generalize hsyE:ps[i].pr.syms=sy at hsy ⊢;have jc:=hid hsyE;clear hsyE;obtain⟨is,his,sz0,sz1,sz2⟩:=infoSt';obtain⟨iy,hiy,yz0,yz1,yz2⟩:=infoSy';obtain⟨pa,pc,hvp⟩:=z0d hp.row.own;subst hvp;obtain⟨sa,sc,hvs⟩:=z0d h.ss;subst hvs;obtain⟨gp,cap',hv'⟩:=Q1d.ownsRow_form hp.row.own(by omega);rw[qI]at hv';obtain⟨rfl,_,rfl⟩:=hv';have k2:=h.cell 2;have k5:=h.cell 5;simp at k2 k5;have z5:=h.frozen 5;have k3:(i:Int)<(ps.length:Int):=by omega
 have jx:(i:Int)<=127:=by omega
 have k0:¬(ps.length<=i):=by omega
 have k1:¬((i:Int)<0):=by omega
 have HG:=hid h;have HP:=hid hp;have k7:=h.lt;have HO:=hid h.ss;clear h hp;go_enter Tryz.func58,Tryz.ntmps58
 go_wp2_with(first
  |(at_builtin;refine z0g _ rfl _ _ 72 rfl B 141 is _ 2 2 Tryz.underlying72 his sz0 sz1 sz2 rfl(by decide)_ _ _ rfl(HO.out.alloc _)⟨w.heap.size,0,none⟩1 1 [.bool false,.int .i8 i]rfl rfl(z0l rfl)(by intro u hu;simp at hu;rcases hu with rfl|rfl<;>rfl)(by unfold maxLen;omega)(by omega)(by simp;omega)?_))
 intro v' w5 hown hgrow hblk;obtain⟨sa1,sc1,hvs1⟩:=z0d hown;subst hvs1;have G5:=HG.out.grown5((mRf _ w).alloc _)hgrow;have f5:=Q0h G5 5;have g5:=Q0b G5 5;simp at g5;obtain⟨G1,U1⟩:=HG.out.step(x:=⟨false,i⟩)((mRf _ w).alloc _)hown hgrow(fun j hj=>by simpa using hblk j hj);generalize hWW:w5.setCell⟨b,5,none⟩(.slice sa1(st.length+1)sc1)=W1 at G1 U1;have jf:=hid hWW;have j3:=HP.out.kept hB U1(fun j h1 h2=>by omega);have jw:=hid j3;have j2:=G1.cell 2;simp at j2;have cs:=j3.row.cell i 1 hi(by omega);have j4:=j3.syms ps[i](by simp);rw[jc.out]at j4;have ja:=hid j4;have jn:=hid G1;have jb:=hid U1;have jj:=G1.lt;have js:B<=W1.heap.size:=by have:=U1.size;omega
 simp[PV.cells]at cs;clear j4;generalize ps[i].vs=pvs at ja cs;obtain⟨sao,scap,hsv,hsc,hscm,hsyc⟩:=ja.out;subst hsv;have jo:=hid hsyc;clear hsyc hown hgrow hblk G5 G1 U1 j3;go_wp2;clear hWW;go_loopw [5](fun x5 wr=>∃(m:Nat)(q:Int)(vk':Value),x5=.int .i64 q/\q=(m:Int)-1/\m<=sy.length/\GA wr b B R H(.slice(some⟨gp,0,none⟩)ps.length pc)vg vk'(.slice sa1(st.length+1)sc1)(sy.drop m++k)(st++[⟨false,i⟩])/\UpB B w wr)
   (fun x _=>(intOf x+1).toNat)
 case atStart=>exact⟨sy.length,_,vk,rfl,rfl,qR _,by rw[List.drop_length];exact jn.out,jb.out⟩
 clear j2 cs jj js jf f5 z5 k5 k2;obtain⟨m,q,vk',rfl,hq,hm,hG,hU⟩:=hrel;by_cases hm0:m=0
 ·have jk:q=-1:=by omega
  subst jk;subst hm0;have ju:=hid hG;have jh:=hid hU;clear hG hU hq;go_wp2;exact bodyPost_end(results_none rfl _ _ _)rfl⟨rfl,vk',_,ju.out,jh.out⟩
 obtain⟨m',rfl⟩:∃m',m=m'+1:=⟨m-1,by omega⟩;have jp:q=(m':Int):=by omega
 clear hq;subst jp;have j8:m'<sy.length:=by omega
 have jy:(m':Int)<(sy.length:Int):=by omega
 have jv:Hid(((m':Int)-1+1).toNat<((m':Int)+1).toNat):=by unfold Hid;omega
 have j7:Hid(sy.drop m'=sy[m']::sy.drop(m'+1)):=qC j8;obtain⟨g,o,rfl,hgB,hrg⟩:=jo.out m' j8;have j0:wr.rangeAt g(o+m'*2)(sy[m']).cells:=z0t hrg(by
  rw[hU.block g(by omega)(by omega)];exact(jb.out.block g(by omega)(by omega)).symm)
 generalize sy[m']=s at j0 j7;obtain⟨sh,sn⟩:=s;have l1:(ldY(.pointer(some⟨g,o+m'*2,none⟩))).run Tryz.prog wr=_:=x4w j0;have l2:(ldY(.pointer(some⟨g,o+m'*2,none⟩))).run Tryz.prog wr.drew=_:=x4w(w:=wr.drew)(z0t j0 rfl);have jr:(sy.drop(m'+1)++k).length<=100000000006:=by simp;omega
 have j9:Hid(∀x:Sy,x::(sy.drop(m'+1)++k)=(x::sy.drop(m'+1))++k):=fun x=>rfl;generalize sy.drop(m'+1)++k=K at hG jr j9;have j1:=hG.ks;unfold Q74 at j1;rw[List.length_reverse]at j1;obtain⟨ka,kc,hvk⟩:=z0d j1;subst hvk;have k4:=hG.cell 4;have z4:=hG.frozen 4;simp at k4;have jz:=hG.lt;have k6:B<=wr.heap.size:=by have:=hU.size;omega
 have j6:=hid hG;have ji:=hid hU;have j5:=hid j1;clear hG hU j1 hrg j0;go_wp2;have FW:Hid(∀o:Obj,Q0a wr(wr.alloc o).drew):=fun o=>((mRf _ wr).alloc o).drew;obtain⟨v',w2,hrun,hown,hgrow,hblk⟩:=z2z(P:=Tryz.prog)(wr.alloc(.cells#[.bool sh,.int .i64 sn]69)).drew B 71 71 69 iy _ 2 16 Tryz.underlying71 hiy yz0 yz1 yz2 rfl(by decide)(.slice ka K.length kc)K.length(Q01 Sy.cells K.reverse)(z0c j5.out(fun g hg=>(FW.out _).block g(j5.out.lt g hg).2(fun x=>x)))⟨wr.heap.size,0,none⟩1 1 [.bool sh,.int .i64 sn]rfl(z0l rfl)(by intro u hu;simp at hu;rcases hu with rfl|rfl<;>rfl)(by unfold maxLen;omega)(by omega)(by simp[World.drew];omega);have HB:=j6.out.grown4(FW.out _)hgrow;have jl:w2.cell?⟨b,4,none⟩=some(.slice ka K.length kc):=(Q0b HB 4);have jq:=Q0h HB 4;have jt:=hid hown;have je:=hid hgrow;have jg:=hid hblk;obtain⟨a',cap',hv'⟩:=z0d hown;clear hown hgrow hblk HB;subst hv';go_region;all_goals
  obtain⟨G3,U3⟩:=j6.out.push(x:=⟨sh,sn⟩)(FW.out _)(by rw[List.length_reverse];exact jt.out)je.out jg.out;generalize hWW:w2.setCell _ _=W3 at G3 U3 ⊢;have jm:=hid G3;have jd:=hid U3;clear G3 U3 hWW jl jq k4 z4 l1 l2 hrun;go_wp2;go_roundw
  case rel =>
   refine⟨m',(m':Int)-1,.slice a'(K.length+1)cap',rfl,rfl,by omega,?_,Mod.trans ji.out jd.out⟩;rw[j7.out,← j9.out];exact jm.out
  exact jv.out
def lenV(v:Value):Nat:=match v with
 | .slice _ n _=>n
 |_=>0
def stW(b:Nat)(w:World):Nat:=match w.heap[b]? with
 |some(.cells c _ _)=>lenV(c.getD 5 undef)
 |_=>0
theorem GA.stW{w:World}{b B:Nat}{R H:Int}{vp vg vk vs:Value}{k:List Sy}{st:List St}(h:GA w b B R H vp vg vk vs k st):stW b w=st.length:=by
 obtain⟨a,c,hv⟩:=z0d h.ss;unfold Proofs.YtcpceafmlgaodaaGreat.stW;rw[h.blk,hv];rfl
structure GdAt(w:World)(gb B:Nat)(fp:Value)(L:List Int):Prop where
 lt:gb<B
 blk:w.heap[gb]? = some(.cells(gdA fp L)128(0,0))
 len:L.length=72
theorem GdAt.up{w w':World}{gb B:Nat}{fp:Value}{L:List Int}(h:GdAt w gb B fp L)(hu:UpB B w w'):GdAt w' gb B fp L :=
 ⟨h.lt,by rw[hu.block gb(z0j h.blk)(by have:=h.lt;omega)];exact h.blk,h.len⟩
def chL(L:List Int)(X:Int)(t:Nat):Int:=if 0<=X/\X<8/\t<9 then L.getD(X.toNat*9+t)0 else -1
def Q3f(R H:Int)(k:List Sy):Prop:=∀s∈k,0<=s.num/\s.num<(if s.isH then H else R)
attribute [local go_sem ↓] y76
attribute [local go_sem ↓] z16
theorem y1g(w:World)(b B gb:Nat)(fp:Value)(L:List Int)(R H:Nat)(vp vk vs:Value)(k:List Sy)(st:List St)(ps:List PV)(t F:Nat)(r:List Sy × List St)
  (h:GA w b B R H vp(Q3b gb)vk vs k st)(hgd:GdAt w gb B fp L)(hp:Q3p w B vp ps)(hps:ps.length<=100)(hsy:∀p∈ps,p.pr.syms.length<=6/\Q3f R H p.pr.syms)(hk0:Q3f R H k)
  (hR:R<=8)(hH:H<=8)(ht:t<9)(hB:B<=w.heap.size)(hrun:gTo(Q0k ps)(chL L)t F k st=some r)(hrl:r.2.length<=1000000000000)(hkl:k.length+6*r.2.length<=100000000000+6*st.length) :
  Calls Tryz.prog 25#[Q3b b,.int .i64 t]w fun e w'=>e=.returned(.tuple#[])/\∃vk' vs',GA w' b B R H vp(Q3b gb)vk' vs' r.1 r.2/\UpB B w w':=by
 obtain⟨is,his,sz0,sz1,sz2⟩:=infoSt';have jy:=hid h;have ja:=hid hgd;have HP:=hid hp;have jk:=hid hsy;have jr:=hid hrl;have je:=hid hrun;have jx:=hid hkl;have ju:=hid hk0;have km:=h.lt;have kh:=h.lo;clear h hgd hp hsy hrl hrun hkl hk0;go_enter Tryz.func25,Tryz.ntmps25
 go_wp2;go_loopw [4,5,6](fun _ _ _ wr=>∃(f:Nat)(k':List Sy)(st':List St)(vk' vs':Value),gTo(Q0k ps)(chL L)t f k' st'=some r/\GA wr b B R H vp(Q3b gb)vk' vs' k' st'/\UpB B w wr/\Q3f R H k'/\k'.length+6*r.2.length<=100000000000+6*st'.length)
   (fun _ _ _ wr=>r.2.length+1-stW b wr)
 case atStart=>exact⟨F,k,st,vk,vs,je.out,jy.out,mRf _ w,ju.out,jx.out⟩
 obtain⟨f,k',st',vk',vs',hrun,hG,hU,hKI,hKL⟩:=hrel;have kn:st'.length<=r.2.length:=y28 _ _ _ _ hrun;have hrl:=jr.out;obtain⟨f,rfl⟩:∃f',f=f'+1:=by
  cases f with
  |zero=>cases hrun
  |succ f=>exact⟨f,rfl⟩
 have j0:=hG.ks;unfold Q74 at j0;rw[List.length_reverse]at j0;obtain⟨ka,kc,hvk⟩:=z0d j0;subst hvk;have k4:=hG.cell 4;simp at k4;have kl:=hG.lt;have ko:B<=wr.heap.size:=by have:=hU.size;omega
 have j1:=hid hU;have jh:=hid hG;cases k' with
 |nil =>
  have hr:r=([],st'):=by simpa [gTo]using hrun.symm
  simp only[List.length_nil]at k4;have HR:=hid hr;clear hr hrun hG hU j0;go_wp2;exact bodyPost_end(results_none rfl _ _ _)rfl⟨rfl,_,vs',by rw[HR.out];exact jh.out,j1.out⟩
 |cons s K =>
  obtain⟨sh,sn⟩:=s;have j4:=hKI⟨sh,sn⟩(by simp);have kb:Hid(Q3f R H K):=fun x hx=>hKI x(by simp[hx]);have jq:K.length<=100000000000:=by simp at hKL;omega
  have j9:Hid(K.length+1+6*r.2.length<=100000000000+6*st'.length):=by unfold Hid;simpa using hKL
  simp only[List.length_cons]at k4 j0;have jw:((K.length:Int)+1-1)=(K.length:Int):=by omega
  obtain⟨g,cap',hv'⟩:=Q1d.ownsRow_form j0(by omega);rw[qI]at hv';obtain⟨rfl,_,rfl⟩:=hv';have kj:K.length+1<=kc:=by
   rcases j0.2 with⟨h1,_⟩|⟨g',c',cur,h1,_,_,h2,_⟩
   ·cases h1
   rw[qI]at h1;obtain⟨_,_,rfl⟩:=h1;exact h2
  have k6:(K.length:Int)<=(kc:Int):=by omega
  have RG:Hid(wr.rangeAt g(K.length*2) [.bool sh,.int .i64 sn]):=by
   have jd:Q2k Sy.cells 2 69 wr(.slice(some⟨g,0,none⟩)(K.length+1)kc)(K.reverse++[⟨sh,sn⟩]):=⟨by
    have:=z0f j0(Nat.zero_le B);rw[List.length_append,List.length_singleton,List.length_reverse];simpa using this,fun _ _=>rfl⟩
   have:=jd.range K.length(by simp);unfold Hid;simpa [Sy.cells]using this
  have j8:=hG.fresh((mRf _ wr).alloc(.cells#[.bool sh,.int .i64 sn]69(0,0)));obtain⟨G1,U1⟩:=GA.pop(ao:=some⟨g,0,none⟩)(cap:=kc)j8;have z4:=j8.frozen 4;have y4:=j8.cell 4;simp at y4;generalize hW1:(wr.alloc(.cells#[.bool sh,.int .i64 sn]69(0,0))).setCell⟨b,4,none⟩(.slice(some⟨g,0,none⟩)K.length kc)=W1 at G1 U1;have jc:W1.heap[wr.heap.size]? = some(.cells#[.bool sh,.int .i64 sn]69(0,0)):=by
   rw[← hW1,Proofs.YtcpceafmlgaodaaGreat.heap_setCell_other _(by simp;omega)];exact z0a _ _
  have c0:=Q0b jc 0;have c1:=Q0b jc 1;simp at c0 c1;have jf:=hid G1;have j2:Hid(UpB B wr W1):=Mod.trans((mRf _ wr).alloc _)U1;have jn:B<=W1.heap.size:=by have:=j2.out.size;omega
  have k1:=G1.lt;have kg:Hid(st'.length<r.2.length->True):=fun _=>trivial;obtain⟨sa,sc,hvs⟩:=z0d G1.ss;subst hvs;have j5:=G1.cell 5;have j3:=G1.cell 3;simp at j5 j3;have z5:=G1.frozen 5;have jl:=hid G1.ss;have kp:=ja.out.lt;have j7:W1.heap[gb]? = some(.cells(gdA fp L)128(0,0)):=(ja.out.up(Mod.trans j1.out j2.out)).blk;have jb:=hid j7;clear G1 U1 j8 hG hU j0 jc hKI hKL kg j7;cases sh
  ·simp only[gTo,if_true,Option.some.injEq]at hrun;have HR:=hid hrun.symm;have ki:r.2.length=st'.length+1:=by rw[HR.out];simp
   simp only[Bool.false_eq_true,if_false]at j4;have js:sn<=127:=by omega
   have kk:=j4.1;clear hrun j4;go_wp2_with(first
    |(refine wpList_load_mid rfl 69 _ rfl g(K.length*2)rfl [.bool false,.int .i64 sn]_ RG.out Tryz.underlying69 rfl szSy2 ?_))
   have FW:Hid(∀o:Obj,Q0a W1(W1.alloc o).drew):=fun o=>((mRf _ W1).alloc o).drew;obtain⟨v',w2,hrun,hown,hgrow,hblk⟩:=z2z(P:=Tryz.prog)(W1.alloc(.cells#[.bool true,.int .i8 sn]141)).drew B 72 72 141 is _ 2 2 Tryz.underlying72 his sz0 sz1 sz2 rfl(by decide)(.slice sa st'.length sc)st'.length(Q01 St.cells st')(z0c jl.out(fun g hg=>(FW.out _).block g(jl.out.lt g hg).2(fun x=>x)))⟨W1.heap.size,0,none⟩1 1 [.bool true,.int .i8 sn]rfl(z0l rfl)(by intro u hu;simp at hu;rcases hu with rfl|rfl<;>rfl)(by unfold maxLen;omega)(by omega)(by simp[World.drew];omega);have HB:=jf.out.grown5(FW.out _)hgrow;have k2:w2.cell?⟨b,5,none⟩=some(.slice sa st'.length sc):=(Q0b HB 5);have k7:=Q0h HB 5;have kd:=hid hown;have jp:=hid hgrow;have jv:=hid hblk;obtain⟨a',cap',hv'⟩:=z0d hown;clear hown hgrow hblk HB hW1;subst hv';go_region;all_goals
    obtain⟨G3,U3⟩:=jf.out.step(x:=⟨true,sn⟩)(FW.out _)kd.out jp.out jv.out;generalize hWW:w2.setCell _ _=W3 at G3 U3 ⊢;have k3:=hid G3;have jo:=hid U3;clear G3 U3 hWW k2 k7 hrun;go_wp2;exact bodyPost_ret(results_none rfl _ _ _)rfl⟨rfl,_,_,by rw[HR.out];exact k3.out,Mod.trans j1.out(Mod.trans j2.out jo.out)⟩
  simp only[if_true]at j4;obtain⟨n,rfl⟩:∃n:Nat,sn=n:=⟨sn.toNat,by omega⟩;have jz:n<8:=by omega
  have jm:chL L n t=L.getD(n*9+t)0:=by
   unfold chL;rw[if_pos⟨by omega,by omega,ht⟩,Int.toNat_natCast]
  rw[gTo,if_neg(by simp)]at hrun;simp only[jm]at hrun;by_cases hc0:0<=L.getD(n*9+t)0
  ·rw[if_pos hc0]at hrun;obtain⟨i,hi⟩:∃i:Nat,L.getD(n*9+t)0=i:=⟨(L.getD(n*9+t)0).toNat,by omega⟩;rw[hi,Int.toNat_natCast]at hrun;cases hpi:(Q0k ps)[i]? with
   |none=>rw[hpi]at hrun;cases hrun
   |some p =>
    rw[hpi]at hrun;simp only[]at hrun;have k9:i<ps.length:=by
     have:=(qS hpi).1;simpa [Q0k]using this
    have ji:ps[i].pr=p:=by
     have:=(qS hpi).2;simpa [Q0k]using this
    have ke:st'.length+1<=r.2.length:=by have:=y28 _ _ _ _ hrun;simpa using this
    have CH:Hid(∀W:World,W.heap[gb]? = some(.cells(gdA fp L)128(0,0))->Calls Tryz.prog 57#[Q3b gb,.int .i64 n,.int .i64 t]W fun e w'=>e=.returned(.int .i64 i)/\w'=W):=fun W hW=>by
     have:=y91 W gb fp L ja.out.len hW n t jz ht;rw[hi]at this;exact this
    have jt:=hid ji;have j6:=hid hrun;have k0:=(jk.out ps[i](by simp)).1;have jg:=hid(jk.out ps[i](by simp)).2;have kf:=j2.out.size;have OP:Hid(∀W:World,Q0a W1 W->Calls Tryz.prog 58#[Q3b b,.int .i64 i]W fun e w'=>e=.returned(.tuple#[])/\∃vk' vs',GA w' b B R H vp(Q3b gb)vk' vs'(ps[i].pr.syms++K)(st'++[⟨false,i⟩])/\UpB B W w'):=fun W hW =>
     x5t W b B R H vp(Q3b gb)_ _ K st' ps i(jf.out.fresh hW)((HP.out.kept hB(Mod.trans j1.out j2.out)(fun j h1 h2=>by omega)).kept(by have:=j1.out.size;omega)hW(fun _ _ x=>x))k9 hps(by omega)jq k0(by have:=hW.size;omega)
    clear hrun hpi hc0 hi jm ji j4;go_wp2_with(first
     |(refine wpList_load_mid rfl 69 _ rfl g(K.length*2)rfl [.bool true,.int .i64 n]_ RG.out Tryz.underlying69 rfl szSy2 ?_))
    clear hW1;go_quiet(first
     |(go_at_call 57;refine Calls.quiet_of_same(CH.out _ jb.out)))
    go_wp2_with(first
     |(go_at_call 58;refine(OP.out _(Q4b W1 _)).mono ?_;rintro e w'⟨rfl,vk2,vs2,hG2,hU2⟩;have jj:=hid hG2;have k8:=hid hU2;clear hG2 hU2))
    have k5:Hid(UpB B w w'):=Mod.trans j1.out(Mod.trans j2.out(Mod.trans((Q4b W1 nq).mono(fun _ _ x=>x.elim))k8.out));go_roundw
    case rel =>
     refine⟨f,ps[i].pr.syms++K,st'++[⟨false,i⟩],vk2,vs2,?_,jj.out,k5.out,?_,?_⟩
     ·rw[jt.out];exact j6.out
     ·intro x hx;rcases List.mem_append.1 hx with hx|hx
      ·exact jg.out x hx
      exact kb.out x hx
     have:=j9.out;simp only[List.length_append,List.length_singleton];omega
    rw[jj.out.stW,jh.out.stW,List.length_append,List.length_singleton];omega
  rw[if_neg hc0]at hrun;cases hrun
def hdOr(l:List Int):Int:=match l with
 | []=>-1
 |a::_=>a
def chT(z:List(Pr × List Bool))(j:Nat):Int:=hdOr(ovL((j / 9:Nat):Int)((j % 9:Nat):Int)z 0)
def Q6c(z:List(Pr × List Bool))(j:Nat):List Int:=(List.range j).map(chT z)++List.replicate(72-j)0
theorem z8a(z:List(Pr × List Bool)){j:Nat}(h:j<=72):(Q6c z j).length=72:=by simp[Q6c];omega
theorem x6y(z:List(Pr × List Bool)){j:Nat}(h:j<72):(Q6c z j).set j(chT z j)=Q6c z(j+1):=by
 unfold Q6c;rw[List.set_append_right _ _(by simp)];simp only[List.length_map,List.length_range,Nat.sub_self];rw[show 72-j=(72-(j+1))+1 by omega,List.replicate_succ,List.set_cons_zero,List.range_succ,List.map_append,List.append_assoc];rfl
theorem v0l(z:List(Pr × List Bool)){n t:Nat}(hn:n<8)(ht:t<9):(Q6c z 72).getD(n*9+t)0=hdOr(ovL(n:Int)(t:Int)z 0):=by
 have h1:n*9+t<72:=by omega
 unfold Q6c;simp only[Nat.sub_self,List.replicate_zero,List.append_nil];rw[qD,List.getElem?_map,List.getElem?_range h1];simp only[Option.map_some,Option.getD_some,chT];rw[show(n*9+t) / 9=n by omega,show(n*9+t) % 9=t by omega]
theorem x8x(fp:Value)(L:List Int)(j:Nat)(v:Int):(gdA fp L).setIfInBounds(1+j)(.int .i64 v)=gdA fp(L.set j v):=by
 unfold gdA;rw[Nat.add_comm];simp[List.map_set]
theorem x7c:Tryz.zeroCells128.toList.drop 1=Q56(List.replicate 72 0):=by kernel_rfl
theorem x9z(b:Nat):Tryz.zeroCells128.setIfInBounds 0(Q3b b)=gdA(Q3b b)(List.replicate 72 0):=by
 apply Array.ext';unfold gdA;rw[Array.toList_setIfInBounds];have h:=x7c;cases hq:Tryz.zeroCells128.toList with
 |nil=>rw[hq]at h;simp at h
 |cons x l=>rw[hq]at h;simp only[List.drop_succ_cons,List.drop_zero]at h;rw[h];rfl
theorem y3j(w:World)(R H:Nat)(vp:Value)(ps:List PV)(hp:Q3p w w.heap.size vp ps)(hps:ps.length<=1000)(hH:H<=1000)(hR:R<=1000)(hok:∀x∈Q34(Q0k ps)(Q0x R H),x.ok) :
  Calls Tryz.prog 22#[.agg#[.int .i64 R,.int .i64 H,vp]]w fun e w'=>∃gb fb vh,e=.returned(Q3b gb)/\Q0a w w' /\
   w'.heap[gb]? = some(.cells(gdA(Q3b fb)(Q6c((Q0k ps).zip(Q0q(Q34(Q0k ps)(Q0x R H))(Q0k ps)))72))128(0,0))/\FA w' fb R H vp vh ps(Q34(Q0k ps)(Q0x R H)):=by
 obtain⟨pa,pc,hvp⟩:=z0d hp.row.own;subst hvp;have HP:=hid hp;have FI:=hid(y4f(w.alloc(.cells#[.int .i64 R,.int .i64 H,.slice pa ps.length pc]41(0,0)))R H(.slice pa ps.length pc)ps((hp.kept(qR _)((mRf(fun _=>False)w).alloc _)(fun _ _ x=>x)).up(by simp))hps hH hR);generalize Q34(Q0k ps)(Q0x R H)=AL at FI hok;have jp:((Q0k ps).zip(Q0q AL(Q0k ps))).length<=1000:=by simp[Q0q,Q0k];omega
 have jh:(Q0q AL(Q0k ps)).length=ps.length:=by simp[Q0q,Q0k]
 have ji:∀a∈Q0q AL(Q0k ps),a.length=9:=fun a ha=>by
  obtain⟨p,_,rfl⟩:=List.mem_map.1 ha;exact z3d hok _ _
 generalize hz:(Q0k ps).zip(Q0q AL(Q0k ps))=z at jp ⊢;have HZ:=hid hz;clear hp hok hz;go_enter Tryz.func22,Tryz.ntmps22
 go_wp2_with(first
  |(go_at_call 51;refine(z6f w1 b R H(.slice pa ps.length pc)vh ps AL hF1 hps).mono ?_;rintro e w2⟨va,rfl,hf2,hoa⟩)
  |(go_at_call 50;refine FI.out.mono ?_;rintro e w1⟨b,vh,rfl,j0,hF1⟩))
 have jc:=hid(hf2.at(j0.at(z0a _ _)(fun x=>x))(fun x=>x));have j3:Hid(Q0a w w2):=Mod.trans((mRf _ w).alloc _)(j0.trans hf2);have jk:=hid(hF1.fresh hf2);have PO:=hid(fun(W:World)(hW:Q0a w2 W)(n t:Nat)=>z6h W R H(.slice pa ps.length pc)ps((HP.out.kept(qR _)(j3.out.trans hW)(fun _ _ x=>x)).up((j3.out.trans hW).size))hps _(Q0q AL(Q0k ps))_(z0c hoa(fun g hg=>hW.block g(hoa.lt g hg).2(fun x=>x)))jh ji(n:Int)(t:Int));have jr:=hf2.size;have jv:=j3.out.size;have jt:w.heap.size<w2.heap.size:=z0j jc.out;rw[HZ.out]at PO;clear hoa hF1 j0 hf2 FI jh ji;have jd:=hid(x9z b);generalize Tryz.zeroCells128.setIfInBounds 0(Q3b b)=GZ at jd ⊢;go_loopw [16](fun x16 wr=>∃(n:Nat),x16=.int .i64 n/\n<=8/\Q0a w2 wr/\wr.heap[w2.heap.size]? = some(.cells(gdA(Q3b b)(Q6c z(n*9)))128(0,0)))
   (fun x _=>9-(intOf x).toNat)
 case atStart=>exact⟨0,rfl,by omega,(mRf _ w2).alloc _,by rw[z0a,jd.out];rfl⟩
 obtain⟨n,rfl,hn,hfr,hgb⟩:=hrel;have jo:=hid(Q2a(B:=9)n(by omega));have j7:=hid hfr;have ja:=hid hgb;clear hfr hgb;by_cases hlt:n<8
 ·have jy:(n:Int)<8:=by omega
  go_wp2;obtain⟨wn,hwn⟩:∃wn,wn=wr:=⟨_,rfl⟩;subst hwn;go_loopw [19](fun x19 wr=>∃(t:Nat),x19=.int .i64 t/\t<=9/\Q0a w2 wr/\wr.heap[w2.heap.size]? = some(.cells(gdA(Q3b b)(Q6c z(n*9+t)))128(0,0)))
    (fun x _=>10-(intOf x).toNat)
  case atStart=>exact⟨0,rfl,by omega,j7.out,ja.out⟩
  obtain⟨t,rfl,ht,hfr,hgb⟩:=hrel;have jg:=hid(Q2a(B:=10)t(by omega));have jl:=hid hfr;have jq:=hid hgb;by_cases hlt2:t<9
  ·have jz:(t:Int)<9:=by omega
   have hj:n*9+t<72:=by omega
   have c1:wr.cell?⟨w2.heap.size,1+n*9+t,none⟩=some(.int .i64((Q6c z(n*9+t)).getD(n*9+t)0)):=by
    rw[Q0b hgb,Nat.add_assoc,x9v(by rw[z8a _(by omega)];omega)]
   have z1:=Q0h hgb(1+n*9+t);generalize(Q6c z(n*9+t)).getD(n*9+t)0=V0 at c1;have j8:(wr.setCell⟨w2.heap.size,1+n*9+t,none⟩(.int .i64(-1))).heap[w2.heap.size]? = some(.cells(gdA(Q3b b)((Q6c z(n*9+t)).set(n*9+t)(-1)))128(0,0)):=by
    rw[zhs hgb,Nat.add_assoc,x8x]
   have j0:Q0a w2(wr.setCell⟨w2.heap.size,1+n*9+t,none⟩(.int .i64(-1))):=hfr.setCell(fun h=>absurd h(Nat.lt_irrefl _))_;have j1:∀v,((Q6c z(n*9+t)).set(n*9+t)(-1)).set(n*9+t)v=(Q6c z(n*9+t)).set(n*9+t)v:=fun v=>List.set_set _;have jj:=hid j1;have j5:Hid((Q6c z(n*9+t)).set(n*9+t)(hdOr(ovL(n:Int)(t:Int)z 0))=Q6c z(n*9+t+1)):=by
    have:=x6y z hj;unfold chT at this;rw[show(n*9+t) / 9=n by omega,show(n*9+t) % 9=t by omega]at this;exact this
   have jx:((Q6c z(n*9+t)).set(n*9+t)(-1)).length=72:=by rw[List.length_set,z8a _(by omega)]
   clear j1;generalize hWW:wr.setCell⟨w2.heap.size,1+n*9+t,none⟩(.int .i64(-1))=W1 at j8 j0;have jb:=hid j8;have je:=hid j0;have j9:=hid(PO.out W1 j0 n t);have j6:=hid(j0.at jc.out(fun x=>x));generalize ovL(n:Int)(t:Int)z 0=able at j9 j5;clear hfr hgb j0 j8;have t0:=Q0b j6.out 0;have t1:=Q0b j6.out 1;have t2:=Q0b j6.out 2;simp at t0 t1 t2;cases able with
   |nil =>
    go_wp2_with(first
     |(go_at_call 52;refine j9.out.mono ?_;rintro e w3⟨v8,rfl,hf3,ho8⟩;obtain⟨a8,c8,e8⟩:=z0d ho8;simp only[List.length_nil]at e8;subst e8;have j2:=hid hf3;clear ho8 hf3 hWW))
    go_roundw
    case rel =>
     refine⟨t+1,by go_num,by omega,je.out.trans j2.out,?_⟩;rw[← Nat.add_assoc,← j5.out];exact j2.out.at jb.out(fun x=>x)
    exact jg.out
   |cons a r =>
    have js:(0:Int)<(r.length:Int)+1:=by omega
    go_wp2_with(first
     |(go_at_call 52;refine j9.out.mono ?_;rintro e w3⟨v8,rfl,hf3,ho8⟩;obtain⟨a8,c8,e8⟩:=z0d ho8;simp only[List.length_cons]at e8;subst e8;have jf:=hid ho8;have j2:=hid hf3;clear ho8 hf3 hWW))
    obtain⟨g8,c8',hv8⟩:=Q1d.ownsRow_form jf.out(by simp);rw[qI]at hv8;obtain⟨rfl,hx8,rfl⟩:=hv8;clear hx8;have d0:w3.cell?⟨g8,0,none⟩=some(.int .i64 a):=z4i jf.out 0(by simp);have j4:=j2.out.at jb.out(fun x=>x);have d1:w3.cell?⟨w2.heap.size,1+n*9+t,none⟩=some(.int .i64(((Q6c z(n*9+t)).set(n*9+t)(-1)).getD(n*9+t)0)):=by
     rw[Q0b j4,Nat.add_assoc,x9v(by omega)]
    have y1:=Q0h j4(1+n*9+t);have jm:=hid j4;generalize((Q6c z(n*9+t)).set(n*9+t)(-1)).getD(n*9+t)0=V1 at d1;clear j4;go_region;all_goals
     go_wp2;go_roundw
     case rel =>
      refine⟨t+1,by go_num,by omega,?_,?_⟩
      ·exact((je.out.trans j2.out).setCell(fun h=>absurd h(Nat.lt_irrefl _))_).drew
      rw[← Nat.add_assoc,← j5.out];show(w3.setCell _ _).heap[w2.heap.size]? = _;rw[zhs jm.out,Nat.add_assoc,x8x,jj.out];rfl
     exact jg.out
  have jw:t=9:=by omega
  have ju:¬((t:Int)<9):=by omega
  clear hfr hgb;go_wp2;go_roundw
  case rel=>exact⟨n+1,by go_num,by omega,jl.out,by rw[show(n+1)*9=n*9+t by omega];exact jq.out⟩
  exact jo.out
 have jn:n=8:=by omega
 subst jn;go_wp2;go_ret;exact⟨_,b,vh,rfl,j3.out.trans j7.out,ja.out,jk.out.fresh j7.out⟩
end Go.Proofs.YtcpceafmlgaodaaGreat
