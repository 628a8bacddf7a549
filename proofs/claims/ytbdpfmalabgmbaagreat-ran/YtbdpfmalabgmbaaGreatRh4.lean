import Derived.Test.YtbdpfmalabgmbaaGreatRf8
namespace Go.Proofs.YtbdpfmalabgmbaaGreat
open Go.RowKit
set_option maxRecDepth 99999
set_option maxHeartbeats 0
set_option linter.all false
def Q01(X:SP)(x:ZLV):SP :=
 if x.ln.rule=true then {X with rules:=X.rules++[x]}
 else {X with
  prods:=X.prods++[x]
  heads:=if Q1y X.heads x.ln.name<0 then X.heads++[x.ln.name] else X.heads
  head:=X.head++[if Q1y X.heads x.ln.name<0 then(X.heads.length:Int) else Q1y X.heads x.ln.name]}
def Q8f(X:SP)(x:ZLV):Bool:=decide (8<X.rules.length)||decide (20<X.prods.length)||decide (8<X.heads.length)||decide (6<x.ln.syms.length)
def Q1b(X:SP):List ZLV->SP × Int
 | []=>(X,-1)
 |x::l=>if Q8f (Q01 X x) x=true then(Q01 X x,x.pl) else Q1b (Q01 X x) l
def Q2m:SP:=⟨[],[],[],[]⟩
def ldZ(v:Value):Sem Value:=Instr.loadAt 113 v
theorem x6w(v:Value):Instr.loadAt 113 v=ldZ v:=rfl
theorem v0k{w:World}{g o:Nat}{r k:Bool}{nm pt:ByteArray}{vs vp:Value}{a:Int}(hr:w.rangeAt g o (zlL r k nm pt vs vp a)):(ldZ (.pointer (some ⟨g,o,none⟩))).run Tryz.prog w=.ok (.agg (zlA r k nm pt vs vp a)) w :=
 qFo w g o _ _ _ hr qCi rfl Q6c
structure SPbd(X:SP):Prop where
 rules:X.rules.length<=8
 prods:X.prods.length<=20
 heads:X.heads.length<=8
 head:X.head.length=X.prods.length
theorem x49{X:SP}{x:ZLV}(h:SPbd X)(ho:Q8f (Q01 X x) x=false):SPbd (Q01 X x):=by
 unfold Q8f at ho;simp only[qCb,qCe]at ho;refine⟨by omega,by omega,by omega,?_⟩;unfold Q01;split
 ·exact h.head
 have:=h.head;simp only[qP,qAj];omega
def SPX(w:World)(b:Nat)(X:SP)(sv:List Value):Prop:=∃v0 v1 v2 v3 v4,Q2f w b X v0 v1 v2 v3 v4 sv
theorem Q3n(w:World)(n:Nat):Q0a w (w.drewN n):=⟨rfl,rfl,rfl,qR _,fun _ _ _=>rfl⟩
theorem y0m{w w1 w2:World}{b:Nat}(h:Q0a w w1)(hu:UpZ b w1 w2)(hb:w.heap.size<=b):Q0a w w2 :=
 h.trans' hu (fun i hi hs=>by omega)
attribute [local go_sem ↓] z17 x6w
theorem y73(w:World)(B0:Nat)(v:Value)(xs:List ZLV)(hL:Q44 B0 w v xs)(hn:xs.length<=1000) :
  Calls Tryz.prog 41 #[v] w fun e w'=>e=.returned (.tuple #[.pointer (some ⟨w.heap.size,0,none⟩),.int .i64 (Q1b Q2m xs).2])/\SPX w' w.heap.size (Q1b Q2m xs).1 []/\Q0a w w':=by
 obtain⟨iz,ke,kf,kg,kh⟩:=infoZL';obtain⟨i0,x0,x3,x4,x6⟩:=Q8x;obtain⟨i1,kd,kl,km,kn⟩:=Q6z;have HL:=hid (fun w' (hf:Q0a w w')=>hL.kept hf (fun _ _ x=>x));obtain⟨ao,cap,hv⟩:=z0c hL.own;subst hv;generalize hR:Q1b Q2m xs=R;have HR:=hid hR;clear hL hR;go_enter Tryz.func41,Tryz.ntmps41
 go_wp2;go_loopw [5,6] (fun x5 _ wr=>∃(i:Nat) (X:SP),x5=.int .i64 i/\i<=xs.length/\Q1b X (xs.drop i)=R/\SPbd X/\SPX wr w.heap.size X []/\Q0a w wr)
   (fun x _ _=>1001-(intOf x).toNat)
 case atStart =>
  refine⟨0,Q2m,rfl,by omega,HR.out,⟨by simp[Q2m],by simp[Q2m],by simp[Q2m],by simp[Q2m]⟩,⟨.slice none 0 0,.slice none 0 0,.slice none 0 0,.slice none 0 0,.slice none 0 0,z0a _ _,?_,?_⟩,(mRf _ w).alloc _⟩
  ·intro i r hr;rcases i with _|_|_|_|_|i<;>simp[Q51,Q2m]at hr<;>subst hr<;>exact qAh _ _ _ _
  intro i j r r' k hi hj hk xg;exfalso;rcases i with _|_|_|_|_|i<;>simp[Q51,Q2m]at hi<;>subst hi<;>simp[Value.ownBlock]at hk
 obtain⟨i,X,rfl,hi,j5,kc,⟨v0,v1,v2,v3,v4,hX⟩,jz⟩:=hrel;clear HR;have HX:=hid hX;have HF:=hid jz;have jk:=hid (HL.out wr jz);have k8:=hid kc;obtain⟨kp,kq,kr,kt⟩:=kc;have ks:X.head.length<=20:=by omega
 clear kt;have xj:=hX.lt;have kv:Hid (1001-(intOf (.int .i64 ((i:Int)+1))).toNat<1001-(intOf (.int .i64 (i:Int))).toNat):=by unfold Hid;simp[intOf];omega
 by_cases jh:i<xs.length
 ·have x1:(i:Int)<(xs.length:Int):=by omega
  obtain⟨g,jl,hv⟩:=Joins.ownsRow_form jk.own (by omega);rw[qI]at hv;obtain⟨rfl,_,rfl⟩:=hv;have xe:=(jk.own.lt g rfl).2;rw[qC jh]at j5;have jw:=jk.each xs[i] (by simp);have k4:wr.rangeAt g (i*7) xs[i].cells:=jk.row.range i jh;have jg:=fun j hj=>jk.row.cell i j jh hj;generalize hx:xs[i]=x at j5 jw k4 jg;obtain⟨⟨xr,xk,xn,xp,j1,j2⟩,vs,vp,pl⟩:=x;obtain⟨so,sc,kk⟩:=z0c jw.syms;obtain⟨po,pc,kj⟩:=z0c jw.places;dsimp only at kk kj;subst kk kj;have c0:=jg 0 (by omega);have c2:=jg 2 (by omega);have c4:=jg 4 (by omega);have c6:=jg 6 (by omega);simp[ZLV.cells]at c0 c2 c4 c6;have lz:(ldZ (.pointer (some ⟨g,i*7,none⟩))).run Tryz.prog wr.drew=.ok (.agg (zlA xr xk xn xp (.slice so j1.length sc) (.slice po j2.length pc) pl)) wr.drew:=v0k k4;have j6:=hid j5;have k0:=Q2f.cell hX 0;have k1:=Q2f.cell hX 1;have k2:=Q2f.cell hX 2;have k3:=Q2f.cell hX 3;have f0:=Q2f.frozen hX 0;have f1:=Q2f.frozen hX 1;have f2:=Q2f.frozen hX 2;have f3:=Q2f.frozen hX 3;simp at k0 k1 k2 k3;obtain⟨a0,ka,jn⟩:=z0c (hX.own 0 _ rfl);obtain⟨a1,kb,jo⟩:=z0c (hX.own 1 _ rfl);obtain⟨a2,jr,jp⟩:=z0c (hX.own 2 _ rfl);obtain⟨a3,js,ki⟩:=z0c (hX.own 3 _ rfl);dsimp only at jn jo jp ki;subst jn jo jp ki;have HC:Hid (∀W,Q0a w W->W.cell? ⟨g,i*7+2,none⟩=some (.string xn)/\W.cell? ⟨g,i*7+4,none⟩=some (.slice so j1.length sc)/\W.cell? ⟨g,i*7+6,none⟩=some (.int .i64 pl)):=fun W hW=>by
   have h:=HL.out W hW;have d2:=h.row.cell i 2 jh (by omega);have d4:=h.row.cell i 4 jh (by omega);have d6:=h.row.cell i 6 jh (by omega);rw[hx]at d2 d4 d6;exact⟨d2,d4,d6⟩
  have xf:g<w.heap.size:=by
   have h:=HL.out w (mRf _ _);exact(h.own.lt g rfl).2
  clear j5 jw k4 jg hx hX jz HL;go_upto_if 19 with fail
  go_cut [6] (fun _ wx=>SPX wx w.heap.size (Q01 X ⟨⟨xr,xk,xn,xp,j1,j2⟩,.slice so j1.length sc,.slice po j2.length pc,pl⟩) []/\UpZ w.heap.size wr wx)
  case first =>
   cases xr
   ·generalize hfd:Q1y X.heads xn=fd;have FI:Hid (∀W,(∃X' v0 v1 v3 v4 sv,Q2f W w.heap.size X' v0 v1 (.slice a2 X.heads.length jr) v3 v4 sv/\X'.heads=X.heads)->Calls Tryz.prog 73 #[.slice a2 X.heads.length jr,.string xn] W fun e w'=>e=.returned (.int .i64 fd)/\w'=W):=fun W ⟨X',v0,v1,v3,v4,sv,h,e⟩=>by
     have:=h.own 2 _ rfl;rw[e]at this;rw[← hfd];exact z60 X.heads xn _ W (z7i this) (by omega)
    have jy:-1<=fd/\fd<=1000:=by
     rw[← hfd];unfold Q1y;split<;>omega
    have jq:Hid (Q01 X ⟨⟨false,xk,xn,xp,j1,j2⟩,.slice so j1.length sc,.slice po j2.length pc,pl⟩=⟨X.rules,X.prods++[⟨⟨false,xk,xn,xp,j1,j2⟩,.slice so j1.length sc,.slice po j2.length pc,pl⟩],if fd<0 then X.heads++[xn] else X.heads,X.head++[if fd<0 then(X.heads.length:Int) else fd]⟩):=by
     unfold Hid Q01;rw[qAa (by simp)];dsimp only;rw[hfd]
    clear hfd;obtain⟨kx,ky⟩:=jy;obtain⟨v',w2,j9,j3,j0,j4⟩:=z24 (P:=Tryz.prog) (wr.alloc (.cells (zlA false xk xn xp (.slice so j1.length sc) (.slice po j2.length pc) pl) 113)).drew (w.heap.size+1) 102 102 113 iz _ 7 96 Tryz.underlying102 ke kf kg kh rfl (by decide) (.slice a1 X.prods.length kb) X.prods.length (Q0y ZLV.cells X.prods) ((HX.own 1 _ rfl).alloc _) ⟨wr.heap.size,0,none⟩ 1 1 (zlL false xk xn xp (.slice so j1.length sc) (.slice po j2.length pc) pl) rfl (z0m rfl) (by intro u hu;exact(qCn.1 (z3h (r:=false) (k:=xk) (nm:=xn) (pt:=xp) (vs:=.slice so j1.length sc) (vp:=.slice po j2.length pc) (a:=pl) rfl rfl)) u (by simpa using hu)) (by unfold maxLen;omega) (by omega) (by simp[World.drew];omega);obtain⟨a',jl,jm⟩:=z0c j3;have j8:=HX.blk_grown (((mRf _ wr).alloc _).drew) (i:=1) rfl j0;have ju:w2.cell? ⟨w.heap.size,1,none⟩=some (.slice a1 X.prods.length kb):=Q0b j8 1;have jv:=Q0f j8 1;have jc:=hid j3;have jb:=hid j0;clear j3 j0 j8;subst jm;go_wp2_with fail
    go_region;all_goals
     obtain⟨h,U1⟩:=Q2f.add1 (x:=⟨⟨false,xk,xn,xp,j1,j2⟩,.slice so j1.length sc,.slice po j2.length pc,pl⟩) HX.out (((mRf _ wr).alloc _).drew) jc.out jb.out j4;have jf:=hid U1;have jt:=y0m HF.out U1 (qR _);clear U1 jc jb j4 HX k0 k1 k2 k3 f0 f1 f2 f3 c0 c2 c4 c6 lz j9;generalize hWW:w2.setCell _ _=W1 at h jf jt ⊢;clear hWW ju jv;have k2:=Q2f.cell h 2;simp at k2;obtain⟨c2,c4,c6⟩:=HC.out W1 jt;have x2:=h.lt;have H:=hid h;have k9:=hid jt;clear h jt;go_wp2_with fail
     go_quiet (first|(go_at_call 73;refine Calls.quiet_of_same (FI.out _ ?_);exact⟨_,_,_,_,_,_,H.fresh (Q3n _ _),rfl⟩));have h:=H.fresh (Q3n W1 nq);have ja:=k9.trans (Q3n W1 nq);have jx:=jf.trans ((Q3n W1 nq).mono (T:=fun k=>w.heap.size<=k) (fun _ _ x=>x.elim));generalize hWW:W1.drewN nq=W0 at h ja jx ⊢;clear hWW H k9 jf k2 x2 c2 c4 c6 FI;have HU:=hid jx;have xa:=hid ja;obtain⟨c2,c4,c6⟩:=HC.out W0 ja;have H:=hid h;have xh:=h.lt;have k2:=Q2f.cell h 2;have k3:=Q2f.cell h 3;have f2:=Q2f.frozen h 2;have f3:=Q2f.frozen h 3;simp at k2 k3;clear h ja jx;by_cases hf:fd<0
     ·have kw:fd=-1:=by omega
      have jd:Hid (Q01 X ⟨⟨false,xk,xn,xp,j1,j2⟩,.slice so j1.length sc,.slice po j2.length pc,pl⟩=⟨X.rules,X.prods++[⟨⟨false,xk,xn,xp,j1,j2⟩,.slice so j1.length sc,.slice po j2.length pc,pl⟩],X.heads++[xn],X.head++[(X.heads.length:Int)]⟩):=by
       unfold Hid;rw[jq.out,qAb hf,qAb hf]
      clear jq;subst kw;obtain⟨v9,w3,j9,j3,j0,j4⟩:=z24 (P:=Tryz.prog) (W0.alloc (.cells #[.string xn] 9)).drew (w.heap.size+1) 108 108 9 i0 _ 1 16 Tryz.underlying108 x0 x3 x4 x6 rfl (by decide) (.slice a2 X.heads.length jr) X.heads.length (Q98 X.heads) ((H.own 2 _ rfl).alloc _) ⟨W0.heap.size,0,none⟩ 1 1 [.string xn] rfl (z0m rfl) (by intro u hu;simp at hu;subst hu;rfl) (by unfold maxLen;omega) (by omega) (by simp[World.drew];omega);obtain⟨a9,ku,jm⟩:=z0c j3;have j8:=H.blk_grown (((mRf _ W0).alloc _).drew) (i:=2) rfl j0;have ju:w3.cell? ⟨w.heap.size,2,none⟩=some (.slice a2 X.heads.length jr):=Q0b j8 2;have jv:=Q0f j8 2;have jc:=hid j3;have jb:=hid j0;clear j3 j0 j8;subst jm;go_wp2_with fail
      go_region;all_goals
       obtain⟨h,U1⟩:=Q2f.add2 (x:=xn) H.out (((mRf _ W0).alloc _).drew) jc.out jb.out j4;have jf:=hid (HU.trans U1);clear U1 jc jb j4 H HU k2 k3 f2 f3 c2 c4 c6 j9;generalize hWW:w3.setCell _ _=W5 at h jf ⊢;clear hWW ju jv;have k3:=Q2f.cell h 3;have f3:=Q2f.frozen h 3;simp at k3;have xi:=h.lt;have H:=hid h;clear h;go_wp2_with (first
        |(at_builtin;refine z0f _ rfl _ _ 24 rfl (w.heap.size+1) 3 i1 _ 1 8 qDq kd kl km kn rfl (by decide) (.slice a3 X.head.length js) X.head.length (W0b X.head) rfl ((H.own 3 _ rfl).alloc _) ⟨W5.heap.size,0,none⟩ 1 1 [.int .i64 (X.heads.length:Int)] rfl rfl (z0m rfl) (by intro u hu;simp at hu;subst hu;rfl) (by unfold maxLen;omega) (by omega) (by simp;omega) ?_;intro v8 w6 j3 j0 j4;obtain⟨a8,c8,k5⟩:=z0c j3;have je:=H.blk_grown ((mRf _ W5).alloc _) (i:=3) rfl j0;have k6:w6.cell? ⟨w.heap.size,3,none⟩=some (.slice a3 X.head.length js):=Q0b je 3;have k7:=Q0f je 3;have ji:=hid (Q2f.add3 (x:=(X.heads.length:Int)) H.out ((mRf _ W5).alloc _) j3 j0 (by simpa using j4));clear j3 j0 j4 je;subst k5))
       go_meet;rw[jd.out];exact⟨⟨_,_,_,_,_,ji.1⟩,jf.trans ji.2⟩
     have kz:0<=fd:=by omega
     have jd:Hid (Q01 X ⟨⟨false,xk,xn,xp,j1,j2⟩,.slice so j1.length sc,.slice po j2.length pc,pl⟩=⟨X.rules,X.prods++[⟨⟨false,xk,xn,xp,j1,j2⟩,.slice so j1.length sc,.slice po j2.length pc,pl⟩],X.heads,X.head++[fd]⟩):=by
      unfold Hid;rw[jq.out,qAa hf,qAa hf]
     clear jq;go_wp2_with (first
      |(at_builtin;refine z0f _ rfl _ _ 24 rfl (w.heap.size+1) 3 i1 _ 1 8 qDq kd kl km kn rfl (by decide) (.slice a3 X.head.length js) X.head.length (W0b X.head) rfl ((H.own 3 _ rfl).alloc _) ⟨W0.heap.size,0,none⟩ 1 1 [.int .i64 fd] rfl rfl (z0m rfl) (by intro u hu;simp at hu;subst hu;rfl) (by unfold maxLen;omega) (by omega) (by simp;omega) ?_;intro v8 w6 j3 j0 j4;obtain⟨a8,c8,k5⟩:=z0c j3;have je:=H.blk_grown ((mRf _ W0).alloc _) (i:=3) rfl j0;have k6:w6.cell? ⟨w.heap.size,3,none⟩=some (.slice a3 X.head.length js):=Q0b je 3;have k7:=Q0f je 3;have ji:=hid (Q2f.add3 (x:=fd) H.out ((mRf _ W0).alloc _) j3 j0 (by simpa using j4));clear j3 j0 j4 je;subst k5))
     go_meet;rw[jd.out];exact⟨⟨_,_,_,_,_,ji.1⟩,HU.trans ji.2⟩
   obtain⟨v',w2,j9,j3,j0,j4⟩:=z24 (P:=Tryz.prog) (wr.alloc (.cells (zlA true xk xn xp (.slice so j1.length sc) (.slice po j2.length pc) pl) 113)).drew (w.heap.size+1) 102 102 113 iz _ 7 96 Tryz.underlying102 ke kf kg kh rfl (by decide) (.slice a0 X.rules.length ka) X.rules.length (Q0y ZLV.cells X.rules) ((HX.own 0 _ rfl).alloc _) ⟨wr.heap.size,0,none⟩ 1 1 (zlL true xk xn xp (.slice so j1.length sc) (.slice po j2.length pc) pl) rfl (z0m rfl) (by intro u hu;exact(qCn.1 (z3h (r:=true) (k:=xk) (nm:=xn) (pt:=xp) (vs:=.slice so j1.length sc) (vp:=.slice po j2.length pc) (a:=pl) rfl rfl)) u (by simpa using hu)) (by unfold maxLen;omega) (by omega) (by simp[World.drew];omega);obtain⟨a',jl,jm⟩:=z0c j3;have j8:=HX.blk_grown (((mRf _ wr).alloc _).drew) (i:=0) rfl j0;have ju:w2.cell? ⟨w.heap.size,0,none⟩=some (.slice a0 X.rules.length ka):=Q0b j8 0;have jv:=Q0f j8 0;have jc:=hid j3;have jb:=hid j0;clear j3 j0 j8;subst jm;go_wp2_with fail
   go_region;all_goals
    go_wp2_with fail
    go_meet;obtain⟨q1,q2⟩:=Q2f.add0 (x:=⟨⟨true,xk,xn,xp,j1,j2⟩,.slice so j1.length sc,.slice po j2.length pc,pl⟩) HX.out (((mRf _ wr).alloc _).drew) jc.out jb.out j4;exact⟨⟨_,_,_,_,_,q1⟩,q2⟩
  obtain⟨⟨xo,xq,xt,xu,xv,h⟩,hU⟩:=hcut;have ja:=y0m HF.out hU (qR _);have jj:=hid ja;have j7:Hid ((Q8f (Q01 X ⟨⟨xr,xk,xn,xp,j1,j2⟩,.slice so j1.length sc,.slice po j2.length pc,pl⟩) ⟨⟨xr,xk,xn,xp,j1,j2⟩,.slice so j1.length sc,.slice po j2.length pc,pl⟩=true->R=(Q01 X ⟨⟨xr,xk,xn,xp,j1,j2⟩,.slice so j1.length sc,.slice po j2.length pc,pl⟩,pl))/\(Q8f (Q01 X ⟨⟨xr,xk,xn,xp,j1,j2⟩,.slice so j1.length sc,.slice po j2.length pc,pl⟩) ⟨⟨xr,xk,xn,xp,j1,j2⟩,.slice so j1.length sc,.slice po j2.length pc,pl⟩=false->SPbd (Q01 X ⟨⟨xr,xk,xn,xp,j1,j2⟩,.slice so j1.length sc,.slice po j2.length pc,pl⟩)/\Q1b (Q01 X ⟨⟨xr,xk,xn,xp,j1,j2⟩,.slice so j1.length sc,.slice po j2.length pc,pl⟩) (xs.drop (i+1))=R)):=by
   refine⟨fun q=>?_,fun q=>⟨x49 k8.out q,?_⟩⟩
   ·have:=j6.out;rw[Q1b,qAb q]at this;exact this.symm
   have:=j6.out;rw[Q1b,qAa (by rw[q];simp)]at this;exact this
  clear j6 k8 kp kq kr ks HX k0 k1 k2 k3 f0 f1 f2 f3 c0 c2 c4 c6 lz hU;generalize Q01 X ⟨⟨xr,xk,xn,xp,j1,j2⟩,.slice so j1.length sc,.slice po j2.length pc,pl⟩=X2 at h j7;obtain⟨c2,c4,c6⟩:=HC.out wc ja;have k0:=Q2f.cell h 0;have k1:=Q2f.cell h 1;have k2:=Q2f.cell h 2;simp at k0 k1 k2;obtain⟨b0,xb,jn⟩:=z0c (h.own 0 _ rfl);obtain⟨b1,xc,jo⟩:=z0c (h.own 1 _ rfl);obtain⟨b2,xd,jp⟩:=z0c (h.own 2 _ rfl);dsimp only at jn jo jp;subst jn jo jp;have H:=hid h;have xl:=h.lt;clear h ja;unfold Q8f at j7;dsimp only at j7; -- the tests,one behind the other
  by_cases t0:8<X2.rules.length
  ·have ko:(8:Int)<(X2.rules.length:Int):=by omega
   have HR:=hid (j7.1 (by rw[qCj t0];rfl));clear j7;go_wp2_with fail
   go_quiet (fail);go_wp2;refine qAc (qEo rfl _ _ _) rfl ⟨?_,?_,jj.trans (Q3n _ _)⟩
   ·rw[HR.out];rfl
   rw[HR.out];exact⟨_,_,_,_,_,H.fresh (Q3n _ _)⟩
  have ko:¬(8:Int)<(X2.rules.length:Int):=by omega
  have xm:decide ((8:Int)<(X2.rules.length:Int))=false:=by simpa using ko
  by_cases t1:20<X2.prods.length
  ·have x7:(20:Int)<(X2.prods.length:Int):=by omega
   have HR:=hid (j7.1 (by rw[qCj t1];simp));clear j7;go_wp2_with fail
   go_quiet (fail);go_wp2;refine qAc (qEo rfl _ _ _) rfl ⟨?_,?_,jj.trans (Q3n _ _)⟩
   ·rw[HR.out];rfl
   rw[HR.out];exact⟨_,_,_,_,_,H.fresh (Q3n _ _)⟩
  have x7:¬(20:Int)<(X2.prods.length:Int):=by omega
  by_cases t2:8<X2.heads.length
  ·have x8:(8:Int)<(X2.heads.length:Int):=by omega
   have HR:=hid (j7.1 (by rw[qCj t2];simp));clear j7;go_wp2_with fail
   go_quiet (fail);go_wp2;refine qAc (qEo rfl _ _ _) rfl ⟨?_,?_,jj.trans (Q3n _ _)⟩
   ·rw[HR.out];rfl
   rw[HR.out];exact⟨_,_,_,_,_,H.fresh (Q3n _ _)⟩
  have x8:¬(8:Int)<(X2.heads.length:Int):=by omega
  by_cases t3:6<j1.length
  ·have x9:(6:Int)<(j1.length:Int):=by omega
   have HR:=hid (j7.1 (by rw[qCj t3];simp));clear j7;go_wp2_with fail
   go_quiet (fail);go_wp2;refine qAc (qEo rfl _ _ _) rfl ⟨?_,?_,jj.trans (Q3n _ _)⟩
   ·rw[HR.out];rfl
   rw[HR.out];exact⟨_,_,_,_,_,H.fresh (Q3n _ _)⟩
  have x9:¬(6:Int)<(j1.length:Int):=by omega
  have HR:=hid (j7.2 (by rw[qCa t0,qCa t1,qCa t2,qCa t3];rfl));clear j7;go_wp2;go_roundw
  case rel=>exact⟨i+1,X2,by go_num,by omega,HR.2,HR.1,⟨_,_,_,_,_,H.out⟩,jj.out⟩
  exact kv.out
 have x1:¬(i:Int)<(xs.length:Int):=by omega
 rw[qAp (by omega)]at j5;have j6:=hid j5;clear j5;go_wp2;refine qAc (qEo rfl _ _ _) rfl ⟨?_,?_,HF.out⟩
 ·rw[← j6.out];rfl
 rw[← j6.out];exact⟨_,_,_,_,_,HX.out⟩
end Go.Proofs.YtbdpfmalabgmbaaGreat
