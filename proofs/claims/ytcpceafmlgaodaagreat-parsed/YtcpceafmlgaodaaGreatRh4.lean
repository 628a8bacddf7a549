import Derived.Test.YtcpceafmlgaodaaGreatRh1
namespace Go.Proofs.YtcpceafmlgaodaaGreat
open Go.RowKit
set_option maxRecDepth 99999
set_option maxHeartbeats 0
set_option linter.all false
def Q0y(X:SP)(x:ZLV):SP :=
 if x.ln.rule=true then {X with rules:=X.rules++[x]}
 else {X with
  prods:=X.prods++[x]
  heads:=if Q1v X.heads x.ln.name<0 then X.heads++[x.ln.name] else X.heads
  head:=X.head++[if Q1v X.heads x.ln.name<0 then(X.heads.length:Int) else Q1v X.heads x.ln.name]}
def Q73(X:SP)(x:ZLV):Bool:=decide (8<X.rules.length)||decide (20<X.prods.length)||decide (8<X.heads.length)||decide (6<x.ln.syms.length)
def Q1h(X:SP):List ZLV->SP × Int
 | []=>(X,-1)
 |x::l=>if Q73 (Q0y X x) x=true then(Q0y X x,x.pl) else Q1h (Q0y X x) l
def Q2t:SP:=⟨[],[],[],[]⟩
def ldZ(v:Value):Sem Value:=Instr.loadAt 85 v
theorem x6f(v:Value):Instr.loadAt 85 v=ldZ v:=rfl
theorem x9t{w:World}{g o:Nat}{r k:Bool}{nm pt:ByteArray}{vs vp:Value}{a:Int}(hr:w.rangeAt g o (zlL r k nm pt vs vp a)):(ldZ (.pointer (some ⟨g,o,none⟩))).run Tryz.prog w=.ok (.agg (zlA r k nm pt vs vp a)) w :=
 run_loadAt_mid w g o _ _ _ hr Tryz.underlying85 rfl Q52
structure SPbd(X:SP):Prop where
 rules:X.rules.length<=8
 prods:X.prods.length<=20
 heads:X.heads.length<=8
 head:X.head.length=X.prods.length
theorem x4s{X:SP}{x:ZLV}(h:SPbd X)(ho:Q73 (Q0y X x) x=false):SPbd (Q0y X x):=by
 unfold Q73 at ho;simp only[qBm,qBr]at ho;refine⟨by omega,by omega,by omega,?_⟩;unfold Q0y;split
 ·exact h.head
 have:=h.head;simp only[qP,qAf];omega
def SPX(w:World)(b:Nat)(X:SP)(sv:List Value):Prop:=∃v0 v1 v2 v3 v4,Q2q w b X v0 v1 v2 v3 v4 sv
theorem Q4l(w:World)(n:Nat):Q0a w (w.drewN n):=⟨rfl,rfl,rfl,qR _,fun _ _ _=>rfl⟩
theorem z96{w w1 w2:World}{b:Nat}(h:Q0a w w1)(hu:UpZ b w1 w2)(hb:w.heap.size<=b):Q0a w w2 :=
 h.trans' hu (fun i hi hs=>by omega)
attribute [local go_sem ↓] z13 x6f
theorem y7l(w:World)(B0:Nat)(v:Value)(xs:List ZLV)(hL:Q4x B0 w v xs)(hn:xs.length<=1000) :
  Calls Tryz.prog 28 #[v] w fun e w'=>e=.returned (.tuple #[.pointer (some ⟨w.heap.size,0,none⟩),.int .i64 (Q1h Q2t xs).2])/\SPX w' w.heap.size (Q1h Q2t xs).1 []/\Q0a w w':=by
 obtain⟨iz,hiz,hq0,hq1,hq2⟩:=infoZL';obtain⟨i0,hi0,hz0,hz1,hz2⟩:=Q8j;obtain⟨i1,hi1,hy0,hy1,hy2⟩:=Q6o;have HL:=hid (fun w' (hf:Q0a w w')=>hL.kept hf (fun _ _ x=>x));obtain⟨ao,cap,hv⟩:=z0d hL.own;subst hv;generalize hR:Q1h Q2t xs=R;have HR:=hid hR;clear hL hR;go_enter Tryz.func28,Tryz.ntmps28
 go_wp2;go_loopw [5,6] (fun x5 _ wr=>∃(i:Nat) (X:SP),x5=.int .i64 i/\i<=xs.length/\Q1h X (xs.drop i)=R/\SPbd X/\SPX wr w.heap.size X []/\Q0a w wr)
   (fun x _ _=>1001-(intOf x).toNat)
 case atStart =>
  refine⟨0,Q2t,rfl,by omega,HR.out,⟨by simp[Q2t],by simp[Q2t],by simp[Q2t],by simp[Q2t]⟩,⟨.slice none 0 0,.slice none 0 0,.slice none 0 0,.slice none 0 0,.slice none 0 0,z0a _ _,?_,?_⟩,(mRf _ w).alloc _⟩
  ·intro i r hr;rcases i with _|_|_|_|_|i<;>simp[Q5q,Q2t]at hr<;>subst hr<;>exact World.ownsRow_nil _ _ _ _
  intro i j r r' k hi hj hk hk';exfalso;rcases i with _|_|_|_|_|i<;>simp[Q5q,Q2t]at hi<;>subst hi<;>simp[Value.ownBlock]at hk
 obtain⟨i,X,rfl,hi,hrec,hbd,⟨v0,v1,v2,v3,v4,hX⟩,hfr⟩:=hrel;clear HR;have HX:=hid hX;have HF:=hid hfr;have jc:=hid (HL.out wr hfr);have jl:=hid hbd;obtain⟨bd0,bd1,bd2,bdh⟩:=hbd;have jo:X.head.length<=20:=by omega
 clear bdh;have k8:=hX.lt;have jp:Hid (1001-(intOf (.int .i64 ((i:Int)+1))).toNat<1001-(intOf (.int .i64 (i:Int))).toNat):=by unfold Hid;simp[intOf];omega
 by_cases hlt:i<xs.length
 ·have js:(i:Int)<(xs.length:Int):=by omega
  obtain⟨g,cap',hv⟩:=Joins.ownsRow_form jc.own (by omega);rw[qI]at hv;obtain⟨rfl,_,rfl⟩:=hv;have jy:=(jc.own.lt g rfl).2;rw[qC hlt]at hrec;have jh:=jc.each xs[i] (by simp);have jk:wr.rangeAt g (i*7) xs[i].cells:=jc.row.range i hlt;have j9:=fun j hj=>jc.row.cell i j hlt hj;generalize hx:xs[i]=x at hrec jh jk j9;obtain⟨⟨xr,xk,xn,xp,xsy,xpl⟩,vs,vp,pl⟩:=x;obtain⟨so,sc,hvs⟩:=z0d jh.syms;obtain⟨po,pc,hvp⟩:=z0d jh.places;dsimp only at hvs hvp;subst hvs hvp;have c0:=j9 0 (by omega);have c2:=j9 2 (by omega);have c4:=j9 4 (by omega);have c6:=j9 6 (by omega);simp[ZLV.cells]at c0 c2 c4 c6;have lz:(ldZ (.pointer (some ⟨g,i*7,none⟩))).run Tryz.prog wr.drew=.ok (.agg (zlA xr xk xn xp (.slice so xsy.length sc) (.slice po xpl.length pc) pl)) wr.drew:=x9t jk;have j0:=hid hrec;have k0:=Q2q.cell hX 0;have k1:=Q2q.cell hX 1;have k2:=Q2q.cell hX 2;have k3:=Q2q.cell hX 3;have f0:=Q2q.frozen hX 0;have f1:=Q2q.frozen hX 1;have f2:=Q2q.frozen hX 2;have f3:=Q2q.frozen hX 3;simp at k0 k1 k2 k3;obtain⟨a0,cp0,hv0⟩:=z0d (hX.own 0 _ rfl);obtain⟨a1,cp1,hv1⟩:=z0d (hX.own 1 _ rfl);obtain⟨a2,cp2,hv2⟩:=z0d (hX.own 2 _ rfl);obtain⟨a3,cp3,hv3⟩:=z0d (hX.own 3 _ rfl);dsimp only at hv0 hv1 hv2 hv3;subst hv0 hv1 hv2 hv3;have HC:Hid (∀W,Q0a w W->W.cell? ⟨g,i*7+2,none⟩=some (.string xn)/\W.cell? ⟨g,i*7+4,none⟩=some (.slice so xsy.length sc)/\W.cell? ⟨g,i*7+6,none⟩=some (.int .i64 pl)):=fun W hW=>by
   have h:=HL.out W hW;have d2:=h.row.cell i 2 hlt (by omega);have d4:=h.row.cell i 4 hlt (by omega);have d6:=h.row.cell i 6 hlt (by omega);rw[hx]at d2 d4 d6;exact⟨d2,d4,d6⟩
  have jz:g<w.heap.size:=by
   have h:=HL.out w (mRf _ _);exact(h.own.lt g rfl).2
  clear hrec jh jk j9 hx hX hfr HL;go_upto_if 19 with fail
  go_cut [6] (fun _ wx=>SPX wx w.heap.size (Q0y X ⟨⟨xr,xk,xn,xp,xsy,xpl⟩,.slice so xsy.length sc,.slice po xpl.length pc,pl⟩) []/\UpZ w.heap.size wr wx)
  case first =>
   cases xr
   ·generalize hfd:Q1v X.heads xn=fd;have FI:Hid (∀W,(∃X' v0 v1 v3 v4 sv,Q2q W w.heap.size X' v0 v1 (.slice a2 X.heads.length cp2) v3 v4 sv/\X'.heads=X.heads)->Calls Tryz.prog 62 #[.slice a2 X.heads.length cp2,.string xn] W fun e w'=>e=.returned (.int .i64 fd)/\w'=W):=fun W ⟨X',v0,v1,v3,v4,sv,h,e⟩=>by
     have:=h.own 2 _ rfl;rw[e]at this;rw[← hfd];exact z6r X.heads xn _ W (z69 this) (by omega)
    have jj:-1<=fd/\fd<=1000:=by
     rw[← hfd];unfold Q1v;split<;>omega
    have jd:Hid (Q0y X ⟨⟨false,xk,xn,xp,xsy,xpl⟩,.slice so xsy.length sc,.slice po xpl.length pc,pl⟩=⟨X.rules,X.prods++[⟨⟨false,xk,xn,xp,xsy,xpl⟩,.slice so xsy.length sc,.slice po xpl.length pc,pl⟩],if fd<0 then X.heads++[xn] else X.heads,X.head++[if fd<0 then(X.heads.length:Int) else fd]⟩):=by
     unfold Hid Q0y;rw[qAa (by simp)];dsimp only;rw[hfd]
    clear hfd;obtain⟨hfd1,hfd2⟩:=jj;obtain⟨v',w2,hrun,hown,hgrow,hblk⟩:=z2y (P:=Tryz.prog) (wr.alloc (.cells (zlA false xk xn xp (.slice so xsy.length sc) (.slice po xpl.length pc) pl) 85)).drew (w.heap.size+1) 50 50 85 iz _ 7 96 Tryz.underlying50 hiz hq0 hq1 hq2 rfl (by decide) (.slice a1 X.prods.length cp1) X.prods.length (Q00 ZLV.cells X.prods) ((HX.own 1 _ rfl).alloc _) ⟨wr.heap.size,0,none⟩ 1 1 (zlL false xk xn xp (.slice so xsy.length sc) (.slice po xpl.length pc) pl) rfl (z0l rfl) (by intro u hu;exact(qCa.1 (z3b (r:=false) (k:=xk) (nm:=xn) (pt:=xp) (vs:=.slice so xsy.length sc) (vp:=.slice po xpl.length pc) (a:=pl) rfl rfl)) u (by simpa using hu)) (by unfold maxLen;omega) (by omega) (by simp[World.drew];omega);obtain⟨a',cap',hv'⟩:=z0d hown;have j2:=HX.blk_grown (((mRf _ wr).alloc _).drew) (i:=1) rfl hgrow;have jf:w2.cell? ⟨w.heap.size,1,none⟩=some (.slice a1 X.prods.length cp1):=Q0b j2 1;have jg:=Q0g j2 1;have j5:=hid hown;have j4:=hid hgrow;clear hown hgrow j2;subst hv';go_wp2_with fail
    go_region;all_goals
     obtain⟨h,U1⟩:=Q2q.add1 (x:=⟨⟨false,xk,xn,xp,xsy,xpl⟩,.slice so xsy.length sc,.slice po xpl.length pc,pl⟩) HX.out (((mRf _ wr).alloc _).drew) j5.out j4.out hblk;have j8:=hid U1;have je:=z96 HF.out U1 (qR _);clear U1 j5 j4 hblk HX k0 k1 k2 k3 f0 f1 f2 f3 c0 c2 c4 c6 lz hrun;generalize hWW:w2.setCell _ _=W1 at h j8 je ⊢;clear hWW jf jg;have k2:=Q2q.cell h 2;simp at k2;obtain⟨c2,c4,c6⟩:=HC.out W1 je;have jt:=h.lt;have H:=hid h;have jm:=hid je;clear h je;go_wp2_with fail
     go_quiet (first|(go_at_call 62;refine Calls.quiet_of_same (FI.out _ ?_);exact⟨_,_,_,_,_,_,H.fresh (Q4l _ _),rfl⟩));have h:=H.fresh (Q4l W1 nq);have j3:=jm.trans (Q4l W1 nq);have ji:=j8.trans ((Q4l W1 nq).mono (T:=fun k=>w.heap.size<=k) (fun _ _ x=>x.elim));generalize hWW:W1.drewN nq=W0 at h j3 ji ⊢;clear hWW H jm j8 k2 jt c2 c4 c6 FI;have HU:=hid ji;have jx:=hid j3;obtain⟨c2,c4,c6⟩:=HC.out W0 j3;have H:=hid h;have k4:=h.lt;have k2:=Q2q.cell h 2;have k3:=Q2q.cell h 3;have f2:=Q2q.frozen h 2;have f3:=Q2q.frozen h 3;simp at k2 k3;clear h j3 ji;by_cases hf:fd<0
     ·have jq:fd=-1:=by omega
      have j6:Hid (Q0y X ⟨⟨false,xk,xn,xp,xsy,xpl⟩,.slice so xsy.length sc,.slice po xpl.length pc,pl⟩=⟨X.rules,X.prods++[⟨⟨false,xk,xn,xp,xsy,xpl⟩,.slice so xsy.length sc,.slice po xpl.length pc,pl⟩],X.heads++[xn],X.head++[(X.heads.length:Int)]⟩):=by
       unfold Hid;rw[jd.out,qAb hf,qAb hf]
      clear jd;subst jq;obtain⟨v9,w3,hrun,hown,hgrow,hblk⟩:=z2y (P:=Tryz.prog) (W0.alloc (.cells #[.string xn] 9)).drew (w.heap.size+1) 51 51 9 i0 _ 1 16 Tryz.underlying51 hi0 hz0 hz1 hz2 rfl (by decide) (.slice a2 X.heads.length cp2) X.heads.length (Q9t X.heads) ((H.own 2 _ rfl).alloc _) ⟨W0.heap.size,0,none⟩ 1 1 [.string xn] rfl (z0l rfl) (by intro u hu;simp at hu;subst hu;rfl) (by unfold maxLen;omega) (by omega) (by simp[World.drew];omega);obtain⟨a9,cap9,hv'⟩:=z0d hown;have j2:=H.blk_grown (((mRf _ W0).alloc _).drew) (i:=2) rfl hgrow;have jf:w3.cell? ⟨w.heap.size,2,none⟩=some (.slice a2 X.heads.length cp2):=Q0b j2 2;have jg:=Q0g j2 2;have j5:=hid hown;have j4:=hid hgrow;clear hown hgrow j2;subst hv';go_wp2_with fail
      go_region;all_goals
       obtain⟨h,U1⟩:=Q2q.add2 (x:=xn) H.out (((mRf _ W0).alloc _).drew) j5.out j4.out hblk;have j8:=hid (HU.trans U1);clear U1 j5 j4 hblk H HU k2 k3 f2 f3 c2 c4 c6 hrun;generalize hWW:w3.setCell _ _=W5 at h j8 ⊢;clear hWW jf jg;have k3:=Q2q.cell h 3;have f3:=Q2q.frozen h 3;simp at k3;have k5:=h.lt;have H:=hid h;clear h;go_wp2_with (first
        |(at_builtin;refine z0g _ rfl _ _ 22 rfl (w.heap.size+1) 3 i1 _ 1 8 Tryz.underlying22 hi1 hy0 hy1 hy2 rfl (by decide) (.slice a3 X.head.length cp3) X.head.length (Q9w X.head) rfl ((H.own 3 _ rfl).alloc _) ⟨W5.heap.size,0,none⟩ 1 1 [.int .i64 (X.heads.length:Int)] rfl rfl (z0l rfl) (by intro u hu;simp at hu;subst hu;rfl) (by unfold maxLen;omega) (by omega) (by simp;omega) ?_;intro v8 w6 hown hgrow hblk;obtain⟨a8,c8,hv8⟩:=z0d hown;have j7:=H.blk_grown ((mRf _ W5).alloc _) (i:=3) rfl hgrow;have k6:w6.cell? ⟨w.heap.size,3,none⟩=some (.slice a3 X.head.length cp3):=Q0b j7 3;have k7:=Q0g j7 3;have ja:=hid (Q2q.add3 (x:=(X.heads.length:Int)) H.out ((mRf _ W5).alloc _) hown hgrow (by simpa using hblk));clear hown hgrow hblk j7;subst hv8))
       go_meet;rw[j6.out];exact⟨⟨_,_,_,_,_,ja.1⟩,j8.trans ja.2⟩
     have jr:0<=fd:=by omega
     have j6:Hid (Q0y X ⟨⟨false,xk,xn,xp,xsy,xpl⟩,.slice so xsy.length sc,.slice po xpl.length pc,pl⟩=⟨X.rules,X.prods++[⟨⟨false,xk,xn,xp,xsy,xpl⟩,.slice so xsy.length sc,.slice po xpl.length pc,pl⟩],X.heads,X.head++[fd]⟩):=by
      unfold Hid;rw[jd.out,qAa hf,qAa hf]
     clear jd;go_wp2_with (first
      |(at_builtin;refine z0g _ rfl _ _ 22 rfl (w.heap.size+1) 3 i1 _ 1 8 Tryz.underlying22 hi1 hy0 hy1 hy2 rfl (by decide) (.slice a3 X.head.length cp3) X.head.length (Q9w X.head) rfl ((H.own 3 _ rfl).alloc _) ⟨W0.heap.size,0,none⟩ 1 1 [.int .i64 fd] rfl rfl (z0l rfl) (by intro u hu;simp at hu;subst hu;rfl) (by unfold maxLen;omega) (by omega) (by simp;omega) ?_;intro v8 w6 hown hgrow hblk;obtain⟨a8,c8,hv8⟩:=z0d hown;have j7:=H.blk_grown ((mRf _ W0).alloc _) (i:=3) rfl hgrow;have k6:w6.cell? ⟨w.heap.size,3,none⟩=some (.slice a3 X.head.length cp3):=Q0b j7 3;have k7:=Q0g j7 3;have ja:=hid (Q2q.add3 (x:=fd) H.out ((mRf _ W0).alloc _) hown hgrow (by simpa using hblk));clear hown hgrow hblk j7;subst hv8))
     go_meet;rw[j6.out];exact⟨⟨_,_,_,_,_,ja.1⟩,HU.trans ja.2⟩
   obtain⟨v',w2,hrun,hown,hgrow,hblk⟩:=z2y (P:=Tryz.prog) (wr.alloc (.cells (zlA true xk xn xp (.slice so xsy.length sc) (.slice po xpl.length pc) pl) 85)).drew (w.heap.size+1) 50 50 85 iz _ 7 96 Tryz.underlying50 hiz hq0 hq1 hq2 rfl (by decide) (.slice a0 X.rules.length cp0) X.rules.length (Q00 ZLV.cells X.rules) ((HX.own 0 _ rfl).alloc _) ⟨wr.heap.size,0,none⟩ 1 1 (zlL true xk xn xp (.slice so xsy.length sc) (.slice po xpl.length pc) pl) rfl (z0l rfl) (by intro u hu;exact(qCa.1 (z3b (r:=true) (k:=xk) (nm:=xn) (pt:=xp) (vs:=.slice so xsy.length sc) (vp:=.slice po xpl.length pc) (a:=pl) rfl rfl)) u (by simpa using hu)) (by unfold maxLen;omega) (by omega) (by simp[World.drew];omega);obtain⟨a',cap',hv'⟩:=z0d hown;have j2:=HX.blk_grown (((mRf _ wr).alloc _).drew) (i:=0) rfl hgrow;have jf:w2.cell? ⟨w.heap.size,0,none⟩=some (.slice a0 X.rules.length cp0):=Q0b j2 0;have jg:=Q0g j2 0;have j5:=hid hown;have j4:=hid hgrow;clear hown hgrow j2;subst hv';go_wp2_with fail
   go_region;all_goals
    go_wp2_with fail
    go_meet;obtain⟨q1,q2⟩:=Q2q.add0 (x:=⟨⟨true,xk,xn,xp,xsy,xpl⟩,.slice so xsy.length sc,.slice po xpl.length pc,pl⟩) HX.out (((mRf _ wr).alloc _).drew) j5.out j4.out hblk;exact⟨⟨_,_,_,_,_,q1⟩,q2⟩
  obtain⟨⟨u0',u1',u2',u3',u4',h⟩,hU⟩:=hcut;have j3:=z96 HF.out hU (qR _);have jb:=hid j3;have j1:Hid ((Q73 (Q0y X ⟨⟨xr,xk,xn,xp,xsy,xpl⟩,.slice so xsy.length sc,.slice po xpl.length pc,pl⟩) ⟨⟨xr,xk,xn,xp,xsy,xpl⟩,.slice so xsy.length sc,.slice po xpl.length pc,pl⟩=true->R=(Q0y X ⟨⟨xr,xk,xn,xp,xsy,xpl⟩,.slice so xsy.length sc,.slice po xpl.length pc,pl⟩,pl))/\(Q73 (Q0y X ⟨⟨xr,xk,xn,xp,xsy,xpl⟩,.slice so xsy.length sc,.slice po xpl.length pc,pl⟩) ⟨⟨xr,xk,xn,xp,xsy,xpl⟩,.slice so xsy.length sc,.slice po xpl.length pc,pl⟩=false->SPbd (Q0y X ⟨⟨xr,xk,xn,xp,xsy,xpl⟩,.slice so xsy.length sc,.slice po xpl.length pc,pl⟩)/\Q1h (Q0y X ⟨⟨xr,xk,xn,xp,xsy,xpl⟩,.slice so xsy.length sc,.slice po xpl.length pc,pl⟩) (xs.drop (i+1))=R)):=by
   refine⟨fun q=>?_,fun q=>⟨x4s jl.out q,?_⟩⟩
   ·have:=j0.out;rw[Q1h,qAb q]at this;exact this.symm
   have:=j0.out;rw[Q1h,qAa (by rw[q];simp)]at this;exact this
  clear j0 jl bd0 bd1 bd2 jo HX k0 k1 k2 k3 f0 f1 f2 f3 c0 c2 c4 c6 lz hU;generalize Q0y X ⟨⟨xr,xk,xn,xp,xsy,xpl⟩,.slice so xsy.length sc,.slice po xpl.length pc,pl⟩=X2 at h j1;obtain⟨c2,c4,c6⟩:=HC.out wc j3;have k0:=Q2q.cell h 0;have k1:=Q2q.cell h 1;have k2:=Q2q.cell h 2;simp at k0 k1 k2;obtain⟨b0,cq0,hv0⟩:=z0d (h.own 0 _ rfl);obtain⟨b1,cq1,hv1⟩:=z0d (h.own 1 _ rfl);obtain⟨b2,cq2,hv2⟩:=z0d (h.own 2 _ rfl);dsimp only at hv0 hv1 hv2;subst hv0 hv1 hv2;have H:=hid h;have k9:=h.lt;clear h j3;unfold Q73 at j1;dsimp only at j1; -- the tests,one behind the other
  by_cases t0:8<X2.rules.length
  ·have jn:(8:Int)<(X2.rules.length:Int):=by omega
   have HR:=hid (j1.1 (by rw[qBl t0];rfl));clear j1;go_wp2_with fail
   go_quiet (fail);go_wp2;refine bodyPost_ret (results_tmp2 rfl _ _ _) rfl ⟨?_,?_,jb.trans (Q4l _ _)⟩
   ·rw[HR.out];rfl
   rw[HR.out];exact⟨_,_,_,_,_,H.fresh (Q4l _ _)⟩
  have jn:¬(8:Int)<(X2.rules.length:Int):=by omega
  have ka:decide ((8:Int)<(X2.rules.length:Int))=false:=by simpa using jn
  by_cases t1:20<X2.prods.length
  ·have ju:(20:Int)<(X2.prods.length:Int):=by omega
   have HR:=hid (j1.1 (by rw[qBl t1];simp));clear j1;go_wp2_with fail
   go_quiet (fail);go_wp2;refine bodyPost_ret (results_tmp2 rfl _ _ _) rfl ⟨?_,?_,jb.trans (Q4l _ _)⟩
   ·rw[HR.out];rfl
   rw[HR.out];exact⟨_,_,_,_,_,H.fresh (Q4l _ _)⟩
  have ju:¬(20:Int)<(X2.prods.length:Int):=by omega
  by_cases t2:8<X2.heads.length
  ·have jv:(8:Int)<(X2.heads.length:Int):=by omega
   have HR:=hid (j1.1 (by rw[qBl t2];simp));clear j1;go_wp2_with fail
   go_quiet (fail);go_wp2;refine bodyPost_ret (results_tmp2 rfl _ _ _) rfl ⟨?_,?_,jb.trans (Q4l _ _)⟩
   ·rw[HR.out];rfl
   rw[HR.out];exact⟨_,_,_,_,_,H.fresh (Q4l _ _)⟩
  have jv:¬(8:Int)<(X2.heads.length:Int):=by omega
  by_cases t3:6<xsy.length
  ·have jw:(6:Int)<(xsy.length:Int):=by omega
   have HR:=hid (j1.1 (by rw[qBl t3];simp));clear j1;go_wp2_with fail
   go_quiet (fail);go_wp2;refine bodyPost_ret (results_tmp2 rfl _ _ _) rfl ⟨?_,?_,jb.trans (Q4l _ _)⟩
   ·rw[HR.out];rfl
   rw[HR.out];exact⟨_,_,_,_,_,H.fresh (Q4l _ _)⟩
  have jw:¬(6:Int)<(xsy.length:Int):=by omega
  have HR:=hid (j1.2 (by rw[qBh t0,qBh t1,qBh t2,qBh t3];rfl));clear j1;go_wp2;go_roundw
  case rel=>exact⟨i+1,X2,by go_num,by omega,HR.2,HR.1,⟨_,_,_,_,_,H.out⟩,jb.out⟩
  exact jp.out
 have js:¬(i:Int)<(xs.length:Int):=by omega
 rw[qAi (by omega)]at hrec;have j0:=hid hrec;clear hrec;go_wp2;refine bodyPost_ret (results_tmp2 rfl _ _ _) rfl ⟨?_,?_,HF.out⟩
 ·rw[← j0.out];rfl
 rw[← j0.out];exact⟨_,_,_,_,_,HX.out⟩
end Go.Proofs.YtcpceafmlgaodaaGreat
