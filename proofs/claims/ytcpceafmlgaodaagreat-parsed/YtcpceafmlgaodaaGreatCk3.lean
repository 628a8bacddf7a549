import Derived.Test.YtcpceafmlgaodaaGreatSh7
namespace Go.Proofs.YtcpceafmlgaodaaGreat
open Go.RowKit
set_option maxRecDepth 99999
set_option maxHeartbeats 0
set_option linter.all false
def FB(x:LV):Prop:=0<=x.ln.front.ls.getD 0 0/\x.ln.front.ls.getD 0 0<=255
def Q07(x:Ln):Bool:=!Q14 x.front
def Q2z(lns:List Ln)(i:Nat):Nat:=((lns.take i).filter Q07).length
def Q2y(lns:List Ln)(i:Nat):Nat:=((lns.take i).filter (fun x=>!Q07 x)).length
def Q3d(lns:List Ln):Nat->Nat
 |0=>0
 |i+1=>Q3d lns i+(match lns[i]? with|some x=>if Q07 x||Q24 lns i then 0 else 1|none=>0)
def Q7l(lns:List Ln)(i:Nat)(x:Ln):Bool:=decide (8<Q2z lns (i+1))||decide (20<Q2y lns (i+1))||decide (8<Q3d lns (i+1))||decide (6<x.syms.length)
def Q4i(lns:List Ln):Nat->Nat->Int
 |0,_=>-1
 |f+1,i=>match lns[i]? with|some x=>if Q7l lns i x then x.front.place else Q4i lns f (i+1)|none=>-1
def Q3q(lns:List Ln):Int:=Q4i lns (lns.length+1) 0
theorem z4g(lns:List Ln)(i:Nat)(hi:i<lns.length):Q2z lns (i+1)=Q2z lns i+if Q07 lns[i] then 1 else 0:=by
 unfold Q2z;rw[qCc,qBu,qP,qE hi];cases h:Q07 lns[i]<;>simp[qAj,h]
theorem z4f(lns:List Ln)(i:Nat)(hi:i<lns.length):Q2y lns (i+1)=Q2y lns i+if Q07 lns[i] then 0 else 1:=by
 unfold Q2y;rw[qCc,qBu,qP,qE hi];cases h:Q07 lns[i]<;>simp[qAj,h]
theorem z3c(lns:List Ln)(i:Nat)(hi:i<lns.length):Q3d lns (i+1)=Q3d lns i+if Q07 lns[i]||Q24 lns i then 0 else 1:=by
 rw[Q3d,qE hi]
theorem v08(lns:List Ln)(i:Nat)(hi:i<=lns.length):Q2z lns i<=i/\Q2y lns i<=i/\Q3d lns i<=i:=by
 induction i with
 |zero=>simp[Q2z,Q2y,Q3d]
 |succ i ih =>
  have:=ih (by omega);rw[z4g _ _ (by omega),z4f _ _ (by omega),z3c _ _ (by omega)];refine⟨?_,?_,?_⟩<;>split<;>omega
theorem z3p(w:World)(v:Value)(xs:List LV)(hL:Q1s w v xs)(hn:xs.length<=1000)(hfb:∀x∈xs,FB x) :
  Calls Tryz.prog 42 #[v] w fun e w'=>e=.returned (.int .i64 (Q3q (xs.map LV.ln)))/\Q0a w w':=by
 obtain⟨ao,cap,hv⟩:=z0d hL.own;subst hv;have HL:=hid hL;have j8:=hid hfb;generalize hR:Q3q (xs.map LV.ln)=R;have HR:Hid (Q4i (xs.map LV.ln) ((xs.map LV.ln).length+1) 0=R):=hR;clear hL hfb hR;go_enter Tryz.func42,Tryz.ntmps42
 go_wp2;go_loopw [3,4,5,10] (fun x3 x4 x5 x10 wr=>∃(f i:Nat),(x3=.int .i64 (Q2z (xs.map LV.ln) i)/\x4=.int .i64 (Q2y (xs.map LV.ln) i)/\x5=.int .i64 (Q3d (xs.map LV.ln) i)/\x10=.int .i64 i)/\Q4i (xs.map LV.ln) f i=R/\xs.length+1<=f+i/\i<=xs.length/\Q0a w wr)
   (fun _ _ _ x _=>1001-(intOf x).toNat)
 case atStart=>exact⟨_,0,⟨rfl,rfl,rfl,rfl⟩,HR.out,by simp,by omega,mRf _ _⟩
 obtain⟨f,i,⟨rfl,rfl,rfl,rfl⟩,hR,hfu,hi,hfr⟩:=hrel;obtain⟨f,rfl⟩:∃g,f=g+1:=⟨f-1,by omega⟩;unfold Q4i at hR;have j7:=hid (Q15 (B:=1001) i (by omega));by_cases hlt:i<xs.length
 ·have j3:i<(xs.map LV.ln).length:=by simpa using hlt
  rw[qE j3]at hR;simp only[qBt]at hR;obtain⟨c1,c2,c3⟩:=v08 (xs.map LV.ln) i (by omega);have s1:=z4g (xs.map LV.ln) i j3;have s2:=z4f (xs.map LV.ln) i j3;have s3:=z3c (xs.map LV.ln) i j3;simp only[qBt]at s1 s2 s3;unfold Q7l at hR;obtain⟨g,cap',hv'⟩:=Joins.ownsRow_form HL.own (by omega);rw[qI]at hv';obtain⟨rfl,_,rfl⟩:=hv';have j5:=hid (HL.fresh hfr);have RG:=hid (j5.row.range i hlt);have hA:=j5.each xs[i] (by simp);have HA:=hid hA;have j0:=hid hA.front;have j9:=hid (j8.out xs[i] (by simp));obtain⟨so,sc,hvs⟩:=z0d hA.syms.own;have j6:=hid (fun w hL=>y3d w (.slice (some ⟨g,0,none⟩) xs.length cap) xs i hL (by omega) hlt);have jb:=LV.at13 hA.front;have k0:=LV.at0 xs[i];rw[hvs]at jb;generalize hX:xs[i]=x at *;clear hA hX;generalize Q2z (xs.map LV.ln) i=n1 at *;generalize Q2y (xs.map LV.ln) i=n2 at *;generalize Q3d (xs.map LV.ln) i=n3 at *;have ja:Hid (Q07 x.ln=!Q14 x.ln.front):=rfl;have RU:=hid (fun w=>z2p x w j0.out j9.out);rw[← ja.out]at RU;cases hr:Q07 x.ln
  ·rw[hr]at s1 s2 s3 RU;cases hah:Q24 (xs.map LV.ln) i
   ·rw[hah]at s3;simp only[Bool.or_self,qF,qAp]at s1 s2 s3;rw[s1,s2,s3]at hR;have S1:=hid s1;have S2:=hid s2;have S3:=hid s3;clear s1 s2 s3;cases hov:(decide (8<n1+0)||decide (20<n2+1)||decide (8<n3+1)||decide (6<x.ln.syms.length))
    ·rw[hov]at hR;simp only[qBm,qBr]at hov;obtain⟨⟨⟨o1,o2⟩,o3⟩,o4⟩:=hov;have j1:=hid hR;clear hR;go_wp2_with (first
      |(go_at_call 48;refine(RU.out _).mono ?_;rintro e w1⟨rfl,hf⟩;have j4:=hid ((j5.fresh ((mRf _ wr).alloc (.cells x.cells.toArray 116 (0,0)))).fresh hf))
      |(go_at_call 78;refine(j6.out _ j4.out).mono ?_;rw[hah];rintro e w2⟨rfl,hf2⟩;have kc:=Q0b (hf2.at (hf.at (z0a _ _) (fun x=>x)) (fun x=>x)))
      |(refine wpList_load_mid rfl 116 _ rfl g (i*14) rfl x.cells _ RG.out Tryz.underlying116 rfl (by rw[LV.cells_len j0.out];exact Q1j) ?_)
      |(refine z0e rfl 116 _ _ rfl wr _ _ _ rfl rfl rfl (Q09 j0.out) (Q0k rfl (LV.size j0.out)) HA.one ?_)
      |(refine wpList_load_row rfl 116 _ rfl wr.heap.size rfl _ _ _ _ (z0a _ _) Tryz.underlying116 rfl (Q09 j0.out) ?_))
     go_roundw
     case rel=>exact⟨f,i+1,⟨by rw[S1.out];go_num,by rw[S2.out];go_num,by rw[S3.out];go_num,by go_num⟩,j1.out,by omega,by omega,((hfr.alloc _).trans hf).trans hf2⟩
     exact j7.out
    rw[hov]at hR;simp only[qBb]at hR;have j1:=hid hR;have j2:8<n1+0∨(¬8<n1+0/\20<n2+1)∨(¬8<n1+0/\¬20<n2+1/\8<n3+1)∨(¬8<n1+0/\¬20<n2+1/\¬8<n3+1/\6<x.ln.syms.length):=by
     simp only[qAk,qAm]at hov;omega
    clear hR hov;rcases j2 with o1|⟨o1,o2⟩|⟨o1,o2,o3⟩|⟨o1,o2,o3,o4⟩;all_goals
     go_wp2_with (first
      |(go_at_call 48;refine(RU.out _).mono ?_;rintro e w1⟨rfl,hf⟩;have j4:=hid ((j5.fresh ((mRf _ wr).alloc (.cells x.cells.toArray 116 (0,0)))).fresh hf))
      |(go_at_call 78;refine(j6.out _ j4.out).mono ?_;rw[hah];rintro e w2⟨rfl,hf2⟩;have kc:=Q0b (hf2.at (hf.at (z0a _ _) (fun x=>x)) (fun x=>x)))
      |(refine wpList_load_mid rfl 116 _ rfl g (i*14) rfl x.cells _ RG.out Tryz.underlying116 rfl (by rw[LV.cells_len j0.out];exact Q1j) ?_)
      |(refine z0e rfl 116 _ _ rfl wr _ _ _ rfl rfl rfl (Q09 j0.out) (Q0k rfl (LV.size j0.out)) HA.one ?_)
      |(refine wpList_load_row rfl 116 _ rfl wr.heap.size rfl _ _ _ _ (z0a _ _) Tryz.underlying116 rfl (Q09 j0.out) ?_))
     go_ret;exact⟨z1h j1.out,((hfr.alloc _).trans hf).trans hf2⟩
   rw[hah]at s3;simp only[qDm,qF,qAp,qBb]at s1 s2 s3;rw[s1,s2,s3]at hR;have S1:=hid s1;have S2:=hid s2;have S3:=hid s3;clear s1 s2 s3;cases hov:(decide (8<n1+0)||decide (20<n2+1)||decide (8<n3+0)||decide (6<x.ln.syms.length))
   ·rw[hov]at hR;simp only[qBm,qBr]at hov;obtain⟨⟨⟨o1,o2⟩,o3⟩,o4⟩:=hov;have j1:=hid hR;clear hR;go_wp2_with (first
     |(go_at_call 48;refine(RU.out _).mono ?_;rintro e w1⟨rfl,hf⟩;have j4:=hid ((j5.fresh ((mRf _ wr).alloc (.cells x.cells.toArray 116 (0,0)))).fresh hf))
     |(go_at_call 78;refine(j6.out _ j4.out).mono ?_;rw[hah];rintro e w2⟨rfl,hf2⟩;have kc:=Q0b (hf2.at (hf.at (z0a _ _) (fun x=>x)) (fun x=>x)))
     |(refine wpList_load_mid rfl 116 _ rfl g (i*14) rfl x.cells _ RG.out Tryz.underlying116 rfl (by rw[LV.cells_len j0.out];exact Q1j) ?_)
     |(refine z0e rfl 116 _ _ rfl wr _ _ _ rfl rfl rfl (Q09 j0.out) (Q0k rfl (LV.size j0.out)) HA.one ?_)
     |(refine wpList_load_row rfl 116 _ rfl wr.heap.size rfl _ _ _ _ (z0a _ _) Tryz.underlying116 rfl (Q09 j0.out) ?_))
    go_roundw
    case rel=>exact⟨f,i+1,⟨by rw[S1.out];go_num,by rw[S2.out];go_num,by rw[S3.out];go_num,by go_num⟩,j1.out,by omega,by omega,((hfr.alloc _).trans hf).trans hf2⟩
    exact j7.out
   rw[hov]at hR;simp only[qBb]at hR;have j1:=hid hR;have j2:8<n1+0∨(¬8<n1+0/\20<n2+1)∨(¬8<n1+0/\¬20<n2+1/\8<n3+0)∨(¬8<n1+0/\¬20<n2+1/\¬8<n3+0/\6<x.ln.syms.length):=by
    simp only[qAk,qAm]at hov;omega
   clear hR hov;rcases j2 with o1|⟨o1,o2⟩|⟨o1,o2,o3⟩|⟨o1,o2,o3,o4⟩;all_goals
    go_wp2_with (first
     |(go_at_call 48;refine(RU.out _).mono ?_;rintro e w1⟨rfl,hf⟩;have j4:=hid ((j5.fresh ((mRf _ wr).alloc (.cells x.cells.toArray 116 (0,0)))).fresh hf))
     |(go_at_call 78;refine(j6.out _ j4.out).mono ?_;rw[hah];rintro e w2⟨rfl,hf2⟩;have kc:=Q0b (hf2.at (hf.at (z0a _ _) (fun x=>x)) (fun x=>x)))
     |(refine wpList_load_mid rfl 116 _ rfl g (i*14) rfl x.cells _ RG.out Tryz.underlying116 rfl (by rw[LV.cells_len j0.out];exact Q1j) ?_)
     |(refine z0e rfl 116 _ _ rfl wr _ _ _ rfl rfl rfl (Q09 j0.out) (Q0k rfl (LV.size j0.out)) HA.one ?_)
     |(refine wpList_load_row rfl 116 _ rfl wr.heap.size rfl _ _ _ _ (z0a _ _) Tryz.underlying116 rfl (Q09 j0.out) ?_))
    go_ret;exact⟨z1h j1.out,((hfr.alloc _).trans hf).trans hf2⟩
  rw[hr]at s1 s2 s3 RU;simp only[Bool.true_or,qBb]at s1 s2 s3;rw[s1,s2,s3]at hR;have S1:=hid s1;have S2:=hid s2;have S3:=hid s3;clear s1 s2 s3;cases hov:(decide (8<n1+1)||decide (20<n2+0)||decide (8<n3+0)||decide (6<x.ln.syms.length))
  ·rw[hov]at hR;simp only[qBm,qBr]at hov;obtain⟨⟨⟨o1,o2⟩,o3⟩,o4⟩:=hov;have j1:=hid hR;clear hR;go_wp2_with (first
    |(go_at_call 48;refine(RU.out _).mono ?_;rintro e w1⟨rfl,hf⟩;have kc:=Q0b (hf.at (z0a _ _) (fun x=>x)))
    |(refine wpList_load_mid rfl 116 _ rfl g (i*14) rfl x.cells _ RG.out Tryz.underlying116 rfl (by rw[LV.cells_len j0.out];exact Q1j) ?_)
    |(refine z0e rfl 116 _ _ rfl wr _ _ _ rfl rfl rfl (Q09 j0.out) (Q0k rfl (LV.size j0.out)) HA.one ?_)
    |(refine wpList_load_row rfl 116 _ rfl wr.heap.size rfl _ _ _ _ (z0a _ _) Tryz.underlying116 rfl (Q09 j0.out) ?_))
   go_roundw
   case rel=>exact⟨f,i+1,⟨by rw[S1.out];go_num,by rw[S2.out];go_num,by rw[S3.out];go_num,by go_num⟩,j1.out,by omega,by omega,(hfr.alloc _).trans hf⟩
   exact j7.out
  rw[hov]at hR;simp only[qBb]at hR;have j1:=hid hR;have j2:8<n1+1∨(¬8<n1+1/\20<n2+0)∨(¬8<n1+1/\¬20<n2+0/\8<n3+0)∨(¬8<n1+1/\¬20<n2+0/\¬8<n3+0/\6<x.ln.syms.length):=by
   simp only[qAk,qAm]at hov;omega
  clear hR hov;rcases j2 with o1|⟨o1,o2⟩|⟨o1,o2,o3⟩|⟨o1,o2,o3,o4⟩;all_goals
   go_wp2_with (first
    |(go_at_call 48;refine(RU.out _).mono ?_;rintro e w1⟨rfl,hf⟩;have kc:=Q0b (hf.at (z0a _ _) (fun x=>x)))
    |(refine wpList_load_mid rfl 116 _ rfl g (i*14) rfl x.cells _ RG.out Tryz.underlying116 rfl (by rw[LV.cells_len j0.out];exact Q1j) ?_)
    |(refine z0e rfl 116 _ _ rfl wr _ _ _ rfl rfl rfl (Q09 j0.out) (Q0k rfl (LV.size j0.out)) HA.one ?_)
    |(refine wpList_load_row rfl 116 _ rfl wr.heap.size rfl _ _ _ _ (z0a _ _) Tryz.underlying116 rfl (Q09 j0.out) ?_))
   go_ret;exact⟨z1h j1.out,(hfr.alloc _).trans hf⟩
 rw[qN (by simp;omega)]at hR;have j1:=hid hR;clear hR;go_wp2;go_ret;exact⟨z1h j1.out,hfr⟩
end Go.Proofs.YtcpceafmlgaodaaGreat
