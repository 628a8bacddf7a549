import Derived.Test.YtbdpfmalabgmbaaGreatSh5
namespace Go.Proofs.YtbdpfmalabgmbaaGreat
open Go.RowKit
set_option maxRecDepth 99999
set_option maxHeartbeats 0
set_option linter.all false
def FB(x:LV):Prop:=0<=x.ln.front.ls.getD 0 0/\x.ln.front.ls.getD 0 0<=255
def Q0x(x:Ln):Bool:=!Q16 x.front
def Q23(lns:List Ln)(i:Nat):Nat:=((lns.take i).filter Q0x).length
def Q22(lns:List Ln)(i:Nat):Nat:=((lns.take i).filter (fun x=>!Q0x x)).length
def Q3h(lns:List Ln):Nat->Nat
 |0=>0
 |i+1=>Q3h lns i+(match lns[i]? with|some x=>if Q0x x||Q3b lns i then 0 else 1|none=>0)
def Q7z(lns:List Ln)(i:Nat)(x:Ln):Bool:=decide (8<Q23 lns (i+1))||decide (20<Q22 lns (i+1))||decide (8<Q3h lns (i+1))||decide (6<x.syms.length)
def Q4p(lns:List Ln):Nat->Nat->Int
 |0,_=>-1
 |f+1,i=>match lns[i]? with|some x=>if Q7z lns i x then x.front.place else Q4p lns f (i+1)|none=>-1
def Q3v(lns:List Ln):Int:=Q4p lns (lns.length+1) 0
theorem z4j(lns:List Ln)(i:Nat)(hi:i<lns.length):Q23 lns (i+1)=Q23 lns i+if Q0x lns[i] then 1 else 0:=by
 unfold Q23;rw[qCu,qBx,qP,qE hi];cases h:Q0x lns[i]<;>simp[qAq,h]
theorem z4i(lns:List Ln)(i:Nat)(hi:i<lns.length):Q22 lns (i+1)=Q22 lns i+if Q0x lns[i] then 0 else 1:=by
 unfold Q22;rw[qCu,qBx,qP,qE hi];cases h:Q0x lns[i]<;>simp[qAq,h]
theorem z3i(lns:List Ln)(i:Nat)(hi:i<lns.length):Q3h lns (i+1)=Q3h lns i+if Q0x lns[i]||Q3b lns i then 0 else 1:=by
 rw[Q3h,qE hi]
theorem v12(lns:List Ln)(i:Nat)(hi:i<=lns.length):Q23 lns i<=i/\Q22 lns i<=i/\Q3h lns i<=i:=by
 induction i with
 |zero=>simp[Q23,Q22,Q3h]
 |succ i ih =>
  have:=ih (by omega);rw[z4j _ _ (by omega),z4i _ _ (by omega),z3i _ _ (by omega)];refine⟨?_,?_,?_⟩<;>split<;>omega
theorem z3s(w:World)(v:Value)(xs:List LV)(hL:Q0s w v xs)(hn:xs.length<=1000)(hfb:∀x∈xs,FB x) :
  Calls Tryz.prog 24 #[v] w fun e w'=>e=.returned (.int .i64 (Q3v (xs.map LV.ln)))/\Q0a w w':=by
 obtain⟨ao,cap,hv⟩:=z0c hL.own;subst hv;have HL:=hid hL;have jc:=hid hfb;generalize hR:Q3v (xs.map LV.ln)=R;have HR:Hid (Q4p (xs.map LV.ln) ((xs.map LV.ln).length+1) 0=R):=hR;clear hL hfb hR;go_enter Tryz.func24,Tryz.ntmps24
 go_wp2;go_loopw [3,4,5,10] (fun x3 x4 x5 x10 wr=>∃(f i:Nat),(x3=.int .i64 (Q23 (xs.map LV.ln) i)/\x4=.int .i64 (Q22 (xs.map LV.ln) i)/\x5=.int .i64 (Q3h (xs.map LV.ln) i)/\x10=.int .i64 i)/\Q4p (xs.map LV.ln) f i=R/\xs.length+1<=f+i/\i<=xs.length/\Q0a w wr)
   (fun _ _ _ x _=>1001-(intOf x).toNat)
 case atStart=>exact⟨_,0,⟨rfl,rfl,rfl,rfl⟩,HR.out,by simp,by omega,mRf _ _⟩
 obtain⟨f,i,⟨rfl,rfl,rfl,rfl⟩,hR,ji,hi,j5⟩:=hrel;obtain⟨f,rfl⟩:∃g,f=g+1:=⟨f-1,by omega⟩;unfold Q4p at hR;have j9:=hid (Q19 (B:=1001) i (by omega));by_cases ja:i<xs.length
 ·have j4:i<(xs.map LV.ln).length:=by simpa using ja
  rw[qE j4]at hR;simp only[qCd]at hR;obtain⟨c1,c2,c3⟩:=v12 (xs.map LV.ln) i (by omega);have s1:=z4j (xs.map LV.ln) i j4;have s2:=z4i (xs.map LV.ln) i j4;have s3:=z3i (xs.map LV.ln) i j4;simp only[qCd]at s1 s2 s3;unfold Q7z at hR;obtain⟨g,je,jb⟩:=Joins.ownsRow_form HL.own (by omega);rw[qI]at jb;obtain⟨rfl,_,rfl⟩:=jb;have j7:=hid (HL.fresh j5);have RG:=hid (j7.row.range i ja);have hA:=j7.each xs[i] (by simp);have HA:=hid hA;have j0:=hid hA.front;have jd:=hid (jc.out xs[i] (by simp));obtain⟨so,sc,jg⟩:=z0c hA.syms.own;have j8:=hid (fun w hL=>y3v w (.slice (some ⟨g,0,none⟩) xs.length cap) xs i hL (by omega) ja);have jh:=LV.at13 hA.front;have k0:=LV.at0 xs[i];rw[jg]at jh;generalize hX:xs[i]=x at *;clear hA hX;generalize Q23 (xs.map LV.ln) i=n1 at *;generalize Q22 (xs.map LV.ln) i=n2 at *;generalize Q3h (xs.map LV.ln) i=n3 at *;have jf:Hid (Q0x x.ln=!Q16 x.ln.front):=rfl;have RU:=hid (fun w=>z2l x w j0.out jd.out);rw[← jf.out]at RU;cases hr:Q0x x.ln
  ·rw[hr]at s1 s2 s3 RU;cases hah:Q3b (xs.map LV.ln) i
   ·rw[hah]at s3;simp only[Bool.or_self,qF,qAz]at s1 s2 s3;rw[s1,s2,s3]at hR;have S1:=hid s1;have S2:=hid s2;have S3:=hid s3;clear s1 s2 s3;cases hov:(decide (8<n1+0)||decide (20<n2+1)||decide (8<n3+1)||decide (6<x.ln.syms.length))
    ·rw[hov]at hR;simp only[qCb,qCe]at hov;obtain⟨⟨⟨o1,o2⟩,o3⟩,o4⟩:=hov;have j1:=hid hR;clear hR;go_wp2_with (first
      |(go_at_call 30;refine(RU.out _).mono ?_;rintro e w1⟨rfl,hf⟩;have j6:=hid ((j7.fresh ((mRf _ wr).alloc (.cells x.cells.toArray 81 (0,0)))).fresh hf))
      |(go_at_call 56;refine(j8.out _ j6.out).mono ?_;rw[hah];rintro e w2⟨rfl,j2⟩;have kc:=Q0b (j2.at (hf.at (z0a _ _) id) id))
      |(refine qAe rfl 81 _ rfl g (i*14) rfl x.cells _ RG.out qAm rfl (by rw[LV.cells_len j0.out];exact Q1e) ?_)
      |(refine z0e rfl 81 _ _ rfl wr _ _ _ rfl rfl rfl (Q09 j0.out) (Q0l rfl (LV.size j0.out)) HA.one ?_)
      |(refine qAf rfl 81 _ rfl wr.heap.size rfl _ _ _ _ (z0a _ _) qAm rfl (Q09 j0.out) ?_))
     go_roundw
     case rel=>exact⟨f,i+1,⟨by rw[S1.out];go_num,by rw[S2.out];go_num,by rw[S3.out];go_num,by go_num⟩,j1.out,by omega,by omega,((j5.alloc _).trans hf).trans j2⟩
     exact j9.out
    rw[hov]at hR;simp only[qBn]at hR;have j1:=hid hR;have j3:8<n1+0∨(¬8<n1+0/\20<n2+1)∨(¬8<n1+0/\¬20<n2+1/\8<n3+1)∨(¬8<n1+0/\¬20<n2+1/\¬8<n3+1/\6<x.ln.syms.length):=by
     simp only[qAt,qAu]at hov;omega
    clear hR hov;rcases j3 with o1|⟨o1,o2⟩|⟨o1,o2,o3⟩|⟨o1,o2,o3,o4⟩;all_goals
     go_wp2_with (first
      |(go_at_call 30;refine(RU.out _).mono ?_;rintro e w1⟨rfl,hf⟩;have j6:=hid ((j7.fresh ((mRf _ wr).alloc (.cells x.cells.toArray 81 (0,0)))).fresh hf))
      |(go_at_call 56;refine(j8.out _ j6.out).mono ?_;rw[hah];rintro e w2⟨rfl,j2⟩;have kc:=Q0b (j2.at (hf.at (z0a _ _) id) id))
      |(refine qAe rfl 81 _ rfl g (i*14) rfl x.cells _ RG.out qAm rfl (by rw[LV.cells_len j0.out];exact Q1e) ?_)
      |(refine z0e rfl 81 _ _ rfl wr _ _ _ rfl rfl rfl (Q09 j0.out) (Q0l rfl (LV.size j0.out)) HA.one ?_)
      |(refine qAf rfl 81 _ rfl wr.heap.size rfl _ _ _ _ (z0a _ _) qAm rfl (Q09 j0.out) ?_))
     go_ret;exact⟨z1i j1.out,((j5.alloc _).trans hf).trans j2⟩
   rw[hah]at s3;simp only[qEl,qF,qAz,qBn]at s1 s2 s3;rw[s1,s2,s3]at hR;have S1:=hid s1;have S2:=hid s2;have S3:=hid s3;clear s1 s2 s3;cases hov:(decide (8<n1+0)||decide (20<n2+1)||decide (8<n3+0)||decide (6<x.ln.syms.length))
   ·rw[hov]at hR;simp only[qCb,qCe]at hov;obtain⟨⟨⟨o1,o2⟩,o3⟩,o4⟩:=hov;have j1:=hid hR;clear hR;go_wp2_with (first
     |(go_at_call 30;refine(RU.out _).mono ?_;rintro e w1⟨rfl,hf⟩;have j6:=hid ((j7.fresh ((mRf _ wr).alloc (.cells x.cells.toArray 81 (0,0)))).fresh hf))
     |(go_at_call 56;refine(j8.out _ j6.out).mono ?_;rw[hah];rintro e w2⟨rfl,j2⟩;have kc:=Q0b (j2.at (hf.at (z0a _ _) id) id))
     |(refine qAe rfl 81 _ rfl g (i*14) rfl x.cells _ RG.out qAm rfl (by rw[LV.cells_len j0.out];exact Q1e) ?_)
     |(refine z0e rfl 81 _ _ rfl wr _ _ _ rfl rfl rfl (Q09 j0.out) (Q0l rfl (LV.size j0.out)) HA.one ?_)
     |(refine qAf rfl 81 _ rfl wr.heap.size rfl _ _ _ _ (z0a _ _) qAm rfl (Q09 j0.out) ?_))
    go_roundw
    case rel=>exact⟨f,i+1,⟨by rw[S1.out];go_num,by rw[S2.out];go_num,by rw[S3.out];go_num,by go_num⟩,j1.out,by omega,by omega,((j5.alloc _).trans hf).trans j2⟩
    exact j9.out
   rw[hov]at hR;simp only[qBn]at hR;have j1:=hid hR;have j3:8<n1+0∨(¬8<n1+0/\20<n2+1)∨(¬8<n1+0/\¬20<n2+1/\8<n3+0)∨(¬8<n1+0/\¬20<n2+1/\¬8<n3+0/\6<x.ln.syms.length):=by
    simp only[qAt,qAu]at hov;omega
   clear hR hov;rcases j3 with o1|⟨o1,o2⟩|⟨o1,o2,o3⟩|⟨o1,o2,o3,o4⟩;all_goals
    go_wp2_with (first
     |(go_at_call 30;refine(RU.out _).mono ?_;rintro e w1⟨rfl,hf⟩;have j6:=hid ((j7.fresh ((mRf _ wr).alloc (.cells x.cells.toArray 81 (0,0)))).fresh hf))
     |(go_at_call 56;refine(j8.out _ j6.out).mono ?_;rw[hah];rintro e w2⟨rfl,j2⟩;have kc:=Q0b (j2.at (hf.at (z0a _ _) id) id))
     |(refine qAe rfl 81 _ rfl g (i*14) rfl x.cells _ RG.out qAm rfl (by rw[LV.cells_len j0.out];exact Q1e) ?_)
     |(refine z0e rfl 81 _ _ rfl wr _ _ _ rfl rfl rfl (Q09 j0.out) (Q0l rfl (LV.size j0.out)) HA.one ?_)
     |(refine qAf rfl 81 _ rfl wr.heap.size rfl _ _ _ _ (z0a _ _) qAm rfl (Q09 j0.out) ?_))
    go_ret;exact⟨z1i j1.out,((j5.alloc _).trans hf).trans j2⟩
  rw[hr]at s1 s2 s3 RU;simp only[Bool.true_or,qBn]at s1 s2 s3;rw[s1,s2,s3]at hR;have S1:=hid s1;have S2:=hid s2;have S3:=hid s3;clear s1 s2 s3;cases hov:(decide (8<n1+1)||decide (20<n2+0)||decide (8<n3+0)||decide (6<x.ln.syms.length))
  ·rw[hov]at hR;simp only[qCb,qCe]at hov;obtain⟨⟨⟨o1,o2⟩,o3⟩,o4⟩:=hov;have j1:=hid hR;clear hR;go_wp2_with (first
    |(go_at_call 30;refine(RU.out _).mono ?_;rintro e w1⟨rfl,hf⟩;have kc:=Q0b (hf.at (z0a _ _) id))
    |(refine qAe rfl 81 _ rfl g (i*14) rfl x.cells _ RG.out qAm rfl (by rw[LV.cells_len j0.out];exact Q1e) ?_)
    |(refine z0e rfl 81 _ _ rfl wr _ _ _ rfl rfl rfl (Q09 j0.out) (Q0l rfl (LV.size j0.out)) HA.one ?_)
    |(refine qAf rfl 81 _ rfl wr.heap.size rfl _ _ _ _ (z0a _ _) qAm rfl (Q09 j0.out) ?_))
   go_roundw
   case rel=>exact⟨f,i+1,⟨by rw[S1.out];go_num,by rw[S2.out];go_num,by rw[S3.out];go_num,by go_num⟩,j1.out,by omega,by omega,(j5.alloc _).trans hf⟩
   exact j9.out
  rw[hov]at hR;simp only[qBn]at hR;have j1:=hid hR;have j3:8<n1+1∨(¬8<n1+1/\20<n2+0)∨(¬8<n1+1/\¬20<n2+0/\8<n3+0)∨(¬8<n1+1/\¬20<n2+0/\¬8<n3+0/\6<x.ln.syms.length):=by
   simp only[qAt,qAu]at hov;omega
  clear hR hov;rcases j3 with o1|⟨o1,o2⟩|⟨o1,o2,o3⟩|⟨o1,o2,o3,o4⟩;all_goals
   go_wp2_with (first
    |(go_at_call 30;refine(RU.out _).mono ?_;rintro e w1⟨rfl,hf⟩;have kc:=Q0b (hf.at (z0a _ _) id))
    |(refine qAe rfl 81 _ rfl g (i*14) rfl x.cells _ RG.out qAm rfl (by rw[LV.cells_len j0.out];exact Q1e) ?_)
    |(refine z0e rfl 81 _ _ rfl wr _ _ _ rfl rfl rfl (Q09 j0.out) (Q0l rfl (LV.size j0.out)) HA.one ?_)
    |(refine qAf rfl 81 _ rfl wr.heap.size rfl _ _ _ _ (z0a _ _) qAm rfl (Q09 j0.out) ?_))
   go_ret;exact⟨z1i j1.out,(j5.alloc _).trans hf⟩
 rw[qN (by simp;omega)]at hR;have j1:=hid hR;clear hR;go_wp2;go_ret;exact⟨z1i j1.out,j5⟩
end Go.Proofs.YtbdpfmalabgmbaaGreat
