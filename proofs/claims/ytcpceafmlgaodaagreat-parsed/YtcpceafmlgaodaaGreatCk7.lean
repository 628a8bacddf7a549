import Derived.Test.YtcpceafmlgaodaaGreatCk4
namespace Go.Proofs.YtcpceafmlgaodaaGreat
open Go.RowKit
set_option maxRecDepth 99999
set_option maxHeartbeats 0
set_option linter.all false
structure LnOk(s:ByteArray)(x:Ln):Prop where
 fb:0<=x.front.ls.getD 0 0/\x.front.ls.getD 0 0<=255
 sb:(x.syms.length:Int)<=s.size
theorem z29(s:ByteArray):LnOk s Q4c:=⟨by simp[Q4c,zero8],by simp[Q4c]⟩
theorem y4s(s:ByteArray)(d:Wd)(hd:0<=d.ls.getD 0 0/\d.ls.getD 0 0<=255):∀(f:Nat) (next:Int) (syms:List Wd),0<=next->next<=s.size->(syms.length:Int)<=next->LnOk s (Q2w s d f next syms).1
 |0,_,_,_,_,_=>z29 s
 |f+1,next,syms,h0,h1,h2=>by
  obtain⟨b1,b2,b3⟩:=z5j s (next+1) (by omega);unfold Q2w;split
  ·split
   ·exact z29 s
   rename_i h3;have b4:=b3 (by simpa using h3);exact y4s s d hd f _ _ (by omega) (by omega) (by simp;omega)
  split
  ·exact z29 s
  exact⟨hd,by dsimp only;omega⟩
theorem x66(s:ByteArray)(i:Int)(h0:0<=i)(h1:i<=s.size):LnOk s (Q2s s i).1:=by
 obtain⟨b1,b2,b3⟩:=z5j s i h0;have hz:=z65 s i;unfold Q2s;split
 ·exact z29 s
 rename_i h3;have b4:=b3 (by simpa using h3);split
 ·unfold Q6e;split
  ·exact z29 s
  have:=z0q (s:=s) (i:=(Q06 s i).2.1) (by omega);exact y4s s _ hz _ _ _ (by omega) (by omega) (by simp;omega)
 unfold Q6f;split
 ·exact z29 s
 split
 ·exact z29 s
 split
 ·exact z29 s
 exact⟨hz,by simp⟩
theorem y1b(s:ByteArray):∀(f:Nat) (i:Int) (acc:List Ln),0<=i->i<=s.size->(acc.length:Int)<=i->(∀x∈acc,LnOk s x)->((Q1k s f i acc).1.length:Int)<=s.size/\∀x∈(Q1k s f i acc).1,LnOk s x
 |0,i,acc,h0,h1,h2,h3=>by simp[Q1k]
 |f+1,i,acc,h0,h1,h2,h3=>by
  obtain⟨b1,b2,b3⟩:=y8p s i h0 h1;unfold Q1k;split
  ·split
   ·simp
   rename_i h5;have b4:=b3 (by simpa using h5);refine y1b s f _ _ (by omega) (by omega) (by simp;omega) ?_;intro x hx;rcases qBj.1 hx with h|h
   ·exact h3 x h
   simp at h;subst h;exact x66 s i h0 h1
  exact⟨by dsimp only;omega,h3⟩
theorem z47(s:ByteArray):((Q0c s).1.length:Int)<=s.size/\∀x∈(Q0c s).1,LnOk s x:=y1b s _ 0 [] (by omega) (by omega) (by simp) (by simp)
def Q0t(s:ByteArray):Int × Int :=
 if 800<s.size then(1,0)
 else if(Q0c s).2.2=false then(2,(Q0c s).2.1)
 else if Q3q (Q0c s).1≠-1 then(3,Q3q (Q0c s).1)
 else if Q16 (Q0c s).1≠-1 then(4,Q16 (Q0c s).1)
 else if Q6m (Q0c s).1≠-1 then(5,Q6m (Q0c s).1)
 else if Q33 (Q0c s).1=false then(6,s.size)
 else(0,0)
theorem z8m(s:ByteArray):Q0t s=(if 800<s.size then(1,0)
 else if(Q0c s).2.2=false then(2,(Q0c s).2.1)
 else if Q3q (Q0c s).1≠-1 then(3,Q3q (Q0c s).1)
 else if Q16 (Q0c s).1≠-1 then(4,Q16 (Q0c s).1)
 else if Q6m (Q0c s).1≠-1 then(5,Q6m (Q0c s).1)
 else if Q33 (Q0c s).1=false then(6,s.size)
 else(0,0)):=rfl
def Q7c(s:ByteArray)(w:World)(e:Ending)(w':World):Prop :=
 ∃v,e=.returned (.tuple #[v,.int .i64 (Q0t s).1,.int .i64 (Q0t s).2])/\Q0a w w'/\(∃xs,Q1s w' v xs/\((Q0t s).1≠0/\xs=[]/\v=.slice none 0 0∨(Q0t s).1=0/\xs.map LV.ln=(Q0c s).1))
theorem nilLines(w:World):Q1s w (.slice none 0 0) []:=⟨World.ownsRow_nil _ _ _ _,fun _ h=>by cases h⟩
theorem z2e{s:ByteArray}{w w':World}{e:Ending}{a b:Int}(h:Q0t s=(a,b))(ha:a≠0)(he:e=.returned (.tuple #[.slice none 0 0,.int .i64 a,.int .i64 b]))(hf:Q0a w w'):Q7c s w e w' :=
 ⟨_,by rw[h];exact he,hf,[],nilLines _,.inl ⟨by rw[h];exact ha,rfl,rfl⟩⟩
theorem y9l(s:ByteArray)(w:World)(hs:s.size<=maxLen)(hl:800<s.size) :
  Calls Tryz.prog 19 #[.string s] w fun e w'=>Q7c s w e w':=by
 have hc:Q0t s=(1,0):=by unfold Q0t;rw[qAb hl]
 have HC:=hid hc;unfold maxLen at hs;clear hc;go_enter Tryz.func19,Tryz.ntmps19
 go_wp2;go_ret3
 exact z2e HC.out (by decide) rfl (mRf _ _)
theorem y56(s:ByteArray)(w:World)(hl:¬800<s.size) :
  Calls Tryz.prog 19 #[.string s] w fun e w'=>Q7c s w e w':=by
 obtain⟨hlen,hok⟩:=z47 s;have j1:=hid hok;have hc:=z8m s;rw[qAa hl]at hc;have RL:=hid (fun w=>y2n s w (by omega));have j3:Hid ((Q0c s).1=(Q0c s).1):=rfl;cases hok1:(Q0c s).2.2
 ·rw[qAb hok1]at hc;have HC:=hid hc;rw[hok1]at RL;clear hc hok;go_enter Tryz.func19,Tryz.ntmps19
  go_wp2_with (first
   |(go_at_call 41;refine(RL.out _).mono ?_;rintro e w1⟨v,xs,hx,rfl,hf1,hL⟩;obtain⟨ao,cap,hv⟩:=z0d hL.own;subst hv;have HX:=hid hx;clear hx))
  go_ret3
  exact z2e HC.out (by decide) rfl hf1
 rw[qAa (by simp[hok1])]at hc;rw[hok1]at RL;have j2:∀xs:List LV,xs.map LV.ln=(Q0c s).1->xs.length<=1000/\(∀x∈xs,FB x)/\(∀x∈xs,SB x):=by
  intro xs hx;have h1:xs.length=(Q0c s).1.length:=by rw[← hx];simp
  refine⟨by omega,?_,?_⟩
  ·intro x hxx;exact(j1.out x.ln (by rw[← hx];exact qBp.2 ⟨x,hxx,rfl⟩)).fb
  intro x hxx;have:=(j1.out x.ln (by rw[← hx];exact qBp.2 ⟨x,hxx,rfl⟩)).sb;unfold SB;omega
 have j0:=hid j2;clear j2 hok;by_cases t1:Q3q (Q0c s).1=-1
 ·rw[qAa (by simp[t1])]at hc;by_cases t2:Q16 (Q0c s).1=-1
  ·rw[qAa (by simp[t2])]at hc;by_cases t3:Q6m (Q0c s).1=-1
   ·rw[qAa (by simp[t3])]at hc;have T1:=hid t1;have T2:=hid t2;have T3:=hid t3;clear t1 t2 t3;cases t4:Q33 (Q0c s).1
    ·rw[qAb t4]at hc;have HC:=hid hc;have T4:=hid t4;clear hc t4;go_enter Tryz.func19,Tryz.ntmps19
     go_wp2_with (first
      |(go_at_call 41;refine(RL.out _).mono ?_;rintro e w1⟨v,xs,hx,rfl,hf1,hL⟩;obtain⟨ao,cap,hv⟩:=z0d hL.own;subst hv;have HX:=hid hx;obtain⟨q1,q2,q3⟩:=j0.out xs hx;have HL:=hid hL;clear hL hx)
      |(go_at_call 42;refine(z3p _ _ xs HL.out q1 q2).mono ?_;rw[HX.out,T1.out];rintro e w2⟨rfl,hf2⟩;replace HL:=hid (HL.fresh hf2);replace hf1:=hf1.trans hf2)
      |(go_at_call 43;refine(z3f _ _ xs HL.out q1 q2 q3).mono ?_;rw[HX.out,T2.out];rintro e w2⟨rfl,hf2⟩;replace HL:=hid (HL.fresh hf2);replace hf1:=hf1.trans hf2)
      |(go_at_call 44;refine(z6v _ _ xs HL.out q1 q2).mono ?_;rw[HX.out,T3.out];rintro e w2⟨rfl,hf2⟩;replace HL:=hid (HL.fresh hf2);replace hf1:=hf1.trans hf2)
      |(go_at_call 45;refine(z85 _ _ xs HL.out q1 q2).mono ?_;rw[HX.out,T4.out];rintro e w2⟨rfl,hf2⟩;replace HL:=hid (HL.fresh hf2);replace hf1:=hf1.trans hf2))
     go_ret3
     exact z2e HC.out (by decide) rfl hf1
    rw[qAa (by simp[t4])]at hc;have HC:=hid hc;have T4:=hid t4;clear hc t4;go_enter Tryz.func19,Tryz.ntmps19
    go_wp2_with (first
     |(go_at_call 41;refine(RL.out _).mono ?_;rintro e w1⟨v,xs,hx,rfl,hf1,hL⟩;obtain⟨ao,cap,hv⟩:=z0d hL.own;subst hv;have HX:=hid hx;obtain⟨q1,q2,q3⟩:=j0.out xs hx;have HL:=hid hL;clear hL hx)
     |(go_at_call 42;refine(z3p _ _ xs HL.out q1 q2).mono ?_;rw[HX.out,T1.out];rintro e w2⟨rfl,hf2⟩;replace HL:=hid (HL.fresh hf2);replace hf1:=hf1.trans hf2)
     |(go_at_call 43;refine(z3f _ _ xs HL.out q1 q2 q3).mono ?_;rw[HX.out,T2.out];rintro e w2⟨rfl,hf2⟩;replace HL:=hid (HL.fresh hf2);replace hf1:=hf1.trans hf2)
     |(go_at_call 44;refine(z6v _ _ xs HL.out q1 q2).mono ?_;rw[HX.out,T3.out];rintro e w2⟨rfl,hf2⟩;replace HL:=hid (HL.fresh hf2);replace hf1:=hf1.trans hf2)
     |(go_at_call 45;refine(z85 _ _ xs HL.out q1 q2).mono ?_;rw[HX.out,T4.out];rintro e w2⟨rfl,hf2⟩;replace HL:=hid (HL.fresh hf2);replace hf1:=hf1.trans hf2))
    go_ret3
    exact⟨_,by rw[HC.out];rfl,hf1,xs,HL.out,.inr ⟨by rw[HC.out],HX.out⟩⟩
   rw[qAb t3]at hc;have HC:=hid hc;have T1:=hid t1;have T2:=hid t2;have c3:(Q6m (Q0c s).1 != -1)=true:=by simpa using t3
   clear hc t1 t2 t3;go_enter Tryz.func19,Tryz.ntmps19
   go_wp2_with (first
    |(go_at_call 41;refine(RL.out _).mono ?_;rintro e w1⟨v,xs,hx,rfl,hf1,hL⟩;obtain⟨ao,cap,hv⟩:=z0d hL.own;subst hv;have HX:=hid hx;obtain⟨q1,q2,q3⟩:=j0.out xs hx;have HL:=hid hL;clear hL hx)
    |(go_at_call 42;refine(z3p _ _ xs HL.out q1 q2).mono ?_;rw[HX.out,T1.out];rintro e w2⟨rfl,hf2⟩;replace HL:=hid (HL.fresh hf2);replace hf1:=hf1.trans hf2)
    |(go_at_call 43;refine(z3f _ _ xs HL.out q1 q2 q3).mono ?_;rw[HX.out,T2.out];rintro e w2⟨rfl,hf2⟩;replace HL:=hid (HL.fresh hf2);replace hf1:=hf1.trans hf2)
    |(go_at_call 44;refine(z6v _ _ xs HL.out q1 q2).mono ?_;rw[HX.out];rintro e w2⟨rfl,hf2⟩;replace HL:=hid (HL.fresh hf2);replace hf1:=hf1.trans hf2))
   go_ret3
   exact z2e HC.out (by decide) rfl hf1
  rw[qAb t2]at hc;have HC:=hid hc;have T1:=hid t1;have c3:(Q16 (Q0c s).1 != -1)=true:=by simpa using t2
  clear hc t1 t2;go_enter Tryz.func19,Tryz.ntmps19
  go_wp2_with (first
   |(go_at_call 41;refine(RL.out _).mono ?_;rintro e w1⟨v,xs,hx,rfl,hf1,hL⟩;obtain⟨ao,cap,hv⟩:=z0d hL.own;subst hv;have HX:=hid hx;obtain⟨q1,q2,q3⟩:=j0.out xs hx;have HL:=hid hL;clear hL hx)
   |(go_at_call 42;refine(z3p _ _ xs HL.out q1 q2).mono ?_;rw[HX.out,T1.out];rintro e w2⟨rfl,hf2⟩;replace HL:=hid (HL.fresh hf2);replace hf1:=hf1.trans hf2)
   |(go_at_call 43;refine(z3f _ _ xs HL.out q1 q2 q3).mono ?_;rw[HX.out];rintro e w2⟨rfl,hf2⟩;replace HL:=hid (HL.fresh hf2);replace hf1:=hf1.trans hf2))
  go_ret3
  exact z2e HC.out (by decide) rfl hf1
 rw[qAb t1]at hc;have HC:=hid hc;have c3:(Q3q (Q0c s).1 != -1)=true:=by simpa using t1
 clear hc t1;go_enter Tryz.func19,Tryz.ntmps19
 go_wp2_with (first
  |(go_at_call 41;refine(RL.out _).mono ?_;rintro e w1⟨v,xs,hx,rfl,hf1,hL⟩;obtain⟨ao,cap,hv⟩:=z0d hL.own;subst hv;have HX:=hid hx;obtain⟨q1,q2,q3⟩:=j0.out xs hx;have HL:=hid hL;clear hL hx)
  |(go_at_call 42;refine(z3p _ _ xs HL.out q1 q2).mono ?_;rw[HX.out];rintro e w2⟨rfl,hf2⟩;replace HL:=hid (HL.fresh hf2);replace hf1:=hf1.trans hf2))
 go_ret3
 exact z2e HC.out (by decide) rfl hf1
theorem z5o(s:ByteArray)(w:World)(hs:s.size<=maxLen) :
  Calls Tryz.prog 19 #[.string s] w fun e w'=>Q7c s w e w':=by
 by_cases hl:800<s.size
 ·exact y9l s w hs hl
 exact y56 s w hl
def rulesOf(s:ByteArray):List Ln:=(Q0c s).1.filter Q07
def errF(s t:ByteArray):Int:=if 200<t.size then 1 else(Q0t s).1
def Q5t(x:Ln)(t:ByteArray):Bool:=Q72 x.ns x.st x.en t 0==(t.size:Int)
def matchF(s:ByteArray)(r:Int)(t:ByteArray):Bool × Int :=
 if errF s t≠0 then(false,errF s t)
 else if r<0 then(false,7)
 else match (rulesOf s)[r.toNat]? with
  |some x=>(Q5t x t,0)
  |none=>(false,7)
end Go.Proofs.YtcpceafmlgaodaaGreat
