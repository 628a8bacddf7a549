import Derived.Test.YtbdpfmalabgmbaaGreatCk4
import Derived.Deep.RegionWith
namespace Go.Proofs.YtbdpfmalabgmbaaGreat
open Go.RowKit
set_option maxRecDepth 99999
set_option maxHeartbeats 0
set_option linter.all false
structure LnOk(s:ByteArray)(x:Ln):Prop where
 fb:0<=x.front.ls.getD 0 0/\x.front.ls.getD 0 0<=255
 sb:(x.syms.length:Int)<=s.size
theorem z3f(s:ByteArray):LnOk s Q4j:=⟨by simp[Q4j,zero8],by simp[Q4j]⟩
theorem y5b(s:ByteArray)(d:Wd)(hd:0<=d.ls.getD 0 0/\d.ls.getD 0 0<=255):∀(f:Nat) (next:Int) (syms:List Wd),0<=next->next<=s.size->(syms.length:Int)<=next->LnOk s (Q20 s d f next syms).1
 |0,_,_,_,_,_=>z3f s
 |f+1,next,syms,h0,h1,h2=>by
  obtain⟨b1,b2,b3⟩:=z5p s (next+1) (by omega);unfold Q20;split
  ·split
   ·exact z3f s
   rename_i h3;have b4:=b3 (by simpa using h3);exact y5b s d hd f _ _ (by omega) (by omega) (by simp;omega)
  split
  ·exact z3f s
  exact⟨hd,by dsimp only;omega⟩
theorem x7n(s:ByteArray)(i:Int)(h0:0<=i)(h1:i<=s.size):LnOk s (Q2w s i).1:=by
 obtain⟨b1,b2,b3⟩:=z5p s i h0;have hz:=z7e s i;unfold Q2w;split
 ·exact z3f s
 rename_i h3;have b4:=b3 (by simpa using h3);split
 ·unfold Q6p;split
  ·exact z3f s
  have:=z0r (s:=s) (i:=(Q07 s i).2.1) (by omega);exact y5b s _ hz _ _ _ (by omega) (by omega) (by simp;omega)
 unfold Q6q;split
 ·exact z3f s
 split
 ·exact z3f s
 split
 ·exact z3f s
 exact⟨hz,by simp⟩
theorem y1t(s:ByteArray):∀(f:Nat) (i:Int) (acc:List Ln),0<=i->i<=s.size->(acc.length:Int)<=i->(∀x∈acc,LnOk s x)->((Q1l s f i acc).1.length:Int)<=s.size/\∀x∈(Q1l s f i acc).1,LnOk s x
 |0,i,acc,h0,h1,h2,h3=>by simp[Q1l]
 |f+1,i,acc,h0,h1,h2,h3=>by
  obtain⟨b1,b2,b3⟩:=y9c s i h0 h1;unfold Q1l;split
  ·split
   ·simp
   rename_i h5;have b4:=b3 (by simpa using h5);refine y1t s f _ _ (by omega) (by omega) (by simp;omega) ?_;intro x hx;rcases qBs.1 hx with h|h
   ·exact h3 x h
   simp at h;subst h;exact x7n s i h0 h1
  exact⟨by dsimp only;omega,h3⟩
theorem z1k(s:ByteArray):((Q0c s).1.length:Int)<=s.size/\∀x∈(Q0c s).1,LnOk s x:=y1t s _ 0 [] (by omega) (by omega) (by simp) (by simp)
def Q0u(s:ByteArray):Int × Int :=
 if 800<s.size then(1,0)
 else if(Q0c s).2.2=false then(2,(Q0c s).2.1)
 else if Q3v (Q0c s).1≠-1 then(3,Q3v (Q0c s).1)
 else if Q2b (Q0c s).1≠-1 then(4,Q2b (Q0c s).1)
 else if Q6x (Q0c s).1≠-1 then(5,Q6x (Q0c s).1)
 else if Q4a (Q0c s).1=false then(6,s.size)
 else(0,0)
theorem z8x(s:ByteArray):Q0u s=(if 800<s.size then(1,0)
 else if(Q0c s).2.2=false then(2,(Q0c s).2.1)
 else if Q3v (Q0c s).1≠-1 then(3,Q3v (Q0c s).1)
 else if Q2b (Q0c s).1≠-1 then(4,Q2b (Q0c s).1)
 else if Q6x (Q0c s).1≠-1 then(5,Q6x (Q0c s).1)
 else if Q4a (Q0c s).1=false then(6,s.size)
 else(0,0)):=rfl
def Q3x(s:ByteArray)(w:World)(e:Ending)(w':World):Prop :=
 ∃v,e=.returned (.tuple #[v,.int .i64 (Q0u s).1,.int .i64 (Q0u s).2])/\Q0a w w'/\(∃xs,Q0s w' v xs/\((Q0u s).1≠0/\xs=[]/\v=.slice none 0 0∨(Q0u s).1=0/\xs.map LV.ln=(Q0c s).1))
theorem nilLines(w:World):Q0s w (.slice none 0 0) []:=⟨qAh _ _ _ _,fun _ h=>by cases h⟩
theorem z2k{s:ByteArray}{w w':World}{e:Ending}{a b:Int}(h:Q0u s=(a,b))(ha:a≠0)(he:e=.returned (.tuple #[.slice none 0 0,.int .i64 a,.int .i64 b]))(hf:Q0a w w'):Q3x s w e w' :=
 ⟨_,by rw[h];exact he,hf,[],nilLines _,.inl ⟨by rw[h];exact ha,rfl,rfl⟩⟩
theorem x0b(s:ByteArray)(w:World)(hs:s.size<=maxLen)(hl:800<s.size) :
  Calls Tryz.prog 10 #[.string s] w fun e w'=>Q3x s w e w':=by
 have hc:Q0u s=(1,0):=by unfold Q0u;rw[qAb hl]
 have HC:=hid hc;unfold maxLen at hs;clear hc;go_enter Tryz.func10,Tryz.ntmps10
 go_wp2;go_ret3
 exact z2k HC.out (by decide) rfl (mRf _ _)
theorem y6p(s:ByteArray)(w:World)(hl:¬800<s.size) :
  Calls Tryz.prog 10 #[.string s] w fun e w'=>Q3x s w e w':=by
 obtain⟨j7,j3⟩:=z1k s;have j5:=hid j3;have hc:=z8x s;rw[qAa hl]at hc;have RL:=hid (fun w=>y25 s w (by omega));have j8:Hid ((Q0c s).1=(Q0c s).1):=rfl;cases hok1:(Q0c s).2.2
 ·rw[qAb hok1]at hc;have HC:=hid hc;rw[hok1]at RL;clear hc j3;go_enter Tryz.func10,Tryz.ntmps10
  go_wp2_with (first
   |(go_at_call 23;refine(RL.out _).mono ?_;rintro e w1⟨v,xs,hx,rfl,j1,hL⟩;obtain⟨ao,cap,hv⟩:=z0c hL.own;subst hv;have HX:=hid hx;clear hx))
  go_ret3
  exact z2k HC.out (by decide) rfl j1
 rw[qAa (by simp[hok1])]at hc;rw[hok1]at RL;have j6:∀xs:List LV,xs.map LV.ln=(Q0c s).1->xs.length<=1000/\(∀x∈xs,FB x)/\(∀x∈xs,SB x):=by
  intro xs hx;have h1:xs.length=(Q0c s).1.length:=by rw[← hx];simp
  refine⟨by omega,?_,?_⟩
  ·intro x j4;exact(j5.out x.ln (by rw[← hx];exact qBj.2 ⟨x,j4,rfl⟩)).fb
  intro x j4;have:=(j5.out x.ln (by rw[← hx];exact qBj.2 ⟨x,j4,rfl⟩)).sb;unfold SB;omega
 have j2:=hid j6;clear j6 j3;by_cases t1:Q3v (Q0c s).1=-1
 ·rw[qAa (by simp[t1])]at hc;by_cases t2:Q2b (Q0c s).1=-1
  ·rw[qAa (by simp[t2])]at hc;by_cases t3:Q6x (Q0c s).1=-1
   ·rw[qAa (by simp[t3])]at hc;have T1:=hid t1;have T2:=hid t2;have T3:=hid t3;clear t1 t2 t3;cases t4:Q4a (Q0c s).1
    ·rw[qAb t4]at hc;have HC:=hid hc;have T4:=hid t4;clear hc t4;go_enter Tryz.func10,Tryz.ntmps10
     go_wp2_with (first
      |(go_at_call 23;refine(RL.out _).mono ?_;rintro e w1⟨v,xs,hx,rfl,j1,hL⟩;obtain⟨ao,cap,hv⟩:=z0c hL.own;subst hv;have HX:=hid hx;obtain⟨q1,q2,q3⟩:=j2.out xs hx;have HL:=hid hL;clear hL hx)
      |(go_at_call 24;refine(z3s _ _ xs HL.out q1 q2).mono ?_;rw[HX.out,T1.out];rintro e w2⟨rfl,j0⟩;replace HL:=hid (HL.fresh j0);replace j1:=j1.trans j0)
      |(go_at_call 25;refine(z3l _ _ xs HL.out q1 q2 q3).mono ?_;rw[HX.out,T2.out];rintro e w2⟨rfl,j0⟩;replace HL:=hid (HL.fresh j0);replace j1:=j1.trans j0)
      |(go_at_call 26;refine(z64 _ _ xs HL.out q1 q2).mono ?_;rw[HX.out,T3.out];rintro e w2⟨rfl,j0⟩;replace HL:=hid (HL.fresh j0);replace j1:=j1.trans j0)
      |(go_at_call 27;refine(z9h _ _ xs HL.out q1 q2).mono ?_;rw[HX.out,T4.out];rintro e w2⟨rfl,j0⟩;replace HL:=hid (HL.fresh j0);replace j1:=j1.trans j0))
     go_ret3
     exact z2k HC.out (by decide) rfl j1
    rw[qAa (by simp[t4])]at hc;have HC:=hid hc;have T4:=hid t4;clear hc t4;go_enter Tryz.func10,Tryz.ntmps10
    go_wp2_with (first
     |(go_at_call 23;refine(RL.out _).mono ?_;rintro e w1⟨v,xs,hx,rfl,j1,hL⟩;obtain⟨ao,cap,hv⟩:=z0c hL.own;subst hv;have HX:=hid hx;obtain⟨q1,q2,q3⟩:=j2.out xs hx;have HL:=hid hL;clear hL hx)
     |(go_at_call 24;refine(z3s _ _ xs HL.out q1 q2).mono ?_;rw[HX.out,T1.out];rintro e w2⟨rfl,j0⟩;replace HL:=hid (HL.fresh j0);replace j1:=j1.trans j0)
     |(go_at_call 25;refine(z3l _ _ xs HL.out q1 q2 q3).mono ?_;rw[HX.out,T2.out];rintro e w2⟨rfl,j0⟩;replace HL:=hid (HL.fresh j0);replace j1:=j1.trans j0)
     |(go_at_call 26;refine(z64 _ _ xs HL.out q1 q2).mono ?_;rw[HX.out,T3.out];rintro e w2⟨rfl,j0⟩;replace HL:=hid (HL.fresh j0);replace j1:=j1.trans j0)
     |(go_at_call 27;refine(z9h _ _ xs HL.out q1 q2).mono ?_;rw[HX.out,T4.out];rintro e w2⟨rfl,j0⟩;replace HL:=hid (HL.fresh j0);replace j1:=j1.trans j0))
    go_ret3
    exact⟨_,by rw[HC.out];rfl,j1,xs,HL.out,.inr ⟨by rw[HC.out],HX.out⟩⟩
   rw[qAb t3]at hc;have HC:=hid hc;have T1:=hid t1;have T2:=hid t2;have c3:(Q6x (Q0c s).1 != -1)=true:=by simpa using t3
   clear hc t1 t2 t3;go_enter Tryz.func10,Tryz.ntmps10
   go_wp2_with (first
    |(go_at_call 23;refine(RL.out _).mono ?_;rintro e w1⟨v,xs,hx,rfl,j1,hL⟩;obtain⟨ao,cap,hv⟩:=z0c hL.own;subst hv;have HX:=hid hx;obtain⟨q1,q2,q3⟩:=j2.out xs hx;have HL:=hid hL;clear hL hx)
    |(go_at_call 24;refine(z3s _ _ xs HL.out q1 q2).mono ?_;rw[HX.out,T1.out];rintro e w2⟨rfl,j0⟩;replace HL:=hid (HL.fresh j0);replace j1:=j1.trans j0)
    |(go_at_call 25;refine(z3l _ _ xs HL.out q1 q2 q3).mono ?_;rw[HX.out,T2.out];rintro e w2⟨rfl,j0⟩;replace HL:=hid (HL.fresh j0);replace j1:=j1.trans j0)
    |(go_at_call 26;refine(z64 _ _ xs HL.out q1 q2).mono ?_;rw[HX.out];rintro e w2⟨rfl,j0⟩;replace HL:=hid (HL.fresh j0);replace j1:=j1.trans j0))
   go_ret3
   exact z2k HC.out (by decide) rfl j1
  rw[qAb t2]at hc;have HC:=hid hc;have T1:=hid t1;have c3:(Q2b (Q0c s).1 != -1)=true:=by simpa using t2
  clear hc t1 t2;go_enter Tryz.func10,Tryz.ntmps10
  go_wp2_with (first
   |(go_at_call 23;refine(RL.out _).mono ?_;rintro e w1⟨v,xs,hx,rfl,j1,hL⟩;obtain⟨ao,cap,hv⟩:=z0c hL.own;subst hv;have HX:=hid hx;obtain⟨q1,q2,q3⟩:=j2.out xs hx;have HL:=hid hL;clear hL hx)
   |(go_at_call 24;refine(z3s _ _ xs HL.out q1 q2).mono ?_;rw[HX.out,T1.out];rintro e w2⟨rfl,j0⟩;replace HL:=hid (HL.fresh j0);replace j1:=j1.trans j0)
   |(go_at_call 25;refine(z3l _ _ xs HL.out q1 q2 q3).mono ?_;rw[HX.out];rintro e w2⟨rfl,j0⟩;replace HL:=hid (HL.fresh j0);replace j1:=j1.trans j0))
  go_ret3
  exact z2k HC.out (by decide) rfl j1
 rw[qAb t1]at hc;have HC:=hid hc;have c3:(Q3v (Q0c s).1 != -1)=true:=by simpa using t1
 clear hc t1;go_enter Tryz.func10,Tryz.ntmps10
 go_wp2_with (first
  |(go_at_call 23;refine(RL.out _).mono ?_;rintro e w1⟨v,xs,hx,rfl,j1,hL⟩;obtain⟨ao,cap,hv⟩:=z0c hL.own;subst hv;have HX:=hid hx;obtain⟨q1,q2,q3⟩:=j2.out xs hx;have HL:=hid hL;clear hL hx)
  |(go_at_call 24;refine(z3s _ _ xs HL.out q1 q2).mono ?_;rw[HX.out];rintro e w2⟨rfl,j0⟩;replace HL:=hid (HL.fresh j0);replace j1:=j1.trans j0))
 go_ret3
 exact z2k HC.out (by decide) rfl j1
theorem z1t(s:ByteArray)(w:World)(hs:s.size<=maxLen) :
  Calls Tryz.prog 10 #[.string s] w fun e w'=>Q3x s w e w':=by
 by_cases hl:800<s.size
 ·exact x0b s w hs hl
 exact y6p s w hl
theorem x41(ns:List Q0q)(en:Int)(s:ByteArray):∀(f i:Nat) (l:List Nat) (best:Int),-1<=best->best<=s.size->-1<=W0g ns en s f i l best/\W0g ns en s f i l best<=s.size
 |0,_,_,best,h1,h2=>⟨h1,h2⟩
 |f+1,i,l,best,h1,h2=>by
  unfold W0g;split
  ·refine x41 ns en s f _ _ _ ?_ ?_<;>split<;>omega
  exact⟨h1,h2⟩
theorem y2q(ns:List Q0q)(st en:Int)(s:ByteArray)(i:Nat):-1<=Q5f ns st en s i/\Q5f ns st en s i<=s.size:=x41 ns en s _ _ _ _ (by omega) (by omega)
def Q0i(s:ByteArray):List Ln:=(Q0c s).1.filter Q0x
def errF(s t:ByteArray):Int:=if 200<t.size then 1 else(Q0u s).1
theorem z4x(xs:List LV):(xs.filter fun x=>Q0x x.ln).map LV.ln=(xs.map LV.ln).filter Q0x:=by
 induction xs with
 |nil=>rfl
 |cons x xs ih=>cases h:Q0x x.ln<;>simp[h,ih]
theorem Q0s.patRange{w:World}{g n cap:Nat}{xs:List LV}(h:Q0s w (.slice (some ⟨g,0,none⟩) n cap) xs)(i:Nat)(hi:i<xs.length):w.rangeAt g (i*14+10) [xs[i].vn,.int .i64 xs[i].ln.st,.int .i64 xs[i].ln.en]:=by
 intro j v hj;obtain⟨j0,j1,j2⟩:=LV.at10 (h.each xs[i] (by simp)).front;have j3:j<3:=by have:=(qS hj).1;simpa using this
 have e:i*14+10+j=i*14+(10+j):=by omega
 rw[e,h.cells14 i (10+j) hi (by omega)];simp only[qDp]at j0 j1 j2;rcases j with _|_|_|j
 ·rw[j0];simpa using hj
 ·rw[j1];simpa using hj
 ·rw[j2];simpa using hj
 omega
def Q31(x:Ln)(t:ByteArray):Bool:=Q5f x.ns x.st x.en t 0==(t.size:Int)
def matchF(s:ByteArray)(r:Int)(t:ByteArray):Bool × Int :=
 if errF s t≠0 then(false,errF s t)
 else if r<0 then(false,7)
 else match (Q0i s)[r.toNat]? with
  |some x=>(Q31 x t,0)
  |none=>(false,7)
def Q5d(lns:List Ln)(t:ByteArray)(i:Nat):Nat->Nat->Int × Int->Int × Int
 |0,_,b=>b
 |f+1,k,b=>match lns[k]? with
  |some x=>Q5d lns t i f (k+1) (if b.2<Q5f x.ns x.st x.en t i then((k:Int),Q5f x.ns x.st x.en t i) else b)
  |none=>b
def Q2j(lns:List Ln)(t:ByteArray)(i:Nat):Int × Int:=Q5d lns t i (lns.length+1) 0 (0,i)
abbrev Q2t(r a b:Int):Array Value:=#[.int .i64 r,.int .i64 a,.int .i64 b]
theorem W0j:(Tryz.prog.info? 63).map (·.size)=some 3:=by kernel_rfl
theorem y0x(w:World)(v:Value)(xs:List LV)(t:ByteArray)(i:Nat)(hL:Q0s w v xs)(hn:xs.length<=1000)(ht:t.size<=200)(hi:i<=200) :
  Calls Tryz.prog 33 #[v,.string t,.int .i64 i] w fun e w'=>e=.returned (.agg (Q2t (Q2j (xs.map LV.ln) t i).1 i (Q2j (xs.map LV.ln) t i).2))/\Q0a w w':=by
 obtain⟨ao,cap,hv⟩:=z0c hL.own;subst hv;have HL:=hid hL;generalize hR:Q2j (xs.map LV.ln) t i=R;have HR:Hid (Q5d (xs.map LV.ln) t i ((xs.map LV.ln).length+1) 0 (0,i)=R):=hR;clear hL hR;go_enter Tryz.func33,Tryz.ntmps33
 go_wp2;go_loopw [15] (fun x15 wr=>∃(f k:Nat) (b:Int × Int),x15=.int .i64 k/\Q5d (xs.map LV.ln) t i f k b=R/\xs.length+1<=f+k/\k<=xs.length/\Q0a w wr /\
   wr.heap[w.heap.size]? = some (.cells (Q2t 0 0 0) 63 (0,0))/\∃fr:Int,wr.heap[w.heap.size+1]? = some (.cells (Q2t b.1 i b.2) 63 (0,0)))
   (fun x _=>1001-(intOf x).toNat)
 case atStart=>exact⟨_,0,(0,i),rfl,HR.out,by simp,by omega,((mRf _ w).alloc _).alloc _,qBg _ _ _,0,qBa _ _ _⟩
 obtain⟨f,k,b,rfl,hR,jh,hk,j4,j8,_,j9⟩:=hrel;obtain⟨f,rfl⟩:∃g,f=g+1:=⟨f-1,by omega⟩;unfold Q5d at hR;have j7:=hid (Q19 (B:=1001) k (by omega));have j2:=hid j8;have j1:=hid j9;clear j8 j9;by_cases jc:k<xs.length
 ·have j5:k<(xs.map LV.ln).length:=by simpa using jc
  rw[qE j5]at hR;simp only[qCd]at hR;obtain⟨g,je,jd⟩:=Joins.ownsRow_form HL.own (by omega);rw[qI]at jd;obtain⟨rfl,_,rfl⟩:=jd;have j6:=hid (HL.fresh j4);have RG:=hid (j6.patRange k jc);have hA:=j6.each xs[k] (by simp);have LG:=hid (z9t wr xs[k].vn xs[k].ln.st xs[k].ln.en xs[k].ln.ns t i hA.nodes (by have:=hA.small;omega) (by omega) (by omega));have ja:=y2q xs[k].ln.ns xs[k].ln.st xs[k].ln.en t i;generalize Q5f xs[k].ln.ns xs[k].ln.st xs[k].ln.en t i=lg at hR LG ja;obtain⟨jf,jg⟩:=ja;clear hA;by_cases jb:b.2<lg
  ·rw[qAb jb]at hR;have j3:=hid hR;clear hR;go_wp2_with (first
    |(refine qAe rfl 79 _ rfl g (k*14+10) rfl [xs[k].vn,.int .i64 xs[k].ln.st,.int .i64 xs[k].ln.en] _ RG.out Tryz.underlying79 rfl szPat ?_)
    |(go_at_call 58;refine LG.mono ?_;rintro e w2⟨rfl,j0⟩;have k1:=Q0b (j0.at j1.out id);have k2:=Q0f (j0.at j1.out id)))
   go_roundw
   case rel =>
    refine⟨f,k+1,(k,lg),by go_num,j3.out,by omega,by omega,(((j4.trans j0).setCell (by simp) _).setCell (by simp) _).setCell (by simp) _,?_,0,?_⟩
    ·exact z0h (z0h (z0h (j0.at j2.out id) (by simp)) (by simp)) (by simp)
    rw[zhs (zhs (zhs (j0.at j1.out id) _ _) _ _) _ _];rfl
   exact j7.out
  rw[qAa jb]at hR;have j3:=hid hR;clear hR;go_wp2_with (first
   |(refine qAe rfl 79 _ rfl g (k*14+10) rfl [xs[k].vn,.int .i64 xs[k].ln.st,.int .i64 xs[k].ln.en] _ RG.out Tryz.underlying79 rfl szPat ?_)
   |(go_at_call 58;refine LG.mono ?_;rintro e w2⟨rfl,j0⟩;have k1:=Q0b (j0.at j1.out id)))
  go_roundw
  case rel=>exact⟨f,k+1,b,by go_num,j3.out,by omega,by omega,j4.trans j0,j0.at j2.out id,0,j0.at j1.out id⟩
  exact j7.out
 rw[qN (by simp;omega)]at hR;simp only[]at hR;have j3:=hid hR;clear hR;have k1:=Q0b j1.out;have k3:=Q0b j2.out;have k4:=Q0f j2.out;go_wp2;refine qAc (qCg rfl _ _ w.heap.size 63 (Q2t b.1 i b.2) (0,0) _ rfl ?_ qFy rfl W0j) rfl ⟨by rw[← j3.out],((j4.setCell (by simp) _).setCell (by simp) _).setCell (by simp) _⟩;rw[zhs (zhs (zhs j2.out _ _) _ _) _ _];rfl
def Q27(lns:List Ln)(r:Int):Bool:=if r<0 then false else match lns[r.toNat]? with|some x=>x.skip|none=>false
theorem y2l(w:World)(v:Value)(xs:List LV)(r:Nat)(hL:Q0s w v xs)(hn:xs.length<=1000) :
  Calls Tryz.prog 34 #[v,.int .i64 r] w fun e w'=>e=.returned (.bool (Q27 (xs.map LV.ln) r))/\w'=w:=by
 by_cases j0:r<xs.length
 ·obtain⟨g,cap,hv⟩:=Joins.ownsRow_form hL.own (by omega);subst hv;have c9:=hL.cell9 r j0;have e1:Q27 (xs.map LV.ln) r=xs[r].ln.skip:=by unfold Q27;rw[qAa (by omega)];simp[j0]
  rw[e1];clear hL e1;go_enter Tryz.func34,Tryz.ntmps34
  go_wp2;go_ret;exact⟨rfl,rfl⟩
 obtain⟨ao,cap,hv⟩:=z0c hL.own;subst hv;have e1:Q27 (xs.map LV.ln) r=false:=by unfold Q27;rw[qAa (by omega)];simp[j0]
 rw[e1];clear hL e1;go_enter Tryz.func34,Tryz.ntmps34
 go_wp2;go_ret;exact⟨rfl,rfl⟩
theorem y79(lns:List Ln)(t:ByteArray)(i:Nat):∀(f k:Nat) (b:Int × Int),0<=b.1->(i:Int)<=b.2->(b.2<=i∨b.2<=t.size)->0<=(Q5d lns t i f k b).1/\(i:Int)<=(Q5d lns t i f k b).2/\((Q5d lns t i f k b).2<=i∨(Q5d lns t i f k b).2<=t.size)
 |0,_,b,h1,h2,h3=>⟨h1,h2,h3⟩
 |f+1,k,b,h1,h2,h3=>by
  unfold Q5d;split
  ·rename_i x hx;have:=y2q x.ns x.st x.en t i;refine y79 lns t i f (k+1) _ ?_ ?_ ?_<;>split<;>(try dsimp only)<;>omega
  exact⟨h1,h2,h3⟩
theorem y78(lns:List Ln)(t:ByteArray)(i:Nat):0<=(Q2j lns t i).1/\(i:Int)<=(Q2j lns t i).2/\((Q2j lns t i).2<=i∨(Q2j lns t i).2<=t.size):=y79 lns t i _ _ _ (by simp) (by simp) (by simp)
structure Tk where
 r:Int
 a:Int
 b:Int
def Tk.cells(x:Tk):List Value:=[.int .i64 x.r,.int .i64 x.a,.int .i64 x.b]
def Q93(lns:List Ln)(t:ByteArray):Nat->Nat->List Tk->List Tk × Int × Int
 |0,_,_=>([],9,0)
 |f+1,i,toks =>
  if i<t.size then
   if(Q2j lns t i).2<=i then([],9,i)
   else Q93 lns t f (Q2j lns t i).2.toNat (if Q27 lns (Q2j lns t i).1 then toks else toks++[⟨(Q2j lns t i).1,i,(Q2j lns t i).2⟩])
  else(toks,0,0)
def Q3r(lns:List Ln)(t:ByteArray):List Tk × Int × Int:=Q93 lns t (t.size+1) 0 []
abbrev Q43:=Q18 Tk.cells 3 63
theorem infoTok:(Tryz.prog.info? 63).map (fun i=>(i.zero,i.size,i.bytes))=some (some (.agg (Q2t 0 0 0)),3,24):=by kernel_rfl
theorem Q8y:∃i,Tryz.prog.info? 63=some i/\i.zero=some (.agg (Q2t 0 0 0))/\i.size=3/\i.bytes=24:=nfoE infoTok
theorem z82(w:World)(v:Value)(xs:List LV)(t:ByteArray)(hL:Q0s w v xs)(hn:xs.length<=1000)(ht:t.size<=200) :
  Calls Tryz.prog 14 #[v,.string t] w fun e w'=>∃v',e=.returned (.tuple #[v',.int .i64 (Q3r (xs.map LV.ln) t).2.1,.int .i64 (Q3r (xs.map LV.ln) t).2.2])/\Q0a w w'/\Q43 w' v' (Q3r (xs.map LV.ln) t).1:=by
 obtain⟨ao,cap,hv⟩:=z0c hL.own;subst hv;have HL:=hid hL;obtain⟨i0,jh,jk,jl,jm⟩:=Q8y;generalize hR:Q3r (xs.map LV.ln) t=R;have HR:Hid (Q93 (xs.map LV.ln) t (t.size+1) 0 []=R):=hR;clear hL hR;go_enter Tryz.func14,Tryz.ntmps14
 go_wp2;go_loopw [7,8] (fun x7 x8 wr=>∃(f i:Nat) (ts:List Tk),x8=.int .i64 i/\Q93 (xs.map LV.ln) t f i ts=R/\t.size+1<=f+i/\i<=t.size/\ts.length<=i/\wr.ownsRow w.heap.size 63 3 x7 ts.length (Q0y Tk.cells ts)/\Q0a w wr)
   (fun _ x _=>201-(intOf x).toNat)
 case atStart=>exact⟨_,0,[],rfl,HR.out,by omega,by omega,by simp,qAh _ _ _ _,mRf _ _⟩
 obtain⟨f,i,ts,rfl,hR,jn,hi,jq,j3,j5⟩:=hrel;obtain⟨f,rfl⟩:∃g,f=g+1:=⟨f-1,by omega⟩;unfold Q93 at hR;have HO:=hid j3;have j6:=hid j3.lt;obtain⟨ro,rc,jj⟩:=z0c j3;clear j3;subst jj;by_cases jd:i<t.size
 ·rw[qAb jd]at hR;obtain⟨b1,b2,b3⟩:=y78 (xs.map LV.ln) t i;have j8:=hid (HL.fresh j5);have LG:=hid (y0x wr _ xs t i j8.out hn ht (by omega));generalize Q2j (xs.map LV.ln) t i=bf at hR LG b1 b2 b3;obtain⟨br,bt⟩:=bf;dsimp only at hR LG b1 b2 b3;obtain⟨r,rfl⟩:∃r:Nat,br=r:=⟨br.toNat,by omega⟩;obtain⟨to,rfl⟩:∃r:Nat,bt=r:=⟨bt.toNat,by omega⟩;by_cases jc:(to:Int)<=i
  ·rw[qAb jc]at hR;have j2:=hid hR;clear hR;go_wp2_with (first
    |(go_at_call 33;refine LG.mono ?_;rintro e w2⟨rfl,j0⟩))
   go_ret3
   exact⟨.slice none 0 0,by rw[← j2.out];rfl,(j5.trans j0).alloc _,by rw[← j2.out];exact Q18.nil _ _ _ _⟩
  rw[qAa jc]at hR;simp only[qAo]at hR;have je:Hid (201-(intOf (.int .i64 (to:Int))).toNat<201-(intOf (.int .i64 (i:Int))).toNat):=by unfold Hid;simp[intOf];omega
  have jp:to<=t.size:=by omega
  have jo:i<to:=by omega
  have ji:(i:Int)<to:=by omega
  have j7:=hid (fun w hL=>y2l w (.slice ao xs.length cap) xs r hL hn);clear b3 jc;cases hsk:Q27 (xs.map LV.ln) r
  ·rw[hsk]at hR;simp only[qF,qAz]at hR;rw[hsk]at j7;have j2:=hid hR;clear hR;go_wp2_with (first
    |(go_at_call 33;refine LG.mono ?_;rintro e w2⟨rfl,j0⟩;have j9:=hid ((j8.fresh j0).fresh ((mRf _ w2).alloc (.cells (Q2t r i to) 63 (0,0))));have hz:wr.heap.size<=w2.heap.size:=j0.size;have ja:=hid (z0d HO.out (fun g hg=>j0.block g (j6.out g hg).2 id)))
    |(go_at_call 34;refine csm (j7.out _ j9.out) ?_)
    |(at_builtin;refine z0f _ rfl _ _ 22 rfl w.heap.size 63 i0 _ 3 24 Tryz.underlying22 jh jk jl jm rfl (by decide) _ _ _ rfl ((ja.alloc _).alloc _) ⟨w2.heap.size+1,0,none⟩ 1 1 (Tk.cells ⟨r,i,to⟩) rfl rfl ?c1 ?c2 ?c3 ?c4 ?c5 ?_))
   case c1=>exact z13 rfl
   case c2=>intro u hu;simp[Tk.cells]at hu;rcases hu with rfl|rfl|rfl<;>rfl
   case c3=>unfold maxLen;omega
   case c4=>omega
   case c5=>have:=j5.size;simp;omega
   intro v' w3 j4 j1 jb;have jg:Q0a w w3:=Mod.grown (S:=fun _=>False) (((j5.trans j0).alloc _).alloc _) j1 (fun k hk jd=>by have:=(j6.out k hk).1;omega);have q1:w3.heap[w2.heap.size]? = some (.cells (Q2t r i to) 63 (0,0)):=by
    rw[j1.block _ (by simp;omega) (fun e=>by have:=(j6.out _ e.symm).2;omega)];exact z0b (z0a _ _)
   have k5:=Q0b q1;have jf:=hid j4;clear j4 j1 jb q1;go_wp2;go_roundw
   case rel =>
    refine⟨f,to,ts++[⟨r,i,to⟩],rfl,j2.out,by omega,by omega,by simp;omega,?_,jg⟩;rw[z0v,qP,qAj];exact jf.out
   exact je.out
  rw[hsk]at hR;simp only[qBn]at hR;rw[hsk]at j7;have j2:=hid hR;clear hR;go_wp2_with (first
   |(go_at_call 33;refine LG.mono ?_;rintro e w2⟨rfl,j0⟩;have j9:=hid ((j8.fresh j0).fresh ((mRf _ w2).alloc (.cells (Q2t r i to) 63 (0,0))));have hz:wr.heap.size<=w2.heap.size:=j0.size;have ja:=hid (z0d HO.out (fun g hg=>j0.block g (j6.out g hg).2 id)))
   |(go_at_call 34;refine csm (j7.out _ j9.out) ?_))
  go_roundw
  case rel=>exact⟨f,to,ts,rfl,j2.out,by omega,by omega,by omega,ja.alloc _,(j5.trans j0).alloc _⟩
  exact je.out
 rw[qAa jd]at hR;have j2:=hid hR;clear hR;go_wp2;go_ret3
 refine⟨_,by rw[← j2.out];rfl,j5,?_⟩;rw[← j2.out];exact⟨z0g HO.out (qBq _),fun x _=>rfl⟩
theorem y76(s:ByteArray)(j:Nat)(h:j<s.size):atB s j=((s[j].toNat:Nat):Int):=by simp[atB,h]
def Q4d(s:ByteArray)(a b:Int):Nat:=(List.range s.size).findIdx (fun j:Nat=>(atB s j==a)||(atB s j==b))
def StrsAt(w:World)(v:Value)(l:List ByteArray):Prop :=
 ∃a c,v=.slice a l.length c/\∀j (hj:j<l.length),∃g o,a=some ⟨g,o,none⟩/\w.cell? ⟨g,o+j,none⟩=some (.string l[j])
def Q1y(l:List ByteArray)(s:ByteArray):Int:=if l.findIdx (fun x=>x.toList==s.toList)<l.length then(l.findIdx (fun x=>x.toList==s.toList):Int) else -1
def Q7l(s0:ByteArray):Nat->Nat->List ByteArray->List ByteArray
 |0,_,acc=>acc
 |f+1,k,acc =>
  if k<s0.size then
   Q7l s0 f (if k+Q4d (s0.extract k s0.size) 32 32<s0.size then k+Q4d (s0.extract k s0.size) 32 32+1 else k+Q4d (s0.extract k s0.size) 32 32)
    (if 0<Q4d (s0.extract k s0.size) 32 32 then acc++[s0.extract k (k+Q4d (s0.extract k s0.size) 32 32)] else acc)
  else acc
def wordsF(s0:ByteArray):List ByteArray:=Q7l s0 (s0.size+1) 0 []
theorem x95(s:ByteArray):s.extract 0 s.size=s:=by
 apply qFi;simp[qEg]
theorem infoStr:(Tryz.prog.info? 9).map (fun i=>(i.zero,i.size,i.bytes))=some (some (.string ⟨#[]⟩),1,16):=by kernel_rfl
theorem Q8x:∃i,Tryz.prog.info? 9=some i/\i.zero=some (.string ⟨#[]⟩)/\i.size=1/\i.bytes=16:=nfoE infoStr
structure LO where
 rules:List ByteArray
 skip:List Bool
 heads:List ByteArray
 head:List Int
 names:List (List ByteArray)
 syms:List (List Int)
abbrev Q98(l:List ByteArray):List Value:=l.map Value.string
abbrev W0b(l:List Int):List Value:=l.map (Value.int .i64)
abbrev Q34(l:List Bool):List Value:=l.map Value.bool
theorem x6b(s:ByteArray):∀(f i:Nat) (acc:List UInt8),s.size-i<=f->ByteArray.toList.loop s i acc=acc.reverse++(s.data.toList.drop i):=by
 intro f;induction f with
 |zero =>
  intro i acc h;unfold ByteArray.toList.loop;have:¬i<s.size:=by omega
  rw[qAa this,qAp (by have:s.size=s.data.size:=rfl;simp;omega)];simp
 |succ f ih =>
  intro i acc h;unfold ByteArray.toList.loop;by_cases hi:i<s.size
  ·rw[qAb hi,ih (i+1) _ (by omega)];have j0:i<s.data.toList.length:=by have:s.size=s.data.size:=rfl;simp;omega
   rw[qC j0];have:s.get! i=s.data.toList[i]:=by
    have j1:i<s.data.size:=hi;simp only[ByteArray.get!,Array.getElem_toList];exact getElem!_pos s.data i j1
   rw[this];simp
  rw[qAa hi,qAp (by have:s.size=s.data.size:=rfl;simp;omega)];simp
theorem btl(s:ByteArray):s.toList=s.data.toList:=by
 unfold ByteArray.toList;rw[x6b s s.size 0 [] (by omega)];simp
section
variable {w W w1:World}{b:Nat}{x:LO}{v0 v1 v2 v3 v4 v5 v':Value}{nv sv:List Value}
abbrev UpB(b:Nat):World->World->Prop:=Mod (fun k=>b<=k)
end
def Q9w(s:ByteArray)(x:LO):LO :=
 if s.size=0 then x
 else if 97<=atB s 0/\atB s 0<=122 then
  {x with rules:=x.rules++[s.extract 0 (Q4d s 61 126)],skip:=x.skip++[decide (Q4d s 61 126<s.size)&&(atB s (Q4d s 61 126)==126)]}
 else
  {x with
   heads:=if Q1y x.heads (s.extract 0 (Q4d s 58 58))<0 then x.heads++[s.extract 0 (Q4d s 58 58)] else x.heads
   head:=x.head++[if Q1y x.heads (s.extract 0 (Q4d s 58 58))<0 then(x.heads.length:Int) else Q1y x.heads (s.extract 0 (Q4d s 58 58))]
   names:=x.names++[(wordsF (s.extract (Q4d s 58 58) s.size)).drop 1]}
attribute [local go_sem ↓] z17
theorem infoInt:(Tryz.prog.info? 3).map (fun i=>(i.zero,i.size,i.bytes))=some (some (.int .i64 0),1,8):=by kernel_rfl
theorem Q6z:∃i,Tryz.prog.info? 3=some i/\i.zero=some (.int .i64 0)/\i.size=1/\i.bytes=8:=nfoE infoInt
theorem infoIs:(Tryz.prog.info? 24).map (fun i=>(i.zero,i.size,i.bytes))=some (some (.slice none 0 0),1,24):=by kernel_rfl
theorem infoIs':∃i,Tryz.prog.info? 24=some i/\i.zero=some (.slice none 0 0)/\i.size=1/\i.bytes=24:=nfoE infoIs
theorem z7i{w:World}{base:Nat}{e:TypeId}{v:Value}{n:Nat}{l:List ByteArray}(h:w.ownsRow base e 1 v n (Q98 l)):StrsAt w v l:=by
 have hn:n=l.length:=by have:=h.1;simp at this;omega
 subst hn;rcases Joins.ownsRow_forms h with⟨rfl,h0⟩|⟨g,cap,rfl⟩
 ·exact⟨none,0,by rw[h0],fun j hj=>by omega⟩
 refine⟨_,_,rfl,fun j hj=>⟨g,0,rfl,?_⟩⟩;have:=h.cells (g:=g) rfl j (.string l[j]) (by simp[hj]);rwa [qDd]at this
attribute [local go_sem ↓] z17
def W0e(s0:ByteArray):Nat->Nat->LO->LO
 |0,_,x=>x
 |f+1,k,x =>
  if k<s0.size then
   W0e s0 f (if k+Q4d (s0.extract k s0.size) 10 10<s0.size then k+Q4d (s0.extract k s0.size) 10 10+1 else k+Q4d (s0.extract k s0.size) 10 10)
    (Q9w (s0.extract k (k+Q4d (s0.extract k s0.size) 10 10)) x)
  else x
def Q9n:LO:=⟨[],[],[],[],[],[]⟩
def linesX(s:ByteArray):LO:=W0e s (s.size+1) 0 Q9n
section
variable {w:World}{b:Nat}{x:LO}{v0 v1 v2 v3 v4 v5:Value}{nv sv:List Value}
end
def crK(ns:List Q0q)(st:Int)(s:ByteArray)(i:Nat):Nat->List Nat
 |0=>Q1f ns.length [] st
 |k+1=>Q6a ns s (i+k) (Q11 ns (crK ns st s i k))
def Q8w(ns:List Q0q)(st en:Int)(s:ByteArray)(i k:Nat):Bool:=Q7k ns.length (Q11 ns (crK ns st s i k)) en
theorem y0f(ns:List Q0q):Q11 ns []=[]:=by unfold Q11 Q28;simp
theorem x0j(n:Nat)(en:Int):Q7k n [] en=false:=by simp[Q7k]
theorem x32(ns:List Q0q)(s:ByteArray)(i:Nat):Q6a ns s i []=[]:=by unfold Q6a;split<;>simp[Q5g]
theorem x93{ns:List Q0q}{st:Int}{s:ByteArray}{i k:Nat}(h:crK ns st s i k=[]):∀j,crK ns st s i (k+j)=[]:=by
 intro j;induction j with
 |zero=>exact h
 |succ j ih =>
  show Q6a ns s (i+(k+j)) (Q11 ns (crK ns st s i (k+j)))=[];rw[ih,y0f,x32]
theorem x56{ns:List Q0q}{st en:Int}{s:ByteArray}{i k:Nat}(h:crK ns st s i k=[])(j:Nat)(hj:k<=j):Q8w ns st en s i j=false:=by
 have:=x93 h (j-k);rw[show k+(j-k)=j by omega]at this;unfold Q8w;rw[this,y0f,x0j]
theorem x42(ns:List Q0q)(st en:Int)(s:ByteArray)(i:Nat):∀(f k:Nat) (best:Int),s.size+2<=f+(i+k) ->
  (∃j,k<=j/\i+j<=s.size/\Q8w ns st en s i j=true/\W0g ns en s f (i+k) (crK ns st s i k) best=((i+j:Nat):Int)/\∀j',j<j'->i+j'<=s.size->Q8w ns st en s i j'=false) ∨
  (W0g ns en s f (i+k) (crK ns st s i k) best=best/\∀j,k<=j->i+j<=s.size->Q8w ns st en s i j=false):=by
 intro f;induction f with
 |zero =>
  intro k best hf;right;refine⟨rfl,fun j hj h=>?_⟩;omega
 |succ f ih =>
  intro k best hf;unfold W0g;by_cases hc:i+k<=s.size/\0<(crK ns st s i k).length
  ·rw[qAb hc];have e:Q6a ns s (i+k) (Q11 ns (crK ns st s i k))=crK ns st s i (k+1):=rfl;rw[e];have e2:Q7k ns.length (Q11 ns (crK ns st s i k)) en=Q8w ns st en s i k:=rfl;rw[e2];rcases ih (k+1) (if Q8w ns st en s i k=true then((i+k:Nat):Int) else best) (by omega)with⟨j,h1,h2,h3,h4,h5⟩|⟨h1,h2⟩
   ·left;exact⟨j,by omega,h2,h3,h4,h5⟩
   cases ha:Q8w ns st en s i k
   ·right;rw[ha]at h1;refine⟨by simpa [qDm]using h1,fun j hj hl=>?_⟩;by_cases j0:j=k
    ·rw[j0];exact ha
    exact h2 j (by omega) hl
   left;rw[ha]at h1;exact⟨k,qR _,hc.1,ha,by simpa [qDm]using h1,fun j' hj hl=>h2 j' (by omega) hl⟩
  rw[qAa hc];right;refine⟨rfl,fun j hj hl=>?_⟩;have:crK ns st s i k=[]:=by
   cases hq:crK ns st s i k with
   |nil=>rfl
   |cons a l=>rw[hq]at hc;simp at hc;omega
  exact x56 this j hj
theorem z68(ns:List Q0q)(st en:Int)(s:ByteArray)(i:Nat) :
  (∃j,i+j<=s.size/\Q8w ns st en s i j=true/\Q5f ns st en s i=((i+j:Nat):Int)/\∀j',j<j'->i+j'<=s.size->Q8w ns st en s i j'=false) ∨
  (Q5f ns st en s i=-1/\∀j,i+j<=s.size->Q8w ns st en s i j=false):=by
 rcases x42 ns st en s i (s.size+2) 0 (-1) (by omega)with⟨j,_,h2,h3,h4,h5⟩|⟨h1,h2⟩
 ·exact .inl ⟨j,h2,h3,h4,h5⟩
 exact .inr ⟨h1,fun j hj=>h2 j (by omega) hj⟩
theorem x92(ns:List Q0q)(st:Int)(t:ByteArray)(i n:Nat)(hn:i+n<=t.size):∀k,k<=n->crK ns st (t.extract i (i+n)) 0 k=crK ns st t i k:=by
 intro k;induction k with
 |zero=>intro _;rfl
 |succ k ih =>
  intro hk;show Q6a ns (t.extract i (i+n)) (0+k) _=Q6a ns t (i+k) _;rw[ih (by omega)];unfold Q6a;have h1:0+k<(t.extract i (i+n)).size:=by rw[qBl];omega
  have h2:i+k<t.size:=by omega
  rw[qEt h1,qEt h2];have e:(t.extract i (i+n))[0+k]=t[i+k]:=by
   rw[ByteArray.getElem_extract];congr 1;omega
  rw[e]
theorem y40(x:Ln)(t:ByteArray)(i n:Nat)(hn:i+n<=t.size):Q31 x (t.extract i (i+n))=Q8w x.ns x.st x.en t i n:=by
 have j0:(t.extract i (i+n)).size=n:=by rw[qBl];omega
 have ha:∀k,k<=n->Q8w x.ns x.st x.en (t.extract i (i+n)) 0 k=Q8w x.ns x.st x.en t i k:=fun k hk=>by
  unfold Q8w;rw[x92 x.ns x.st t i n hn k hk]
 unfold Q31;rw[j0,← ha n (qR _)];rcases z68 x.ns x.st x.en (t.extract i (i+n)) 0 with⟨j,h1,h2,h3,h4⟩|⟨h1,h2⟩
 ·rw[j0]at h1 h4;rw[h3];by_cases hj:j=n
  ·subst hj;rw[h2];simp
  rw[h4 n (by omega) (by omega)];simp;omega
 rw[h1,h2 n (by rw[j0];omega)];simp
abbrev far(x:Ln)(t:ByteArray)(i:Nat):Int:=Q5f x.ns x.st x.en t i
theorem x97{x:Ln}{t:ByteArray}{i:Nat}(h:(i:Int)<far x t i):∃n,0<n/\i+n<=t.size/\far x t i=((i+n:Nat):Int)/\Q8w x.ns x.st x.en t i n=true:=by
 rcases z68 x.ns x.st x.en t i with⟨j,h1,h2,h3,h4⟩|⟨h1,h2⟩
 ·unfold far at h ⊢;rw[h3]at h ⊢;exact⟨j,by omega,h1,rfl,h2⟩
 unfold far at h;rw[h1]at h;omega
def BestTo(lns:List Ln)(t:ByteArray)(i k:Nat)(b:Int × Int):Prop :=
 (b=(0,(i:Int))/\∀r (hr:r<lns.length),r<k->far lns[r] t i<=i) ∨
 (∃r,∃hr:r<lns.length,r<k/\b=((r:Int),far lns[r] t i)/\(i:Int)<far lns[r] t i/\(∀r' (hr':r'<lns.length),r'<k->far lns[r'] t i<=far lns[r] t i)/\∀r' (hr':r'<lns.length),r'<r->far lns[r'] t i<far lns[r] t i)
theorem x59(lns:List Ln)(t:ByteArray)(i:Nat):∀(f k:Nat) (b:Int × Int),lns.length+1<=f+k->BestTo lns t i k b->BestTo lns t i lns.length (Q5d lns t i f k b):=by
 intro f;induction f with
 |zero =>
  intro k b hf h;unfold Q5d;rcases h with⟨h1,h2⟩|⟨r,hr,h1,h2,h3,h4,h5⟩
  ·exact .inl ⟨h1,fun r hr _=>h2 r hr (by omega)⟩
  exact .inr ⟨r,hr,hr,h2,h3,fun r' j0 _=>h4 r' j0 (by omega),h5⟩
 |succ f ih =>
  intro k b hf h;unfold Q5d;by_cases hk:k<lns.length
  ·rw[qE hk];simp only[];apply ih (k+1) _ (by omega);by_cases hb:b.2<Q5f lns[k].ns lns[k].st lns[k].en t i
   ·rw[qAb hb];right;refine⟨k,hk,by omega,rfl,?_,?_,?_⟩
    ·rcases h with⟨h1,h2⟩|⟨r,hr,h1,h2,h3,h4,h5⟩
     ·rw[h1]at hb;exact hb
     rw[h2]at hb;exact Int.lt_trans h3 hb
    ·intro r' j0 j1;by_cases e:r'=k
     ·subst e;exact Int.le_refl _
     rcases h with⟨h1,h2⟩|⟨r,hr,h1,h2,h3,h4,h5⟩
     ·have:=h2 r' j0 (by omega);rw[h1]at hb;exact Int.le_of_lt (Int.lt_of_le_of_lt this hb)
     have:=h4 r' j0 (by omega);rw[h2]at hb;exact Int.le_of_lt (Int.lt_of_le_of_lt this hb)
    intro r' j0 j1;rcases h with⟨h1,h2⟩|⟨r,hr,h1,h2,h3,h4,h5⟩
    ·have:=h2 r' j0 (by omega);rw[h1]at hb;exact Int.lt_of_le_of_lt this hb
    have:=h4 r' j0 (by omega);rw[h2]at hb;exact Int.lt_of_le_of_lt this hb
   rw[qAa hb];rcases h with⟨h1,h2⟩|⟨r,hr,h1,h2,h3,h4,h5⟩
   ·left;refine⟨h1,fun r hr j1=>?_⟩;by_cases e:r=k
    ·subst e;rw[h1]at hb;unfold far;simp only[]at hb;omega
    exact h2 r hr (by omega)
   right;refine⟨r,hr,by omega,h2,h3,fun r' j0 j1=>?_,h5⟩;by_cases e:r'=k
   ·subst e;rw[h2]at hb;unfold far at hb ⊢;simp only[]at hb;omega
   exact h4 r' j0 (by omega)
  rw[qN (by omega)];simp only[];rcases h with⟨h1,h2⟩|⟨r,hr,h1,h2,h3,h4,h5⟩
  ·exact .inl ⟨h1,fun r hr _=>h2 r hr (by omega)⟩
  exact .inr ⟨r,hr,hr,h2,h3,fun r' j0 _=>h4 r' j0 (by omega),h5⟩
theorem x58(lns:List Ln)(t:ByteArray)(i:Nat):BestTo lns t i lns.length (Q2j lns t i):=x59 lns t i _ 0 _ (by omega) (.inl ⟨rfl,fun r hr h=>by omega⟩)
def Q1j(s:ByteArray)(i j:Int):Prop:=∀k,i<=k->k<j->32<=atB s k
theorem Q1j.one{s:ByteArray}{i:Int}(h:32<=atB s i):Q1j s i (i+1):=fun k h1 h2=>by
 have:k=i:=by omega
 subst this;exact h
theorem Q1j.trans{s:ByteArray}{i j k:Int}(h:Q1j s i j)(h2:Q1j s j k):Q1j s i k:=fun m h3 h4=>by
 by_cases e:m<j
 ·exact h m h3 e
 exact h2 m (by omega) h4
theorem Q1j.nil{s:ByteArray}{i:Int}:Q1j s i i:=fun k h1 h2=>by omega
theorem v07{c:Int}(h:Q4l c=true):32<=c:=by simp[Q4l]at h;omega
theorem x7i{c:Int}(h:Q02 c=true):32<=c:=by simp[Q02]at h;exact v07 h.2
theorem z91{s:ByteArray}{i:Int}(h:(Q2k s i).2.2=true):Q1j s i (Q2k s i).2.1:=by
 unfold Q2k at h ⊢;split
 ·rename_i e;exact Q1j.one (by omega)
 split
 ·rename_i e;exact Q1j.one (by omega)
 split
 ·rename_i h1 h2 h3;rw[qAa h1,qAa h2,qAb h3]at h;cases h
 rename_i h3;apply Q1j.one;simp at h3;exact v07 h3.1.1.1
theorem y1p{s:ByteArray}{i:Int}(h:(Q1s s i).2.2=true):Q1j s i (Q1s s i).2.1:=by
 unfold Q1s at h ⊢;split
 ·rename_i e;rw[qAb e]at h;exact(Q1j.one (by omega)).trans (z91 h)
 rename_i e;rw[qAa e]at h;split
 ·rename_i e2;rw[qAb e2]at h;cases h
 rename_i e2;rw[qAa e2]at h;split
 ·rename_i e3;rw[qAb e3]at h;cases h
 rename_i e3;exact Q1j.one (v07 (by simpa using e3))
theorem y5d{s:ByteArray}{i:Int}(h:(Q0n s i).2.2.2=true):Q1j s i (Q0n s i).2.2.1:=by
 unfold Q0n at h ⊢;split
 ·rename_i e;rw[qAb e]at h;cases h
 rename_i e;rw[qAa e]at h;have c1:=y1p (s:=s) (i:=i) (by simpa using e);split
 ·exact c1
 rename_i e2;rw[qAa e2]at h;split
 ·rename_i e3;rw[qAb e3]at h;cases h
 rename_i e3;rw[qAa e3]at h;have c2:=y1p (s:=s) (i:=(Q1s s i).2.1+1) (by simpa using e3);split
 ·rename_i e4;rw[qAb e4]at h;cases h
 exact(c1.trans (Q1j.one (by omega))).trans c2
theorem z48{s:ByteArray}{i j:Int}:∀(f:Nat) (next:Int) (ws:List Int),Q1j s j next->(Q06 s i f next ws).2.2=true->Q1j s j (Q06 s i f next ws).2.1
 |0,next,ws,hc,h=>by simp[Q06]at h
 |f+1,next,ws,hc,h=>by
  unfold Q06 at h ⊢;split
  ·rename_i e;rw[qAb e]at h;split
   ·rename_i e2;rw[qAb e2]at h;cases h
   rename_i e2;rw[qAa e2]at h;exact z48 f _ _ (hc.trans (y5d (by simpa using e2))) h
  rename_i e;have:atB s next=93:=by
   by_cases h1:atB s next=93
   ·exact h1
   exact absurd (.inr h1) e
  exact hc.trans (Q1j.one (by omega))
theorem x4o{s:ByteArray}{i:Int}(h:(rBr s i).2.2=true):Q1j s i (rBr s i).2.1:=by
 unfold rBr at h ⊢;split
 ·rename_i e;rw[qAb e]at h;exact z48 _ _ _ (Q1j.one (by omega)) h
 rename_i e;rw[qAa e]at h;exact z48 _ _ _ Q1j.nil h
theorem y1w{s:ByteArray}{i:Int}(h:(Q2r s i).2.2=true):Q1j s i (Q2r s i).2.1:=by
 unfold Q2r at h ⊢;split
 ·exact Q1j.one (by omega)
 rename_i e1;rw[qAa e1]at h;split
 ·rename_i e;rw[qAb e]at h;exact(Q1j.one (by omega)).trans (x4o h)
 rename_i e2;rw[qAa e2]at h;split
 ·rename_i e;rw[qAb e]at h;exact(Q1j.one (by omega)).trans (z91 h)
 rename_i e3;rw[qAa e3]at h;split
 ·rename_i e;rw[qAb e]at h;cases h
 rename_i e;exact Q1j.one (x7i (by simpa using e))
def Q6f(s:ByteArray)(f:Int->List Q0q->PR):Prop:=∀(i:Int) (ns:List Q0q),(f i ns).ok=true->Q1j s i (f i ns).next
theorem v0p{c:Int}(h:Q1t c=true):32<=c:=by simp[Q1t]at h;omega
theorem z7s{s:ByteArray}{i:Int}:∀(f:Nat) (r:PR),(r.ok=true->Q1j s i r.next)->(Q3t s f r).ok=true->Q1j s i (Q3t s f r).next
 |0,r,hr,h=>hr h
 |f+1,r,hr,h=>by
  unfold Q3t at h ⊢;split
  ·rename_i e;rw[qAb e]at h;simp only[qAd]at e;exact z7s f _ (fun _=>(hr e.1).trans (Q1j.one (v0p e.2))) h
  rename_i e;rw[qAa e]at h;exact hr h
theorem z80{a:Int->List Q0q->PR}{s:ByteArray}(ha:Q6f s a):Q6f s (Q71 a s):=fun i ns h=>z7s _ _ (ha i ns) h
theorem z6b{p:Int->List Q0q->PR}{s:ByteArray}(hp:Q6f s p){i:Int}:∀(f:Nat) (r:PR),(r.ok=true->Q1j s i r.next)->(Q2o p s f r).ok=true->Q1j s i (Q2o p s f r).next
 |0,r,hr,h=>hr h
 |f+1,r,hr,h=>by
  unfold Q2o at h ⊢;split
  ·rename_i e;rw[qAb e]at h;simp only[qAd]at e;refine z6b hp f _ (fun hj=>?_) h;unfold Q7m at hj ⊢;split
   ·rename_i e2;exact(hr e.1).trans (hp _ _ e2)
   rename_i e2;rw[qAa e2]at hj;cases hj
  rename_i e;rw[qAa e]at h;exact hr h
theorem z7q{p:Int->List Q0q->PR}{s:ByteArray}(hp:Q6f s p):Q6f s (Q6n p s):=fun i ns h=>z6b hp _ _ (hp i ns) h
theorem z6c{p:Int->List Q0q->PR}{s:ByteArray}(hp:Q6f s p){i:Int}:∀(f:Nat) (r:PR),(r.ok=true->Q1j s i r.next)->(Q2p p s f r).ok=true->Q1j s i (Q2p p s f r).next
 |0,r,hr,h=>hr h
 |f+1,r,hr,h=>by
  unfold Q2p at h ⊢;split
  ·rename_i e;rw[qAb e]at h;simp only[qAd,qBi]at e;refine z6c hp f _ (fun hj=>?_) h;unfold Q38 at hj ⊢;split
   ·rename_i e2;exact((hr e.1).trans (Q1j.one (by omega))).trans (hp _ _ e2)
   rename_i e2;rw[qAa e2]at hj;cases hj
  rename_i e;rw[qAa e]at h;exact hr h
theorem z7r{p:Int->List Q0q->PR}{s:ByteArray}(hp:Q6f s p):Q6f s (Q6o p s):=fun i ns h=>z6c hp _ _ (hp i ns) h
theorem y6s{c:Int->List Q0q->PR}{s:ByteArray}(hc:Q6f s c)(i:Int)(ns:List Q0q)(hi:atB s i=40)(h:(Q53 c s i ns).ok=true):Q1j s i (Q53 c s i ns).next:=by
 unfold Q53 at h ⊢;split
 ·rename_i e;rw[qAb e]at h;cases h
 rename_i e;rw[qAa e]at h;split
 ·rename_i e2;rw[qAb e2]at h;cases h
 rename_i e2;exact((Q1j.one (by omega)).trans (hc _ _ (by simpa using e))).trans (Q1j.one (by omega))
theorem z8z{g:Int->List Q0q->PR}{s:ByteArray}(hg:∀i ns,atB s i=40->(g i ns).ok=true->Q1j s i (g i ns).next):Q6f s (Q50 g s):=by
 intro i ns h;unfold Q50 at h ⊢;split
 ·rename_i e;rw[qAb e]at h;exact hg i ns e h
 rename_i e;rw[qAa e]at h;split
 ·rename_i e2;rw[qAb e2]at h;cases h
 rename_i e2;exact y1w (by simpa using e2)
theorem y8c(s:ByteArray):∀(k:Nat) (i:Int) (ns:List Q0q),atB s i=40->(gK s k i ns).ok=true->Q1j s i (gK s k i ns).next
 |0,i,ns,hi,h=>by simp[gK]at h
 |k+1,i,ns,hi,h=>y6s (z7r (z7q (z80 (z8z (y8c s k))))) i ns hi h
theorem y7h{s:ByteArray}{i:Int}(h:(Q1r s i).ok=true):Q1j s i (Q1r s i).next :=
 z7r (z7q (z80 (z8z (y8c s 6)))) i [] h
theorem z3x(s:ByteArray)(a e k:Nat)(he:e<=s.size)(hk:a+k<e):atB (s.extract a e) (k:Nat)=atB s ((a:Int)+k):=by
 have h1:k<(s.extract a e).size:=by rw[qBl];omega
 have h2:a+k<s.size:=by omega
 rw[y76 _ k h1];have:((a:Int)+(k:Int))=((a+k:Nat):Int):=by omega
 rw[this,y76 s (a+k) h2,ByteArray.getElem_extract]
theorem z7j(s:ByteArray)(a e c:Nat)(x y:Int)(he:e<=s.size)(hc:a+c<=e)(h1:∀k:Nat,k<c->atB s ((a:Int)+k)≠x/\atB s ((a:Int)+k)≠y)
  (h2:a+c=e∨atB s ((a:Int)+c)=x∨atB s ((a:Int)+c)=y):Q4d (s.extract a e) x y=c:=by
 have j0:(s.extract a e).size=e-a:=by rw[qBl];omega
 unfold Q4d;rw[j0];by_cases j1:a+c=e
 ·have hl:(List.range (e-a)).length=c:=by simp;omega
  rw[qDt]
  ·exact hl
  intro j hj;have j2:j<e-a:=by simpa using hj
  rw[z3x s a e j he (by omega)];have:=h1 j (by omega);simp[this.1,this.2]
 rw[List.findIdx_eq (by simp;omega)];simp only[List.getElem_range];refine⟨?_,?_⟩
 ·rw[z3x s a e c he (by omega)];rcases h2 with h2|h2|h2
  ·omega
  ·simp[h2]
  simp[h2]
 intro j hj;rw[z3x s a e j he (by omega)];have:=h1 j hj;simp[this.1,this.2]
structure WordAt(s:ByteArray)(i:Int)(m:Nat)(d:Wd):Prop where
 pos:1<=m
 le:m<=8
 first:Q0m (atB s i)=true∨Q1a (atB s i)=true
 rest:∀k:Nat,1<=k->k<m->Q0m (atB s (i+k))=true
 ls:d.ls=(List.range 8).map (fun k:Nat=>if k<m then atB s (i+k) else 0)
 place:d.place=i
theorem y9i{c:Int}(h:Q0m c=true):65<=c/\c<=122:=by have:=y29 h;omega
theorem v1y{c:Int}(h:Q1a c=true):65<=c/\c<=122:=by have:=x2a h;omega
theorem WordAt.byte{s:ByteArray}{i:Int}{m:Nat}{d:Wd}(h:WordAt s i m d)(k:Nat)(hk:k<m):65<=atB s (i+k)/\atB s (i+k)<=122:=by
 by_cases e:k=0
 ·subst e;have:=h.first;simp only[qEh,qDs]at *;rcases this with h|h
  ·exact y9i h
  exact v1y h
 exact y9i (h.rest k (by omega) hk)
theorem v04(s:ByteArray)(i:Int)(n:Nat)(hn:n<8) :
  ((List.range 8).map (fun k:Nat=>if k<n then atB s (i+k) else 0)).set n (atB s (i+n))=(List.range 8).map (fun k:Nat=>if k<n+1 then atB s (i+k) else 0):=by
 apply qEu
 ·simp
 intro j h1 h2;simp only[qAv,List.length_range]at h2;rw[List.getElem_set];simp only[qCd,List.getElem_range];by_cases e:n=j
 ·subst e;simp
 rw[qAa e];by_cases e2:j<n
 ·rw[qAb e2,qAb (by omega)]
 rw[qAa e2,qAa (by omega)]
theorem y5g(s:ByteArray)(i:Int):∀(f n:Nat) (ls:List Int),1<=n->n<=8->9<=f+n->ls=(List.range 8).map (fun k:Nat=>if k<n then atB s (i+k) else 0) ->
  (∀k:Nat,1<=k->k<n->Q0m (atB s (i+k))=true) ->
  ∃m:Nat,1<=m/\m<=8/\(Q2l s i f n ls).2=i+m/\(Q2l s i f n ls).1=(List.range 8).map (fun k:Nat=>if k<m then atB s (i+k) else 0)/\∀k:Nat,1<=k->k<m->Q0m (atB s (i+k))=true
 |0,n,ls,h1,h2,h3,h4,h5=>⟨n,h1,h2,rfl,h4,h5⟩
 |f+1,n,ls,h1,h2,h3,h4,h5=>by
  unfold Q2l;split
  ·rename_i hn;split
   ·rename_i hsm;refine y5g s i f (n+1) _ (by omega) (by omega) (by omega) ?_ ?_
    ·rw[h4];exact v04 s i n hn
    intro k hk1 hk2;by_cases e:k=n
    ·subst e;exact hsm
    exact h5 k hk1 (by omega)
   exact⟨n,h1,h2,rfl,h4,h5⟩
  rename_i hn;have:n=8:=by omega
  subst this;exact⟨8,by omega,by omega,rfl,h4,h5⟩
theorem z8k(s:ByteArray)(i:Int)(h:(Q07 s i).2.2=true):∃m:Nat,WordAt s i m (Q07 s i).1/\(Q07 s i).2.1=i+m:=by
 unfold Q07 at h ⊢;split
 ·rename_i e;rw[qAb e]at h;cases h
 rename_i e;obtain⟨m,h1,h2,h3,h4,h5⟩:=y5g s i 9 1 (zero8.set 0 (atB s i)) (by omega) (by omega) (by omega) (by simp[zero8,List.range,List.range.loop]) (by intro k h1 h2;omega);refine⟨m,⟨h1,h2,?_,h5,h4,rfl⟩,h3⟩;simp at e;cases hs:Q0m (atB s i)
 ·exact .inr (e hs)
 exact .inl rfl
theorem y53{s:ByteArray}{a b m n:Nat}{d d':Wd}(h:WordAt s a m d)(h':WordAt s b n d')(ha:a+m<=s.size)(hb:b+n<=s.size)(hl:d.ls=d'.ls):(s.extract a (a+m)).toList=(s.extract b (b+n)).toList:=by
 have hk:∀k:Nat,k<8->(if k<m then atB s ((a:Int)+k) else 0)=(if k<n then atB s ((b:Int)+k) else 0):=by
  intro k hk;have e1:d.ls[k]? = some (if k<m then atB s ((a:Int)+k) else 0):=by rw[h.ls];simp[hk]
  have e2:d'.ls[k]? = some (if k<n then atB s ((b:Int)+k) else 0):=by rw[h'.ls];simp[hk]
  rw[hl,e2]at e1;simpa using e1.symm
 have j0:m=n:=by
  have:=h.le;have:=h'.le;by_cases e1:m<n
  ·have h1:=hk m (by omega);rw[qAa (by omega),qAb e1]at h1;have:=h'.byte m e1;omega
  by_cases e2:n<m
  ·have h1:=hk n (by omega);rw[qAb e2,qAa (by omega)]at h1;have:=h.byte n e2;omega
  omega
 subst j0;rw[btl,btl];have hA:(s.extract a (a+m)).size=m:=by rw[qBl];omega
 have hB:(s.extract b (b+m)).size=m:=by rw[qBl];omega
 apply qEu
 ·simp only[Array.length_toList];exact hA.trans hB.symm
 intro j h1 h2;have hj:j<m:=by rw[Array.length_toList]at h1;exact hA▸h1
 have h3:=hk j (by have:=h.le;omega);rw[qAb hj,qAb hj]at h3;have e1:=z3x s a (a+m) j ha (by omega);have e2:=z3x s b (b+m) j hb (by omega);rw[← e1,← e2,y76 _ j (by omega),y76 _ j (by omega)]at h3;simp only[Array.getElem_toList];have h4:(s.extract a (a+m))[j].toNat=(s.extract b (b+m))[j].toNat:=by omega
 exact UInt8.toNat_inj.1 h4
end Go.Proofs.YtbdpfmalabgmbaaGreat
