import Derived.Test.YtbdpfmalabgmbaaGreatCrw3
namespace Go.Proofs.YtbdpfmalabgmbaaGreat
open Go.RowKit
set_option maxRecDepth 99999
set_option maxHeartbeats 0
set_option linter.all false
abbrev Q76(r:Wd × Int × Bool):Value:=.tuple #[.agg r.1.cells.toArray,.int .i64 r.2.1,.bool r.2.2]
theorem x9k(p:Int)(ls:List Int)(n:Nat)(c:Int):(Wd.cells ⟨p,ls⟩).toArray.setIfInBounds (n+1) (.int .u8 c)=(Wd.cells ⟨p,ls.set n c⟩).toArray:=by
 simp[Wd.cells,qFr]
theorem v3g(p:Int)(ls:List Int)(n:Nat)(h:n<ls.length):(Wd.cells ⟨p,ls⟩).toArray[n+1]? = some (.int .u8 (ls.getD n 0)):=by
 simp[Wd.cells,h]
theorem y29{c:Int}(h:Q0m c=true):97<=c/\c<=122:=by simp[Q0m]at h;omega
theorem x2a{c:Int}(h:Q1a c=true):65<=c/\c<=90:=by simp[Q1a]at h;omega
theorem y7m(s:ByteArray)(i:Int)(w:World)(hs:s.size<=1000)(h0:0<=i)(h1:i<=2000)(hc:(!Q0m (atB s i)&&!Q1a (atB s i))=true) :
  Calls Tryz.prog 88 #[.string s,.int .i64 i] w fun e w'=>e=.returned (Q76 (Q07 s i))/\Q0a w w':=by
 have e1:Q07 s i=(⟨0,zero8⟩,i,false):=by unfold Q07;rw[qAb hc]
 rw[e1];simp only[qAd,Bool.not_eq_true']at hc;obtain⟨c1,c2⟩:=hc;clear e1;go_enter Tryz.func88,Tryz.ntmps88
 go_wp2_with (first
  |(go_at_call 97;refine csm (z0x _ _ _ (by unfold maxLen;omega)) ?_)
  |(go_at_call 116;refine(z3o _ _).mono ?_;rw[c1];rintro e w'⟨rfl,hw⟩;rw[hw];clear hw)
  |(go_at_call 99;refine(z6j _ _).mono ?_;rw[c2];rintro e w'⟨rfl,hw⟩;rw[hw];clear hw))
 refine qAc (z0i rfl _ _ w.heap.size 76 (Wd.cells ⟨0,zero8⟩).toArray (0,0) _ rfl ?_ qAx rfl Q2s) rfl ⟨rfl,?_⟩
 ·exact qBg _ _ _
 exact((mRf _ w).alloc _).alloc _
theorem y5p(s:ByteArray)(i:Int)(w:World)(hs:s.size<=1000)(h0:0<=i)(h1:i<=2000)(hc:(!Q0m (atB s i)&&!Q1a (atB s i))=false) :
  Calls Tryz.prog 88 #[.string s,.int .i64 i] w fun e w'=>e=.returned (Q76 (Q07 s i))/\Q0a w w':=by
 have e1:Q07 s i=(⟨i,(Q2l s i 9 1 (zero8.set 0 (atB s i))).1⟩,(Q2l s i 9 1 (zero8.set 0 (atB s i))).2,true):=by unfold Q07;rw[qAa (by simp[hc])]
 rw[e1];have j0:=z7d s i 9 1 (zero8.set 0 (atB s i)) rfl;generalize hR:Q2l s i 9 1 (zero8.set 0 (atB s i))=R at j0;have HR:=hid hR;have j7:=hid j0;have jd:0<=atB s i/\atB s i<=255:=by
  have:=z8p s i;refine⟨?_,by omega⟩;simp only[Bool.and_eq_false_iff,Bool.not_eq_false']at hc;rcases hc with h|h
  ·have:=y29 h;omega
  have:=x2a h;omega
 obtain⟨je,jf⟩:=jd;have jc:Q0m (atB s i)=true∨Q0m (atB s i)=false/\Q1a (atB s i)=true:=by
  simp only[Bool.and_eq_false_iff,Bool.not_eq_false']at hc;cases h:Q0m (atB s i)
  ·right;rcases hc with h2|h2
   ·rw[h]at h2;cases h2
   exact⟨rfl,h2⟩
  exact .inl rfl
 clear e1 hR hc j0;rcases jc with c1|⟨c1,c2⟩;all_goals
  go_enter Tryz.func88,Tryz.ntmps88
  go_wp2_with (first
   |(go_at_call 97;refine csm (z0x _ _ _ (by unfold maxLen;omega)) ?_)
   |(go_at_call 116;refine(z3o _ _).mono ?_;rw[c1];rintro e w'⟨rfl,hw⟩;rw[hw];clear hw)
   |(go_at_call 99;refine(z6j _ _).mono ?_;rw[c2];rintro e w'⟨rfl,hw⟩;rw[hw];clear hw))
  go_loopw [8,9] (fun x8 x9 wr=>∃(f n:Nat) (ls:List Int) (c:Int),x8=.int .i64 c/\x9=.int .i64 n/\Q2l s i f n ls=R/\ls.length=8/\n<=8/\10<=f+n /\
    wr.heap[w.heap.size]? = some (.cells (Wd.cells ⟨0,zero8⟩).toArray 76 (0,0))/\wr.heap[w.heap.size+1]? = some (.cells (Wd.cells ⟨i,ls⟩).toArray 76 (0,0))/\Q0a w wr)
    (fun _ x _=>9-(intOf x).toNat)
  case atStart =>
   refine⟨9,1,zero8.set 0 (atB s i),_,rfl,rfl,HR.out,rfl,by omega,by omega,qBg _ _ _,?_,((mRf _ w).alloc _).alloc _⟩;exact qBa _ _ _
  obtain⟨f,n,ls,c,rfl,rfl,hR,hl,jh,jg,j5,j6,j4⟩:=hrel;obtain⟨f,rfl⟩:∃g,f=g+1:=⟨f-1,by omega⟩;unfold Q2l at hR;have j8:=hid (Q19 (B:=9) n (by omega));have j1:=hid j5;have j2:=hid j6;have HL:=hid hl;have j9:=z8p s (i+n);obtain⟨ja,jb⟩:=j9;clear j5 j6 hl;by_cases h8:n<8
  ·rw[qAb h8]at hR;cases hsm:Q0m (atB s (i+n))
   ·rw[hsm]at hR;simp only[qF,qAz]at hR;have j3:=hid hR;clear hR;go_wp2_with (first
     |(go_at_call 97;refine csm (z0x _ _ _ (by unfold maxLen;omega)) ?_)
     |(go_at_call 116;refine(z3o _ _).mono ?_;rw[hsm];rintro e w'⟨rfl,hw⟩;rw[hw];clear hw)
     |(refine qAf rfl 76 _ rfl (w.heap.size+1) rfl _ _ _ _ j2.out qAx rfl (Q1w HL.out) ?_)
     |(refine qAg rfl 76 _ _ rfl w.heap.size _ rfl rfl _ _ j1.out (Q1w HL.out) (Q0l rfl (Wd.size HL.out)) (Wd.one _) ?_))
    refine qAc (z0i rfl _ _ w.heap.size 76 _ (0,0) _ rfl (qAn _ _ _ _ _ _ j1.out) qAx rfl (Q1w HL.out)) rfl ⟨?_,j4.setRow (by simp) _⟩;rw[← j3.out];rfl
   rw[hsm]at hR;simp only[qBn]at hR;have j3:=hid hR;have ji:=y29 hsm;have k1:wr.cell? ⟨w.heap.size+1,n+1,none⟩=some (.int .u8 (ls.getD n 0)):=by rw[Q0b j2.out,v3g _ _ _ (by rw[HL.out];omega)]
   have jj:wr.cell? ⟨w.heap.size+1,1+n,none⟩=some (.int .u8 (ls.getD n 0)):=by rw[Nat.add_comm 1 n];exact k1
   have k2:=Q0f j2.out;clear hR;go_wp2_with (first
    |(go_at_call 97;refine csm (z0x _ _ _ (by unfold maxLen;omega)) ?_)
    |(go_at_call 116;refine(z3o _ _).mono ?_;rw[hsm];rintro e w'⟨rfl,hw⟩;rw[hw];clear hw))
   go_roundw
   case rel =>
    refine⟨f,n+1,_,_,rfl,by go_num,j3.out,by simpa using HL.out,by omega,by omega,?_,?_,j4.setCell (by simp) _⟩
    ·exact z0h j1.out (by simp)
    rw[zhs j2.out];first
     |rw[x9k]
     |rw[Nat.add_comm 1 n,x9k]
   exact j8.out
  rw[qAa h8]at hR;have hn:n=8:=by omega
  subst hn;have j3:=hid hR;clear hR;go_wp2_with (first
   |(refine qAf rfl 76 _ rfl (w.heap.size+1) rfl _ _ _ _ j2.out qAx rfl (Q1w HL.out) ?_)
   |(refine qAg rfl 76 _ _ rfl w.heap.size _ rfl rfl _ _ j1.out (Q1w HL.out) (Q0l rfl (Wd.size HL.out)) (Wd.one _) ?_))
  refine qAc (z0i rfl _ _ w.heap.size 76 _ (0,0) _ rfl (qAn _ _ _ _ _ _ j1.out) qAx rfl (Q1w HL.out)) rfl ⟨?_,j4.setRow (by simp) _⟩;rw[← j3.out];rfl
theorem z71(s:ByteArray)(i:Int)(w:World)(hs:s.size<=1000)(h0:0<=i)(h1:i<=2000) :
  Calls Tryz.prog 88 #[.string s,.int .i64 i] w fun e w'=>e=.returned (Q76 (Q07 s i))/\Q0a w w':=by
 cases hc:(!Q0m (atB s i)&&!Q1a (atB s i))
 ·exact y5p s i w hs h0 h1 hc
 exact y7m s i w hs h0 h1 hc
structure Ln where
 front:Wd
 skip:Bool
 ns:List Q0q
 st:Int
 en:Int
 syms:List Wd
structure LV where
 ln:Ln
 vn:Value
 vs:Value
def LV.cells(x:LV):List Value:=x.ln.front.cells++[.bool x.ln.skip,x.vn,.int .i64 x.ln.st,.int .i64 x.ln.en,x.vs]
def Q4j:Ln:=⟨⟨0,zero8⟩,false,[],0,0,[]⟩
abbrev Q30:=Q18 Wd.cells 9 76
structure LV.At(w:World)(x:LV):Prop where
 nodes:Q15 w x.vn x.ln.ns
 syms:Q30 w x.vs x.ln.syms
 front:x.ln.front.ls.length=8
 small:x.ln.ns.length<=5000
theorem z6s{w:World}{base size n:Nat}{e:TypeId}{v:Value}{xs:List Value}(h:w.ownsRow base e size v n xs):v.oneCell'=true:=by
 obtain⟨a,c,rfl⟩:=z0c h;rfl
theorem LV.cells_len{x:LV}(h:x.ln.front.ls.length=8):x.cells.length=14:=by simp[LV.cells,Wd.cells,h]
theorem LV.At.one{w:World}{x:LV}(h:x.At w):x.cells.toArray.all (·.oneCell')=true:=by
 apply qCq;have h1:=z6s h.nodes.own;have h2:=z6s h.syms.own;intro v hv;simp[LV.cells,Wd.cells]at hv;rcases hv with rfl|⟨a,_,rfl⟩|rfl|rfl|rfl|rfl|rfl
 ·rfl
 ·rfl
 ·rfl
 ·exact h1
 ·rfl
 ·rfl
 exact h2
theorem LV.At.fresh{w w':World}{x:LV}(h:x.At w)(hm:Q0a w w'):x.At w':=⟨h.nodes.fresh hm,h.syms.fresh hm,h.front,h.small⟩
theorem Q1e:(Tryz.prog.info? 81).map (·.size)=some 14:=by kernel_rfl
theorem Q09{x:LV}(h:x.ln.front.ls.length=8):(Tryz.prog.info? 81).map (·.size)=some x.cells.toArray.size:=by rw[List.size_toArray,LV.cells_len h];exact Q1e
theorem LV.size{x:LV}(h:x.ln.front.ls.length=8):x.cells.toArray.size=14:=by rw[List.size_toArray,LV.cells_len h]
def zeroLV:LV:=⟨Q4j,.slice none 0 0,.slice none 0 0⟩
theorem z4f(w:World):zeroLV.At w:=⟨⟨qAh _ _ _ _,fun _ h=>by cases h⟩,Q18.nil _ _ _ _,rfl,by simp[zeroLV,Q4j]⟩
theorem Q59{ls:List Int}(h:ls.length=8):∃a b c d e f g k,ls=[a,b,c,d,e,f,g,k]:=by
 match ls,h with
 | [a,b,c,d,e,f,g,k],_=>exact⟨a,b,c,d,e,f,g,k,rfl⟩
def Q16(d:Wd):Bool:=Q1a (d.ls.getD 0 0)
theorem z5m(d:Wd)(w:World)(hl:d.ls.length=8)(hb:0<=d.ls.getD 0 0/\d.ls.getD 0 0<=255) :
  Calls Tryz.prog 60 #[.agg d.cells.toArray] w fun e w'=>e=.returned (.bool (Q16 d))/\Q0a w w':=by
 obtain⟨p,ls⟩:=d;obtain⟨a,b,c,d,e,f,g,k,rfl⟩:=Q59 hl;have e1:(Wd.cells ⟨p,[a,b,c,d,e,f,g,k]⟩).toArray=#[.int .i64 p,.int .u8 a,.int .u8 b,.int .u8 c,.int .u8 d,.int .u8 e,.int .u8 f,.int .u8 g,.int .u8 k]:=rfl;have e2:Q16 ⟨p,[a,b,c,d,e,f,g,k]⟩=Q1a a:=rfl;rw[e1,e2];simp at hb;obtain⟨j0,j1⟩:=hb;clear e1 e2 hl;go_enter Tryz.func60,Tryz.ntmps60
 go_wp2_with (go_at_call 99;refine csm (z6j _ _) ?_)
 go_ret;exact⟨rfl,(mRf _ _).alloc _⟩
theorem z2l(x:LV)(w:World)(hl:x.ln.front.ls.length=8)(hb:0<=x.ln.front.ls.getD 0 0/\x.ln.front.ls.getD 0 0<=255) :
  Calls Tryz.prog 30 #[.agg x.cells.toArray] w fun e w'=>e=.returned (.bool (!Q16 x.ln.front))/\Q0a w w':=by
 have RG:Hid ((w.alloc (.cells x.cells.toArray 81)).rangeAt w.heap.size 0 x.ln.front.cells):=by
  intro j v hj;rw[Q0b (z0a _ _)];simp only[LV.cells,qBy,qDp];rw[qAl (qS hj).1];exact hj
 go_enter Tryz.func30,Tryz.ntmps30
 go_wp2_with (first
  |(go_at_call 60;refine(z5m _ _ hl hb).mono ?_;rintro e w1⟨rfl,hf⟩)
  |(refine qAe rfl 76 _ rfl w.heap.size 0 rfl x.ln.front.cells _ RG.out qAx rfl (by rw[Wd.cells_len hl];exact Q2s) ?_))
 go_ret;exact⟨rfl,((mRf _ w).alloc _).trans hf⟩
def Q6q(s:ByteArray)(i:Int)(d:Wd):Ln × Int × Bool :=
 if atB s i≠61/\atB s i≠126 then(Q4j,i,false)
 else if(Q1r s (i+1)).ok=false then(Q4j,(Q1r s (i+1)).next,false)
 else if atB s (Q1r s (i+1)).next≠10 then(Q4j,(Q1r s (i+1)).next,false)
 else(⟨d,atB s i==126,(Q1r s (i+1)).ns,(Q1r s (i+1)).st,(Q1r s (i+1)).en,[]⟩,(Q1r s (i+1)).next+1,true)
def Q7r(w:World)(r:Ln × Int × Bool)(e:Ending)(w':World):Prop :=
 ∃x:LV,x.ln=r.1/\e=.returned (.tuple #[.agg x.cells.toArray,.int .i64 r.2.1,.bool r.2.2])/\Q0a w w'/\x.At w'/\(∀k,x.vn.ownBlock=some k->w.heap.size<=k)/\(∀k,x.vs.ownBlock=some k->w.heap.size<=k)
theorem z11{w w':World}{i:Int}{e:Ending}(he:e=.returned (.tuple #[.agg zeroLV.cells.toArray,.int .i64 i,.bool false]))(hf:Q0a w w'):Q7r w (Q4j,i,false) e w' :=
 ⟨zeroLV,rfl,he,hf,z4f _,by simp[zeroLV,Value.ownBlock],by simp[zeroLV,Value.ownBlock]⟩
theorem y4i(s:ByteArray)(i:Int)(h0:0<=i)(h1:i<=s.size):Q8t s i 0 (Q1r s i):=z5k s 6 i [] h0 h1
abbrev Q7e(p a b c d e f g k:Int):Array Value:=#[.int .i64 p,.int .u8 a,.int .u8 b,.int .u8 c,.int .u8 d,.int .u8 e,.int .u8 f,.int .u8 g,.int .u8 k]
theorem y5n(s:ByteArray)(i:Int)(dd:Wd)(w:World)(hs:s.size<=1000)(h0:0<=i)(h1:i<=2000)(hl:dd.ls.length=8) :
  Calls Tryz.prog 90 #[.string s,.int .i64 i,.agg dd.cells.toArray] w fun e w'=>Q7r w (Q6q s i dd) e w':=by
 obtain⟨p,ls⟩:=dd;obtain⟨a,b,c,d,e,f,g,k,rfl⟩:=Q59 hl;have e1:(Wd.cells ⟨p,[a,b,c,d,e,f,g,k]⟩).toArray=Q7e p a b c d e f g k:=rfl;rw[e1];generalize hR:Q6q s i ⟨p,[a,b,c,d,e,f,g,k]⟩=R;unfold Q6q at hR;clear e1 hl;by_cases hc:atB s i≠61/\atB s i≠126
 ·rw[qAb hc]at hR;have c1:(atB s i != 61)=true:=by simpa using hc.1
  have c2:(atB s i != 126)=true:=by simpa using hc.2
  have HR:=hid hR;clear hR hc;go_enter Tryz.func90,Tryz.ntmps90
  go_wp2_with (first
   |(go_at_call 97;refine csm (z0x _ _ _ (by unfold maxLen;omega)) ?_))
  refine qAc (z0i rfl _ _ (w.heap.size+1) 81 zeroLV.cells.toArray (0,0) _ rfl (qBa _ _ _) qAm rfl Q1e) rfl ?_;rw[← HR.out];exact z11 rfl (((mRf _ w).alloc _).alloc _)
 rw[qAa hc]at hR;have j4:(atB s i != 61)=false∨((atB s i != 61)=true/\(atB s i != 126)=false):=by
  by_cases h:atB s i=61
  ·left;simpa using h
  right;exact⟨by simpa using h,by simp;omega⟩
 have j6:=z0r (s:=s) (i:=i) (by omega);have hG:=y4i s (i+1) (by omega) (by omega);obtain⟨g1,g2,g3,g4⟩:=hG;cases hok:(Q1r s (i+1)).ok
 ·rw[qAb hok]at hR;have HR:=hid hR;clear hR hc g3;have RB:=hid (fun w=>x7u s (i+1) w hs (by omega) (by omega) hok);generalize Q1r s (i+1)=pp at g1 g2 g4 HR RB;rcases j4 with c1|⟨c1,c2⟩;all_goals
   go_enter Tryz.func90,Tryz.ntmps90
   go_wp2_with (first
    |(go_at_call 97;refine csm (z0x _ _ _ (by unfold maxLen;omega)) ?_)
    |(go_at_call 117;refine(RB.out _).mono ?_;rintro e w1⟨rfl,j0⟩;have hz:w.heap.size+1<w1.heap.size:=(by have:=j0.size;simp at this;omega))
    |(refine qAg rfl 81 _ _ rfl (w.heap.size+1) zeroLV.cells.toArray rfl rfl _ _ (z0b (j0.at (qBa _ _ _) id)) Q1e rfl (z4f w).one ?_))
   refine qAc (z0i rfl _ _ (w.heap.size+1) 81 zeroLV.cells.toArray (0,0) _ rfl (qAn _ _ _ _ _ _ (z0b (j0.at (qBa _ _ _) id))) qAm rfl Q1e) rfl ?_;rw[← HR.out];exact z11 rfl (((((((mRf _ w).alloc _).alloc _).trans j0).alloc _)).setRow (by simp) _)
 rw[qAa (by simp[hok])]at hR;have g5:=g3 hok;have RG:=hid (fun w=>x4w s (i+1) w hs (by omega) (by omega) hok);generalize Q1r s (i+1)=pp at g1 g2 g4 g5 hR RG;by_cases j1:atB s pp.next=10
 ·rw[qAa (by simp[j1])]at hR;have HR:=hid hR;have c3:(atB s pp.next != 10)=false:=by simp[j1]
  clear hR hc g3 hok j1;rcases j4 with c1|⟨c1,c2⟩;all_goals
   go_enter Tryz.func90,Tryz.ntmps90
   go_wp2_with (first
    |(go_at_call 97;refine csm (z0x _ _ _ (by unfold maxLen;omega)) ?_)
    |(go_at_call 117;refine(RG.out _).mono ?_;rintro e w1⟨v,rfl,j0,j2,j5⟩;obtain⟨ao,cap,hv⟩:=z0c j2.own;subst hv;have hz:w.heap.size+1<w1.heap.size:=(by have:=j0.size;simp at this;omega);have H0:=hid (j0.at (qBg _ _ _) id))
    |(refine qAf rfl 76 _ rfl w.heap.size rfl _ _ _ _ (z0b H0.out) qAx rfl Q2s ?_)
    |(refine qAg rfl 81 _ _ rfl (w.heap.size+1) (LV.cells ⟨⟨⟨p,[a,b,c,d,e,f,g,k]⟩,atB s i==126,pp.ns,pp.st,pp.en,[]⟩,.slice ao pp.ns.length cap,.slice none 0 0⟩).toArray rfl rfl _ _ (z0b (j0.at (qBa _ _ _) id)) Q1e rfl ?_ ?_))
   case refine_1 =>
    refine LV.At.one (w:=w1) ⟨j2,Q18.nil _ _ _ _,rfl,?_⟩;show pp.ns.length<=5000;simp at g4;omega
   refine qAc (z0i rfl _ _ (w.heap.size+1) 81 _ (0,0) _ rfl (qAn _ _ _ _ _ _ (z0b (j0.at (qBa _ _ _) id))) qAm rfl Q1e) rfl ?_;rw[← HR.out];have m1:Q0a w1 ((w1.alloc (.cells #[.slice ao pp.ns.length cap,.int .i64 pp.st,.int .i64 pp.en] 79 (0,0)))):=(mRf _ w1).alloc _;have j3:∀k,(Value.slice ao pp.ns.length cap).ownBlock=some k->w.heap.size+2<=k:=fun k hk=>by have:=j5 k hk;simpa using this
   refine⟨⟨⟨⟨p,[a,b,c,d,e,f,g,k]⟩,atB s i==126,pp.ns,pp.st,pp.en,[]⟩,.slice ao pp.ns.length cap,.slice none 0 0⟩,rfl,rfl,(((((((mRf _ w).alloc _).alloc _).trans j0).alloc _)).setRow (by simp) _),⟨?_,Q18.nil _ _ _ _,rfl,by show pp.ns.length<=5000;simp at g4;omega⟩,fun k hk=>by have:=j3 k hk;omega,by simp[Value.ownBlock]⟩;exact(j2.fresh m1).kept (S:=fun k=>k=w.heap.size+1) (Mod.setRow (S:=fun k=>k=w.heap.size+1) (mRf _ _) (fun _=>rfl) _) (fun k hk e=>by have:=j3 k hk;omega)
 rw[qAb j1]at hR;have HR:=hid hR;have c3:(atB s pp.next != 10)=true:=by simpa using j1
 clear hR hc g3 hok j1;rcases j4 with c1|⟨c1,c2⟩;all_goals
  go_enter Tryz.func90,Tryz.ntmps90
  go_wp2_with (first
   |(go_at_call 97;refine csm (z0x _ _ _ (by unfold maxLen;omega)) ?_)
   |(go_at_call 117;refine(RG.out _).mono ?_;rintro e w1⟨v,rfl,j0,j2,j5⟩;obtain⟨ao,cap,hv⟩:=z0c j2.own;subst hv;have hz:w.heap.size+1<w1.heap.size:=(by have:=j0.size;simp at this;omega))
   |(refine qAg rfl 81 _ _ rfl (w.heap.size+1) zeroLV.cells.toArray rfl rfl _ _ (z0b (j0.at (qBa _ _ _) id)) Q1e rfl (z4f w).one ?_))
  refine qAc (z0i rfl _ _ (w.heap.size+1) 81 zeroLV.cells.toArray (0,0) _ rfl (qAn _ _ _ _ _ _ (z0b (j0.at (qBa _ _ _) id))) qAm rfl Q1e) rfl ?_;rw[← HR.out];exact z11 rfl (((((((mRf _ w).alloc _).alloc _).trans j0).alloc _)).setRow (by simp) _)
end Go.Proofs.YtbdpfmalabgmbaaGreat
