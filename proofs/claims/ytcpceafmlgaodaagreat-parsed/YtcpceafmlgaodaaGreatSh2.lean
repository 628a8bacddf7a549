import Derived.Test.YtcpceafmlgaodaaGreatSh1
namespace Go.Proofs.YtcpceafmlgaodaaGreat
open Go.RowKit
set_option maxRecDepth 100000
set_option maxHeartbeats 16000000
set_option linter.unusedVariables false
set_option linter.unusedSimpArgs false
abbrev Q7v(r:Wd × Int × Bool):Value:=.tuple#[.agg r.1.cells.toArray,.int .i64 r.2.1,.bool r.2.2]
theorem x8c(p:Int)(ls:List Int)(n:Nat)(c:Int):(Wd.cells⟨p,ls⟩).toArray.setIfInBounds(n+1)(.int .u8 c)=(Wd.cells⟨p,ls.set n c⟩).toArray:=by
 simp[Wd.cells,List.map_set]
theorem v2i(p:Int)(ls:List Int)(n:Nat)(h:n<ls.length):(Wd.cells⟨p,ls⟩).toArray[n+1]? = some(.int .u8(ls.getD n 0)):=by
 simp[Wd.cells,h]
theorem y10{c:Int}(h:Q0n c=true):97<=c/\c<=122:=by simp[Q0n]at h;omega
theorem x4a{c:Int}(h:Q1n c=true):65<=c/\c<=90:=by simp[Q1n]at h;omega
theorem y67(s:ByteArray)(i:Int)(w:World)(hs:s.size<=1000)(h0:0<=i)(h1:i<=2000)(hc:(!isSmallB(atB s i)&&!isCapB(atB s i))=true) :
  Calls Tryz.prog 98#[.string s,.int .i64 i]w fun e w'=>e=.returned(Q7v(Q09 s i))/\Q0a w w':=by
 have e1:Q09 s i=(⟨0,Q5l⟩,i,false):=by unfold Q09;rw[if_pos hc]
 rw[e1];simp only[Bool.and_eq_true,Bool.not_eq_true']at hc;obtain⟨c1,c2⟩:=hc;clear e1;go_enter Tryz.func98,Tryz.ntmps98
 go_wp2_with(first
  |(go_at_call 107;refine(z0v _ _ _(by unfold maxLen;omega)).mono ?_;rintro e w'⟨rfl,hw⟩;rw[hw];clear hw)
  |(go_at_call 117;refine(z3o _ _).mono ?_;rw[c1];rintro e w'⟨rfl,hw⟩;rw[hw];clear hw)
  |(go_at_call 109;refine(z6c _ _).mono ?_;rw[c2];rintro e w'⟨rfl,hw⟩;rw[hw];clear hw))
 refine bodyPost_ret(z0h rfl _ _ w.heap.size 111(Wd.cells⟨0,Q5l⟩).toArray(0,0)_ rfl ?_ Tryz.underlying111 rfl Q2v)rfl⟨rfl,?_⟩
 ·exact heap_alloc2_old _ _ _
 exact((mRf _ w).alloc _).alloc _
theorem y3f(s:ByteArray)(i:Int)(w:World)(hs:s.size<=1000)(h0:0<=i)(h1:i<=2000)(hc:(!isSmallB(atB s i)&&!isCapB(atB s i))=false) :
  Calls Tryz.prog 98#[.string s,.int .i64 i]w fun e w'=>e=.returned(Q7v(Q09 s i))/\Q0a w w':=by
 have e1:Q09 s i=(⟨i,(Q2l s i 9 1(Q5l.set 0(atB s i))).1⟩,(Q2l s i 9 1(Q5l.set 0(atB s i))).2,true):=by unfold Q09;rw[if_neg(by simp[hc])]
 rw[e1];have j0:=z64 s i 9 1(Q5l.set 0(atB s i))rfl;generalize hR:Q2l s i 9 1(Q5l.set 0(atB s i))=R at j0;have HR:=hid hR;have j5:=hid j0;have j7:0<=atB s i/\atB s i<=255:=by
  have:=z8f s i;refine⟨?_,by omega⟩;simp only[Bool.and_eq_false_iff,Bool.not_eq_false']at hc;rcases hc with h|h
  ·have:=y10 h;omega
  have:=x4a h;omega
 obtain⟨cb0,cb1⟩:=j7;have j6:Q0n(atB s i)=true∨Q0n(atB s i)=false/\Q1n(atB s i)=true:=by
  simp only[Bool.and_eq_false_iff,Bool.not_eq_false']at hc;cases h:Q0n(atB s i)
  ·right;rcases hc with h2|h2
   ·rw[h]at h2;cases h2
   exact⟨rfl,h2⟩
  exact .inl rfl
 clear e1 hR hc j0;rcases j6 with c1|⟨c1,c2⟩;all_goals
  go_enter Tryz.func98,Tryz.ntmps98
  go_wp2_with(first
   |(go_at_call 107;refine(z0v _ _ _(by unfold maxLen;omega)).mono ?_;rintro e w'⟨rfl,hw⟩;rw[hw];clear hw)
   |(go_at_call 117;refine(z3o _ _).mono ?_;rw[c1];rintro e w'⟨rfl,hw⟩;rw[hw];clear hw)
   |(go_at_call 109;refine(z6c _ _).mono ?_;rw[c2];rintro e w'⟨rfl,hw⟩;rw[hw];clear hw))
  go_loopw [8,9](fun x8 x9 wr=>∃(f n:Nat)(ls:List Int)(c:Int),x8=.int .i64 c/\x9=.int .i64 n/\Q2l s i f n ls=R/\ls.length=8/\n<=8/\10<=f+n /\
    wr.heap[w.heap.size]? = some(.cells(Wd.cells⟨0,Q5l⟩).toArray 111(0,0))/\wr.heap[w.heap.size+1]? = some(.cells(Wd.cells⟨i,ls⟩).toArray 111(0,0))/\Q0a w wr)
    (fun _ x _=>9-(intOf x).toNat)
  case atStart =>
   refine⟨9,1,Q5l.set 0(atB s i),_,rfl,rfl,HR.out,rfl,by omega,by omega,heap_alloc2_old _ _ _,?_,((mRf _ w).alloc _).alloc _⟩;exact heap_alloc2_new _ _ _
  obtain⟨f,n,ls,c,rfl,rfl,hR,hl,hn8,hfu,hb0,hb1,hfr⟩:=hrel;obtain⟨f,rfl⟩:∃g,f=g+1:=⟨f-1,by omega⟩;unfold Q2l at hR;have j8:=hid(Q2a(B:=9)n(by omega));have j3:=hid hb0;have j1:=hid hb1;have HL:=hid hl;have j4:=z8f s(i+n);obtain⟨hab0,hab1⟩:=j4;clear hb0 hb1 hl;by_cases h8:n<8
  ·rw[if_pos h8]at hR;cases hsm:Q0n(atB s(i+n))
   ·rw[hsm]at hR;simp only[Bool.false_eq_true,if_false]at hR;have j2:=hid hR;clear hR;go_wp2_with(first
     |(go_at_call 107;refine(z0v _ _ _(by unfold maxLen;omega)).mono ?_;rintro e w'⟨rfl,hw⟩;rw[hw];clear hw)
     |(go_at_call 117;refine(z3o _ _).mono ?_;rw[hsm];rintro e w'⟨rfl,hw⟩;rw[hw];clear hw)
     |(refine wpList_load_row rfl 111 _ rfl(w.heap.size+1)rfl _ _ _ _ j1.out Tryz.underlying111 rfl(Q1w HL.out)?_)
     |(refine wpList_store_row rfl 111 _ _ rfl w.heap.size _ rfl rfl _ _ j3.out(Q1w HL.out)(Q0l rfl(Wd.size HL.out))(Wd.one _)?_))
    refine bodyPost_ret(z0h rfl _ _ w.heap.size 111 _(0,0)_ rfl(setRow_heap _ _ _ _ _ _ j3.out)Tryz.underlying111 rfl(Q1w HL.out))rfl⟨?_,hfr.setRow(by simp)_⟩;rw[← j2.out];rfl
   rw[hsm]at hR;simp only[if_true]at hR;have j2:=hid hR;have j9:=y10 hsm;have k1:wr.cell?⟨w.heap.size+1,n+1,none⟩=some(.int .u8(ls.getD n 0)):=by rw[Q0b j1.out,v2i _ _ _(by rw[HL.out];omega)]
   have ja:wr.cell?⟨w.heap.size+1,1+n,none⟩=some(.int .u8(ls.getD n 0)):=by rw[Nat.add_comm 1 n];exact k1
   have k2:=Q0h j1.out;clear hR;go_wp2_with(first
    |(go_at_call 107;refine(z0v _ _ _(by unfold maxLen;omega)).mono ?_;rintro e w'⟨rfl,hw⟩;rw[hw];clear hw)
    |(go_at_call 117;refine(z3o _ _).mono ?_;rw[hsm];rintro e w'⟨rfl,hw⟩;rw[hw];clear hw))
   go_roundw
   case rel =>
    refine⟨f,n+1,_,_,rfl,by go_num,j2.out,by simpa using HL.out,by omega,by omega,?_,?_,hfr.setCell(by simp)_⟩
    ·exact z0i j3.out(by simp)
    rw[zhs j1.out];first
     |rw[x8c]
     |rw[Nat.add_comm 1 n,x8c]
   exact j8.out
  rw[if_neg h8]at hR;have hn:n=8:=by omega
  subst hn;have j2:=hid hR;clear hR;go_wp2_with(first
   |(refine wpList_load_row rfl 111 _ rfl(w.heap.size+1)rfl _ _ _ _ j1.out Tryz.underlying111 rfl(Q1w HL.out)?_)
   |(refine wpList_store_row rfl 111 _ _ rfl w.heap.size _ rfl rfl _ _ j3.out(Q1w HL.out)(Q0l rfl(Wd.size HL.out))(Wd.one _)?_))
  refine bodyPost_ret(z0h rfl _ _ w.heap.size 111 _(0,0)_ rfl(setRow_heap _ _ _ _ _ _ j3.out)Tryz.underlying111 rfl(Q1w HL.out))rfl⟨?_,hfr.setRow(by simp)_⟩;rw[← j2.out];rfl
theorem z7x(s:ByteArray)(i:Int)(w:World)(hs:s.size<=1000)(h0:0<=i)(h1:i<=2000) :
  Calls Tryz.prog 98#[.string s,.int .i64 i]w fun e w'=>e=.returned(Q7v(Q09 s i))/\Q0a w w':=by
 cases hc:(!isSmallB(atB s i)&&!isCapB(atB s i))
 ·exact y3f s i w hs h0 h1 hc
 exact y67 s i w hs h0 h1 hc
structure Ln where
 front:Wd
 skip:Bool
 ns:List Q0p
 st:Int
 en:Int
 syms:List Wd
structure LV where
 ln:Ln
 vn:Value
 vs:Value
def LV.cells(x:LV):List Value:=x.ln.front.cells++[.bool x.ln.skip,x.vn,.int .i64 x.ln.st,.int .i64 x.ln.en,x.vs]
def Q4h:Ln:=⟨⟨0,Q5l⟩,false,[],0,0,[]⟩
abbrev Q33:=Q2k Wd.cells 9 111
structure LV.At(w:World)(x:LV):Prop where
 nodes:Q18 w x.vn x.ln.ns
 syms:Q33 w x.vs x.ln.syms
 front:x.ln.front.ls.length=8
 small:x.ln.ns.length<=5000
theorem z55{w:World}{base size n:Nat}{e:TypeId}{v:Value}{xs:List Value}(h:w.ownsRow base e size v n xs):v.oneCell'=true:=by
 obtain⟨a,c,rfl⟩:=z0d h;rfl
theorem LV.cells_len{x:LV}(h:x.ln.front.ls.length=8):x.cells.length=14:=by simp[LV.cells,Wd.cells,h]
theorem LV.At.one{w:World}{x:LV}(h:x.At w):x.cells.toArray.all(·.oneCell')=true:=by
 apply all_oneCell_toArray;have h1:=z55 h.nodes.own;have h2:=z55 h.syms.own;intro v hv;simp[LV.cells,Wd.cells]at hv;rcases hv with rfl|⟨a,_,rfl⟩|rfl|rfl|rfl|rfl|rfl
 ·rfl
 ·rfl
 ·rfl
 ·exact h1
 ·rfl
 ·rfl
 exact h2
theorem LV.At.fresh{w w':World}{x:LV}(h:x.At w)(hm:Q0a w w'):x.At w':=⟨h.nodes.fresh hm,h.syms.fresh hm,h.front,h.small⟩
theorem Q1m:(Tryz.prog.info? 116).map(·.size)=some 14:=by kernel_rfl
theorem Q1b{x:LV}(h:x.ln.front.ls.length=8):(Tryz.prog.info? 116).map(·.size)=some x.cells.toArray.size:=by rw[List.size_toArray,LV.cells_len h];exact Q1m
theorem LV.size{x:LV}(h:x.ln.front.ls.length=8):x.cells.toArray.size=14:=by rw[List.size_toArray,LV.cells_len h]
def Q2p:LV:=⟨Q4h,.slice none 0 0,.slice none 0 0⟩
theorem z34(w:World):Q2p.At w:=⟨⟨World.ownsRow_nil _ _ _ _,fun _ h=>by cases h⟩,Q2k.nil _ _ _ _,rfl,by simp[Q2p,Q4h]⟩
theorem Q6m{ls:List Int}(h:ls.length=8):∃a b c d e f g k,ls=[a,b,c,d,e,f,g,k]:=by
 match ls,h with
 | [a,b,c,d,e,f,g,k],_=>exact⟨a,b,c,d,e,f,g,k,rfl⟩
def Q3m(d:Wd):Bool:=Q1n(d.ls.getD 0 0)
theorem z5k(d:Wd)(w:World)(hl:d.ls.length=8)(hb:0<=d.ls.getD 0 0/\d.ls.getD 0 0<=255) :
  Calls Tryz.prog 82#[.agg d.cells.toArray]w fun e w'=>e=.returned(.bool(Q3m d))/\Q0a w w':=by
 obtain⟨p,ls⟩:=d;obtain⟨a,b,c,d,e,f,g,k,rfl⟩:=Q6m hl;have e1:(Wd.cells⟨p,[a,b,c,d,e,f,g,k]⟩).toArray=#[.int .i64 p,.int .u8 a,.int .u8 b,.int .u8 c,.int .u8 d,.int .u8 e,.int .u8 f,.int .u8 g,.int .u8 k]:=rfl;have e2:Q3m⟨p,[a,b,c,d,e,f,g,k]⟩=Q1n a:=rfl;rw[e1,e2];simp at hb;obtain⟨hb0,hb1⟩:=hb;clear e1 e2 hl;go_enter Tryz.func82,Tryz.ntmps82
 go_wp2_with(go_at_call 109;refine(z6c _ _).mono ?_;rintro e w'⟨rfl,hw⟩;rw[hw];clear hw)
 go_ret;exact⟨rfl,(mRf _ _).alloc _⟩
theorem z2v(x:LV)(w:World)(hl:x.ln.front.ls.length=8)(hb:0<=x.ln.front.ls.getD 0 0/\x.ln.front.ls.getD 0 0<=255) :
  Calls Tryz.prog 48#[.agg x.cells.toArray]w fun e w'=>e=.returned(.bool(!headB x.ln.front))/\Q0a w w':=by
 have RG:Hid((w.alloc(.cells x.cells.toArray 116)).rangeAt w.heap.size 0 x.ln.front.cells):=by
  intro j v hj;rw[Q0b(z0a _ _)];simp only[LV.cells,Nat.zero_add,List.getElem?_toArray];rw[List.getElem?_append_left(qS hj).1];exact hj
 go_enter Tryz.func48,Tryz.ntmps48
 go_wp2_with(first
  |(go_at_call 82;refine(z5k _ _ hl hb).mono ?_;rintro e w1⟨rfl,hf⟩)
  |(refine wpList_load_mid rfl 111 _ rfl w.heap.size 0 rfl x.ln.front.cells _ RG.out Tryz.underlying111 rfl(by rw[Wd.cells_len hl];exact Q2v)?_))
 go_ret;exact⟨rfl,((mRf _ w).alloc _).trans hf⟩
def Q6r(s:ByteArray)(i:Int)(d:Wd):Ln × Int × Bool :=
 if atB s i≠61/\atB s i≠126 then(Q4h,i,false)
 else if(Q1s s(i+1)).ok=false then(Q4h,(Q1s s(i+1)).next,false)
 else if atB s(Q1s s(i+1)).next≠10 then(Q4h,(Q1s s(i+1)).next,false)
 else(⟨d,atB s i==126,(Q1s s(i+1)).ns,(Q1s s(i+1)).st,(Q1s s(i+1)).en,[]⟩,(Q1s s(i+1)).next+1,true)
def Q7x(w:World)(r:Ln × Int × Bool)(e:Ending)(w':World):Prop :=
 ∃x:LV,x.ln=r.1/\e=.returned(.tuple#[.agg x.cells.toArray,.int .i64 r.2.1,.bool r.2.2])/\Q0a w w'/\x.At w'/\(∀k,x.vn.ownBlock=some k->w.heap.size<=k)/\(∀k,x.vs.ownBlock=some k->w.heap.size<=k)
theorem z1v{w w':World}{i:Int}{e:Ending}(he:e=.returned(.tuple#[.agg Q2p.cells.toArray,.int .i64 i,.bool false]))(hf:Q0a w w'):Q7x w(Q4h,i,false)e w' :=
 ⟨Q2p,rfl,he,hf,z34 _,by simp[Q2p,Value.ownBlock],by simp[Q2p,Value.ownBlock]⟩
theorem y36(s:ByteArray)(i:Int)(h0:0<=i)(h1:i<=s.size):Q8s s i 0(Q1s s i):=z5e s 6 i []h0 h1
abbrev Q68(p a b c d e f g k:Int):Array Value:=#[.int .i64 p,.int .u8 a,.int .u8 b,.int .u8 c,.int .u8 d,.int .u8 e,.int .u8 f,.int .u8 g,.int .u8 k]
theorem y30(s:ByteArray)(i:Int)(dd:Wd)(w:World)(hs:s.size<=1000)(h0:0<=i)(h1:i<=2000)(hl:dd.ls.length=8) :
  Calls Tryz.prog 100#[.string s,.int .i64 i,.agg dd.cells.toArray]w fun e w'=>Q7x w(Q6r s i dd)e w':=by
 obtain⟨p,ls⟩:=dd;obtain⟨a,b,c,d,e,f,g,k,rfl⟩:=Q6m hl;have e1:(Wd.cells⟨p,[a,b,c,d,e,f,g,k]⟩).toArray=Q68 p a b c d e f g k:=rfl;rw[e1];generalize hR:Q6r s i⟨p,[a,b,c,d,e,f,g,k]⟩=R;unfold Q6r at hR;clear e1 hl;by_cases hc:atB s i≠61/\atB s i≠126
 ·rw[if_pos hc]at hR;have c1:(atB s i != 61)=true:=by simpa using hc.1
  have c2:(atB s i != 126)=true:=by simpa using hc.2
  have HR:=hid hR;clear hR hc;go_enter Tryz.func100,Tryz.ntmps100
  go_wp2_with(first
   |(go_at_call 107;refine(z0v _ _ _(by unfold maxLen;omega)).mono ?_;rintro e w'⟨rfl,hw⟩;rw[hw];clear hw))
  refine bodyPost_ret(z0h rfl _ _(w.heap.size+1)116 Q2p.cells.toArray(0,0)_ rfl(heap_alloc2_new _ _ _)Tryz.underlying116 rfl Q1m)rfl ?_;rw[← HR.out];exact z1v rfl(((mRf _ w).alloc _).alloc _)
 rw[if_neg hc]at hR;have j1:(atB s i != 61)=false∨((atB s i != 61)=true/\(atB s i != 126)=false):=by
  by_cases h:atB s i=61
  ·left;simpa using h
  right;exact⟨by simpa using h,by simp;omega⟩
 have j2:=z0q(s:=s)(i:=i)(by omega);have hG:=y36 s(i+1)(by omega)(by omega);obtain⟨g1,g2,g3,g4⟩:=hG;cases hok:(Q1s s(i+1)).ok
 ·rw[if_pos hok]at hR;have HR:=hid hR;clear hR hc g3;have RB:=hid(fun w=>x7r s(i+1)w hs(by omega)(by omega)hok);generalize Q1s s(i+1)=pp at g1 g2 g4 HR RB;rcases j1 with c1|⟨c1,c2⟩;all_goals
   go_enter Tryz.func100,Tryz.ntmps100
   go_wp2_with(first
    |(go_at_call 107;refine(z0v _ _ _(by unfold maxLen;omega)).mono ?_;rintro e w'⟨rfl,hw⟩;rw[hw];clear hw)
    |(go_at_call 118;refine(RB.out _).mono ?_;rintro e w1⟨rfl,hf1⟩;have hz:w.heap.size+1<w1.heap.size:=(by have:=hf1.size;simp at this;omega))
    |(refine wpList_store_row rfl 116 _ _ rfl(w.heap.size+1)Q2p.cells.toArray rfl rfl _ _(z0b(hf1.at(heap_alloc2_new _ _ _)(fun x=>x)))Q1m rfl(z34 w).one ?_))
   refine bodyPost_ret(z0h rfl _ _(w.heap.size+1)116 Q2p.cells.toArray(0,0)_ rfl(setRow_heap _ _ _ _ _ _(z0b(hf1.at(heap_alloc2_new _ _ _)(fun x=>x))))Tryz.underlying116 rfl Q1m)rfl ?_;rw[← HR.out];exact z1v rfl(((((((mRf _ w).alloc _).alloc _).trans hf1).alloc _)).setRow(by simp)_)
 rw[if_neg(by simp[hok])]at hR;have g5:=g3 hok;have RG:=hid(fun w=>x1c s(i+1)w hs(by omega)(by omega)hok);generalize Q1s s(i+1)=pp at g1 g2 g4 g5 hR RG;by_cases hnl:atB s pp.next=10
 ·rw[if_neg(by simp[hnl])]at hR;have HR:=hid hR;have c3:(atB s pp.next != 10)=false:=by simp[hnl]
  clear hR hc g3 hok hnl;rcases j1 with c1|⟨c1,c2⟩;all_goals
   go_enter Tryz.func100,Tryz.ntmps100
   go_wp2_with(first
    |(go_at_call 107;refine(z0v _ _ _(by unfold maxLen;omega)).mono ?_;rintro e w'⟨rfl,hw⟩;rw[hw];clear hw)
    |(go_at_call 118;refine(RG.out _).mono ?_;rintro e w1⟨v,rfl,hf1,hN1,hk1⟩;obtain⟨ao,cap,hv⟩:=z0d hN1.own;subst hv;have hz:w.heap.size+1<w1.heap.size:=(by have:=hf1.size;simp at this;omega);have H0:=hid(hf1.at(heap_alloc2_old _ _ _)(fun x=>x)))
    |(refine wpList_load_row rfl 111 _ rfl w.heap.size rfl _ _ _ _(z0b H0.out)Tryz.underlying111 rfl Q2v ?_)
    |(refine wpList_store_row rfl 116 _ _ rfl(w.heap.size+1)(LV.cells⟨⟨⟨p,[a,b,c,d,e,f,g,k]⟩,atB s i==126,pp.ns,pp.st,pp.en,[]⟩,.slice ao pp.ns.length cap,.slice none 0 0⟩).toArray rfl rfl _ _(z0b(hf1.at(heap_alloc2_new _ _ _)(fun x=>x)))Q1m rfl ?_ ?_))
   case refine_1 =>
    refine LV.At.one(w:=w1)⟨hN1,Q2k.nil _ _ _ _,rfl,?_⟩;show pp.ns.length<=5000;simp at g4;omega
   refine bodyPost_ret(z0h rfl _ _(w.heap.size+1)116 _(0,0)_ rfl(setRow_heap _ _ _ _ _ _(z0b(hf1.at(heap_alloc2_new _ _ _)(fun x=>x))))Tryz.underlying116 rfl Q1m)rfl ?_;rw[← HR.out];have m1:Q0a w1((w1.alloc(.cells#[.slice ao pp.ns.length cap,.int .i64 pp.st,.int .i64 pp.en]114(0,0)))):=(mRf _ w1).alloc _;have j0:∀k,(Value.slice ao pp.ns.length cap).ownBlock=some k->w.heap.size+2<=k:=fun k hk=>by have:=hk1 k hk;simpa using this
   refine⟨⟨⟨⟨p,[a,b,c,d,e,f,g,k]⟩,atB s i==126,pp.ns,pp.st,pp.en,[]⟩,.slice ao pp.ns.length cap,.slice none 0 0⟩,rfl,rfl,(((((((mRf _ w).alloc _).alloc _).trans hf1).alloc _)).setRow(by simp)_),⟨?_,Q2k.nil _ _ _ _,rfl,by show pp.ns.length<=5000;simp at g4;omega⟩,fun k hk=>by have:=j0 k hk;omega,by simp[Value.ownBlock]⟩;exact(hN1.fresh m1).kept(S:=fun k=>k=w.heap.size+1)(Mod.setRow(S:=fun k=>k=w.heap.size+1)(mRf _ _)(fun _=>rfl)_)(fun k hk e=>by have:=j0 k hk;omega)
 rw[if_pos hnl]at hR;have HR:=hid hR;have c3:(atB s pp.next != 10)=true:=by simpa using hnl
 clear hR hc g3 hok hnl;rcases j1 with c1|⟨c1,c2⟩;all_goals
  go_enter Tryz.func100,Tryz.ntmps100
  go_wp2_with(first
   |(go_at_call 107;refine(z0v _ _ _(by unfold maxLen;omega)).mono ?_;rintro e w'⟨rfl,hw⟩;rw[hw];clear hw)
   |(go_at_call 118;refine(RG.out _).mono ?_;rintro e w1⟨v,rfl,hf1,hN1,hk1⟩;obtain⟨ao,cap,hv⟩:=z0d hN1.own;subst hv;have hz:w.heap.size+1<w1.heap.size:=(by have:=hf1.size;simp at this;omega))
   |(refine wpList_store_row rfl 116 _ _ rfl(w.heap.size+1)Q2p.cells.toArray rfl rfl _ _(z0b(hf1.at(heap_alloc2_new _ _ _)(fun x=>x)))Q1m rfl(z34 w).one ?_))
  refine bodyPost_ret(z0h rfl _ _(w.heap.size+1)116 Q2p.cells.toArray(0,0)_ rfl(setRow_heap _ _ _ _ _ _(z0b(hf1.at(heap_alloc2_new _ _ _)(fun x=>x))))Tryz.underlying116 rfl Q1m)rfl ?_;rw[← HR.out];exact z1v rfl(((((((mRf _ w).alloc _).alloc _).trans hf1).alloc _)).setRow(by simp)_)
def Q21(s:ByteArray)(d:Wd):Nat->Int->List Wd->Ln × Int × Bool
 |0,next,_=>(Q4h,next,false)
 |f+1,next,syms =>
  if atB s next=32 then
   if(Q09 s(next+1)).2.2=false then(Q4h,(Q09 s(next+1)).2.1,false)
   else Q21 s d f(Q09 s(next+1)).2.1(syms++[(Q09 s(next+1)).1])
  else if atB s next≠10 then(Q4h,next,false)
  else(⟨d,false,[],0,0,syms⟩,next+1,true)
def Q6h(s:ByteArray)(i:Int)(d:Wd):Ln × Int × Bool :=
 if atB s i≠58 then(Q4h,i,false)else Q21 s d(s.size+5)(i+1) []
theorem infoWord:(Tryz.prog.info? 111).map(fun i=>(i.zero,i.size,i.bytes))=some(some(.agg#[.int .i64 0,.int .u8 0,.int .u8 0,.int .u8 0,.int .u8 0,.int .u8 0,.int .u8 0,.int .u8 0,.int .u8 0]),9,16):=by kernel_rfl
theorem infoWord':∃i,Tryz.prog.info? 111=some i/\i.zero=some(.agg#[.int .i64 0,.int .u8 0,.int .u8 0,.int .u8 0,.int .u8 0,.int .u8 0,.int .u8 0,.int .u8 0,.int .u8 0])/\i.size=9/\i.bytes=16:=by
 have h:=infoWord;cases hq:Tryz.prog.info? 111 with
 |none=>simp[hq]at h
 |some i=>simp[hq]at h;exact⟨i,rfl,h.1,h.2.1,h.2.2⟩
theorem z0y{α:Type}(cells:α->List Value)(xs:List α)(x:α):Q01 cells(xs++[x])=Q01 cells xs++cells x:=by simp[Q01]
theorem z2w{w:World}{A:Obj}{cs:Array Value}{l:List Value}{e:TypeId}(h:cs.toList=l):∀(j:Nat)(u:Value),l[j]? = some u->((w.alloc A).alloc(.cells cs e)).cell?((⟨w.heap.size+1,0,none⟩:Addr).add j)=some u:=by
 intro j u hj;rw[Addr.add_mid,Nat.zero_add,Q0b(heap_alloc2_new _ _ _)];subst h;simpa using hj
theorem y3h(s:ByteArray)(i:Int)(dd:Wd)(w:World)(hs:s.size<=1000)(h0:0<=i)(h1:i<=2000)(hl:dd.ls.length=8) :
  Calls Tryz.prog 99#[.string s,.int .i64 i,.agg dd.cells.toArray]w fun e w'=>Q7x w(Q6h s i dd)e w':=by
 obtain⟨p,ls⟩:=dd;obtain⟨a,b,c,d,e,f,g,k,rfl⟩:=Q6m hl;have e1:(Wd.cells⟨p,[a,b,c,d,e,f,g,k]⟩).toArray=Q68 p a b c d e f g k:=rfl;rw[e1];generalize hR:Q6h s i⟨p,[a,b,c,d,e,f,g,k]⟩=R;unfold Q6h at hR;clear e1 hl;by_cases hc:atB s i≠58
 ·rw[if_pos hc]at hR;have c1:(atB s i != 58)=true:=by simpa using hc
  have HR:=hid hR;clear hR hc;go_enter Tryz.func99,Tryz.ntmps99
  go_wp2_with(first
   |(go_at_call 107;refine(z0v _ _ _(by unfold maxLen;omega)).mono ?_;rintro e w'⟨rfl,hw⟩;rw[hw];clear hw))
  refine bodyPost_ret(z0h rfl _ _(w.heap.size+1)116 Q2p.cells.toArray(0,0)_ rfl(heap_alloc2_new _ _ _)Tryz.underlying116 rfl Q1m)rfl ?_;rw[← HR.out];exact z1v rfl(((mRf _ w).alloc _).alloc _)
 rw[if_neg hc]at hR;have c1:(atB s i != 58)=false:=by simpa using hc
 have jb:=z0q(s:=s)(i:=i)(by omega);have HR:=hid hR;obtain⟨i0,hi,hz0,hz1,hz2⟩:=infoWord';clear hR hc;go_enter Tryz.func99,Tryz.ntmps99
 go_wp2_with(first
  |(go_at_call 107;refine(z0v _ _ _(by unfold maxLen;omega)).mono ?_;rintro e w'⟨rfl,hw⟩;rw[hw];clear hw))
 go_loopw [9,10](fun x9 x10 wr=>∃(ff:Nat)(next:Int)(syms:List Wd),x10=.int .i64 next/\Q21 s⟨p,[a,b,c,d,e,f,g,k]⟩ff next syms=R/\0<=next/\next<=s.size/\(s.size:Int)+5<=ff+next/\(syms.length:Int)<=next/\(∀x∈syms,x.cells.length=9) /\
   wr.ownsRow(w.heap.size+2)111 9 x9 syms.length(Q01 Wd.cells syms) /\
   wr.heap[w.heap.size]? = some(.cells(Q68 p a b c d e f g k)111(0,0))/\wr.heap[w.heap.size+1]? = some(.cells Q2p.cells.toArray 116(0,0))/\Q0a w wr)
   (fun _ x _=>2001-(intOf x).toNat)
 case atStart =>
  exact⟨s.size+5,i+1,[],rfl,HR.out,by omega,by omega,by omega,by simp;omega,by simp,World.ownsRow_nil _ _ _ _,heap_alloc2_old _ _ _,heap_alloc2_new _ _ _,((mRf _ w).alloc _).alloc _⟩
 obtain⟨ff,next,syms,rfl,hR,hn0,hn1,hfu,hcnt,hwf,hown,hb0,hb1,hfr⟩:=hrel;obtain⟨ff,rfl⟩:∃g,ff=g+1:=⟨ff-1,by omega⟩;unfold Q21 at hR;have j6:=hid hb0;have j0:=hid hb1;have HO:=hid hown;have j5:=hid hwf;obtain⟨ao,cap,hv⟩:=z0d hown;have j3:=hown.lt;have j2:=hid j3;clear hb0 hb1 hown hwf j3;subst hv;by_cases h32:atB s next=32
 ·rw[if_pos h32]at hR;have c2:(atB s next==32)=true:=by simpa using h32
  have ja:=z0q(s:=s)(i:=next)(by omega);obtain⟨b1,b2,b3⟩:=z5c s(next+1)(by omega);have j4:=y3d s(next+1);have RW:=hid(fun w=>z7x s(next+1)w hs(by omega)(by omega));generalize Q09 s(next+1)=rr at b1 b2 b3 j4 RW hR;obtain⟨⟨pp,ls⟩,nx,okk⟩:=rr;obtain⟨a1,a2,a3,a4,a5,a6,a7,a8,rfl⟩:=Q6m j4;simp only[Q7v]at RW;have e2:(Wd.cells⟨pp,[a1,a2,a3,a4,a5,a6,a7,a8]⟩).toArray=Q68 pp a1 a2 a3 a4 a5 a6 a7 a8:=rfl;rw[e2]at RW;dsimp only at b1 b2 b3 hR;clear h32 j4 e2;cases okk
  ·simp only[if_true]at hR;have j1:=hid hR;clear hR b3;go_wp2_with(first
    |(go_at_call 107;refine(z0v _ _ _(by unfold maxLen;omega)).mono ?_;rintro e w'⟨rfl,hw⟩;rw[hw];clear hw)
    |(go_at_call 98;refine(RW.out _).mono ?_;rintro e w1⟨rfl,hf1⟩;have hz:w.heap.size+1<w1.heap.size:=(by have:=hf1.size;have:=z0j j0.out;omega))
    |(refine z0e rfl 111 _ _ rfl w1 _ _ _ rfl rfl rfl Q2v rfl rfl ?_)
    |(refine wpList_store_row rfl 116 _ _ rfl(w.heap.size+1)Q2p.cells.toArray rfl rfl _ _(z0b(hf1.at j0.out(fun x=>x)))Q1m rfl(z34 w).one ?_))
   refine bodyPost_ret(z0h rfl _ _(w.heap.size+1)116 Q2p.cells.toArray(0,0)_ rfl(setRow_heap _ _ _ _ _ _(z0b(hf1.at j0.out(fun x=>x))))Tryz.underlying116 rfl Q1m)rfl ?_;rw[← j1.out];exact z1v rfl(((hfr.trans hf1).alloc _).setRow(by simp)_)
  simp only[Bool.true_eq_false,if_false]at hR;have j1:=hid hR;have b4:=b3 rfl;have j7:Hid(2001-(intOf(.int .i64 nx)).toNat<2001-(intOf(.int .i64 next)).toNat):=by unfold Hid;simp[intOf];omega
  clear hR b3;go_wp2_with(first
   |(go_at_call 107;refine(z0v _ _ _(by unfold maxLen;omega)).mono ?_;rintro e w'⟨rfl,hw⟩;rw[hw];clear hw)
   |(go_at_call 98;refine(RW.out _).mono ?_;rintro e w1⟨rfl,hf1⟩;have hz:w.heap.size+1<w1.heap.size:=(by have:=hf1.size;have:=z0j j0.out;omega);have j9:=hid(z0c HO.out(fun g hg=>hf1.block g(j2.out g hg).2(fun x=>x))))
   |(refine z0e rfl 111 _ _ rfl w1 _ _ _ rfl rfl rfl Q2v rfl rfl ?_)
   |(refine wpList_load_row rfl 111 _ rfl w1.heap.size rfl _ _ _ _(z0a _ _)Tryz.underlying111 rfl Q2v ?_)
   |(at_builtin;refine z0g _ rfl _ _ 107 rfl(w.heap.size+2)111 i0 _ 9 16 Tryz.underlying107 hi hz0 hz1 hz2 rfl(by decide)_ _ _ rfl((j9.out.alloc _).alloc _)⟨w1.heap.size+1,0,none⟩1 1(Wd.cells⟨pp,[a1,a2,a3,a4,a5,a6,a7,a8]⟩)rfl rfl ?c1 ?c2 ?c3 ?c4 ?c5 ?_))
  case c1=>exact z2w rfl
  case c2=>intro u hu;exact(Array.all_eq_true_iff_forall_mem.1(Wd.one⟨pp,[a1,a2,a3,a4,a5,a6,a7,a8]⟩))u(by simpa using hu)
  case c3=>unfold maxLen;omega
  case c4=>omega
  case c5=>simp;omega
  intro v' w2 hown2 hgrow hblk;have j8:=hid hown2;have jc:=hid hgrow;have q0:w2.heap[w.heap.size]? = some(.cells(Q68 p a b c d e f g k)111(0,0)):=by
   rw[hgrow.block _(by simp;omega)(fun e=>by have:=(j2.out _ e.symm).1;omega)];exact z0b(z0b(hf1.at j6.out(fun x=>x)))
  have q1:w2.heap[w.heap.size+1]? = some(.cells Q2p.cells.toArray 116(0,0)):=by
   rw[hgrow.block _(by simp;omega)(fun e=>by have:=(j2.out _ e.symm).1;omega)];exact z0b(z0b(hf1.at j0.out(fun x=>x)))
  have q2:Q0a w w2:=Mod.grown(S:=fun _=>False)(((hfr.trans hf1).alloc _).alloc _)hgrow(fun k hk jb=>by have:=(j2.out k hk).1;omega);have Q0:=hid q0;have Q1:=hid q1;clear hown2 hgrow q0 q1 hblk;go_wp2;go_roundw
  case rel =>
   refine⟨ff,nx,syms++[⟨pp,[a1,a2,a3,a4,a5,a6,a7,a8]⟩],rfl,j1.out,by omega,by omega,by omega,by simp;omega,?_,?_,Q0.out,Q1.out,q2⟩
   ·intro x hx;rcases List.mem_append.1 hx with h|h
    ·exact j5.out x h
    simp at h;subst h;rfl
   rw[z0y,List.length_append,List.length_singleton];exact j8.out
  exact j7.out
 rw[if_neg h32]at hR;have c2:(atB s next==32)=false:=by simpa using h32
 by_cases h10:atB s next=10
 ·rw[if_neg(by simp[h10])]at hR;have c3:(atB s next != 10)=false:=by simp[h10]
  have j1:=hid hR;have r1:Q33 wr(.slice ao syms.length cap)syms:=⟨z0f HO.out(Nat.zero_le _),j5.out⟩;have ON:=hid(LV.At.one(w:=wr)(x:=⟨⟨⟨p,[a,b,c,d,e,f,g,k]⟩,false,[],0,0,syms⟩,.slice none 0 0,.slice ao syms.length cap⟩)⟨⟨World.ownsRow_nil _ _ _ _,fun _ h=>by cases h⟩,r1,rfl,by simp⟩);clear hR h10 h32;go_wp2_with(first
   |(go_at_call 107;refine(z0v _ _ _(by unfold maxLen;omega)).mono ?_;rintro e w'⟨rfl,hw⟩;rw[hw];clear hw)
   |(refine wpList_load_row rfl 111 _ rfl w.heap.size rfl _ _ _ _ j6.out Tryz.underlying111 rfl Q2v ?_)
   |(refine wpList_store_row rfl 116 _ _ rfl(w.heap.size+1)(LV.cells⟨⟨⟨p,[a,b,c,d,e,f,g,k]⟩,false,[],0,0,syms⟩,.slice none 0 0,.slice ao syms.length cap⟩).toArray rfl rfl _ _ j0.out Q1m rfl ON.out ?_))
  refine bodyPost_ret(z0h rfl _ _(w.heap.size+1)116 _(0,0)_ rfl(setRow_heap _ _ _ _ _ _ j0.out)Tryz.underlying116 rfl Q1m)rfl ?_;rw[← j1.out];refine⟨⟨⟨⟨p,[a,b,c,d,e,f,g,k]⟩,false,[],0,0,syms⟩,.slice none 0 0,.slice ao syms.length cap⟩,rfl,rfl,hfr.setRow(by simp)_,⟨⟨World.ownsRow_nil _ _ _ _,fun _ h=>by cases h⟩,?_,rfl,by simp⟩,by simp[Value.ownBlock],fun k hk=>by have:=(j2.out k hk).1;omega⟩;exact r1.kept(S:=fun k=>k=w.heap.size+1)(Mod.setRow(S:=fun k=>k=w.heap.size+1)(mRf _ _)(fun _=>rfl)_)(fun k hk e=>by have:=(j2.out k hk).1;omega)
 rw[if_pos h10]at hR;have c3:(atB s next != 10)=true:=by simpa using h10
 have j1:=hid hR;clear hR h10 h32;go_wp2_with(first
  |(go_at_call 107;refine(z0v _ _ _(by unfold maxLen;omega)).mono ?_;rintro e w'⟨rfl,hw⟩;rw[hw];clear hw)
  |(refine wpList_store_row rfl 116 _ _ rfl(w.heap.size+1)Q2p.cells.toArray rfl rfl _ _ j0.out Q1m rfl(z34 w).one ?_))
 refine bodyPost_ret(z0h rfl _ _(w.heap.size+1)116 Q2p.cells.toArray(0,0)_ rfl(setRow_heap _ _ _ _ _ _ j0.out)Tryz.underlying116 rfl Q1m)rfl ?_;rw[← j1.out];exact z1v rfl(hfr.setRow(by simp)_)
theorem z9p(s:ByteArray)(i:Int):∀(f n:Nat)(ls:List Int),1<=n->(Q2l s i f n ls).1.getD 0 0=ls.getD 0 0
 |0,_,_,_=>rfl
 |f+1,n,ls,h=>by
  unfold Q2l;split
  ·split
   ·rw[z9p s i f(n+1)_(by omega)];simp[List.getElem?_set,show ¬n=0 by omega]
   rfl
  rfl
theorem z60(s:ByteArray)(i:Int):0<=(Q09 s i).1.ls.getD 0 0/\(Q09 s i).1.ls.getD 0 0<=255:=by
 unfold Q09;split
 ·simp[Q5l]
 rename_i h;dsimp only;rw[z9p _ _ _ _ _(by omega)];have hb:=z8f s i;have hn:atB s i≠-1:=by intro e;rw[e]at h;simp[Q0n,Q1n]at h
 simp[Q5l];omega
def Q2x(s:ByteArray)(i:Int):Ln × Int × Bool :=
 if(Q09 s i).2.2=false then(Q4h,(Q09 s i).2.1,false)
 else if Q3m(Q09 s i).1=true then Q6h s(Q09 s i).2.1(Q09 s i).1
 else Q6r s(Q09 s i).2.1(Q09 s i).1
theorem y44(s:ByteArray)(i:Int)(w:World)(hs:s.size<=1000)(h0:0<=i)(h1:i<=1900) :
  Calls Tryz.prog 77#[.string s,.int .i64 i]w fun e w'=>Q7x w(Q2x s i)e w':=by
 generalize hR:Q2x s i=R;unfold Q2x at hR;obtain⟨b1,b2,b3⟩:=z5c s i h0;have j1:=y3d s i;have hz:=z60 s i;have RW:=hid(fun w=>z7x s i w hs h0(by omega));have HP:=hid(fun w=>y3h s(Q09 s i).2.1(Q09 s i).1 w hs(by omega)(by omega)j1);have j2:=hid(fun w=>y30 s(Q09 s i).2.1(Q09 s i).1 w hs(by omega)(by omega)j1);have HZ:=hid hz;have j0:=hid j1;simp only[Q7v]at RW;clear j1 hz b3;cases hok:(Q09 s i).2.2
 ·rw[if_pos hok]at hR;rw[hok]at RW;have HR:=hid hR;clear hR;go_enter Tryz.func77,Tryz.ntmps77
  go_wp2_with(first
   |(go_at_call 98;refine(RW.out _).mono ?_;rintro e w1⟨rfl,hf1⟩;have hz:w.heap.size<w1.heap.size:=(by have:=hf1.size;simp at this;omega))
   |(refine z0e rfl 111 _ _ rfl w1 _ _ _ rfl rfl rfl(Q1w j0.out)(Q0l rfl(Wd.size j0.out))(Wd.one _)?_)
   |(refine wpList_store_row rfl 116 _ _ rfl w.heap.size Q2p.cells.toArray rfl rfl _ _(z0b(hf1.at(z0a _ _)(fun x=>x)))Q1m rfl(z34 w).one ?_))
  refine bodyPost_ret(z0h rfl _ _ w.heap.size 116 Q2p.cells.toArray(0,0)_ rfl(setRow_heap _ _ _ _ _ _(z0b(hf1.at(z0a _ _)(fun x=>x))))Tryz.underlying116 rfl Q1m)rfl ?_;rw[← HR.out];exact z1v rfl(((((mRf _ w).alloc _).trans hf1).alloc _).setRow(by simp)_)
 rw[if_neg(by simp[hok])]at hR;rw[hok]at RW;have fin:∀(w1 w2 w3:World)(r:Ln × Int × Bool),Hid(r=R->Q0a(w.alloc(.cells Q2p.cells.toArray 116(0,0)))w2->∀x:LV,x.ln=r.1->Q0a w2 w3->x.At w3->(∀k,x.vn.ownBlock=some k->w2.heap.size<=k)->(∀k,x.vs.ownBlock=some k->w2.heap.size<=k) ->
   Q7x w R(.returned(.tuple#[.agg x.cells.toArray,.int .i64 r.2.1,.bool r.2.2]))(w3.setRow w.heap.size x.cells.toArray)):=by
  intro w1 w2 w3 r hr hf2 x hx hf3 hA hk1 hk2;subst hr;have j3:w.heap.size<w2.heap.size:=by have:=hf2.size;simp at this;omega
  refine⟨x,hx,rfl,((((mRf _ w).alloc _).trans hf2).trans hf3).setRow(by simp)_,⟨?_,?_,hA.front,hA.small⟩,fun k hk=>by have:=hk1 k hk;omega,fun k hk=>by have:=hk2 k hk;omega⟩
  ·exact hA.nodes.kept(S:=fun k=>k=w.heap.size)(Mod.setRow(S:=fun k=>k=w.heap.size)(mRf _ _)(fun _=>rfl)_)(fun k hk e=>by have:=hk1 k hk;omega)
  exact hA.syms.kept(S:=fun k=>k=w.heap.size)(Mod.setRow(S:=fun k=>k=w.heap.size)(mRf _ _)(fun _=>rfl)_)(fun k hk e=>by have:=hk2 k hk;omega)
 cases hh:Q3m(Q09 s i).1
 ·rw[if_neg(by simp[hh])]at hR;have HR:=hid hR;clear hR HP;go_enter Tryz.func77,Tryz.ntmps77
  go_wp2_with(first
   |(go_at_call 98;refine(RW.out _).mono ?_;rintro e w1⟨rfl,hf1⟩;have hz:w.heap.size<w1.heap.size:=(by have:=hf1.size;simp at this;omega))
   |(go_at_call 82;refine(z5k _ _ j0.out HZ.out).mono ?_;rw[hh];rintro e w2⟨rfl,hf2⟩)
   |(go_at_call 100;refine(j2.out _).mono ?_;rintro e w3⟨x,hx,rfl,hf3,hA,hk1,hk2⟩;have H3:=hid(hf3.at(hf2.at(z0b(hf1.at(z0a _ _)(fun x=>x)))(fun x=>x))(fun x=>x)))
   |(refine z0e rfl 111 _ _ rfl w1 _ _ _ rfl rfl rfl(Q1w j0.out)(Q0l rfl(Wd.size j0.out))(Wd.one _)?_)
   |(refine wpList_load_row rfl 111 _ rfl w1.heap.size rfl _ _ _ _(z0a _ _)Tryz.underlying111 rfl(Q1w j0.out)?_)
   |(refine wpList_load_row rfl 111 _ rfl w1.heap.size rfl _ _ _ _(hf2.at(z0a _ _)(fun x=>x))Tryz.underlying111 rfl(Q1w j0.out)?_)
   |(refine wpList_store_row rfl 116 _ _ rfl w.heap.size x.cells.toArray rfl rfl _ _ H3.out(Q1b hA.front)(Q0l rfl(LV.size hA.front))hA.one ?_))
  refine bodyPost_ret(z0h rfl _ _ w.heap.size 116 x.cells.toArray(0,0)_ rfl(setRow_heap _ _ _ _ _ _ H3.out)Tryz.underlying116 rfl(Q1b hA.front))rfl ?_;exact(fin w1 w2 w3 _).out HR.out((hf1.alloc _).trans hf2)x hx hf3 hA hk1 hk2
 rw[if_pos hh]at hR;have HR:=hid hR;clear hR j2;go_enter Tryz.func77,Tryz.ntmps77
 go_wp2_with(first
  |(go_at_call 98;refine(RW.out _).mono ?_;rintro e w1⟨rfl,hf1⟩;have hz:w.heap.size<w1.heap.size:=(by have:=hf1.size;simp at this;omega))
  |(go_at_call 82;refine(z5k _ _ j0.out HZ.out).mono ?_;rw[hh];rintro e w2⟨rfl,hf2⟩)
  |(go_at_call 99;refine(HP.out _).mono ?_;rintro e w3⟨x,hx,rfl,hf3,hA,hk1,hk2⟩;have H3:=hid(hf3.at(hf2.at(z0b(hf1.at(z0a _ _)(fun x=>x)))(fun x=>x))(fun x=>x)))
  |(refine z0e rfl 111 _ _ rfl w1 _ _ _ rfl rfl rfl(Q1w j0.out)(Q0l rfl(Wd.size j0.out))(Wd.one _)?_)
  |(refine wpList_load_row rfl 111 _ rfl w1.heap.size rfl _ _ _ _(z0a _ _)Tryz.underlying111 rfl(Q1w j0.out)?_)
  |(refine wpList_load_row rfl 111 _ rfl w1.heap.size rfl _ _ _ _(hf2.at(z0a _ _)(fun x=>x))Tryz.underlying111 rfl(Q1w j0.out)?_)
  |(refine wpList_store_row rfl 116 _ _ rfl w.heap.size x.cells.toArray rfl rfl _ _ H3.out(Q1b hA.front)(Q0l rfl(LV.size hA.front))hA.one ?_))
 refine bodyPost_ret(z0h rfl _ _ w.heap.size 116 x.cells.toArray(0,0)_ rfl(setRow_heap _ _ _ _ _ _ H3.out)Tryz.underlying116 rfl(Q1b hA.front))rfl ?_;exact(fin w1 w2 w3 _).out HR.out((hf1.alloc _).trans hf2)x hx hf3 hA hk1 hk2
end Go.Proofs.YtcpceafmlgaodaaGreat
