import Derived.Test.YtbdpfmalabgmbaaGreatSh2
namespace Go.Proofs.YtbdpfmalabgmbaaGreat
open Go.RowKit
set_option maxRecDepth 99999
set_option maxHeartbeats 0
set_option linter.all false
def Q20(s:ByteArray)(d:Wd):Nat->Int->List Wd->Ln × Int × Bool
 |0,next,_=>(Q4j,next,false)
 |f+1,next,syms =>
  if atB s next=32 then
   if(Q07 s (next+1)).2.2=false then(Q4j,(Q07 s (next+1)).2.1,false)
   else Q20 s d f (Q07 s (next+1)).2.1 (syms++[(Q07 s (next+1)).1])
  else if atB s next≠10 then(Q4j,next,false)
  else(⟨d,false,[],0,0,syms⟩,next+1,true)
def Q6p(s:ByteArray)(i:Int)(d:Wd):Ln × Int × Bool :=
 if atB s i≠58 then(Q4j,i,false) else Q20 s d (s.size+5) (i+1) []
theorem infoWord:(Tryz.prog.info? 76).map (fun i=>(i.zero,i.size,i.bytes))=some (some (.agg #[.int .i64 0,.int .u8 0,.int .u8 0,.int .u8 0,.int .u8 0,.int .u8 0,.int .u8 0,.int .u8 0,.int .u8 0]),9,16):=by kernel_rfl
theorem infoWord':∃i,Tryz.prog.info? 76=some i/\i.zero=some (.agg #[.int .i64 0,.int .u8 0,.int .u8 0,.int .u8 0,.int .u8 0,.int .u8 0,.int .u8 0,.int .u8 0,.int .u8 0])/\i.size=9/\i.bytes=16:=nfoE infoWord
theorem z0v{α:Type}(cells:α->List Value)(xs:List α)(x:α):Q0y cells (xs++[x])=Q0y cells xs++cells x:=by simp[Q0y]
theorem z13{w:World}{A:Obj}{cs:Array Value}{l:List Value}{e:TypeId}(h:cs.toList=l):∀(j:Nat) (u:Value),l[j]? = some u->((w.alloc A).alloc (.cells cs e)).cell? ((⟨w.heap.size+1,0,none⟩:Addr).add j)=some u:=by
 intro j u hj;rw[qDd,qBy,Q0b (qBa _ _ _)];subst h;simpa using hj
theorem y5m(s:ByteArray)(i:Int)(dd:Wd)(w:World)(hs:s.size<=1000)(h0:0<=i)(h1:i<=2000)(hl:dd.ls.length=8) :
  Calls Tryz.prog 89 #[.string s,.int .i64 i,.agg dd.cells.toArray] w fun e w'=>Q7r w (Q6p s i dd) e w':=by
 obtain⟨p,ls⟩:=dd;obtain⟨a,b,c,d,e,f,g,k,rfl⟩:=Q59 hl;have e1:(Wd.cells ⟨p,[a,b,c,d,e,f,g,k]⟩).toArray=Q7e p a b c d e f g k:=rfl;rw[e1];generalize hR:Q6p s i ⟨p,[a,b,c,d,e,f,g,k]⟩=R;unfold Q6p at hR;clear e1 hl;by_cases hc:atB s i≠58
 ·rw[qAb hc]at hR;have c1:(atB s i != 58)=true:=by simpa using hc
  have HR:=hid hR;clear hR hc;go_enter Tryz.func89,Tryz.ntmps89
  go_wp2_with (first
   |(go_at_call 97;refine csm (z0x _ _ _ (by unfold maxLen;omega)) ?_))
  refine qAc (z0i rfl _ _ (w.heap.size+1) 81 zeroLV.cells.toArray (0,0) _ rfl (qBa _ _ _) qAm rfl Q1e) rfl ?_;rw[← HR.out];exact z11 rfl (((mRf _ w).alloc _).alloc _)
 rw[qAa hc]at hR;have c1:(atB s i != 58)=false:=by simpa using hc
 have jm:=z0r (s:=s) (i:=i) (by omega);have HR:=hid hR;obtain⟨i0,hi,jo,jp,jq⟩:=infoWord';clear hR hc;go_enter Tryz.func89,Tryz.ntmps89
 go_wp2_with (first
  |(go_at_call 97;refine csm (z0x _ _ _ (by unfold maxLen;omega)) ?_))
 go_loopw [9,10] (fun x9 x10 wr=>∃(ff:Nat) (next:Int) (syms:List Wd),x10=.int .i64 next/\Q20 s ⟨p,[a,b,c,d,e,f,g,k]⟩ ff next syms=R/\0<=next/\next<=s.size/\(s.size:Int)+5<=ff+next/\(syms.length:Int)<=next/\(∀x∈syms,x.cells.length=9) /\
   wr.ownsRow (w.heap.size+2) 76 9 x9 syms.length (Q0y Wd.cells syms) /\
   wr.heap[w.heap.size]? = some (.cells (Q7e p a b c d e f g k) 76 (0,0))/\wr.heap[w.heap.size+1]? = some (.cells zeroLV.cells.toArray 81 (0,0))/\Q0a w wr)
   (fun _ x _=>2001-(intOf x).toNat)
 case atStart =>
  exact⟨s.size+5,i+1,[],rfl,HR.out,by omega,by omega,by omega,by simp;omega,by simp,qAh _ _ _ _,qBg _ _ _,qBa _ _ _,((mRf _ w).alloc _).alloc _⟩
 obtain⟨ff,next,syms,rfl,hR,ju,jv,jt,jl,jh,j3,jf,jg,ja⟩:=hrel;obtain⟨ff,rfl⟩:∃g,ff=g+1:=⟨ff-1,by omega⟩;unfold Q20 at hR;have jd:=hid jf;have j2:=hid jg;have HO:=hid j3;have je:=hid jh;obtain⟨ao,cap,hv⟩:=z0c j3;have j9:=j3.lt;have j7:=hid j9;clear jf jg j3 jh j9;subst hv;by_cases j6:atB s next=32
 ·rw[qAb j6]at hR;have c2:(atB s next==32)=true:=by simpa using j6
  have jn:=z0r (s:=s) (i:=next) (by omega);obtain⟨b1,b2,b3⟩:=z5p s (next+1) (by omega);have jc:=y5i s (next+1);have RW:=hid (fun w=>z71 s (next+1) w hs (by omega) (by omega));generalize Q07 s (next+1)=rr at b1 b2 b3 jc RW hR;obtain⟨⟨pp,ls⟩,nx,jr⟩:=rr;obtain⟨a1,a2,a3,a4,a5,a6,a7,a8,rfl⟩:=Q59 jc;simp only[Q76]at RW;have e2:(Wd.cells ⟨pp,[a1,a2,a3,a4,a5,a6,a7,a8]⟩).toArray=Q7e pp a1 a2 a3 a4 a5 a6 a7 a8:=rfl;rw[e2]at RW;dsimp only at b1 b2 b3 hR;clear j6 jc e2;cases jr
  ·simp only[qBn]at hR;have j5:=hid hR;clear hR b3;go_wp2_with (first
    |(go_at_call 97;refine csm (z0x _ _ _ (by unfold maxLen;omega)) ?_)
    |(go_at_call 88;refine(RW.out _).mono ?_;rintro e w1⟨rfl,j1⟩;have hz:w.heap.size+1<w1.heap.size:=(by have:=j1.size;have:=z0j j2.out;omega))
    |(refine z0e rfl 76 _ _ rfl w1 _ _ _ rfl rfl rfl Q2s rfl rfl ?_)
    |(refine qAg rfl 81 _ _ rfl (w.heap.size+1) zeroLV.cells.toArray rfl rfl _ _ (z0b (j1.at j2.out id)) Q1e rfl (z4f w).one ?_))
   refine qAc (z0i rfl _ _ (w.heap.size+1) 81 zeroLV.cells.toArray (0,0) _ rfl (qAn _ _ _ _ _ _ (z0b (j1.at j2.out id))) qAm rfl Q1e) rfl ?_;rw[← j5.out];exact z11 rfl (((ja.trans j1).alloc _).setRow (by simp) _)
  simp only[qDf,qAz]at hR;have j5:=hid hR;have b4:=b3 rfl;have ji:Hid (2001-(intOf (.int .i64 nx)).toNat<2001-(intOf (.int .i64 next)).toNat):=by unfold Hid;simp[intOf];omega
  clear hR b3;go_wp2_with (first
   |(go_at_call 97;refine csm (z0x _ _ _ (by unfold maxLen;omega)) ?_)
   |(go_at_call 88;refine(RW.out _).mono ?_;rintro e w1⟨rfl,j1⟩;have hz:w.heap.size+1<w1.heap.size:=(by have:=j1.size;have:=z0j j2.out;omega);have jj:=hid (z0d HO.out (fun g hg=>j1.block g (j7.out g hg).2 id)))
   |(refine z0e rfl 76 _ _ rfl w1 _ _ _ rfl rfl rfl Q2s rfl rfl ?_)
   |(refine qAf rfl 76 _ rfl w1.heap.size rfl _ _ _ _ (z0a _ _) qAx rfl Q2s ?_)
   |(at_builtin;refine z0f _ rfl _ _ 72 rfl (w.heap.size+2) 76 i0 _ 9 16 Tryz.underlying72 hi jo jp jq rfl (by decide) _ _ _ rfl ((jj.alloc _).alloc _) ⟨w1.heap.size+1,0,none⟩ 1 1 (Wd.cells ⟨pp,[a1,a2,a3,a4,a5,a6,a7,a8]⟩) rfl rfl ?c1 ?c2 ?c3 ?c4 ?c5 ?_))
  case c1=>exact z13 rfl
  case c2=>intro u hu;exact(qCn.1 (Wd.one ⟨pp,[a1,a2,a3,a4,a5,a6,a7,a8]⟩)) u (by simpa using hu)
  case c3=>unfold maxLen;omega
  case c4=>omega
  case c5=>simp;omega
  intro v' w2 j4 j0 jb;have jk:=hid j4;have js:=hid j0;have q0:w2.heap[w.heap.size]? = some (.cells (Q7e p a b c d e f g k) 76 (0,0)):=by
   rw[j0.block _ (by simp;omega) (fun e=>by have:=(j7.out _ e.symm).1;omega)];exact z0b (z0b (j1.at jd.out id))
  have q1:w2.heap[w.heap.size+1]? = some (.cells zeroLV.cells.toArray 81 (0,0)):=by
   rw[j0.block _ (by simp;omega) (fun e=>by have:=(j7.out _ e.symm).1;omega)];exact z0b (z0b (j1.at j2.out id))
  have q2:Q0a w w2:=Mod.grown (S:=fun _=>False) (((ja.trans j1).alloc _).alloc _) j0 (fun k hk jm=>by have:=(j7.out k hk).1;omega);have Q0:=hid q0;have Q1:=hid q1;clear j4 j0 q0 q1 jb;go_wp2;go_roundw
  case rel =>
   refine⟨ff,nx,syms++[⟨pp,[a1,a2,a3,a4,a5,a6,a7,a8]⟩],rfl,j5.out,by omega,by omega,by omega,by simp;omega,?_,?_,Q0.out,Q1.out,q2⟩
   ·intro x hx;rcases qBs.1 hx with h|h
    ·exact je.out x h
    simp at h;subst h;rfl
   rw[z0v,qP,qAj];exact jk.out
  exact ji.out
 rw[qAa j6]at hR;have c2:(atB s next==32)=false:=by simpa using j6
 by_cases j8:atB s next=10
 ·rw[qAa (by simp[j8])]at hR;have c3:(atB s next != 10)=false:=by simp[j8]
  have j5:=hid hR;have r1:Q30 wr (.slice ao syms.length cap) syms:=⟨z0g HO.out (qBq _),je.out⟩;have ON:=hid (LV.At.one (w:=wr) (x:=⟨⟨⟨p,[a,b,c,d,e,f,g,k]⟩,false,[],0,0,syms⟩,.slice none 0 0,.slice ao syms.length cap⟩) ⟨⟨qAh _ _ _ _,fun _ h=>by cases h⟩,r1,rfl,by simp⟩);clear hR j8 j6;go_wp2_with (first
   |(go_at_call 97;refine csm (z0x _ _ _ (by unfold maxLen;omega)) ?_)
   |(refine qAf rfl 76 _ rfl w.heap.size rfl _ _ _ _ jd.out qAx rfl Q2s ?_)
   |(refine qAg rfl 81 _ _ rfl (w.heap.size+1) (LV.cells ⟨⟨⟨p,[a,b,c,d,e,f,g,k]⟩,false,[],0,0,syms⟩,.slice none 0 0,.slice ao syms.length cap⟩).toArray rfl rfl _ _ j2.out Q1e rfl ON.out ?_))
  refine qAc (z0i rfl _ _ (w.heap.size+1) 81 _ (0,0) _ rfl (qAn _ _ _ _ _ _ j2.out) qAm rfl Q1e) rfl ?_;rw[← j5.out];refine⟨⟨⟨⟨p,[a,b,c,d,e,f,g,k]⟩,false,[],0,0,syms⟩,.slice none 0 0,.slice ao syms.length cap⟩,rfl,rfl,ja.setRow (by simp) _,⟨⟨qAh _ _ _ _,fun _ h=>by cases h⟩,?_,rfl,by simp⟩,by simp[Value.ownBlock],fun k hk=>by have:=(j7.out k hk).1;omega⟩;exact r1.kept (S:=fun k=>k=w.heap.size+1) (Mod.setRow (S:=fun k=>k=w.heap.size+1) (mRf _ _) (fun _=>rfl) _) (fun k hk e=>by have:=(j7.out k hk).1;omega)
 rw[qAb j8]at hR;have c3:(atB s next != 10)=true:=by simpa using j8
 have j5:=hid hR;clear hR j8 j6;go_wp2_with (first
  |(go_at_call 97;refine csm (z0x _ _ _ (by unfold maxLen;omega)) ?_)
  |(refine qAg rfl 81 _ _ rfl (w.heap.size+1) zeroLV.cells.toArray rfl rfl _ _ j2.out Q1e rfl (z4f w).one ?_))
 refine qAc (z0i rfl _ _ (w.heap.size+1) 81 zeroLV.cells.toArray (0,0) _ rfl (qAn _ _ _ _ _ _ j2.out) qAm rfl Q1e) rfl ?_;rw[← j5.out];exact z11 rfl (ja.setRow (by simp) _)
theorem z94(s:ByteArray)(i:Int):∀(f n:Nat) (ls:List Int),1<=n->(Q2l s i f n ls).1.getD 0 0=ls.getD 0 0
 |0,_,_,_=>rfl
 |f+1,n,ls,h=>by
  unfold Q2l;split
  ·split
   ·rw[z94 s i f (n+1) _ (by omega)];simp[qCs,show ¬n=0 by omega]
   rfl
  rfl
theorem z7e(s:ByteArray)(i:Int):0<=(Q07 s i).1.ls.getD 0 0/\(Q07 s i).1.ls.getD 0 0<=255:=by
 unfold Q07;split
 ·simp[zero8]
 rename_i h;dsimp only;rw[z94 _ _ _ _ _ (by omega)];have hb:=z8p s i;have hn:atB s i≠-1:=by intro e;rw[e]at h;simp[Q0m,Q1a]at h
 simp[zero8];omega
def Q2w(s:ByteArray)(i:Int):Ln × Int × Bool :=
 if(Q07 s i).2.2=false then(Q4j,(Q07 s i).2.1,false)
 else if Q16 (Q07 s i).1=true then Q6p s (Q07 s i).2.1 (Q07 s i).1
 else Q6q s (Q07 s i).2.1 (Q07 s i).1
theorem y5k(s:ByteArray)(i:Int)(w:World)(hs:s.size<=1000)(h0:0<=i)(h1:i<=1900) :
  Calls Tryz.prog 55 #[.string s,.int .i64 i] w fun e w'=>Q7r w (Q2w s i) e w':=by
 generalize hR:Q2w s i=R;unfold Q2w at hR;obtain⟨b1,b2,b3⟩:=z5p s i h0;have j6:=y5i s i;have hz:=z7e s i;have RW:=hid (fun w=>z71 s i w hs h0 (by omega));have HP:=hid (fun w=>y5m s (Q07 s i).2.1 (Q07 s i).1 w hs (by omega) (by omega) j6);have j7:=hid (fun w=>y5n s (Q07 s i).2.1 (Q07 s i).1 w hs (by omega) (by omega) j6);have HZ:=hid hz;have j0:=hid j6;simp only[Q76]at RW;clear j6 hz b3;cases hok:(Q07 s i).2.2
 ·rw[qAb hok]at hR;rw[hok]at RW;have HR:=hid hR;clear hR;go_enter Tryz.func55,Tryz.ntmps55
  go_wp2_with (first
   |(go_at_call 88;refine(RW.out _).mono ?_;rintro e w1⟨rfl,j1⟩;have hz:w.heap.size<w1.heap.size:=(by have:=j1.size;simp at this;omega))
   |(refine z0e rfl 76 _ _ rfl w1 _ _ _ rfl rfl rfl (Q1w j0.out) (Q0l rfl (Wd.size j0.out)) (Wd.one _) ?_)
   |(refine qAg rfl 81 _ _ rfl w.heap.size zeroLV.cells.toArray rfl rfl _ _ (z0b (j1.at (z0a _ _) id)) Q1e rfl (z4f w).one ?_))
  refine qAc (z0i rfl _ _ w.heap.size 81 zeroLV.cells.toArray (0,0) _ rfl (qAn _ _ _ _ _ _ (z0b (j1.at (z0a _ _) id))) qAm rfl Q1e) rfl ?_;rw[← HR.out];exact z11 rfl (((((mRf _ w).alloc _).trans j1).alloc _).setRow (by simp) _)
 rw[qAa (by simp[hok])]at hR;rw[hok]at RW;have fin:∀(w1 w2 w3:World) (r:Ln × Int × Bool),Hid (r=R->Q0a (w.alloc (.cells zeroLV.cells.toArray 81 (0,0))) w2->∀x:LV,x.ln=r.1->Q0a w2 w3->x.At w3->(∀k,x.vn.ownBlock=some k->w2.heap.size<=k)->(∀k,x.vs.ownBlock=some k->w2.heap.size<=k) ->
   Q7r w R (.returned (.tuple #[.agg x.cells.toArray,.int .i64 r.2.1,.bool r.2.2])) (w3.setRow w.heap.size x.cells.toArray)):=by
  intro w1 w2 w3 r hr j2 x hx j3 hA j4 j5;subst hr;have j8:w.heap.size<w2.heap.size:=by have:=j2.size;simp at this;omega
  refine⟨x,hx,rfl,((((mRf _ w).alloc _).trans j2).trans j3).setRow (by simp) _,⟨?_,?_,hA.front,hA.small⟩,fun k hk=>by have:=j4 k hk;omega,fun k hk=>by have:=j5 k hk;omega⟩
  ·exact hA.nodes.kept (S:=fun k=>k=w.heap.size) (Mod.setRow (S:=fun k=>k=w.heap.size) (mRf _ _) (fun _=>rfl) _) (fun k hk e=>by have:=j4 k hk;omega)
  exact hA.syms.kept (S:=fun k=>k=w.heap.size) (Mod.setRow (S:=fun k=>k=w.heap.size) (mRf _ _) (fun _=>rfl) _) (fun k hk e=>by have:=j5 k hk;omega)
 cases hh:Q16 (Q07 s i).1
 ·rw[qAa (by simp[hh])]at hR;have HR:=hid hR;clear hR HP;go_enter Tryz.func55,Tryz.ntmps55
  go_wp2_with (first
   |(go_at_call 88;refine(RW.out _).mono ?_;rintro e w1⟨rfl,j1⟩;have hz:w.heap.size<w1.heap.size:=(by have:=j1.size;simp at this;omega))
   |(go_at_call 60;refine(z5m _ _ j0.out HZ.out).mono ?_;rw[hh];rintro e w2⟨rfl,j2⟩)
   |(go_at_call 90;refine(j7.out _).mono ?_;rintro e w3⟨x,hx,rfl,j3,hA,j4,j5⟩;have H3:=hid (j3.at (j2.at (z0b (j1.at (z0a _ _) id)) id) id))
   |(refine z0e rfl 76 _ _ rfl w1 _ _ _ rfl rfl rfl (Q1w j0.out) (Q0l rfl (Wd.size j0.out)) (Wd.one _) ?_)
   |(refine qAf rfl 76 _ rfl w1.heap.size rfl _ _ _ _ (z0a _ _) qAx rfl (Q1w j0.out) ?_)
   |(refine qAf rfl 76 _ rfl w1.heap.size rfl _ _ _ _ (j2.at (z0a _ _) id) qAx rfl (Q1w j0.out) ?_)
   |(refine qAg rfl 81 _ _ rfl w.heap.size x.cells.toArray rfl rfl _ _ H3.out (Q09 hA.front) (Q0l rfl (LV.size hA.front)) hA.one ?_))
  refine qAc (z0i rfl _ _ w.heap.size 81 x.cells.toArray (0,0) _ rfl (qAn _ _ _ _ _ _ H3.out) qAm rfl (Q09 hA.front)) rfl ?_;exact(fin w1 w2 w3 _).out HR.out ((j1.alloc _).trans j2) x hx j3 hA j4 j5
 rw[qAb hh]at hR;have HR:=hid hR;clear hR j7;go_enter Tryz.func55,Tryz.ntmps55
 go_wp2_with (first
  |(go_at_call 88;refine(RW.out _).mono ?_;rintro e w1⟨rfl,j1⟩;have hz:w.heap.size<w1.heap.size:=(by have:=j1.size;simp at this;omega))
  |(go_at_call 60;refine(z5m _ _ j0.out HZ.out).mono ?_;rw[hh];rintro e w2⟨rfl,j2⟩)
  |(go_at_call 89;refine(HP.out _).mono ?_;rintro e w3⟨x,hx,rfl,j3,hA,j4,j5⟩;have H3:=hid (j3.at (j2.at (z0b (j1.at (z0a _ _) id)) id) id))
  |(refine z0e rfl 76 _ _ rfl w1 _ _ _ rfl rfl rfl (Q1w j0.out) (Q0l rfl (Wd.size j0.out)) (Wd.one _) ?_)
  |(refine qAf rfl 76 _ rfl w1.heap.size rfl _ _ _ _ (z0a _ _) qAx rfl (Q1w j0.out) ?_)
  |(refine qAf rfl 76 _ rfl w1.heap.size rfl _ _ _ _ (j2.at (z0a _ _) id) qAx rfl (Q1w j0.out) ?_)
  |(refine qAg rfl 81 _ _ rfl w.heap.size x.cells.toArray rfl rfl _ _ H3.out (Q09 hA.front) (Q0l rfl (LV.size hA.front)) hA.one ?_))
 refine qAc (z0i rfl _ _ w.heap.size 81 x.cells.toArray (0,0) _ rfl (qAn _ _ _ _ _ _ H3.out) qAm rfl (Q09 hA.front)) rfl ?_;exact(fin w1 w2 w3 _).out HR.out ((j1.alloc _).trans j2) x hx j3 hA j4 j5
theorem y5a(s:ByteArray)(d:Wd):∀(f:Nat) (next:Int) (syms:List Wd),0<=next->next<=s.size ->
  next<=(Q20 s d f next syms).2.1/\(Q20 s d f next syms).2.1<=s.size+20/\((Q20 s d f next syms).2.2=true->next<(Q20 s d f next syms).2.1/\(Q20 s d f next syms).2.1<=s.size)
 |0,next,_,h0,h1=>by simp[Q20];omega
 |f+1,next,syms,h0,h1=>by
  obtain⟨b1,b2,b3⟩:=z5p s (next+1) (by omega);unfold Q20;split
  ·split
   ·simp;omega
   rename_i h3;have b4:=b3 (by simpa using h3);obtain⟨c1,c2,c3⟩:=y5a s d f (Q07 s (next+1)).2.1 (syms++[(Q07 s (next+1)).1]) (by omega) (by omega);exact⟨by omega,by omega,fun h=>by have:=c3 h;omega⟩
  split
  ·simp;omega
  rename_i h3;have:=z0r (s:=s) (i:=next) (by omega);simp;omega
theorem x7p(s:ByteArray)(i:Int)(d:Wd)(h0:0<=i)(h1:i<=s.size) :
  i<=(Q6p s i d).2.1/\(Q6p s i d).2.1<=s.size+20/\((Q6p s i d).2.2=true->i<(Q6p s i d).2.1/\(Q6p s i d).2.1<=s.size):=by
 unfold Q6p;split
 ·simp;omega
 have:=z0r (s:=s) (i:=i) (by omega);obtain⟨c1,c2,c3⟩:=y5a s d (s.size+5) (i+1) [] (by omega) (by omega);exact⟨by omega,by omega,fun h=>by have:=c3 h;omega⟩
theorem x7q(s:ByteArray)(i:Int)(d:Wd)(h0:0<=i)(h1:i<=s.size) :
  i<=(Q6q s i d).2.1/\(Q6q s i d).2.1<=2*s.size+20/\((Q6q s i d).2.2=true->i<(Q6q s i d).2.1/\(Q6q s i d).2.1<=s.size):=by
 unfold Q6q;split
 ·simp;omega
 have j0:=z0r (s:=s) (i:=i) (by omega);obtain⟨g1,g2,g3,g4⟩:=y4i s (i+1) (by omega) (by omega);split
 ·simp;omega
 split
 ·simp;omega
 have:=z0r (s:=s) (i:=(Q1r s (i+1)).next) (by omega);simp;omega
theorem y9c(s:ByteArray)(i:Int)(h0:0<=i)(h1:i<=s.size) :
  i<=(Q2w s i).2.1/\(Q2w s i).2.1<=2*s.size+20/\((Q2w s i).2.2=true->i<(Q2w s i).2.1/\(Q2w s i).2.1<=s.size):=by
 obtain⟨b1,b2,b3⟩:=z5p s i h0;unfold Q2w;split
 ·simp;omega
 rename_i h3;have b4:=b3 (by simpa using h3);split
 ·obtain⟨c1,c2,c3⟩:=x7p s (Q07 s i).2.1 (Q07 s i).1 (by omega) (by omega);exact⟨by omega,by omega,fun h=>by have:=c3 h;omega⟩
 obtain⟨c1,c2,c3⟩:=x7q s (Q07 s i).2.1 (Q07 s i).1 (by omega) (by omega);exact⟨by omega,by omega,fun h=>by have:=c3 h;omega⟩
def Q1l(s:ByteArray):Nat->Int->List Ln->List Ln × Int × Bool
 |0,i,_=>([],i,false)
 |f+1,i,acc =>
  if i<s.size then
   if(Q2w s i).2.2=false then([],(Q2w s i).2.1,false) else Q1l s f (Q2w s i).2.1 (acc++[(Q2w s i).1])
  else(acc,i,true)
def Q0c(s:ByteArray):List Ln × Int × Bool:=Q1l s (s.size+5) 0 []
structure Q0s(w:World)(v:Value)(xs:List LV):Prop where
 own:w.ownsRow 0 81 14 v xs.length (Q0y LV.cells xs)
 each:∀x∈xs,x.At w
theorem Q0s.fresh{w w':World}{v:Value}{xs:List LV}(h:Q0s w v xs)(hm:Q0a w w'):Q0s w' v xs :=
 ⟨z0d h.own (fun g hg=>hm.block g (h.own.lt g hg).2 id),fun x hx=>(h.each x hx).fresh hm⟩
theorem Q0s.row{w:World}{v:Value}{xs:List LV}(h:Q0s w v xs):Q18 LV.cells 14 81 w v xs:=⟨h.own,fun x hx=>LV.cells_len (h.each x hx).front⟩
theorem infoLine:(Tryz.prog.info? 81).map (fun i=>(i.zero,i.size,i.bytes))=some (some (.agg zeroLV.cells.toArray),14,88):=by kernel_rfl
theorem Q9f:∃i,Tryz.prog.info? 81=some i/\i.zero=some (.agg zeroLV.cells.toArray)/\i.size=14/\i.bytes=88:=nfoE infoLine
theorem LV.At.kept{S:Nat->Prop}{w w':World}{x:LV}(h:x.At w)(hm:Mod S w w')(h1:∀k,x.vn.ownBlock=some k->¬S k)(h2:∀k,x.vs.ownBlock=some k->¬S k):x.At w' :=
 ⟨h.nodes.kept hm h1,h.syms.kept hm h2,h.front,h.small⟩
theorem LV.At.lt{w:World}{x:LV}(h:x.At w):(∀k,x.vn.ownBlock=some k->k<w.heap.size)/\(∀k,x.vs.ownBlock=some k->k<w.heap.size) :=
 ⟨fun k hk=>(h.nodes.own.lt k hk).2,fun k hk=>(h.syms.own.lt k hk).2⟩
structure LRel(w wr:World)(v:Value)(xs:List LV):Prop where
 own:wr.ownsRow w.heap.size 81 14 v xs.length (Q0y LV.cells xs)
 each:∀x∈xs,x.At wr
 dis:∀x∈xs,∀k,v.ownBlock=some k->x.vn.ownBlock≠some k/\x.vs.ownBlock≠some k
 fresh:Q0a w wr
theorem LRel.next{w wr w1 w2:World}{v v':Value}{xs:List LV}{x:LV}{A B:Obj}(h:LRel w wr v xs)(hf:Q0a wr w1)(hx:x.At w1)
  (hk1:∀k,x.vn.ownBlock=some k->wr.heap.size<=k) (hk2:∀k,x.vs.ownBlock=some k->wr.heap.size<=k)
  (hown:w2.ownsRow w.heap.size 81 14 v' (xs.length+1) (Q0y LV.cells xs++x.cells)) (hg:((w1.alloc A).alloc B).grownBy w2 v.ownBlock)
  (hb:∀k,v'.ownBlock=some k->v.ownBlock=some k∨((w1.alloc A).alloc B).heap.size<=k):LRel w w2 v' (xs++[x]):=by
 have m1:Q0a w1 ((w1.alloc A).alloc B):=((mRf _ w1).alloc _).alloc _;have m2:Mod (fun k=>v.ownBlock=some k) ((w1.alloc A).alloc B) w2:=Mod.grown (S:=fun k=>v.ownBlock=some k) (mRf _ _) hg (fun k hk _=>hk);have j0:∀k,v.ownBlock=some k->w.heap.size<=k/\k<wr.heap.size:=h.own.lt;have j1:=hf.size;have j2:((w1.alloc A).alloc B).heap.size=w1.heap.size+2:=by simp
 refine⟨?_,?_,?_,?_⟩
 ·rw[z0v,qP,qAj];exact hown
 ·intro y hy;rcases qBs.1 hy with hy|hy
  ·exact(((h.each y hy).fresh hf).fresh m1).kept m2 (fun k hk e=>(h.dis y hy k e).1 hk) (fun k hk e=>(h.dis y hy k e).2 hk)
  simp at hy;subst hy;exact(hx.fresh m1).kept m2 (fun k hk e=>by have:=hk1 k hk;have:=j0 k e;omega) (fun k hk e=>by have:=hk2 k hk;have:=j0 k e;omega)
 ·intro y hy k hk;rcases qBs.1 hy with hy|hy
  ·rcases hb k hk with h1|h1
   ·exact h.dis y hy k h1
   have:=((h.each y hy).fresh hf).lt;exact⟨fun e=>by have:=this.1 k e;omega,fun e=>by have:=this.2 k e;omega⟩
  simp at hy;subst hy;rcases hb k hk with h1|h1
  ·have h3:=j0 k h1;exact⟨fun e=>by have:=hk1 k e;omega,fun e=>by have:=hk2 k e;omega⟩
  have:=hx.lt;exact⟨fun e=>by have:=this.1 k e;omega,fun e=>by have:=this.2 k e;omega⟩
 exact Mod.trans' (S:=fun _=>False) ((h.fresh.trans hf).trans m1) m2 (fun i hi e=>by have:=j0 i e;omega)
abbrev lnArr(p a b c d e f g k:Int)(sk:Bool)(vn:Value)(st en:Int)(vs:Value):Array Value:=#[.int .i64 p,.int .u8 a,.int .u8 b,.int .u8 c,.int .u8 d,.int .u8 e,.int .u8 f,.int .u8 g,.int .u8 k,.bool sk,vn,.int .i64 st,.int .i64 en,vs]
theorem x6z(p a b c d e f g k:Int)(sk:Bool)(ns:List Q0q)(st en:Int)(sy:List Wd)(vn vs:Value):(LV.cells ⟨⟨⟨p,[a,b,c,d,e,f,g,k]⟩,sk,ns,st,en,sy⟩,vn,vs⟩).toArray=lnArr p a b c d e f g k sk vn st en vs:=rfl
theorem y25(s:ByteArray)(w:World)(hs:s.size<=900) :
  Calls Tryz.prog 23 #[.string s] w fun e w'=>∃(v:Value) (xs:List LV),xs.map LV.ln=(Q0c s).1/\e=.returned (.tuple #[v,.int .i64 (Q0c s).2.1,.bool (Q0c s).2.2])/\Q0a w w'/\Q0s w' v xs:=by
 generalize hR:Q0c s=R;have HR:Hid (Q1l s (s.size+5) 0 []=R):=hR;obtain⟨i0,hi,jh,ji,jj⟩:=Q9f;clear hR;go_enter Tryz.func23,Tryz.ntmps23
 go_wp2;go_loopw [5,6] (fun x5 x6 wr=>∃(f:Nat) (i:Int) (xs:List LV),x6=.int .i64 i/\Q1l s f i (xs.map LV.ln)=R/\0<=i/\i<=s.size/\(s.size:Int)+5<=f+i/\(xs.length:Int)<=i/\LRel w wr x5 xs)
   (fun _ x _=>2001-(intOf x).toNat)
 case atStart=>exact⟨s.size+5,0,[],rfl,HR.out,by omega,by omega,by omega,by simp,⟨qAh _ _ _ _,(fun _ h=>by cases h),(fun _ h=>by cases h),mRf _ _⟩⟩
 obtain⟨f,i,xs,rfl,hR,j8,jg,jm,jf,hL⟩:=hrel;obtain⟨f,rfl⟩:∃g,f=g+1:=⟨f-1,by omega⟩;unfold Q1l at hR;have HL:=hid hL;obtain⟨ao,cap,hv⟩:=z0c hL.own;clear hL;subst hv;by_cases j7:i<s.size
 ·rw[qAb j7]at hR;obtain⟨b1,b2,b3⟩:=y9c s i j8 jg;have RL:=hid (fun w=>y5k s i w (by omega) j8 (by omega));generalize Q2w s i=rr at b1 b2 b3 RL hR;obtain⟨ln,nx,jk⟩:=rr;dsimp only at b1 b2 b3 hR;cases jk
  ·simp only[qBn]at hR;have j2:=hid hR;clear hR b3;go_wp2_with (first
    |(go_at_call 55;refine(RL.out _).mono ?_;rintro e w1⟨x,hx,rfl,j4,hA,j5,j6⟩)
    |(refine z0e rfl 81 _ _ rfl w1 _ _ _ rfl rfl rfl (Q09 hA.front) (Q0l rfl (LV.size hA.front)) hA.one ?_))
   refine qAc (qFg rfl _ _ _) rfl ⟨.slice none 0 0,[],by rw[← j2.out];rfl,by rw[← j2.out];rfl,(HL.fresh.trans j4).alloc _,⟨qAh _ _ _ _,fun _ h=>by cases h⟩⟩
  simp only[qDf,qAz]at hR;have j2:=hid hR;have b4:=b3 rfl;have jc:Hid (2001-(intOf (.int .i64 nx)).toNat<2001-(intOf (.int .i64 i)).toNat):=by unfold Hid;simp[intOf];omega
  clear hR b3;go_wp2_with (first
   |(go_at_call 55;refine(RL.out _).mono ?_;rintro e w1⟨x,hx,rfl,j4,hA,j5,j6⟩;have hz:wr.heap.size<=w1.heap.size:=j4.size;obtain⟨⟨⟨pp,ls⟩,sk,jb,jl,jd,sy⟩,vn,vs⟩:=x;have HX:=hid hx;clear hx;obtain⟨a1,a2,a3,a4,a5,a6,a7,a8,e8⟩:=Q59 hA.front;dsimp only at e8;subst e8;obtain⟨no,nc,j9⟩:=z0c hA.nodes.own;obtain⟨so,sc,ja⟩:=z0c hA.syms.own;dsimp only at j9 ja;subst j9;subst ja;rw[x6z])
   |(refine z0e rfl 81 _ _ rfl w1 _ _ _ rfl rfl rfl Q1e rfl hA.one ?_)
   |(refine qAf rfl 81 _ rfl w1.heap.size rfl _ _ _ _ (z0a _ _) qAm rfl Q1e ?_)
   |(at_builtin;refine z0f _ rfl _ _ 37 rfl w.heap.size 81 i0 _ 14 88 Tryz.underlying37 hi jh ji jj rfl (by decide) _ _ _ rfl (((z0d HL.own (fun g hg=>j4.block g (HL.own.lt g hg).2 id)).alloc _).alloc _) ⟨w1.heap.size+1,0,none⟩ 1 1 (LV.cells ⟨⟨⟨pp,[a1,a2,a3,a4,a5,a6,a7,a8]⟩,sk,jb,jl,jd,sy⟩,.slice no jb.length nc,.slice so sy.length sc⟩) rfl rfl ?c1 ?c2 ?c3 ?c4 ?c5 ?_))
  case c1=>exact z13 rfl
  case c2=>intro u hu;exact(qCn.1 hA.one) u (by simpa using hu)
  case c3=>unfold maxLen;omega
  case c4=>omega
  case c5=>have:=HL.fresh.size;simp;omega
  intro v' w2 j1 j0 j3;have je:=HL.next (A:=_) (B:=_) j4 hA j5 j6 j1 j0 (by simpa using j3);clear j1 j0 j3;go_wp2;go_roundw
  case rel =>
   refine⟨f,nx,_,rfl,?_,by omega,by omega,by omega,?_,je⟩
   ·rw[qBp,qDb,HX.out];exact j2.out
   simp;omega
  exact jc.out
 rw[qAa j7]at hR;have j2:=hid hR;clear hR;go_wp2;refine qAc (qFg rfl _ _ _) rfl ⟨.slice ao xs.length cap,xs,by rw[← j2.out],by rw[← j2.out];rfl,HL.fresh,⟨z0g HL.own (qBq _),HL.each⟩⟩
theorem Q60(w:World):(isAgg 5).run Tryz.prog w=.ok false w:=by
 unfold isAgg;rw[Sem.run_bind,run_underlying Tryz.underlying5];rfl
theorem size5:(Tryz.prog.info? 5).map (·.size)=some 1:=by kernel_rfl
theorem sizeOf5(w:World):(sizeOf 5).run Tryz.prog w=.ok 1 w:=by
 have h:=size5;cases hq:Tryz.prog.info? 5 with
 |none=>simp[hq]at h
 |some i=>simp[hq]at h;simp[sizeOf,typeInfo,hq,h]
theorem Q4k(d:Nat)(a b:Int)(w:World):(Op.equalIn (d+1) 5 (.int .u8 a) (.int .u8 b)).run Tryz.prog w=.ok (a==b) w:=qFh w d 5 .u8 _ a b Tryz.underlying5
theorem arr8(d:Nat)(w:World)(a1 a2 a3 a4 a5 a6 a7 a8 b1 b2 b3 b4 b5 b6 b7 b8:Int) :
  (Op.equalIn (d+2) 74 (.agg #[.int .u8 a1,.int .u8 a2,.int .u8 a3,.int .u8 a4,.int .u8 a5,.int .u8 a6,.int .u8 a7,.int .u8 a8]) (.agg #[.int .u8 b1,.int .u8 b2,.int .u8 b3,.int .u8 b4,.int .u8 b5,.int .u8 b6,.int .u8 b7,.int .u8 b8])).run Tryz.prog w=.ok ([a1,a2,a3,a4,a5,a6,a7,a8]==[b1,b2,b3,b4,b5,b6,b7,b8]) w:=by
 rw[Op.equalIn];simp only[Sem.run_bind,run_underlying Tryz.underlying74,Result.andThen_ok,sizeOf5,part];simp;rw[show List.range' 0 8=[0,1,2,3,4,5,6,7] from rfl];by_cases e1:a1=b1
 ·by_cases e2:a2=b2
  ·by_cases e3:a3=b3
   ·by_cases e4:a4=b4
    ·by_cases e5:a5=b5
     ·by_cases e6:a6=b6
      ·by_cases e7:a7=b7
       ·by_cases e8:a8=b8
        ·simp[qEe,Q60,Q4k,e1,e2,e3,e4,e5,e6,e7,e8]
        simp[qEe,Q60,Q4k,e1,e2,e3,e4,e5,e6,e7,e8]
       simp[qEe,Q60,Q4k,e1,e2,e3,e4,e5,e6,e7]
      simp[qEe,Q60,Q4k,e1,e2,e3,e4,e5,e6]
     simp[qEe,Q60,Q4k,e1,e2,e3,e4,e5]
    simp[qEe,Q60,Q4k,e1,e2,e3,e4]
   simp[qEe,Q60,Q4k,e1,e2,e3]
  simp[qEe,Q60,Q4k,e1,e2]
 simp[qEe,Q60,Q4k,e1]
theorem guard8:Tryz.prog.eqGuardType Tryz.prog.depth 74=false:=by kernel_rfl
def Q2i(lns:List Ln)(ls:List Int):Nat:=lns.findIdx (fun x=>x.front.ls==ls)
theorem Q0s.cells14{w:World}{g n cap:Nat}{xs:List LV}(h:Q0s w (.slice (some ⟨g,0,none⟩) n cap) xs)(i j:Nat)(hi:i<xs.length)(hj:j<14):w.cell? ⟨g,i*14+j,none⟩=(xs[i]).cells[j]? := h.row.cell i j hi hj
theorem z4k(w:World)(v:Value)(xs:List LV)(dd:Wd)(hL:Q0s w v xs)(hn:xs.length<=100000)(hl:dd.ls.length=8) :
  Calls Tryz.prog 91 #[v,.agg dd.cells.toArray] w fun e w'=>e=.returned (.int .i64 (Q2i (xs.map LV.ln) dd.ls))/\Q0a w w':=by
 obtain⟨p,ls⟩:=dd;obtain⟨b1,b2,b3,b4,b5,b6,b7,b8,rfl⟩:=Q59 hl;have e1:(Wd.cells ⟨p,[b1,b2,b3,b4,b5,b6,b7,b8]⟩).toArray=Q7e p b1 b2 b3 b4 b5 b6 b7 b8:=rfl;rw[e1];obtain⟨ao,cap,hv⟩:=z0c hL.own;subst hv;have HL:=hid hL;clear hL e1 hl;go_enter Tryz.func91,Tryz.ntmps91
 go_wp2;go_loopw [8] (fun x8 wr=>∃(k:Nat),x8=.int .i64 k/\k<=xs.length/\(∀j (hj:j<k) (hx:j<xs.length),xs[j].ln.front.ls≠[b1,b2,b3,b4,b5,b6,b7,b8])/\Q0a w wr/\wr.heap[w.heap.size]? = some (.cells (Q7e p b1 b2 b3 b4 b5 b6 b7 b8) 76 (0,0)))
   (fun x _=>100001-(intOf x).toNat)
 case atStart=>exact⟨0,rfl,by omega,fun j hj=>by omega,(mRf _ w).alloc _,z0a _ _⟩
 obtain⟨k,rfl,hk,j2,j3,hb⟩:=hrel;have HA:=hid j2;have j9:=hid (Q19 (B:=100001) k (by omega));have HB:=hid hb;have c1:=Q0b hb;clear j2 hb;by_cases j5:k<xs.length
 ·obtain⟨g,ja,j7⟩:=Joins.ownsRow_form HL.own (by omega);rw[qI]at j7;obtain⟨rfl,_,rfl⟩:=j7;have j8:=hid (HL.fresh j3);have j0:=fun j hj=>j8.cells14 k j j5 hj;have hA:=HL.each xs[k] (by simp);have jc:=hid hA.front;obtain⟨a1,a2,a3,a4,a5,a6,a7,a8,j1⟩:=Q59 hA.front;have j4:=hid j1;have d1:wr.cell? ⟨g,k*14+1,none⟩=some (.int .u8 a1):=by rw[j0 1 (by omega)];simp[LV.cells,Wd.cells,j1]
  have d2:wr.cell? ⟨g,k*14+2,none⟩=some (.int .u8 a2):=by rw[j0 2 (by omega)];simp[LV.cells,Wd.cells,j1]
  have d3:wr.cell? ⟨g,k*14+3,none⟩=some (.int .u8 a3):=by rw[j0 3 (by omega)];simp[LV.cells,Wd.cells,j1]
  have d4:wr.cell? ⟨g,k*14+4,none⟩=some (.int .u8 a4):=by rw[j0 4 (by omega)];simp[LV.cells,Wd.cells,j1]
  have d5:wr.cell? ⟨g,k*14+5,none⟩=some (.int .u8 a5):=by rw[j0 5 (by omega)];simp[LV.cells,Wd.cells,j1]
  have d6:wr.cell? ⟨g,k*14+6,none⟩=some (.int .u8 a6):=by rw[j0 6 (by omega)];simp[LV.cells,Wd.cells,j1]
  have d7:wr.cell? ⟨g,k*14+7,none⟩=some (.int .u8 a7):=by rw[j0 7 (by omega)];simp[LV.cells,Wd.cells,j1]
  have d8:wr.cell? ⟨g,k*14+8,none⟩=some (.int .u8 a8):=by rw[j0 8 (by omega)];simp[LV.cells,Wd.cells,j1]
  obtain⟨qq,j6,q8⟩:∃qq,qq=([a1,a2,a3,a4,a5,a6,a7,a8]==[b1,b2,b3,b4,b5,b6,b7,b8])/\∀w,(Op.equalIn 10000 74 (.agg #[.int .u8 a1,.int .u8 a2,.int .u8 a3,.int .u8 a4,.int .u8 a5,.int .u8 a6,.int .u8 a7,.int .u8 a8]) (.agg #[.int .u8 b1,.int .u8 b2,.int .u8 b3,.int .u8 b4,.int .u8 b5,.int .u8 b6,.int .u8 b7,.int .u8 b8])).run Tryz.prog w=.ok qq w:=⟨_,rfl,fun w=>arr8 9998 w a1 a2 a3 a4 a5 a6 a7 a8 b1 b2 b3 b4 b5 b6 b7 b8⟩;have HQ:=hid j6;clear j6;have g8:=guard8;clear j0 hA j1;go_wp2;go_quiet (fail);cases qq
  ·clear q8 g8;go_wp2;go_roundw
   case rel =>
    refine⟨k+1,by go_num,by omega,?_,Mod.of_heap j3 rfl rfl rfl rfl,HB.out⟩;intro j hj hx;by_cases e:j=k
    ·subst e;rw[j4.out];intro e2;have:=HQ.out;rw[e2]at this;simp at this
    exact HA.out j (by omega) hx
   exact j9.out
  clear q8 g8;go_wp2;go_ret;refine⟨z1i ?_,Mod.of_heap j3 rfl rfl rfl rfl⟩;have:Q2i (xs.map LV.ln) [b1,b2,b3,b4,b5,b6,b7,b8]=k:=by
   unfold Q2i;rw[List.findIdx_eq (by simpa using j5)];refine⟨?_,?_⟩
   ·simp only[qCd,j4.out];exact HQ.symm
   intro j hj;simp only[qCd];simpa using HA.out j hj (by omega)
  rw[this]
 have jb:k=xs.length:=by omega
 subst jb;go_wp2;go_ret;refine⟨z1i ?_,j3⟩;have:Q2i (xs.map LV.ln) [b1,b2,b3,b4,b5,b6,b7,b8]=xs.length:=by
  unfold Q2i;have h1:(xs.map LV.ln).length=xs.length:=by simp
  rw[← h1];apply qDt;intro x hx;simp only[qBj]at hx;obtain⟨y,hy,rfl⟩:=hx;obtain⟨j,hj,rfl⟩:=qBf hy;simpa using HA.out j hj hj
 rw[this]
theorem LV.at0(x:LV):x.cells.toArray[0]? = some (.int .i64 x.ln.front.place):=by simp[LV.cells,Wd.cells]
theorem LV.at9{x:LV}(h:x.ln.front.ls.length=8):x.cells.toArray[9]? = some (.bool x.ln.skip):=by
 obtain⟨a,b,c,d,e,f,g,k,hl⟩:=Q59 h;simp[LV.cells,Wd.cells,hl]
theorem LV.at13{x:LV}(h:x.ln.front.ls.length=8):x.cells.toArray[13]? = some x.vs:=by
 obtain⟨a,b,c,d,e,f,g,k,hl⟩:=Q59 h;simp[LV.cells,Wd.cells,hl]
theorem LV.at10{x:LV}(h:x.ln.front.ls.length=8):x.cells.toArray[10]? = some x.vn/\x.cells.toArray[11]? = some (.int .i64 x.ln.st)/\x.cells.toArray[12]? = some (.int .i64 x.ln.en):=by
 obtain⟨a,b,c,d,e,f,g,k,hl⟩:=Q59 h;simp[LV.cells,Wd.cells,hl]
theorem Q0s.frontRange{w:World}{g n cap:Nat}{xs:List LV}(h:Q0s w (.slice (some ⟨g,0,none⟩) n cap) xs)(i:Nat)(hi:i<xs.length):w.rangeAt g (i*14) (xs[i]).ln.front.cells:=by
 intro j v hj;refine h.row.range i hi j v ?_;unfold LV.cells;rw[qAl (qS hj).1];exact hj
theorem Q0s.cell9{w:World}{g n cap:Nat}{xs:List LV}(h:Q0s w (.slice (some ⟨g,0,none⟩) n cap) xs)(i:Nat)(hi:i<xs.length):w.cell? ⟨g,i*14+9,none⟩=some (.bool (xs[i]).ln.skip):=by
 rw[h.cells14 i 9 hi (by omega)];have:=LV.at9 (h.each xs[i] (by simp)).front;simpa using this
def Q3b(lns:List Ln)(i:Nat):Bool:=match lns[i]? with|some x=>decide (Q2i lns x.front.ls<i)|none=>false
def W0h(lns:List Ln)(d:Wd):Bool:=match lns[Q2i lns d.ls]? with|some x=>!x.skip|none=>false
theorem y4g(lns:List Ln)(ls:List Int):Q2i lns ls<=lns.length:=by unfold Q2i;exact List.findIdx_le_length
theorem y3v(w:World)(v:Value)(xs:List LV)(i:Nat)(hL:Q0s w v xs)(hn:xs.length<=100000)(hi:i<xs.length) :
  Calls Tryz.prog 56 #[v,.int .i64 i] w fun e w'=>e=.returned (.bool (Q3b (xs.map LV.ln) i))/\Q0a w w':=by
 obtain⟨g,cap,hv⟩:=Joins.ownsRow_form hL.own (by omega);subst hv;have hA:=hL.each xs[i] (by simp);have HF:=hid hA.front;have HL:=hid hL;have RG:=hid (hL.frontRange i hi);have e1:Q3b (xs.map LV.ln) i=decide (Q2i (xs.map LV.ln) xs[i].ln.front.ls<i):=by unfold Q3b;simp[hi]
 rw[e1];have j0:=y4g (xs.map LV.ln) xs[i].ln.front.ls;simp only[qAv]at j0;clear hA hL e1;go_enter Tryz.func56,Tryz.ntmps56
 go_wp2_with (first
  |(go_at_call 91;refine(z4k _ _ xs _ HL.out hn HF.out).mono ?_;rintro e w1⟨rfl,hf⟩)
  |(refine qAe rfl 76 _ rfl g (i*14) rfl xs[i].ln.front.cells _ RG.out qAx rfl (by rw[Wd.cells_len HF.out];exact Q2s) ?_))
 go_ret;exact⟨z0w (by simp),hf⟩
theorem y4p(w:World)(v:Value)(xs:List LV)(dd:Wd)(hL:Q0s w v xs)(hn:xs.length<=100000)(hl:dd.ls.length=8) :
  Calls Tryz.prog 57 #[v,.agg dd.cells.toArray] w fun e w'=>e=.returned (.bool (W0h (xs.map LV.ln) dd))/\Q0a w w':=by
 obtain⟨ao,cap,hv⟩:=z0c hL.own;subst hv;have HL:=hid hL;have j1:=hid hl;have j4:=y4g (xs.map LV.ln) dd.ls;simp only[qAv]at j4;have m1:Q0a w (w.alloc (.cells dd.cells.toArray 76 (0,0))):=(mRf _ w).alloc _;have j2:=hid (hL.fresh m1);clear hL hl;generalize hff:Q2i (xs.map LV.ln) dd.ls=ff at j4;have j0:=hid hff;clear hff;by_cases j5:ff<xs.length
 ·obtain⟨g,j7,j6⟩:=Joins.ownsRow_form HL.own (by omega);rw[qI]at j6;obtain⟨rfl,_,rfl⟩:=j6;have e1:W0h (xs.map LV.ln) dd=!xs[ff].ln.skip:=by unfold W0h;rw[j0.out];simp[j5]
  rw[e1];clear e1;go_enter Tryz.func57,Tryz.ntmps57
  go_wp2_with (first
   |(go_at_call 91;refine(z4k _ _ xs _ j2.out hn j1.out).mono ?_;rw[j0.out];rintro e w1⟨rfl,hf⟩;have c9:=(j2.fresh hf).cell9 ff j5)
   |(refine qAf rfl 76 _ rfl w.heap.size rfl _ _ _ _ (z0a _ _) qAx rfl (Q1w j1.out) ?_))
  go_ret;exact⟨rfl,m1.trans hf⟩
 have j3:ff=xs.length:=by omega
 have e1:W0h (xs.map LV.ln) dd=false:=by unfold W0h;rw[j0.out];simp[j3]
 rw[e1];have j8:=hid j3;clear e1 j3;go_enter Tryz.func57,Tryz.ntmps57
 go_wp2_with (first
  |(go_at_call 91;refine(z4k _ _ xs _ j2.out hn j1.out).mono ?_;rw[j0.out];rintro e w1⟨rfl,hf⟩)
  |(refine qAf rfl 76 _ rfl w.heap.size rfl _ _ _ _ (z0a _ _) qAx rfl (Q1w j1.out) ?_))
 go_ret;exact⟨rfl,m1.trans hf⟩
end Go.Proofs.YtbdpfmalabgmbaaGreat
