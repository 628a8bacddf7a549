import Derived.Test.YtcpceafmlgaodaaGreatSec
namespace Go.Proofs.YtcpceafmlgaodaaGreat
open Go.RowKit
set_option maxRecDepth 99999
set_option maxHeartbeats 0
set_option linter.all false
theorem y4r(s:ByteArray)(d:Wd):∀(f:Nat) (next:Int) (syms:List Wd),0<=next->next<=s.size ->
  next<=(Q2w s d f next syms).2.1/\(Q2w s d f next syms).2.1<=s.size+20/\((Q2w s d f next syms).2.2=true->next<(Q2w s d f next syms).2.1/\(Q2w s d f next syms).2.1<=s.size)
 |0,next,_,h0,h1=>by simp[Q2w];omega
 |f+1,next,syms,h0,h1=>by
  obtain⟨b1,b2,b3⟩:=z5j s (next+1) (by omega);unfold Q2w;split
  ·split
   ·simp;omega
   rename_i h3;have b4:=b3 (by simpa using h3);obtain⟨c1,c2,c3⟩:=y4r s d f (Q06 s (next+1)).2.1 (syms++[(Q06 s (next+1)).1]) (by omega) (by omega);exact⟨by omega,by omega,fun h=>by have:=c3 h;omega⟩
  split
  ·simp;omega
  rename_i h3;have:=z0q (s:=s) (i:=next) (by omega);simp;omega
theorem x68(s:ByteArray)(i:Int)(d:Wd)(h0:0<=i)(h1:i<=s.size) :
  i<=(Q6e s i d).2.1/\(Q6e s i d).2.1<=s.size+20/\((Q6e s i d).2.2=true->i<(Q6e s i d).2.1/\(Q6e s i d).2.1<=s.size):=by
 unfold Q6e;split
 ·simp;omega
 have:=z0q (s:=s) (i:=i) (by omega);obtain⟨c1,c2,c3⟩:=y4r s d (s.size+5) (i+1) [] (by omega) (by omega);exact⟨by omega,by omega,fun h=>by have:=c3 h;omega⟩
theorem x69(s:ByteArray)(i:Int)(d:Wd)(h0:0<=i)(h1:i<=s.size) :
  i<=(Q6f s i d).2.1/\(Q6f s i d).2.1<=2*s.size+20/\((Q6f s i d).2.2=true->i<(Q6f s i d).2.1/\(Q6f s i d).2.1<=s.size):=by
 unfold Q6f;split
 ·simp;omega
 have j0:=z0q (s:=s) (i:=i) (by omega);obtain⟨g1,g2,g3,g4⟩:=y30 s (i+1) (by omega) (by omega);split
 ·simp;omega
 split
 ·simp;omega
 have:=z0q (s:=s) (i:=(Q1o s (i+1)).next) (by omega);simp;omega
theorem y8p(s:ByteArray)(i:Int)(h0:0<=i)(h1:i<=s.size) :
  i<=(Q2s s i).2.1/\(Q2s s i).2.1<=2*s.size+20/\((Q2s s i).2.2=true->i<(Q2s s i).2.1/\(Q2s s i).2.1<=s.size):=by
 obtain⟨b1,b2,b3⟩:=z5j s i h0;unfold Q2s;split
 ·simp;omega
 rename_i h3;have b4:=b3 (by simpa using h3);split
 ·obtain⟨c1,c2,c3⟩:=x68 s (Q06 s i).2.1 (Q06 s i).1 (by omega) (by omega);exact⟨by omega,by omega,fun h=>by have:=c3 h;omega⟩
 obtain⟨c1,c2,c3⟩:=x69 s (Q06 s i).2.1 (Q06 s i).1 (by omega) (by omega);exact⟨by omega,by omega,fun h=>by have:=c3 h;omega⟩
def Q1k(s:ByteArray):Nat->Int->List Ln->List Ln × Int × Bool
 |0,i,_=>([],i,false)
 |f+1,i,acc =>
  if i<s.size then
   if(Q2s s i).2.2=false then([],(Q2s s i).2.1,false) else Q1k s f (Q2s s i).2.1 (acc++[(Q2s s i).1])
  else(acc,i,true)
def Q0c(s:ByteArray):List Ln × Int × Bool:=Q1k s (s.size+5) 0 []
structure Q1s(w:World)(v:Value)(xs:List LV):Prop where
 own:w.ownsRow 0 116 14 v xs.length (Q00 LV.cells xs)
 each:∀x∈xs,x.At w
theorem Q1s.fresh{w w':World}{v:Value}{xs:List LV}(h:Q1s w v xs)(hm:Q0a w w'):Q1s w' v xs :=
 ⟨z0c h.own (fun g hg=>hm.block g (h.own.lt g hg).2 (fun x=>x)),fun x hx=>(h.each x hx).fresh hm⟩
theorem Q1s.row{w:World}{v:Value}{xs:List LV}(h:Q1s w v xs):Q2e LV.cells 14 116 w v xs:=⟨h.own,fun x hx=>LV.cells_len (h.each x hx).front⟩
theorem infoLine:(Tryz.prog.info? 116).map (fun i=>(i.zero,i.size,i.bytes))=some (some (.agg zeroLV.cells.toArray),14,88):=by kernel_rfl
theorem infoLine':∃i,Tryz.prog.info? 116=some i/\i.zero=some (.agg zeroLV.cells.toArray)/\i.size=14/\i.bytes=88:=nfoE infoLine
theorem LV.At.kept{S:Nat->Prop}{w w':World}{x:LV}(h:x.At w)(hm:Mod S w w')(h1:∀k,x.vn.ownBlock=some k->¬S k)(h2:∀k,x.vs.ownBlock=some k->¬S k):x.At w' :=
 ⟨h.nodes.kept hm h1,h.syms.kept hm h2,h.front,h.small⟩
theorem LV.At.lt{w:World}{x:LV}(h:x.At w):(∀k,x.vn.ownBlock=some k->k<w.heap.size)/\(∀k,x.vs.ownBlock=some k->k<w.heap.size) :=
 ⟨fun k hk=>(h.nodes.own.lt k hk).2,fun k hk=>(h.syms.own.lt k hk).2⟩
structure LRel(w wr:World)(v:Value)(xs:List LV):Prop where
 own:wr.ownsRow w.heap.size 116 14 v xs.length (Q00 LV.cells xs)
 each:∀x∈xs,x.At wr
 dis:∀x∈xs,∀k,v.ownBlock=some k->x.vn.ownBlock≠some k/\x.vs.ownBlock≠some k
 fresh:Q0a w wr
theorem LRel.next{w wr w1 w2:World}{v v':Value}{xs:List LV}{x:LV}{A B:Obj}(h:LRel w wr v xs)(hf:Q0a wr w1)(hx:x.At w1)
  (hk1:∀k,x.vn.ownBlock=some k->wr.heap.size<=k) (hk2:∀k,x.vs.ownBlock=some k->wr.heap.size<=k)
  (hown:w2.ownsRow w.heap.size 116 14 v' (xs.length+1) (Q00 LV.cells xs++x.cells)) (hg:((w1.alloc A).alloc B).grownBy w2 v.ownBlock)
  (hb:∀k,v'.ownBlock=some k->v.ownBlock=some k∨((w1.alloc A).alloc B).heap.size<=k):LRel w w2 v' (xs++[x]):=by
 have m1:Q0a w1 ((w1.alloc A).alloc B):=((mRf _ w1).alloc _).alloc _;have m2:Mod (fun k=>v.ownBlock=some k) ((w1.alloc A).alloc B) w2:=Mod.grown (S:=fun k=>v.ownBlock=some k) (mRf _ _) hg (fun k hk _=>hk);have j0:∀k,v.ownBlock=some k->w.heap.size<=k/\k<wr.heap.size:=h.own.lt;have j1:=hf.size;have j2:((w1.alloc A).alloc B).heap.size=w1.heap.size+2:=by simp
 refine⟨?_,?_,?_,?_⟩
 ·rw[z0y,qP,qAf];exact hown
 ·intro y hy;rcases qBj.1 hy with hy|hy
  ·exact(((h.each y hy).fresh hf).fresh m1).kept m2 (fun k hk e=>(h.dis y hy k e).1 hk) (fun k hk e=>(h.dis y hy k e).2 hk)
  simp at hy;subst hy;exact(hx.fresh m1).kept m2 (fun k hk e=>by have:=hk1 k hk;have:=j0 k e;omega) (fun k hk e=>by have:=hk2 k hk;have:=j0 k e;omega)
 ·intro y hy k hk;rcases qBj.1 hy with hy|hy
  ·rcases hb k hk with h1|h1
   ·exact h.dis y hy k h1
   have:=((h.each y hy).fresh hf).lt;exact⟨fun e=>by have:=this.1 k e;omega,fun e=>by have:=this.2 k e;omega⟩
  simp at hy;subst hy;rcases hb k hk with h1|h1
  ·have h3:=j0 k h1;exact⟨fun e=>by have:=hk1 k e;omega,fun e=>by have:=hk2 k e;omega⟩
  have:=hx.lt;exact⟨fun e=>by have:=this.1 k e;omega,fun e=>by have:=this.2 k e;omega⟩
 exact Mod.trans' (S:=fun _=>False) ((h.fresh.trans hf).trans m1) m2 (fun i hi e=>by have:=j0 i e;omega)
abbrev lnArr(p a b c d e f g k:Int)(sk:Bool)(vn:Value)(st en:Int)(vs:Value):Array Value:=#[.int .i64 p,.int .u8 a,.int .u8 b,.int .u8 c,.int .u8 d,.int .u8 e,.int .u8 f,.int .u8 g,.int .u8 k,.bool sk,vn,.int .i64 st,.int .i64 en,vs]
theorem x6i(p a b c d e f g k:Int)(sk:Bool)(ns:List Q0o)(st en:Int)(sy:List Wd)(vn vs:Value):(LV.cells ⟨⟨⟨p,[a,b,c,d,e,f,g,k]⟩,sk,ns,st,en,sy⟩,vn,vs⟩).toArray=lnArr p a b c d e f g k sk vn st en vs:=rfl
theorem y2n(s:ByteArray)(w:World)(hs:s.size<=900) :
  Calls Tryz.prog 41 #[.string s] w fun e w'=>∃(v:Value) (xs:List LV),xs.map LV.ln=(Q0c s).1/\e=.returned (.tuple #[v,.int .i64 (Q0c s).2.1,.bool (Q0c s).2.2])/\Q0a w w'/\Q1s w' v xs:=by
 generalize hR:Q0c s=R;have HR:Hid (Q1k s (s.size+5) 0 []=R):=hR;obtain⟨i0,hi,hz0,hz1,hz2⟩:=infoLine';clear hR;go_enter Tryz.func41,Tryz.ntmps41
 go_wp2;go_loopw [5,6] (fun x5 x6 wr=>∃(f:Nat) (i:Int) (xs:List LV),x6=.int .i64 i/\Q1k s f i (xs.map LV.ln)=R/\0<=i/\i<=s.size/\(s.size:Int)+5<=f+i/\(xs.length:Int)<=i/\LRel w wr x5 xs)
   (fun _ x _=>2001-(intOf x).toNat)
 case atStart=>exact⟨s.size+5,0,[],rfl,HR.out,by omega,by omega,by omega,by simp,⟨World.ownsRow_nil _ _ _ _,(fun _ h=>by cases h),(fun _ h=>by cases h),mRf _ _⟩⟩
 obtain⟨f,i,xs,rfl,hR,hn0,hn1,hfu,hcnt,hL⟩:=hrel;obtain⟨f,rfl⟩:∃g,f=g+1:=⟨f-1,by omega⟩;unfold Q1k at hR;have HL:=hid hL;obtain⟨ao,cap,hv⟩:=z0d hL.own;clear hL;subst hv;by_cases hlt:i<s.size
 ·rw[qAb hlt]at hR;obtain⟨b1,b2,b3⟩:=y8p s i hn0 hn1;have RL:=hid (fun w=>y41 s i w (by omega) hn0 (by omega));generalize Q2s s i=rr at b1 b2 b3 RL hR;obtain⟨ln,nx,okk⟩:=rr;dsimp only at b1 b2 b3 hR;cases okk
  ·simp only[qBb]at hR;have j0:=hid hR;clear hR b3;go_wp2_with (first
    |(go_at_call 77;refine(RL.out _).mono ?_;rintro e w1⟨x,hx,rfl,hf1,hA,hk1,hk2⟩)
    |(refine z0e rfl 116 _ _ rfl w1 _ _ _ rfl rfl rfl (Q09 hA.front) (Q0k rfl (LV.size hA.front)) hA.one ?_))
   refine bodyPost_ret (results_tmp3 rfl _ _ _) rfl ⟨.slice none 0 0,[],by rw[← j0.out];rfl,by rw[← j0.out];rfl,(HL.fresh.trans hf1).alloc _,⟨World.ownsRow_nil _ _ _ _,fun _ h=>by cases h⟩⟩
  simp only[qCe,qAp]at hR;have j0:=hid hR;have b4:=b3 rfl;have j1:Hid (2001-(intOf (.int .i64 nx)).toNat<2001-(intOf (.int .i64 i)).toNat):=by unfold Hid;simp[intOf];omega
  clear hR b3;go_wp2_with (first
   |(go_at_call 77;refine(RL.out _).mono ?_;rintro e w1⟨x,hx,rfl,hf1,hA,hk1,hk2⟩;have hz:wr.heap.size<=w1.heap.size:=hf1.size;obtain⟨⟨⟨pp,ls⟩,sk,nsx,stx,enx,sy⟩,vn,vs⟩:=x;have HX:=hid hx;clear hx;obtain⟨a1,a2,a3,a4,a5,a6,a7,a8,e8⟩:=Q59 hA.front;dsimp only at e8;subst e8;obtain⟨no,nc,hvn⟩:=z0d hA.nodes.own;obtain⟨so,sc,hvs⟩:=z0d hA.syms.own;dsimp only at hvn hvs;subst hvn;subst hvs;rw[x6i])
   |(refine z0e rfl 116 _ _ rfl w1 _ _ _ rfl rfl rfl Q1j rfl hA.one ?_)
   |(refine wpList_load_row rfl 116 _ rfl w1.heap.size rfl _ _ _ _ (z0a _ _) Tryz.underlying116 rfl Q1j ?_)
   |(at_builtin;refine z0g _ rfl _ _ 61 rfl w.heap.size 116 i0 _ 14 88 Tryz.underlying61 hi hz0 hz1 hz2 rfl (by decide) _ _ _ rfl (((z0c HL.own (fun g hg=>hf1.block g (HL.own.lt g hg).2 (fun x=>x))).alloc _).alloc _) ⟨w1.heap.size+1,0,none⟩ 1 1 (LV.cells ⟨⟨⟨pp,[a1,a2,a3,a4,a5,a6,a7,a8]⟩,sk,nsx,stx,enx,sy⟩,.slice no nsx.length nc,.slice so sy.length sc⟩) rfl rfl ?c1 ?c2 ?c3 ?c4 ?c5 ?_))
  case c1=>exact z2s rfl
  case c2=>intro u hu;exact(qCa.1 hA.one) u (by simpa using hu)
  case c3=>unfold maxLen;omega
  case c4=>omega
  case c5=>have:=HL.fresh.size;simp;omega
  intro v' w2 hown2 hgrow hblk;have j2:=HL.next (A:=_) (B:=_) hf1 hA hk1 hk2 hown2 hgrow (by simpa using hblk);clear hown2 hgrow hblk;go_wp2;go_roundw
  case rel =>
   refine⟨f,nx,_,rfl,?_,by omega,by omega,by omega,?_,j2⟩
   ·rw[qBf,qCf,HX.out];exact j0.out
   simp;omega
  exact j1.out
 rw[qAa hlt]at hR;have j0:=hid hR;clear hR;go_wp2;refine bodyPost_ret (results_tmp3 rfl _ _ _) rfl ⟨.slice ao xs.length cap,xs,by rw[← j0.out],by rw[← j0.out];rfl,HL.fresh,⟨z0f HL.own (qBg _),HL.each⟩⟩
theorem Q6p(w:World):(isAgg 5).run Tryz.prog w=.ok false w:=by
 unfold isAgg;rw[Sem.run_bind,run_underlying Tryz.underlying5];rfl
theorem size5:(Tryz.prog.info? 5).map (·.size)=some 1:=by kernel_rfl
theorem sizeOf5(w:World):(sizeOf 5).run Tryz.prog w=.ok 1 w:=by
 have h:=size5;cases hq:Tryz.prog.info? 5 with
 |none=>simp[hq]at h
 |some i=>simp[hq]at h;simp[sizeOf,typeInfo,hq,h]
theorem Q4d(d:Nat)(a b:Int)(w:World):(Op.equalIn (d+1) 5 (.int .u8 a) (.int .u8 b)).run Tryz.prog w=.ok (a==b) w:=run_equalIn_int w d 5 .u8 _ a b Tryz.underlying5
theorem arr8(d:Nat)(w:World)(a1 a2 a3 a4 a5 a6 a7 a8 b1 b2 b3 b4 b5 b6 b7 b8:Int) :
  (Op.equalIn (d+2) 109 (.agg #[.int .u8 a1,.int .u8 a2,.int .u8 a3,.int .u8 a4,.int .u8 a5,.int .u8 a6,.int .u8 a7,.int .u8 a8]) (.agg #[.int .u8 b1,.int .u8 b2,.int .u8 b3,.int .u8 b4,.int .u8 b5,.int .u8 b6,.int .u8 b7,.int .u8 b8])).run Tryz.prog w=.ok ([a1,a2,a3,a4,a5,a6,a7,a8]==[b1,b2,b3,b4,b5,b6,b7,b8]) w:=by
 rw[Op.equalIn];simp only[Sem.run_bind,run_underlying Tryz.underlying109,Result.andThen_ok,sizeOf5,part];simp;rw[show List.range' 0 8=[0,1,2,3,4,5,6,7] from rfl];by_cases e1:a1=b1
 ·by_cases e2:a2=b2
  ·by_cases e3:a3=b3
   ·by_cases e4:a4=b4
    ·by_cases e5:a5=b5
     ·by_cases e6:a6=b6
      ·by_cases e7:a7=b7
       ·by_cases e8:a8=b8
        ·simp[qDg,Q6p,Q4d,e1,e2,e3,e4,e5,e6,e7,e8]
        simp[qDg,Q6p,Q4d,e1,e2,e3,e4,e5,e6,e7,e8]
       simp[qDg,Q6p,Q4d,e1,e2,e3,e4,e5,e6,e7]
      simp[qDg,Q6p,Q4d,e1,e2,e3,e4,e5,e6]
     simp[qDg,Q6p,Q4d,e1,e2,e3,e4,e5]
    simp[qDg,Q6p,Q4d,e1,e2,e3,e4]
   simp[qDg,Q6p,Q4d,e1,e2,e3]
  simp[qDg,Q6p,Q4d,e1,e2]
 simp[qDg,Q6p,Q4d,e1]
theorem guard8:Tryz.prog.eqGuardType Tryz.prog.depth 109=false:=by kernel_rfl
def Q2d(lns:List Ln)(ls:List Int):Nat:=lns.findIdx (fun x=>x.front.ls==ls)
theorem Q1s.cells14{w:World}{g n cap:Nat}{xs:List LV}(h:Q1s w (.slice (some ⟨g,0,none⟩) n cap) xs)(i j:Nat)(hi:i<xs.length)(hj:j<14):w.cell? ⟨g,i*14+j,none⟩=(xs[i]).cells[j]? := h.row.cell i j hi hj
theorem z4h(w:World)(v:Value)(xs:List LV)(dd:Wd)(hL:Q1s w v xs)(hn:xs.length<=100000)(hl:dd.ls.length=8) :
  Calls Tryz.prog 101 #[v,.agg dd.cells.toArray] w fun e w'=>e=.returned (.int .i64 (Q2d (xs.map LV.ln) dd.ls))/\Q0a w w':=by
 obtain⟨p,ls⟩:=dd;obtain⟨b1,b2,b3,b4,b5,b6,b7,b8,rfl⟩:=Q59 hl;have e1:(Wd.cells ⟨p,[b1,b2,b3,b4,b5,b6,b7,b8]⟩).toArray=Q61 p b1 b2 b3 b4 b5 b6 b7 b8:=rfl;rw[e1];obtain⟨ao,cap,hv⟩:=z0d hL.own;subst hv;have HL:=hid hL;clear hL e1 hl;go_enter Tryz.func101,Tryz.ntmps101
 go_wp2;go_loopw [8] (fun x8 wr=>∃(k:Nat),x8=.int .i64 k/\k<=xs.length/\(∀j (hj:j<k) (hx:j<xs.length),xs[j].ln.front.ls≠[b1,b2,b3,b4,b5,b6,b7,b8])/\Q0a w wr/\wr.heap[w.heap.size]? = some (.cells (Q61 p b1 b2 b3 b4 b5 b6 b7 b8) 111 (0,0)))
   (fun x _=>100001-(intOf x).toNat)
 case atStart=>exact⟨0,rfl,by omega,fun j hj=>by omega,(mRf _ w).alloc _,z0a _ _⟩
 obtain⟨k,rfl,hk,hall,hfr,hb⟩:=hrel;have HA:=hid hall;have j3:=hid (Q15 (B:=100001) k (by omega));have HB:=hid hb;have c1:=Q0b hb;clear hall hb;by_cases hlt:k<xs.length
 ·obtain⟨g,cap',hv'⟩:=Joins.ownsRow_form HL.own (by omega);rw[qI]at hv';obtain⟨rfl,_,rfl⟩:=hv';have j2:=hid (HL.fresh hfr);have j0:=fun j hj=>j2.cells14 k j hlt hj;have hA:=HL.each xs[k] (by simp);have j5:=hid hA.front;obtain⟨a1,a2,a3,a4,a5,a6,a7,a8,hls⟩:=Q59 hA.front;have j1:=hid hls;have d1:wr.cell? ⟨g,k*14+1,none⟩=some (.int .u8 a1):=by rw[j0 1 (by omega)];simp[LV.cells,Wd.cells,hls]
  have d2:wr.cell? ⟨g,k*14+2,none⟩=some (.int .u8 a2):=by rw[j0 2 (by omega)];simp[LV.cells,Wd.cells,hls]
  have d3:wr.cell? ⟨g,k*14+3,none⟩=some (.int .u8 a3):=by rw[j0 3 (by omega)];simp[LV.cells,Wd.cells,hls]
  have d4:wr.cell? ⟨g,k*14+4,none⟩=some (.int .u8 a4):=by rw[j0 4 (by omega)];simp[LV.cells,Wd.cells,hls]
  have d5:wr.cell? ⟨g,k*14+5,none⟩=some (.int .u8 a5):=by rw[j0 5 (by omega)];simp[LV.cells,Wd.cells,hls]
  have d6:wr.cell? ⟨g,k*14+6,none⟩=some (.int .u8 a6):=by rw[j0 6 (by omega)];simp[LV.cells,Wd.cells,hls]
  have d7:wr.cell? ⟨g,k*14+7,none⟩=some (.int .u8 a7):=by rw[j0 7 (by omega)];simp[LV.cells,Wd.cells,hls]
  have d8:wr.cell? ⟨g,k*14+8,none⟩=some (.int .u8 a8):=by rw[j0 8 (by omega)];simp[LV.cells,Wd.cells,hls]
  obtain⟨qq,hqq,q8⟩:∃qq,qq=([a1,a2,a3,a4,a5,a6,a7,a8]==[b1,b2,b3,b4,b5,b6,b7,b8])/\∀w,(Op.equalIn 10000 109 (.agg #[.int .u8 a1,.int .u8 a2,.int .u8 a3,.int .u8 a4,.int .u8 a5,.int .u8 a6,.int .u8 a7,.int .u8 a8]) (.agg #[.int .u8 b1,.int .u8 b2,.int .u8 b3,.int .u8 b4,.int .u8 b5,.int .u8 b6,.int .u8 b7,.int .u8 b8])).run Tryz.prog w=.ok qq w:=⟨_,rfl,fun w=>arr8 9998 w a1 a2 a3 a4 a5 a6 a7 a8 b1 b2 b3 b4 b5 b6 b7 b8⟩;have HQ:=hid hqq;clear hqq;have g8:=guard8;clear j0 hA hls;go_wp2;go_quiet (fail);cases qq
  ·clear q8 g8;go_wp2;go_roundw
   case rel =>
    refine⟨k+1,by go_num,by omega,?_,Mod.of_heap hfr rfl rfl rfl rfl,HB.out⟩;intro j hj hx;by_cases e:j=k
    ·subst e;rw[j1.out];intro e2;have:=HQ.out;rw[e2]at this;simp at this
    exact HA.out j (by omega) hx
   exact j3.out
  clear q8 g8;go_wp2;go_ret;refine⟨z1h ?_,Mod.of_heap hfr rfl rfl rfl rfl⟩;have:Q2d (xs.map LV.ln) [b1,b2,b3,b4,b5,b6,b7,b8]=k:=by
   unfold Q2d;rw[List.findIdx_eq (by simpa using hlt)];refine⟨?_,?_⟩
   ·simp only[qBt,j1.out];exact HQ.symm
   intro j hj;simp only[qBt];simpa using HA.out j hj (by omega)
  rw[this]
 have j4:k=xs.length:=by omega
 subst j4;go_wp2;go_ret;refine⟨z1h ?_,hfr⟩;have:Q2d (xs.map LV.ln) [b1,b2,b3,b4,b5,b6,b7,b8]=xs.length:=by
  unfold Q2d;have h1:(xs.map LV.ln).length=xs.length:=by simp
  rw[← h1];apply qCv;intro x hx;simp only[qBp]at hx;obtain⟨y,hy,rfl⟩:=hx;obtain⟨j,hj,rfl⟩:=qAv hy;simpa using HA.out j hj hj
 rw[this]
theorem LV.at0(x:LV):x.cells.toArray[0]? = some (.int .i64 x.ln.front.place):=by simp[LV.cells,Wd.cells]
theorem LV.at9{x:LV}(h:x.ln.front.ls.length=8):x.cells.toArray[9]? = some (.bool x.ln.skip):=by
 obtain⟨a,b,c,d,e,f,g,k,hl⟩:=Q59 h;simp[LV.cells,Wd.cells,hl]
theorem LV.at13{x:LV}(h:x.ln.front.ls.length=8):x.cells.toArray[13]? = some x.vs:=by
 obtain⟨a,b,c,d,e,f,g,k,hl⟩:=Q59 h;simp[LV.cells,Wd.cells,hl]
theorem LV.at10{x:LV}(h:x.ln.front.ls.length=8):x.cells.toArray[10]? = some x.vn/\x.cells.toArray[11]? = some (.int .i64 x.ln.st)/\x.cells.toArray[12]? = some (.int .i64 x.ln.en):=by
 obtain⟨a,b,c,d,e,f,g,k,hl⟩:=Q59 h;simp[LV.cells,Wd.cells,hl]
theorem Q1s.frontRange{w:World}{g n cap:Nat}{xs:List LV}(h:Q1s w (.slice (some ⟨g,0,none⟩) n cap) xs)(i:Nat)(hi:i<xs.length):w.rangeAt g (i*14) (xs[i]).ln.front.cells:=by
 intro j v hj;refine h.row.range i hi j v ?_;unfold LV.cells;rw[qAe (qS hj).1];exact hj
theorem Q1s.cell9{w:World}{g n cap:Nat}{xs:List LV}(h:Q1s w (.slice (some ⟨g,0,none⟩) n cap) xs)(i:Nat)(hi:i<xs.length):w.cell? ⟨g,i*14+9,none⟩=some (.bool (xs[i]).ln.skip):=by
 rw[h.cells14 i 9 hi (by omega)];have:=LV.at9 (h.each xs[i] (by simp)).front;simpa using this
def Q24(lns:List Ln)(i:Nat):Bool:=match lns[i]? with|some x=>decide (Q2d lns x.front.ls<i)|none=>false
def Q92(lns:List Ln)(d:Wd):Bool:=match lns[Q2d lns d.ls]? with|some x=>!x.skip|none=>false
theorem y3y(lns:List Ln)(ls:List Int):Q2d lns ls<=lns.length:=by unfold Q2d;exact List.findIdx_le_length
theorem y3d(w:World)(v:Value)(xs:List LV)(i:Nat)(hL:Q1s w v xs)(hn:xs.length<=100000)(hi:i<xs.length) :
  Calls Tryz.prog 78 #[v,.int .i64 i] w fun e w'=>e=.returned (.bool (Q24 (xs.map LV.ln) i))/\Q0a w w':=by
 obtain⟨g,cap,hv⟩:=Joins.ownsRow_form hL.own (by omega);subst hv;have hA:=hL.each xs[i] (by simp);have HF:=hid hA.front;have HL:=hid hL;have RG:=hid (hL.frontRange i hi);have e1:Q24 (xs.map LV.ln) i=decide (Q2d (xs.map LV.ln) xs[i].ln.front.ls<i):=by unfold Q24;simp[hi]
 rw[e1];have j0:=y3y (xs.map LV.ln) xs[i].ln.front.ls;simp only[qAo]at j0;clear hA hL e1;go_enter Tryz.func78,Tryz.ntmps78
 go_wp2_with (first
  |(go_at_call 101;refine(z4h _ _ xs _ HL.out hn HF.out).mono ?_;rintro e w1⟨rfl,hf⟩)
  |(refine wpList_load_mid rfl 111 _ rfl g (i*14) rfl xs[i].ln.front.cells _ RG.out Tryz.underlying111 rfl (by rw[Wd.cells_len HF.out];exact Q2o) ?_))
 go_ret;exact⟨z0s (by simp),hf⟩
theorem y36(w:World)(v:Value)(xs:List LV)(dd:Wd)(hL:Q1s w v xs)(hn:xs.length<=100000)(hl:dd.ls.length=8) :
  Calls Tryz.prog 79 #[v,.agg dd.cells.toArray] w fun e w'=>e=.returned (.bool (Q92 (xs.map LV.ln) dd))/\Q0a w w':=by
 obtain⟨ao,cap,hv⟩:=z0d hL.own;subst hv;have HL:=hid hL;have j1:=hid hl;have j4:=y3y (xs.map LV.ln) dd.ls;simp only[qAo]at j4;have m1:Q0a w (w.alloc (.cells dd.cells.toArray 111 (0,0))):=(mRf _ w).alloc _;have j2:=hid (hL.fresh m1);clear hL hl;generalize hff:Q2d (xs.map LV.ln) dd.ls=ff at j4;have j0:=hid hff;clear hff;by_cases hlt:ff<xs.length
 ·obtain⟨g,cap',hv'⟩:=Joins.ownsRow_form HL.own (by omega);rw[qI]at hv';obtain⟨rfl,_,rfl⟩:=hv';have e1:Q92 (xs.map LV.ln) dd=!xs[ff].ln.skip:=by unfold Q92;rw[j0.out];simp[hlt]
  rw[e1];clear e1;go_enter Tryz.func79,Tryz.ntmps79
  go_wp2_with (first
   |(go_at_call 101;refine(z4h _ _ xs _ j2.out hn j1.out).mono ?_;rw[j0.out];rintro e w1⟨rfl,hf⟩;have c9:=(j2.fresh hf).cell9 ff hlt)
   |(refine wpList_load_row rfl 111 _ rfl w.heap.size rfl _ _ _ _ (z0a _ _) Tryz.underlying111 rfl (Q1u j1.out) ?_))
  go_ret;exact⟨rfl,m1.trans hf⟩
 have j3:ff=xs.length:=by omega
 have e1:Q92 (xs.map LV.ln) dd=false:=by unfold Q92;rw[j0.out];simp[j3]
 rw[e1];have j5:=hid j3;clear e1 j3;go_enter Tryz.func79,Tryz.ntmps79
 go_wp2_with (first
  |(go_at_call 101;refine(z4h _ _ xs _ j2.out hn j1.out).mono ?_;rw[j0.out];rintro e w1⟨rfl,hf⟩)
  |(refine wpList_load_row rfl 111 _ rfl w.heap.size rfl _ _ _ _ (z0a _ _) Tryz.underlying111 rfl (Q1u j1.out) ?_))
 go_ret;exact⟨rfl,m1.trans hf⟩
end Go.Proofs.YtcpceafmlgaodaaGreat
