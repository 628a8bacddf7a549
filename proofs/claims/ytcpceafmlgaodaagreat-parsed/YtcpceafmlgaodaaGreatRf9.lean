import Derived.Test.YtcpceafmlgaodaaGreatRg2
namespace Go.Proofs.YtcpceafmlgaodaaGreat
open Go.RowKit
set_option maxRecDepth 100000
set_option maxHeartbeats 16000000
set_option linter.unusedVariables false
set_option linter.unusedSimpArgs false
structure LnM(w wr:World)(nm:ByteArray)(a:List ByteArray)(b:List Int)(vs vp:Value):Prop where
 fresh:Q0a w wr
 res:wr.heap[w.heap.size]? = some(.cells(zlA false false⟨#[]⟩⟨#[]⟩(.slice none 0 0)(.slice none 0 0)0)85(0,0))
 loc:wr.heap[w.heap.size+1]? = some(.cells(zlA false false nm⟨#[]⟩vs vp 0)85(0,0))
 os:wr.ownsRow(w.heap.size+2)9 1 vs a.length(Q9z a)
 op:wr.ownsRow(w.heap.size+2)3 1 vp b.length(W0b b)
 dis:∀k,vs.ownBlock=some k->vp.ownBlock=some k->False
section
variable{w wr W w1:World}{nm:ByteArray}{a:List ByteArray}{b:List Int}{vs vp v':Value}
theorem LnM.blk(h:LnM w wr nm a b vs vp)(hW:Q0a wr W){v:Value}(hv:v=vs∨v=vp)(hg:W.grownBy w1 v.ownBlock) :
  w1.heap[w.heap.size]? = some(.cells(zlA false false⟨#[]⟩⟨#[]⟩(.slice none 0 0)(.slice none 0 0)0)85(0,0))/\w1.heap[w.heap.size+1]? = some(.cells(zlA false false nm⟨#[]⟩vs vp 0)85(0,0)):=by
 have h1:=hW.at h.res(fun x=>x);have h2:=hW.at h.loc(fun x=>x);have j0:∀k,v.ownBlock=some k->w.heap.size+2<=k:=by
  intro k hk;rcases hv with rfl|rfl
  ·exact(h.os.lt k hk).1
  exact(h.op.lt k hk).1
 exact⟨by rw[hg.block _(z0j h1)(fun e=>by have:=j0 _ e.symm;omega)];exact h1,by rw[hg.block _(z0j h2)(fun e=>by have:=j0 _ e.symm;omega)];exact h2⟩
theorem LnM.addS{x:ByteArray}(h:LnM w wr nm a b vs vp)(hW:Q0a wr W)(hown:w1.ownsRow(w.heap.size+2)9 1 v'(a.length+1)(Q9z a++[.string x]))(hg:W.grownBy w1 vs.ownBlock)
  (hb:∀k,v'.ownBlock=some k->vs.ownBlock=some k∨W.heap.size<=k):LnM w(w1.setCell⟨w.heap.size+1,4,none⟩v')nm(a++[x])b v' vp:=by
 obtain⟨k1,k2⟩:=h.blk hW(.inl rfl)hg;have hl:=hown.lt;refine⟨?_,?_,?_,?_,?_,?_⟩
 ·exact((h.fresh.trans hW).grown hg(fun k hk hlt=>by have:=h.os.lt k hk;omega)).setCell(fun q=>by dsimp only at q;omega)_
 ·exact z0i k1(by simp)
 ·rw[zhs k2];rfl
 ·rw[List.length_append,List.length_singleton];have e1:=List.map_append(f:=Value.string)(l₁:=a)(l₂:=[x]);rw[List.map_singleton]at e1;show World.ownsRow _ _ _ _ _ _(List.map _ _);rw[e1];exact z0c hown(fun g hg'=>by rw[Proofs.YtcpceafmlgaodaaGreat.heap_setCell_other _(by have:=hl g hg';simp;omega)])
 ·refine z0c h.op(fun g hg'=>?_);have l2:=h.op.lt g hg';rw[Proofs.YtcpceafmlgaodaaGreat.heap_setCell_other _(by simp;omega),hg.block g(by have:=hW.size;omega)(fun e=>h.dis g e.symm hg'),hW.block g l2.2(fun x=>x)]
 intro k q1 q2;rcases hb k q1 with q|q
 ·exact h.dis k q q2
 have:=h.op.lt k q2;have:=hW.size;omega
theorem LnM.addP{x:Int}(h:LnM w wr nm a b vs vp)(hW:Q0a wr W)(hown:w1.ownsRow(w.heap.size+2)3 1 v'(b.length+1)(W0b b++[.int .i64 x]))(hg:W.grownBy w1 vp.ownBlock)
  (hb:∀k,v'.ownBlock=some k->vp.ownBlock=some k∨W.heap.size<=k):LnM w(w1.setCell⟨w.heap.size+1,5,none⟩v')nm a(b++[x])vs v':=by
 obtain⟨k1,k2⟩:=h.blk hW(.inr rfl)hg;have hl:=hown.lt;refine⟨?_,?_,?_,?_,?_,?_⟩
 ·exact((h.fresh.trans hW).grown hg(fun k hk hlt=>by have:=h.op.lt k hk;omega)).setCell(fun q=>by dsimp only at q;omega)_
 ·exact z0i k1(by simp)
 ·rw[zhs k2];rfl
 ·refine z0c h.os(fun g hg'=>?_);have l2:=h.os.lt g hg';rw[Proofs.YtcpceafmlgaodaaGreat.heap_setCell_other _(by simp;omega),hg.block g(by have:=hW.size;omega)(fun e=>h.dis g hg' e.symm),hW.block g l2.2(fun x=>x)]
 ·rw[List.length_append,List.length_singleton];have e1:=List.map_append(f:=Value.int .i64)(l₁:=b)(l₂:=[x]);rw[List.map_singleton]at e1;show World.ownsRow _ _ _ _ _ _(List.map _ _);rw[e1];exact z0c hown(fun g hg'=>by rw[Proofs.YtcpceafmlgaodaaGreat.heap_setCell_other _(by have:=hl g hg';simp;omega)])
 intro k q1 q2;rcases hb k q2 with q|q
 ·exact h.dis k q1 q
 have:=h.os.lt k q1;have:=hW.size;omega
theorem LnM.ret{ok:Bool}{r:Option ZLn}(h:LnM w wr nm a b vs vp)(hr:r.isSome=ok)(hz:∀z,r=some z->z=⟨false,false,nm,⟨#[]⟩,a,b⟩){e:Ending}{w':World}(hf:w'=wr.setRow w.heap.size(zlA false false nm⟨#[]⟩vs vp 0))(he:e=.returned(.tuple#[.agg(zlA false false nm⟨#[]⟩vs vp 0),.bool ok])):ZRet w r e w':=by
 subst hf;refine⟨⟨⟨false,false,nm,⟨#[]⟩,a,b⟩,vs,vp,0⟩,by rw[hr];exact he,⟨?_,?_⟩,h.fresh.setRow(by simp)_,fun z q=>(hz z q).symm⟩
 ·exact z0f(z0c h.os(fun g hg=>setRow_other _ _ _ _(by have:=h.os.lt g hg;omega)))(by omega)
 exact z0f(z0c h.op(fun g hg=>setRow_other _ _ _ _(by have:=h.op.lt g hg;omega)))(by omega)
end
attribute [local go_sem ↓] z16
theorem x0a(s:ByteArray)(w:World)(hs:s.size<=70000)(hn:Q4c s 0=0)(hok:0<=Q5t s 0/\atB s(Q5t s 0)=58) :
  Calls Tryz.prog 60#[.string s]w fun e w'=>ZRet w((Q45 s(s.size+5)(Q5t s 0+1) [] []).map(fun l=>⟨false,false,s.extract 0(Q5t s 0).toNat,⟨#[]⟩,l.1,l.2⟩))e w':=by
 have ZL:=hid(fun w=>z2g s 0 w(by omega)(by omega));have ZY:=hid(fun w=>z5q s 0 w(by omega)(by omega));have ZS:=hid(fun(i:Nat)(w:World)(hi:i<=s.size)=>z5q s(i+1)w(by omega)(by omega));have e0:((0:Nat):Int)=0:=rfl;rw[e0,hn]at ZL;rw[e0]at ZL ZY;clear e0;have j8:=y62 s(i:=0)(by omega);have BD:=hid(fun(i:Nat)=>y62 s(i:=((i+1:Nat):Int))(by omega));obtain⟨i0,hi0,hz0,hz1,hz2⟩:=Q8v;obtain⟨i1,hi1,hy0,hy1,hy2⟩:=Q63;have hz:∀o:Obj,((w.alloc(.cells(zlA false false⟨#[]⟩⟨#[]⟩(.slice none 0 0)(.slice none 0 0)0)85(0,0))).alloc o).heap[w.heap.size]? = some(.cells(zlA false false⟨#[]⟩⟨#[]⟩(.slice none 0 0)(.slice none 0 0)0)85(0,0)):=fun o=>heap_alloc2_old _ _ _;have HZ:=hid hz;clear hz hn;generalize Q5t s 0=y at ZY j8 hok;obtain⟨y0,y58⟩:=hok;obtain⟨j,rfl⟩:∃j:Nat,y=j:=⟨y.toNat,by omega⟩;have hj:j<s.size:=by
  have:=z0q(s:=s)(i:=(j:Int))(by omega);omega
 have hb:=z1z hj;rw[hb]at y58;have q1:((s[j].toNat:Int) != 58)=false:=by simp[y58]
 have jc:s[j].toNat<256:=s[j].toNat_lt;have k3:¬(s.size:Int)<=(j:Int):=by omega
 have k4:(j:Int)<(s.size:Int):=by omega
 have k5:decide(s.size<=j)=false:=by simpa using hj
 have k6:decide((j:Int)<0)=false:=by simp
 have ej:((j:Int)).toNat=j:=by omega
 rw[ej];generalize hnm:s.extract 0 j=nm;have j7:=hid hnm;generalize hR:Q45 s(s.size+5)((j:Int)+1) [] []=R;have HR:=hid hR;clear hb j8 y58 hR hnm ej;go_enter Tryz.func60,Tryz.ntmps60
 go_wp2_with(first
  |(go_at_call 87;refine(ZL.out _).mono ?_;rintro e w'⟨rfl,hw⟩;rw[hw];clear hw)
  |(go_at_call 89;refine(ZY.out _).mono ?_;rintro e w'⟨rfl,hw⟩;rw[hw];clear hw)
  |(refine z0e rfl 85 _ _ rfl(w.alloc(.cells(zlA false false⟨#[]⟩⟨#[]⟩(.slice none 0 0)(.slice none 0 0)0)85(0,0)))_ _ _ rfl rfl rfl Q6b rfl(z3b rfl rfl)?_))
 go_loopw [6,8](fun x6 _ wr=>∃(f i:Nat)(a:List ByteArray)(b:List Int)(vs vp:Value),x6=.int .i64 i/\Q45 s f i a b=R/\s.size+2<=f+i/\i<=s.size/\a.length<=i/\b.length<=i/\LnM w wr nm a b vs vp)
   (fun x _ _=>80000-(intOf x).toNat)
 case atStart =>
  refine⟨s.size+5,j+1,[],[],.slice none 0 0,.slice none 0 0,by go_num,HR.out,by omega,by omega,by simp,by simp,?_⟩;rw[j7.out];exact⟨((mRf _ w).alloc _).alloc _,HZ.out _,heap_alloc2_new _ _ _,World.ownsRow_nil _ _ _ _,World.ownsRow_nil _ _ _ _,fun k q=>by simp[Value.ownBlock]at q⟩
 obtain⟨f,i,a,b,vs,vp,rfl,hR,hfu,hi,hal,hbl2,hM⟩:=hrel;clear HR j7 HZ q1;obtain⟨f,rfl⟩:∃g,f=g+1:=⟨f-1,by omega⟩;rw[z6g]at hR;have HM:=hid hM;obtain⟨as_,cs_,hvs⟩:=z0d hM.os;obtain⟨ap_,cp_,hvp⟩:=z0d hM.op;have j5:=Q0b hM.loc 4;have jg:=Q0h hM.loc 4;have jh:=hM.fresh.size;have je:=z0j hM.loc;clear hM;subst hvs hvp;simp at j5;by_cases hi2:i<s.size
 ·have hb:=z1z hi2;have jc:s[i].toNat<256:=s[i].toNat_lt;have k4:(i:Int)<(s.size:Int):=by omega
  rw[if_pos k4,hb]at hR;clear hb;by_cases c32:(s[i].toNat:Int)=32
  ·rw[if_pos c32]at hR;have q1:((s[i].toNat:Int) != 32)=false:=by simp[c32]
   have ZX:=hid(fun w=>ZS.out i w hi);have bd:=BD.out i;have ei:((i+1:Nat):Int)=(i:Int)+1:=by omega
   rw[ei]at ZX bd;clear ei;generalize Q5t s((i:Int)+1)=y at ZX bd hR;clear c32;by_cases y0:y<0
   ·rw[if_pos y0]at hR;have j0:=hid hR;clear hR bd;go_wp2_with(first
     |(go_at_call 89;refine(ZX.out _).mono ?_;rintro e w'⟨rfl,hw⟩;rw[hw];clear hw)
     |(refine wpList_load_row rfl 85 _ rfl(w.heap.size+1)rfl _ _ _ _ HM.out.loc Tryz.underlying85 rfl Q6b ?_)
     |(refine wpList_store_row rfl 85 _ _ rfl w.heap.size _ rfl rfl _ _ HM.out.res Q6b rfl(z3b rfl rfl)?_))
    refine bodyPost_ret(Q7z rfl _ _ w.heap.size 85 _(0,0)_ rfl(setRow_heap _ _ _ _ _ _ HM.out.res)Tryz.underlying85 rfl Q6b)rfl ?_;rw[← j0.out];exact HM.out.ret(ok:=false)rfl(fun z q=>by cases q)rfl rfl
   obtain⟨n,rfl⟩:∃n:Nat,y=n:=⟨y.toNat,by omega⟩;rw[if_neg y0]at hR;have e1:((i:Int)+1).toNat=i+1:=by omega
   have e2:((n:Int)).toNat=n:=by omega
   rw[e1,e2]at hR;have b1:i+1<n:=by omega
   have b2:n<=s.size:=by omega
   have j0:=hid hR;clear hR bd e1 e2;have b3:(i:Int)+1<=(n:Int):=by omega
   have b4:(n:Int)<=(s.size:Int):=by omega
   go_upto_region 18 with(first
    |(go_at_call 89;refine(ZX.out _).mono ?_;rintro e w'⟨rfl,hw⟩;rw[hw];clear hw))
   obtain⟨v',w2,hrun,hown,hgrow,hblk⟩:=z2z(P:=Tryz.prog)(wr.alloc(.cells#[.string(s.extract(i+1)n)]9)).drew(w.heap.size+2)51 51 9 i0 _ 1 16 Tryz.underlying51 hi0 hz0 hz1 hz2 rfl(by decide)(.slice as_ a.length cs_)a.length(Q9z a)(HM.out.os.alloc _)⟨wr.heap.size,0,none⟩1 1 [.string(s.extract(i+1)n)]rfl(z0l rfl)(by intro u hu;simp at hu;subst hu;rfl)(by unfold maxLen;omega)(by omega)(by simp[World.drew];omega);obtain⟨a',cap',hv'⟩:=z0d hown;have j2:=HM.out.blk(((mRf _ wr).alloc _).drew)(.inl rfl)hgrow;have ja:w2.cell?⟨w.heap.size+1,4,none⟩=some(.slice as_ a.length cs_):=(Q0b j2.2 4);have jf:=Q0h j2.2 4;have j6:=hid hown;have j4:=hid hgrow;clear hown hgrow j2;subst hv';go_region;all_goals
    have M1:=HM.out.addS(x:=s.extract(i+1)n)(((mRf _ wr).alloc _).drew)j6.out j4.out hblk;generalize hWW:w2.setCell _ _=W1 at M1 ⊢;have j3:=hid M1;have k1:=Q0b M1.loc 5;have k2:=Q0h M1.loc 5;have jd:=z0j M1.loc;have jb:=M1.fresh.size;clear hWW j6 j4 hblk ja jf hrun M1 HM j5 jg;simp at k1;go_wp2_with(first
     |(at_builtin;refine z0g _ rfl _ _ 22 rfl(w.heap.size+2)3 i1 _ 1 8 Tryz.underlying22 hi1 hy0 hy1 hy2 rfl(by decide)(.slice ap_ b.length cp_)b.length(W0b b)rfl(j3.out.op.alloc _)⟨W1.heap.size,0,none⟩1 1 [.int .i64((i:Int)+1)]rfl rfl(z0l rfl)(by intro u hu;simp at hu;subst hu;rfl)(by unfold maxLen;omega)(by omega)(by simp;omega)?_;intro v9 w4 hown hgrow hblk;obtain⟨a9,c9,hv9⟩:=z0d hown;have j1:=(j3.out.blk((mRf _ W1).alloc _)(.inr rfl)hgrow).2;have k6:w4.cell?⟨w.heap.size+1,5,none⟩=some(.slice ap_ b.length cp_):=Q0b j1 5;have k7:=Q0h j1 5;have M2:=j3.out.addP(x:=(i:Int)+1)((mRf _ W1).alloc _)hown hgrow(by simpa using hblk);have j9:=hid M2;clear hown hgrow hblk M2 j1;subst hv9))
    go_roundw
    case rel =>
     refine⟨f,n,_,_,_,_,rfl,j0.out,by omega,by omega,?_,?_,j9.out⟩
     ·simp;omega
     simp;omega
    simp[intOf];omega
  rw[if_neg c32]at hR;have q1:((s[i].toNat:Int) != 32)=true:=by simpa using c32
  have j0:=hid hR;clear hR c32;go_wp2_with(first
   |(refine wpList_load_row rfl 85 _ rfl(w.heap.size+1)rfl _ _ _ _ HM.out.loc Tryz.underlying85 rfl Q6b ?_)
   |(refine wpList_store_row rfl 85 _ _ rfl w.heap.size _ rfl rfl _ _ HM.out.res Q6b rfl(z3b rfl rfl)?_))
  refine bodyPost_ret(Q7z rfl _ _ w.heap.size 85 _(0,0)_ rfl(setRow_heap _ _ _ _ _ _ HM.out.res)Tryz.underlying85 rfl Q6b)rfl ?_;rw[← j0.out];exact HM.out.ret(ok:=false)rfl(fun z q=>by cases q)rfl rfl
 have k4:¬(i:Int)<(s.size:Int):=by omega
 rw[if_neg k4]at hR;have j0:=hid hR;clear hR;go_wp2_with(first
  |(refine wpList_load_row rfl 85 _ rfl(w.heap.size+1)rfl _ _ _ _ HM.out.loc Tryz.underlying85 rfl Q6b ?_)
  |(refine wpList_store_row rfl 85 _ _ rfl w.heap.size _ rfl rfl _ _ HM.out.res Q6b rfl(z3b rfl rfl)?_))
 refine bodyPost_ret(Q7z rfl _ _ w.heap.size 85 _(0,0)_ rfl(setRow_heap _ _ _ _ _ _ HM.out.res)Tryz.underlying85 rfl Q6b)rfl ?_;rw[← j0.out];exact HM.out.ret(ok:=true)rfl(fun z q=>by simpa using q.symm)rfl rfl
theorem y5y(s:ByteArray)(w:World)(hs:s.size<=70000):Calls Tryz.prog 60#[.string s]w fun e w'=>ZRet w(Q40 s)e w':=by
 unfold Q40;by_cases c0:0<Q4c s 0
 ·rw[if_pos c0];cases hok:Q5f s(Q4c s 0)
  ·refine(y5a s w hs _ rfl c0 hok).mono ?_;rintro e w'⟨rfl,hf⟩;rw[if_neg(by simp)];exact⟨⟨noZL,nilS,nilS,0⟩,rfl,y8z _ _ _ rfl rfl rfl rfl,hf,fun z q=>by cases q⟩
  refine(x0b s w hs _ rfl c0 hok).mono ?_;rintro e w'⟨rfl,hf⟩;by_cases c1:zpK s 6((Q4c s 0:Nat)+1)=s.size
  ·rw[if_pos⟨rfl,c1⟩,c1];refine⟨⟨⟨true,atB s(Q4c s 0)==126,s.extract 0(Q4c s 0),s.extract(Q4c s 0+1)s.size,[],[]⟩,nilS,nilS,0⟩,?_,y8z _ _ _ rfl rfl rfl rfl,hf,fun z q=>by simpa using q⟩;simp[ZLV.cells]
  rw[if_neg(fun q=>c1 q.2)];refine⟨⟨⟨true,atB s(Q4c s 0)==126,s.extract 0(Q4c s 0),s.extract(Q4c s 0+1)s.size,[],[]⟩,nilS,nilS,0⟩,?_,y8z _ _ _ rfl rfl rfl rfl,hf,fun z q=>by cases q⟩;have:(zpK s 6((Q4c s 0:Nat)+1)==(s.size:Int))=false:=by simpa using c1
  rw[this];simp[ZLV.cells]
 rw[if_neg c0];by_cases c1:0<=Q5t s 0/\atB s(Q5t s 0)=58
 ·rw[if_pos c1];exact x0a s w hs(by omega)c1
 rw[if_neg c1];refine(y5k s w hs(by omega)c1).mono ?_;rintro e w'⟨rfl,hf⟩;exact⟨⟨noZL,nilS,nilS,0⟩,rfl,y8z _ _ _ rfl rfl rfl rfl,hf,fun z q=>by cases q⟩
def ways:List ByteArray:=[⟨#[]⟩,⟨#[97]⟩,⟨#[97,61,97]⟩,⟨#[61,97]⟩,⟨#[58]⟩,⟨#[93]⟩,⟨#[97,93]⟩,⟨#[126,93]⟩,⟨#[126]⟩]
def Q4s(t:ByteArray):Nat->ByteArray
 |0=>t
 |k+1=>Q4s t k++⟨#[41]⟩
theorem z99(t:ByteArray):∀k,(Q4s t k).size=t.size+k
 |0=>rfl
 |k+1=>by rw[Q4s,ByteArray.size_append,z99 t k];rfl
def Q9b(s:ByteArray):Bool:=ways.any fun v=>(List.range 7).any fun k=>(Q40(Q4s(s++v)k)).isSome
theorem x2r:∀v∈ways,v.size<=3:=by decide
theorem x9l{j:Nat}(hj:j<9):(ways[j]'hj).size<=3:=x2r _(List.getElem_mem _)
theorem x7g(s:ByteArray)(w:World)(hs:s.size<=1000):Calls Tryz.prog 90#[.string s]w fun e w'=>e=.returned(.bool(Q9b s))/\Q0a w w':=by
 have ZL:=hid(fun(t:ByteArray)(w:World)(h:t.size<=70000)=>y5y t w h);go_enter Tryz.func90,Tryz.ntmps90
 go_wp2;go_loopw [4](fun x4 wr=>∃i:Nat,x4=.int .i64 i/\i<=9/\wr.heap[w.heap.size]? = some(.cells(Q9z ways).toArray 9(0,0))/\Q0a w wr/\∀(j:Nat)(hj:j<9),j<i->∀k:Nat,k<7->(Q40(Q4s(s++ways[j]'hj)k)).isSome=false)
   (fun x _=>10-(intOf x).toNat)
 case atStart=>exact⟨0,rfl,by omega,z0a _ _,(mRf _ w).alloc _,fun j _ h=>by omega⟩
 obtain⟨i,rfl,hi,hblk,hfr,hall⟩:=hrel;have HB:=hid hblk;have HF:=hid hfr;have HA:=hid hall;have j0:=fun o=>Q0b hblk o;clear hblk hfr hall;by_cases hi9:i<9
 ·have k1:(i:Int)<9:=by omega
  have hc:wr.cell?⟨w.heap.size,i,none⟩=some(.string(ways[i]'hi9)):=by
   rw[j0 i];have:i<(Q9z ways).length:=by simp[ways];omega
   rw[List.getElem?_toArray,List.getElem?_map,qE(show i<ways.length from hi9)];rfl
  have hv:=x9l hi9;generalize hvv:ways[i]'hi9=v at hc hv;have HV:=hid hvv;clear hvv j0;generalize hw0:wr=w0 at HB HF hc;go_wp2;go_loopw [5,6](fun x5 x6 wr=>∃k:Nat,x6=.int .i64 k/\k<=7/\x5=.string(Q4s(s++v)k)/\wr.heap[w.heap.size]? = some(.cells(Q9z ways).toArray 9(0,0))/\Q0a w wr/\∀k':Nat,k'<k->(Q40(Q4s(s++v)k')).isSome=false)
    (fun _ x _=>8-(intOf x).toNat)
  case atStart=>exact⟨0,rfl,by omega,rfl,HB.out,HF.out,fun k' h=>by omega⟩
  obtain⟨k,rfl,hk,rfl,hblk,hfr,hno⟩:=hrel;have HB:=hid hblk;have HF:=hid hfr;have HN:=hid hno;clear hblk hfr hno;by_cases hk7:k<7
  ·have k2:(k:Int)<=6:=by omega
   have j4:(Q4s(s++v)k).size<=70000:=by rw[z99,ByteArray.size_append];omega
   have ZX:=hid(fun w=>ZL.out(Q4s(s++v)k)w j4);have HC:Hid(Q4s(s++v)(k+1)=Q4s(s++v)k++⟨#[41]⟩):=rfl;have HG:Hid((Q40(Q4s(s++v)k)).isSome=true->Q9b s=true):=fun h=>by
    unfold Q9b;rw[List.any_eq_true];refine⟨v,by rw[← HV.out];exact List.getElem_mem _,?_⟩;rw[List.any_eq_true];exact⟨k,by simpa using hk7,h⟩
   have j3:Hid((Q40(Q4s(s++v)k)).isSome=false->∀k':Nat,k'<k+1->(Q40(Q4s(s++v)k')).isSome=false):=fun h k' hk'=>by
    by_cases q:k'=k
    ·rw[q];exact h
    exact HN.out k'(by omega)
   generalize Q4s(s++v)k=tk at ZX HC HG j3 j4;generalize Q40 tk=zt at ZX HG j3;cases hz:zt with
   |some z =>
    subst hz;go_wp2_with(first
     |(go_at_call 60;refine(ZX.out _).mono ?_;rintro e w1⟨x,he,hA,hf1,hx⟩;rw[Option.isSome_some]at he;subst he;have j1:=hid hf1;have j2:=hid hA;clear hf1 hA hx)
     |(refine z0e rfl 85 _ _ rfl w1 _ _ _ rfl rfl rfl Q6b rfl j2.out.one ?_))
    go_ret;exact⟨by rw[HG.out rfl];rfl,(HF.out.trans j1.out).alloc _⟩
   |none =>
    subst hz;go_wp2_with(first
     |(go_at_call 60;refine(ZX.out _).mono ?_;rintro e w1⟨x,he,hA,hf1,hx⟩;rw[Option.isSome_none]at he;subst he;have j1:=hid hf1;have j2:=hid hA;clear hf1 hA hx)
     |(refine z0e rfl 85 _ _ rfl w1 _ _ _ rfl rfl rfl Q6b rfl j2.out.one ?_))
    go_roundw
    case rel =>
     refine⟨k+1,by go_num,by omega,by rw[HC.out],?_,(HF.out.trans j1.out).alloc _,j3.out rfl⟩;have h1:=j1.out.at HB.out(fun x=>x);rw[z0w(z0j h1)];exact h1
    simp[intOf];omega
  have k2:¬(k:Int)<=6:=by omega
  go_wp2;go_roundw
  case rel =>
   refine⟨i+1,by go_num,by omega,HB.out,HF.out,fun j hj hji k' hk'=>?_⟩;by_cases q:j=i
   ·subst q;rw[HV.out];exact HN.out k'(by omega)
   exact HA.out j hj(by omega)k' hk'
  simp[intOf];omega
 have k1:¬(i:Int)<9:=by omega
 go_wp2;go_ret;refine⟨z0s ?_,HF.out⟩;symm;cases hg:Q9b s
 ·rfl
 exfalso;unfold Q9b at hg;rw[List.any_eq_true]at hg;obtain⟨v,hv,hg⟩:=hg;rw[List.any_eq_true]at hg;obtain⟨k,hk,hg⟩:=hg;obtain⟨j,hj,rfl⟩:=List.getElem_of_mem hv;have h9:j<9:=hj;have:=HA.out j h9(by omega)k(by simpa using hk);have q:=this.symm.trans hg;cases q
def Q66(s:ByteArray)(a n:Nat):Nat->Nat->Nat
 |0,k=>k
 |f+1,k=>if k<n then(if Q9b(s.extract a(k+1))=true then Q66 s a n f(k+1)else k)else n
def Q5m(s:ByteArray)(a n:Nat):Nat:=Q66 s a n(n+1)a
theorem x4b(s:ByteArray)(a n f k:Nat):Q66 s a n(f+1)k=if k<n then(if Q9b(s.extract a(k+1))=true then Q66 s a n f(k+1)else k)else n:=rfl
theorem y9h(s:ByteArray)(a n:Nat)(w:World)(hs:s.size<=1000)(ha:a<=n)(hn:n<=s.size):Calls Tryz.prog 61#[.string s,.int .i64 a,.int .i64 n]w fun e w'=>e=.returned(.int .i64(Q5m s a n:Nat))/\Q0a w w':=by
 generalize hV:Q5m s a n=V;have HV:Hid(Q66 s a n(n+1)a=V):=hV;have GO:=hid(fun(t:ByteArray)(w:World)(h:t.size<=1000)=>x7g t w h);clear hV;go_enter Tryz.func61,Tryz.ntmps61
 go_wp2;go_loopw [7](fun x7 wr=>∃(k f:Nat),x7=.int .i64 k/\a<=k/\k<=n/\n+1<=f+k/\Q66 s a n f k=V/\Q0a w wr)
   (fun x _=>2000-(intOf x).toNat)
 case atStart=>exact⟨a,n+1,rfl,by omega,ha,by omega,HV.out,mRf _ _⟩
 obtain⟨k,f,rfl,hak,hkn,hf,hrec,hfr⟩:=hrel;obtain⟨f,rfl⟩:∃g,f=g+1:=⟨f-1,by omega⟩;rw[x4b]at hrec;have HF:=hid hfr;clear HV hfr;by_cases hk:k<n
 ·rw[if_pos hk]at hrec;have k1:(k:Int)<(n:Int):=by omega
  have GX:=hid(fun w=>GO.out(s.extract a(k+1))w(by rw[ByteArray.size_extract];omega));generalize Q9b(s.extract a(k+1))=g at GX hrec;have b1:(a:Int)<=(k:Int)+1:=by omega
  have b2:(k:Int)+1<=(s.size:Int):=by omega
  cases g
  ·rw[if_neg(by simp)]at hrec;have HR:=hid hrec;clear hrec;go_wp2_with(first
    |(go_at_call 90;refine(GX.out _).mono ?_;rintro e w1⟨rfl,hf1⟩))
   go_ret;exact⟨by rw[← HR.out];rfl,HF.out.trans hf1⟩
  rw[if_pos rfl]at hrec;have HR:=hid hrec;clear hrec;go_wp2_with(first
   |(go_at_call 90;refine(GX.out _).mono ?_;rintro e w1⟨rfl,hf1⟩))
  go_roundw
  case rel=>exact⟨k+1,f,by go_num,by omega,by omega,by omega,HR.out,HF.out.trans hf1⟩
  simp[intOf];omega
 rw[if_neg hk]at hrec;have k1:¬(k:Int)<(n:Int):=by omega
 have HR:=hid hrec;clear hrec;go_wp2;go_ret;exact⟨by rw[← HR.out];rfl,HF.out⟩
theorem infoZL:(Tryz.prog.info? 85).map(fun i=>(i.zero,i.size,i.bytes))=some(some(.agg(zlA false false⟨#[]⟩⟨#[]⟩(.slice none 0 0)(.slice none 0 0)0)),7,96):=by kernel_rfl
theorem infoZL':∃i,Tryz.prog.info? 85=some i/\i.zero=some(.agg(zlA false false⟨#[]⟩⟨#[]⟩(.slice none 0 0)(.slice none 0 0)0))/\i.size=7/\i.bytes=96:=by
 have h:=infoZL;cases hq:Tryz.prog.info? 85 with
 |none=>simp[hq]at h
 |some i=>simp[hq]at h;exact⟨i,rfl,h.1,h.2.1,h.2.2⟩
structure Q46(b:Nat)(w:World)(v:Value)(xs:List ZLV):Prop where
 own:w.ownsRow b 85 7 v xs.length(Q01 ZLV.cells xs)
 each:∀x∈xs,x.At b w
structure ZLRel(w wr:World)(v:Value)(xs:List ZLV):Prop where
 own:wr.ownsRow w.heap.size 85 7 v xs.length(Q01 ZLV.cells xs)
 each:∀x∈xs,x.At w.heap.size wr
 dis:∀x∈xs,∀k,v.ownBlock=some k->x.vs.ownBlock≠some k/\x.vp.ownBlock≠some k
 fresh:Q0a w wr
theorem ZLV.At.lt{b:Nat}{w:World}{x:ZLV}(h:x.At b w):(∀k,x.vs.ownBlock=some k->b<=k/\k<w.heap.size)/\(∀k,x.vp.ownBlock=some k->b<=k/\k<w.heap.size):=⟨h.syms.lt,h.places.lt⟩
theorem ZLV.At.base{b b':Nat}{w:World}{x:ZLV}(h:x.At b w)(hb:b'<=b):x.At b' w:=⟨z0f h.syms hb,z0f h.places hb⟩
theorem ZLV.At.put{b:Nat}{w:World}{x:ZLV}(h:x.At b w)(a:Int):ZLV.At b w{x with pl:=a}:=⟨h.syms,h.places⟩
theorem ZLRel.next{w wr w1 W w2:World}{v v':Value}{xs:List ZLV}{x:ZLV}(h:ZLRel w wr v xs)(hf:Q0a wr w1)(hx:x.At wr.heap.size w1)(m1:Q0a w1 W)
  (hown:w2.ownsRow w.heap.size 85 7 v'(xs.length+1)(Q01 ZLV.cells xs++x.cells))(hg:W.grownBy w2 v.ownBlock)
  (hb:∀k,v'.ownBlock=some k->v.ownBlock=some k∨W.heap.size<=k):ZLRel w w2 v'(xs++[x]):=by
 have m2:Mod(fun k=>v.ownBlock=some k)W w2:=Mod.grown(S:=fun k=>v.ownBlock=some k)(mRf _ _)hg(fun k hk _=>hk);have j1:∀k,v.ownBlock=some k->w.heap.size<=k/\k<wr.heap.size:=h.own.lt;have j2:=h.fresh.size;have j4:=hf.size;have j3:=m1.size;have j0:=hx.lt;refine⟨?_,?_,?_,?_⟩
 ·rw[z0y,List.length_append,List.length_singleton];exact hown
 ·intro y hy;rcases List.mem_append.1 hy with hy|hy
  ·exact(((h.each y hy).fresh hf).fresh m1).kept m2(fun k hk e=>(h.dis y hy k e).1 hk)(fun k hk e=>(h.dis y hy k e).2 hk)
  simp at hy;subst hy;exact((hx.fresh m1).kept m2(fun k hk e=>by have:=j0.1 k hk;have:=j1 k e;omega)(fun k hk e=>by have:=j0.2 k hk;have:=j1 k e;omega)).base j2
 ·intro y hy k hk;rcases List.mem_append.1 hy with hy|hy
  ·rcases hb k hk with h1|h1
   ·exact h.dis y hy k h1
   have:=((h.each y hy).fresh hf).lt;exact⟨fun e=>by have:=this.1 k e;omega,fun e=>by have:=this.2 k e;omega⟩
  simp at hy;subst hy;rcases hb k hk with h1|h1
  ·have h3:=j1 k h1;exact⟨fun e=>by have:=j0.1 k e;omega,fun e=>by have:=j0.2 k e;omega⟩
  exact⟨fun e=>by have:=j0.1 k e;omega,fun e=>by have:=j0.2 k e;omega⟩
 exact Mod.trans'(S:=fun _=>False)((h.fresh.trans hf).trans m1)m2(fun i hi e=>by have:=j1 i e;omega)
def nlL(s:ByteArray):Nat->Nat->Nat
 |0,n=>n
 |f+1,n=>if n<s.size/\atB s n≠10 then nlL s f(n+1)else n
def nlF(s:ByteArray)(a:Nat):Nat:=nlL s(s.size+1)a
theorem v1d(s:ByteArray)(f n:Nat):nlL s(f+1)n=if n<s.size/\atB s n≠10 then nlL s f(n+1)else n:=rfl
theorem y7z(s:ByteArray):∀(f n:Nat),n<=s.size->s.size+1<=f+n->n<=nlL s f n/\nlL s f n<=s.size/\(nlL s f n=s.size∨atB s(nlL s f n)=10)/\∀k,n<=k->k<nlL s f n->atB s(k:Nat)≠10
 |0,n,h1,h2=>by omega
 |f+1,n,h1,h2=>by
  rw[v1d];by_cases c:n<s.size/\atB s n≠10
  ·rw[if_pos c];obtain⟨q1,q2,q3,q4⟩:=y7z s f(n+1)(by omega)(by omega);refine⟨by omega,q2,q3,fun k k1 k2=>?_⟩;by_cases e:k=n
   ·subst e;exact c.2
   exact q4 k(by omega)k2
  rw[if_neg c];refine⟨qR _,h1,?_,fun k k1 k2=>by omega⟩;by_cases q:n<s.size
  ·right;by_cases q2:atB s n=10
   ·exact q2
   exact absurd⟨q,q2⟩c
  left;omega
theorem z74(s:ByteArray){a:Nat}(h:a<=s.size):a<=nlF s a/\nlF s a<=s.size/\(nlF s a=s.size∨atB s(nlF s a)=10)/\∀k,a<=k->k<nlF s a->atB s(k:Nat)≠10:=y7z s _ a h(by omega)
def Q31(s:ByteArray):Nat->Nat->List(ZLn × Int)->List(ZLn × Int) × Int
 |0,_,acc=>(acc,-1)
 |f+1,a,acc =>
  if a<s.size then
   match Q40(s.extract a(nlF s a))with
   |some z=>if nlF s a=s.size then([],(Q5m s a(nlF s a):Int))else Q31 s f(nlF s a+1)(acc++[(z,(a:Int))])
   |none=>([],(Q5m s a(nlF s a):Int))
  else(acc,-1)
def Q4u(s:ByteArray):List(ZLn × Int) × Int:=Q31 s(s.size+1)0 []
theorem z6p(s:ByteArray)(f a:Nat)(acc:List(ZLn × Int)):Q31 s(f+1)a acc=if a<s.size then
   match Q40(s.extract a(nlF s a))with
   |some z=>if nlF s a=s.size then([],(Q5m s a(nlF s a):Int))else Q31 s f(nlF s a+1)(acc++[(z,(a:Int))])
   |none=>([],(Q5m s a(nlF s a):Int))
  else(acc,-1):=rfl
def ZLV.both(x:ZLV):ZLn × Int:=(x.ln,x.pl)
theorem x5m(s:ByteArray)(w:World)(hs:s.size<=900) :
  Calls Tryz.prog 27#[.string s]w fun e w'=>∃(v:Value)(xs:List ZLV),xs.map ZLV.both=(Q4u s).1/\e=.returned(.tuple#[v,.int .i64(Q4u s).2])/\Q0a w w'/\Q46 w.heap.size w' v xs:=by
 generalize hR:Q4u s=R;have HR:Hid(Q31 s(s.size+1)0 []=R):=hR;obtain⟨i0,hi,hz0,hz1,hz2⟩:=infoZL';have ZL:=hid(fun(t:ByteArray)(w:World)(h:t.size<=70000)=>y5y t w h);have ST:=hid(fun(a n:Nat)(w:World)(h1:a<=n)(h2:n<=s.size)=>y9h s a n w(by omega)h1 h2);clear hR;go_enter Tryz.func27,Tryz.ntmps27
 go_wp2;go_loopw [4,5](fun x4 x5 wr=>∃(f a:Nat)(xs:List ZLV),x5=.int .i64 a/\Q31 s f a(xs.map ZLV.both)=R/\a<=s.size/\s.size+1<=f+a/\xs.length<=a/\ZLRel w wr x4 xs)
   (fun _ x _=>2001-(intOf x).toNat)
 case atStart=>exact⟨s.size+1,0,[],rfl,HR.out,by omega,by omega,by simp,⟨World.ownsRow_nil _ _ _ _,(fun _ h=>by cases h),(fun _ h=>by cases h),mRf _ _⟩⟩
 obtain⟨f,a,xs,rfl,hR,ha,hfu,hcnt,hL⟩:=hrel;obtain⟨f,rfl⟩:∃g,f=g+1:=⟨f-1,by omega⟩;rw[z6p]at hR;have HL:=hid hL;obtain⟨ao,cap,hv⟩:=z0d hL.own;clear hL HR;subst hv;by_cases hlt:a<s.size
 ·rw[if_pos hlt]at hR;obtain⟨n1,n2,n3,n4⟩:=z74 s(a:=a)(by omega);generalize hn:nlF s a=n at n1 n2 n3 n4 hR;have HN:Hid(nlL s(s.size+1)a=n):=hn;have j0:=hid hR;have jb:(a:Int)<(s.size:Int):=by omega
  clear hn hR n4 n3;generalize hw0:wr=w0 at HL;go_wp2;go_loopw [6](fun x6 wr=>∃(g m:Nat),x6=.int .i64 m/\wr=w0/\a<=m/\m<=s.size/\s.size+1<=g+m/\nlL s g m=n)
    (fun x _=>2001-(intOf x).toNat)
  case atStart=>exact⟨s.size+1,a,rfl,by first|rfl|trivial,by omega,by omega,by omega,HN.out⟩
  obtain⟨g,m,rfl,rfl,hm1,hm2,hg,hrec⟩:=hrel;obtain⟨g,rfl⟩:∃k,g=k+1:=⟨g-1,by omega⟩;rw[v1d]at hrec;clear HN;by_cases hm:m<s.size
  ·have hb:=z1z hm;have ja:s[m].toNat<256:=s[m].toNat_lt;have k1:(m:Int)<(s.size:Int):=by omega
   rw[hb]at hrec;clear hb;by_cases c10:(s[m].toNat:Int)=10
   ·rw[if_neg(fun q=>q.2 c10)]at hrec;have q1:((s[m].toNat:Int) != 10)=false:=by simp[c10]
    subst hrec;clear c10;-- the line ends here
    have j4:(s.extract a m).size<=70000:=by rw[ByteArray.size_extract];omega
    have ZX:=hid(fun w=>ZL.out(s.extract a m)w j4);have SX:=hid(fun w=>ST.out a m w(by omega)(by omega));have b1:(a:Int)<=(m:Int):=by omega
    have b2:(m:Int)<=(s.size:Int):=by omega
    have k2:((m:Int)==(s.size:Int))=false:=by simp;omega
    have k3:¬(m:Int)=(s.size:Int):=by omega
    have HM:Hid(¬m=s.size):=by unfold Hid;omega
    generalize Q40(s.extract a m)=zt at ZX j0;cases zt with
    |none =>
     have j1:Hid(R=([],(Q5m s a m:Int))):=j0.out.symm;clear j0;go_wp2_with(first
      |(go_at_call 60;refine(ZX.out _).mono ?_;rintro e w1⟨x,he,hA,hf1,hx⟩;rw[Option.isSome_none]at he;subst he;have j3:=hid hf1;have j2:=hid hA;clear hf1 hA hx)
      |(refine z0e rfl 85 _ _ rfl w1 _ _ _ rfl rfl rfl Q6b rfl j2.out.one ?_)
      |(go_at_call 61;refine(SX.out _).mono ?_;rintro e w2⟨rfl,hf2⟩))
     refine bodyPost_ret(results_tmp2 rfl _ _ _)rfl⟨.slice none 0 0,[],by rw[j1.out];rfl,by rw[j1.out];rfl,((HL.out.fresh.trans j3.out).alloc _).trans hf2,⟨World.ownsRow_nil _ _ _ _,fun _ h=>by cases h⟩⟩
    |some z =>
     have j1:Hid(Q31 s f(m+1)(xs.map ZLV.both++[(z,(a:Int))])=R):=by
      have:=j0.out;dsimp only at this;rw[if_neg HM.out]at this;exact this
     clear j0;go_wp2_with(first
      |(go_at_call 60;refine(ZX.out _).mono ?_;rintro e w1⟨x,he,hA,hf1,hx⟩;rw[Option.isSome_some]at he;subst he;have j3:=hid hf1;have j2:=hid hA;have HX:=hid(hx z rfl);have j9:=hf1.size;clear hf1 hA hx;obtain⟨⟨xr,xk,xn,xp,xs_,xpl⟩,vs,vp,pl⟩:=x;obtain⟨so,sc,hvs⟩:=z0d j2.out.syms;obtain⟨po,pc,hvp⟩:=z0d j2.out.places;dsimp only at hvs hvp;subst hvs;subst hvp)
      |(refine z0e rfl 85 _ _ rfl w1 _(zlA xr xk xn xp(.slice so xs_.length sc)(.slice po xpl.length pc)pl)_ rfl rfl rfl Q6b rfl(z3b rfl rfl)?_)
      |(refine wpList_load_row rfl 85 _ rfl w1.heap.size rfl(zlA xr xk xn xp(.slice so xs_.length sc)(.slice po xpl.length pc)(a:Int))_ _ _(by rw[zhs(z0a _ _)];rfl)Tryz.underlying85 rfl Q6b ?_)
      |(at_builtin;refine z0g _ rfl _ _ 50 rfl w.heap.size 85 i0 _ 7 96 Tryz.underlying50 hi hz0 hz1 hz2 rfl(by decide)_ _ _ rfl(((z0c HL.out.own(fun g hg=>j3.out.block g(HL.out.own.lt g hg).2(fun x=>x))).alloc _).alloc _)⟨w1.heap.size+1,0,none⟩1 1(zlL xr xk xn xp(.slice so xs_.length sc)(.slice po xpl.length pc)(a:Int))rfl rfl ?c1 ?c2 ?c3 ?c4 ?c5 ?_))
     case c1=>exact z2w rfl
     case c2=>intro u hu;exact(Array.all_eq_true_iff_forall_mem.1(z3b(r:=xr)(k:=xk)(nm:=xn)(pt:=xp)(vs:=.slice so xs_.length sc)(vp:=.slice po xpl.length pc)(a:=(a:Int))rfl rfl))u(by simpa using hu)
     case c3=>unfold maxLen;omega
     case c4=>omega
     case c5=>have:=HL.out.fresh.size;simp;omega
     intro v' w2 hown2 hgrow hblk;have j6:=HL.out.next j3.out(j2.out.put(a:Int))(((mRf _ w1).alloc _).alloc _)hown2 hgrow(by simpa using hblk);have j8:=hid j6;clear hown2 hgrow hblk j6;go_wp2;go_roundw
     case rel =>
      refine⟨f,m+1,_,by go_num,?_,by omega,by omega,?_,j8.out⟩
      ·rw[List.map_append,List.map_singleton];have hx:=HX.out;unfold ZLV.both;dsimp only;rw[hx];exact j1.out
      simp;omega
     simp[intOf];omega
   rw[if_pos⟨hm,c10⟩]at hrec;have q1:((s[m].toNat:Int) != 10)=true:=by simpa using c10
   have j7:=hid hrec;clear hrec c10;go_wp2;go_roundw
   case rel=>exact⟨g,m+1,by go_num,by first|rfl|trivial,by omega,by omega,by omega,j7.out⟩
   simp[intOf];omega
  rw[if_neg(fun q=>hm q.1)]at hrec;have j5:m=s.size:=by omega
  have k1:¬(m:Int)<(s.size:Int):=by omega
  subst hrec;have j4:(s.extract a m).size<=70000:=by rw[ByteArray.size_extract];omega
  have ZX:=hid(fun w=>ZL.out(s.extract a m)w j4);have SX:=hid(fun w=>ST.out a m w(by omega)(by omega));have b1:(a:Int)<=(m:Int):=by omega
  have b2:(m:Int)<=(s.size:Int):=by omega
  have k2:((m:Int)==(s.size:Int))=true:=by simp;omega
  have HM:=hid j5;clear j5;generalize Q40(s.extract a m)=zt at ZX j0;cases zt with
  |none =>
   have j1:Hid(R=([],(Q5m s a m:Int))):=j0.out.symm;clear j0;go_wp2_with(first
    |(go_at_call 60;refine(ZX.out _).mono ?_;rintro e w1⟨x,he,hA,hf1,hx⟩;rw[Option.isSome_none]at he;subst he;have j3:=hid hf1;have j2:=hid hA;clear hf1 hA hx)
    |(refine z0e rfl 85 _ _ rfl w1 _ _ _ rfl rfl rfl Q6b rfl j2.out.one ?_)
    |(go_at_call 61;refine(SX.out _).mono ?_;rintro e w2⟨rfl,hf2⟩))
   refine bodyPost_ret(results_tmp2 rfl _ _ _)rfl⟨.slice none 0 0,[],by rw[j1.out];rfl,by rw[j1.out];rfl,((HL.out.fresh.trans j3.out).alloc _).trans hf2,⟨World.ownsRow_nil _ _ _ _,fun _ h=>by cases h⟩⟩
  |some z =>
   have j1:Hid(R=([],(Q5m s a m:Int))):=by
    have:=j0.out;dsimp only at this;rw[if_pos HM.out]at this;exact this.symm
   clear j0;go_wp2_with(first
    |(go_at_call 60;refine(ZX.out _).mono ?_;rintro e w1⟨x,he,hA,hf1,hx⟩;rw[Option.isSome_some]at he;subst he;have j3:=hid hf1;have j2:=hid hA;clear hf1 hA hx)
    |(refine z0e rfl 85 _ _ rfl w1 _ _ _ rfl rfl rfl Q6b rfl j2.out.one ?_)
    |(go_at_call 61;refine(SX.out _).mono ?_;rintro e w2⟨rfl,hf2⟩))
   refine bodyPost_ret(results_tmp2 rfl _ _ _)rfl⟨.slice none 0 0,[],by rw[j1.out];rfl,by rw[j1.out];rfl,((HL.out.fresh.trans j3.out).alloc _).trans hf2,⟨World.ownsRow_nil _ _ _ _,fun _ h=>by cases h⟩⟩
 rw[if_neg hlt]at hR;have j0:=hid hR;have k1:¬(a:Int)<(s.size:Int):=by omega
 clear hR;go_wp2;refine bodyPost_ret(results_tmp2 rfl _ _ _)rfl⟨.slice ao xs.length cap,xs,by rw[← j0.out],by rw[← j0.out];rfl,HL.out.fresh,⟨HL.out.own,HL.out.each⟩⟩
end Go.Proofs.YtcpceafmlgaodaaGreat
