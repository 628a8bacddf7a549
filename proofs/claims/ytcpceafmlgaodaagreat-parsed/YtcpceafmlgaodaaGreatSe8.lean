import Derived.Test.YtcpceafmlgaodaaGreatSe5
namespace Go.Proofs.YtcpceafmlgaodaaGreat
open Go.RowKit
set_option maxRecDepth 100000
set_option maxHeartbeats 16000000
set_option linter.unusedVariables false
set_option linter.unusedSimpArgs false
theorem y2a(h:Hd)(v:Bool):(hdA h).setIfInBounds 0(.bool v)=hdA{h with nul:=v}:=by simp[hdA,Hd.cells]
theorem x9m(h:Hd)(v:Bool):(hdA h).setIfInBounds 1(.bool v)=hdA{h with rch:=v}:=by simp[hdA,Hd.cells]
theorem x88(h:Hd)(v:Bool):(hdA h).setIfInBounds 2(.bool v)=hdA{h with fru:=v}:=by simp[hdA,Hd.cells]
theorem y7s{h:Hd}(k:h.ok){l:List Bool}(hl:l.length=9):Q5a(hdA h)3(bls l)=hdA{h with fi:=l}:=by
  obtain⟨n,r,f,fi,fo⟩:=h;obtain⟨a0,a1,a2,a3,a4,a5,a6,a7,a8,e⟩:=Q7i k.fi;obtain⟨b0,b1,b2,b3,b4,b5,b6,b7,b8,e2⟩:=Q7i k.fo;obtain⟨c0,c1,c2,c3,c4,c5,c6,c7,c8,e3⟩:=Q7i hl;dsimp only at e e2;subst e;subst e2;subst e3;simp[hdA,Hd.cells,bls,Q5a]
theorem z54{h:Hd}(k:h.ok){l:List Bool}(hl:l.length=9):Q5a(hdA h)12(bls l)=hdA{h with fo:=l}:=by
  obtain⟨n,r,f,fi,fo⟩:=h;obtain⟨a0,a1,a2,a3,a4,a5,a6,a7,a8,e⟩:=Q7i k.fi;obtain⟨b0,b1,b2,b3,b4,b5,b6,b7,b8,e2⟩:=Q7i k.fo;obtain⟨c0,c1,c2,c3,c4,c5,c6,c7,c8,e3⟩:=Q7i hl;dsimp only at e e2;subst e;subst e2;subst e3;simp[hdA,Hd.cells,bls,Q5a]
theorem z4p{w:World}{g:Nat}{h:Hd}{t:TypeId}(k:h.ok)(hb:w.heap[g]? = some(.cells(hdA h)t(0,0))){o n:Nat}(ho:o+n<=21):w.there g o n:=fun j hj=>by
  refine⟨?_,Q0h hb _⟩;rw[Q0b hb];have:=z07 k;simp[this];omega
theorem z0z{w:World}{g o:Nat}{vs:List Value}{b:Nat}{p:Nat}(hb:b≠g):(w.setCells g o vs).cell?⟨b,p,none⟩=w.cell?⟨b,p,none⟩ :=
  World.cell?_setCells_out g vs o w⟨b,p,none⟩(fun e=>absurd e hb)
def Q2f(v:Value):Nat->Prop:=fun k=>v.ownBlock=some k
theorem x3t(w:World)(b:Nat)(R H:Int)(vp vh:Value)(ps:List PV)(hs:List Hd)(h:FA w b R H vp vh ps hs)(hps:ps.length<=1000) :
    Calls Tryz.prog 110#[Q3b b]w fun e w'=>e=.returned(.bool(Q5h(Q0k ps)hs false).2)/\FA w' b R H vp vh ps(Q5h(Q0k ps)hs false).1/\Mod(Q2f vh)w w':=by
  have jg:=hid h;obtain⟨ao,cap,hv⟩:=z0d h.prs.row.own;subst hv;have k2:=h.cell 2;simp at k2;generalize hR:Q5h(Q0k ps)hs false=RES;have HR:=hid hR;clear hR h;go_enter Tryz.func110,Tryz.ntmps110
  go_wp2;go_loopw [3,5,6,7,8,15](fun x3 _ _ _ _ x15 wr=>∃(i:Nat)(gr:Bool)(hs':List Hd),x3=.bool gr/\x15=.int .i64 i/\i<=ps.length/\FA wr b R H(.slice ao ps.length cap)vh ps hs'/\Q5h(Q0k(ps.drop i))hs' gr=RES/\Mod(Q2f vh)w wr)
      (fun _ _ _ _ _ x _=>ps.length+1-(intOf x).toNat)
  case atStart=>exact⟨0,false,hs,rfl,rfl,by omega,jg.out,HR.out,mRf _ w⟩
  obtain⟨i,gr,hs',rfl,rfl,hi,hF,hres,hmod⟩:=hrel;have jc:=hid(Q2a(B:=ps.length+1)i(by omega));have j3:=hid hmod;have HF:=hid hF;clear hmod;by_cases hlt:i<ps.length
  · have jk:(i:Int)<(ps.length:Int):=by omega
    rw[qC hlt]at hres;obtain⟨gp,cap',hv'⟩:=Q1d.ownsRow_form hF.prs.row.own(by omega);rw[qI]at hv';obtain⟨rfl,_,rfl⟩:=hv';have RG:Hid(wr.rangeAt gp(i*2) [.int .i64 ps[i].pr.head,ps[i].vs]):=hF.prs.row.range i hlt;have jl:=hF.size;have j6:=hid(hF.fresh((mRf _ wr).alloc(.cells#[.int .i64 ps[i].pr.head,ps[i].vs]118(0,0))));have ja:=hid(j6.out.prs.syms ps[i](by simp));unfold Q0k at hres;rw[List.map_cons]at hres;unfold Q5h Q3k at hres;generalize ps[i].pr=pr at hres RG ja j6;generalize ps[i].vs=pvs at RG ja j6;obtain⟨ph,psy⟩:=pr;dsimp only at hres RG ja j6;obtain⟨sao,scap,hsv,_⟩:=ja.out;subst hsv;have j2:=hid(z1a hF.ok psy Q0w rfl);have j1:=hid(z0k hF.ok ph);have BA:=hid(z6k _ b R H _ vh ps hs' b _ psy j6.out(by simp;omega)ja.out);have GA:=hid(fun w(h:FA w b R H(.slice(some⟨gp,0,none⟩)ps.length cap)vh ps hs')=>z4s w b R H _ vh ps hs' ph h);have PA:=hid(fun w(x:Hd)(hx:x.ok)(h:FA w b R H(.slice(some⟨gp,0,none⟩)ps.length cap)vh ps hs')=>y16 w b R H _ vh ps hs' ph x hx h);generalize Q2u hs' psy Q0w=bg at hres j2 BA;generalize Q1l hs' ph=hd at hres j1 GA;obtain⟨bg1,bg2⟩:=bg;dsimp only at hres j2 BA;have j4:=hid(z04 j1.out.fi j2.out);clear hF;generalize hnn:(hd.nul||bg2)=nn at hres;have j8:Hid(Hd.ok{hd with nul:=nn}):=⟨j1.out.fi,j1.out.fo⟩;have jb:Hid(Hd.ok{hd with nul:=nn,fi:=orL hd.fi bg1}):=⟨j4.out,j1.out.fo⟩;generalize hpb:Q65 hs' ph{hd with nul:=nn,fi:=orL hd.fi bg1}=pb at hres;have je:=hid hpb;have j0:=hid hres;clear hres hpb;cases hn:hd.nul
    · have e1:nn=bg2:=by rw[← hnn,hn];rfl
      clear hnn;subst e1;go_wp2_with(first
        |(refine wpList_load_mid rfl 118 _ rfl gp(i*2)rfl [.int .i64 ph,.slice sao psy.length scap]_ RG.out Tryz.underlying118 rfl W0g ?_)
        |(go_at_call 53;refine BA.out.mono ?_;rintro e w1⟨rfl,hf1⟩;have ji:wr.heap.size<w1.heap.size:=(by have:=hf1.size;simp at this;omega);have k1:(w1.alloc(.cells(tkA bg1)130(0,0))).cell?⟨wr.heap.size,0,none⟩=some(.int .i64 ph):=(by rw[Q0b(z0b(hf1.at(z0a _ _)(fun x=>x)))0];rfl))
        |(refine z0e rfl 130 _ _ rfl w1 _(tkA bg1)_ rfl rfl rfl(Q0t j2.out)(Q0l rfl(z0u j2.out))(z1e _)?_)
        |(go_at_call 84;refine(GA.out _(j6.out.fresh(hf1.alloc _))).mono ?_;rintro e w2⟨rfl,hf2⟩;have jh:w1.heap.size<w2.heap.size:=(by have:=hf2.size;simp at this;omega);have kk:(w2.alloc(.cells(hdA hd)179(0,0))).cell?⟨w2.heap.size,0,none⟩=some(.bool hd.nul):=(by rw[Q0b(z0a w2 _)0];exact y0s hd);rw[hn]at kk)
        |(refine z0e rfl 179 _ _ rfl w2 _(hdA hd)_ rfl rfl rfl(Q1q j1.out)(Q0l rfl(z07 j1.out))(z1x _)?_)
        |(refine wpList_load_mid rfl 130 _ rfl w2.heap.size 3 rfl(bls hd.fi)_(Q60(h:={hd with nul:=nn})j8.out(by rw[← y2a];exact z0a _ _))Tryz.underlying130 rfl(Q5p j1.out.fi)?_)
        |(refine wpList_load_row rfl 130 _ rfl w1.heap.size rfl _ _ _ _(z0b(hf2.at(z0a _ _)(fun x=>x)))Tryz.underlying130 rfl(Q0t j2.out)?_)
        |(go_at_call 54;refine(z1b _ hd.fi bg1 j1.out.fi j2.out).mono ?_;rintro e w3⟨rfl,hf3⟩;have j7:=hid(hf3.at(z0a w2 _)(fun x=>x));rw[y2a]at j7;have k4:(w3.setCells w2.heap.size 3(tkA(orL hd.fi bg1)).toList).cell?⟨wr.heap.size,0,none⟩=some(.int .i64 ph):=(by rw[z0z(by omega),Q0b(hf3.at(z0b(hf2.at(z0b(hf1.at(z0a _ _)(fun x=>x)))(fun x=>x)))(fun x=>x))0];rfl);have jd:Hid((w3.setCells w2.heap.size 3(tkA(orL hd.fi bg1)).toList).heap[w2.heap.size]? = some(.cells(hdA{hd with nul:=nn,fi:=orL hd.fi bg1})179(0,0))):=(by unfold Hid;rw[z0p _ _ _ _ _ _ _ j7.out];rw[← y7s j8.out j4.out];rfl);have j5:Hid(Q0a wr(w3.setCells w2.heap.size 3(tkA(orL hd.fi bg1)).toList)):=Mod.setCells(by intro q;omega)_ _ _(Mod.trans(Mod.trans(Mod.trans((mRf _ wr).alloc _)hf1 |>.alloc _)hf2 |>.alloc _)hf3))
        |(refine wpList_store_mid rfl 130 _ _ rfl w2.heap.size 3(tkA(orL hd.fi bg1))rfl rfl(by rw[z0u j4.out];exact z4p j8.out j7.out(by omega))(Q0t j4.out)(z1e _)?_)
        |(refine wpList_load_row rfl 179 _ rfl w2.heap.size rfl _ _ _ _ jd.out Tryz.underlying179 rfl(Q1q jb.out)?_)
        |(go_at_call 121;refine(PA.out _{hd with nul:=nn,fi:=orL hd.fi bg1}jb.out(HF.out.fresh j5.out)).mono ?_;rintro e w4⟨rfl,hF4,hm4⟩;rw[je.out]))
      · have hq:pb=true:=by assumption
        go_roundw
        case rel =>
          refine⟨i+1,true,_,rfl,by go_num,by omega,hF4,?_,Mod.trans j3.out(Mod.trans(Mod.mono j5.out(fun _ _ x=>x.elim))hm4)⟩;have:=j0.out;rw[hq,Bool.or_true]at this;exact this
        exact jc.out
      have hq:pb=false:=by assumption
      go_roundw
      case rel =>
        refine⟨i+1,gr,_,rfl,by go_num,by omega,hF4,?_,Mod.trans j3.out(Mod.trans(Mod.mono j5.out(fun _ _ x=>x.elim))hm4)⟩;have:=j0.out;rw[hq,Bool.or_false]at this;exact this
      exact jc.out
    have e1:nn=true:=by rw[← hnn,hn];rfl
    clear hnn;subst e1;go_wp2_with(first
      |(refine wpList_load_mid rfl 118 _ rfl gp(i*2)rfl [.int .i64 ph,.slice sao psy.length scap]_ RG.out Tryz.underlying118 rfl W0g ?_)
      |(go_at_call 53;refine BA.out.mono ?_;rintro e w1⟨rfl,hf1⟩;have ji:wr.heap.size<w1.heap.size:=(by have:=hf1.size;simp at this;omega);have k1:(w1.alloc(.cells(tkA bg1)130(0,0))).cell?⟨wr.heap.size,0,none⟩=some(.int .i64 ph):=(by rw[Q0b(z0b(hf1.at(z0a _ _)(fun x=>x)))0];rfl))
      |(refine z0e rfl 130 _ _ rfl w1 _(tkA bg1)_ rfl rfl rfl(Q0t j2.out)(Q0l rfl(z0u j2.out))(z1e _)?_)
      |(go_at_call 84;refine(GA.out _(j6.out.fresh(hf1.alloc _))).mono ?_;rintro e w2⟨rfl,hf2⟩;have jh:w1.heap.size<w2.heap.size:=(by have:=hf2.size;simp at this;omega);have kk:(w2.alloc(.cells(hdA hd)179(0,0))).cell?⟨w2.heap.size,0,none⟩=some(.bool hd.nul):=(by rw[Q0b(z0a w2 _)0];exact y0s hd);rw[hn]at kk)
      |(refine z0e rfl 179 _ _ rfl w2 _(hdA hd)_ rfl rfl rfl(Q1q j1.out)(Q0l rfl(z07 j1.out))(z1x _)?_)
      |(refine wpList_load_mid rfl 130 _ rfl w2.heap.size 3 rfl(bls hd.fi)_(Q60(h:={hd with nul:=true})j8.out(by rw[← y2a];exact z0a _ _))Tryz.underlying130 rfl(Q5p j1.out.fi)?_)
      |(refine wpList_load_row rfl 130 _ rfl w1.heap.size rfl _ _ _ _(z0b(hf2.at(z0a _ _)(fun x=>x)))Tryz.underlying130 rfl(Q0t j2.out)?_)
      |(go_at_call 54;refine(z1b _ hd.fi bg1 j1.out.fi j2.out).mono ?_;rintro e w3⟨rfl,hf3⟩;have j7:=hid(hf3.at(z0a w2 _)(fun x=>x));rw[y2a]at j7;have k4:(w3.setCells w2.heap.size 3(tkA(orL hd.fi bg1)).toList).cell?⟨wr.heap.size,0,none⟩=some(.int .i64 ph):=(by rw[z0z(by omega),Q0b(hf3.at(z0b(hf2.at(z0b(hf1.at(z0a _ _)(fun x=>x)))(fun x=>x)))(fun x=>x))0];rfl);have jd:Hid((w3.setCells w2.heap.size 3(tkA(orL hd.fi bg1)).toList).heap[w2.heap.size]? = some(.cells(hdA{hd with nul:=true,fi:=orL hd.fi bg1})179(0,0))):=(by unfold Hid;rw[z0p _ _ _ _ _ _ _ j7.out];rw[← y7s j8.out j4.out];rfl);have j5:Hid(Q0a wr(w3.setCells w2.heap.size 3(tkA(orL hd.fi bg1)).toList)):=Mod.setCells(by intro q;omega)_ _ _(Mod.trans(Mod.trans(Mod.trans((mRf _ wr).alloc _)hf1 |>.alloc _)hf2 |>.alloc _)hf3))
      |(refine wpList_store_mid rfl 130 _ _ rfl w2.heap.size 3(tkA(orL hd.fi bg1))rfl rfl(by rw[z0u j4.out];exact z4p j8.out j7.out(by omega))(Q0t j4.out)(z1e _)?_)
      |(refine wpList_load_row rfl 179 _ rfl w2.heap.size rfl _ _ _ _ jd.out Tryz.underlying179 rfl(Q1q jb.out)?_)
      |(go_at_call 121;refine(PA.out _{hd with nul:=true,fi:=orL hd.fi bg1}jb.out(HF.out.fresh j5.out)).mono ?_;rintro e w4⟨rfl,hF4,hm4⟩;rw[je.out]))
    · have hq:pb=true:=by assumption
      go_roundw
      case rel =>
        refine⟨i+1,true,_,rfl,by go_num,by omega,hF4,?_,Mod.trans j3.out(Mod.trans(Mod.mono j5.out(fun _ _ x=>x.elim))hm4)⟩;have:=j0.out;rw[hq,Bool.or_true]at this;exact this
      exact jc.out
    have hq:pb=false:=by assumption
    go_roundw
    case rel =>
      refine⟨i+1,gr,_,rfl,by go_num,by omega,hF4,?_,Mod.trans j3.out(Mod.trans(Mod.mono j5.out(fun _ _ x=>x.elim))hm4)⟩;have:=j0.out;rw[hq,Bool.or_false]at this;exact this
    exact jc.out
  have jf:i=ps.length:=by omega
  rw[jf,List.drop_length]at hres;have j9:(hs',gr)=RES:=hres;have j0:=hid j9;have jj:¬(i:Int)<(ps.length:Int):=by omega
  clear hres hF;go_wp2;go_ret;exact⟨z0s(by rw[← j0.out]),by rw[← j0.out];exact HF.out,j3.out⟩
theorem y3r{w:World}{b:Nat}{c:Array Value}{e:TypeId}(h:w.heap[b]? = some(.cells c e(0,0)))(o:Nat):w.frozen?⟨b,o,none⟩=false:=Q0h h o
theorem x31(w:World)(b:Nat)(R H:Int)(vp vh:Value)(ps:List PV)(hs:List Hd)(h:FA w b R H vp vh ps hs)(hps:ps.length<=1000) :
    Calls Tryz.prog 113#[Q3b b]w fun e w'=>e=.returned(.bool(Q47(Q0k ps)hs false).2)/\FA w' b R H vp vh ps(Q47(Q0k ps)hs false).1/\Mod(Q2f vh)w w':=by
  have je:=hid h;obtain⟨ao,cap,hv⟩:=z0d h.prs.row.own;subst hv;have k2:=h.cell 2;simp at k2;generalize hR:Q47(Q0k ps)hs false=RES;have HR:=hid hR;clear hR h;go_enter Tryz.func113,Tryz.ntmps113
  go_wp2;go_loopw [3,5,6,13](fun x3 _ _ x13 wr=>∃(i:Nat)(gr:Bool)(hs':List Hd),x3=.bool gr/\x13=.int .i64 i/\i<=ps.length/\FA wr b R H(.slice ao ps.length cap)vh ps hs'/\Q47(Q0k(ps.drop i))hs' gr=RES/\Mod(Q2f vh)w wr)
      (fun _ _ _ x _=>ps.length+1-(intOf x).toNat)
  case atStart=>exact⟨0,false,hs,rfl,rfl,by omega,je.out,HR.out,mRf _ w⟩
  obtain⟨i,gr,hs',rfl,rfl,hi,hF,hres,hmod⟩:=hrel;have j8:=hid(Q2a(B:=ps.length+1)i(by omega));have j1:=hid hmod;have HF:=hid hF;clear hmod;by_cases hlt:i<ps.length
  · have jj:(i:Int)<(ps.length:Int):=by omega
    rw[qC hlt]at hres;obtain⟨gp,cap',hv'⟩:=Q1d.ownsRow_form hF.prs.row.own(by omega);rw[qI]at hv';obtain⟨rfl,_,rfl⟩:=hv';have RG:Hid(wr.rangeAt gp(i*2) [.int .i64 ps[i].pr.head,ps[i].vs]):=hF.prs.row.range i hlt;have jg:=hF.size;have j4:=hid(hF.fresh((mRf _ wr).alloc(.cells#[.int .i64 ps[i].pr.head,ps[i].vs]118(0,0))));have j6:=hid(hF.prs.syms ps[i](by simp));unfold Q0k at hres;rw[List.map_cons]at hres;unfold Q47 Q4t at hres;generalize ps[i].pr=pr at hres RG j6 j4;generalize ps[i].vs=pvs at RG j6 j4;obtain⟨ph,psy⟩:=pr;dsimp only at hres RG j6 j4;obtain⟨sao,scap,hsv,_⟩:=j6.out;subst hsv;have j2:=hid(z0k hF.ok ph);have AA:=hid(fun w1(hf:Q0a wr w1)=>y93 w1 b R H _ vh ps hs' b _ psy(HF.out.fresh hf)(by have:=hf.size;omega)(j6.out.kept(Nat.le_of_lt jg)hf(fun _ _ x=>x)));have GA:=hid(fun w(h:FA w b R H(.slice(some⟨gp,0,none⟩)ps.length cap)vh ps hs')=>z4s w b R H _ vh ps hs' ph h);have PA:=hid(fun w(x:Hd)(hx:x.ok)(h:FA w b R H(.slice(some⟨gp,0,none⟩)ps.length cap)vh ps hs')=>y16 w b R H _ vh ps hs' ph x hx h);generalize Q1l hs' ph=hd at hres j2 GA;clear hF;cases hal:Q43 hs' psy
    · rw[hal]at hres AA
      have jf:({hd with fru:=hd.fru||false}:Hd)=hd:=by simp
      rw[jf]at hres;generalize hpb:Q65 hs' ph hd=pb at hres;have j9:=hid hpb;have j0:=hid hres;clear hres hpb;go_wp2_with(first
        |(refine wpList_load_mid rfl 118 _ rfl gp(i*2)rfl [.int .i64 ph,.slice sao psy.length scap]_ RG.out Tryz.underlying118 rfl W0g ?_)
        |(go_at_call 84;refine(GA.out _ j4.out).mono ?_;rintro e w1⟨rfl,hf1⟩;have jh:wr.heap.size<w1.heap.size:=(by have:=hf1.size;simp at this;omega);have k1:(w1.alloc(.cells(hdA hd)179(0,0))).cell?⟨wr.heap.size,1,none⟩=some(.slice sao psy.length scap):=(by rw[Q0b(z0b(hf1.at(z0a _ _)(fun x=>x)))1];rfl);have j7:Hid(Q0a wr(w1.alloc(.cells(hdA hd)179(0,0)))):=(Mod.trans((mRf _ wr).alloc _)hf1 |>.alloc _))
        |(refine z0e rfl 179 _ _ rfl w1 _(hdA hd)_ rfl rfl rfl(Q1q j2.out)(Q0l rfl(z07 j2.out))(z1x _)?_)
        |(go_at_call 122;refine(AA.out _ j7.out).mono ?_;rintro e w2⟨rfl,hf2⟩;have j3:=hid(Mod.trans j7.out hf2);have jb:=hid(hf2.at(z0a w1 _)(fun x=>x));have k4:w2.cell?⟨wr.heap.size,0,none⟩=some(.int .i64 ph):=(by rw[Q0b(hf2.at(z0b(hf1.at(z0a _ _)(fun x=>x)))(fun x=>x))0];rfl))
        |(refine wpList_load_row rfl 179 _ rfl w1.heap.size rfl _ _ _ _ jb.out Tryz.underlying179 rfl(Q1q j2.out)?_)
        |(go_at_call 121;refine(PA.out _ hd j2.out(HF.out.fresh j3.out)).mono ?_;rintro e w4⟨rfl,hF4,hm4⟩;rw[j9.out]))
      · have hq:pb=true:=by assumption
        go_roundw
        case rel =>
          refine⟨i+1,true,_,rfl,by go_num,by omega,hF4,?_,Mod.trans j1.out(Mod.trans(Mod.mono j3.out(fun _ _ x=>x.elim))hm4)⟩;have:=j0.out;rw[hq,Bool.or_true]at this;exact this
        exact j8.out
      have hq:pb=false:=by assumption
      go_roundw
      case rel =>
        refine⟨i+1,gr,_,rfl,by go_num,by omega,hF4,?_,Mod.trans j1.out(Mod.trans(Mod.mono j3.out(fun _ _ x=>x.elim))hm4)⟩;have:=j0.out;rw[hq,Bool.or_false]at this;exact this
      exact j8.out
    rw[hal]at hres AA;rw[Bool.or_true]at hres;have jc:Hid(Hd.ok{hd with fru:=true}):=⟨j2.out.fi,j2.out.fo⟩;generalize hpb:Q65 hs' ph{hd with fru:=true}=pb at hres;have j9:=hid hpb;have j0:=hid hres;clear hres hpb;go_wp2_with(first
      |(refine wpList_load_mid rfl 118 _ rfl gp(i*2)rfl [.int .i64 ph,.slice sao psy.length scap]_ RG.out Tryz.underlying118 rfl W0g ?_)
      |(go_at_call 84;refine(GA.out _ j4.out).mono ?_;rintro e w1⟨rfl,hf1⟩;have jh:wr.heap.size<w1.heap.size:=(by have:=hf1.size;simp at this;omega);have k1:(w1.alloc(.cells(hdA hd)179(0,0))).cell?⟨wr.heap.size,1,none⟩=some(.slice sao psy.length scap):=(by rw[Q0b(z0b(hf1.at(z0a _ _)(fun x=>x)))1];rfl);have j7:Hid(Q0a wr(w1.alloc(.cells(hdA hd)179(0,0)))):=(Mod.trans((mRf _ wr).alloc _)hf1 |>.alloc _))
      |(refine z0e rfl 179 _ _ rfl w1 _(hdA hd)_ rfl rfl rfl(Q1q j2.out)(Q0l rfl(z07 j2.out))(z1x _)?_)
      |(go_at_call 122;refine(AA.out _ j7.out).mono ?_;rintro e w2⟨rfl,hf2⟩;have j3:=hid((Mod.trans j7.out hf2).setCell(p:=⟨w1.heap.size,2,none⟩)(by intro q;simp at q;omega)(.bool true));have ja:=hid(hf2.at(z0a w1 _)(fun x=>x));have c3:=Q0b ja.out 2;rw[y3v]at c3;have z3:=y3r ja.out 2;have jb:Hid((w2.setCell⟨w1.heap.size,2,none⟩(.bool true)).heap[w1.heap.size]? = some(.cells(hdA{hd with fru:=true})179(0,0))):=(by unfold Hid;rw[zhs ja.out,x88]);have k4:(w2.setCell⟨w1.heap.size,2,none⟩(.bool true)).cell?⟨wr.heap.size,0,none⟩=some(.int .i64 ph):=(by rw[Q0b(z0i(hf2.at(z0b(hf1.at(z0a _ _)(fun x=>x)))(fun x=>x))(by dsimp only;omega))0];rfl))
      |(refine wpList_load_row rfl 179 _ rfl w1.heap.size rfl _ _ _ _ jb.out Tryz.underlying179 rfl(Q1q jc.out)?_)
      |(go_at_call 121;refine(PA.out _{hd with fru:=true}jc.out(HF.out.fresh j3.out)).mono ?_;rintro e w4⟨rfl,hF4,hm4⟩;rw[j9.out]))
    · have hq:pb=true:=by assumption
      go_roundw
      case rel =>
        refine⟨i+1,true,_,rfl,by go_num,by omega,hF4,?_,Mod.trans j1.out(Mod.trans(Mod.mono j3.out(fun _ _ x=>x.elim))hm4)⟩;have:=j0.out;rw[hq,Bool.or_true]at this;exact this
      exact j8.out
    have hq:pb=false:=by assumption
    go_roundw
    case rel =>
      refine⟨i+1,gr,_,rfl,by go_num,by omega,hF4,?_,Mod.trans j1.out(Mod.trans(Mod.mono j3.out(fun _ _ x=>x.elim))hm4)⟩;have:=j0.out;rw[hq,Bool.or_false]at this;exact this
    exact j8.out
  have jd:i=ps.length:=by omega
  rw[jd,List.drop_length]at hres;have j5:(hs',gr)=RES:=hres;have j0:=hid j5;have ji:¬(i:Int)<(ps.length:Int):=by omega
  clear hres hF;go_wp2;go_ret;exact⟨z0s(by rw[← j0.out]),by rw[← j0.out];exact HF.out,j1.out⟩
def Q3j:List Sy->List Hd->Bool->List Hd × Bool
  | [],hs,g=>(hs,g)
  | s :: l,hs,g=>if s.isH=false then Q3j l hs g else
      Q3j l(Q7o hs s.num{Q1l hs s.num with rch:=true})(g||Q65 hs s.num{Q1l hs s.num with rch:=true})
def Q3r:List Pr->List Hd->Bool->List Hd × Bool
  | [],hs,g=>(hs,g)
  |p::l,hs,g=>if(Q1l hs p.head).rch=false then Q3r l hs g else Q3r l(Q3j p.syms hs g).1(Q3j p.syms hs g).2
theorem x3j(w:World)(b:Nat)(R H:Int)(vp vh:Value)(ps:List PV)(hs:List Hd)(h:FA w b R H vp vh ps hs)(hps:ps.length<=1000) :
    Calls Tryz.prog 112#[Q3b b]w fun e w'=>e=.returned(.bool(Q3r(Q0k ps)hs false).2)/\FA w' b R H vp vh ps(Q3r(Q0k ps)hs false).1/\Mod(Q2f vh)w w':=by
  have jj:=hid h;obtain⟨ao,cap,hv⟩:=z0d h.prs.row.own;subst hv;have k2:=h.cell 2;simp at k2;generalize hR:Q3r(Q0k ps)hs false=RES;have HR:=hid hR;clear hR h;go_enter Tryz.func112,Tryz.ntmps112
  go_wp2;go_loopw [3,5,6,8,9,16,30](fun x3 _ _ _ _ x16 _ wr=>∃(i:Nat)(gr:Bool)(hs':List Hd),x3=.bool gr/\x16=.int .i64 i/\i<=ps.length/\FA wr b R H(.slice ao ps.length cap)vh ps hs'/\Q3r(Q0k(ps.drop i))hs' gr=RES/\Mod(Q2f vh)w wr)
      (fun _ _ _ _ _ x _ _=>ps.length+1-(intOf x).toNat)
  case atStart=>exact⟨0,false,hs,rfl,rfl,by omega,jj.out,HR.out,mRf _ w⟩
  obtain⟨i,gr,hs',rfl,rfl,hi,hF,hres,hmod⟩:=hrel;obtain⟨wo,hwo⟩:∃wo,wo=wr:=⟨_,rfl⟩;subst hwo;have jf:=hid(Q2a(B:=ps.length+1)i(by omega));have j4:=hid hmod;have HF:=hid hF;clear hmod;by_cases hlt:i<ps.length
  · have jr:(i:Int)<(ps.length:Int):=by omega
    rw[qC hlt]at hres;obtain⟨gp,cap',hv'⟩:=Q1d.ownsRow_form hF.prs.row.own(by omega);rw[qI]at hv';obtain⟨rfl,_,rfl⟩:=hv';have RG:Hid(wo.rangeAt gp(i*2) [.int .i64 ps[i].pr.head,ps[i].vs]):=hF.prs.row.range i hlt;have jt:=hF.size;have j5:=hid(hF.fresh((mRf _ wo).alloc(.cells#[.int .i64 ps[i].pr.head,ps[i].vs]118(0,0))));have j7:Hid(∀(w1:World)(hs1:List Hd),FA w1 b R H(.slice(some⟨gp,0,none⟩)ps.length cap)vh ps hs1->Q59 w1 b ps[i].vs ps[i].pr.syms):=fun w1 hs1 h=>h.prs.syms ps[i](by simp);unfold Q0k at hres;rw[List.map_cons]at hres;unfold Q3r at hres;generalize ps[i].pr=pr at hres RG j7 j5;generalize ps[i].vs=pvs at RG j7 j5;obtain⟨ph,psy⟩:=pr;dsimp only at hres RG j7 j5;obtain⟨sao,scap,hsv,hsc1,hsc2,_⟩:=j7.out _ _ hF;subst hsv;unfold maxLen at hsc2;have j6:=hid(z0k hF.ok ph);have GA:=hid(fun w(h:FA w b R H(.slice(some⟨gp,0,none⟩)ps.length cap)vh ps hs')=>z4s w b R H _ vh ps hs' ph h);generalize Q1l hs' ph=hd at hres j6 GA;clear hF;cases hn:hd.rch
    · rw[if_pos hn]at hres
      have j2:=hid hres;clear hres;go_wp2_with(first
        |(refine wpList_load_mid rfl 118 _ rfl gp(i*2)rfl [.int .i64 ph,.slice sao psy.length scap]_ RG.out Tryz.underlying118 rfl W0g ?_)
        |(go_at_call 84;refine(GA.out _ j5.out).mono ?_;rintro e w1⟨rfl,hf1⟩;have k1:(w1.alloc(.cells(hdA hd)179(0,0))).cell?⟨w1.heap.size,1,none⟩=some(.bool hd.rch):=(by rw[Q0b(z0a _ _)1];exact y5i hd);rw[hn]at k1;have j8:Hid(Q0a wo(w1.alloc(.cells(hdA hd)179(0,0)))):=(Mod.trans((mRf _ wo).alloc _)hf1 |>.alloc _))
        |(refine z0e rfl 179 _ _ rfl w1 _(hdA hd)_ rfl rfl rfl(Q1q j6.out)(Q0l rfl(z07 j6.out))(z1x _)?_))
      go_roundw
      case rel=>exact⟨i+1,gr,hs',rfl,by go_num,by omega,HF.out.fresh j8.out,j2.out,Mod.trans j4.out(Mod.mono j8.out(fun _ _ x=>x.elim))⟩
      exact jf.out
    rw[if_neg(by simp[hn])]at hres;generalize hRR:Q3j psy hs' gr=RR at hres;have jg:=hid hRR;have j2:=hid hres;clear hres hRR;go_wp2_with(first
      |(refine wpList_load_mid rfl 118 _ rfl gp(i*2)rfl [.int .i64 ph,.slice sao psy.length scap]_ RG.out Tryz.underlying118 rfl W0g ?_)
      |(go_at_call 84;refine(GA.out _ j5.out).mono ?_;rintro e w1⟨rfl,hf1⟩;have jv:wo.heap.size<w1.heap.size:=(by have:=hf1.size;simp at this;omega);have k1:(w1.alloc(.cells(hdA hd)179(0,0))).cell?⟨w1.heap.size,1,none⟩=some(.bool hd.rch):=(by rw[Q0b(z0a _ _)1];exact y5i hd);rw[hn]at k1;have k2:(w1.alloc(.cells(hdA hd)179(0,0))).cell?⟨wo.heap.size,1,none⟩=some(.slice sao psy.length scap):=(by rw[Q0b(z0b(hf1.at(z0a _ _)(fun x=>x)))1];rfl);have j8:Hid(Q0a wo(w1.alloc(.cells(hdA hd)179(0,0)))):=(Mod.trans((mRf _ wo).alloc _)hf1 |>.alloc _))
      |(refine z0e rfl 179 _ _ rfl w1 _(hdA hd)_ rfl rfl rfl(Q1q j6.out)(Q0l rfl(z07 j6.out))(z1x _)?_))
    go_loopw [3,8,9,30](fun x3 _ _ x30 wr=>∃(j:Nat)(gr1:Bool)(hs1:List Hd),x3=.bool gr1/\x30=.int .i64 j/\j<=psy.length/\FA wr b R H(.slice(some⟨gp,0,none⟩)ps.length cap)vh ps hs1/\Q3j(psy.drop j)hs1 gr1=RR/\Mod(Q2f vh)w wr)
      (fun _ _ _ x _=>psy.length+1-(intOf x).toNat)
    case atStart=>exact⟨0,gr,hs',rfl,rfl,by omega,HF.out.fresh j8.out,jg.out,Mod.trans j4.out(Mod.mono j8.out(fun _ _ x=>x.elim))⟩
    obtain⟨j,gr1,hs1,rfl,rfl,hj,hF1,hres1,hmod1⟩:=hrel;have jb:=hid(Q2a(B:=psy.length+1)j(by omega));have j9:=hid hmod1;have jc:=hid hF1;clear hmod1;by_cases hlj:j<psy.length
    · have jo:(j:Int)<(psy.length:Int):=by omega
      rw[qC hlj]at hres1;obtain⟨ao2,cap2,hv2,hd1,hd2,hcells⟩:=j7.out _ _ hF1;rw[qI]at hv2;obtain⟨rfl,_,rfl⟩:=hv2;obtain⟨gs,os,rfl,hgs,hrs⟩:=hcells j hlj;have RS:Hid(wr.rangeAt gs(os+j*2) [.bool psy[j].isH,.int .i64 psy[j].num]):=hrs;unfold Q3j at hres1;generalize psy[j].isH=sh at hres1 RS;generalize psy[j].num=sn at hres1 RS;have ju:=hF1.size;clear hcells hrs;cases sh
      · rw[if_pos rfl]at hres1
        have j0:=hid hres1;clear hres1 hF1;go_wp2_with(first
          |(refine wpList_load_mid rfl 69 _ rfl gs(os+j*2)rfl [.bool false,.int .i64 sn]_ RS.out Tryz.underlying69 rfl W0c ?_))
        go_roundw
        case rel=>exact⟨j+1,gr1,hs1,rfl,by go_num,by omega,jc.out.fresh((mRf _ wr).alloc _),j0.out,Mod.trans j9.out((mRf _ wr).alloc _)⟩
        exact jb.out
      rw[if_neg(by simp)]at hres1;have j3:=hid(z0k hF1.ok sn);have je:=hid(fun w(h:FA w b R H(.slice(some⟨gp,0,none⟩)ps.length cap)vh ps hs1)=>z4s w b R H _ vh ps hs1 sn h);have jm:=hid(fun w(x:Hd)(hx:x.ok)(h:FA w b R H(.slice(some⟨gp,0,none⟩)ps.length cap)vh ps hs1)=>y16 w b R H _ vh ps hs1 sn x hx h);have jn:=hid(hF1.fresh((mRf _ wr).alloc(.cells#[.bool true,.int .i64 sn]69(0,0))));generalize Q1l hs1 sn=hd1 at hres1 j3 je;have jd:Hid(Hd.ok{hd1 with rch:=true}):=⟨j3.out.fi,j3.out.fo⟩;generalize hpb:Q65 hs1 sn{hd1 with rch:=true}=pb at hres1;have ji:=hid hpb;have j0:=hid hres1;clear hres1 hF1 hpb;go_wp2_with(first
        |(refine wpList_load_mid rfl 69 _ rfl gs(os+j*2)rfl [.bool true,.int .i64 sn]_ RS.out Tryz.underlying69 rfl W0c ?_)
        |(go_at_call 84;refine(je.out _ jn.out).mono ?_;rintro e w2⟨rfl,hf2⟩;have jq:wr.heap.size<w2.heap.size:=(by have:=hf2.size;simp at this;omega);have c3:(w2.alloc(.cells(hdA hd1)179(0,0))).cell?⟨w2.heap.size,1,none⟩=some(.bool hd1.rch):=(by rw[Q0b(z0a _ _)1];exact y5i hd1);have z3:=y3r(z0a w2(.cells(hdA hd1)179(0,0)))1;have ja:Hid(Q0a wr(w2.alloc(.cells((hdA hd1).setIfInBounds 1(.bool true))179(0,0)))):=(Mod.trans((mRf _ wr).alloc _)hf2 |>.alloc _);have jl:Hid((w2.alloc(.cells((hdA hd1).setIfInBounds 1(.bool true))179(0,0))).heap[w2.heap.size]? = some(.cells(hdA{hd1 with rch:=true})179(0,0))):=(by unfold Hid;rw[x9m];exact z0a _ _);have k4:(w2.alloc(.cells((hdA hd1).setIfInBounds 1(.bool true))179(0,0))).cell?⟨wr.heap.size,1,none⟩=some(.int .i64 sn):=(by rw[Q0b(z0b(hf2.at(z0a _ _)(fun x=>x)))1];rfl))
        |(refine z0e rfl 179 _ _ rfl w2 _(hdA hd1)_ rfl rfl rfl(Q1q j3.out)(Q0l rfl(z07 j3.out))(z1x _)?_)
        |(refine wpList_load_row rfl 179 _ rfl w2.heap.size rfl _ _ _ _ jl.out Tryz.underlying179 rfl(Q1q jd.out)?_)
        |(go_at_call 121;refine(jm.out _{hd1 with rch:=true}jd.out(jc.out.fresh ja.out)).mono ?_;rintro e w4⟨rfl,hF4,hm4⟩;rw[ji.out]))
      · have hq:pb=true:=by assumption
        go_roundw
        case rel =>
          refine⟨j+1,true,_,rfl,by go_num,by omega,hF4,?_,Mod.trans j9.out(Mod.trans(Mod.mono ja.out(fun _ _ x=>x.elim))hm4)⟩;have:=j0.out;rw[hq,Bool.or_true]at this;exact this
        exact jb.out
      have hq:pb=false:=by assumption
      go_roundw
      case rel =>
        refine⟨j+1,gr1,_,rfl,by go_num,by omega,hF4,?_,Mod.trans j9.out(Mod.trans(Mod.mono ja.out(fun _ _ x=>x.elim))hm4)⟩;have:=j0.out;rw[hq,Bool.or_false]at this;exact this
      exact jb.out
    have jk:j=psy.length:=by omega
    rw[jk,List.drop_length]at hres1;have j1:(hs1,gr1)=RR:=hres1;have j0:=hid j1;have js:¬(j:Int)<(psy.length:Int):=by omega
    clear hres1 j1 hF1;go_wp2;go_roundw
    case rel =>
      refine⟨i+1,gr1,hs1,rfl,by go_num,by omega,jc.out,?_,j9.out⟩;have:=j2.out;rw[← j0.out]at this;exact this
    exact jf.out
  have jh:i=ps.length:=by omega
  rw[jh,List.drop_length]at hres;have j1:(hs',gr)=RES:=hres;have j2:=hid j1;have jp:¬(i:Int)<(ps.length:Int):=by omega
  clear hres hF;go_wp2;go_ret;exact⟨z0s(by rw[← j2.out]),by rw[← j2.out];exact HF.out,j4.out⟩
def Q8k(hs:List Hd)(ph:Int)(l:List Sy):List Bool:=if(Q2u hs l Q0w).2 then orL(Q2u hs l Q0w).1(Q1l hs ph).fo else(Q2u hs l Q0w).1
def Q5q(hs:List Hd)(ph sn:Int)(l:List Sy):Hd:={Q1l hs sn with fo:=orL(Q1l hs sn).fo(Q8k hs ph l)}
def Q23(ph:Int):List Sy->List Hd->Bool->List Hd × Bool
  | [],hs,g=>(hs,g)
  | s :: l,hs,g=>if s.isH=false then Q23 ph l hs g else
      Q23 ph l(Q7o hs s.num(Q5q hs ph s.num l))(g||Q65 hs s.num(Q5q hs ph s.num l))
def Q5j:List Pr->List Hd->Bool->List Hd × Bool
  | [],hs,g=>(hs,g)
  |p::l,hs,g=>Q5j l(Q23 p.head p.syms hs g).1(Q23 p.head p.syms hs g).2
theorem Q59.drop{w:World}{B gs os cap:Nat}{l:List Sy}(h:Q59 w B(.slice(some⟨gs,os,none⟩)l.length cap)l)(k:Nat)(hk:k<=l.length) :
    Q59 w B(.slice(some⟨gs,os+k*2,none⟩)(l.length-k)(cap-k))(l.drop k):=by
  obtain⟨ao,c,h1,h2,h3,h4⟩:=h;rw[qI]at h1;obtain⟨rfl,_,rfl⟩:=h1;refine⟨some⟨gs,os+k*2,none⟩,cap-k,by simp,by simp;omega,by omega,fun i hi=>?_⟩;simp only[List.length_drop]at hi;obtain⟨g,o,e1,e2,e3⟩:=h4(k+i)(by omega);simp only[Option.some.injEq,Addr.mk.injEq]at e1;obtain⟨rfl,rfl,_⟩:=e1;refine⟨gs,os+k*2,rfl,e2,?_⟩;have e:os+(k+i)*2=os+k*2+i*2:=by omega
  rw[e]at e3;simpa using e3
theorem Q59.none{w:World}{B:Nat}{ao:Option Addr}{l:List Sy}(hl:l=[]){n:Nat}(hn:n=0):Q59 w B(.slice ao n 0)l:=by
  subst hl;subst hn;exact⟨ao,0,rfl,by simp,by unfold maxLen;omega,fun i hi=>by simp at hi⟩
theorem z1m{w:World}{g o:Nat}{vs:List Value}{b:Nat}(hb:b≠g):(w.setCells g o vs).heap[b]? = w.heap[b]? := by
  induction vs generalizing w o with
  |nil=>rfl
  |cons v vs ih=>rw[World.setCells,ih];exact heap_setCell_other v(by simpa using hb)
theorem z3d{hs:List Hd}(h:∀x∈hs,x.ok)(ph:Int)(l:List Sy):(Q8k hs ph l).length=9:=by
  unfold Q8k;have:=z1a h l Q0w rfl;split
  · exact z04 this(z0k h _).fo
  exact this
def leB:List Bool->List Bool->Prop
  | [],[]=>True
  |x::xs,y::ys=>(x=true->y=true)/\leB xs ys
  |_,_=>False
theorem z17:∀l:List Bool,leB l l
  | []=>trivial
  |x::l=>⟨fun h=>h,z17 l⟩
theorem z43:∀{a b c:List Bool},leB a b->leB b c->leB a c
  | [],[],[],_,_=>trivial
  |x::xs,y::ys,z::zs,h,k=>⟨fun e=>k.1(h.1 e),z43 h.2 k.2⟩
theorem y2s:∀{a b:List Bool},leB a b->a.length=b.length
  | [],[],_=>rfl
  |_::xs,_::ys,h=>by simp[y2s h.2]
theorem y1l:∀{a b c d:List Bool},leB a b->leB c d->leB(a++c)(b++d)
  | [],[],_,_,_,k=>k
  |_::xs,_::ys,_,_,h,k=>⟨h.1,y1l h.2 k⟩
def Q9o(l:List Bool):Nat:=(l.filter fun b=>!b).length
theorem y22:∀{a b:List Bool},leB a b->Q9o b<=Q9o a/\(a≠b->Q9o b<Q9o a)
  | [],[],_=>⟨qR _,fun h=>absurd rfl h⟩
  |x::xs,y::ys,h=>by
    have ih:=y22 h.2;cases x<;>cases y
    · simp only[Q9o,List.filter_cons,Bool.not_false,if_true,List.length_cons,ne_eq,List.cons.injEq,true_and]at *
      exact⟨by omega,fun e=>by have:=ih.2 e;omega⟩
    · simp only[Q9o,List.filter_cons,Bool.not_false,Bool.not_true,Bool.false_eq_true,if_true,if_false,List.length_cons]at *
      exact⟨by omega,fun _=>by omega⟩
    · have:=h.1 rfl;cases this
    simp only[Q9o,List.filter_cons,Bool.not_true,Bool.false_eq_true,if_false,ne_eq,List.cons.injEq,true_and]at *;exact ih
theorem z81:∀{a b:List Bool},a.length=b.length->leB a(orL a b)
  | [],[],_=>trivial
  |x::xs,y::ys,h=>⟨fun e=>by simp[e],z81(by simpa using h)⟩
theorem z4v:∀{a b:List Bool},leB a b->∀i,a.getD i false=true->b.getD i false=true
  | [],[],_,i,h=>by simp at h
  |x::xs,y::ys,h,0,e=>h.1 e
  |x::xs,y::ys,h,i+1,e=>by simpa using z4v h.2 i(by simpa using e)
theorem y8e:∀{a b:List Bool},a.length=b.length->(∀i,a.getD i false=true->b.getD i false=true)->leB a b
  | [],[],_,_=>trivial
  |x::xs,y::ys,h,k=>⟨fun e=>k 0 e,y8e(by simpa using h)(fun i e=>by simpa using k(i+1)(by simpa using e))⟩
theorem z3n:∀{a b:List Bool},a.length=b.length->∀i,(orL a b).getD i false=(a.getD i false||b.getD i false)
  | [],[],_,i=>by simp[orL]
  |x::xs,y::ys,h,0=>rfl
  |x::xs,y::ys,h,i+1=>by simpa [orL]using z3n(a:=xs)(b:=ys)(by simpa using h)i
def Hd.bits(h:Hd):List Bool:=h.nul::h.rch::h.fru::(h.fi++h.fo)
def Hd.le(a b:Hd):Prop:=leB a.bits b.bits
theorem Hd.le_refl(a:Hd):a.le a:=z17 _
theorem Hd.le_trans{a b c:Hd}(h:a.le b)(k:b.le c):a.le c:=z43 h k
theorem x5u{a b:Hd}(ha:a.ok)(hb:b.ok)(h:a.bits=b.bits):a=b:=by
  obtain⟨n,r,f,fi,fo⟩:=a;obtain⟨n',r',f',fi',fo'⟩:=b;simp only[Hd.bits,List.cons.injEq]at h;obtain⟨rfl,rfl,rfl,h⟩:=h;have:=List.append_inj h(by rw[ha.fi,hb.fi]);obtain⟨rfl,rfl⟩:=this;rfl
def Hd.cnt(h:Hd):Nat:=Q9o h.bits
def Q7f:List Hd->Nat
  | []=>0
  |h::l=>h.cnt+Q7f l
theorem y86:∀(hs:List Hd)(k:Nat)(x:Hd)(hk:k<hs.length),Q7f(hs.set k x)+hs[k].cnt=Q7f hs+x.cnt
  |h::l,0,x,_=>by simp only[List.set_cons_zero,Q7f,List.getElem_cons_zero];omega
  |h::l,k+1,x,hk=>by
    have:=y86 l k x(by simpa using hk);simp only[List.set_cons_succ,Q7f,List.getElem_cons_succ];omega
theorem v0f{hs:List Hd}(hok:∀x∈hs,x.ok){n:Int}{x:Hd}(hx:x.ok)(hle:(Q1l hs n).le x) :
    Q7f(Q7o hs n x)<=Q7f hs/\(Q65 hs n x=true->Q7f(Q7o hs n x)<Q7f hs)/\(Q65 hs n x=false->Q7o hs n x=hs):=by
  unfold Q7o Q65 Q1l at *;by_cases h0:0<=n
  · rw[if_pos h0]at hle ⊢
    rw[if_pos h0];by_cases hk:n.toNat<hs.length
    · rw[qE hk]at hle ⊢
      simp only[Option.getD_some]at hle;have hc:=y86 hs n.toNat x hk;have hl:=y22 hle;have h1:(hs[n.toNat]).cnt=Q9o hs[n.toNat].bits:=rfl;have h2:x.cnt=Q9o x.bits:=rfl;refine⟨by omega,?_,?_⟩
      · intro hp
        have j0:hs[n.toNat].bits≠x.bits:=by
          intro e;have:=x5u(hok _(by simp))hx e;have h3:hdEq hs[n.toNat]x=true:=z8c.2 this;simp[h3]at hp
        have:=hl.2 j0;omega
      intro hp;have:hdEq hs[n.toNat]x=true:=by simpa using hp
      rw[← z8c.1 this,List.set_getElem_self]
    rw[qN(by omega),List.set_eq_of_length_le(by omega)];exact⟨qR _,fun h=>(by cases h),fun _=>rfl⟩
  rw[if_neg h0,if_neg h0];exact⟨qR _,fun h=>(by cases h),fun _=>rfl⟩
end Go.Proofs.YtcpceafmlgaodaaGreat
