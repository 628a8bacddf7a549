import Derived.Test.YtcpceafmlgaodaaGreatSm2
namespace Go.Proofs.YtcpceafmlgaodaaGreat
open Go.RowKit
set_option maxRecDepth 100000
set_option maxHeartbeats 16000000
set_option linter.unusedVariables false
set_option linter.unusedSimpArgs false
theorem x4t(w:World)(b:Nat)(R H:Int)(vp vh:Value)(ps:List PV)(hs:List Hd)(h:FA w b R H vp vh ps hs)(hps:ps.length<=1000) :
    Calls Tryz.prog 111#[Q3b b]w fun e w'=>e=.returned(.bool(Q5j(Q0k ps)hs false).2)/\FA w' b R H vp vh ps(Q5j(Q0k ps)hs false).1/\Mod(Q2f vh)w w':=by
  have jy:=hid h;obtain⟨ao,cap,hv⟩:=z0d h.prs.row.own;subst hv;have k2:=h.cell 2;simp at k2;generalize hR:Q5j(Q0k ps)hs false=RES;have HR:=hid hR;clear hR h;go_enter Tryz.func111,Tryz.ntmps111
  go_wp2;go_loopw [3,5,6,7,8,9,10,11,18,25](fun x3 _ _ _ _ _ _ _ x16 _ wr=>∃(i:Nat)(gr:Bool)(hs':List Hd),x3=.bool gr/\x16=.int .i64 i/\i<=ps.length/\FA wr b R H(.slice ao ps.length cap)vh ps hs'/\Q5j(Q0k(ps.drop i))hs' gr=RES/\Mod(Q2f vh)w wr)
      (fun _ _ _ _ _ _ _ _ x _ _=>ps.length+1-(intOf x).toNat)
  case atStart=>exact⟨0,false,hs,rfl,rfl,by omega,jy.out,HR.out,mRf _ w⟩
  obtain⟨i,gr,hs',rfl,rfl,hi,hF,hres,hmod⟩:=hrel;obtain⟨wo,hwo⟩:∃wo,wo=wr:=⟨_,rfl⟩;subst hwo;have k4:=hid(Q2a(B:=ps.length+1)i(by omega));have jk:=hid hmod;have HF:=hid hF;clear hmod;by_cases hlt:i<ps.length
  · have ka:(i:Int)<(ps.length:Int):=by omega
    rw[qC hlt]at hres;obtain⟨gp,cap',hv'⟩:=Q1d.ownsRow_form hF.prs.row.own(by omega);rw[qI]at hv';obtain⟨rfl,_,rfl⟩:=hv';have RG:Hid(wo.rangeAt gp(i*2) [.int .i64 ps[i].pr.head,ps[i].vs]):=hF.prs.row.range i hlt;have kc:=hF.size;have jl:=hid(hF.fresh((mRf _ wo).alloc(.cells#[.int .i64 ps[i].pr.head,ps[i].vs]118(0,0))));have jf:Hid(∀(w1:World)(hs1:List Hd),FA w1 b R H(.slice(some⟨gp,0,none⟩)ps.length cap)vh ps hs1->Q59 w1 b ps[i].vs ps[i].pr.syms):=fun w1 hs1 h=>h.prs.syms ps[i](by simp);unfold Q0k at hres;rw[List.map_cons]at hres;unfold Q5j at hres;generalize ps[i].pr=pr at hres RG jf jl;generalize ps[i].vs=pvs at RG jf jl;obtain⟨ph,psy⟩:=pr;dsimp only at hres RG jf jl;obtain⟨sao,scap,hsv,hsc1,jh,_⟩:=jf.out _ _ hF;subst hsv;unfold maxLen at jh;clear hF;generalize hRR:Q23 ph psy hs' gr=RR at hres;have jw:=hid hRR;have jc:=hid hres;clear hres hRR;go_wp2_with(first
      |(refine wpList_load_mid rfl 118 _ rfl gp(i*2)rfl [.int .i64 ph,.slice sao psy.length scap]_ RG.out Tryz.underlying118 rfl W0g ?_))
    go_loopw [3,6,7,8,9,10,11,25](fun x3 _ _ _ _ _ _ x30 wr=>∃(j:Nat)(gr1:Bool)(hs1:List Hd),x3=.bool gr1/\x30=.int .i64 j/\j<=psy.length/\FA wr b R H(.slice(some⟨gp,0,none⟩)ps.length cap)vh ps hs1/\Q23 ph(psy.drop j)hs1 gr1=RR/\Mod(Q2f vh)w wr/\wr.heap[wo.heap.size]? = some(.cells#[.int .i64 ph,.slice sao psy.length scap]118(0,0)))
      (fun _ _ _ _ _ _ _ x _=>psy.length+1-(intOf x).toNat)
    case atStart=>exact⟨0,gr,hs',rfl,rfl,by omega,jl.out,jw.out,Mod.trans jk.out((mRf _ wo).alloc _),z0a _ _⟩
    obtain⟨j,gr1,hs1,rfl,rfl,hj,hF1,hres1,hmod1,hpb0⟩:=hrel;have jo:=hid hpb0;have k7:=z0j hpb0;clear hpb0;have jj:=hid(Q2a(B:=psy.length+1)j(by omega));have jb:=hid hmod1;have j7:=hid hF1;clear hmod1;by_cases hlj:j<psy.length
    · have k6:(j:Int)<(psy.length:Int):=by omega
      rw[qC hlj]at hres1;obtain⟨ao2,cap2,hv2,hd1,hd2,hcells⟩:=jf.out _ _ hF1;rw[qI]at hv2;obtain⟨rfl,_,rfl⟩:=hv2;obtain⟨gs,os,rfl,hgs,hrs⟩:=hcells j hlj;have RS:Hid(wr.rangeAt gs(os+j*2) [.bool psy[j].isH,.int .i64 psy[j].num]):=hrs;unfold Q23 at hres1;generalize psy[j].isH=sh at hres1 RS;generalize psy[j].num=sn at hres1 RS;have kd:=hF1.size;clear hcells hrs;cases sh
      · rw[if_pos rfl]at hres1
        have j0:=hid hres1;clear hres1 hF1;go_wp2_with(first
          |(refine wpList_load_mid rfl 69 _ rfl gs(os+j*2)rfl [.bool false,.int .i64 sn]_ RS.out Tryz.underlying69 rfl W0c ?_))
        go_roundw
        case rel=>exact⟨j+1,gr1,hs1,rfl,by go_num,by omega,j7.out.fresh((mRf _ wr).alloc _),j0.out,Mod.trans jb.out((mRf _ wr).alloc _),z0b jo.out⟩
        exact jj.out
      rw[if_neg(by simp)]at hres1;have jg:=hid(z0b(o:=.cells#[.bool true,.int .i64 sn]69(0,0))jo.out);have c1:(wr.alloc(.cells#[.bool true,.int .i64 sn]69(0,0))).cell?⟨wo.heap.size,1,none⟩=some(.slice(some⟨gs,os,none⟩)psy.length scap):=by rw[Q0b jg.out 1];rfl
      have k9:wr.cell?⟨wo.heap.size,1,none⟩=some(.slice(some⟨gs,os,none⟩)psy.length scap):=by rw[Q0b jo.out 1];rfl
      have jv:=hid(hF1.fresh((mRf _ wr).alloc(.cells#[.bool true,.int .i64 sn]69(0,0))));have jq:=hid((jf.out _ _ jv.out).drop(j+1)(by omega));have ju:Hid(∀(W:World)(n:Nat),psy.length<=j+1->n=0->Q59 W b(.slice(some⟨gs,os,none⟩)n 0)(psy.drop(j+1))):=fun W n h hn=>Q59.none(by apply List.drop_eq_nil_of_le;omega)hn;have jm:Hid(¬vh.ownBlock=some wo.heap.size):=fun e=>by have:=(HF.out.own.lt _ e).2;omega
      have BA:=hid(fun v hv=>z6k _ b R H _ vh ps hs1 b v(psy.drop(j+1))jv.out(by simp;omega)hv);have jr:=hid(fun w(h:FA w b R H(.slice(some⟨gp,0,none⟩)ps.length cap)vh ps hs1)=>z4s w b R H _ vh ps hs1 ph h);have ji:=hid(fun w(h:FA w b R H(.slice(some⟨gp,0,none⟩)ps.length cap)vh ps hs1)=>z4s w b R H _ vh ps hs1 sn h);have PA:=hid(fun w(x:Hd)(hx:x.ok)(h:FA w b R H(.slice(some⟨gp,0,none⟩)ps.length cap)vh ps hs1)=>y16 w b R H _ vh ps hs1 sn x hx h);have j3:=hid(z1a hF1.ok(psy.drop(j+1))Q0w rfl);have j6:=hid(z0k hF1.ok ph);have j1:=hid(z0k hF1.ok sn);unfold Q5q Q8k at hres1;generalize Q2u hs1(psy.drop(j+1))Q0w=bg at hres1 j3 BA;generalize Q1l hs1 ph=hp at hres1 j6 jr;generalize Q1l hs1 sn=hd at hres1 j1 ji;obtain⟨bg1,bg2⟩:=bg;dsimp only at hres1 j3 BA;clear hF1;rcases(show scap=j+1∨¬scap=j+1 by omega)with hsc|hsc
      · subst hsc
        clear jq;cases bg2
        · simp only[Bool.false_eq_true,if_false]at hres1
          have j4:=hid(z04 j1.out.fo j3.out);have ja:Hid(Hd.ok{hd with fo:=orL hd.fo(bg1)}):=⟨j1.out.fi,j4.out⟩;generalize hpb:Q65 hs1 sn{hd with fo:=orL hd.fo(bg1)}=pb at hres1;have jd:=hid hpb;have j0:=hid hres1;clear hres1 hpb;go_wp2_with(first
            |(go_at_call 121;refine(PA.out _{hd with fo:=orL hd.fo(bg1)}ja.out(j7.out.fresh f5.out)).mono ?_;rintro e w6⟨rfl,hF6,hm6⟩;have p6:=hid(hm6.at p5.out jm.out);rw[jd.out])
            |(refine wpList_load_row rfl 179 _ rfl w4.heap.size rfl _ _ _ _ je.out Tryz.underlying179 rfl(Q1q ja.out)?_)
            |(refine wpList_store_mid rfl 130 _ _ rfl w4.heap.size 12(tkA(orL hd.fo(bg1)))rfl rfl(by rw[z0u j4.out];exact z4p j1.out j9.out(by omega))(Q0t j4.out)(z1e _)?_)
            |(go_at_call 54;have j2:=hf4.size;clear j2;refine(z1b _ hd.fo(bg1)j1.out.fo j3.out).mono ?_;rintro e w5⟨rfl,hf5⟩;have j9:=hid(hf5.at(z0a w4 _)(fun x=>x));have f5:Hid(Q0a wr(w5.setCells w4.heap.size 12(tkA(orL hd.fo(bg1))).toList)):=Mod.setCells(by intro q;omega)_ _ _(Mod.trans(f4.out.alloc _)hf5);have p5:Hid((w5.setCells w4.heap.size 12(tkA(orL hd.fo(bg1))).toList).heap[wo.heap.size]? = some(.cells#[.int .i64 ph,.slice(some⟨gs,os,none⟩)psy.length(j+1)]118(0,0))):=(by unfold Hid;rw[z1m(by omega)];exact hf5.at(z0b p4.out)(fun x=>x));have k5:(w5.setCells w4.heap.size 12(tkA(orL hd.fo(bg1))).toList).cell?⟨wr.heap.size,1,none⟩=some(.int .i64 sn):=(by rw[z0z(by omega),Q0b(hf5.at(z0b s4.out)(fun x=>x))1];rfl);have je:Hid((w5.setCells w4.heap.size 12(tkA(orL hd.fo(bg1))).toList).heap[w4.heap.size]? = some(.cells(hdA{hd with fo:=orL hd.fo(bg1)})179(0,0))):=(by unfold Hid;rw[z0p _ _ _ _ _ _ _ j9.out];rw[← z54 j1.out j4.out];rfl))
            |(refine wpList_load_row rfl 130 _ rfl w1.heap.size rfl _ _ _ _(z0b t4.out)Tryz.underlying130 rfl(Q0t j3.out)?_)
            |(refine wpList_load_mid rfl 130 _ rfl w4.heap.size 12 rfl(bls hd.fo)_(Q4y j1.out(z0a _ _))Tryz.underlying130 rfl(Q5p j1.out.fo)?_)
            |(refine z0e rfl 179 _ _ rfl w4 _(hdA hd)_ rfl rfl rfl(Q1q j1.out)(Q0l rfl(z07 j1.out))(z1x _)?_)
            |(go_at_call 84;refine(ji.out _(j7.out.fresh(f1.out.alloc _))).mono ?_;rintro e w4⟨rfl,hf4⟩;have jp:w1.heap.size<w4.heap.size:=(by have h1:=hf4.size;simp at h1;first|omega|(have:=z0j t3.out;omega));have f4:Hid(Q0a wr w4):=Mod.trans(f1.out.alloc _)hf4;have p4:=hid(hf4.at(z0b p1.out)(fun x=>x));have s4:=hid(hf4.at(z0b s1.out)(fun x=>x));have t4:=hid(hf4.at(z0a w1 _)(fun x=>x)))
            |(refine z0e rfl 130 _ _ rfl w1 _(tkA bg1)_ rfl rfl rfl(Q0t j3.out)(Q0l rfl(z0u j3.out))(z1e _)?_)
            |(go_at_call 53;refine(BA.out _(ju.out _ _(by omega)(by first|rfl|omega))).mono ?_;rintro e w1⟨rfl,hf1⟩;have jt:wr.heap.size<w1.heap.size:=(by have:=hf1.size;simp at this;omega);have f1:Hid(Q0a wr w1):=Mod.trans((mRf _ wr).alloc _)hf1;have p1:=hid(hf1.at jg.out(fun x=>x));have s1:=hid(hf1.at(z0a _ _)(fun x=>x));have k1:(w1.alloc(.cells(tkA bg1)130(0,0))).cell?⟨wo.heap.size,0,none⟩=some(.int .i64 ph):=(by rw[Q0b(z0b p1.out)0];rfl);have js:(w1.alloc(.cells(tkA bg1)130(0,0))).cell?⟨wr.heap.size,1,none⟩=some(.int .i64 sn):=(by rw[Q0b(z0b s1.out)1];rfl))
            |(refine wpList_load_mid rfl 69 _ rfl gs(os+j*2)rfl [.bool true,.int .i64 sn]_ RS.out Tryz.underlying69 rfl W0c ?_))
          all_goals
            rename_i hq;go_roundw
            case rel =>
              first
                | (refine⟨j+1,true,_,rfl,by go_num,by omega,hF6,?_,Mod.trans jb.out(Mod.trans(Mod.mono f5.out(fun _ _ x=>x.elim))hm6),p6.out⟩
                   have:=j0.out;rw[hq,Bool.or_true]at this;exact this)
                | (refine⟨j+1,gr1,_,rfl,by go_num,by omega,hF6,?_,Mod.trans jb.out(Mod.trans(Mod.mono f5.out(fun _ _ x=>x.elim))hm6),p6.out⟩
                   have:=j0.out;rw[hq,Bool.or_false]at this;exact this)
            exact jj.out
        simp only[if_true]at hres1;have j8:=hid(z04 j3.out j6.out.fo);have j4:=hid(z04 j1.out.fo j8.out);have ja:Hid(Hd.ok{hd with fo:=orL hd.fo(orL bg1 hp.fo)}):=⟨j1.out.fi,j4.out⟩;generalize hpb:Q65 hs1 sn{hd with fo:=orL hd.fo(orL bg1 hp.fo)}=pb at hres1;have jd:=hid hpb;have j0:=hid hres1;clear hres1 hpb;go_wp2_with(first
          |(go_at_call 121;refine(PA.out _{hd with fo:=orL hd.fo(orL bg1 hp.fo)}ja.out(j7.out.fresh f5.out)).mono ?_;rintro e w6⟨rfl,hF6,hm6⟩;have p6:=hid(hm6.at p5.out jm.out);rw[jd.out])
          |(refine wpList_load_row rfl 179 _ rfl w4.heap.size rfl _ _ _ _ je.out Tryz.underlying179 rfl(Q1q ja.out)?_)
          |(refine wpList_store_mid rfl 130 _ _ rfl w4.heap.size 12(tkA(orL hd.fo(orL bg1 hp.fo)))rfl rfl(by rw[z0u j4.out];exact z4p j1.out j9.out(by omega))(Q0t j4.out)(z1e _)?_)
          |(go_at_call 54;have j2:=hf4.size;clear j2;refine(z1b _ hd.fo(orL bg1 hp.fo)j1.out.fo j8.out).mono ?_;rintro e w5⟨rfl,hf5⟩;have j9:=hid(hf5.at(z0a w4 _)(fun x=>x));have f5:Hid(Q0a wr(w5.setCells w4.heap.size 12(tkA(orL hd.fo(orL bg1 hp.fo))).toList)):=Mod.setCells(by intro q;omega)_ _ _(Mod.trans(f4.out.alloc _)hf5);have p5:Hid((w5.setCells w4.heap.size 12(tkA(orL hd.fo(orL bg1 hp.fo))).toList).heap[wo.heap.size]? = some(.cells#[.int .i64 ph,.slice(some⟨gs,os,none⟩)psy.length(j+1)]118(0,0))):=(by unfold Hid;rw[z1m(by omega)];exact hf5.at(z0b p4.out)(fun x=>x));have k5:(w5.setCells w4.heap.size 12(tkA(orL hd.fo(orL bg1 hp.fo))).toList).cell?⟨wr.heap.size,1,none⟩=some(.int .i64 sn):=(by rw[z0z(by omega),Q0b(hf5.at(z0b s4.out)(fun x=>x))1];rfl);have je:Hid((w5.setCells w4.heap.size 12(tkA(orL hd.fo(orL bg1 hp.fo))).toList).heap[w4.heap.size]? = some(.cells(hdA{hd with fo:=orL hd.fo(orL bg1 hp.fo)})179(0,0))):=(by unfold Hid;rw[z0p _ _ _ _ _ _ _ j9.out];rw[← z54 j1.out j4.out];rfl))
          |(refine wpList_load_row rfl 130 _ rfl w1.heap.size rfl _ _ _ _(z0b t4.out)Tryz.underlying130 rfl(Q0t j8.out)?_)
          |(refine wpList_load_mid rfl 130 _ rfl w4.heap.size 12 rfl(bls hd.fo)_(Q4y j1.out(z0a _ _))Tryz.underlying130 rfl(Q5p j1.out.fo)?_)
          |(refine z0e rfl 179 _ _ rfl w4 _(hdA hd)_ rfl rfl rfl(Q1q j1.out)(Q0l rfl(z07 j1.out))(z1x _)?_)
          |(go_at_call 84;refine(ji.out _(j7.out.fresh f3.out)).mono ?_;rintro e w4⟨rfl,hf4⟩;have jp:w1.heap.size<w4.heap.size:=(by have h1:=hf4.size;simp at h1;first|omega|(have:=z0j t3.out;omega));have f4:Hid(Q0a wr w4):=Mod.trans f3.out hf4;have p4:=hid(hf4.at p3.out(fun x=>x));have s4:=hid(hf4.at s3.out(fun x=>x));have t4:=hid(hf4.at jn.out(fun x=>x)))
          |(refine wpList_store_row rfl 130 _ _ rfl w1.heap.size _ rfl rfl _ _ t3.out(Q0t j8.out)(Q0l(z0u j3.out)(z0u j8.out))(z1e _)?_)
          |(go_at_call 54;refine(z1b _ bg1 hp.fo j3.out j6.out.fo).mono ?_;rintro e w3⟨rfl,hf3⟩;have t3:=hid(hf3.at(z0b t2.out)(fun x=>x));have f3:Hid(Q0a wr(w3.setRow w1.heap.size(tkA(orL bg1 hp.fo)))):=(Mod.trans(f2.out.alloc _)hf3).setRow(by intro q;omega)_;have p3:=hid(z0r(g:=w1.heap.size)(cs:=tkA(orL bg1 hp.fo))(hf3.at(z0b p2.out)(fun x=>x))(by omega));have s3:=hid(z0r(g:=w1.heap.size)(cs:=tkA(orL bg1 hp.fo))(hf3.at(z0b s2.out)(fun x=>x))(by omega));have jn:=hid(setRow_heap _ _ _(tkA(orL bg1 hp.fo))_ _ t3.out);have k3:(w3.setRow w1.heap.size(tkA(orL bg1 hp.fo))).cell?⟨wr.heap.size,1,none⟩=some(.int .i64 sn):=(by rw[Q0b s3.out 1];rfl))
          |(refine wpList_load_mid rfl 130 _ rfl w2.heap.size 12 rfl(bls hp.fo)_(Q4y j6.out(z0a _ _))Tryz.underlying130 rfl(Q5p j6.out.fo)?_)
          |(refine wpList_load_row rfl 130 _ rfl w1.heap.size rfl _ _ _ _(z0b t2.out)Tryz.underlying130 rfl(Q0t j3.out)?_)
          |(refine z0e rfl 179 _ _ rfl w2 _(hdA hp)_ rfl rfl rfl(Q1q j6.out)(Q0l rfl(z07 j6.out))(z1x _)?_)
          |(go_at_call 84;refine(jr.out _(j7.out.fresh(f1.out.alloc _))).mono ?_;rintro e w2⟨rfl,hf2⟩;have k0:w1.heap.size<w2.heap.size:=(by have:=hf2.size;simp at this;omega);have f2:Hid(Q0a wr w2):=Mod.trans(f1.out.alloc _)hf2;have p2:=hid(hf2.at(z0b p1.out)(fun x=>x));have s2:=hid(hf2.at(z0b s1.out)(fun x=>x));have t2:=hid(hf2.at(z0a w1 _)(fun x=>x)))
          |(refine z0e rfl 130 _ _ rfl w1 _(tkA bg1)_ rfl rfl rfl(Q0t j3.out)(Q0l rfl(z0u j3.out))(z1e _)?_)
          |(go_at_call 53;refine(BA.out _(ju.out _ _(by omega)(by first|rfl|omega))).mono ?_;rintro e w1⟨rfl,hf1⟩;have jt:wr.heap.size<w1.heap.size:=(by have:=hf1.size;simp at this;omega);have f1:Hid(Q0a wr w1):=Mod.trans((mRf _ wr).alloc _)hf1;have p1:=hid(hf1.at jg.out(fun x=>x));have s1:=hid(hf1.at(z0a _ _)(fun x=>x));have k1:(w1.alloc(.cells(tkA bg1)130(0,0))).cell?⟨wo.heap.size,0,none⟩=some(.int .i64 ph):=(by rw[Q0b(z0b p1.out)0];rfl);have js:(w1.alloc(.cells(tkA bg1)130(0,0))).cell?⟨wr.heap.size,1,none⟩=some(.int .i64 sn):=(by rw[Q0b(z0b s1.out)1];rfl))
          |(refine wpList_load_mid rfl 69 _ rfl gs(os+j*2)rfl [.bool true,.int .i64 sn]_ RS.out Tryz.underlying69 rfl W0c ?_))
        all_goals
          rename_i hq;go_roundw
          case rel =>
            first
              | (refine⟨j+1,true,_,rfl,by go_num,by omega,hF6,?_,Mod.trans jb.out(Mod.trans(Mod.mono f5.out(fun _ _ x=>x.elim))hm6),p6.out⟩
                 have:=j0.out;rw[hq,Bool.or_true]at this;exact this)
              | (refine⟨j+1,gr1,_,rfl,by go_num,by omega,hF6,?_,Mod.trans jb.out(Mod.trans(Mod.mono f5.out(fun _ _ x=>x.elim))hm6),p6.out⟩
                 have:=j0.out;rw[hq,Bool.or_false]at this;exact this)
          exact jj.out
      have jh:¬scap-(j+1)=0:=by omega
      cases bg2
      · simp only[Bool.false_eq_true,if_false]at hres1
        have j4:=hid(z04 j1.out.fo j3.out);have ja:Hid(Hd.ok{hd with fo:=orL hd.fo(bg1)}):=⟨j1.out.fi,j4.out⟩;generalize hpb:Q65 hs1 sn{hd with fo:=orL hd.fo(bg1)}=pb at hres1;have jd:=hid hpb;have j0:=hid hres1;clear hres1 hpb;go_wp2_with(first
          |(go_at_call 121;refine(PA.out _{hd with fo:=orL hd.fo(bg1)}ja.out(j7.out.fresh f5.out)).mono ?_;rintro e w6⟨rfl,hF6,hm6⟩;have p6:=hid(hm6.at p5.out jm.out);rw[jd.out])
          |(refine wpList_load_row rfl 179 _ rfl w4.heap.size rfl _ _ _ _ je.out Tryz.underlying179 rfl(Q1q ja.out)?_)
          |(refine wpList_store_mid rfl 130 _ _ rfl w4.heap.size 12(tkA(orL hd.fo(bg1)))rfl rfl(by rw[z0u j4.out];exact z4p j1.out j9.out(by omega))(Q0t j4.out)(z1e _)?_)
          |(go_at_call 54;have j2:=hf4.size;clear j2;refine(z1b _ hd.fo(bg1)j1.out.fo j3.out).mono ?_;rintro e w5⟨rfl,hf5⟩;have j9:=hid(hf5.at(z0a w4 _)(fun x=>x));have f5:Hid(Q0a wr(w5.setCells w4.heap.size 12(tkA(orL hd.fo(bg1))).toList)):=Mod.setCells(by intro q;omega)_ _ _(Mod.trans(f4.out.alloc _)hf5);have p5:Hid((w5.setCells w4.heap.size 12(tkA(orL hd.fo(bg1))).toList).heap[wo.heap.size]? = some(.cells#[.int .i64 ph,.slice(some⟨gs,os,none⟩)psy.length scap]118(0,0))):=(by unfold Hid;rw[z1m(by omega)];exact hf5.at(z0b p4.out)(fun x=>x));have k5:(w5.setCells w4.heap.size 12(tkA(orL hd.fo(bg1))).toList).cell?⟨wr.heap.size,1,none⟩=some(.int .i64 sn):=(by rw[z0z(by omega),Q0b(hf5.at(z0b s4.out)(fun x=>x))1];rfl);have je:Hid((w5.setCells w4.heap.size 12(tkA(orL hd.fo(bg1))).toList).heap[w4.heap.size]? = some(.cells(hdA{hd with fo:=orL hd.fo(bg1)})179(0,0))):=(by unfold Hid;rw[z0p _ _ _ _ _ _ _ j9.out];rw[← z54 j1.out j4.out];rfl))
          |(refine wpList_load_row rfl 130 _ rfl w1.heap.size rfl _ _ _ _(z0b t4.out)Tryz.underlying130 rfl(Q0t j3.out)?_)
          |(refine wpList_load_mid rfl 130 _ rfl w4.heap.size 12 rfl(bls hd.fo)_(Q4y j1.out(z0a _ _))Tryz.underlying130 rfl(Q5p j1.out.fo)?_)
          |(refine z0e rfl 179 _ _ rfl w4 _(hdA hd)_ rfl rfl rfl(Q1q j1.out)(Q0l rfl(z07 j1.out))(z1x _)?_)
          |(go_at_call 84;refine(ji.out _(j7.out.fresh(f1.out.alloc _))).mono ?_;rintro e w4⟨rfl,hf4⟩;have jp:w1.heap.size<w4.heap.size:=(by have h1:=hf4.size;simp at h1;first|omega|(have:=z0j t3.out;omega));have f4:Hid(Q0a wr w4):=Mod.trans(f1.out.alloc _)hf4;have p4:=hid(hf4.at(z0b p1.out)(fun x=>x));have s4:=hid(hf4.at(z0b s1.out)(fun x=>x));have t4:=hid(hf4.at(z0a w1 _)(fun x=>x)))
          |(refine z0e rfl 130 _ _ rfl w1 _(tkA bg1)_ rfl rfl rfl(Q0t j3.out)(Q0l rfl(z0u j3.out))(z1e _)?_)
          |(go_at_call 53;refine(BA.out _ jq.out).mono ?_;rintro e w1⟨rfl,hf1⟩;have jt:wr.heap.size<w1.heap.size:=(by have:=hf1.size;simp at this;omega);have f1:Hid(Q0a wr w1):=Mod.trans((mRf _ wr).alloc _)hf1;have p1:=hid(hf1.at jg.out(fun x=>x));have s1:=hid(hf1.at(z0a _ _)(fun x=>x));have k1:(w1.alloc(.cells(tkA bg1)130(0,0))).cell?⟨wo.heap.size,0,none⟩=some(.int .i64 ph):=(by rw[Q0b(z0b p1.out)0];rfl);have js:(w1.alloc(.cells(tkA bg1)130(0,0))).cell?⟨wr.heap.size,1,none⟩=some(.int .i64 sn):=(by rw[Q0b(z0b s1.out)1];rfl))
          |(refine wpList_load_mid rfl 69 _ rfl gs(os+j*2)rfl [.bool true,.int .i64 sn]_ RS.out Tryz.underlying69 rfl W0c ?_))
        all_goals
          rename_i hq;go_roundw
          case rel =>
            first
              | (refine⟨j+1,true,_,rfl,by go_num,by omega,hF6,?_,Mod.trans jb.out(Mod.trans(Mod.mono f5.out(fun _ _ x=>x.elim))hm6),p6.out⟩
                 have:=j0.out;rw[hq,Bool.or_true]at this;exact this)
              | (refine⟨j+1,gr1,_,rfl,by go_num,by omega,hF6,?_,Mod.trans jb.out(Mod.trans(Mod.mono f5.out(fun _ _ x=>x.elim))hm6),p6.out⟩
                 have:=j0.out;rw[hq,Bool.or_false]at this;exact this)
          exact jj.out
      simp only[if_true]at hres1;have j8:=hid(z04 j3.out j6.out.fo);have j4:=hid(z04 j1.out.fo j8.out);have ja:Hid(Hd.ok{hd with fo:=orL hd.fo(orL bg1 hp.fo)}):=⟨j1.out.fi,j4.out⟩;generalize hpb:Q65 hs1 sn{hd with fo:=orL hd.fo(orL bg1 hp.fo)}=pb at hres1;have jd:=hid hpb;have j0:=hid hres1;clear hres1 hpb;go_wp2_with(first
        |(go_at_call 121;refine(PA.out _{hd with fo:=orL hd.fo(orL bg1 hp.fo)}ja.out(j7.out.fresh f5.out)).mono ?_;rintro e w6⟨rfl,hF6,hm6⟩;have p6:=hid(hm6.at p5.out jm.out);rw[jd.out])
        |(refine wpList_load_row rfl 179 _ rfl w4.heap.size rfl _ _ _ _ je.out Tryz.underlying179 rfl(Q1q ja.out)?_)
        |(refine wpList_store_mid rfl 130 _ _ rfl w4.heap.size 12(tkA(orL hd.fo(orL bg1 hp.fo)))rfl rfl(by rw[z0u j4.out];exact z4p j1.out j9.out(by omega))(Q0t j4.out)(z1e _)?_)
        |(go_at_call 54;have j2:=hf4.size;clear j2;refine(z1b _ hd.fo(orL bg1 hp.fo)j1.out.fo j8.out).mono ?_;rintro e w5⟨rfl,hf5⟩;have j9:=hid(hf5.at(z0a w4 _)(fun x=>x));have f5:Hid(Q0a wr(w5.setCells w4.heap.size 12(tkA(orL hd.fo(orL bg1 hp.fo))).toList)):=Mod.setCells(by intro q;omega)_ _ _(Mod.trans(f4.out.alloc _)hf5);have p5:Hid((w5.setCells w4.heap.size 12(tkA(orL hd.fo(orL bg1 hp.fo))).toList).heap[wo.heap.size]? = some(.cells#[.int .i64 ph,.slice(some⟨gs,os,none⟩)psy.length scap]118(0,0))):=(by unfold Hid;rw[z1m(by omega)];exact hf5.at(z0b p4.out)(fun x=>x));have k5:(w5.setCells w4.heap.size 12(tkA(orL hd.fo(orL bg1 hp.fo))).toList).cell?⟨wr.heap.size,1,none⟩=some(.int .i64 sn):=(by rw[z0z(by omega),Q0b(hf5.at(z0b s4.out)(fun x=>x))1];rfl);have je:Hid((w5.setCells w4.heap.size 12(tkA(orL hd.fo(orL bg1 hp.fo))).toList).heap[w4.heap.size]? = some(.cells(hdA{hd with fo:=orL hd.fo(orL bg1 hp.fo)})179(0,0))):=(by unfold Hid;rw[z0p _ _ _ _ _ _ _ j9.out];rw[← z54 j1.out j4.out];rfl))
        |(refine wpList_load_row rfl 130 _ rfl w1.heap.size rfl _ _ _ _(z0b t4.out)Tryz.underlying130 rfl(Q0t j8.out)?_)
        |(refine wpList_load_mid rfl 130 _ rfl w4.heap.size 12 rfl(bls hd.fo)_(Q4y j1.out(z0a _ _))Tryz.underlying130 rfl(Q5p j1.out.fo)?_)
        |(refine z0e rfl 179 _ _ rfl w4 _(hdA hd)_ rfl rfl rfl(Q1q j1.out)(Q0l rfl(z07 j1.out))(z1x _)?_)
        |(go_at_call 84;refine(ji.out _(j7.out.fresh f3.out)).mono ?_;rintro e w4⟨rfl,hf4⟩;have jp:w1.heap.size<w4.heap.size:=(by have h1:=hf4.size;simp at h1;first|omega|(have:=z0j t3.out;omega));have f4:Hid(Q0a wr w4):=Mod.trans f3.out hf4;have p4:=hid(hf4.at p3.out(fun x=>x));have s4:=hid(hf4.at s3.out(fun x=>x));have t4:=hid(hf4.at jn.out(fun x=>x)))
        |(refine wpList_store_row rfl 130 _ _ rfl w1.heap.size _ rfl rfl _ _ t3.out(Q0t j8.out)(Q0l(z0u j3.out)(z0u j8.out))(z1e _)?_)
        |(go_at_call 54;refine(z1b _ bg1 hp.fo j3.out j6.out.fo).mono ?_;rintro e w3⟨rfl,hf3⟩;have t3:=hid(hf3.at(z0b t2.out)(fun x=>x));have f3:Hid(Q0a wr(w3.setRow w1.heap.size(tkA(orL bg1 hp.fo)))):=(Mod.trans(f2.out.alloc _)hf3).setRow(by intro q;omega)_;have p3:=hid(z0r(g:=w1.heap.size)(cs:=tkA(orL bg1 hp.fo))(hf3.at(z0b p2.out)(fun x=>x))(by omega));have s3:=hid(z0r(g:=w1.heap.size)(cs:=tkA(orL bg1 hp.fo))(hf3.at(z0b s2.out)(fun x=>x))(by omega));have jn:=hid(setRow_heap _ _ _(tkA(orL bg1 hp.fo))_ _ t3.out);have k3:(w3.setRow w1.heap.size(tkA(orL bg1 hp.fo))).cell?⟨wr.heap.size,1,none⟩=some(.int .i64 sn):=(by rw[Q0b s3.out 1];rfl))
        |(refine wpList_load_mid rfl 130 _ rfl w2.heap.size 12 rfl(bls hp.fo)_(Q4y j6.out(z0a _ _))Tryz.underlying130 rfl(Q5p j6.out.fo)?_)
        |(refine wpList_load_row rfl 130 _ rfl w1.heap.size rfl _ _ _ _(z0b t2.out)Tryz.underlying130 rfl(Q0t j3.out)?_)
        |(refine z0e rfl 179 _ _ rfl w2 _(hdA hp)_ rfl rfl rfl(Q1q j6.out)(Q0l rfl(z07 j6.out))(z1x _)?_)
        |(go_at_call 84;refine(jr.out _(j7.out.fresh(f1.out.alloc _))).mono ?_;rintro e w2⟨rfl,hf2⟩;have k0:w1.heap.size<w2.heap.size:=(by have:=hf2.size;simp at this;omega);have f2:Hid(Q0a wr w2):=Mod.trans(f1.out.alloc _)hf2;have p2:=hid(hf2.at(z0b p1.out)(fun x=>x));have s2:=hid(hf2.at(z0b s1.out)(fun x=>x));have t2:=hid(hf2.at(z0a w1 _)(fun x=>x)))
        |(refine z0e rfl 130 _ _ rfl w1 _(tkA bg1)_ rfl rfl rfl(Q0t j3.out)(Q0l rfl(z0u j3.out))(z1e _)?_)
        |(go_at_call 53;refine(BA.out _ jq.out).mono ?_;rintro e w1⟨rfl,hf1⟩;have jt:wr.heap.size<w1.heap.size:=(by have:=hf1.size;simp at this;omega);have f1:Hid(Q0a wr w1):=Mod.trans((mRf _ wr).alloc _)hf1;have p1:=hid(hf1.at jg.out(fun x=>x));have s1:=hid(hf1.at(z0a _ _)(fun x=>x));have k1:(w1.alloc(.cells(tkA bg1)130(0,0))).cell?⟨wo.heap.size,0,none⟩=some(.int .i64 ph):=(by rw[Q0b(z0b p1.out)0];rfl);have js:(w1.alloc(.cells(tkA bg1)130(0,0))).cell?⟨wr.heap.size,1,none⟩=some(.int .i64 sn):=(by rw[Q0b(z0b s1.out)1];rfl))
        |(refine wpList_load_mid rfl 69 _ rfl gs(os+j*2)rfl [.bool true,.int .i64 sn]_ RS.out Tryz.underlying69 rfl W0c ?_))
      all_goals
        rename_i hq;go_roundw
        case rel =>
          first
            | (refine⟨j+1,true,_,rfl,by go_num,by omega,hF6,?_,Mod.trans jb.out(Mod.trans(Mod.mono f5.out(fun _ _ x=>x.elim))hm6),p6.out⟩
               have:=j0.out;rw[hq,Bool.or_true]at this;exact this)
            | (refine⟨j+1,gr1,_,rfl,by go_num,by omega,hF6,?_,Mod.trans jb.out(Mod.trans(Mod.mono f5.out(fun _ _ x=>x.elim))hm6),p6.out⟩
               have:=j0.out;rw[hq,Bool.or_false]at this;exact this)
        exact jj.out
    have jz:j=psy.length:=by omega
    rw[jz,List.drop_length]at hres1;have j5:(hs1,gr1)=RR:=hres1;have j0:=hid j5;have kb:¬(j:Int)<(psy.length:Int):=by omega
    clear hres1 j5 hF1;go_wp2;go_roundw
    case rel =>
      refine⟨i+1,gr1,hs1,rfl,by go_num,by omega,j7.out,?_,jb.out⟩;have:=jc.out;rw[← j0.out]at this;exact this
    exact k4.out
  have jx:i=ps.length:=by omega
  rw[jx,List.drop_length]at hres;have j5:(hs',gr)=RES:=hres;have jc:=hid j5;have k8:¬(i:Int)<(ps.length:Int):=by omega
  clear hres hF;go_wp2;go_ret;exact⟨z0s(by rw[← jc.out]),by rw[← jc.out];exact HF.out,jk.out⟩
theorem y7k(w:World)(b:Nat)(R H:Int)(vp vh:Value)(ps:List PV)(hs:List Hd)(h:FA w b R H vp vh ps hs)(hps:ps.length<=1000) :
    Calls Tryz.prog 83#[Q3b b]w fun e w'=>e=.returned(.tuple#[])/\FA w' b R H vp vh ps(Q34(Q0k ps)hs)/\Mod(Q2f vh)w w':=by
  have jl:=hid h;generalize hR1:Q44(Q8f(Q0k ps))hs=R1;have jm:Hid(Q3u(Q8f(Q0k ps))R1 true hs):=by unfold Hid;rw[← hR1];exact Q3u.start _ _
  generalize hR2:Q44(Q5n(Q0k ps))R1=R2;have jo:Hid(Q3u(Q5n(Q0k ps))R2 true R1):=by unfold Hid;rw[← hR2];exact Q3u.start _ _
  generalize hR3:Q44(Q6z(Q0k ps))R2=R3;have jn:Hid(Q3u(Q6z(Q0k ps))R3 true R2):=by unfold Hid;rw[← hR3];exact Q3u.start _ _
  generalize hR4:Q44(Q72(Q0k ps))R3=R4;have jk:Hid(Q3u(Q72(Q0k ps))R4 true R3):=by unfold Hid;rw[← hR4];exact Q3u.start _ _
  have ji:Hid(Q34(Q0k ps)hs=R4):=by unfold Hid Q34;rw[hR1,hR2,hR3,hR4]
  clear hR1 hR2 hR3 hR4 h;have GB:=hid(fun w hs(h:FA w b R H vp vh ps hs)=>x3t w b R H vp vh ps hs h hps);have GS:=hid(fun w hs(h:FA w b R H vp vh ps hs)=>x4t w b R H vp vh ps hs h hps);have GR:=hid(fun w hs(h:FA w b R H vp vh ps hs)=>x3j w b R H vp vh ps hs h hps);have GU:=hid(fun w hs(h:FA w b R H vp vh ps hs)=>x31 w b R H vp vh ps hs h hps);go_enter Tryz.func83,Tryz.ntmps83
  go_wp2;go_loopw [2](fun x2 wr=>∃(g:Bool)(hs':List Hd),x2=.bool g/\FA wr b R H vp vh ps hs'/\hs'.length=hs.length/\Q3u(Q8f(Q0k ps))R1 g hs'/\Mod(Q2f vh)w wr)
      (fun x wr=>2*muW vh hs.length wr+Q8g x)
  case atStart=>exact⟨true,hs,rfl,jl.out,rfl,jm.out,mRf _ w⟩
  obtain⟨g,hs',rfl,hF,hlen,hloop,hmod⟩:=hrel;have HF:=hid hF;have jj:=hid hloop;have jg:=hid hmod;have j4:=hid hlen;clear hF hloop hmod hlen;cases g
  · have e1:hs'=R1:=jj.out
    subst e1;obtain⟨wo,hwo⟩:∃wo,wo=wr:=⟨_,rfl⟩;subst hwo;go_wp2;go_loopw [2](fun x2 wr=>∃(g:Bool)(hs2:List Hd),x2=.bool g/\FA wr b R H vp vh ps hs2/\hs2.length=hs.length/\Q3u(Q5n(Q0k ps))R2 g hs2/\Mod(Q2f vh)w wr)
        (fun x wr=>2*muW vh hs.length wr+Q8g x)
    case atStart=>exact⟨true,hs',rfl,HF.out,j4.out,jo.out,jg.out⟩
    obtain⟨g,hs2,rfl,hF,hlen,hloop,hmod⟩:=hrel;have jc:=hid hF;have je:=hid hloop;have j6:=hid hmod;have j1:=hid hlen;clear hF hloop hmod hlen;cases g
    · have e1:hs2=R2:=je.out
      subst e1;obtain⟨wo2,hwo⟩:∃wo,wo=wr:=⟨_,rfl⟩;subst hwo;go_wp2;go_loopw [2](fun x2 wr=>∃(g:Bool)(hs3:List Hd),x2=.bool g/\FA wr b R H vp vh ps hs3/\hs3.length=hs.length/\Q3u(Q6z(Q0k ps))R3 g hs3/\Mod(Q2f vh)w wr)
          (fun x wr=>2*muW vh hs.length wr+Q8g x)
      case atStart=>exact⟨true,hs2,rfl,jc.out,j1.out,jn.out,j6.out⟩
      obtain⟨g,hs3,rfl,hF,hlen,hloop,hmod⟩:=hrel;have jb:=hid hF;have jh:=hid hloop;have j5:=hid hmod;have j0:=hid hlen;clear hF hloop hmod hlen;cases g
      · have e1:hs3=R3:=jh.out
        subst e1;obtain⟨wo3,hwo⟩:∃wo,wo=wr:=⟨_,rfl⟩;subst hwo;go_wp2;go_loopw [2](fun x2 wr=>∃(g:Bool)(hs4:List Hd),x2=.bool g/\FA wr b R H vp vh ps hs4/\hs4.length=hs.length/\Q3u(Q72(Q0k ps))R4 g hs4/\Mod(Q2f vh)w wr)
            (fun x wr=>2*muW vh hs.length wr+Q8g x)
        case atStart=>exact⟨true,hs3,rfl,jb.out,j0.out,jk.out,j5.out⟩
        obtain⟨g,hs4,rfl,hF,hlen,hloop,hmod⟩:=hrel;have jd:=hid hF;have jf:=hid hloop;have j7:=hid hmod;have j2:=hid hlen;clear hF hloop hmod hlen;cases g
        · have e1:hs4=R4:=jf.out
          subst e1;go_wp2;refine bodyPost_end(results_none rfl _ _ _)rfl⟨rfl,?_,j7.out⟩;rw[ji.out];exact jd.out
        go_wp2_with(first
          |(go_at_call 113;refine(GU.out _ hs4 jd.out).mono ?_;rintro e w1⟨rfl,hF1,hm1⟩))
        have j3:=z2a(Q0k ps)hs4 jd.out.ok;have j8:=jd.out.mu' j2.out;have j9:=hF1.mu'(j3.len.trans j2.out);have ja:=Q3u.less(z2a(Q0k ps))jd.out.ok;go_roundw
        case rel=>exact⟨_,_,rfl,hF1,j3.len.trans j2.out,Q3u.next(z2a _)jd.out.ok jf.out,Mod.trans j7.out hm1⟩
        rw[j8,j9];exact ja
      go_wp2_with(first
        |(go_at_call 112;refine(GR.out _ hs3 jb.out).mono ?_;rintro e w1⟨rfl,hF1,hm1⟩))
      have j3:=z2c(Q0k ps)hs3 jb.out.ok;have j8:=jb.out.mu' j0.out;have j9:=hF1.mu'(j3.len.trans j0.out);have ja:=Q3u.less(z2c(Q0k ps))jb.out.ok;go_roundw
      case rel=>exact⟨_,_,rfl,hF1,j3.len.trans j0.out,Q3u.next(z2c _)jb.out.ok jh.out,Mod.trans j5.out hm1⟩
      rw[j8,j9];exact ja
    go_wp2_with(first
      |(go_at_call 111;refine(GS.out _ hs2 jc.out).mono ?_;rintro e w1⟨rfl,hF1,hm1⟩))
    have j3:=z2b(Q0k ps)hs2 jc.out.ok;have j8:=jc.out.mu' j1.out;have j9:=hF1.mu'(j3.len.trans j1.out);have ja:=Q3u.less(z2b(Q0k ps))jc.out.ok;go_roundw
    case rel=>exact⟨_,_,rfl,hF1,j3.len.trans j1.out,Q3u.next(z2b _)jc.out.ok je.out,Mod.trans j6.out hm1⟩
    rw[j8,j9];exact ja
  go_wp2_with(first
    |(go_at_call 110;refine(GB.out _ hs' HF.out).mono ?_;rintro e w1⟨rfl,hF1,hm1⟩))
  have j3:=z2u(Q0k ps)hs' HF.out.ok;have j8:=HF.out.mu' j4.out;have j9:=hF1.mu'(j3.len.trans j4.out);have ja:=Q3u.less(z2u(Q0k ps))HF.out.ok;go_roundw
  case rel=>exact⟨_,_,rfl,hF1,j3.len.trans j4.out,Q3u.next(z2u _)HF.out.ok jj.out,Mod.trans jg.out hm1⟩
  rw[j8,j9];exact ja
end Go.Proofs.YtcpceafmlgaodaaGreat
