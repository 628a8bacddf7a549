import Derived.Test.YtbdpfmalabgmbaaGreatSe8
namespace Go.Proofs.YtbdpfmalabgmbaaGreat
open Go.RowKit
set_option maxRecDepth 99999
set_option maxHeartbeats 0
set_option linter.all false
theorem x23(w:World)(b:Nat)(R H:Int)(vp vh:Value)(ps:List PV)(hs:List Hd)(h:FA w b R H vp vh ps hs)(hps:ps.length<=1000) :
    Calls Tryz.prog 121 #[Q3c b] w fun e w'=>e=.returned (.bool (Q5l (Q0k ps) hs false).2)/\FA w' b R H vp vh ps (Q5l (Q0k ps) hs false).1/\Mod (Q2c vh) w w':=by
  have kr:=hid h;obtain⟨ao,cap,hv⟩:=z0c h.prs.row.own;subst hv;have k2:=h.cell 2;simp at k2;generalize hR:Q5l (Q0k ps) hs false=RES;have HR:=hid hR;clear hR h;go_enter Tryz.func121,Tryz.ntmps121
  go_wp2;go_loopw [3,5,6,7,8,9,10,11,18,25] (fun x3 _ _ _ _ _ _ _ x16 _ wr=>∃(i:Nat) (gr:Bool) (jy:List Hd),x3=.bool gr/\x16=.int .i64 i/\i<=ps.length/\FA wr b R H (.slice ao ps.length cap) vh ps jy/\Q5l (Q0k (ps.drop i)) jy gr=RES/\Mod (Q2c vh) w wr)
      (fun _ _ _ _ _ _ _ _ x _ _=>ps.length+1-(intOf x).toNat)
  case atStart=>exact⟨0,false,hs,rfl,rfl,by omega,kr.out,HR.out,mRf _ w⟩
  obtain⟨i,gr,jy,rfl,rfl,hi,hF,j7,k7⟩:=hrel;obtain⟨wo,x0⟩:∃wo,wo=wr:=⟨_,rfl⟩;subst x0;have ks:=hid (Q19 (B:=ps.length+1) i (by omega));have k4:=hid k7;have HF:=hid hF;clear k7;by_cases km:i<ps.length
  · have xa:(i:Int)<(ps.length:Int):=by omega
    rw[qC km]at j7;obtain⟨gp,ku,ko⟩:=Joins.ownsRow_form hF.prs.row.own (by omega);rw[qI]at ko;obtain⟨rfl,_,rfl⟩:=ko;have RG:Hid (wo.rangeAt gp (i*2) [.int .i64 ps[i].pr.head,ps[i].vs]):=hF.prs.row.range i km;have x6:=hF.size;have k9:=hid (hF.fresh ((mRf _ wo).alloc (.cells #[.int .i64 ps[i].pr.head,ps[i].vs] 85 (0,0))));have jx:Hid (∀(w1:World) (j9:List Hd),FA w1 b R H (.slice (some ⟨gp,0,none⟩) ps.length cap) vh ps j9->Q58 w1 b ps[i].vs ps[i].pr.syms):=fun w1 j9 h=>h.prs.syms ps[i] (by simp);unfold Q0k at j7;rw[qDl]at j7;unfold Q5l at j7;generalize ps[i].pr=pr at j7 RG jx k9;generalize ps[i].vs=pvs at RG jx k9;obtain⟨ph,j6⟩:=pr;dsimp only at j7 RG jx k9;obtain⟨kq,jd,kz,ky,k8,_⟩:=jx.out _ _ hF;subst kz;unfold maxLen at k8;clear hF;generalize hRR:Q2z ph j6 jy gr=RR at j7;have kt:=hid hRR;have jr:=hid j7;clear j7 hRR;go_wp2_with (first
      |(refine qAe rfl 85 _ rfl gp (i*2) rfl [.int .i64 ph,.slice kq j6.length jd] _ RG.out qCz rfl W0n ?_))
    go_loopw [3,6,7,8,9,10,11,25] (fun x3 _ _ _ _ _ _ x30 wr=>∃(j:Nat) (jp:Bool) (j9:List Hd),x3=.bool jp/\x30=.int .i64 j/\j<=j6.length/\FA wr b R H (.slice (some ⟨gp,0,none⟩) ps.length cap) vh ps j9/\Q2z ph (j6.drop j) j9 jp=RR/\Mod (Q2c vh) w wr/\wr.heap[wo.heap.size]? = some (.cells #[.int .i64 ph,.slice kq j6.length jd] 85 (0,0)))
      (fun _ _ _ _ _ _ _ x _=>j6.length+1-(intOf x).toNat)
    case atStart=>exact⟨0,gr,jy,rfl,rfl,by omega,k9.out,kt.out,Mod.trans k4.out ((mRf _ wo).alloc _),z0a _ _⟩
    obtain⟨j,jp,j9,rfl,rfl,hj,jq,j0,jt,jw⟩:=hrel;have kc:=hid jw;have xe:=z0j jw;clear jw;have k0:=hid (Q19 (B:=j6.length+1) j (by omega));have jo:=hid jt;have jh:=hid jq;clear jt;by_cases kl:j<j6.length
    · have xc:(j:Int)<(j6.length:Int):=by omega
      rw[qC kl]at j0;obtain⟨x2,kv,kp,x7,x8,jm⟩:=jx.out _ _ jq;rw[qI]at kp;obtain⟨rfl,_,rfl⟩:=kp;obtain⟨gs,os,rfl,x9,kn⟩:=jm j kl;have RS:Hid (wr.rangeAt gs (os+j*2) [.bool j6[j].isH,.int .i64 j6[j].num]):=kn;unfold Q2z at j0;generalize j6[j].isH=sh at j0 RS;generalize j6[j].num=sn at j0 RS;have x5:=jq.size;clear jm kn;cases sh
      · rw[qAb rfl]at j0
        have j2:=hid j0;clear j0 jq;go_wp2_with (first
          |(refine qAe rfl 93 _ rfl gs (os+j*2) rfl [.bool false,.int .i64 sn] _ RS.out qCf rfl W0i ?_))
        go_roundw
        case rel=>exact⟨j+1,jp,j9,rfl,by go_num,by omega,jh.fresh ((mRf _ wr).alloc _),j2.out,Mod.trans jo.out ((mRf _ wr).alloc _),z0b kc.out⟩
        exact k0.out
      rw[qAa (by simp)]at j0;have k6:=hid (z0b (o:=.cells #[.bool true,.int .i64 sn] 93 (0,0)) kc.out);have c1:(wr.alloc (.cells #[.bool true,.int .i64 sn] 93 (0,0))).cell? ⟨wo.heap.size,1,none⟩=some (.slice (some ⟨gs,os,none⟩) j6.length jd):=by rw[Q0b k6.out 1];rfl
      have x4:wr.cell? ⟨wo.heap.size,1,none⟩=some (.slice (some ⟨gs,os,none⟩) j6.length jd):=by rw[Q0b kc.out 1];rfl
      have ki:=hid (jq.fresh ((mRf _ wr).alloc (.cells #[.bool true,.int .i64 sn] 93 (0,0))));have kd:=hid ((jx.out _ _ ki.out).drop (j+1) (by omega));have kj:Hid (∀(W:World) (n:Nat),j6.length<=j+1->n=0->Q58 W b (.slice (some ⟨gs,os,none⟩) n 0) (j6.drop (j+1))):=fun W n h hn=>Q58.none (by apply qAp;omega) hn;have ka:Hid (¬vh.ownBlock=some wo.heap.size):=fun e=>by have:=(HF.own.lt _ e).2;omega
      have BA:=hid (fun v hv=>z6a _ b R H _ vh ps j9 b v (j6.drop (j+1)) ki.out (by simp;omega) hv);have kb:=hid (fun w (h:FA w b R H (.slice (some ⟨gp,0,none⟩) ps.length cap) vh ps j9)=>z4l w b R H _ vh ps j9 ph h);have jz:=hid (fun w (h:FA w b R H (.slice (some ⟨gp,0,none⟩) ps.length cap) vh ps j9)=>z4l w b R H _ vh ps j9 sn h);have PA:=hid (fun w (x:Hd) (hx:x.ok) (h:FA w b R H (.slice (some ⟨gp,0,none⟩) ps.length cap) vh ps j9)=>y2x w b R H _ vh ps j9 sn x hx h);have j8:=hid (z1a jq.ok (j6.drop (j+1)) zero9 rfl);have jg:=hid (z0k jq.ok ph);have j3:=hid (z0k jq.ok sn);unfold Q5t Q8n at j0;generalize Q2q j9 (j6.drop (j+1)) zero9=bg at j0 j8 BA;generalize Q1k j9 ph=hp at j0 jg kb;generalize Q1k j9 sn=hd at j0 j3 jz;obtain⟨j1,kk⟩:=bg;dsimp only at j0 j8 BA;clear jq;rcases(show jd=j+1∨¬jd=j+1 by omega)with hsc|hsc
      · subst hsc
        clear kd;cases kk
        · simp only[qF,qAz]at j0
          have ja:=hid (z04 j3.fo j8.out);have ji:Hid (Hd.ok {hd with fo:=orL hd.fo (j1)}):=⟨j3.fi,ja.out⟩;generalize hpb:Q67 j9 sn {hd with fo:=orL hd.fo (j1)}=pb at j0;have ju:=hid hpb;have j2:=hid j0;clear j0 hpb;go_wp2_with (first
            |(go_at_call 129;refine(PA.out _ {hd with fo:=orL hd.fo (j1)} ji.out (jh.fresh f5.out)).mono ?_;rintro e w6⟨rfl,jk,je⟩;have p6:=hid (je.at p5.out ka.out);rw[ju.out])
            |(refine qAf rfl 200 _ rfl w4.heap.size rfl _ _ _ _ jv.out qCp rfl (Q1q ji.out) ?_)
            |(refine qEv rfl 147 _ _ rfl w4.heap.size 12 (tkA (orL hd.fo (j1))) rfl rfl (by rw[z0u ja.out];exact z4n j3.out jl.out (by omega)) (Q0t ja.out) (z1h _) ?_)
            |(go_at_call 65;have j4:=j5.size;clear j4;refine(z1c _ hd.fo (j1) j3.fo j8.out).mono ?_;rintro e w5⟨rfl,jc⟩;have jl:=hid (jc.at (z0a w4 _) id);have f5:Hid (Q0a wr (w5.setCells w4.heap.size 12 (tkA (orL hd.fo (j1))).toList)):=Mod.setCells (by intro q;omega) _ _ _ (Mod.trans (f4.alloc _) jc);have p5:Hid ((w5.setCells w4.heap.size 12 (tkA (orL hd.fo (j1))).toList).heap[wo.heap.size]? = some (.cells #[.int .i64 ph,.slice (some ⟨gs,os,none⟩) j6.length (j+1)] 85 (0,0))):=(by unfold Hid;rw[z1p (by omega)];exact jc.at (z0b p4.out) id);have k5:(w5.setCells w4.heap.size 12 (tkA (orL hd.fo (j1))).toList).cell? ⟨wr.heap.size,1,none⟩=some (.int .i64 sn):=(by rw[z00 (by omega),Q0b (jc.at (z0b s4.out) id) 1];rfl);have jv:Hid ((w5.setCells w4.heap.size 12 (tkA (orL hd.fo (j1))).toList).heap[w4.heap.size]? = some (.cells (hdA {hd with fo:=orL hd.fo (j1)}) 200 (0,0))):=(by unfold Hid;rw[z0q _ _ _ _ _ _ _ jl.out];rw[← z6i j3.out ja.out];rfl))
            |(refine qAf rfl 147 _ rfl w1.heap.size rfl _ _ _ _ (z0b t4.out) qAk rfl (Q0t j8.out) ?_)
            |(refine qAe rfl 147 _ rfl w4.heap.size 12 rfl (bls hd.fo) _ (Q4u j3.out (z0a _ _)) qAk rfl (Q5u j3.fo) ?_)
            |(refine z0e rfl 200 _ _ rfl w4 _ (hdA hd) _ rfl rfl rfl (Q1q j3.out) (Q0l rfl (z07 j3.out)) (z1w _) ?_)
            |(go_at_call 101;refine(jz.out _ (jh.fresh (f1.alloc _))).mono ?_;rintro e w4⟨rfl,j5⟩;have kf:w1.heap.size<w4.heap.size:=(by have h1:=j5.size;simp at h1;first|omega|(have:=z0j t3.out;omega));have f4:Hid (Q0a wr w4):=Mod.trans (f1.alloc _) j5;have p4:=hid (j5.at (z0b p1.out) id);have s4:=hid (j5.at (z0b s1.out) id);have t4:=hid (j5.at (z0a w1 _) id))
            |(refine z0e rfl 147 _ _ rfl w1 _ (tkA j1) _ rfl rfl rfl (Q0t j8.out) (Q0l rfl (z0u j8.out)) (z1h _) ?_)
            |(go_at_call 64;refine(BA.out _ (kj.out _ _ (by omega) (by first|rfl|omega))).mono ?_;rintro e w1⟨rfl,jb⟩;have ke:wr.heap.size<w1.heap.size:=(by have:=jb.size;simp at this;omega);have f1:Hid (Q0a wr w1):=Mod.trans ((mRf _ wr).alloc _) jb;have p1:=hid (jb.at k6.out id);have s1:=hid (jb.at (z0a _ _) id);have k1:(w1.alloc (.cells (tkA j1) 147 (0,0))).cell? ⟨wo.heap.size,0,none⟩=some (.int .i64 ph):=(by rw[Q0b (z0b p1.out) 0];rfl);have kg:(w1.alloc (.cells (tkA j1) 147 (0,0))).cell? ⟨wr.heap.size,1,none⟩=some (.int .i64 sn):=(by rw[Q0b (z0b s1.out) 1];rfl))
            |(refine qAe rfl 93 _ rfl gs (os+j*2) rfl [.bool true,.int .i64 sn] _ RS.out qCf rfl W0i ?_))
          all_goals
            rename_i hq;go_roundw
            case rel =>
              first
                | (refine⟨j+1,true,_,rfl,by go_num,by omega,jk,?_,Mod.trans jo.out (Mod.trans (Mod.mono f5.out (fun _ _ x=>x.elim)) je),p6.out⟩
                   have:=j2.out;rw[hq,qEl]at this;exact this)
                | (refine⟨j+1,jp,_,rfl,by go_num,by omega,jk,?_,Mod.trans jo.out (Mod.trans (Mod.mono f5.out (fun _ _ x=>x.elim)) je),p6.out⟩
                   have:=j2.out;rw[hq,qDk]at this;exact this)
            exact k0.out
        simp only[qBn]at j0;have jj:=hid (z04 j8.out jg.fo);have ja:=hid (z04 j3.fo jj.out);have ji:Hid (Hd.ok {hd with fo:=orL hd.fo (orL j1 hp.fo)}):=⟨j3.fi,ja.out⟩;generalize hpb:Q67 j9 sn {hd with fo:=orL hd.fo (orL j1 hp.fo)}=pb at j0;have ju:=hid hpb;have j2:=hid j0;clear j0 hpb;go_wp2_with (first
          |(go_at_call 129;refine(PA.out _ {hd with fo:=orL hd.fo (orL j1 hp.fo)} ji.out (jh.fresh f5.out)).mono ?_;rintro e w6⟨rfl,jk,je⟩;have p6:=hid (je.at p5.out ka.out);rw[ju.out])
          |(refine qAf rfl 200 _ rfl w4.heap.size rfl _ _ _ _ jv.out qCp rfl (Q1q ji.out) ?_)
          |(refine qEv rfl 147 _ _ rfl w4.heap.size 12 (tkA (orL hd.fo (orL j1 hp.fo))) rfl rfl (by rw[z0u ja.out];exact z4n j3.out jl.out (by omega)) (Q0t ja.out) (z1h _) ?_)
          |(go_at_call 65;have j4:=j5.size;clear j4;refine(z1c _ hd.fo (orL j1 hp.fo) j3.fo jj.out).mono ?_;rintro e w5⟨rfl,jc⟩;have jl:=hid (jc.at (z0a w4 _) id);have f5:Hid (Q0a wr (w5.setCells w4.heap.size 12 (tkA (orL hd.fo (orL j1 hp.fo))).toList)):=Mod.setCells (by intro q;omega) _ _ _ (Mod.trans (f4.alloc _) jc);have p5:Hid ((w5.setCells w4.heap.size 12 (tkA (orL hd.fo (orL j1 hp.fo))).toList).heap[wo.heap.size]? = some (.cells #[.int .i64 ph,.slice (some ⟨gs,os,none⟩) j6.length (j+1)] 85 (0,0))):=(by unfold Hid;rw[z1p (by omega)];exact jc.at (z0b p4.out) id);have k5:(w5.setCells w4.heap.size 12 (tkA (orL hd.fo (orL j1 hp.fo))).toList).cell? ⟨wr.heap.size,1,none⟩=some (.int .i64 sn):=(by rw[z00 (by omega),Q0b (jc.at (z0b s4.out) id) 1];rfl);have jv:Hid ((w5.setCells w4.heap.size 12 (tkA (orL hd.fo (orL j1 hp.fo))).toList).heap[w4.heap.size]? = some (.cells (hdA {hd with fo:=orL hd.fo (orL j1 hp.fo)}) 200 (0,0))):=(by unfold Hid;rw[z0q _ _ _ _ _ _ _ jl.out];rw[← z6i j3.out ja.out];rfl))
          |(refine qAf rfl 147 _ rfl w1.heap.size rfl _ _ _ _ (z0b t4.out) qAk rfl (Q0t jj.out) ?_)
          |(refine qAe rfl 147 _ rfl w4.heap.size 12 rfl (bls hd.fo) _ (Q4u j3.out (z0a _ _)) qAk rfl (Q5u j3.fo) ?_)
          |(refine z0e rfl 200 _ _ rfl w4 _ (hdA hd) _ rfl rfl rfl (Q1q j3.out) (Q0l rfl (z07 j3.out)) (z1w _) ?_)
          |(go_at_call 101;refine(jz.out _ (jh.fresh f3.out)).mono ?_;rintro e w4⟨rfl,j5⟩;have kf:w1.heap.size<w4.heap.size:=(by have h1:=j5.size;simp at h1;first|omega|(have:=z0j t3.out;omega));have f4:Hid (Q0a wr w4):=Mod.trans f3.out j5;have p4:=hid (j5.at p3.out id);have s4:=hid (j5.at s3.out id);have t4:=hid (j5.at kh.out id))
          |(refine qAg rfl 147 _ _ rfl w1.heap.size _ rfl rfl _ _ t3.out (Q0t jj.out) (Q0l (z0u j8.out) (z0u jj.out)) (z1h _) ?_)
          |(go_at_call 65;refine(z1c _ j1 hp.fo j8.out jg.fo).mono ?_;rintro e w3⟨rfl,js⟩;have t3:=hid (js.at (z0b t2.out) id);have f3:Hid (Q0a wr (w3.setRow w1.heap.size (tkA (orL j1 hp.fo)))):=(Mod.trans (f2.alloc _) js).setRow (by intro q;omega) _;have p3:=hid (z0p (g:=w1.heap.size) (cs:=tkA (orL j1 hp.fo)) (js.at (z0b p2.out) id) (by omega));have s3:=hid (z0p (g:=w1.heap.size) (cs:=tkA (orL j1 hp.fo)) (js.at (z0b s2.out) id) (by omega));have kh:=hid (qAn _ _ _ (tkA (orL j1 hp.fo)) _ _ t3.out);have k3:(w3.setRow w1.heap.size (tkA (orL j1 hp.fo))).cell? ⟨wr.heap.size,1,none⟩=some (.int .i64 sn):=(by rw[Q0b s3.out 1];rfl))
          |(refine qAe rfl 147 _ rfl w2.heap.size 12 rfl (bls hp.fo) _ (Q4u jg.out (z0a _ _)) qAk rfl (Q5u jg.fo) ?_)
          |(refine qAf rfl 147 _ rfl w1.heap.size rfl _ _ _ _ (z0b t2.out) qAk rfl (Q0t j8.out) ?_)
          |(refine z0e rfl 200 _ _ rfl w2 _ (hdA hp) _ rfl rfl rfl (Q1q jg.out) (Q0l rfl (z07 jg.out)) (z1w _) ?_)
          |(go_at_call 101;refine(kb.out _ (jh.fresh (f1.alloc _))).mono ?_;rintro e w2⟨rfl,jn⟩;have x1:w1.heap.size<w2.heap.size:=(by have:=jn.size;simp at this;omega);have f2:Hid (Q0a wr w2):=Mod.trans (f1.alloc _) jn;have p2:=hid (jn.at (z0b p1.out) id);have s2:=hid (jn.at (z0b s1.out) id);have t2:=hid (jn.at (z0a w1 _) id))
          |(refine z0e rfl 147 _ _ rfl w1 _ (tkA j1) _ rfl rfl rfl (Q0t j8.out) (Q0l rfl (z0u j8.out)) (z1h _) ?_)
          |(go_at_call 64;refine(BA.out _ (kj.out _ _ (by omega) (by first|rfl|omega))).mono ?_;rintro e w1⟨rfl,jb⟩;have ke:wr.heap.size<w1.heap.size:=(by have:=jb.size;simp at this;omega);have f1:Hid (Q0a wr w1):=Mod.trans ((mRf _ wr).alloc _) jb;have p1:=hid (jb.at k6.out id);have s1:=hid (jb.at (z0a _ _) id);have k1:(w1.alloc (.cells (tkA j1) 147 (0,0))).cell? ⟨wo.heap.size,0,none⟩=some (.int .i64 ph):=(by rw[Q0b (z0b p1.out) 0];rfl);have kg:(w1.alloc (.cells (tkA j1) 147 (0,0))).cell? ⟨wr.heap.size,1,none⟩=some (.int .i64 sn):=(by rw[Q0b (z0b s1.out) 1];rfl))
          |(refine qAe rfl 93 _ rfl gs (os+j*2) rfl [.bool true,.int .i64 sn] _ RS.out qCf rfl W0i ?_))
        all_goals
          rename_i hq;go_roundw
          case rel =>
            first
              | (refine⟨j+1,true,_,rfl,by go_num,by omega,jk,?_,Mod.trans jo.out (Mod.trans (Mod.mono f5.out (fun _ _ x=>x.elim)) je),p6.out⟩
                 have:=j2.out;rw[hq,qEl]at this;exact this)
              | (refine⟨j+1,jp,_,rfl,by go_num,by omega,jk,?_,Mod.trans jo.out (Mod.trans (Mod.mono f5.out (fun _ _ x=>x.elim)) je),p6.out⟩
                 have:=j2.out;rw[hq,qDk]at this;exact this)
          exact k0.out
      have k8:¬jd-(j+1)=0:=by omega
      cases kk
      · simp only[qF,qAz]at j0
        have ja:=hid (z04 j3.fo j8.out);have ji:Hid (Hd.ok {hd with fo:=orL hd.fo (j1)}):=⟨j3.fi,ja.out⟩;generalize hpb:Q67 j9 sn {hd with fo:=orL hd.fo (j1)}=pb at j0;have ju:=hid hpb;have j2:=hid j0;clear j0 hpb;go_wp2_with (first
          |(go_at_call 129;refine(PA.out _ {hd with fo:=orL hd.fo (j1)} ji.out (jh.fresh f5.out)).mono ?_;rintro e w6⟨rfl,jk,je⟩;have p6:=hid (je.at p5.out ka.out);rw[ju.out])
          |(refine qAf rfl 200 _ rfl w4.heap.size rfl _ _ _ _ jv.out qCp rfl (Q1q ji.out) ?_)
          |(refine qEv rfl 147 _ _ rfl w4.heap.size 12 (tkA (orL hd.fo (j1))) rfl rfl (by rw[z0u ja.out];exact z4n j3.out jl.out (by omega)) (Q0t ja.out) (z1h _) ?_)
          |(go_at_call 65;have j4:=j5.size;clear j4;refine(z1c _ hd.fo (j1) j3.fo j8.out).mono ?_;rintro e w5⟨rfl,jc⟩;have jl:=hid (jc.at (z0a w4 _) id);have f5:Hid (Q0a wr (w5.setCells w4.heap.size 12 (tkA (orL hd.fo (j1))).toList)):=Mod.setCells (by intro q;omega) _ _ _ (Mod.trans (f4.alloc _) jc);have p5:Hid ((w5.setCells w4.heap.size 12 (tkA (orL hd.fo (j1))).toList).heap[wo.heap.size]? = some (.cells #[.int .i64 ph,.slice (some ⟨gs,os,none⟩) j6.length jd] 85 (0,0))):=(by unfold Hid;rw[z1p (by omega)];exact jc.at (z0b p4.out) id);have k5:(w5.setCells w4.heap.size 12 (tkA (orL hd.fo (j1))).toList).cell? ⟨wr.heap.size,1,none⟩=some (.int .i64 sn):=(by rw[z00 (by omega),Q0b (jc.at (z0b s4.out) id) 1];rfl);have jv:Hid ((w5.setCells w4.heap.size 12 (tkA (orL hd.fo (j1))).toList).heap[w4.heap.size]? = some (.cells (hdA {hd with fo:=orL hd.fo (j1)}) 200 (0,0))):=(by unfold Hid;rw[z0q _ _ _ _ _ _ _ jl.out];rw[← z6i j3.out ja.out];rfl))
          |(refine qAf rfl 147 _ rfl w1.heap.size rfl _ _ _ _ (z0b t4.out) qAk rfl (Q0t j8.out) ?_)
          |(refine qAe rfl 147 _ rfl w4.heap.size 12 rfl (bls hd.fo) _ (Q4u j3.out (z0a _ _)) qAk rfl (Q5u j3.fo) ?_)
          |(refine z0e rfl 200 _ _ rfl w4 _ (hdA hd) _ rfl rfl rfl (Q1q j3.out) (Q0l rfl (z07 j3.out)) (z1w _) ?_)
          |(go_at_call 101;refine(jz.out _ (jh.fresh (f1.alloc _))).mono ?_;rintro e w4⟨rfl,j5⟩;have kf:w1.heap.size<w4.heap.size:=(by have h1:=j5.size;simp at h1;first|omega|(have:=z0j t3.out;omega));have f4:Hid (Q0a wr w4):=Mod.trans (f1.alloc _) j5;have p4:=hid (j5.at (z0b p1.out) id);have s4:=hid (j5.at (z0b s1.out) id);have t4:=hid (j5.at (z0a w1 _) id))
          |(refine z0e rfl 147 _ _ rfl w1 _ (tkA j1) _ rfl rfl rfl (Q0t j8.out) (Q0l rfl (z0u j8.out)) (z1h _) ?_)
          |(go_at_call 64;refine(BA.out _ kd.out).mono ?_;rintro e w1⟨rfl,jb⟩;have ke:wr.heap.size<w1.heap.size:=(by have:=jb.size;simp at this;omega);have f1:Hid (Q0a wr w1):=Mod.trans ((mRf _ wr).alloc _) jb;have p1:=hid (jb.at k6.out id);have s1:=hid (jb.at (z0a _ _) id);have k1:(w1.alloc (.cells (tkA j1) 147 (0,0))).cell? ⟨wo.heap.size,0,none⟩=some (.int .i64 ph):=(by rw[Q0b (z0b p1.out) 0];rfl);have kg:(w1.alloc (.cells (tkA j1) 147 (0,0))).cell? ⟨wr.heap.size,1,none⟩=some (.int .i64 sn):=(by rw[Q0b (z0b s1.out) 1];rfl))
          |(refine qAe rfl 93 _ rfl gs (os+j*2) rfl [.bool true,.int .i64 sn] _ RS.out qCf rfl W0i ?_))
        all_goals
          rename_i hq;go_roundw
          case rel =>
            first
              | (refine⟨j+1,true,_,rfl,by go_num,by omega,jk,?_,Mod.trans jo.out (Mod.trans (Mod.mono f5.out (fun _ _ x=>x.elim)) je),p6.out⟩
                 have:=j2.out;rw[hq,qEl]at this;exact this)
              | (refine⟨j+1,jp,_,rfl,by go_num,by omega,jk,?_,Mod.trans jo.out (Mod.trans (Mod.mono f5.out (fun _ _ x=>x.elim)) je),p6.out⟩
                 have:=j2.out;rw[hq,qDk]at this;exact this)
          exact k0.out
      simp only[qBn]at j0;have jj:=hid (z04 j8.out jg.fo);have ja:=hid (z04 j3.fo jj.out);have ji:Hid (Hd.ok {hd with fo:=orL hd.fo (orL j1 hp.fo)}):=⟨j3.fi,ja.out⟩;generalize hpb:Q67 j9 sn {hd with fo:=orL hd.fo (orL j1 hp.fo)}=pb at j0;have ju:=hid hpb;have j2:=hid j0;clear j0 hpb;go_wp2_with (first
        |(go_at_call 129;refine(PA.out _ {hd with fo:=orL hd.fo (orL j1 hp.fo)} ji.out (jh.fresh f5.out)).mono ?_;rintro e w6⟨rfl,jk,je⟩;have p6:=hid (je.at p5.out ka.out);rw[ju.out])
        |(refine qAf rfl 200 _ rfl w4.heap.size rfl _ _ _ _ jv.out qCp rfl (Q1q ji.out) ?_)
        |(refine qEv rfl 147 _ _ rfl w4.heap.size 12 (tkA (orL hd.fo (orL j1 hp.fo))) rfl rfl (by rw[z0u ja.out];exact z4n j3.out jl.out (by omega)) (Q0t ja.out) (z1h _) ?_)
        |(go_at_call 65;have j4:=j5.size;clear j4;refine(z1c _ hd.fo (orL j1 hp.fo) j3.fo jj.out).mono ?_;rintro e w5⟨rfl,jc⟩;have jl:=hid (jc.at (z0a w4 _) id);have f5:Hid (Q0a wr (w5.setCells w4.heap.size 12 (tkA (orL hd.fo (orL j1 hp.fo))).toList)):=Mod.setCells (by intro q;omega) _ _ _ (Mod.trans (f4.alloc _) jc);have p5:Hid ((w5.setCells w4.heap.size 12 (tkA (orL hd.fo (orL j1 hp.fo))).toList).heap[wo.heap.size]? = some (.cells #[.int .i64 ph,.slice (some ⟨gs,os,none⟩) j6.length jd] 85 (0,0))):=(by unfold Hid;rw[z1p (by omega)];exact jc.at (z0b p4.out) id);have k5:(w5.setCells w4.heap.size 12 (tkA (orL hd.fo (orL j1 hp.fo))).toList).cell? ⟨wr.heap.size,1,none⟩=some (.int .i64 sn):=(by rw[z00 (by omega),Q0b (jc.at (z0b s4.out) id) 1];rfl);have jv:Hid ((w5.setCells w4.heap.size 12 (tkA (orL hd.fo (orL j1 hp.fo))).toList).heap[w4.heap.size]? = some (.cells (hdA {hd with fo:=orL hd.fo (orL j1 hp.fo)}) 200 (0,0))):=(by unfold Hid;rw[z0q _ _ _ _ _ _ _ jl.out];rw[← z6i j3.out ja.out];rfl))
        |(refine qAf rfl 147 _ rfl w1.heap.size rfl _ _ _ _ (z0b t4.out) qAk rfl (Q0t jj.out) ?_)
        |(refine qAe rfl 147 _ rfl w4.heap.size 12 rfl (bls hd.fo) _ (Q4u j3.out (z0a _ _)) qAk rfl (Q5u j3.fo) ?_)
        |(refine z0e rfl 200 _ _ rfl w4 _ (hdA hd) _ rfl rfl rfl (Q1q j3.out) (Q0l rfl (z07 j3.out)) (z1w _) ?_)
        |(go_at_call 101;refine(jz.out _ (jh.fresh f3.out)).mono ?_;rintro e w4⟨rfl,j5⟩;have kf:w1.heap.size<w4.heap.size:=(by have h1:=j5.size;simp at h1;first|omega|(have:=z0j t3.out;omega));have f4:Hid (Q0a wr w4):=Mod.trans f3.out j5;have p4:=hid (j5.at p3.out id);have s4:=hid (j5.at s3.out id);have t4:=hid (j5.at kh.out id))
        |(refine qAg rfl 147 _ _ rfl w1.heap.size _ rfl rfl _ _ t3.out (Q0t jj.out) (Q0l (z0u j8.out) (z0u jj.out)) (z1h _) ?_)
        |(go_at_call 65;refine(z1c _ j1 hp.fo j8.out jg.fo).mono ?_;rintro e w3⟨rfl,js⟩;have t3:=hid (js.at (z0b t2.out) id);have f3:Hid (Q0a wr (w3.setRow w1.heap.size (tkA (orL j1 hp.fo)))):=(Mod.trans (f2.alloc _) js).setRow (by intro q;omega) _;have p3:=hid (z0p (g:=w1.heap.size) (cs:=tkA (orL j1 hp.fo)) (js.at (z0b p2.out) id) (by omega));have s3:=hid (z0p (g:=w1.heap.size) (cs:=tkA (orL j1 hp.fo)) (js.at (z0b s2.out) id) (by omega));have kh:=hid (qAn _ _ _ (tkA (orL j1 hp.fo)) _ _ t3.out);have k3:(w3.setRow w1.heap.size (tkA (orL j1 hp.fo))).cell? ⟨wr.heap.size,1,none⟩=some (.int .i64 sn):=(by rw[Q0b s3.out 1];rfl))
        |(refine qAe rfl 147 _ rfl w2.heap.size 12 rfl (bls hp.fo) _ (Q4u jg.out (z0a _ _)) qAk rfl (Q5u jg.fo) ?_)
        |(refine qAf rfl 147 _ rfl w1.heap.size rfl _ _ _ _ (z0b t2.out) qAk rfl (Q0t j8.out) ?_)
        |(refine z0e rfl 200 _ _ rfl w2 _ (hdA hp) _ rfl rfl rfl (Q1q jg.out) (Q0l rfl (z07 jg.out)) (z1w _) ?_)
        |(go_at_call 101;refine(kb.out _ (jh.fresh (f1.alloc _))).mono ?_;rintro e w2⟨rfl,jn⟩;have x1:w1.heap.size<w2.heap.size:=(by have:=jn.size;simp at this;omega);have f2:Hid (Q0a wr w2):=Mod.trans (f1.alloc _) jn;have p2:=hid (jn.at (z0b p1.out) id);have s2:=hid (jn.at (z0b s1.out) id);have t2:=hid (jn.at (z0a w1 _) id))
        |(refine z0e rfl 147 _ _ rfl w1 _ (tkA j1) _ rfl rfl rfl (Q0t j8.out) (Q0l rfl (z0u j8.out)) (z1h _) ?_)
        |(go_at_call 64;refine(BA.out _ kd.out).mono ?_;rintro e w1⟨rfl,jb⟩;have ke:wr.heap.size<w1.heap.size:=(by have:=jb.size;simp at this;omega);have f1:Hid (Q0a wr w1):=Mod.trans ((mRf _ wr).alloc _) jb;have p1:=hid (jb.at k6.out id);have s1:=hid (jb.at (z0a _ _) id);have k1:(w1.alloc (.cells (tkA j1) 147 (0,0))).cell? ⟨wo.heap.size,0,none⟩=some (.int .i64 ph):=(by rw[Q0b (z0b p1.out) 0];rfl);have kg:(w1.alloc (.cells (tkA j1) 147 (0,0))).cell? ⟨wr.heap.size,1,none⟩=some (.int .i64 sn):=(by rw[Q0b (z0b s1.out) 1];rfl))
        |(refine qAe rfl 93 _ rfl gs (os+j*2) rfl [.bool true,.int .i64 sn] _ RS.out qCf rfl W0i ?_))
      all_goals
        rename_i hq;go_roundw
        case rel =>
          first
            | (refine⟨j+1,true,_,rfl,by go_num,by omega,jk,?_,Mod.trans jo.out (Mod.trans (Mod.mono f5.out (fun _ _ x=>x.elim)) je),p6.out⟩
               have:=j2.out;rw[hq,qEl]at this;exact this)
            | (refine⟨j+1,jp,_,rfl,by go_num,by omega,jk,?_,Mod.trans jo.out (Mod.trans (Mod.mono f5.out (fun _ _ x=>x.elim)) je),p6.out⟩
               have:=j2.out;rw[hq,qDk]at this;exact this)
        exact k0.out
    have kx:j=j6.length:=by omega
    rw[kx,qCy]at j0;have jf:(j9,jp)=RR:=j0;have j2:=hid jf;have xd:¬(j:Int)<(j6.length:Int):=by omega
    clear j0 jf jq;go_wp2;go_roundw
    case rel =>
      refine⟨i+1,jp,j9,rfl,by go_num,by omega,jh.out,?_,jo.out⟩;have:=jr.out;rw[← j2.out]at this;exact this
    exact ks.out
  have kw:i=ps.length:=by omega
  rw[kw,qCy]at j7;have jf:(jy,gr)=RES:=j7;have jr:=hid jf;have xb:¬(i:Int)<(ps.length:Int):=by omega
  clear j7 hF;go_wp2;go_ret;exact⟨z0w (by rw[← jr.out]),by rw[← jr.out];exact HF.out,k4.out⟩
end Go.Proofs.YtbdpfmalabgmbaaGreat
