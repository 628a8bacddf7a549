import Derived.Test.YtbdpfmalabgmbaaGreatSe8
namespace Go.Proofs.YtbdpfmalabgmbaaGreat
open Go.RowKit
set_option maxRecDepth 99999
set_option maxHeartbeats 0
set_option linter.all false
theorem x23(w:World)(b:Nat)(R H:Int)(vp vh:Value)(ps:List PV)(hs:List Hd)(h:FA w b R H vp vh ps hs)(hps:ps.length<=1000) :
    Calls Tryz.prog 121 #[Q3c b] w fun e w'=>e=.returned (.bool (Q5l (Q0k ps) hs false).2)/\FA w' b R H vp vh ps (Q5l (Q0k ps) hs false).1/\Mod (Q2c vh) w w':=by
  have kr:=hid h;obtain⟨ao,cap,hv⟩:=z0c h.prs.row.own;subst hv;have k2:=h.cell 2;simp at k2;generalize hR:Q5l (Q0k ps) hs false=RES;have HR:=hid hR;clear hR h;go_enter Tryz.func121,Tryz.ntmps121
  go_wp2;go_loopw [3,5,6,7,8,9,10,11,18,25] (fun x3 _ _ _ _ _ _ _ x16 _ wr=>∃(i:Nat) (gr:Bool) (jy:List Hd),x3=.bool gr/\x16=.int .i64 i/\i<=ps.length/\FA wr b R H (.slice ao ps.length cap) vh ps jy/\Q5l (Q0k (ps.drop i)) jy gr=RES/\Mod (Q2c vh) w wr)
      (fun _ _ _ _ _ _ _ _ x _ _=>ps.length+1-(intOf x).toNat)
  case atStart=>exact⟨0,false,hs,rfl,rfl,by omega,kr.out,HR.out,mRf _ w⟩
  obtain⟨i,gr,jy,rfl,rfl,hi,hF,j7,k7⟩:=hrel;obtain⟨wo,x0⟩:∃wo,wo=wr:=⟨_,rfl⟩;subst x0;have ks:=hid (Q19 (B:=ps.length+1) i (by omega));have k4:=hid k7;have HF:=hid hF;clear k7;by_cases km:i<ps.length
  · have xa:(i:Int)<(ps.length:Int):=by omega
    rw[qC km]at j7;obtain⟨gp,ku,ko⟩:=Joins.ownsRow_form hF.prs.row.own (by omega);rw[qI]at ko;obtain⟨rfl,_,rfl⟩:=ko;have RG:Hid (wo.rangeAt gp (i*2) [.int .i64 ps[i].pr.head,ps[i].vs]):=hF.prs.row.range i km;have x6:=hF.size;have k9:=hid (hF.fresh ((mRf _ wo).alloc (.cells #[.int .i64 ps[i].pr.head,ps[i].vs] 85 (0,0))));have jx:Hid (∀(w1:World) (j9:List Hd),FA w1 b R H (.slice (some ⟨gp,0,none⟩) ps.length cap) vh ps j9->Q58 w1 b ps[i].vs ps[i].pr.syms):=fun w1 j9 h=>h.prs.syms ps[i] (by simp);unfold Q0k at j7;rw[qDl]at j7;unfold Q5l at j7;generalize ps[i].pr=pr at j7 RG jx k9;generalize ps[i].vs=pvs at RG jx k9;obtain⟨ph,j6⟩:=pr;dsimp only at j7 RG jx k9;obtain⟨kq,jd,kz,ky,k8,_⟩:=jx.out _ _ hF;subst kz;unfold maxLen at k8;clear hF;generalize hRR:Q2z ph j6 jy gr=RR at j7;have kt:=hid hRR;have jr:=hid j7;clear j7 hRR;go_wp2_with (first
      |(refine qAe rfl 85 _ rfl gp (i*2) rfl [.int .i64 ph,.slice kq j6.length jd] _ RG.out qCz rfl W0n ?_))
    go_loopw [3,6,7,8,9,10,11,25] (fun x3 _ _ _ _ _ _ x30 wr=>∃(j:Nat) (jp:Bool) (j9:List Hd),x3=.bool jp/\x30=.int .i64 j/\j<=j6.length/\FA wr b R H (.slice (some ⟨gp,0,none⟩) ps.length cap) vh ps j9/\Q2z ph (j6.drop j) j9 jp=RR/\Mod (Q2c vh) w wr/\wr.heap[wo.heap.size]? = some (.cells #[.int .i64 ph,.slice kq j6.length jd] 85 (0,0)))
      (fun _ _ _ _ _ _ _ x _=>j6.length+1-(intOf x).toNat)
    case atStart=>exact⟨0,gr,jy,rfl,rfl,by omega,k9.out,kt.out,Mod.trans k4.out ((mRf _ wo).alloc _),z0a _ _⟩
    obtain⟨j,jp,j9,rfl,rfl,hj,jq,j0,jt,jw⟩:=hrel;have kc:=hid jw;have xe:=z0j jw;clear jw;have k0:=hid (Q19 (B:=j6.length+1) j (by omega));have jo:=hid jt;have jh:=hid jq;clear jt;by_cases kl:j<j6.length
    · have xc:(j:Int)<(j6.length:Int):=by omega
      rw[qC kl]at j0;obtain⟨x2,kv,kp,x7,x8,jm⟩:=jx.out _ _ jq;rw[qI]at kp;obtain⟨rfl,_,rfl⟩:=kp;obtain⟨gs,os,rfl,x9,kn⟩:=jm j kl;have RS:Hid (wr.rangeAt gs (os+j*2) [.bool j6[j].isH,.int .i64 j6[j].num]):=kn;unfold Q2z at j0;generalize j6[j].isH=sh at j0 RS;generalize j6[j].num=sn at j0 RS;have x5:=jq.size;clear jm kn;cases sh
      · rw[qAb rfl]at j0
        have j2:=hid j0;clear j0 jq;go_wp2_with (first
          |(refine qAe rfl 93 _ rfl gs (os+j*2) rfl [.bool false,.int .i64 sn] _ RS.out qCf rfl W0i ?_))
        go_roundw
        case rel=>exact⟨j+1,jp,j9,rfl,by go_num,by omega,jh.fresh ((mRf _ wr).alloc _),j2.out,Mod.trans jo.out ((mRf _ wr).alloc _),z0b kc.out⟩
        exact k0.out
      rw[qAa (by simp)]at j0;have k6:=hid (z0b (o:=.cells #[.bool true,.int .i64 sn] 93 (0,0)) kc.out);have c1:(wr.alloc (.cells #[.bool true,.int .i64 sn] 93 (0,0))).cell? ⟨wo.heap.size,1,none⟩=some (.slice (some ⟨gs,os,none⟩) j6.length jd):=by rw[Q0b k6.out 1];rfl
      have x4:wr.cell? ⟨wo.heap.size,1,none⟩=some (.slice (some ⟨gs,os,none⟩) j6.length jd):=by rw[Q0b kc.out 1];rfl
      have ki:=hid (jq.fresh ((mRf _ wr).alloc (.cells #[.bool true,.int .i64 sn] 93 (0,0))));have kd:=hid ((jx.out _ _ ki.out).drop (j+1) (by omega));have kj:Hid (∀(W:World) (n:Nat),j6.length<=j+1->n=0->Q58 W b (.slice (some ⟨gs,os,none⟩) n 0) (j6.drop (j+1))):=fun W n h hn=>Q58.none (by apply qAp;omega) hn;have ka:Hid (¬vh.ownBlock=some wo.heap.size):=fun e=>by have:=(HF.own.lt _ e).2;omega
      have BA:=hid (fun v hv=>z6a _ b R H _ vh ps j9 b v (j6.drop (j+1)) ki.out (by simp;omega) hv);have kb:=hid (fun w (h:FA w b R H (.slice (some ⟨gp,0,none⟩) ps.length cap) vh ps j9)=>z4l w b R H _ vh ps j9 ph h);have jz:=hid (fun w (h:FA w b R H (.slice (some ⟨gp,0,none⟩) ps.length cap) vh ps j9)=>z4l w b R H _ vh ps j9 sn h);have PA:=hid (fun w (x:Hd) (hx:x.ok) (h:FA w b R H (.slice (some ⟨gp,0,none⟩) ps.length cap) vh ps j9)=>y2x w b R H _ vh ps j9 sn x hx h);have j8:=hid (z1a jq.ok (j6.drop (j+1)) zero9 rfl);have jg:=hid (z0k jq.ok ph);have j3:=hid (z0k jq.ok sn);unfold Q5t Q8n at j0;generalize Q2q j9 (j6.drop (j+1)) zero9=bg at j0 j8 BA;generalize Q1k j9 ph=hp at j0 jg kb;generalize Q1k j9 sn=hd at j0 j3 jz;obtain⟨j1,kk⟩:=bg;dsimp only at j0 j8 BA;clear jq;rcases(show jd=j+1∨¬jd=j+1 by omega)with hsc|hsc
      · subst hsc
        clear kd;cases kk
        · simp only[qF,qAz]at j0
          have ja:=hid (z04 j3.fo j8.out);have ji:Hid (Hd.ok {hd with fo:=orL hd.fo (j1)}):=⟨j3.fi,ja.out⟩;generalize hpb:Q67 j9 sn {hd with fo:=orL hd.fo (j1)}=pb at j0;have ju:=hid hpb;have j2:=hid j0;clear j0 hpb;go_wp2_with (first
            |(go_at_call 129;refine(PA.out _ {hd with fo:=orL hd.fo (j1)} ji.out (jh.fresh f5.out)).mono ?_;rintro e w6⟨rfl,jk,je⟩;have p6:=hid (je.at p5.out ka.out);rw[ju.out])
            |(refine qAf rfl 200 _ rfl w4.heap.size rfl _ _ _ _ jv.out qCp rfl (Q1q ji.out) ?_)
            |(refine qEv rfl 147 _ _ rfl w4.heap.size 12 (tkA (orL hd.fo (j1))) rfl rfl (by rw[z0u ja.out];exact z4n j3.out jl.out (by omega)) (Q0t ja.out) (z1h _) ?_)
            |(go_at_call 65;have j4:=j5.size;clear j4;refine(z1c _ hd.fo (j1) j3.fo j8.out).mono ?_;rintro e w5⟨rfl,jc⟩;have jl:=hid (jc.at (z0a w4 _) id);have f5:Hid (Q0a wr (w5.setCells w4.heap.size 12 (tkA (orL hd.fo (j1))).toList)):=Mod.setCells (by intro q;omega) _ _ _ (Mod.trans (f4.alloc _) jc);have p5:Hid ((w5.setCells w4.heap.size 12 (tkA (orL hd.fo (j1))).toList).heap[wo.heap.size]? = some (.cells #[.int .i64 ph,.slice (some ⟨gs,os,none⟩) j6.length (j+1)] 85 (0,0))):=(by unfold Hid;rw[z1p (by omega)];exact jc.at (z0b p4.out) id);have k5:(w5.setCells w4.heap.size 12 (tkA (orL hd.fo (j1))).toList).cell? ⟨wr.heap.size,1,none⟩=some (.int .i64 sn):=(by rw[z00 (by omega),Q0b (jc.at (z0b s4.out) id) 1];rfl);have jv:Hid ((w5.setCells w4.heap.size 12 (tkA (orL hd.fo (j1))).toList).heap[w4.heap.size]? = some (.cells (hdA {hd with fo:=orL hd.fo (j1)}) 200 (0,0))):=(by unfold Hid;rw[z0q _ _ _ _ _ _ _ jl.out];rw[← z6i j3.out ja.out];rfl))
            |(refine qAf rfl 147 _ rfl w1.heap.size rfl _ _ _ _ (z0b t4.out) qAk rfl (Q0t j8.out) ?_)
            |(refine qAe rfl 147 _ rfl w4.heap.size 12 rfl (bls hd.fo) _ (Q4u j3.out (z0a _ _)) qAk rfl (Q5u j3.fo) ?_)
            |(refine z0e rfl 200 _ _ rfl w4 _ (hdA hd) _ rfl rfl rfl (Q1q j3.out) (Q0l rfl (z07 j3.out)) (z1w _) ?_)
            |(go_at_call 101;refine(jz.out _ (jh.fresh (f1.alloc _))).mono ?_;rintro e w4⟨rfl,j5⟩;have kf:w1.heap.size<w4.heap.size:=(by have h1:=j5.size;simp at h1;first|omega|(have:=z0j t3.out;omega));have f4:Hid (Q0a wr w4):=Mod.trans (f1.alloc _) j5;have p4:=hid (j5.at (z0b p1.out) id);have s4:=hid (j5.at (z0b s1.out) id);have t4:=hid (j5.at (z0a w1 _) id))
            |(refine z0e rfl 147 _ _ rfl w1 _ (tkA j1) _ rfl rfl rfl (Q0t j8.out) (Q0l rfl (z0u j8.out)) (z1h _) ?_)
            |(go_at_call 64;refine(BA.out _ (kj.out _ _ (by omega) (by first|rfl|omega))).mono ?_;rintro e w1⟨rfl,jb⟩;have ke:wr.heap.size<w1.heap.size:=(by have:=jb.size;simp at this;omega);have f1:Hid (Q0a wr w1):=Mod.trans ((mRf _ wr).alloc _) jb;have p1:=hid (jb.at k6.out id);have s1:=hid (jb.at (z0a _ _) id);have k1:(w1.alloc (.cells (tkA j1) 147 (0,0))).cell? ⟨wo.heap.size,0,none⟩=some (.int .i64 ph):=(by rw[Q0b (z0b p1.out) 0];rfl);have kg:(w1.alloc (.cells (tkA j1) 147 (0,0))).cell? ⟨wr.heap.size,1,none⟩=some (.int .i64 sn):=(by rw[Q0b (z0b s1.out) 1];rfl))
            |(refine qAe rfl 93 _ rfl gs (os+j*2) rfl [.bool true,.int .i64 sn] _ RS.out qCf rfl W0i ?_))
          all_goals
            rename_i hq;go_roundw
            case rel =>
              first
                | (refine⟨j+1,true,_,rfl,by go_num,by omega,jk,?_,Mod.trans jo.out (Mod.trans (Mod.mono f5.out (fun _ _ x=>x.elim)) je),p6.out⟩
                   have:=j2.out;rw[hq,qEl]at this;exact this)
                | (refine⟨j+1,jp,_,rfl,by go_num,by omega,jk,?_,Mod.trans jo.out (Mod.trans (Mod.mono f5.out (fun _ _ x=>x.elim)) je),p6.out⟩
                   have:=j2.out;rw[hq,qDk]at this;exact this)
            exact k0.out
        simp only[qBn]at j0;have jj:=hid (z04 j8.out jg.fo);have ja:=hid (z04 j3.fo jj.out);have ji:Hid (Hd.ok {hd with fo:=orL hd.fo (orL j1 hp.fo)}):=⟨j3.fi,ja.out⟩;generalize hpb:Q67 j9 sn {hd with fo:=orL hd.fo (orL j1 hp.fo)}=pb at j0;have ju:=hid hpb;have j2:=hid j0;clear j0 hpb;go_wp2_with (first
          |(go_at_call 129;refine(PA.out _ {hd with fo:=orL hd.fo (orL j1 hp.fo)} ji.out (jh.fresh f5.out)).mono ?_;rintro e w6⟨rfl,jk,je⟩;have p6:=hid (je.at p5.out ka.out);rw[ju.out])
          |(refine qAf rfl 200 _ rfl w4.heap.size rfl _ _ _ _ jv.out qCp rfl (Q1q ji.out) ?_)
          |(refine qEv rfl 147 _ _ rfl w4.heap.size 12 (tkA (orL hd.fo (orL j1 hp.fo))) rfl rfl (by rw[z0u ja.out];exact z4n j3.out jl.out (by omega)) (Q0t ja.out) (z1h _) ?_)
          |(go_at_call 65;have j4:=j5.size;clear j4;refine(z1c _ hd.fo (orL j1 hp.fo) j3.fo jj.out).mono ?_;rintro e w5⟨rfl,jc⟩;have jl:=hid (jc.at (z0a w4 _) id);have f5:Hid (Q0a wr (w5.setCells w4.heap.size 12 (tkA (orL hd.fo (orL j1 hp.fo))).toList)):=Mod.setCells (by intro q;omega) _ _ _ (Mod.trans (f4.alloc _) jc);have p5:Hid ((w5.setCells w4.heap.size 12 (tkA (orL hd.fo (orL j1 hp.fo))).toList).heap[wo.heap.size]? = some (.cells #[.int .i64 ph,.slice (some ⟨gs,os,none⟩) j6.length (j+1)] 85 (0,0))):=(by unfold Hid;rw[z1p (by omega)];exact jc.at (z0b p4.out) id);have k5:(w5.setCells w4.heap.size 12 (tkA (orL hd.fo (orL j1 hp.fo))).toList).cell? ⟨wr.heap.size,1,none⟩=some (.int .i64 sn):=(by rw[z00 (by omega),Q0b (jc.at (z0b s4.out) id) 1];rfl);have jv:Hid ((w5.setCells w4.heap.size 12 (tkA (orL hd.fo (orL j1 hp.fo))).toList).heap[w4.heap.size]? = some (.cells (hdA {hd with fo:=orL hd.fo (orL j1 hp.fo)}) 200 (0,0))):=(by unfold Hid;rw[z0q _ _ _ _ _ _ _ jl.out];rw[← z6i j3.out ja.out];rfl))
          |(refine qAf rfl 147 _ rfl w1.heap.size rfl _ _ _ _ (z0b t4.out) qAk rfl (Q0t jj.out) ?_)
          |(refine qAe rfl 147 _ rfl w4.heap.size 12 rfl (bls hd.fo) _ (Q4u j3.out (z0a _ _)) qAk rfl (Q5u j3.fo) ?_)
          |(refine z0e rfl 200 _ _ rfl w4 _ (hdA hd) _ rfl rfl rfl (Q1q j3.out) (Q0l rfl (z07 j3.out)) (z1w _) ?_)
          |(go_at_call 101;refine(jz.out _ (jh.fresh f3.out)).mono ?_;rintro e w4⟨rfl,j5⟩;have kf:w1.heap.size<w4.heap.size:=(by have h1:=j5.size;simp at h1;first|omega|(have:=z0j t3.out;omega));have f4:Hid (Q0a wr w4):=Mod.trans f3.out j5;have p4:=hid (j5.at p3.out id);have s4:=hid (j5.at s3.out id);have t4:=hid (j5.at kh.out id))
          |(refine qAg rfl 147 _ _ rfl w1.heap.size _ rfl rfl _ _ t3.out (Q0t jj.out) (Q0l (z0u j8.out) (z0u jj.out)) (z1h _) ?_)
          |(go_at_call 65;refine(z1c _ j1 hp.fo j8.out jg.fo).mono ?_;rintro e w3⟨rfl,js⟩;have t3:=hid (js.at (z0b t2.out) id);have f3:Hid (Q0a wr (w3.setRow w1.heap.size (tkA (orL j1 hp.fo)))):=(Mod.trans (f2.alloc _) js).setRow (by intro q;omega) _;have p3:=hid (z0p (g:=w1.heap.size) (cs:=tkA (orL j1 hp.fo)) (js.at (z0b p2.out) id) (by omega));have s3:=hid (z0p (g:=w1.heap.size) (cs:=tkA (orL j1 hp.fo)) (js.at (z0b s2.out) id) (by omega));have kh:=hid (qAn _ _ _ (tkA (orL j1 hp.fo)) _ _ t3.out);have k3:(w3.setRow w1.heap.size (tkA (orL j1 hp.fo))).cell? ⟨wr.heap.size,1,none⟩=some (.int .i64 sn):=(by rw[Q0b s3.out 1];rfl))
          |(refine qAe rfl 147 _ rfl w2.heap.size 12 rfl (bls hp.fo) _ (Q4u jg.out (z0a _ _)) qAk rfl (Q5u jg.fo) ?_)
          |(refine qAf rfl 147 _ rfl w1.heap.size rfl _ _ _ _ (z0b t2.out) qAk rfl (Q0t j8.out) ?_)
          |(refine z0e rfl 200 _ _ rfl w2 _ (hdA hp) _ rfl rfl rfl (Q1q jg.out) (Q0l rfl (z07 jg.out)) (z1w _) ?_)
          |(go_at_call 101;refine(kb.out _ (jh.fresh (f1.alloc _))).mono ?_;rintro e w2⟨rfl,jn⟩;have x1:w1.heap.size<w2.heap.size:=(by have:=jn.size;simp at this;omega);have f2:Hid (Q0a wr w2):=Mod.trans (f1.alloc _) jn;have p2:=hid (jn.at (z0b p1.out) id);have s2:=hid (jn.at (z0b s1.out) id);have t2:=hid (jn.at (z0a w1 _) id))
          |(refine z0e rfl 147 _ _ rfl w1 _ (tkA j1) _ rfl rfl rfl (Q0t j8.out) (Q0l rfl (z0u j8.out)) (z1h _) ?_)
          |(go_at_call 64;refine(BA.out _ (kj.out _ _ (by omega) (by first|rfl|omega))).mono ?_;rintro e w1⟨rfl,jb⟩;have ke:wr.heap.size<w1.heap.size:=(by have:=jb.size;simp at this;omega);have f1:Hid (Q0a wr w1):=Mod.trans ((mRf _ wr).alloc _) jb;have p1:=hid (jb.at k6.out id);have s1:=hid (jb.at (z0a _ _) id);have k1:(w1.alloc (.cells (tkA j1) 147 (0,0))).cell? ⟨wo.heap.size,0,none⟩=some (.int .i64 ph):=(by rw[Q0b (z0b p1.out) 0];rfl);have kg:(w1.alloc (.cells (tkA j1) 147 (0,0))).cell? ⟨wr.heap.size,1,none⟩=some (.int .i64 sn):=(by rw[Q0b (z0b s1.out) 1];rfl))
          |(refine qAe rfl 93 _ rfl gs (os+j*2) rfl [.bool true,.int .i64 sn] _ RS.out qCf rfl W0i ?_))
        all_goals
          rename_i hq;go_roundw
          case rel =>
            first
              | (refine⟨j+1,true,_,rfl,by go_num,by omega,jk,?_,Mod.trans jo.out (Mod.trans (Mod.mono f5.out (fun _ _ x=>x.elim)) je),p6.out⟩
                 have:=j2.out;rw[hq,qEl]at this;exact this)
              | (refine⟨j+1,jp,_,rfl,by go_num,by omega,jk,?_,Mod.trans jo.out (Mod.trans (Mod.mono f5.out (fun _ _ x=>x.elim)) je),p6.out⟩
                 have:=j2.out;rw[hq,qDk]at this;exact this)
          exact k0.out
      have k8:¬jd-(j+1)=0:=by omega
      cases kk
      · simp only[qF,qAz]at j0
        have ja:=hid (z04 j3.fo j8.out);have ji:Hid (Hd.ok {hd with fo:=orL hd.fo (j1)}):=⟨j3.fi,ja.out⟩;generalize hpb:Q67 j9 sn {hd with fo:=orL hd.fo (j1)}=pb at j0;have ju:=hid hpb;have j2:=hid j0;clear j0 hpb;go_wp2_with (first
          |(go_at_call 129;refine(PA.out _ {hd with fo:=orL hd.fo (j1)} ji.out (jh.fresh f5.out)).mono ?_;rintro e w6⟨rfl,jk,je⟩;have p6:=hid (je.at p5.out ka.out);rw[ju.out])
          |(refine qAf rfl 200 _ rfl w4.heap.size rfl _ _ _ _ jv.out qCp rfl (Q1q ji.out) ?_)
          |(refine qEv rfl 147 _ _ rfl w4.heap.size 12 (tkA (orL hd.fo (j1))) rfl rfl (by rw[z0u ja.out];exact z4n j3.out jl.out (by omega)) (Q0t ja.out) (z1h _) ?_)
          |(go_at_call 65;have j4:=j5.size;clear j4;refine(z1c _ hd.fo (j1) j3.fo j8.out).mono ?_;rintro e w5⟨rfl,jc⟩;have jl:=hid (jc.at (z0a w4 _) id);have f5:Hid (Q0a wr (w5.setCells w4.heap.size 12 (tkA (orL hd.fo (j1))).toList)):=Mod.setCells (by intro q;omega) _ _ _ (Mod.trans (f4.alloc _) jc);have p5:Hid ((w5.setCells w4.heap.size 12 (tkA (orL hd.fo (j1))).toList).heap[wo.heap.size]? = some (.cells #[.int .i64 ph,.slice (some ⟨gs,os,none⟩) j6.length jd] 85 (0,0))):=(by unfold Hid;rw[z1p (by omega)];exact jc.at (z0b p4.out) id);have k5:(w5.setCells w4.heap.size 12 (tkA (orL hd.fo (j1))).toList).cell? ⟨wr.heap.size,1,none⟩=some (.int .i64 sn):=(by rw[z00 (by omega),Q0b (jc.at (z0b s4.out) id) 1];rfl);have jv:Hid ((w5.setCells w4.heap.size 12 (tkA (orL hd.fo (j1))).toList).heap[w4.heap.size]? = some (.cells (hdA {hd with fo:=orL hd.fo (j1)}) 200 (0,0))):=(by unfold Hid;rw[z0q _ _ _ _ _ _ _ jl.out];rw[← z6i j3.out ja.out];rfl))
          |(refine qAf rfl 147 _ rfl w1.heap.size rfl _ _ _ _ (z0b t4.out) qAk rfl (Q0t j8.out) ?_)
          |(refine qAe rfl 147 _ rfl w4.heap.size 12 rfl (bls hd.fo) _ (Q4u j3.out (z0a _ _)) qAk rfl (Q5u j3.fo) ?_)
          |(refine z0e rfl 200 _ _ rfl w4 _ (hdA hd) _ rfl rfl rfl (Q1q j3.out) (Q0l rfl (z07 j3.out)) (z1w _) ?_)
          |(go_at_call 101;refine(jz.out _ (jh.fresh (f1.alloc _))).mono ?_;rintro e w4⟨rfl,j5⟩;have kf:w1.heap.size<w4.heap.size:=(by have h1:=j5.size;simp at h1;first|omega|(have:=z0j t3.out;omega));have f4:Hid (Q0a wr w4):=Mod.trans (f1.alloc _) j5;have p4:=hid (j5.at (z0b p1.out) id);have s4:=hid (j5.at (z0b s1.out) id);have t4:=hid (j5.at (z0a w1 _) id))
          |(refine z0e rfl 147 _ _ rfl w1 _ (tkA j1) _ rfl rfl rfl (Q0t j8.out) (Q0l rfl (z0u j8.out)) (z1h _) ?_)
          |(go_at_call 64;refine(BA.out _ kd.out).mono ?_;rintro e w1⟨rfl,jb⟩;have ke:wr.heap.size<w1.heap.size:=(by have:=jb.size;simp at this;omega);have f1:Hid (Q0a wr w1):=Mod.trans ((mRf _ wr).alloc _) jb;have p1:=hid (jb.at k6.out id);have s1:=hid (jb.at (z0a _ _) id);have k1:(w1.alloc (.cells (tkA j1) 147 (0,0))).cell? ⟨wo.heap.size,0,none⟩=some (.int .i64 ph):=(by rw[Q0b (z0b p1.out) 0];rfl);have kg:(w1.alloc (.cells (tkA j1) 147 (0,0))).cell? ⟨wr.heap.size,1,none⟩=some (.int .i64 sn):=(by rw[Q0b (z0b s1.out) 1];rfl))
          |(refine qAe rfl 93 _ rfl gs (os+j*2) rfl [.bool true,.int .i64 sn] _ RS.out qCf rfl W0i ?_))
        all_goals
          rename_i hq;go_roundw
          case rel =>
            first
              | (refine⟨j+1,true,_,rfl,by go_num,by omega,jk,?_,Mod.trans jo.out (Mod.trans (Mod.mono f5.out (fun _ _ x=>x.elim)) je),p6.out⟩
                 have:=j2.out;rw[hq,qEl]at this;exact this)
              | (refine⟨j+1,jp,_,rfl,by go_num,by omega,jk,?_,Mod.trans jo.out (Mod.trans (Mod.mono f5.out (fun _ _ x=>x.elim)) je),p6.out⟩
                 have:=j2.out;rw[hq,qDk]at this;exact this)
          exact k0.out
      simp only[qBn]at j0;have jj:=hid (z04 j8.out jg.fo);have ja:=hid (z04 j3.fo jj.out);have ji:Hid (Hd.ok {hd with fo:=orL hd.fo (orL j1 hp.fo)}):=⟨j3.fi,ja.out⟩;generalize hpb:Q67 j9 sn {hd with fo:=orL hd.fo (orL j1 hp.fo)}=pb at j0;have ju:=hid hpb;have j2:=hid j0;clear j0 hpb;go_wp2_with (first
        |(go_at_call 129;refine(PA.out _ {hd with fo:=orL hd.fo (orL j1 hp.fo)} ji.out (jh.fresh f5.out)).mono ?_;rintro e w6⟨rfl,jk,je⟩;have p6:=hid (je.at p5.out ka.out);rw[ju.out])
        |(refine qAf rfl 200 _ rfl w4.heap.size rfl _ _ _ _ jv.out qCp rfl (Q1q ji.out) ?_)
        |(refine qEv rfl 147 _ _ rfl w4.heap.size 12 (tkA (orL hd.fo (orL j1 hp.fo))) rfl rfl (by rw[z0u ja.out];exact z4n j3.out jl.out (by omega)) (Q0t ja.out) (z1h _) ?_)
        |(go_at_call 65;have j4:=j5.size;clear j4;refine(z1c _ hd.fo (orL j1 hp.fo) j3.fo jj.out).mono ?_;rintro e w5⟨rfl,jc⟩;have jl:=hid (jc.at (z0a w4 _) id);have f5:Hid (Q0a wr (w5.setCells w4.heap.size 12 (tkA (orL hd.fo (orL j1 hp.fo))).toList)):=Mod.setCells (by intro q;omega) _ _ _ (Mod.trans (f4.alloc _) jc);have p5:Hid ((w5.setCells w4.heap.size 12 (tkA (orL hd.fo (orL j1 hp.fo))).toList).heap[wo.heap.size]? = some (.cells #[.int .i64 ph,.slice (some ⟨gs,os,none⟩) j6.length jd] 85 (0,0))):=(by unfold Hid;rw[z1p (by omega)];exact jc.at (z0b p4.out) id);have k5:(w5.setCells w4.heap.size 12 (tkA (orL hd.fo (orL j1 hp.fo))).toList).cell? ⟨wr.heap.size,1,none⟩=some (.int .i64 sn):=(by rw[z00 (by omega),Q0b (jc.at (z0b s4.out) id) 1];rfl);have jv:Hid ((w5.setCells w4.heap.size 12 (tkA (orL hd.fo (orL j1 hp.fo))).toList).heap[w4.heap.size]? = some (.cells (hdA {hd with fo:=orL hd.fo (orL j1 hp.fo)}) 200 (0,0))):=(by unfold Hid;rw[z0q _ _ _ _ _ _ _ jl.out];rw[← z6i j3.out ja.out];rfl))
        |(refine qAf rfl 147 _ rfl w1.heap.size rfl _ _ _ _ (z0b t4.out) qAk rfl (Q0t jj.out) ?_)
        |(refine qAe rfl 147 _ rfl w4.heap.size 12 rfl (bls hd.fo) _ (Q4u j3.out (z0a _ _)) qAk rfl (Q5u j3.fo) ?_)
        |(refine z0e rfl 200 _ _ rfl w4 _ (hdA hd) _ rfl rfl rfl (Q1q j3.out) (Q0l rfl (z07 j3.out)) (z1w _) ?_)
        |(go_at_call 101;refine(jz.out _ (jh.fresh f3.out)).mono ?_;rintro e w4⟨rfl,j5⟩;have kf:w1.heap.size<w4.heap.size:=(by have h1:=j5.size;simp at h1;first|omega|(have:=z0j t3.out;omega));have f4:Hid (Q0a wr w4):=Mod.trans f3.out j5;have p4:=hid (j5.at p3.out id);have s4:=hid (j5.at s3.out id);have t4:=hid (j5.at kh.out id))
        |(refine qAg rfl 147 _ _ rfl w1.heap.size _ rfl rfl _ _ t3.out (Q0t jj.out) (Q0l (z0u j8.out) (z0u jj.out)) (z1h _) ?_)
        |(go_at_call 65;refine(z1c _ j1 hp.fo j8.out jg.fo).mono ?_;rintro e w3⟨rfl,js⟩;have t3:=hid (js.at (z0b t2.out) id);have f3:Hid (Q0a wr (w3.setRow w1.heap.size (tkA (orL j1 hp.fo)))):=(Mod.trans (f2.alloc _) js).setRow (by intro q;omega) _;have p3:=hid (z0p (g:=w1.heap.size) (cs:=tkA (orL j1 hp.fo)) (js.at (z0b p2.out) id) (by omega));have s3:=hid (z0p (g:=w1.heap.size) (cs:=tkA (orL j1 hp.fo)) (js.at (z0b s2.out) id) (by omega));have kh:=hid (qAn _ _ _ (tkA (orL j1 hp.fo)) _ _ t3.out);have k3:(w3.setRow w1.heap.size (tkA (orL j1 hp.fo))).cell? ⟨wr.heap.size,1,none⟩=some (.int .i64 sn):=(by rw[Q0b s3.out 1];rfl))
        |(refine qAe rfl 147 _ rfl w2.heap.size 12 rfl (bls hp.fo) _ (Q4u jg.out (z0a _ _)) qAk rfl (Q5u jg.fo) ?_)
        |(refine qAf rfl 147 _ rfl w1.heap.size rfl _ _ _ _ (z0b t2.out) qAk rfl (Q0t j8.out) ?_)
        |(refine z0e rfl 200 _ _ rfl w2 _ (hdA hp) _ rfl rfl rfl (Q1q jg.out) (Q0l rfl (z07 jg.out)) (z1w _) ?_)
        |(go_at_call 101;refine(kb.out _ (jh.fresh (f1.alloc _))).mono ?_;rintro e w2⟨rfl,jn⟩;have x1:w1.heap.size<w2.heap.size:=(by have:=jn.size;simp at this;omega);have f2:Hid (Q0a wr w2):=Mod.trans (f1.alloc _) jn;have p2:=hid (jn.at (z0b p1.out) id);have s2:=hid (jn.at (z0b s1.out) id);have t2:=hid (jn.at (z0a w1 _) id))
        |(refine z0e rfl 147 _ _ rfl w1 _ (tkA j1) _ rfl rfl rfl (Q0t j8.out) (Q0l rfl (z0u j8.out)) (z1h _) ?_)
        |(go_at_call 64;refine(BA.out _ kd.out).mono ?_;rintro e w1⟨rfl,jb⟩;have ke:wr.heap.size<w1.heap.size:=(by have:=jb.size;simp at this;omega);have f1:Hid (Q0a wr w1):=Mod.trans ((mRf _ wr).alloc _) jb;have p1:=hid (jb.at k6.out id);have s1:=hid (jb.at (z0a _ _) id);have k1:(w1.alloc (.cells (tkA j1) 147 (0,0))).cell? ⟨wo.heap.size,0,none⟩=some (.int .i64 ph):=(by rw[Q0b (z0b p1.out) 0];rfl);have kg:(w1.alloc (.cells (tkA j1) 147 (0,0))).cell? ⟨wr.heap.size,1,none⟩=some (.int .i64 sn):=(by rw[Q0b (z0b s1.out) 1];rfl))
        |(refine qAe rfl 93 _ rfl gs (os+j*2) rfl [.bool true,.int .i64 sn] _ RS.out qCf rfl W0i ?_))
      all_goals
        rename_i hq;go_roundw
        case rel =>
          first
            | (refine⟨j+1,true,_,rfl,by go_num,by omega,jk,?_,Mod.trans jo.out (Mod.trans (Mod.mono f5.out (fun _ _ x=>x.elim)) je),p6.out⟩
               have:=j2.out;rw[hq,qEl]at this;exact this)
            | (refine⟨j+1,jp,_,rfl,by go_num,by omega,jk,?_,Mod.trans jo.out (Mod.trans (Mod.mono f5.out (fun _ _ x=>x.elim)) je),p6.out⟩
               have:=j2.out;rw[hq,qDk]at this;exact this)
        exact k0.out
    have kx:j=j6.length:=by omega
    rw[kx,qCy]at j0;have jf:(j9,jp)=RR:=j0;have j2:=hid jf;have xd:¬(j:Int)<(j6.length:Int):=by omega
    clear j0 jf jq;go_wp2;go_roundw
    case rel =>
      refine⟨i+1,jp,j9,rfl,by go_num,by omega,jh.out,?_,jo.out⟩;have:=jr.out;rw[← j2.out]at this;exact this
    exact ks.out
  have kw:i=ps.length:=by omega
  rw[kw,qCy]at j7;have jf:(jy,gr)=RES:=j7;have jr:=hid jf;have xb:¬(i:Int)<(ps.length:Int):=by omega
  clear j7 hF;go_wp2;go_ret;exact⟨z0w (by rw[← jr.out]),by rw[← jr.out];exact HF.out,k4.out⟩
theorem y60(w:World)(b:Nat)(R H:Int)(vp vh:Value)(ps:List PV)(hs:List Hd)(h:FA w b R H vp vh ps hs)(hps:ps.length<=1000) :
    Calls Tryz.prog 100 #[Q3c b] w fun e w'=>e=.returned (.tuple #[])/\FA w' b R H vp vh ps (Q33 (Q0k ps) hs)/\Mod (Q2c vh) w w':=by
  have ju:=hid h;generalize hR1:Q47 (Q8h (Q0k ps)) hs=R1;have jv:Hid (Q3p (Q8h (Q0k ps)) R1 true hs):=by unfold Hid;rw[← hR1];exact Q3p.start _ _
  generalize hR2:Q47 (Q5q (Q0k ps)) R1=R2;have jw:Hid (Q3p (Q5q (Q0k ps)) R2 true R1):=by unfold Hid;rw[← hR2];exact Q3p.start _ _
  generalize hR3:Q47 (Q64 (Q0k ps)) R2=R3;have jx:Hid (Q3p (Q64 (Q0k ps)) R3 true R2):=by unfold Hid;rw[← hR3];exact Q3p.start _ _
  generalize hR4:Q47 (Q73 (Q0k ps)) R3=R4;have jy:Hid (Q3p (Q73 (Q0k ps)) R4 true R3):=by unfold Hid;rw[← hR4];exact Q3p.start _ _
  have js:Hid (Q33 (Q0k ps) hs=R4):=by unfold Hid Q33;rw[hR1,hR2,hR3,hR4]
  clear hR1 hR2 hR3 hR4 h;have GB:=hid (fun w hs (h:FA w b R H vp vh ps hs)=>x2z w b R H vp vh ps hs h hps);have GS:=hid (fun w hs (h:FA w b R H vp vh ps hs)=>x23 w b R H vp vh ps hs h hps);have GR:=hid (fun w hs (h:FA w b R H vp vh ps hs)=>x22 w b R H vp vh ps hs h hps);have GU:=hid (fun w hs (h:FA w b R H vp vh ps hs)=>x21 w b R H vp vh ps hs h hps);go_enter Tryz.func100,Tryz.ntmps100
  go_wp2;go_loopw [2] (fun x2 wr=>∃(g:Bool) (jc:List Hd),x2=.bool g/\FA wr b R H vp vh ps jc/\jc.length=hs.length/\Q3p (Q8h (Q0k ps)) R1 g jc/\Mod (Q2c vh) w wr)
      (fun x wr=>2*muW vh hs.length wr+Q8d x)
  case atStart=>exact⟨true,hs,rfl,ju.out,rfl,jv.out,mRf _ w⟩
  obtain⟨g,jc,rfl,hF,j1,j0,j2⟩:=hrel;have HF:=hid hF;have jt:=hid j0;have jq:=hid j2;have j8:=hid j1;clear hF j0 j2 j1;cases g
  · have e1:jc=R1:=jt.out
    subst e1;obtain⟨wo,jr⟩:∃wo,wo=wr:=⟨_,rfl⟩;subst jr;go_wp2;go_loopw [2] (fun x2 wr=>∃(g:Bool) (jd:List Hd),x2=.bool g/\FA wr b R H vp vh ps jd/\jd.length=hs.length/\Q3p (Q5q (Q0k ps)) R2 g jd/\Mod (Q2c vh) w wr)
        (fun x wr=>2*muW vh hs.length wr+Q8d x)
    case atStart=>exact⟨true,jc,rfl,HF.out,j8.out,jw.out,jq.out⟩
    obtain⟨g,jd,rfl,hF,j1,j0,j2⟩:=hrel;have jk:=hid hF;have jn:=hid j0;have j9:=hid j2;have j3:=hid j1;clear hF j0 j2 j1;cases g
    · have e1:jd=R2:=jn.out
      subst e1;obtain⟨jz,jr⟩:∃wo,wo=wr:=⟨_,rfl⟩;subst jr;go_wp2;go_loopw [2] (fun x2 wr=>∃(g:Bool) (je:List Hd),x2=.bool g/\FA wr b R H vp vh ps je/\je.length=hs.length/\Q3p (Q64 (Q0k ps)) R3 g je/\Mod (Q2c vh) w wr)
          (fun x wr=>2*muW vh hs.length wr+Q8d x)
      case atStart=>exact⟨true,jd,rfl,jk.out,j3.out,jx.out,j9.out⟩
      obtain⟨g,je,rfl,hF,j1,j0,j2⟩:=hrel;have jl:=hid hF;have jo:=hid j0;have ja:=hid j2;have j4:=hid j1;clear hF j0 j2 j1;cases g
      · have e1:je=R3:=jo.out
        subst e1;obtain⟨k0,jr⟩:∃wo,wo=wr:=⟨_,rfl⟩;subst jr;go_wp2;go_loopw [2] (fun x2 wr=>∃(g:Bool) (jj:List Hd),x2=.bool g/\FA wr b R H vp vh ps jj/\jj.length=hs.length/\Q3p (Q73 (Q0k ps)) R4 g jj/\Mod (Q2c vh) w wr)
            (fun x wr=>2*muW vh hs.length wr+Q8d x)
        case atStart=>exact⟨true,je,rfl,jl.out,j4.out,jy.out,ja.out⟩
        obtain⟨g,jj,rfl,hF,j1,j0,j2⟩:=hrel;have jm:=hid hF;have jp:=hid j0;have jb:=hid j2;have j5:=hid j1;clear hF j0 j2 j1;cases g
        · have e1:jj=R4:=jp.out
          subst e1;go_wp2;refine qFf (qDe rfl _ _ _) rfl ⟨rfl,?_,jb.out⟩;rw[js.out];exact jm.out
        go_wp2_with (first
          |(go_at_call 123;refine(GU.out _ jj jm.out).mono ?_;rintro e w1⟨rfl,j6,jh⟩))
        have j7:=z2i (Q0k ps) jj jm.ok;have jg:=jm.mu' j5.out;have ji:=j6.mu' (j7.len.trans j5.out);have jf:=Q3p.less (z2i (Q0k ps)) jm.ok;go_roundw
        case rel=>exact⟨_,_,rfl,j6,j7.len.trans j5.out,Q3p.next (z2i _) jm.ok jp.out,Mod.trans jb.out jh⟩
        rw[jg,ji];exact jf
      go_wp2_with (first
        |(go_at_call 122;refine(GR.out _ je jl.out).mono ?_;rintro e w1⟨rfl,j6,jh⟩))
      have j7:=z2g (Q0k ps) je jl.ok;have jg:=jl.mu' j4.out;have ji:=j6.mu' (j7.len.trans j4.out);have jf:=Q3p.less (z2g (Q0k ps)) jl.ok;go_roundw
      case rel=>exact⟨_,_,rfl,j6,j7.len.trans j4.out,Q3p.next (z2g _) jl.ok jo.out,Mod.trans ja.out jh⟩
      rw[jg,ji];exact jf
    go_wp2_with (first
      |(go_at_call 121;refine(GS.out _ jd jk.out).mono ?_;rintro e w1⟨rfl,j6,jh⟩))
    have j7:=z2h (Q0k ps) jd jk.ok;have jg:=jk.mu' j3.out;have ji:=j6.mu' (j7.len.trans j3.out);have jf:=Q3p.less (z2h (Q0k ps)) jk.ok;go_roundw
    case rel=>exact⟨_,_,rfl,j6,j7.len.trans j3.out,Q3p.next (z2h _) jk.ok jn.out,Mod.trans j9.out jh⟩
    rw[jg,ji];exact jf
  go_wp2_with (first
    |(go_at_call 120;refine(GB.out _ jc HF.out).mono ?_;rintro e w1⟨rfl,j6,jh⟩))
  have j7:=z22 (Q0k ps) jc HF.ok;have jg:=HF.mu' j8.out;have ji:=j6.mu' (j7.len.trans j8.out);have jf:=Q3p.less (z22 (Q0k ps)) HF.ok;go_roundw
  case rel=>exact⟨_,_,rfl,j6,j7.len.trans j8.out,Q3p.next (z22 _) HF.ok jt.out,Mod.trans jq.out jh⟩
  rw[jg,ji];exact jf
abbrev Q76(r:Wd × Int × Bool):Value:=.tuple #[.agg r.1.cells.toArray,.int .i64 r.2.1,.bool r.2.2]
theorem x9k(p:Int)(ls:List Int)(n:Nat)(c:Int):(Wd.cells ⟨p,ls⟩).toArray.setIfInBounds (n+1) (.int .u8 c)=(Wd.cells ⟨p,ls.set n c⟩).toArray:=by
  simp[Wd.cells,qFr]
theorem v3g(p:Int)(ls:List Int)(n:Nat)(h:n<ls.length):(Wd.cells ⟨p,ls⟩).toArray[n+1]? = some (.int .u8 (ls.getD n 0)):=by
  simp[Wd.cells,h]
theorem y29{c:Int}(h:Q0m c=true):97<=c/\c<=122:=by simp[Q0m]at h;omega
theorem x2a{c:Int}(h:Q1a c=true):65<=c/\c<=90:=by simp[Q1a]at h;omega
theorem y7m(s:ByteArray)(i:Int)(w:World)(hs:s.size<=1000)(h0:0<=i)(h1:i<=2000)(hc:(!Q0m (atB s i)&&!Q1a (atB s i))=true) :
    Calls Tryz.prog 88 #[.string s,.int .i64 i] w fun e w'=>e=.returned (Q76 (Q07 s i))/\Q0a w w':=by
  have e1:Q07 s i=(⟨0,zero8⟩,i,false):=by unfold Q07;rw[qAb hc]
  rw[e1];simp only[qAd,Bool.not_eq_true']at hc;obtain⟨c1,c2⟩:=hc;clear e1;go_enter Tryz.func88,Tryz.ntmps88
  go_wp2_with (first
    |(go_at_call 97;refine csm (z0x _ _ _ (by unfold maxLen;omega)) ?_)
    |(go_at_call 116;refine(z3o _ _).mono ?_;rw[c1];rintro e w'⟨rfl,hw⟩;rw[hw];clear hw)
    |(go_at_call 99;refine(z6j _ _).mono ?_;rw[c2];rintro e w'⟨rfl,hw⟩;rw[hw];clear hw))
  refine qAc (z0i rfl _ _ w.heap.size 76 (Wd.cells ⟨0,zero8⟩).toArray (0,0) _ rfl ?_ qAx rfl Q2s) rfl ⟨rfl,?_⟩
  · exact qBg _ _ _
  exact((mRf _ w).alloc _).alloc _
theorem y5p(s:ByteArray)(i:Int)(w:World)(hs:s.size<=1000)(h0:0<=i)(h1:i<=2000)(hc:(!Q0m (atB s i)&&!Q1a (atB s i))=false) :
    Calls Tryz.prog 88 #[.string s,.int .i64 i] w fun e w'=>e=.returned (Q76 (Q07 s i))/\Q0a w w':=by
  have e1:Q07 s i=(⟨i,(Q2l s i 9 1 (zero8.set 0 (atB s i))).1⟩,(Q2l s i 9 1 (zero8.set 0 (atB s i))).2,true):=by unfold Q07;rw[qAa (by simp[hc])]
  rw[e1];have j0:=z7d s i 9 1 (zero8.set 0 (atB s i)) rfl;generalize hR:Q2l s i 9 1 (zero8.set 0 (atB s i))=R at j0;have HR:=hid hR;have j7:=hid j0;have jd:0<=atB s i/\atB s i<=255:=by
    have:=z8p s i;refine⟨?_,by omega⟩;simp only[Bool.and_eq_false_iff,Bool.not_eq_false']at hc;rcases hc with h|h
    · have:=y29 h;omega
    have:=x2a h;omega
  obtain⟨je,jf⟩:=jd;have jc:Q0m (atB s i)=true∨Q0m (atB s i)=false/\Q1a (atB s i)=true:=by
    simp only[Bool.and_eq_false_iff,Bool.not_eq_false']at hc;cases h:Q0m (atB s i)
    · right;rcases hc with h2|h2
      · rw[h]at h2;cases h2
      exact⟨rfl,h2⟩
    exact .inl rfl
  clear e1 hR hc j0;rcases jc with c1|⟨c1,c2⟩;all_goals
    go_enter Tryz.func88,Tryz.ntmps88
    go_wp2_with (first
      |(go_at_call 97;refine csm (z0x _ _ _ (by unfold maxLen;omega)) ?_)
      |(go_at_call 116;refine(z3o _ _).mono ?_;rw[c1];rintro e w'⟨rfl,hw⟩;rw[hw];clear hw)
      |(go_at_call 99;refine(z6j _ _).mono ?_;rw[c2];rintro e w'⟨rfl,hw⟩;rw[hw];clear hw))
    go_loopw [8,9] (fun x8 x9 wr=>∃(f n:Nat) (ls:List Int) (c:Int),x8=.int .i64 c/\x9=.int .i64 n/\Q2l s i f n ls=R/\ls.length=8/\n<=8/\10<=f+n /\
        wr.heap[w.heap.size]? = some (.cells (Wd.cells ⟨0,zero8⟩).toArray 76 (0,0))/\wr.heap[w.heap.size+1]? = some (.cells (Wd.cells ⟨i,ls⟩).toArray 76 (0,0))/\Q0a w wr)
        (fun _ x _=>9-(intOf x).toNat)
    case atStart =>
      refine⟨9,1,zero8.set 0 (atB s i),_,rfl,rfl,HR.out,rfl,by omega,by omega,qBg _ _ _,?_,((mRf _ w).alloc _).alloc _⟩;exact qBa _ _ _
    obtain⟨f,n,ls,c,rfl,rfl,hR,hl,jh,jg,j5,j6,j4⟩:=hrel;obtain⟨f,rfl⟩:∃g,f=g+1:=⟨f-1,by omega⟩;unfold Q2l at hR;have j8:=hid (Q19 (B:=9) n (by omega));have j1:=hid j5;have j2:=hid j6;have HL:=hid hl;have j9:=z8p s (i+n);obtain⟨ja,jb⟩:=j9;clear j5 j6 hl;by_cases h8:n<8
    · rw[qAb h8]at hR
      cases hsm:Q0m (atB s (i+n))
      · rw[hsm]at hR
        simp only[qF,qAz]at hR;have j3:=hid hR;clear hR;go_wp2_with (first
          |(go_at_call 97;refine csm (z0x _ _ _ (by unfold maxLen;omega)) ?_)
          |(go_at_call 116;refine(z3o _ _).mono ?_;rw[hsm];rintro e w'⟨rfl,hw⟩;rw[hw];clear hw)
          |(refine qAf rfl 76 _ rfl (w.heap.size+1) rfl _ _ _ _ j2.out qAx rfl (Q1w HL.out) ?_)
          |(refine qAg rfl 76 _ _ rfl w.heap.size _ rfl rfl _ _ j1.out (Q1w HL.out) (Q0l rfl (Wd.size HL.out)) (Wd.one _) ?_))
        refine qAc (z0i rfl _ _ w.heap.size 76 _ (0,0) _ rfl (qAn _ _ _ _ _ _ j1.out) qAx rfl (Q1w HL.out)) rfl ⟨?_,j4.setRow (by simp) _⟩;rw[← j3.out];rfl
      rw[hsm]at hR;simp only[qBn]at hR;have j3:=hid hR;have ji:=y29 hsm;have k1:wr.cell? ⟨w.heap.size+1,n+1,none⟩=some (.int .u8 (ls.getD n 0)):=by rw[Q0b j2.out,v3g _ _ _ (by rw[HL.out];omega)]
      have jj:wr.cell? ⟨w.heap.size+1,1+n,none⟩=some (.int .u8 (ls.getD n 0)):=by rw[Nat.add_comm 1 n];exact k1
      have k2:=Q0f j2.out;clear hR;go_wp2_with (first
        |(go_at_call 97;refine csm (z0x _ _ _ (by unfold maxLen;omega)) ?_)
        |(go_at_call 116;refine(z3o _ _).mono ?_;rw[hsm];rintro e w'⟨rfl,hw⟩;rw[hw];clear hw))
      go_roundw
      case rel =>
        refine⟨f,n+1,_,_,rfl,by go_num,j3.out,by simpa using HL.out,by omega,by omega,?_,?_,j4.setCell (by simp) _⟩
        · exact z0h j1.out (by simp)
        rw[zhs j2.out];first
          |rw[x9k]
          |rw[Nat.add_comm 1 n,x9k]
      exact j8.out
    rw[qAa h8]at hR;have hn:n=8:=by omega
    subst hn;have j3:=hid hR;clear hR;go_wp2_with (first
      |(refine qAf rfl 76 _ rfl (w.heap.size+1) rfl _ _ _ _ j2.out qAx rfl (Q1w HL.out) ?_)
      |(refine qAg rfl 76 _ _ rfl w.heap.size _ rfl rfl _ _ j1.out (Q1w HL.out) (Q0l rfl (Wd.size HL.out)) (Wd.one _) ?_))
    refine qAc (z0i rfl _ _ w.heap.size 76 _ (0,0) _ rfl (qAn _ _ _ _ _ _ j1.out) qAx rfl (Q1w HL.out)) rfl ⟨?_,j4.setRow (by simp) _⟩;rw[← j3.out];rfl
theorem z71(s:ByteArray)(i:Int)(w:World)(hs:s.size<=1000)(h0:0<=i)(h1:i<=2000) :
    Calls Tryz.prog 88 #[.string s,.int .i64 i] w fun e w'=>e=.returned (Q76 (Q07 s i))/\Q0a w w':=by
  cases hc:(!Q0m (atB s i)&&!Q1a (atB s i))
  · exact y5p s i w hs h0 h1 hc
  exact y7m s i w hs h0 h1 hc
structure Ln where
  front:Wd
  skip:Bool
  ns:List Q0q
  st:Int
  en:Int
  syms:List Wd
structure LV where
  ln:Ln
  vn:Value
  vs:Value
def LV.cells(x:LV):List Value:=x.ln.front.cells++[.bool x.ln.skip,x.vn,.int .i64 x.ln.st,.int .i64 x.ln.en,x.vs]
def Q4j:Ln:=⟨⟨0,zero8⟩,false,[],0,0,[]⟩
abbrev Q30:=Q18 Wd.cells 9 76
structure LV.At(w:World)(x:LV):Prop where
  nodes:Q15 w x.vn x.ln.ns
  syms:Q30 w x.vs x.ln.syms
  front:x.ln.front.ls.length=8
  small:x.ln.ns.length<=5000
theorem z6s{w:World}{base size n:Nat}{e:TypeId}{v:Value}{xs:List Value}(h:w.ownsRow base e size v n xs):v.oneCell'=true:=by
  obtain⟨a,c,rfl⟩:=z0c h;rfl
theorem LV.cells_len{x:LV}(h:x.ln.front.ls.length=8):x.cells.length=14:=by simp[LV.cells,Wd.cells,h]
theorem LV.At.one{w:World}{x:LV}(h:x.At w):x.cells.toArray.all (·.oneCell')=true:=by
  apply qCq;have h1:=z6s h.nodes.own;have h2:=z6s h.syms.own;intro v hv;simp[LV.cells,Wd.cells]at hv;rcases hv with rfl|⟨a,_,rfl⟩|rfl|rfl|rfl|rfl|rfl
  · rfl
  · rfl
  · rfl
  · exact h1
  · rfl
  · rfl
  exact h2
theorem LV.At.fresh{w w':World}{x:LV}(h:x.At w)(hm:Q0a w w'):x.At w':=⟨h.nodes.fresh hm,h.syms.fresh hm,h.front,h.small⟩
theorem Q1e:(Tryz.prog.info? 81).map (·.size)=some 14:=by kernel_rfl
theorem Q09{x:LV}(h:x.ln.front.ls.length=8):(Tryz.prog.info? 81).map (·.size)=some x.cells.toArray.size:=by rw[List.size_toArray,LV.cells_len h];exact Q1e
theorem LV.size{x:LV}(h:x.ln.front.ls.length=8):x.cells.toArray.size=14:=by rw[List.size_toArray,LV.cells_len h]
def zeroLV:LV:=⟨Q4j,.slice none 0 0,.slice none 0 0⟩
theorem z4f(w:World):zeroLV.At w:=⟨⟨qAh _ _ _ _,fun _ h=>by cases h⟩,Q18.nil _ _ _ _,rfl,by simp[zeroLV,Q4j]⟩
theorem Q59{ls:List Int}(h:ls.length=8):∃a b c d e f g k,ls=[a,b,c,d,e,f,g,k]:=by
  match ls,h with
  | [a,b,c,d,e,f,g,k],_=>exact⟨a,b,c,d,e,f,g,k,rfl⟩
def Q16(d:Wd):Bool:=Q1a (d.ls.getD 0 0)
theorem z5m(d:Wd)(w:World)(hl:d.ls.length=8)(hb:0<=d.ls.getD 0 0/\d.ls.getD 0 0<=255) :
    Calls Tryz.prog 60 #[.agg d.cells.toArray] w fun e w'=>e=.returned (.bool (Q16 d))/\Q0a w w':=by
  obtain⟨p,ls⟩:=d;obtain⟨a,b,c,d,e,f,g,k,rfl⟩:=Q59 hl;have e1:(Wd.cells ⟨p,[a,b,c,d,e,f,g,k]⟩).toArray=#[.int .i64 p,.int .u8 a,.int .u8 b,.int .u8 c,.int .u8 d,.int .u8 e,.int .u8 f,.int .u8 g,.int .u8 k]:=rfl;have e2:Q16 ⟨p,[a,b,c,d,e,f,g,k]⟩=Q1a a:=rfl;rw[e1,e2];simp at hb;obtain⟨j0,j1⟩:=hb;clear e1 e2 hl;go_enter Tryz.func60,Tryz.ntmps60
  go_wp2_with (go_at_call 99;refine csm (z6j _ _) ?_)
  go_ret;exact⟨rfl,(mRf _ _).alloc _⟩
theorem z2l(x:LV)(w:World)(hl:x.ln.front.ls.length=8)(hb:0<=x.ln.front.ls.getD 0 0/\x.ln.front.ls.getD 0 0<=255) :
    Calls Tryz.prog 30 #[.agg x.cells.toArray] w fun e w'=>e=.returned (.bool (!Q16 x.ln.front))/\Q0a w w':=by
  have RG:Hid ((w.alloc (.cells x.cells.toArray 81)).rangeAt w.heap.size 0 x.ln.front.cells):=by
    intro j v hj;rw[Q0b (z0a _ _)];simp only[LV.cells,qBy,qDp];rw[qAl (qS hj).1];exact hj
  go_enter Tryz.func30,Tryz.ntmps30
  go_wp2_with (first
    |(go_at_call 60;refine(z5m _ _ hl hb).mono ?_;rintro e w1⟨rfl,hf⟩)
    |(refine qAe rfl 76 _ rfl w.heap.size 0 rfl x.ln.front.cells _ RG.out qAx rfl (by rw[Wd.cells_len hl];exact Q2s) ?_))
  go_ret;exact⟨rfl,((mRf _ w).alloc _).trans hf⟩
end Go.Proofs.YtbdpfmalabgmbaaGreat
