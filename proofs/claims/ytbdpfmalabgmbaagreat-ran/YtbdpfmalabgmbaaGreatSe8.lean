import Derived.Test.YtbdpfmalabgmbaaGreatSe3
namespace Go.Proofs.YtbdpfmalabgmbaaGreat
open Go.RowKit
set_option maxRecDepth 99999
set_option maxHeartbeats 0
set_option linter.all false
theorem y2i(h:Hd)(v:Bool):(hdA h).setIfInBounds 0 (.bool v)=hdA {h with nul:=v}:=by simp[hdA,Hd.cells]
theorem v0e(h:Hd)(v:Bool):(hdA h).setIfInBounds 1 (.bool v)=hdA {h with rch:=v}:=by simp[hdA,Hd.cells]
theorem v0f(h:Hd)(v:Bool):(hdA h).setIfInBounds 2 (.bool v)=hdA {h with fru:=v}:=by simp[hdA,Hd.cells]
theorem y8r{h:Hd}(k:h.ok){l:List Bool}(hl:l.length=9):Q5a (hdA h) 3 (bls l)=hdA {h with fi:=l}:=by
  obtain⟨n,r,f,fi,fo⟩:=h;obtain⟨a0,a1,a2,a3,a4,a5,a6,a7,a8,e⟩:=Q7n k.fi;obtain⟨b0,b1,b2,b3,b4,b5,b6,b7,b8,e2⟩:=Q7n k.fo;obtain⟨c0,c1,c2,c3,c4,c5,c6,c7,c8,e3⟩:=Q7n hl;dsimp only at e e2;subst e;subst e2;subst e3;simp[hdA,Hd.cells,bls,Q5a]
theorem z6i{h:Hd}(k:h.ok){l:List Bool}(hl:l.length=9):Q5a (hdA h) 12 (bls l)=hdA {h with fo:=l}:=by
  obtain⟨n,r,f,fi,fo⟩:=h;obtain⟨a0,a1,a2,a3,a4,a5,a6,a7,a8,e⟩:=Q7n k.fi;obtain⟨b0,b1,b2,b3,b4,b5,b6,b7,b8,e2⟩:=Q7n k.fo;obtain⟨c0,c1,c2,c3,c4,c5,c6,c7,c8,e3⟩:=Q7n hl;dsimp only at e e2;subst e;subst e2;subst e3;simp[hdA,Hd.cells,bls,Q5a]
theorem z4n{w:World}{g:Nat}{h:Hd}{t:TypeId}(k:h.ok)(hb:w.heap[g]? = some (.cells (hdA h) t (0,0))){o n:Nat}(ho:o+n<=21):w.there g o n:=fun j hj=>by
  refine⟨?_,Q0f hb _⟩;rw[Q0b hb];have:=z07 k;simp[this];omega
theorem z00{w:World}{g o:Nat}{vs:List Value}{b:Nat}{p:Nat}(hb:b≠g):(w.setCells g o vs).cell? ⟨b,p,none⟩=w.cell? ⟨b,p,none⟩ :=
  World.cell?_setCells_out g vs o w ⟨b,p,none⟩ (fun e=>absurd e hb)
def Q2c(v:Value):Nat->Prop:=fun k=>v.ownBlock=some k
theorem x2z(w:World)(b:Nat)(R H:Int)(vp vh:Value)(ps:List PV)(hs:List Hd)(h:FA w b R H vp vh ps hs)(hps:ps.length<=1000) :
    Calls Tryz.prog 120 #[Q3c b] w fun e w'=>e=.returned (.bool (Q5k (Q0k ps) hs false).2)/\FA w' b R H vp vh ps (Q5k (Q0k ps) hs false).1/\Mod (Q2c vh) w w':=by
  have ju:=hid h;obtain⟨ao,cap,hv⟩:=z0c h.prs.row.own;subst hv;have k2:=h.cell 2;simp at k2;generalize hR:Q5k (Q0k ps) hs false=RES;have HR:=hid hR;clear hR h;go_enter Tryz.func120,Tryz.ntmps120
  go_wp2;go_loopw [3,5,6,7,8,15] (fun x3 _ _ _ _ x15 wr=>∃(i:Nat) (gr:Bool) (j4:List Hd),x3=.bool gr/\x15=.int .i64 i/\i<=ps.length/\FA wr b R H (.slice ao ps.length cap) vh ps j4/\Q5k (Q0k (ps.drop i)) j4 gr=RES/\Mod (Q2c vh) w wr)
      (fun _ _ _ _ _ x _=>ps.length+1-(intOf x).toNat)
  case atStart=>exact⟨0,false,hs,rfl,rfl,by omega,ju.out,HR.out,mRf _ w⟩
  obtain⟨i,gr,j4,rfl,rfl,hi,hF,j0,ji⟩:=hrel;have jm:=hid (Q19 (B:=ps.length+1) i (by omega));have j6:=hid ji;have HF:=hid hF;clear ji;by_cases jr:i<ps.length
  · have k3:(i:Int)<(ps.length:Int):=by omega
    rw[qC jr]at j0;obtain⟨gp,jv,js⟩:=Joins.ownsRow_form hF.prs.row.own (by omega);rw[qI]at js;obtain⟨rfl,_,rfl⟩:=js;have RG:Hid (wr.rangeAt gp (i*2) [.int .i64 ps[i].pr.head,ps[i].vs]):=hF.prs.row.range i jr;have k0:=hF.size;have j9:=hid (hF.fresh ((mRf _ wr).alloc (.cells #[.int .i64 ps[i].pr.head,ps[i].vs] 85 (0,0))));have jf:=hid (j9.prs.syms ps[i] (by simp));unfold Q0k at j0;rw[qDl]at j0;unfold Q5k Q3i at j0;generalize ps[i].pr=pr at j0 RG jf j9;generalize ps[i].vs=pvs at RG jf j9;obtain⟨ph,jk⟩:=pr;dsimp only at j0 RG jf j9;obtain⟨jt,jl,jx,_⟩:=jf.out;subst jx;have j5:=hid (z1a hF.ok jk zero9 rfl);have j3:=hid (z0k hF.ok ph);have BA:=hid (z6a _ b R H _ vh ps j4 b _ jk j9.out (by simp;omega) jf.out);have GA:=hid (fun w (h:FA w b R H (.slice (some ⟨gp,0,none⟩) ps.length cap) vh ps j4)=>z4l w b R H _ vh ps j4 ph h);have PA:=hid (fun w (x:Hd) (hx:x.ok) (h:FA w b R H (.slice (some ⟨gp,0,none⟩) ps.length cap) vh ps j4)=>y2x w b R H _ vh ps j4 ph x hx h);generalize Q2q j4 jk zero9=bg at j0 j5 BA;generalize Q1k j4 ph=hd at j0 j3 GA;obtain⟨j1,jq⟩:=bg;dsimp only at j0 j5 BA;have ja:=hid (z04 j3.fi j5.out);clear hF;generalize hnn:(hd.nul||jq)=nn at j0;have je:Hid (Hd.ok {hd with nul:=nn}):=⟨j3.fi,j3.fo⟩;have jn:Hid (Hd.ok {hd with nul:=nn,fi:=orL hd.fi j1}):=⟨ja.out,j3.fo⟩;generalize hpb:Q67 j4 ph {hd with nul:=nn,fi:=orL hd.fi j1}=pb at j0;have jp:=hid hpb;have j2:=hid j0;clear j0 hpb;cases hn:hd.nul
    · have e1:nn=jq:=by rw[← hnn,hn];rfl
      clear hnn;subst e1;go_wp2_with (first
        |(refine qAe rfl 85 _ rfl gp (i*2) rfl [.int .i64 ph,.slice jt jk.length jl] _ RG.out qCz rfl W0n ?_)
        |(go_at_call 64;refine BA.mono ?_;rintro e w1⟨rfl,j7⟩;have jy:wr.heap.size<w1.heap.size:=(by have:=j7.size;simp at this;omega);have k1:(w1.alloc (.cells (tkA j1) 147 (0,0))).cell? ⟨wr.heap.size,0,none⟩=some (.int .i64 ph):=(by rw[Q0b (z0b (j7.at (z0a _ _) id)) 0];rfl))
        |(refine z0e rfl 147 _ _ rfl w1 _ (tkA j1) _ rfl rfl rfl (Q0t j5.out) (Q0l rfl (z0u j5.out)) (z1h _) ?_)
        |(go_at_call 101;refine(GA.out _ (j9.fresh (j7.alloc _))).mono ?_;rintro e w2⟨rfl,j8⟩;have jz:w1.heap.size<w2.heap.size:=(by have:=j8.size;simp at this;omega);have kk:(w2.alloc (.cells (hdA hd) 200 (0,0))).cell? ⟨w2.heap.size,0,none⟩=some (.bool hd.nul):=(by rw[Q0b (z0a w2 _) 0];exact y1e hd);rw[hn]at kk)
        |(refine z0e rfl 200 _ _ rfl w2 _ (hdA hd) _ rfl rfl rfl (Q1q j3.out) (Q0l rfl (z07 j3.out)) (z1w _) ?_)
        |(refine qAe rfl 147 _ rfl w2.heap.size 3 rfl (bls hd.fi) _ (Q6y (h:={hd with nul:=nn}) je.out (by rw[← y2i];exact z0a _ _)) qAk rfl (Q5u j3.fi) ?_)
        |(refine qAf rfl 147 _ rfl w1.heap.size rfl _ _ _ _ (z0b (j8.at (z0a _ _) id)) qAk rfl (Q0t j5.out) ?_)
        |(go_at_call 65;refine(z1c _ hd.fi j1 j3.fi j5.out).mono ?_;rintro e w3⟨rfl,jc⟩;have jb:=hid (jc.at (z0a w2 _) id);rw[y2i]at jb;have k4:(w3.setCells w2.heap.size 3 (tkA (orL hd.fi j1)).toList).cell? ⟨wr.heap.size,0,none⟩=some (.int .i64 ph):=(by rw[z00 (by omega),Q0b (jc.at (z0b (j8.at (z0b (j7.at (z0a _ _) id)) id)) id) 0];rfl);have jo:Hid ((w3.setCells w2.heap.size 3 (tkA (orL hd.fi j1)).toList).heap[w2.heap.size]? = some (.cells (hdA {hd with nul:=nn,fi:=orL hd.fi j1}) 200 (0,0))):=(by unfold Hid;rw[z0q _ _ _ _ _ _ _ jb.out];rw[← y8r je.out ja.out];rfl);have jd:Hid (Q0a wr (w3.setCells w2.heap.size 3 (tkA (orL hd.fi j1)).toList)):=Mod.setCells (by intro q;omega) _ _ _ (Mod.trans (Mod.trans (Mod.trans ((mRf _ wr).alloc _) j7 |>.alloc _) j8 |>.alloc _) jc))
        |(refine qEv rfl 147 _ _ rfl w2.heap.size 3 (tkA (orL hd.fi j1)) rfl rfl (by rw[z0u ja.out];exact z4n je.out jb.out (by omega)) (Q0t ja.out) (z1h _) ?_)
        |(refine qAf rfl 200 _ rfl w2.heap.size rfl _ _ _ _ jo.out qCp rfl (Q1q jn.out) ?_)
        |(go_at_call 129;refine(PA.out _ {hd with nul:=nn,fi:=orL hd.fi j1} jn.out (HF.fresh jd.out)).mono ?_;rintro e w4⟨rfl,jg,jh⟩;rw[jp.out]))
      · have hq:pb=true:=by assumption
        go_roundw
        case rel =>
          refine⟨i+1,true,_,rfl,by go_num,by omega,jg,?_,Mod.trans j6.out (Mod.trans (Mod.mono jd.out (fun _ _ x=>x.elim)) jh)⟩;have:=j2.out;rw[hq,qEl]at this;exact this
        exact jm.out
      have hq:pb=false:=by assumption
      go_roundw
      case rel =>
        refine⟨i+1,gr,_,rfl,by go_num,by omega,jg,?_,Mod.trans j6.out (Mod.trans (Mod.mono jd.out (fun _ _ x=>x.elim)) jh)⟩;have:=j2.out;rw[hq,qDk]at this;exact this
      exact jm.out
    have e1:nn=true:=by rw[← hnn,hn];rfl
    clear hnn;subst e1;go_wp2_with (first
      |(refine qAe rfl 85 _ rfl gp (i*2) rfl [.int .i64 ph,.slice jt jk.length jl] _ RG.out qCz rfl W0n ?_)
      |(go_at_call 64;refine BA.mono ?_;rintro e w1⟨rfl,j7⟩;have jy:wr.heap.size<w1.heap.size:=(by have:=j7.size;simp at this;omega);have k1:(w1.alloc (.cells (tkA j1) 147 (0,0))).cell? ⟨wr.heap.size,0,none⟩=some (.int .i64 ph):=(by rw[Q0b (z0b (j7.at (z0a _ _) id)) 0];rfl))
      |(refine z0e rfl 147 _ _ rfl w1 _ (tkA j1) _ rfl rfl rfl (Q0t j5.out) (Q0l rfl (z0u j5.out)) (z1h _) ?_)
      |(go_at_call 101;refine(GA.out _ (j9.fresh (j7.alloc _))).mono ?_;rintro e w2⟨rfl,j8⟩;have jz:w1.heap.size<w2.heap.size:=(by have:=j8.size;simp at this;omega);have kk:(w2.alloc (.cells (hdA hd) 200 (0,0))).cell? ⟨w2.heap.size,0,none⟩=some (.bool hd.nul):=(by rw[Q0b (z0a w2 _) 0];exact y1e hd);rw[hn]at kk)
      |(refine z0e rfl 200 _ _ rfl w2 _ (hdA hd) _ rfl rfl rfl (Q1q j3.out) (Q0l rfl (z07 j3.out)) (z1w _) ?_)
      |(refine qAe rfl 147 _ rfl w2.heap.size 3 rfl (bls hd.fi) _ (Q6y (h:={hd with nul:=true}) je.out (by rw[← y2i];exact z0a _ _)) qAk rfl (Q5u j3.fi) ?_)
      |(refine qAf rfl 147 _ rfl w1.heap.size rfl _ _ _ _ (z0b (j8.at (z0a _ _) id)) qAk rfl (Q0t j5.out) ?_)
      |(go_at_call 65;refine(z1c _ hd.fi j1 j3.fi j5.out).mono ?_;rintro e w3⟨rfl,jc⟩;have jb:=hid (jc.at (z0a w2 _) id);rw[y2i]at jb;have k4:(w3.setCells w2.heap.size 3 (tkA (orL hd.fi j1)).toList).cell? ⟨wr.heap.size,0,none⟩=some (.int .i64 ph):=(by rw[z00 (by omega),Q0b (jc.at (z0b (j8.at (z0b (j7.at (z0a _ _) id)) id)) id) 0];rfl);have jo:Hid ((w3.setCells w2.heap.size 3 (tkA (orL hd.fi j1)).toList).heap[w2.heap.size]? = some (.cells (hdA {hd with nul:=true,fi:=orL hd.fi j1}) 200 (0,0))):=(by unfold Hid;rw[z0q _ _ _ _ _ _ _ jb.out];rw[← y8r je.out ja.out];rfl);have jd:Hid (Q0a wr (w3.setCells w2.heap.size 3 (tkA (orL hd.fi j1)).toList)):=Mod.setCells (by intro q;omega) _ _ _ (Mod.trans (Mod.trans (Mod.trans ((mRf _ wr).alloc _) j7 |>.alloc _) j8 |>.alloc _) jc))
      |(refine qEv rfl 147 _ _ rfl w2.heap.size 3 (tkA (orL hd.fi j1)) rfl rfl (by rw[z0u ja.out];exact z4n je.out jb.out (by omega)) (Q0t ja.out) (z1h _) ?_)
      |(refine qAf rfl 200 _ rfl w2.heap.size rfl _ _ _ _ jo.out qCp rfl (Q1q jn.out) ?_)
      |(go_at_call 129;refine(PA.out _ {hd with nul:=true,fi:=orL hd.fi j1} jn.out (HF.fresh jd.out)).mono ?_;rintro e w4⟨rfl,jg,jh⟩;rw[jp.out]))
    · have hq:pb=true:=by assumption
      go_roundw
      case rel =>
        refine⟨i+1,true,_,rfl,by go_num,by omega,jg,?_,Mod.trans j6.out (Mod.trans (Mod.mono jd.out (fun _ _ x=>x.elim)) jh)⟩;have:=j2.out;rw[hq,qEl]at this;exact this
      exact jm.out
    have hq:pb=false:=by assumption
    go_roundw
    case rel =>
      refine⟨i+1,gr,_,rfl,by go_num,by omega,jg,?_,Mod.trans j6.out (Mod.trans (Mod.mono jd.out (fun _ _ x=>x.elim)) jh)⟩;have:=j2.out;rw[hq,qDk]at this;exact this
    exact jm.out
  have jw:i=ps.length:=by omega
  rw[jw,qCy]at j0;have jj:(j4,gr)=RES:=j0;have j2:=hid jj;have k5:¬(i:Int)<(ps.length:Int):=by omega
  clear j0 hF;go_wp2;go_ret;exact⟨z0w (by rw[← j2.out]),by rw[← j2.out];exact HF.out,j6.out⟩
theorem y4h{w:World}{b:Nat}{c:Array Value}{e:TypeId}(h:w.heap[b]? = some (.cells c e (0,0)))(o:Nat):w.frozen? ⟨b,o,none⟩=false:=Q0f h o
theorem x21(w:World)(b:Nat)(R H:Int)(vp vh:Value)(ps:List PV)(hs:List Hd)(h:FA w b R H vp vh ps hs)(hps:ps.length<=1000) :
    Calls Tryz.prog 123 #[Q3c b] w fun e w'=>e=.returned (.bool (Q48 (Q0k ps) hs false).2)/\FA w' b R H vp vh ps (Q48 (Q0k ps) hs false).1/\Mod (Q2c vh) w w':=by
  have jp:=hid h;obtain⟨ao,cap,hv⟩:=z0c h.prs.row.own;subst hv;have k2:=h.cell 2;simp at k2;generalize hR:Q48 (Q0k ps) hs false=RES;have HR:=hid hR;clear hR h;go_enter Tryz.func123,Tryz.ntmps123
  go_wp2;go_loopw [3,5,6,13] (fun x3 _ _ x13 wr=>∃(i:Nat) (gr:Bool) (j2:List Hd),x3=.bool gr/\x13=.int .i64 i/\i<=ps.length/\FA wr b R H (.slice ao ps.length cap) vh ps j2/\Q48 (Q0k (ps.drop i)) j2 gr=RES/\Mod (Q2c vh) w wr)
      (fun _ _ _ x _=>ps.length+1-(intOf x).toNat)
  case atStart=>exact⟨0,false,hs,rfl,rfl,by omega,jp.out,HR.out,mRf _ w⟩
  obtain⟨i,gr,j2,rfl,rfl,hi,hF,j0,jf⟩:=hrel;have jh:=hid (Q19 (B:=ps.length+1) i (by omega));have j3:=hid jf;have HF:=hid hF;clear jf;by_cases jn:i<ps.length
  · have jw:(i:Int)<(ps.length:Int):=by omega
    rw[qC jn]at j0;obtain⟨gp,jq,jo⟩:=Joins.ownsRow_form hF.prs.row.own (by omega);rw[qI]at jo;obtain⟨rfl,_,rfl⟩:=jo;have RG:Hid (wr.rangeAt gp (i*2) [.int .i64 ps[i].pr.head,ps[i].vs]):=hF.prs.row.range i jn;have js:=hF.size;have ja:=hid (hF.fresh ((mRf _ wr).alloc (.cells #[.int .i64 ps[i].pr.head,ps[i].vs] 85 (0,0))));have jb:=hid (hF.prs.syms ps[i] (by simp));unfold Q0k at j0;rw[qDl]at j0;unfold Q48 Q4t at j0;generalize ps[i].pr=pr at j0 RG jb ja;generalize ps[i].vs=pvs at RG jb ja;obtain⟨ph,j9⟩:=pr;dsimp only at j0 RG jb ja;obtain⟨ji,j6,ju,_⟩:=jb.out;subst ju;have j4:=hid (z0k hF.ok ph);have AA:=hid (fun w1 (hf:Q0a wr w1)=>y99 w1 b R H _ vh ps j2 b _ j9 (HF.fresh hf) (by have:=hf.size;omega) (jb.kept (qFd js) hf (fun _ _ x=>x)));have GA:=hid (fun w (h:FA w b R H (.slice (some ⟨gp,0,none⟩) ps.length cap) vh ps j2)=>z4l w b R H _ vh ps j2 ph h);have PA:=hid (fun w (x:Hd) (hx:x.ok) (h:FA w b R H (.slice (some ⟨gp,0,none⟩) ps.length cap) vh ps j2)=>y2x w b R H _ vh ps j2 ph x hx h);generalize Q1k j2 ph=hd at j0 j4 GA;clear hF;cases hal:Q45 j2 j9
    · rw[hal]at j0 AA
      have jr:({hd with fru:=hd.fru||false}:Hd)=hd:=by simp
      rw[jr]at j0;generalize hpb:Q67 j2 ph hd=pb at j0;have jj:=hid hpb;have j1:=hid j0;clear j0 hpb;go_wp2_with (first
        |(refine qAe rfl 85 _ rfl gp (i*2) rfl [.int .i64 ph,.slice ji j9.length j6] _ RG.out qCz rfl W0n ?_)
        |(go_at_call 101;refine(GA.out _ ja.out).mono ?_;rintro e w1⟨rfl,j5⟩;have jv:wr.heap.size<w1.heap.size:=(by have:=j5.size;simp at this;omega);have k1:(w1.alloc (.cells (hdA hd) 200 (0,0))).cell? ⟨wr.heap.size,1,none⟩=some (.slice ji j9.length j6):=(by rw[Q0b (z0b (j5.at (z0a _ _) id)) 1];rfl);have jd:Hid (Q0a wr (w1.alloc (.cells (hdA hd) 200 (0,0)))):=(Mod.trans ((mRf _ wr).alloc _) j5 |>.alloc _))
        |(refine z0e rfl 200 _ _ rfl w1 _ (hdA hd) _ rfl rfl rfl (Q1q j4.out) (Q0l rfl (z07 j4.out)) (z1w _) ?_)
        |(go_at_call 130;refine(AA.out _ jd.out).mono ?_;rintro e w2⟨rfl,j7⟩;have j8:=hid (Mod.trans jd.out j7);have jl:=hid (j7.at (z0a w1 _) id);have k4:w2.cell? ⟨wr.heap.size,0,none⟩=some (.int .i64 ph):=(by rw[Q0b (j7.at (z0b (j5.at (z0a _ _) id)) id) 0];rfl))
        |(refine qAf rfl 200 _ rfl w1.heap.size rfl _ _ _ _ jl.out qCp rfl (Q1q j4.out) ?_)
        |(go_at_call 129;refine(PA.out _ hd j4.out (HF.fresh j8.out)).mono ?_;rintro e w4⟨rfl,jc,je⟩;rw[jj.out]))
      · have hq:pb=true:=by assumption
        go_roundw
        case rel =>
          refine⟨i+1,true,_,rfl,by go_num,by omega,jc,?_,Mod.trans j3.out (Mod.trans (Mod.mono j8.out (fun _ _ x=>x.elim)) je)⟩;have:=j1.out;rw[hq,qEl]at this;exact this
        exact jh.out
      have hq:pb=false:=by assumption
      go_roundw
      case rel =>
        refine⟨i+1,gr,_,rfl,by go_num,by omega,jc,?_,Mod.trans j3.out (Mod.trans (Mod.mono j8.out (fun _ _ x=>x.elim)) je)⟩;have:=j1.out;rw[hq,qDk]at this;exact this
      exact jh.out
    rw[hal]at j0 AA;rw[qEl]at j0;have jm:Hid (Hd.ok {hd with fru:=true}):=⟨j4.fi,j4.fo⟩;generalize hpb:Q67 j2 ph {hd with fru:=true}=pb at j0;have jj:=hid hpb;have j1:=hid j0;clear j0 hpb;go_wp2_with (first
      |(refine qAe rfl 85 _ rfl gp (i*2) rfl [.int .i64 ph,.slice ji j9.length j6] _ RG.out qCz rfl W0n ?_)
      |(go_at_call 101;refine(GA.out _ ja.out).mono ?_;rintro e w1⟨rfl,j5⟩;have jv:wr.heap.size<w1.heap.size:=(by have:=j5.size;simp at this;omega);have k1:(w1.alloc (.cells (hdA hd) 200 (0,0))).cell? ⟨wr.heap.size,1,none⟩=some (.slice ji j9.length j6):=(by rw[Q0b (z0b (j5.at (z0a _ _) id)) 1];rfl);have jd:Hid (Q0a wr (w1.alloc (.cells (hdA hd) 200 (0,0)))):=(Mod.trans ((mRf _ wr).alloc _) j5 |>.alloc _))
      |(refine z0e rfl 200 _ _ rfl w1 _ (hdA hd) _ rfl rfl rfl (Q1q j4.out) (Q0l rfl (z07 j4.out)) (z1w _) ?_)
      |(go_at_call 130;refine(AA.out _ jd.out).mono ?_;rintro e w2⟨rfl,j7⟩;have j8:=hid ((Mod.trans jd.out j7).setCell (p:=⟨w1.heap.size,2,none⟩) (by intro q;simp at q;omega) (.bool true));have jk:=hid (j7.at (z0a w1 _) id);have c3:=Q0b jk.out 2;rw[y4l]at c3;have z3:=y4h jk.out 2;have jl:Hid ((w2.setCell ⟨w1.heap.size,2,none⟩ (.bool true)).heap[w1.heap.size]? = some (.cells (hdA {hd with fru:=true}) 200 (0,0))):=(by unfold Hid;rw[zhs jk.out,v0f]);have k4:(w2.setCell ⟨w1.heap.size,2,none⟩ (.bool true)).cell? ⟨wr.heap.size,0,none⟩=some (.int .i64 ph):=(by rw[Q0b (z0h (j7.at (z0b (j5.at (z0a _ _) id)) id) (by dsimp only;omega)) 0];rfl))
      |(refine qAf rfl 200 _ rfl w1.heap.size rfl _ _ _ _ jl.out qCp rfl (Q1q jm.out) ?_)
      |(go_at_call 129;refine(PA.out _ {hd with fru:=true} jm.out (HF.fresh j8.out)).mono ?_;rintro e w4⟨rfl,jc,je⟩;rw[jj.out]))
    · have hq:pb=true:=by assumption
      go_roundw
      case rel =>
        refine⟨i+1,true,_,rfl,by go_num,by omega,jc,?_,Mod.trans j3.out (Mod.trans (Mod.mono j8.out (fun _ _ x=>x.elim)) je)⟩;have:=j1.out;rw[hq,qEl]at this;exact this
      exact jh.out
    have hq:pb=false:=by assumption
    go_roundw
    case rel =>
      refine⟨i+1,gr,_,rfl,by go_num,by omega,jc,?_,Mod.trans j3.out (Mod.trans (Mod.mono j8.out (fun _ _ x=>x.elim)) je)⟩;have:=j1.out;rw[hq,qDk]at this;exact this
    exact jh.out
  have jt:i=ps.length:=by omega
  rw[jt,qCy]at j0;have jg:(j2,gr)=RES:=j0;have j1:=hid jg;have jx:¬(i:Int)<(ps.length:Int):=by omega
  clear j0 hF;go_wp2;go_ret;exact⟨z0w (by rw[← j1.out]),by rw[← j1.out];exact HF.out,j3.out⟩
def Q3j:List Sy->List Hd->Bool->List Hd × Bool
  | [],hs,g=>(hs,g)
  | s :: l,hs,g=>if s.isH=false then Q3j l hs g else
      Q3j l (Q70 hs s.num {Q1k hs s.num with rch:=true}) (g||Q67 hs s.num {Q1k hs s.num with rch:=true})
def Q3o:List Pr->List Hd->Bool->List Hd × Bool
  | [],hs,g=>(hs,g)
  |p::l,hs,g=>if(Q1k hs p.head).rch=false then Q3o l hs g else Q3o l (Q3j p.syms hs g).1 (Q3j p.syms hs g).2
theorem x22(w:World)(b:Nat)(R H:Int)(vp vh:Value)(ps:List PV)(hs:List Hd)(h:FA w b R H vp vh ps hs)(hps:ps.length<=1000) :
    Calls Tryz.prog 122 #[Q3c b] w fun e w'=>e=.returned (.bool (Q3o (Q0k ps) hs false).2)/\FA w' b R H vp vh ps (Q3o (Q0k ps) hs false).1/\Mod (Q2c vh) w w':=by
  have k6:=hid h;obtain⟨ao,cap,hv⟩:=z0c h.prs.row.own;subst hv;have k2:=h.cell 2;simp at k2;generalize hR:Q3o (Q0k ps) hs false=RES;have HR:=hid hR;clear hR h;go_enter Tryz.func122,Tryz.ntmps122
  go_wp2;go_loopw [3,5,6,8,9,16,30] (fun x3 _ _ _ _ x16 _ wr=>∃(i:Nat) (gr:Bool) (ja:List Hd),x3=.bool gr/\x16=.int .i64 i/\i<=ps.length/\FA wr b R H (.slice ao ps.length cap) vh ps ja/\Q3o (Q0k (ps.drop i)) ja gr=RES/\Mod (Q2c vh) w wr)
      (fun _ _ _ _ _ x _ _=>ps.length+1-(intOf x).toNat)
  case atStart=>exact⟨0,false,hs,rfl,rfl,by omega,k6.out,HR.out,mRf _ w⟩
  obtain⟨i,gr,ja,rfl,rfl,hi,hF,j1,jl⟩:=hrel;obtain⟨wo,ki⟩:∃wo,wo=wr:=⟨_,rfl⟩;subst ki;have ju:=hid (Q19 (B:=ps.length+1) i (by omega));have jd:=hid jl;have HF:=hid hF;clear jl;by_cases jy:i<ps.length
  · have ko:(i:Int)<(ps.length:Int):=by omega
    rw[qC jy]at j1;obtain⟨gp,kb,k3⟩:=Joins.ownsRow_form hF.prs.row.own (by omega);rw[qI]at k3;obtain⟨rfl,_,rfl⟩:=k3;have RG:Hid (wo.rangeAt gp (i*2) [.int .i64 ps[i].pr.head,ps[i].vs]):=hF.prs.row.range i jy;have kl:=hF.size;have jg:=hid (hF.fresh ((mRf _ wo).alloc (.cells #[.int .i64 ps[i].pr.head,ps[i].vs] 85 (0,0))));have ji:Hid (∀(w1:World) (j4:List Hd),FA w1 b R H (.slice (some ⟨gp,0,none⟩) ps.length cap) vh ps j4->Q58 w1 b ps[i].vs ps[i].pr.syms):=fun w1 j4 h=>h.prs.syms ps[i] (by simp);unfold Q0k at j1;rw[qDl]at j1;unfold Q3o at j1;generalize ps[i].pr=pr at j1 RG ji jg;generalize ps[i].vs=pvs at RG ji jg;obtain⟨ph,j3⟩:=pr;dsimp only at j1 RG ji jg;obtain⟨js,jf,kh,kg,jr,_⟩:=ji.out _ _ hF;subst kh;unfold maxLen at jr;have jh:=hid (z0k hF.ok ph);have GA:=hid (fun w (h:FA w b R H (.slice (some ⟨gp,0,none⟩) ps.length cap) vh ps ja)=>z4l w b R H _ vh ps ja ph h);generalize Q1k ja ph=hd at j1 jh GA;clear hF;cases hn:hd.rch
    · rw[qAb hn]at j1
      have j6:=hid j1;clear j1;go_wp2_with (first
        |(refine qAe rfl 85 _ rfl gp (i*2) rfl [.int .i64 ph,.slice js j3.length jf] _ RG.out qCz rfl W0n ?_)
        |(go_at_call 101;refine(GA.out _ jg.out).mono ?_;rintro e w1⟨rfl,jj⟩;have k1:(w1.alloc (.cells (hdA hd) 200 (0,0))).cell? ⟨w1.heap.size,1,none⟩=some (.bool hd.rch):=(by rw[Q0b (z0a _ _) 1];exact y4k hd);rw[hn]at k1;have jk:Hid (Q0a wo (w1.alloc (.cells (hdA hd) 200 (0,0)))):=(Mod.trans ((mRf _ wo).alloc _) jj |>.alloc _))
        |(refine z0e rfl 200 _ _ rfl w1 _ (hdA hd) _ rfl rfl rfl (Q1q jh.out) (Q0l rfl (z07 jh.out)) (z1w _) ?_))
      go_roundw
      case rel=>exact⟨i+1,gr,ja,rfl,by go_num,by omega,HF.fresh jk.out,j6.out,Mod.trans jd.out (Mod.mono jk.out (fun _ _ x=>x.elim))⟩
      exact ju.out
    rw[qAa (by simp[hn])]at j1;generalize hRR:Q3j j3 ja gr=RR at j1;have k9:=hid hRR;have j6:=hid j1;clear j1 hRR;go_wp2_with (first
      |(refine qAe rfl 85 _ rfl gp (i*2) rfl [.int .i64 ph,.slice js j3.length jf] _ RG.out qCz rfl W0n ?_)
      |(go_at_call 101;refine(GA.out _ jg.out).mono ?_;rintro e w1⟨rfl,jj⟩;have ks:wo.heap.size<w1.heap.size:=(by have:=jj.size;simp at this;omega);have k1:(w1.alloc (.cells (hdA hd) 200 (0,0))).cell? ⟨w1.heap.size,1,none⟩=some (.bool hd.rch):=(by rw[Q0b (z0a _ _) 1];exact y4k hd);rw[hn]at k1;have k2:(w1.alloc (.cells (hdA hd) 200 (0,0))).cell? ⟨wo.heap.size,1,none⟩=some (.slice js j3.length jf):=(by rw[Q0b (z0b (jj.at (z0a _ _) id)) 1];rfl);have jk:Hid (Q0a wo (w1.alloc (.cells (hdA hd) 200 (0,0)))):=(Mod.trans ((mRf _ wo).alloc _) jj |>.alloc _))
      |(refine z0e rfl 200 _ _ rfl w1 _ (hdA hd) _ rfl rfl rfl (Q1q jh.out) (Q0l rfl (z07 jh.out)) (z1w _) ?_))
    go_loopw [3,8,9,30] (fun x3 _ _ x30 wr=>∃(j:Nat) (je:Bool) (j4:List Hd),x3=.bool je/\x30=.int .i64 j/\j<=j3.length/\FA wr b R H (.slice (some ⟨gp,0,none⟩) ps.length cap) vh ps j4/\Q3j (j3.drop j) j4 je=RR/\Mod (Q2c vh) w wr)
      (fun _ _ _ x _=>j3.length+1-(intOf x).toNat)
    case atStart=>exact⟨0,gr,ja,rfl,rfl,by omega,HF.fresh jk.out,k9.out,Mod.trans jd.out (Mod.mono jk.out (fun _ _ x=>x.elim))⟩
    obtain⟨j,je,j4,rfl,rfl,hj,jb,j0,jc⟩:=hrel;have jo:=hid (Q19 (B:=j3.length+1) j (by omega));have jm:=hid jc;have jn:=hid jb;clear jc;by_cases jx:j<j3.length
    · have kq:(j:Int)<(j3.length:Int):=by omega
      rw[qC jx]at j0;obtain⟨kj,kc,k5,j7,km,j9⟩:=ji.out _ _ jb;rw[qI]at k5;obtain⟨rfl,_,rfl⟩:=k5;obtain⟨gs,os,rfl,kn,k0⟩:=j9 j jx;have RS:Hid (wr.rangeAt gs (os+j*2) [.bool j3[j].isH,.int .i64 j3[j].num]):=k0;unfold Q3j at j0;generalize j3[j].isH=sh at j0 RS;generalize j3[j].num=sn at j0 RS;have kk:=jb.size;clear j9 k0;cases sh
      · rw[qAb rfl]at j0
        have j2:=hid j0;clear j0 jb;go_wp2_with (first
          |(refine qAe rfl 93 _ rfl gs (os+j*2) rfl [.bool false,.int .i64 sn] _ RS.out qCf rfl W0i ?_))
        go_roundw
        case rel=>exact⟨j+1,je,j4,rfl,by go_num,by omega,jn.fresh ((mRf _ wr).alloc _),j2.out,Mod.trans jm.out ((mRf _ wr).alloc _)⟩
        exact jo.out
      rw[qAa (by simp)]at j0;have j8:=hid (z0k jb.ok sn);have jt:=hid (fun w (h:FA w b R H (.slice (some ⟨gp,0,none⟩) ps.length cap) vh ps j4)=>z4l w b R H _ vh ps j4 sn h);have ka:=hid (fun w (x:Hd) (hx:x.ok) (h:FA w b R H (.slice (some ⟨gp,0,none⟩) ps.length cap) vh ps j4)=>y2x w b R H _ vh ps j4 sn x hx h);have k7:=hid (jb.fresh ((mRf _ wr).alloc (.cells #[.bool true,.int .i64 sn] 93 (0,0))));generalize Q1k j4 sn=j7 at j0 j8 jt;have jv:Hid (Hd.ok {j7 with rch:=true}):=⟨j8.fi,j8.fo⟩;generalize hpb:Q67 j4 sn {j7 with rch:=true}=pb at j0;have k8:=hid hpb;have j2:=hid j0;clear j0 jb hpb;go_wp2_with (first
        |(refine qAe rfl 93 _ rfl gs (os+j*2) rfl [.bool true,.int .i64 sn] _ RS.out qCf rfl W0i ?_)
        |(go_at_call 101;refine(jt.out _ k7.out).mono ?_;rintro e w2⟨rfl,jp⟩;have kt:wr.heap.size<w2.heap.size:=(by have:=jp.size;simp at this;omega);have c3:(w2.alloc (.cells (hdA j7) 200 (0,0))).cell? ⟨w2.heap.size,1,none⟩=some (.bool j7.rch):=(by rw[Q0b (z0a _ _) 1];exact y4k j7);have z3:=y4h (z0a w2 (.cells (hdA j7) 200 (0,0))) 1;have jq:Hid (Q0a wr (w2.alloc (.cells ((hdA j7).setIfInBounds 1 (.bool true)) 200 (0,0)))):=(Mod.trans ((mRf _ wr).alloc _) jp |>.alloc _);have kd:Hid ((w2.alloc (.cells ((hdA j7).setIfInBounds 1 (.bool true)) 200 (0,0))).heap[w2.heap.size]? = some (.cells (hdA {j7 with rch:=true}) 200 (0,0))):=(by unfold Hid;rw[v0e];exact z0a _ _);have k4:(w2.alloc (.cells ((hdA j7).setIfInBounds 1 (.bool true)) 200 (0,0))).cell? ⟨wr.heap.size,1,none⟩=some (.int .i64 sn):=(by rw[Q0b (z0b (jp.at (z0a _ _) id)) 1];rfl))
        |(refine z0e rfl 200 _ _ rfl w2 _ (hdA j7) _ rfl rfl rfl (Q1q j8.out) (Q0l rfl (z07 j8.out)) (z1w _) ?_)
        |(refine qAf rfl 200 _ rfl w2.heap.size rfl _ _ _ _ kd.out qCp rfl (Q1q jv.out) ?_)
        |(go_at_call 129;refine(ka.out _ {j7 with rch:=true} jv.out (jn.fresh jq.out)).mono ?_;rintro e w4⟨rfl,jw,jz⟩;rw[k8.out]))
      · have hq:pb=true:=by assumption
        go_roundw
        case rel =>
          refine⟨j+1,true,_,rfl,by go_num,by omega,jw,?_,Mod.trans jm.out (Mod.trans (Mod.mono jq.out (fun _ _ x=>x.elim)) jz)⟩;have:=j2.out;rw[hq,qEl]at this;exact this
        exact jo.out
      have hq:pb=false:=by assumption
      go_roundw
      case rel =>
        refine⟨j+1,je,_,rfl,by go_num,by omega,jw,?_,Mod.trans jm.out (Mod.trans (Mod.mono jq.out (fun _ _ x=>x.elim)) jz)⟩;have:=j2.out;rw[hq,qDk]at this;exact this
      exact jo.out
    have kf:j=j3.length:=by omega
    rw[kf,qCy]at j0;have j5:(j4,je)=RR:=j0;have j2:=hid j5;have kr:¬(j:Int)<(j3.length:Int):=by omega
    clear j0 j5 jb;go_wp2;go_roundw
    case rel =>
      refine⟨i+1,je,j4,rfl,by go_num,by omega,jn.out,?_,jm.out⟩;have:=j6.out;rw[← j2.out]at this;exact this
    exact ju.out
  have ke:i=ps.length:=by omega
  rw[ke,qCy]at j1;have j5:(ja,gr)=RES:=j1;have j6:=hid j5;have kp:¬(i:Int)<(ps.length:Int):=by omega
  clear j1 hF;go_wp2;go_ret;exact⟨z0w (by rw[← j6.out]),by rw[← j6.out];exact HF.out,jd.out⟩
def Q8n(hs:List Hd)(ph:Int)(l:List Sy):List Bool:=if(Q2q hs l zero9).2 then orL (Q2q hs l zero9).1 (Q1k hs ph).fo else(Q2q hs l zero9).1
def Q5t(hs:List Hd)(ph sn:Int)(l:List Sy):Hd:={Q1k hs sn with fo:=orL (Q1k hs sn).fo (Q8n hs ph l)}
def Q2z(ph:Int):List Sy->List Hd->Bool->List Hd × Bool
  | [],hs,g=>(hs,g)
  | s :: l,hs,g=>if s.isH=false then Q2z ph l hs g else
      Q2z ph l (Q70 hs s.num (Q5t hs ph s.num l)) (g||Q67 hs s.num (Q5t hs ph s.num l))
def Q5l:List Pr->List Hd->Bool->List Hd × Bool
  | [],hs,g=>(hs,g)
  |p::l,hs,g=>Q5l l (Q2z p.head p.syms hs g).1 (Q2z p.head p.syms hs g).2
theorem Q58.drop{w:World}{B gs os cap:Nat}{l:List Sy}(h:Q58 w B (.slice (some ⟨gs,os,none⟩) l.length cap) l)(k:Nat)(hk:k<=l.length) :
    Q58 w B (.slice (some ⟨gs,os+k*2,none⟩) (l.length-k) (cap-k)) (l.drop k):=by
  obtain⟨ao,c,h1,h2,h3,h4⟩:=h;rw[qI]at h1;obtain⟨rfl,_,rfl⟩:=h1;refine⟨some ⟨gs,os+k*2,none⟩,cap-k,by simp,by simp;omega,by omega,fun i hi=>?_⟩;simp only[qCt]at hi;obtain⟨g,o,e1,e2,e3⟩:=h4 (k+i) (by omega);simp only[qO,Addr.mk.injEq]at e1;obtain⟨rfl,rfl,_⟩:=e1;refine⟨gs,os+k*2,rfl,e2,?_⟩;have e:os+(k+i)*2=os+k*2+i*2:=by omega
  rw[e]at e3;simpa using e3
theorem Q58.none{w:World}{B:Nat}{ao:Option Addr}{l:List Sy}(hl:l=[]){n:Nat}(hn:n=0):Q58 w B (.slice ao n 0) l:=by
  subst hl;subst hn;exact⟨ao,0,rfl,by simp,by unfold maxLen;omega,fun i hi=>by simp at hi⟩
theorem z1p{w:World}{g o:Nat}{vs:List Value}{b:Nat}(hb:b≠g):(w.setCells g o vs).heap[b]? = w.heap[b]? := by
  induction vs generalizing w o with
  |nil=>rfl
  |cons v vs ih=>rw[World.setCells,ih];exact heap_setCell_other v (by simpa using hb)
theorem z3j{hs:List Hd}(h:∀x∈hs,x.ok)(ph:Int)(l:List Sy):(Q8n hs ph l).length=9:=by
  unfold Q8n;have:=z1a h l zero9 rfl;split
  · exact z04 this (z0k h _).fo
  exact this
def leB:List Bool->List Bool->Prop
  | [],[]=>True
  |x::xs,y::ys=>(x=true->y=true)/\leB xs ys
  |_,_=>False
theorem z2b:∀l:List Bool,leB l l
  | []=>trivial
  |x::l=>⟨fun h=>h,z2b l⟩
theorem z45:∀{a b c:List Bool},leB a b->leB b c->leB a c
  | [],[],[],_,_=>trivial
  |x::xs,y::ys,z::zs,h,k=>⟨fun e=>k.1 (h.1 e),z45 h.2 k.2⟩
theorem y2o:∀{a b:List Bool},leB a b->a.length=b.length
  | [],[],_=>rfl
  |_::xs,_::ys,h=>by simp[y2o h.2]
theorem y1h:∀{a b c d:List Bool},leB a b->leB c d->leB (a++c) (b++d)
  | [],[],_,_,_,k=>k
  |_::xs,_::ys,_,_,h,k=>⟨h.1,y1h h.2 k⟩
def Q9r(l:List Bool):Nat:=(l.filter fun b=>!b).length
theorem y2c:∀{a b:List Bool},leB a b->Q9r b<=Q9r a/\(a≠b->Q9r b<Q9r a)
  | [],[],_=>⟨qR _,fun h=>absurd rfl h⟩
  |x::xs,y::ys,h=>by
    have ih:=y2c h.2;cases x<;>cases y
    · simp only[Q9r,qAq,Bool.not_false,qBn,qBk,ne_eq,qBe,true_and]at *
      exact⟨by omega,fun e=>by have:=ih.2 e;omega⟩
    · simp only[Q9r,qAq,Bool.not_false,Bool.not_true,qF,qBn,qAz,qBk]at *
      exact⟨by omega,fun _=>by omega⟩
    · have:=h.1 rfl;cases this
    simp only[Q9r,qAq,Bool.not_true,qF,qAz,ne_eq,qBe,true_and]at *;exact ih
theorem z9m:∀{a b:List Bool},a.length=b.length->leB a (orL a b)
  | [],[],_=>trivial
  |x::xs,y::ys,h=>⟨fun e=>by simp[e],z9m (by simpa using h)⟩
theorem z4v:∀{a b:List Bool},leB a b->∀i,a.getD i false=true->b.getD i false=true
  | [],[],_,i,h=>by simp at h
  |x::xs,y::ys,h,0,e=>h.1 e
  |x::xs,y::ys,h,i+1,e=>by simpa using z4v h.2 i (by simpa using e)
theorem y8z:∀{a b:List Bool},a.length=b.length->(∀i,a.getD i false=true->b.getD i false=true)->leB a b
  | [],[],_,_=>trivial
  |x::xs,y::ys,h,k=>⟨fun e=>k 0 e,y8z (by simpa using h) (fun i e=>by simpa using k (i+1) (by simpa using e))⟩
theorem z3q:∀{a b:List Bool},a.length=b.length->∀i,(orL a b).getD i false=(a.getD i false||b.getD i false)
  | [],[],_,i=>by simp[orL]
  |x::xs,y::ys,h,0=>rfl
  |x::xs,y::ys,h,i+1=>by simpa [orL]using z3q (a:=xs) (b:=ys) (by simpa using h) i
def Hd.bits(h:Hd):List Bool:=h.nul::h.rch::h.fru::(h.fi++h.fo)
def Hd.le(a b:Hd):Prop:=leB a.bits b.bits
theorem Hd.le_refl(a:Hd):a.le a:=z2b _
theorem Hd.le_trans{a b c:Hd}(h:a.le b)(k:b.le c):a.le c:=z45 h k
theorem x6a{a b:Hd}(ha:a.ok)(hb:b.ok)(h:a.bits=b.bits):a=b:=by
  obtain⟨n,r,f,fi,fo⟩:=a;obtain⟨n',r',f',j0,j1⟩:=b;simp only[Hd.bits,qBe]at h;obtain⟨rfl,rfl,rfl,h⟩:=h;have:=List.append_inj h (by rw[ha.fi,hb.fi]);obtain⟨rfl,rfl⟩:=this;rfl
def Hd.cnt(h:Hd):Nat:=Q9r h.bits
def Q7j:List Hd->Nat
  | []=>0
  |h::l=>h.cnt+Q7j l
theorem y8d:∀(hs:List Hd) (k:Nat) (x:Hd) (hk:k<hs.length),Q7j (hs.set k x)+hs[k].cnt=Q7j hs+x.cnt
  |h::l,0,x,_=>by simp only[List.set_cons_zero,Q7j,List.getElem_cons_zero];omega
  |h::l,k+1,x,hk=>by
    have:=y8d l k x (by simpa using hk);simp only[List.set_cons_succ,Q7j,List.getElem_cons_succ];omega
theorem v08{hs:List Hd}(hok:∀x∈hs,x.ok){n:Int}{x:Hd}(hx:x.ok)(hle:(Q1k hs n).le x) :
    Q7j (Q70 hs n x)<=Q7j hs/\(Q67 hs n x=true->Q7j (Q70 hs n x)<Q7j hs)/\(Q67 hs n x=false->Q70 hs n x=hs):=by
  unfold Q70 Q67 Q1k at *;by_cases h0:0<=n
  · rw[qAb h0]at hle ⊢
    rw[qAb h0];by_cases hk:n.toNat<hs.length
    · rw[qE hk]at hle ⊢
      simp only[qDy]at hle;have hc:=y8d hs n.toNat x hk;have hl:=y2c hle;have h1:(hs[n.toNat]).cnt=Q9r hs[n.toNat].bits:=rfl;have h2:x.cnt=Q9r x.bits:=rfl;refine⟨by omega,?_,?_⟩
      · intro hp
        have j0:hs[n.toNat].bits≠x.bits:=by
          intro e;have:=x6a (hok _ (by simp)) hx e;have h3:hdEq hs[n.toNat] x=true:=z8c.2 this;simp[h3]at hp
        have:=hl.2 j0;omega
      intro hp;have:hdEq hs[n.toNat] x=true:=by simpa using hp
      rw[← z8c.1 this,List.set_getElem_self]
    rw[qN (by omega),qFs (by omega)];exact⟨qR _,fun h=>(by cases h),fun _=>rfl⟩
  rw[qAa h0,qAa h0];exact⟨qR _,fun h=>(by cases h),fun _=>rfl⟩
structure Q2u(hs:List Hd)(r:List Hd × Bool)(g:Bool):Prop where
  ok:∀x∈r.1,x.ok
  len:r.1.length=hs.length
  cnt:Q7j r.1<=Q7j hs
  more:r.2=true->g=true∨Q7j r.1<Q7j hs
  same:r.2=false->g=false/\r.1=hs
theorem Q2u.refl{hs:List Hd}(h:∀x∈hs,x.ok)(g:Bool):Q2u hs (hs,g) g:=⟨h,rfl,qR _,fun e=>.inl e,fun e=>⟨e,rfl⟩⟩
theorem Q2u.put{hs:List Hd}(hok:∀x∈hs,x.ok){n:Int}{x:Hd}(hx:x.ok)(hle:(Q1k hs n).le x)(g:Bool):Q2u hs (Q70 hs n x,g||Q67 hs n x) g:=by
  obtain⟨h1,h2,h3⟩:=v08 hok hx hle;refine⟨y7f hok n hx,x7m _ _ _,h1,?_,?_⟩
  · intro e
    cases g
    · right;exact h2 (by simpa using e)
    left;rfl
  intro e;dsimp only at e;simp only[qCb]at e;exact⟨e.1,h3 e.2⟩
theorem Q2u.trans{hs:List Hd}{a b:List Hd × Bool}{g:Bool}(h:Q2u hs a g)(k:Q2u a.1 b a.2):Q2u hs b g:=by
  refine⟨k.ok,k.len.trans h.len,qDa k.cnt h.cnt,?_,?_⟩
  · intro e
    have c1:=h.cnt;have c2:=k.cnt;rcases k.more e with h1|h1
    · rcases h.more h1 with h2|h2
      · exact .inl h2
      right;omega
    right;omega
  intro e;obtain⟨e1,e2⟩:=k.same e;obtain⟨e3,e4⟩:=h.same e1;exact⟨e3,by rw[e2,e4]⟩
theorem y2b{h k:Hd}(h1:h.nul=true->k.nul=true)(h2:h.rch=true->k.rch=true)(h3:h.fru=true->k.fru=true)(h4:leB h.fi k.fi)(h5:leB h.fo k.fo):h.le k :=
  ⟨h1,h2,h3,y1h h4 h5⟩
theorem v2e{h:Hd}(hk:h.ok)(e:Bool){r:List Bool}(hr:r.length=9):h.le {h with nul:=h.nul||e,fi:=orL h.fi r} :=
  y2b (fun x=>by simp[x]) id id (z9m (by rw[hk.fi,hr])) (z2b _)
theorem v0l{h:Hd}(hk:h.ok){r:List Bool}(hr:r.length=9):h.le {h with fo:=orL h.fo r} :=
  y2b id id id (z2b _) (z9m (by rw[hk.fo,hr]))
theorem x3o(h:Hd):h.le {h with rch:=true}:=y2b id (fun _=>rfl) id (z2b _) (z2b _)
theorem x84(h:Hd)(e:Bool):h.le {h with fru:=h.fru||e}:=y2b id id (fun x=>by simp[x]) (z2b _) (z2b _)
theorem z3u{hs:List Hd}(hok:∀x∈hs,x.ok)(p:Pr)(g:Bool):Q2u hs ((Q3i hs p).1,g||(Q3i hs p).2) g:=by
  unfold Q3i;refine Q2u.put hok ?_ ?_ g
  · exact⟨z04 (z0k hok _).fi (z1a hok _ _ rfl),(z0k hok _).fo⟩
  exact v2e (z0k hok _) _ (z1a hok _ _ rfl)
theorem z4z:∀(l:List Pr) {hs:List Hd}(_:∀x∈hs,x.ok) (g:Bool),Q2u hs (Q5k l hs g) g
  | [],_,hok,g=>Q2u.refl hok g
  |p::l,hs,hok,g=>by
    have h1:=z3u hok p g;exact h1.trans (z4z l h1.ok _)
theorem z40{hs:List Hd}(hok:∀x∈hs,x.ok)(p:Pr)(g:Bool):Q2u hs ((Q4t hs p).1,g||(Q4t hs p).2) g:=by
  unfold Q4t;refine Q2u.put hok ?_ ?_ g
  · exact⟨(z0k hok p.head).fi,(z0k hok p.head).fo⟩
  exact x84 _ _
theorem z41:∀(l:List Pr) {hs:List Hd}(_:∀x∈hs,x.ok) (g:Bool),Q2u hs (Q48 l hs g) g
  | [],_,hok,g=>Q2u.refl hok g
  |p::l,hs,hok,g=>by
    have h1:=z40 hok p g;exact h1.trans (z41 l h1.ok _)
theorem z3b:∀(l:List Sy) {hs:List Hd}(_:∀x∈hs,x.ok) (g:Bool),Q2u hs (Q3j l hs g) g
  | [],_,hok,g=>Q2u.refl hok g
  |s::l,hs,hok,g=>by
    unfold Q3j;split
    · exact z3b l hok g
    have h1:Q2u hs (Q70 hs s.num {Q1k hs s.num with rch:=true},g||Q67 hs s.num {Q1k hs s.num with rch:=true}) g:=by
      refine Q2u.put hok ?_ ?_ g
      · exact⟨(z0k hok s.num).fi,(z0k hok s.num).fo⟩
      exact x3o _
    exact h1.trans (z3b l h1.ok _)
theorem z3v:∀(l:List Pr) {hs:List Hd}(_:∀x∈hs,x.ok) (g:Bool),Q2u hs (Q3o l hs g) g
  | [],_,hok,g=>Q2u.refl hok g
  |p::l,hs,hok,g=>by
    unfold Q3o;split
    · exact z3v l hok g
    have h1:=z3b p.syms hok g;exact h1.trans (z3v l h1.ok _)
theorem z3c(ph:Int):∀(l:List Sy) {hs:List Hd}(_:∀x∈hs,x.ok) (g:Bool),Q2u hs (Q2z ph l hs g) g
  | [],_,hok,g=>Q2u.refl hok g
  |s::l,hs,hok,g=>by
    unfold Q2z;split
    · exact z3c ph l hok g
    have h1:Q2u hs (Q70 hs s.num (Q5t hs ph s.num l),g||Q67 hs s.num (Q5t hs ph s.num l)) g:=by
      refine Q2u.put hok ?_ ?_ g
      · exact⟨(z0k hok s.num).fi,z04 (z0k hok s.num).fo (z3j hok _ _)⟩
      exact v0l (z0k hok _) (z3j hok _ _)
    exact h1.trans (z3c ph l h1.ok _)
theorem z43:∀(l:List Pr) {hs:List Hd}(_:∀x∈hs,x.ok) (g:Bool),Q2u hs (Q5l l hs g) g
  | [],_,hok,g=>Q2u.refl hok g
  |p::l,hs,hok,g=>by
    have h1:=z3c p.head p.syms hok g;exact h1.trans (z43 l h1.ok _)
def Q8e(step:List Hd->List Hd × Bool):Nat->List Hd->List Hd
  |0,hs=>hs
  |f+1,hs=>if(step hs).2 then Q8e step f (step hs).1 else(step hs).1
def Q47(step:List Hd->List Hd × Bool)(hs:List Hd):List Hd:=Q8e step (Q7j hs+1) hs
def Q8h(ps:List Pr)(hs:List Hd):List Hd × Bool:=Q5k ps hs false
def Q5q(ps:List Pr)(hs:List Hd):List Hd × Bool:=Q5l ps hs false
def Q64(ps:List Pr)(hs:List Hd):List Hd × Bool:=Q3o ps hs false
def Q73(ps:List Pr)(hs:List Hd):List Hd × Bool:=Q48 ps hs false
def Q33(ps:List Pr)(hs:List Hd):List Hd:=Q47 (Q73 ps) (Q47 (Q64 ps) (Q47 (Q5q ps) (Q47 (Q8h ps) hs)))
def Q42(step:List Hd->List Hd × Bool):Prop:=∀hs:List Hd,(∀x∈hs,x.ok)->Q2u hs (step hs) false
theorem z22(ps:List Pr):Q42 (Q8h ps):=fun _ h=>z4z ps h false
theorem z2h(ps:List Pr):Q42 (Q5q ps):=fun _ h=>z43 ps h false
theorem z2g(ps:List Pr):Q42 (Q64 ps):=fun _ h=>z3v ps h false
theorem z2i(ps:List Pr):Q42 (Q73 ps):=fun _ h=>z41 ps h false
theorem y4q{step:List Hd->List Hd × Bool}(hg:Q42 step){I:List Hd->Prop}(hI:∀hs,(∀x∈hs,x.ok)->I hs->I (step hs).1) :
    ∀(f:Nat) (hs:List Hd),(∀x∈hs,x.ok)->Q7j hs<f->I hs->I (Q8e step f hs)/\(∀x∈Q8e step f hs,x.ok)/\(Q8e step f hs).length=hs.length/\step (Q8e step f hs)=(Q8e step f hs,false)
  |0,hs,_,hc,_=>by omega
  |f+1,hs,hok,hc,hi=>by
    have h1:=hg hs hok;unfold Q8e;cases hq:(step hs).2
    · simp only[qF,qAz]
      have e:=(h1.same hq).2;have e2:step hs=(hs,false):=Prod.ext e hq;rw[e];exact⟨hi,hok,rfl,e2⟩
    simp only[qBn];have hl:Q7j (step hs).1<Q7j hs:=by
      rcases h1.more hq with h2|h2
      · cases h2
      exact h2
    have:=y4q hg hI f (step hs).1 h1.ok (by omega) (hI hs hok hi);exact⟨this.1,this.2.1,by rw[this.2.2.1,h1.len],this.2.2.2⟩
theorem z1o{step:List Hd->List Hd × Bool}(hg:Q42 step){I:List Hd->Prop}(hI:∀hs,(∀x∈hs,x.ok)->I hs->I (step hs).1){hs:List Hd}(hok:∀x∈hs,x.ok)(h:I hs) :
    I (Q47 step hs)/\(∀x∈Q47 step hs,x.ok)/\(Q47 step hs).length=hs.length/\step (Q47 step hs)=(Q47 step hs,false) :=
  y4q hg hI _ hs hok (by omega) h
def isFv(v:Value):Bool:=match v with
  | .bool false=>true
  |_=>false
def muW(vh:Value)(N:Nat)(w:World):Nat:=match vh with
  | .slice (some a) _ _=>(match w.heap[a.block]? with
    |some (.cells c _ _)=>((c.toList.take (N*21)).filter isFv).length
    |_=>0)
  |_=>0
def Q8d(v:Value):Nat:=match v with
  | .bool true=>1
  |_=>0
theorem z86:∀l:List Bool,((l.map Value.bool).filter isFv).length=Q9r l
  | []=>rfl
  |x::l=>by
    have:=z86 l;cases x<;>simp_all[Q9r,isFv,qAq]
theorem z87:∀hs:List Hd,((Q0y Hd.cells hs).filter isFv).length=Q7j hs
  | []=>rfl
  |h::l=>by
    have ih:=z87 l;have e:h.cells=h.bits.map Value.bool:=by simp[Hd.cells,Hd.bits,bls]
    have h1:=z86 h.bits;unfold Q0y at ih ⊢;rw[qEp,qBx,qP,ih,e,h1];rfl
theorem FA.mu{w:World}{b:Nat}{R H:Int}{vp vh:Value}{ps:List PV}{hs:List Hd}(h:FA w b R H vp vh ps hs):muW vh hs.length w=Q7j hs:=by
  obtain⟨h1,h2⟩:=h.own;rcases h2 with⟨rfl,h3⟩|⟨g,cap,j0,rfl,_,hb,_,_,_,ht⟩
  · have:hs=[]:=qCm h3
    subst this;rfl
  unfold muW;simp only[hb];rw[ht,z87]
theorem FA.mu'{w:World}{b:Nat}{R H:Int}{vp vh:Value}{ps:List PV}{hs:List Hd}(h:FA w b R H vp vh ps hs){N:Nat}(hN:hs.length=N):muW vh N w=Q7j hs:=by
  rw[← hN];exact h.mu
def Q3p(step:List Hd->List Hd × Bool)(R1:List Hd)(g:Bool)(hs':List Hd):Prop:=if g then ∃f,Q8e step f hs'=R1/\Q7j hs'<f else hs'=R1
theorem Q3p.start(step:List Hd->List Hd × Bool)(hs:List Hd):Q3p step (Q47 step hs) true hs:=⟨Q7j hs+1,rfl,by omega⟩
theorem Q3p.next{step:List Hd->List Hd × Bool}(hg:Q42 step){R1 hs':List Hd}(hok:∀x∈hs',x.ok)(h:Q3p step R1 true hs'):Q3p step R1 (step hs').2 (step hs').1:=by
  obtain⟨f,h1,h2⟩:=h;obtain⟨f,rfl⟩:∃k,f=k+1:=⟨f-1,by omega⟩;unfold Q8e at h1;unfold Q3p;have h3:=hg hs' hok;cases hq:(step hs').2
  · rw[hq]at h1
    simpa using h1
  rw[hq]at h1;simp only[qBn]at h1 ⊢;refine⟨f,h1,?_⟩;rcases h3.more hq with h4|h4
  · cases h4
  omega
theorem Q3p.less{step:List Hd->List Hd × Bool}(hg:Q42 step){hs':List Hd}(hok:∀x∈hs',x.ok):2*Q7j (step hs').1+Q8d (.bool (step hs').2)<2*Q7j hs'+Q8d (.bool true):=by
  have h3:=hg hs' hok;have h4:=h3.cnt;cases hq:(step hs').2
  · simp[Q8d];omega
  have:Q7j (step hs').1<Q7j hs':=by
    rcases h3.more hq with h|h
    · cases h
    exact h
  simp[Q8d];omega
end Go.Proofs.YtbdpfmalabgmbaaGreat
