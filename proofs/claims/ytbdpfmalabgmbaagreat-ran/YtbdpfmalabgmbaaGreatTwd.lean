import Derived.Test.YtbdpfmalabgmbaaGreatTwa
namespace Go.Proofs.YtbdpfmalabgmbaaGreat
open Go.RowKit
set_option maxRecDepth 99999
set_option maxHeartbeats 0
set_option linter.all false
theorem x7h{w:World}{B k n:Nat}{e:TypeId}{v:Value}{xs:List Value}(h:w.ownsRow B e k v n xs){g:Nat}(hg:v.ownBlock=some g):∃cur,w.heap[g]? = some (.cells cur e (0,0)):=by
  rcases h.2 with⟨rfl,_⟩|⟨g',cap,cur,rfl,_,hb,_⟩
  · simp[Value.ownBlock]at hg
  simp[Value.ownBlock]at hg;subst hg;exact⟨cur,hb⟩
theorem v1l(s t:ByteArray)(w:World)(hs:s.size<=maxLen)(hl:t.size<=200)(hc:(Q0u s).1=0)(hcl:Q13 s=[])(he:(Q3r (Q0i s) t).2.1=0)(hm:(Q3r (Q0i s) t).1.length<=60) (hge:(Q24 s ((Q3r (Q0i s) t).1.map Tk.r)).err≠0) :
    Calls Tryz.prog 4 #[.string s,.string t] w fun e w'=>Q2a s (⟨(Q24 s ((Q3r (Q0i s) t).1.map Tk.r)).err,[],[],(Q24 s ((Q3r (Q0i s) t).1.map Tk.r)).wanted,Q49 (Q3r (Q0i s) t).1 (Q24 s ((Q3r (Q0i s) t).1.map Tk.r)).place t.size⟩) w e w':=by
  have SC:=hid (fun w=>z1t s w hs);unfold Q3x at SC;have H0:=hid hc;have kv:=(z1k s).1;have jd:=(z1k s).2;have jy:=z5a s;have kx:=z5g hc;have x4:¬(200:Int)<(t.size:Int):=by omega
  have kl:Hid (∀(W:World) (v:Value) (xs:List LV),Q0s W v xs->xs.map LV.ln=(Q0c s).1->Calls Tryz.prog 11 #[v] W fun e w'=>∃vp j0,e=.returned (.agg #[.int .i64 (nR s),.int .i64 (nH s),vp])/\Q0a W w'/\j0.map PV.pr=Q0p (Q0c s).1/\Q2e w' w'.heap.size vp j0):=fun W v xs hL hx=>by
    have h1:xs.length=(Q0c s).1.length:=by rw[← hx];simp
    have h:=z47 W v xs hL (by omega) (fun x hxx=>by
      have hm:x.ln∈(Q0c s).1:=by rw[← hx];exact qBj.2 ⟨x,hxx,rfl⟩
      exact⟨(jd x.ln hm).fb,jy x.ln hm,by have:=(jd x.ln hm).sb;omega⟩)
    rw[hx]at h;exact h
  have km:Hid (∀(W:World) (v:Value) (xs:List LV),Q0s W v xs->xs.map LV.ln=(Q0c s).1->Calls Tryz.prog 13 #[v] W fun e w'=>∃v' ys,e=.returned v'/\Q0s w' v' ys/\ys.map LV.ln=Q0i s/\ys.length<=1000/\Q0a W w'):=fun W v xs hL hx=>by
    have h1:xs.length=(Q0c s).1.length:=by rw[← hx];simp
    refine(z5b W v xs hL (by omega) (fun x hxx=>(jd x.ln (by rw[← hx];exact qBj.2 ⟨x,hxx,rfl⟩)).fb)).mono ?_;rintro e w'⟨v',he,kn,hf⟩;refine⟨v',_,he,kn,by rw[z4x,hx];rfl,?_,hf⟩;have:=qCc (fun x:LV=>Q0x x.ln) xs;omega
  have je:Hid (∀(W:World) (v:Value) (ys:List LV),Q0s W v ys->ys.map LV.ln=Q0i s->ys.length<=1000->Calls Tryz.prog 14 #[v,.string t] W fun e w'=>∃v',e=.returned (.tuple #[v',.int .i64 (Q3r (Q0i s) t).2.1,.int .i64 (Q3r (Q0i s) t).2.2])/\Q0a W w'/\Q43 w' v' (Q3r (Q0i s) t).1):=fun W v ys hL hy hn=>by
    have h:=z82 W v ys t hL hn hl;rw[hy]at h;exact h
  have IC:Hid (∀(W:World) (vp:Value) (j0:List PV),j0.map PV.pr=Q0p (Q0c s).1->Q2e W W.heap.size vp j0->Calls Tryz.prog 12 #[.agg #[.int .i64 (nR s),.int .i64 (nH s),vp]] W fun e w'=>e=.returned (.bool (decide (0<(Q13 s).length)))/\Q0a W w'):=fun W vp j0 hm hp=>by
    obtain⟨h1,h2,h3,h4,h5⟩:=z12 s hc hm;have h:=z15 W (nR s) (nH s) vp j0 hp h2 h3 h4 (by rw[← h5];exact y0c hc);rw[z4w s hc hm]at h;exact h
  have k2:Hid (decide (0<(Q13 s).length)=false):=by unfold Hid;simp[hcl]
  have jj:=z6d s t;have hT:=y9p hc hcl;have jk:(Q3r (Q0i s) t).1.length<=1000:=by omega
  generalize hCE:Q3r (Q0i s) t=C at je he hm jk jj hge ⊢;have x6:¬(60:Int)<(C.1.length:Int):=by omega
  rw[he]at je;have GR:Hid (∀(W:World) (vp vk:Value) (j0:List PV),j0.map PV.pr=Q0p (Q0c s).1->Q2e W W.heap.size vp j0->Q1c W vk (C.1.map Tk.r)->Calls Tryz.prog 16 #[.agg #[.int .i64 (nR s),.int .i64 (nH s),vp],vk] W fun e w'=>∃vn vw,e=.returned (.tuple #[.agg (Q6m vn vw (Q24 s (C.1.map Tk.r)).place),.int .i64 (Q24 s (C.1.map Tk.r)).err])/\Q0a W w'/\Q2x w' W.heap.size vn (Q1p (Q8b s) (Q24 s (C.1.map Tk.r)).st)/\IntOwn w' W.heap.size vw (Q24 s (C.1.map Tk.r)).wanted):=fun W vp vk j0 hmp hp hk=>by
    obtain⟨h1,h2,h3,h4,h5⟩:=z12 s hc hmp;have h:=y8p W (nR s) (nH s) vp vk j0 (C.1.map Tk.r) (Q7p s) hp hk (by simpa using hm) jj (by rw[h1];exact hT) h5;rw[h1]at h;exact h
  generalize Q24 s (C.1.map Tk.r)=G at GR hge ⊢;have c0:(G.err != 0)=true:=by simpa using hge
  generalize nR s=R at *;generalize nH s=H at *;clear kv jd jy kx hc hcl he hge jj hT hCE;go_enter Tryz.func4,Tryz.ntmps4
  go_wp2_with (first
    |(refine qAg rfl 26 _ _ rfl w.heap.size (Q7o (.slice none 0 0) (.slice none 0 0) (.slice wa G.wanted.length wc) (Q49 C.1 G.place t.size)) rfl rfl _ _ jx.out Q29 rfl (z2f _ _ _ _ rfl rfl rfl) ?_)
    |(go_at_call 17;have j1:=js.out;refine(y7d _ _ C.1 G.place t kf.out jk).mono ?_;rintro e w8⟨rfl,ja⟩;have k4:=hid ((js.alloc _).trans ja);have jx:=hid (ja.at kt.out id);have kk:=hid (ja.at (z0a w7 _) id);have y1:=Q0b kk.out 1;simp at y1;have k5:=hid (Mod.trans ((mRf (fun _=>False) w7).alloc _) ja);clear ja)
    |(go_at_call 16;have j1:=jg.out;refine(GR.out _ _ _ j0 j5.out (j6.out _ kj.out) k6.out).mono ?_;rintro e w7⟨vn,vw,rfl,j9,jl,jn⟩;obtain⟨na,nc,ky⟩:=z0c jl;subst ky;obtain⟨wa,wc,x1⟩:=z0c jn;subst x1;have x3:=hid jl;have ju:=hid jn;have js:=hid (jg.trans j9);have kt:Hid ((w7.alloc (.cells (Q6m (.slice na (Q1p (Q8b s) G.st).length nc) (.slice wa G.wanted.length wc) G.place) 50 (0,0))).heap[w.heap.size]? = some (.cells Q66 26 (0,0))):=z0b (j9.at jw.out id);have kf:=hid ((ke.fresh j9).fresh ((mRf _ w7).alloc (.cells (Q6m (.slice na (Q1p (Q8b s) G.st).length nc) (.slice wa G.wanted.length wc) G.place) 50 (0,0))));have kw:=j9.size;clear j9 jl jn)
    |(go_at_call 15;have j1:=jr.out;refine(z9j _ _ C.1 jt.out jk).mono ?_;rintro e w6⟨vk,rfl,j4,jm⟩;have k6:=hid (IntOwn.at' jm);obtain⟨ka,kc,jz⟩:=z0c jm;rw[qAv]at jz;subst jz;have jg:=hid (jr.trans j4);have kj:=hid (ki.trans j4);have jw:=hid (j4.at ks.out id);have jf:=hid (j4.at k1.out id);have ke:=hid (jt.fresh j4);have t0:=Q0b jf.out 0;have t1:=Q0b jf.out 1;have t2:=Q0b jf.out 2;simp at t0 t1 t2;clear jm j4)
    |(go_at_call 14;have j1:=jq.out;refine(je.out _ v' ys k9.out HY.out x2).mono ?_;rintro e w5⟨vt,rfl,j8,jh⟩;obtain⟨ta,tc,x0⟩:=z0c jh.own;subst x0;have jt:=hid jh;have jr:=hid (jq.trans j8);have ki:=hid (kh.trans j8);have ks:=hid (j8.at kr.out id);have k1:=hid (j8.at kd.out id);clear jh j8)
    |(go_at_call 13;have j1:=jp.out;refine(km.out _ v xs k8.out HX.out).mono ?_;rintro e w4⟨v',ys,rfl,jv,hy,x2,j7⟩;have k9:=hid jv;have HY:=hid hy;have jq:=hid (jp.trans j7);have kh:=hid (kg.trans j7);have kr:=hid (j7.at kq.out id);have kd:=hid (j7.at kb.out id);clear jv hy j7)
    |(go_at_call 12;have j1:=jo.out;refine(IC.out _ _ j0 j5.out (j6.out _ (mRf _ _))).mono ?_;rw[k2.out];rintro e w3⟨rfl,j3⟩;have jp:=hid (jo.trans j3);have kg:=hid j3;have kq:=hid (j3.at kp.out id);have kb:=hid (j3.at (z0a w2 _) id);have k8:=hid (k7.fresh j3);clear j3)
    |(go_at_call 11;have j1:=HX.out;refine(kl.out _ v xs HL.out HX.out).mono ?_;rintro e w2⟨vp,j0,rfl,jc,jb,j2⟩;obtain⟨ra,rc,kz⟩:=z0c j2.row.own;subst kz;have j5:=hid jb;have j6:Hid (∀W,Q0a (w2.alloc (.cells #[.int .i64 R,.int .i64 H,.slice ra j0.length rc] 42 (0,0))) W->Q2e W W.heap.size (.slice ra j0.length rc) j0):=fun W hW=>(j2.kept (qR _) (Mod.trans ((mRf (fun _=>False) w2).alloc _) hW) (fun _ _ x=>x)).up (Mod.trans ((mRf (fun _=>False) w2).alloc _) hW).size;have jo:Hid (Q0a w (w2.alloc (.cells #[.int .i64 R,.int .i64 H,.slice ra j0.length rc] 42 (0,0)))):=(k3.trans jc).alloc _;have kp:Hid ((w2.alloc (.cells #[.int .i64 R,.int .i64 H,.slice ra j0.length rc] 42 (0,0))).heap[w.heap.size]? = some (.cells Q66 26 (0,0))):=z0b (jc.at ko.out id);have k7:=hid ((HL.fresh jc).fresh ((mRf _ w2).alloc (.cells #[.int .i64 R,.int .i64 H,.slice ra j0.length rc] 42 (0,0))));clear jc jb j2)
    |(go_at_call 10;refine(SC.out _).mono ?_;rintro e w1⟨v,rfl,ji,xs,hL,k0⟩;rw[H0.out];have HX:=hid (k0.elim (fun h=>absurd H0.out h.1) (fun h=>h.2));have HL:=hid hL;have k3:Hid (Q0a w w1):=Mod.trans ((mRf _ w).alloc _) ji;have ko:Hid (w1.heap[w.heap.size]? = some (.cells Q66 26 (0,0))):=ji.at (z0a w _) id;clear k0 hL ji))
  refine qAc (z0l rfl _ _ w.heap.size 26 (Q7o (.slice none 0 0) (.slice none 0 0) (.slice wa G.wanted.length wc) (Q49 C.1 G.place t.size)) (0,0) _ rfl (qAn _ _ _ _ _ _ jx.out) qCl rfl Q29) rfl ?_;have x5:=z0j jw.out;have h6:=jg.size;refine⟨.slice none 0 0,.slice none 0 0,.slice wa G.wanted.length wc,rfl,k4.setRow (fun h=>absurd h (qBw _)) _,Q18.nil _ _ _ _,qAh _ _ _ _,?_⟩;refine z0g (z0d ju.out (fun g hg=>?_)) h6;have ku:=ju.lt g hg;rw[qCx _ _ _ _ (by omega)];exact k5.block g ku.2 id
theorem v2q(s t:ByteArray)(w:World)(hs:s.size<=maxLen)(hl:t.size<=200)(hc:(Q0u s).1=0)(hcl:Q13 s=[])(he:(Q3r (Q0i s) t).2.1=0)(hm:(Q3r (Q0i s) t).1.length<=60) (hge:(Q24 s ((Q3r (Q0i s) t).1.map Tk.r)).err=0) :
    Calls Tryz.prog 4 #[.string s,.string t] w fun e w'=>Q2a s (⟨0,(Q3r (Q0i s) t).1,(Q24 s ((Q3r (Q0i s) t).1.map Tk.r)).st,[],0⟩) w e w':=by
  have SC:=hid (fun w=>z1t s w hs);unfold Q3x at SC;have H0:=hid hc;have kr:=(z1k s).1;have jd:=(z1k s).2;have jy:=z5a s;have kt:=z5g hc;have x1:¬(200:Int)<(t.size:Int):=by omega
  have ki:Hid (∀(W:World) (v:Value) (xs:List LV),Q0s W v xs->xs.map LV.ln=(Q0c s).1->Calls Tryz.prog 11 #[v] W fun e w'=>∃vp j0,e=.returned (.agg #[.int .i64 (nR s),.int .i64 (nH s),vp])/\Q0a W w'/\j0.map PV.pr=Q0p (Q0c s).1/\Q2e w' w'.heap.size vp j0):=fun W v xs hL hx=>by
    have h1:xs.length=(Q0c s).1.length:=by rw[← hx];simp
    have h:=z47 W v xs hL (by omega) (fun x hxx=>by
      have hm:x.ln∈(Q0c s).1:=by rw[← hx];exact qBj.2 ⟨x,hxx,rfl⟩
      exact⟨(jd x.ln hm).fb,jy x.ln hm,by have:=(jd x.ln hm).sb;omega⟩)
    rw[hx]at h;exact h
  have kj:Hid (∀(W:World) (v:Value) (xs:List LV),Q0s W v xs->xs.map LV.ln=(Q0c s).1->Calls Tryz.prog 13 #[v] W fun e w'=>∃v' ys,e=.returned v'/\Q0s w' v' ys/\ys.map LV.ln=Q0i s/\ys.length<=1000/\Q0a W w'):=fun W v xs hL hx=>by
    have h1:xs.length=(Q0c s).1.length:=by rw[← hx];simp
    refine(z5b W v xs hL (by omega) (fun x hxx=>(jd x.ln (by rw[← hx];exact qBj.2 ⟨x,hxx,rfl⟩)).fb)).mono ?_;rintro e w'⟨v',he,kk,hf⟩;refine⟨v',_,he,kk,by rw[z4x,hx];rfl,?_,hf⟩;have:=qCc (fun x:LV=>Q0x x.ln) xs;omega
  have je:Hid (∀(W:World) (v:Value) (ys:List LV),Q0s W v ys->ys.map LV.ln=Q0i s->ys.length<=1000->Calls Tryz.prog 14 #[v,.string t] W fun e w'=>∃v',e=.returned (.tuple #[v',.int .i64 (Q3r (Q0i s) t).2.1,.int .i64 (Q3r (Q0i s) t).2.2])/\Q0a W w'/\Q43 w' v' (Q3r (Q0i s) t).1):=fun W v ys hL hy hn=>by
    have h:=z82 W v ys t hL hn hl;rw[hy]at h;exact h
  have IC:Hid (∀(W:World) (vp:Value) (j0:List PV),j0.map PV.pr=Q0p (Q0c s).1->Q2e W W.heap.size vp j0->Calls Tryz.prog 12 #[.agg #[.int .i64 (nR s),.int .i64 (nH s),vp]] W fun e w'=>e=.returned (.bool (decide (0<(Q13 s).length)))/\Q0a W w'):=fun W vp j0 hm hp=>by
    obtain⟨h1,h2,h3,h4,h5⟩:=z12 s hc hm;have h:=z15 W (nR s) (nH s) vp j0 hp h2 h3 h4 (by rw[← h5];exact y0c hc);rw[z4w s hc hm]at h;exact h
  have k2:Hid (decide (0<(Q13 s).length)=false):=by unfold Hid;simp[hcl]
  have jk:=z6d s t;have hT:=y9p hc hcl;have jx:(Q3r (Q0i s) t).1.length<=1000:=by omega
  generalize hCE:Q3r (Q0i s) t=C at je he hm jx jk hge ⊢;have x3:¬(60:Int)<(C.1.length:Int):=by omega
  rw[he]at je;have GR:Hid (∀(W:World) (vp vk:Value) (j0:List PV),j0.map PV.pr=Q0p (Q0c s).1->Q2e W W.heap.size vp j0->Q1c W vk (C.1.map Tk.r)->Calls Tryz.prog 16 #[.agg #[.int .i64 (nR s),.int .i64 (nH s),vp],vk] W fun e w'=>∃vn vw,e=.returned (.tuple #[.agg (Q6m vn vw (Q24 s (C.1.map Tk.r)).place),.int .i64 (Q24 s (C.1.map Tk.r)).err])/\Q0a W w'/\Q2x w' W.heap.size vn (Q1p (Q8b s) (Q24 s (C.1.map Tk.r)).st)/\IntOwn w' W.heap.size vw (Q24 s (C.1.map Tk.r)).wanted):=fun W vp vk j0 hmp hp hk=>by
    obtain⟨h1,h2,h3,h4,h5⟩:=z12 s hc hmp;have h:=y8p W (nR s) (nH s) vp vk j0 (C.1.map Tk.r) (Q7p s) hp hk (by simpa using hm) jk (by rw[h1];exact hT) h5;rw[h1]at h;exact h
  generalize Q24 s (C.1.map Tk.r)=G at GR hge ⊢;rw[hge]at GR;generalize nR s=R at *;generalize nH s=H at *;clear kr jd jy kt hc hcl he hge jk hT hCE;go_enter Tryz.func4,Tryz.ntmps4
  go_wp2_with (first
    |(refine qAg rfl 26 _ _ rfl w.heap.size (Q7o (.slice ta C.1.length tc) (.slice na (Q1p (Q8b s) G.st).length nc) (.slice none 0 0) 0) rfl rfl _ _ jh.out Q29 rfl (z2f _ _ _ _ rfl rfl rfl) ?_)
    |(go_at_call 16;have j1:=jg.out;refine(GR.out _ _ _ j0 j5.out (j6.out _ kh.out) k5.out).mono ?_;rintro e w7⟨vn,vw,rfl,ja,jl,jn⟩;obtain⟨na,nc,ku⟩:=z0c jl;subst ku;obtain⟨wa,wc,kx⟩:=z0c jn;subst kx;have js:=hid jl;have kz:=hid jn;have k4:=hid (jg.trans ja);have jh:Hid ((w7.alloc (.cells (Q6m (.slice na (Q1p (Q8b s) G.st).length nc) (.slice wa G.wanted.length wc) G.place) 50 (0,0))).heap[w.heap.size]? = some (.cells Q66 26 (0,0))):=z0b (ja.at jw.out id);have ju:=hid ((kd.fresh ja).fresh ((mRf _ w7).alloc (.cells (Q6m (.slice na (Q1p (Q8b s) G.st).length nc) (.slice wa G.wanted.length wc) G.place) 50 (0,0))));have ks:=ja.size;clear ja jl jn)
    |(go_at_call 15;have j1:=jr.out;refine(z9j _ _ C.1 jt.out jx).mono ?_;rintro e w6⟨vk,rfl,j4,jm⟩;have k5:=hid (IntOwn.at' jm);obtain⟨ka,kc,jz⟩:=z0c jm;rw[qAv]at jz;subst jz;have jg:=hid (jr.trans j4);have kh:=hid (kg.trans j4);have jw:=hid (j4.at kp.out id);have jf:=hid (j4.at k1.out id);have kd:=hid (jt.fresh j4);have t0:=Q0b jf.out 0;have t1:=Q0b jf.out 1;have t2:=Q0b jf.out 2;simp at t0 t1 t2;clear jm j4)
    |(go_at_call 14;have j1:=jq.out;refine(je.out _ v' ys k8.out HY.out ky).mono ?_;rintro e w5⟨vt,rfl,j9,ji⟩;obtain⟨ta,tc,kw⟩:=z0c ji.own;subst kw;have jt:=hid ji;have jr:=hid (jq.trans j9);have kg:=hid (kf.trans j9);have kp:=hid (j9.at ko.out id);have k1:=hid (j9.at kb.out id);clear ji j9)
    |(go_at_call 13;have j1:=jp.out;refine(kj.out _ v xs k7.out HX.out).mono ?_;rintro e w4⟨v',ys,rfl,jv,hy,ky,j8⟩;have k8:=hid jv;have HY:=hid hy;have jq:=hid (jp.trans j8);have kf:=hid (ke.trans j8);have ko:=hid (j8.at kn.out id);have kb:=hid (j8.at k9.out id);clear jv hy j8)
    |(go_at_call 12;have j1:=jo.out;refine(IC.out _ _ j0 j5.out (j6.out _ (mRf _ _))).mono ?_;rw[k2.out];rintro e w3⟨rfl,j3⟩;have jp:=hid (jo.trans j3);have ke:=hid j3;have kn:=hid (j3.at km.out id);have k9:=hid (j3.at (z0a w2 _) id);have k7:=hid (k6.fresh j3);clear j3)
    |(go_at_call 11;have j1:=HX.out;refine(ki.out _ v xs HL.out HX.out).mono ?_;rintro e w2⟨vp,j0,rfl,jc,jb,j2⟩;obtain⟨ra,rc,kv⟩:=z0c j2.row.own;subst kv;have j5:=hid jb;have j6:Hid (∀W,Q0a (w2.alloc (.cells #[.int .i64 R,.int .i64 H,.slice ra j0.length rc] 42 (0,0))) W->Q2e W W.heap.size (.slice ra j0.length rc) j0):=fun W hW=>(j2.kept (qR _) (Mod.trans ((mRf (fun _=>False) w2).alloc _) hW) (fun _ _ x=>x)).up (Mod.trans ((mRf (fun _=>False) w2).alloc _) hW).size;have jo:Hid (Q0a w (w2.alloc (.cells #[.int .i64 R,.int .i64 H,.slice ra j0.length rc] 42 (0,0)))):=(k3.trans jc).alloc _;have km:Hid ((w2.alloc (.cells #[.int .i64 R,.int .i64 H,.slice ra j0.length rc] 42 (0,0))).heap[w.heap.size]? = some (.cells Q66 26 (0,0))):=z0b (jc.at kl.out id);have k6:=hid ((HL.fresh jc).fresh ((mRf _ w2).alloc (.cells #[.int .i64 R,.int .i64 H,.slice ra j0.length rc] 42 (0,0))));clear jc jb j2)
    |(go_at_call 10;refine(SC.out _).mono ?_;rintro e w1⟨v,rfl,jj,xs,hL,k0⟩;rw[H0.out];have HX:=hid (k0.elim (fun h=>absurd H0.out h.1) (fun h=>h.2));have HL:=hid hL;have k3:Hid (Q0a w w1):=Mod.trans ((mRf _ w).alloc _) jj;have kl:Hid (w1.heap[w.heap.size]? = some (.cells Q66 26 (0,0))):=jj.at (z0a w _) id;clear k0 hL jj))
  refine qAc (z0l rfl _ _ w.heap.size 26 (Q7o (.slice ta C.1.length tc) (.slice na (Q1p (Q8b s) G.st).length nc) (.slice none 0 0) 0) (0,0) _ rfl (qAn _ _ _ _ _ _ jh.out) qCl rfl Q29) rfl ?_;have x2:=z0j jw.out;have h6:=jg.size;refine⟨.slice ta C.1.length tc,.slice na (Q1p (Q8b s) G.st).length nc,.slice none 0 0,rfl,(k4.alloc _).setRow (fun h=>absurd h (qBw _)) _,?_,?_,qAh _ _ _ _⟩
  · refine ju.kept (S:=fun k=>k=w.heap.size) (Mod.setRow (S:=fun k=>k=w.heap.size) (mRf _ _) (g:=w.heap.size) (fun _=>rfl) _) (fun b hb hbe=>?_)
    subst hbe;obtain⟨x0,j7⟩:=x7h ju.own hb;rw[jh.out]at j7;simp at j7
  refine z0g (z0d js.out (fun g hg=>?_)) h6;have kq:=js.lt g hg;rw[qCx _ _ _ _ (by omega)];exact z0s kq.2
theorem y8g(lns:List Ln)(t:ByteArray)(ht:t.size<=200):∀(f i:Nat) (toks:List Tk),toks.length<=i->i<=t.size->(Q93 lns t f i toks).1.length<=t.size
  |0,_,_,_,_=>by simp[Q93]
  |f+1,i,toks,h,hi=>by
    unfold Q93;have hb:=y78 lns t i;split
    · split
      · simp
      rename_i h1 h2;have j0:(if Q27 lns (Q2j lns t i).1 then toks else toks++[⟨(Q2j lns t i).1,i,(Q2j lns t i).2⟩]).length<=toks.length+1:=by
        split
        · omega
        simp
      refine y8g lns t ht f _ _ ?_ ?_
      · omega
      omega
    show toks.length<=t.size;omega
theorem x94(s t:ByteArray)(ht:t.size<=200):(Q3r (Q0i s) t).1.length<=1000:=by
  have:=y8g (Q0i s) t ht (t.size+1) 0 [] (by simp) (by omega);unfold Q3r;omega
theorem v1i(s t:ByteArray)(w:World)(hs:s.size<=maxLen)(ht:t.size<=maxLen) :
    Calls Tryz.prog 4 #[.string s,.string t] w fun e w'=>Q2a s (Q82 s t) w e w':=by
  unfold Q82;by_cases hl:200<t.size
  · rw[qAb hl];exact x7z s t w ht hl
  rw[qAa hl];have j1:t.size<=200:=by omega
  by_cases hc:(Q0u s).1=0
  · rw[qAa (by simp[hc])]
    by_cases j0:Q13 s=[]
    · rw[qAa (by simp[j0])]
      unfold runG;by_cases he:(Q3r (Q0i s) t).2.1=0
      · rw[qAa (by simp[he])]
        by_cases hm:60<(Q3r (Q0i s) t).1.length
        · rw[qAb hm];exact x70 s t w hs j1 hc j0 he hm (x94 s t j1)
        rw[qAa hm];by_cases j2:(Q24 s ((Q3r (Q0i s) t).1.map Tk.r)).err=0
        · rw[qAa (by simp[j2])];exact v2q s t w hs j1 hc j0 he (by omega) j2
        rw[qAb j2];exact v1l s t w hs j1 hc j0 he (by omega) j2
      rw[qAb he];exact v1k s t w hs j1 hc j0 he
    rw[qAb j0];exact x43 s t w hs j1 hc j0
  rw[qAb hc];exact v1j s t w hs j1 hc
theorem y61{ps:List Pr}{R H:Nat}{hs:List Hd}(h:Tab ps R H hs):∀(l:List Int) (a:Nat) (k:List Sy) (st:List St),Q4z (hN hs) (hF hs) (hO hs) R k->Q3d R H k->(∀s∈st,0<=s.num/\s.num<=127)->Q1z R l=true ->
    a+l.length<=60->k.length<=1+48*a->st.length<=a*2000000000->(Q6k ps hs R H l a k st).st.length<=61*2000000000/\(Q6k ps hs R H l a k st).wanted.length<=9
  | [],a,k,st,h1,h2,h3,_,h5,h6,h7=>by
    unfold Q6k;split
    · rename_i hw
      obtain⟨_,s2,s3,_,_,_,s7⟩:=h.step (qR _) h1 h2 h3 hw;simp only[qEq,Nat.add_zero]at h5;obtain⟨_,_,q3,_⟩:=Q95 h5 h6 h7 s3 s2 s7;refine⟨qDa q3 (qCr _ (by omega)),by simp⟩
    exact⟨by simp,z4b _⟩
  |t::l,a,k,st,h1,h2,h3,h4,h5,h6,h7=>by
    have h8:(0<=t/\t<R)/\Q1z R l=true:=by
      unfold Q1z at h4 ⊢;simpa using h4
    simp only[qBk]at h5;unfold Q6k;split
    · rename_i hw
      obtain⟨_,s2,s3,s4,s5,s6,s7⟩:=h.step (t:=t.toNat) (by omega) h1 h2 h3 hw;obtain⟨_,_,q3,q4⟩:=Q95 (show a<=60 by omega) h6 h7 s3 s2 s7;exact y61 h l (a+1) _ _ s4 s5 s6 h8.2 (by omega) q4 q3
    exact⟨by simp,z4b _⟩
theorem v0b{s:ByteArray}(hc:(Q0u s).1=0)(hcl:Q13 s=[])(l:List Int)(hk:Q1z (nR s) l=true)(hl:l.length<=60):(Q24 s l).st.length<=61*2000000000/\(Q24 s l).wanted.length<=9:=by
  have hT:=y9p hc hcl;exact y61 hT l 0 _ _ hT.start.1 hT.start.2 (by simp) hk (by omega) (by simp) (by simp)
def thr(ps:List Pr)(hs:List Hd)(R H:Nat):List Int->List Sy->List St->Option (List Sy × List St)
  | [],k,st=>some (k,st)
  |t::l,k,st=>if(Q57 hs R k).getD t.toNat false then thr ps hs R H l (Q7w ps hs H t.toNat k st).1 (Q7w ps hs H t.toNat k st).2 else none
section
variable {ps:List Pr}{hs:List Hd}{R H:Nat}
theorem y3i:∀(l:List Int) (k:List Sy) (st:List St) (r:List Sy × List St),thr ps hs R H l k st=some r->∀j,∃r',thr ps hs R H (l.take j) k st=some r'
  | [],k,st,r,h,j=>⟨_,by rw[List.take_nil];rfl⟩
  |t::l,k,st,r,h,0=>⟨_,rfl⟩
  |t::l,k,st,r,h,j+1=>by
    unfold thr at h;split at h
    · rename_i hw
      obtain⟨r',h'⟩:=y3i l _ _ r h j;exact⟨r',by rw[List.take_succ_cons,thr,qAb hw];exact h'⟩
    cases h
theorem y8q:∀(l:List Int) (a:Nat) (k:List Sy) (st:List St),∃(n:Nat) (r:List Sy × List St),n<=l.length/\thr ps hs R H (l.take n) k st=some r /\
    ((n=l.length/\(Q57 hs R r.1).getD R false=true/\(Q6k ps hs R H l a k st).err=0) ∨
     ((Q6k ps hs R H l a k st).err=10/\(Q6k ps hs R H l a k st).place=a+n/\(Q6k ps hs R H l a k st).st=[]/\(Q6k ps hs R H l a k st).wanted=Q3e (Q57 hs R r.1) /\
      (∀h:n<l.length,(Q57 hs R r.1).getD l[n].toNat false=false)/\(n=l.length->(Q57 hs R r.1).getD R false=false)))
  | [],a,k,st=>by
    refine⟨0,(k,st),qR _,rfl,?_⟩;unfold Q6k;split
    · rename_i hw;exact .inl ⟨rfl,hw,rfl⟩
    rename_i hw;exact .inr ⟨rfl,rfl,rfl,rfl,fun h=>absurd h (by simp),fun _=>by simpa using hw⟩
  |t::l,a,k,st=>by
    unfold Q6k;split
    · rename_i hw
      obtain⟨n,r,h1,h2,h3⟩:=y8q l (a+1) (Q7w ps hs H t.toNat k st).1 (Q7w ps hs H t.toNat k st).2;refine⟨n+1,r,by simpa using h1,by rw[List.take_succ_cons,thr,qAb hw];exact h2,?_⟩;rcases h3 with⟨e1,e2,e3⟩|⟨e1,e2,e3,e4,e5,e6⟩
      · exact .inl ⟨by simp[e1],e2,e3⟩
      exact .inr ⟨e1,by rw[e2];omega,e3,e4,fun h=>by simpa using e5 (by simpa using h),fun h=>e6 (by simpa using h)⟩
    rename_i hw;exact⟨0,(k,st),qBq _,rfl,.inr ⟨rfl,rfl,rfl,rfl,fun _=>by simpa using hw,fun h=>by simp at h⟩⟩
end
theorem y1g{R:Int}{l:List Int}(h:Q1z R l=true)(n:Nat):Q1z R (l.take n)=true:=by
  unfold Q1z at h ⊢;rw[qAy]at h ⊢;exact fun x hx=>h x (qFl hx)
def Q1i(ps:List Pr):List St->List Sy->Option (List Sy)
  | [],k=>some k
  |_::_,[]=>none
  | s :: l,y::k=>if s.leaf then(if y.isH=false/\y.num=s.num then Q1i ps l k else none)
      else if y.isH=true/\0<=s.num then(match ps[s.num.toNat]? with
        |some p=>if p.head=y.num then Q1i ps l (p.syms++k) else none
        |none=>none) else none
def Q0d(l:List St):List Int:=(l.filter St.leaf).map St.num
theorem z0o(a b:List St):Q0d (a++b)=Q0d a++Q0d b:=by simp[Q0d]
theorem z3d{a:List St}(h:∀x∈a,x.leaf=false):Q0d a=[]:=by
  unfold Q0d;rw[List.filter_eq_nil_iff.2 (fun x hx=>by simp[h x hx])];rfl
theorem z1g(ps:List Pr):∀(a b:List St) (k:List Sy),Q1i ps (a++b) k=(Q1i ps a k).bind (Q1i ps b)
  | [],b,k=>rfl
  |s::a,b,[]=>rfl
  |s::a,b,y::k=>by
    simp only[qBh,Q1i];split
    · split
      · exact z1g ps a b k
      rfl
    split
    · split
      · split
        · exact z1g ps a b _
        rfl
      rfl
    rfl
theorem y2h{ps:List Pr}{ch:Int->Nat->Int}{t:Nat}(hch:∀X,0<=ch X t->∃p,ps[(ch X t).toNat]? = some p/\p.head=X):∀(f:Nat) (k:List Sy) (st:List St) (r:List Sy × List St),gTo ps ch t f k st=some r->∃ns,r.2=st++ns/\Q1i ps ns k=some r.1
  |0,_,_,_,h=>by cases h
  |f+1,[],st,r,h=>by cases h;exact⟨[],by simp,rfl⟩
  |f+1,s::k,st,r,h=>by
    unfold gTo at h;split at h
    · rename_i hs
      cases h;exact⟨[⟨true,s.num⟩],rfl,by simp[Q1i,hs]⟩
    rename_i hs;split at h
    · rename_i h0
      obtain⟨p,hp,hh⟩:=hch _ h0;rw[hp]at h;obtain⟨ns,h1,h2⟩:=y2h hch f _ _ r h;refine⟨⟨false,ch s.num t⟩::ns,by rw[h1];simp,?_⟩;have j0:s.isH=true:=by simpa using hs
      simp only[Q1i,qF,qAz];rw[qAb ⟨j0,h0⟩,hp];simp only[];rw[qAb hh];exact h2
    cases h
section
variable {ps:List Pr}{R H:Nat}{N:Int->Bool}{F O:Int->Nat->Bool}{ch:Int->Nat->Int}
theorem z6h{t:Nat}:∀(l:List Sy),(∀s∈l,∃(c:Nat) (ns:List St),(∀x∈ns,x.leaf=false)/\∀f k st,gTo ps ch t (c+f) (s::k) st=gTo ps ch t f k (st++ns)) ->
    ∃(c:Nat) (ns:List St),(∀x∈ns,x.leaf=false)/\∀f k st,gTo ps ch t (c+f) (l++k) st=gTo ps ch t f k (st++ns)
  | [],_=>⟨0,[],by simp,fun f k st=>by simp⟩
  |s::l,h=>by
    obtain⟨c1,n1,h1,h3⟩:=h s (by simp);obtain⟨c2,n2,h4,h6⟩:=z6h l (fun x hx=>h x (by simp[hx]));refine⟨c1+c2,n1++n2,?_,fun f k st=>?_⟩
    · intro x hx
      rcases qBs.1 hx with hx|hx
      · exact h1 x hx
      exact h4 x hx
    rw[qDm,qBh,h3,h6,qAs]
theorem LLG.nullN(g:LLG ps R H N F O ch){t:Nat}(ht:t<=R):∀(n:Nat) (s:Sy),s.isH=true->NS ps n s.num=true->O s.num t=true ->
    ∃(c:Nat) (ns:List St),(∀x∈ns,x.leaf=false)/\∀f k st,gTo ps ch t (c+f) (s::k) st=gTo ps ch t f k (st++ns)
  |0,_,_,h,_=>by cases h
  |n+1,s,hs,h,ho=>by
    obtain⟨i,p,hi,hp,hc,hl,hall⟩:=g.nul1 h ht ho;obtain⟨c,ns,h1,h3⟩:=z6h (ps:=ps) (ch:=ch) (t:=t) p.syms (fun x hx=>g.nullN ht n x (hall x hx).1 (hall x hx).2.1 (hall x hx).2.2);refine⟨c+1,⟨false,i⟩::ns,?_,fun f k st=>?_⟩
    · intro x hx
      simp only[qBu]at hx;rcases hx with rfl|hx
      · rfl
      exact h1 x hx
    rw[show c+1+f=c+f+1 by omega,z5j hi hs hc,h3,qAs];rfl
theorem LLG.firstN(g:LLG ps R H N F O ch){t:Nat}(ht:t<=R):∀(n:Nat) (s:Sy),s.isH=true->FS ps N t n s.num=true ->
    ∃(c:Nat) (ns:List St) (k':List Sy),(∀x∈ns,x.leaf=false)/\∀f k st,gTo ps ch t (c+f+1) (s::k) st=some (k'++k,st++ns++[⟨true,t⟩])
  |0,_,_,h=>by cases h
  |n+1,s,hs,h=>by
    unfold FS at h;rw[qBb]at h;obtain⟨p,hp,h⟩:=h;simp only[qAd,qBi]at h;obtain⟨i,hi⟩:=x9w hp;have hb:=z33 (g.fsF t n) _ h.2;have ha:ahd N F O p t=true:=by unfold ahd;rw[hb];rfl
    have hc:=g.one i p hi t ht ha;rw[h.1]at hc;obtain⟨a,x,b,e,h1,h2⟩:=z1s h.2;have j2:(if x.isH then F x.num t else x.num==(t:Int))=true:=by
      cases hx:x.isH
      · rw[hx]at h2;exact h2
      rw[hx]at h2;exact g.fsF t n _ h2
    obtain⟨c,ns,k1,k3⟩:=z6h (ps:=ps) (ch:=ch) (t:=t) a (fun y hy=>by
      have j0:=(qAy.1 h1) y hy;simp only[Q4c,qAd]at j0;refine g.nullN ht H y j0.1 (g.leN _ j0.2) ?_;obtain⟨a1,a2,ea⟩:=qEy hy;refine g.clO p hp a1 y (a2++x::b) (by rw[e,ea];simp) j0.1 t ?_;have:Q3y N (fun X=>F X t) t (a2++x::b)=true:=z28 x b j2 a2 (by
        rw[qAy]at h1 ⊢;intro z hz;exact h1 z (by rw[ea];simp[hz]))
      rw[this];rfl)
    have j1:∀y∈(⟨false,i⟩:St)::ns,y.leaf=false:=fun y hy=>by
      simp only[qBu]at hy;rcases hy with rfl|hy
      · rfl
      exact k1 y hy
    cases hx:x.isH
    · rw[hx]at h2
      simp only[qF,qAz,qBi]at h2;refine⟨c+1,⟨false,i⟩::ns,b,j1,fun f k st=>?_⟩;rw[show c+1+f+1=c+(f+1)+1 by omega,z5j hi hs hc,e,qAs,k3,qBh,gTo,qAb hx,h2];simp
    rw[hx]at h2;simp only[qBn]at h2;obtain⟨c',j3,k',m1,m4⟩:=g.firstN ht n x hx h2;refine⟨c+1+c',⟨false,i⟩::(ns++j3),k'++b,?_,fun f k st=>?_⟩
    · intro y hy
      rw[← qBh]at hy;rcases qBs.1 hy with hy|hy
      · exact j1 y hy
      exact m1 y hy
    rw[show c+1+c'+f+1=c+(c'+f+1)+1 by omega,z5j hi hs hc,e,qAs,k3,qBh,m4];simp
theorem LLG.leaf(g:LLG ps R H N F O ch){t:Nat}(ht:t<=R)(k:List Sy)(hk:Q4z N F O R k)(hin:Q3d R H k)(hw:Q6u N F R k t=true)(st:List St){f:Nat}{r:List Sy × List St}(hr:gTo ps ch t f k st=some r) :
    ∃ns,r.2=st++ns/\((t<R/\Q0d ns=[(t:Int)])∨(t=R/\Q0d ns=[]/\r.1=[])):=by
  have j3:∀(a:List Sy) (x:List Sy),k=a++x->a.all (Q4c N)=true->Q6u N F R x t=true->∃(c:Nat) (ns:List St),(∀x∈ns,x.leaf=false)/\∀f k st,gTo ps ch t (c+f) (a++k) st=gTo ps ch t f k (st++ns):=by
    intro a x e ha hx;refine z6h a (fun y hy=>?_);have j1:=(qAy.1 ha) y hy;simp only[Q4c,qAd]at j1;refine g.nullN ht H y j1.1 (g.leN _ j1.2) ?_;obtain⟨a1,a2,ea⟩:=qEy hy;refine hk a1 y (a2++x) (by rw[e,ea];simp) j1.1 t ?_;have j5:a2.all (Q4c N)=true:=by
      rw[qAy]at ha ⊢;intro z hz;exact ha z (by rw[ea];simp[hz])
    unfold Q6u at hx ⊢;rw[z2v,List.all_append,j5];simp only[qBm];rw[Bool.or_assoc,hx];simp
  have j0:∀{f':Nat}{r':List Sy × List St},gTo ps ch t f' k st=some r'->r=r':=fun {f' r'} h'=>by
    have h1:=z19 _ _ _ _ hr (f+f') (by omega);have h2:=z19 _ _ _ _ h' (f+f') (by omega);rw[h1]at h2;simpa using h2
  unfold Q6u at hw;cases hb:Q3y N (fun X=>F X t) t k
  · rw[hb]at hw
    simp only[qDj,qAd,qBi]at hw;obtain⟨j6,rfl⟩:=hw;obtain⟨c,ns,h1,h3⟩:=j3 k [] (by simp) j6 (by simp[Q6u,Q3y]);have h4:=h3 1 [] st;rw[qBd]at h4;have e:=j0 (f':=c+1) (r':=([],st++ns)) (by rw[h4];rfl);rw[e];exact⟨ns,rfl,.inr ⟨rfl,z3d h1,rfl⟩⟩
  obtain⟨a,s,b,rfl,ha,hs⟩:=z1s hb;have j2:t<R:=by
    cases hx:s.isH
    · rw[hx]at hs
      simp only[qF,qAz,qBi]at hs;have:=hin s (by simp);rw[hx]at this;simp only[qF,qAz]at this;omega
    rw[hx]at hs;exact g.bF _ _ hs
  obtain⟨c,ns,h1,h3⟩:=j3 a (s::b) rfl ha (by
    unfold Q6u;have:Q3y N (fun X=>F X t) t ([]++s::b)=true:=z28 s b hs [] rfl;rw[qCh]at this;rw[this];rfl)
  cases hx:s.isH
  · rw[hx]at hs
    simp only[qF,qAz,qBi]at hs;have e:=j0 (f':=c+1) (r':=(b,st++ns++[⟨true,s.num⟩])) (by rw[h3,gTo,qAb hx]);rw[e];refine⟨ns++[⟨true,s.num⟩],by simp,.inl ⟨j2,?_⟩⟩;rw[z0o,z3d h1,hs];rfl
  rw[hx]at hs;simp only[qBn]at hs;obtain⟨c',j4,k',m1,m4⟩:=g.firstN ht H s hx (g.leF _ _ hs);have e:=j0 (f':=c+(c'+0+1)) (r':=(k'++b,st++ns++j4++[⟨true,t⟩])) (by rw[h3];exact m4 0 b (st++ns));rw[e];refine⟨ns++j4++[⟨true,t⟩],by simp,.inl ⟨j2,?_⟩⟩;rw[z0o,z0o,z3d h1,z3d m1];rfl
end
theorem z20(ps:List Pr):∀(L:List St) (ys k:List Sy),Q1i ps L (ys++k)=some []->∃A B,L=A++B/\Q1i ps A ys=some []/\Q1i ps B k=some []
  |L,[],k,h=>⟨[],L,rfl,rfl,h⟩
  | [],y::ys,k,h=>by simp[Q1i]at h
  |s::L,y::ys,k,h=>by
    simp only[qBh,Q1i]at h;cases hl:s.leaf
    · rw[hl]at h
      simp only[qF,qAz]at h;split at h
      · rename_i hy
        cases hp:ps[s.num.toNat]? with
        |none=>rw[hp]at h;cases h
        |some p =>
          rw[hp]at h;simp only[]at h;split at h
          · rename_i hh
            rw[← qAs]at h;obtain⟨A,B,h1,h2,h3⟩:=z20 ps L (p.syms++ys) k h;refine⟨s::A,B,by rw[h1];rfl,?_,h3⟩;simp only[Q1i,hl,qF,qAz];rw[qAb hy,hp];simp only[];rw[qAb hh];exact h2
          cases h
      cases h
    rw[hl]at h;simp only[qBn]at h;split at h
    · rename_i hy
      obtain⟨A,B,h1,h2,h3⟩:=z20 ps L ys k h;refine⟨s::A,B,by rw[h1];rfl,?_,h3⟩;simp only[Q1i,hl,qBn];rw[qAb hy];exact h2
    cases h
theorem z27{ps:List Pr}:∀{A:List St},Q1i ps A []=some []->A=[]
  | [],_=>rfl
  |_::_,h=>by simp[Q1i]at h
theorem y2t:∀(a b:List St) (c:Nat),ndL (a++b) c=ndL a c++ndL b (c+(Q0d a).length)
  | [],b,c=>by simp[ndL,Q0d]
  |s::a,b,c=>by
    cases hl:s.leaf
    · have e:Q0d (s::a)=Q0d a:=by simp[Q0d,hl]
      simp only[qBh,ndL,hl,qF,qAz,e,y2t a b c]
    have e:Q0d (s::a)=s.num::Q0d a:=by simp[Q0d,hl]
    simp only[qBh,ndL,hl,qBn,e,y2t a b (c+1),qBk];rw[show c+1+(Q0d a).length=c+((Q0d a).length+1) by omega]
theorem z6r(ps:List Pr):∀(n:Nat) (A B:List St) (y:Sy) (c:Nat),A.length<=n->Q1i ps A [y]=some []->(Q08 ps (ndL (A++B) c))[0]? = some A.length:=by
  intro n;induction n with
  |zero =>
    intro A B y c hn h;have:A=[]:=qCm (by omega);subst this;simp[Q1i]at h
  |succ n ih =>
    have j0:∀(ys:List Sy) (A' pre B:List St) (c:Nat),A'.length<=n->Q1i ps A' ys=some []->szL (Q08 ps (ndL (pre++(A'++B)) c)) ys.length (1+pre.length)=1+pre.length+A'.length:=by
      intro ys;induction ys with
      |nil =>
        intro A' pre B c hn h;have:=z27 h;subst this;rfl
      |cons y ys ih2 =>
        intro A' pre B c hn h;obtain⟨A1,A2,e,h1,h2⟩:=z20 ps A' [y] ys h;subst e;simp only[qP]at hn;have hs:(Q08 ps (ndL (pre++(A1++A2++B)) c))[1+pre.length-1]? = some A1.length:=by
          have e1:(Q08 ps (ndL (pre++(A1++A2++B)) c))[1+pre.length-1]? = ((Q08 ps (ndL (pre++(A1++A2++B)) c)).drop pre.length)[0]? := by
            rw[qDx];congr 1;omega
          rw[e1,z4t,y2t,List.drop_left' (by rw[z69]),qAs];exact ih A1 (A2++B) y _ (by omega) h1
        rw[qBk,szL,hs];simp only[];have h3:=ih2 A2 (pre++A1) B c (by omega) h2;rw[qAs,← qAs A1 A2 B,qP]at h3;rw[show 1+pre.length+A1.length=1+(pre.length+A1.length) by omega,h3];simp only[qP];omega
    intro A B y c hn h;cases A with
    |nil=>simp[Q1i]at h
    |cons s A' =>
      simp only[Q1i]at h;simp only[qBk]at hn;cases hl:s.leaf
      · rw[hl]at h
        simp only[qF,qAz]at h;split at h
        · rename_i hy
          cases hp:ps[s.num.toNat]? with
          |none=>rw[hp]at h;cases h
          |some p =>
            rw[hp]at h;simp only[qBd]at h;split at h
            · have hc:=j0 p.syms A' [] B c (by omega) h
              simp only[qCh,qEq,Nat.add_zero]at hc;simp only[qBh,ndL,hl,qF,qAz,Q08,qCv,qO,qBk];have ha:arF ps ⟨s.num,-1,c,0⟩=p.syms.length:=by
                unfold arF;dsimp only;rw[qAa (by omega),hp]
              rw[ha,hc];omega
            cases h
        cases h
      rw[hl]at h;simp only[qBn]at h;split at h
      · have:=z27 h
        subst this;simp only[qBh,qCh,ndL,hl,qBn,Q08,qCv,qO,qBk,qEq];have ha:arF ps ⟨-1,s.num,c,0⟩=0:=by unfold arF;rw[qAb (by dsimp only;omega)]
        rw[ha];rfl
      cases h
theorem z05{ps:List Pr}{s:St}{l:List St}{k r:List Sy}(hs:s.leaf=false)(h:Q1i ps (s::l) k=some r) :
    ∃y k' p,k=y::k'/\y.isH=true/\0<=s.num/\ps[s.num.toNat]? = some p/\p.head=y.num/\Q1i ps l (p.syms++k')=some r:=by
  cases k with
  |nil=>simp[Q1i]at h
  |cons y k =>
    simp only[Q1i,hs,qF,qAz]at h;split at h
    · rename_i hy
      cases hp:ps[s.num.toNat]? with
      |none=>rw[hp]at h;cases h
      |some p =>
        rw[hp]at h;simp only[]at h;split at h
        · rename_i hh
          exact⟨y,k,p,rfl,hy.1,hy.2,rfl,hh,h⟩
        cases h
    cases h
theorem z09{ps:List Pr}{s:St}{l:List St}{k r:List Sy}(hs:s.leaf=true)(h:Q1i ps (s::l) k=some r) :
    ∃y k',k=y::k'/\y.isH=false/\y.num=s.num/\Q1i ps l k'=some r:=by
  cases k with
  |nil=>simp[Q1i]at h
  |cons y k =>
    simp only[Q1i,hs,qBn]at h;split at h
    · rename_i hy
      exact⟨y,k,rfl,hy.1,hy.2,h⟩
    cases h
theorem y9g{ps:List Pr}{R H:Nat}(hT:Q1d ps R H):∀(A:List St) (k r:List Sy),Q3d R H k->Q1i ps A k=some r->∀x∈A,0<=x.num/\(x.leaf=true->x.num<R)/\(x.leaf=false->x.num<ps.length)
  | [],_,_,_,_,x,hx=>by cases hx
  |s::A,k,r,hk,h,x,hx=>by
    cases hs:s.leaf
    · obtain⟨y,k',p,rfl,h1,h2,h3,h4,h5⟩:=z05 hs h
      rcases qBu.1 hx with rfl|hx
      · have:=(qS h3).1
        exact⟨h2,fun e=>by rw[hs]at e;(cases e),fun _=>by omega⟩
      refine y9g hT A (p.syms++k') r (fun z hz=>?_) h5 x hx;rcases qBs.1 hz with hz|hz
      · exact hT.sy p (qAi h3) z hz
      exact hk z (qEa _ hz)
    obtain⟨y,k',rfl,h1,h2,h3⟩:=z09 hs h;rcases qBu.1 hx with rfl|hx
    · have:=hk y (by simp)
      rw[h1,h2]at this;exact⟨this.1,fun _=>by simpa using this.2,fun e=>by rw[hs]at e;(cases e)⟩
    exact y9g hT A k' r (fun z hz=>hk z (qEa _ hz)) h3 x hx
section
variable {ps:List Pr}{R H:Nat}{N:Int->Bool}{F O:Int->Nat->Bool}{ch:Int->Nat->Int}
theorem LLG.runNull(g:LLG ps R H N F O ch):∀(B:List St) (k:List Sy),(∀x∈B,x.leaf=false)->Q1i ps B k=some []->k.all (Q4c N)=true
  | [],k,_,h=>by cases h;rfl
  |s::B,k,hl,h=>by
    obtain⟨y,k',p,rfl,h1,h2,h3,h4,h5⟩:=z05 (hl s (by simp)) h;have:=g.runNull B _ (fun x hx=>hl x (qEa _ hx)) h5;rw[List.all_append,qAd]at this;have hn:=g.clN p (qAi h3) this.1;rw[qDv,this.2,Q4c,h1,← h4,hn];rfl
theorem LLG.runFirst(g:LLG ps R H N F O ch){t:Nat}{C:List St}:∀(B:List St) (k r:List Sy),(∀x∈B,x.leaf=false)->Q1i ps (B++⟨true,t⟩::C) k=some r->Q3y N (fun X=>F X t) t k=true
  | [],k,r,_,h=>by
    obtain⟨y,k',rfl,h1,h2,h3⟩:=z09 rfl h;simp only[Q3y,h1,qF,qAz,h2];simp
  |s::B,k,r,hl,h=>by
    obtain⟨y,k',p,rfl,h1,h2,h3,h4,h5⟩:=z05 (hl s (by simp)) h;have:=g.runFirst B _ r (fun x hx=>hl x (qEa _ hx)) h5;rw[z2v,qAt,qAd]at this;simp only[Q3y,h1,qBn,qBm];rcases this with h6|⟨h6,h7⟩
    · rw[← h4,g.clF p (qAi h3) t h6];rfl
    rw[← h4,g.clN p (qAi h3) h6,h7];simp
theorem LLG.runTo(g:LLG ps R H N F O ch){t:Nat}(ht:t<=R){C:List St}:∀(B:List St) (k r:List Sy) (st:List St),Q4z N F O R k->(∀x∈B,x.leaf=false)->Q1i ps (B++⟨true,t⟩::C) k=some r ->
    ∃f k',Q1i ps C k'=some r/\gTo ps ch t f k st=some (k',st++(B++[⟨true,t⟩]))
  | [],k,r,st,hk,_,h=>by
    obtain⟨y,k',rfl,h1,h2,h3⟩:=z09 rfl h;refine⟨1,k',h3,?_⟩;simp only[gTo,h1,qBn,h2,qCh]
  |s::B,k,r,st,hk,hl,h=>by
    have hs:=hl s (by simp);have hB:=fun x hx=>hl x (qEa s hx);obtain⟨y,k',p,rfl,h1,h2,h3,h4,h5⟩:=z05 hs h;have hb:=g.runFirst B _ r hB h5;rw[z2v,qAt,qAd]at hb;have ha:ahd N F O p t=true:=by
      unfold ahd;rcases hb with hb|⟨hb,hc⟩
      · rw[hb];rfl
      rw[hb,h4,hk [] y k' rfl h1 t (by unfold Q6u;rw[hc];rfl)];simp
    have j0:=g.one s.num.toNat p h3 t ht ha;rw[h4]at j0;obtain⟨f,k2,e1,e2⟩:=g.runTo ht B (p.syms++k') r (st++[s]) (g.stkOpen (qAi h3) h1 h4 hk) hB h5;refine⟨f+1,k2,e1,?_⟩;have j1:s=⟨false,ch y.num t⟩:=by
      obtain⟨sl,sn⟩:=s;dsimp only at hs j0 h2 ⊢;rw[j0,hs];congr 1;omega
    rw[gTo,qAa (by simp[h1]),qAb (by omega)];have:(ch y.num t).toNat=s.num.toNat:=by omega
    rw[this,h3];simp only[];rw[← j1,e2];simp
theorem LLG.runEnd(g:LLG ps R H N F O ch):∀(B:List St) (k:List Sy) (st:List St),Q4z N F O R k->(∀x∈B,x.leaf=false)->Q1i ps B k=some []->∃f,gTo ps ch R f k st=some ([],st++B)
  | [],k,st,hk,_,h=>by
    cases h;exact⟨1,by simp[gTo]⟩
  |s::B,k,st,hk,hl,h=>by
    have hs:=hl s (by simp);have hB:=fun x hx=>hl x (qEa s hx);obtain⟨y,k',p,rfl,h1,h2,h3,h4,h5⟩:=z05 hs h;have hb:=g.runNull B _ hB h5;rw[List.all_append,qAd]at hb;have ha:ahd N F O p R=true:=by
      unfold ahd;rw[hb.1,h4,hk [] y k' rfl h1 R (by unfold Q6u;rw[hb.2];simp)];simp
    have j0:=g.one s.num.toNat p h3 R (qR _) ha;rw[h4]at j0;obtain⟨f,e2⟩:=g.runEnd B (p.syms++k') (st++[s]) (g.stkOpen (qAi h3) h1 h4 hk) hB h5;refine⟨f+1,?_⟩;have j1:s=⟨false,ch y.num R⟩:=by
      obtain⟨sl,sn⟩:=s;dsimp only at hs j0 h2 ⊢;rw[j0,hs];congr 1;omega
    rw[gTo,qAa (by simp[h1]),qAb (by omega)];have:(ch y.num R).toNat=s.num.toNat:=by omega
    rw[this,h3];simp only[];rw[← j1,e2];simp
end
theorem y1i{A:List St}(h:Q0d A=[]):∀x∈A,x.leaf=false:=by
  intro x hx;unfold Q0d at h;rw[List.map_eq_nil_iff,List.filter_eq_nil_iff]at h;simpa using h x hx
theorem z4o:∀{A:List St}{t:Int}{l:List Int},Q0d A=t::l->∃B C,A=B++⟨true,t⟩::C/\(∀x∈B,x.leaf=false)/\Q0d C=l
  | [],t,l,h=>by simp[Q0d]at h
  |s::A,t,l,h=>by
    obtain⟨sl,sn⟩:=s;cases sl
    · have e:Q0d (⟨false,sn⟩::A)=Q0d A:=by simp[Q0d]
      rw[e]at h;obtain⟨B,C,h1,h2,h3⟩:=z4o h;refine⟨⟨false,sn⟩::B,C,by rw[h1];rfl,fun x hx=>?_,h3⟩;rcases qBu.1 hx with rfl|hx
      · rfl
      exact h2 x hx
    have e:Q0d (⟨true,sn⟩::A)=sn::Q0d A:=by simp[Q0d]
    rw[e,qBe]at h;exact⟨[],A,by rw[h.1];rfl,fun x hx=>by(cases hx),h.2⟩
theorem z8b{ps:List Pr}{R H:Nat}{hs:List Hd}(h:Tab ps R H hs):∀(l:List Int) (A:List St) (a:Nat) (k:List Sy) (st:List St),Q0d A=l->Q4z (hN hs) (hF hs) (hO hs) R k->Q3d R H k->(∀s∈st,0<=s.num/\s.num<=127)->Q1i ps A k=some [] ->
    Q6k ps hs R H l a k st=⟨0,[],0,st++A⟩
  | [],A,a,k,st,hl,h1,h2,h3,hru=>by
    have hA:=y1i hl;have j0:=h.g.runNull A k hA hru;have j1:Q6u (hN hs) (hF hs) R k R=true:=by unfold Q6u;rw[j0];simp
    have hw:(Q57 hs R k).getD R false=true:=by rw[z30 h.ok h.hR k h2 R];exact j1
    obtain⟨s1,_⟩:=h.step (qR _) h1 h2 h3 hw;rw[z3a (R:=R) (H:=H) (t:=R) (ch:=chL (Q6d (ps.zip (Q0r hs ps)) 72)) (ch':=chF hs ps) (fun X x0 x1=>z8u x0 (by have:=h.hH;omega) (by have:=h.hR;omega)) (fun p hp=>(h.syms p hp).2) _ _ _ h2]at s1;obtain⟨f,e⟩:=h.g.runEnd A k st h1 hA hru;have m1:=z19 _ _ _ _ s1 (max f (Q2y H k.length)) (by omega);have m2:=z19 _ _ _ _ e (max f (Q2y H k.length)) (by omega);rw[m1,qO]at m2;unfold Q6k;rw[qAb hw,m2]
  |t::l,A,a,k,st,hl,h1,h2,h3,hru=>by
    obtain⟨B,C,rfl,hB,hC⟩:=z4o hl;have j2:=y9g h.g.tab _ _ _ h2 hru ⟨true,t⟩ (by simp);obtain⟨n,rfl⟩:∃n:Nat,t=n:=⟨t.toNat,by have:=j2.1;dsimp only at this;omega⟩;have j3:n<=R:=by have:=j2.2.1 rfl;dsimp only at this;omega
    have j1:Q6u (hN hs) (hF hs) R k n=true:=by unfold Q6u;rw[h.g.runFirst B k _ hB hru];rfl
    have hw:(Q57 hs R k).getD n false=true:=by rw[z30 h.ok h.hR k h2 n];exact j1
    obtain⟨s1,_,_,s4,s5,s6,_⟩:=h.step j3 h1 h2 h3 hw;rw[z3a (R:=R) (H:=H) (t:=n) (ch:=chL (Q6d (ps.zip (Q0r hs ps)) 72)) (ch':=chF hs ps) (fun X x0 x1=>z8u x0 (by have:=h.hH;omega) (by have:=h.hR;omega)) (fun p hp=>(h.syms p hp).2) _ _ _ h2]at s1;obtain⟨f,k',e1,e⟩:=h.g.runTo j3 B k [] st h1 hB hru;have m1:=z19 _ _ _ _ s1 (max f (Q2y H k.length)) (by omega);have m2:=z19 _ _ _ _ e (max f (Q2y H k.length)) (by omega);rw[m1,qO]at m2;rw[m2]at s4 s5 s6;unfold Q6k;rw[qAo,qAb hw,m2];rw[z8b h l C (a+1) k' _ hC s4 s5 s6 e1];simp
def Q4h(ps:List Pr)(A:List St)(c:Nat):List Nd:=List.zipWith Q8g (ndL A c) (Q08 ps (ndL A c))
theorem x0t(ps:List Pr)(A:List St)(c:Nat):(Q4h ps A c).length=A.length:=by simp[Q4h,z69,z21]
theorem y67(ps:List Pr)(A:List St):Q4h ps A 0=Q1p ps A:=rfl
theorem y5t(ps:List Pr):∀(A B:List St) (ys:List Sy) (c:Nat),Q1i ps A ys=some []->Q08 ps (ndL (A++B) c)=Q08 ps (ndL A c)++Q08 ps (ndL B (c+(Q0d A).length))
  | [],B,ys,c,h=>by simp[ndL,Q08,Q0d]
  |s::A,B,ys,c,h=>by
    have key:∃ys',Q1i ps A ys'=some []:=by
      cases hs:s.leaf
      · obtain⟨y,k',p,_,_,_,_,_,h5⟩:=z05 hs h;exact⟨_,h5⟩
      obtain⟨y,k',_,_,_,h5⟩:=z09 hs h;exact⟨_,h5⟩
    obtain⟨ys',hA⟩:=key;have j0:(Q08 ps (ndL (s::A++B) c))[0]? = (Q08 ps (ndL (s::A) c))[0]? := by
      cases ys with
      |nil=>simp[Q1i]at h
      |cons y ys =>
        obtain⟨T,A2,e,h1,h2⟩:=z20 ps (s::A) [y] ys h;have q1:=z6r ps _ T (A2++B) y c (qR _) h1;have q2:=z6r ps _ T A2 y c (qR _) h1;rw[e,qAs,q1,q2]
    have j1:∀c',Q08 ps (ndL (A++B) c')=Q08 ps (ndL A c')++Q08 ps (ndL B (c'+(Q0d A).length)):=fun c'=>y5t ps A B ys' c' hA;cases hl:s.leaf
    · have e:Q0d (s::A)=Q0d A:=by simp[Q0d,hl]
      simp only[qBh,ndL,hl,qF,qAz,Q08,qCv,qO,e]at j0 ⊢;rw[j0,j1]
    have e:(Q0d (s::A)).length=(Q0d A).length+1:=by simp[Q0d,hl]
    simp only[qBh,ndL,hl,qBn,Q08,qCv,qO,e]at j0 ⊢;rw[j0,j1,show c+1+(Q0d A).length=c+((Q0d A).length+1) by omega]
theorem x0s(ps:List Pr){A B:List St}{ys:List Sy}(c:Nat)(h:Q1i ps A ys=some []):Q4h ps (A++B) c=Q4h ps A c++Q4h ps B (c+(Q0d A).length):=by
  unfold Q4h;rw[y5t ps A B ys c h,y2t,List.zipWith_append (by rw[z21])]
theorem y66(ps:List Pr){A:List St}{n:Int}{y:Sy}(c:Nat)(h:Q1i ps (⟨false,n⟩::A) [y]=some []):Q4h ps (⟨false,n⟩::A) c=⟨n,-1,c,A.length+1⟩::Q4h ps A c:=by
  have q:=z6r ps _ (⟨false,n⟩::A) [] y c (qR _) h;rw[qBd]at q;unfold Q4h;simp only[ndL,qF,qAz,Q08,qCv,qO,List.zipWith_cons_cons]at q ⊢;rw[q];simp[Q8g]
theorem y65(ps:List Pr)(n:Int)(c:Nat):Q4h ps [⟨true,n⟩] c=[⟨-1,n,c,1⟩]:=by
  have q:=z6r ps 1 [⟨true,n⟩] [] ⟨false,n⟩ c (qR _) (by simp[Q1i]);rw[qBd]at q;unfold Q4h;simp only[ndL,qBn,Q08,qCv,qO,List.zipWith_cons_cons]at q ⊢;rw[q];simp[Q8g,ndL,Q08]
section
variable {ps:List Pr}{R H:Nat}
end
attribute [local go_sem ↓] y2n
structure XV(w:World)(xb g3 c3 g5 c5:Nat)(sv:Nat->Value)(ps:List Pr):Prop where
  k3:w.cell? ⟨xb,3,none⟩=some (.slice (some ⟨g3,0,none⟩) ps.length c3)
  k5:w.cell? ⟨xb,5,none⟩=some (.slice (some ⟨g5,0,none⟩) ps.length c5)
  hd:∀p (h:p<ps.length),w.cell? ⟨g3,p,none⟩=some (.int .i64 ps[p].head)
  sy:∀p (h:p<ps.length),w.cell? ⟨g5,p,none⟩=some (sv p)/\Q1c w (sv p) (ps[p].syms.map sInt)
section
variable {w W w1:World}{b B u u':Nat}{vx vc vh vn vk v':Value}{NL:List Nd}{KL:List Int}
end
def HtAt(w:World)(hb:Nat)(hts:List Nat):Prop:=w.heap[hb]? = some (.cells (i64s (hts.map Int.ofNat)) 3 (0,0))
section
variable {ps:List Pr}{hts:List Nat}{X i:Nat}{al:List Int}{lo:Int}
end
structure TX(w:World)(xb g3 c3 g5 c5 hb:Nat)(sv:Nat->Value)(ps:List Pr)(hts:List Nat)(vc:Value)(code:List Int):Prop where
  xv:XV w xb g3 c3 g5 c5 sv ps
  ht:HtAt w hb hts
  co:Q1c w vc code
end Go.Proofs.YtbdpfmalabgmbaaGreat
