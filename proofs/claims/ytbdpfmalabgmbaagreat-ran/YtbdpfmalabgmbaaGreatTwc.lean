import Derived.Test.YtbdpfmalabgmbaaGreatEb3
namespace Go.Proofs.YtbdpfmalabgmbaaGreat
open Go.RowKit
set_option maxRecDepth 99999
set_option maxHeartbeats 0
set_option linter.all false
theorem y03(lns:List Ln)(t:ByteArray)(i:Nat):∀(f k:Nat) (b:Int × Int),(b.2<=i∨(0<=b.1/\b.1<lns.length))->((Q5d lns t i f k b).2<=i∨(0<=(Q5d lns t i f k b).1/\(Q5d lns t i f k b).1<lns.length))
 |0,_,b,h=>h
 |f+1,k,b,h=>by
  unfold Q5d;cases hq:lns[k]? with
  |none=>exact h
  |some x =>
   simp only[];refine y03 lns t i f (k+1) _ ?_;split
   ·right;have:=(qS hq).1;dsimp only;omega
   exact h
theorem y08(lns:List Ln)(t:ByteArray):∀(f i:Nat) (toks:List Tk),(∀x∈toks,0<=x.r/\x.r<lns.length)->∀x∈(Q93 lns t f i toks).1,0<=x.r/\x.r<lns.length
 |0,_,_,_,x,hx=>by simp[Q93]at hx
 |f+1,i,toks,h,x,hx=>by
  unfold Q93 at hx;split at hx
  ·split at hx
   ·simp at hx
   rename_i hb;refine y08 lns t f _ _ ?_ x hx;split
   ·exact h
   intro y hy;rcases qBs.1 hy with hy|hy
   ·exact h y hy
   simp only[qM]at hy;subst hy;rcases y03 lns t i (lns.length+1) 0 (0,i) (.inl (Int.le_refl _))with h1|h1
   ·exact absurd h1 hb
   exact h1
  exact h x hx
theorem x4z(s:ByteArray):(Q0i s).length=nR s:=by unfold Q0i nR Q0g;rw[qAv]
theorem z6d(s t:ByteArray):Q1z (nR s) ((Q3r (Q0i s) t).1.map Tk.r)=true:=by
 unfold Q1z;rw[qAy];intro k hk;obtain⟨x,hx,rfl⟩:=qBj.1 hk;have:=y08 (Q0i s) t _ _ _ (by simp) x hx;rw[x4z]at this;simp;exact this
structure ROut where
 err:Int
 toks:List Tk
 st:List St
 wanted:List Int
 place:Int
def Q7i(e p:Int):ROut:=⟨e,[],[],[],p⟩
def runG(s t:ByteArray)(C:List Tk × Int × Int):ROut :=
 if C.2.1≠0 then Q7i C.2.1 C.2.2
 else if 60<C.1.length then Q7i 1 0
 else if(Q24 s (C.1.map Tk.r)).err≠0 then⟨(Q24 s (C.1.map Tk.r)).err,[],[],(Q24 s (C.1.map Tk.r)).wanted,Q49 C.1 (Q24 s (C.1.map Tk.r)).place t.size⟩
 else⟨0,C.1,(Q24 s (C.1.map Tk.r)).st,[],0⟩
def Q82(s t:ByteArray):ROut :=
 if 200<t.size then Q7i 1 0
 else if(Q0u s).1≠0 then Q7i (Q0u s).1 0
 else if Q13 s≠[] then Q7i 8 0
 else runG s t (Q3r (Q0i s) t)
abbrev Q7o(vt vn vw:Value)(a:Int):Array Value:=#[vt,vn,vw,.int .i64 a]
theorem Q29:(Tryz.prog.info? 26).map (·.size)=some 4:=by kernel_rfl
theorem z2f(vt vn vw:Value)(a:Int)(h1:vt.oneCell'=true)(h2:vn.oneCell'=true)(h3:vw.oneCell'=true):(#[vt,vn,vw,Value.int .i64 a]:Array Value).all (·.oneCell')=true :=
 qCq (cs:=[vt,vn,vw,.int .i64 a]) (by intro v hv;simp only[qBu,qEi,or_false]at hv;rcases hv with rfl|rfl|rfl|rfl;exact h1;exact h2;exact h3;rfl)
def Q2a(s:ByteArray)(O:ROut)(w:World)(e:Ending)(w':World):Prop :=
 ∃vt vn vw,e=.returned (.tuple #[.agg (Q7o vt vn vw O.place),.int .i64 O.err])/\Q0a w w'/\Q43 w' vt O.toks/\Q2x w' w.heap.size vn (Q1p (Q8b s) O.st)/\IntOwn w' w.heap.size vw O.wanted
theorem Q2a.bad{s:ByteArray}{e p:Int}{w w':World}(hf:Q0a w w'):Q2a s (Q7i e p) w (.returned (.tuple #[.agg (Q7o (.slice none 0 0) (.slice none 0 0) (.slice none 0 0) p),.int .i64 e])) w' :=
 ⟨_,_,_,rfl,hf,Q18.nil _ _ _ _,qAh _ _ _ _,qAh _ _ _ _⟩
abbrev Q66:Array Value:=Q7o (.slice none 0 0) (.slice none 0 0) (.slice none 0 0) 0
theorem x7z(s t:ByteArray)(w:World)(ht:t.size<=maxLen)(hl:200<t.size) :
  Calls Tryz.prog 4 #[.string s,.string t] w fun e w'=>Q2a s (Q7i 1 0) w e w':=by
 unfold maxLen at ht;have j0:(200:Int)<(t.size:Int):=by omega
 go_enter Tryz.func4,Tryz.ntmps4
 go_wp2;exact qAc (z0l rfl _ _ w.heap.size 26 Q66 (0,0) _ rfl (z0a _ _) qCl rfl Q29) rfl (Q2a.bad ((mRf _ w).alloc _))
theorem v1j(s t:ByteArray)(w:World)(hs:s.size<=maxLen)(hl:t.size<=200)(hc:(Q0u s).1≠0) :
  Calls Tryz.prog 4 #[.string s,.string t] w fun e w'=>Q2a s (Q7i (Q0u s).1 0) w e w':=by
 have SC:=hid (fun w=>z1t s w hs);unfold Q3x at SC;have c0:((Q0u s).1 != 0)=true:=by simpa using hc
 have j3:¬(200:Int)<(t.size:Int):=by omega
 generalize Q0u s=E at SC c0 hc;go_enter Tryz.func4,Tryz.ntmps4
 go_wp2_with (first
  |(refine qAg rfl 26 _ _ rfl w.heap.size Q66 rfl rfl _ _ j1.out Q29 rfl (z2f _ _ _ _ rfl rfl rfl) ?_)
  |(go_at_call 10;refine(SC.out _).mono ?_;rintro e w1⟨v,rfl,j0,_⟩;have j2:Hid (Q0a w w1):=Mod.trans ((mRf _ w).alloc _) j0;have j1:Hid (w1.heap[w.heap.size]? = some (.cells Q66 26 (0,0))):=j0.at (z0a w _) id;clear j0))
 refine qAc (z0l rfl _ _ w.heap.size 26 Q66 (0,0) _ rfl (qAn _ _ _ _ _ _ j1.out) qCl rfl Q29) rfl (Q2a.bad ?_);exact j2.setRow (fun h=>absurd h (qBw _)) _
theorem x43(s t:ByteArray)(w:World)(hs:s.size<=maxLen)(hl:t.size<=200)(hc:(Q0u s).1=0)(hcl:Q13 s≠[]) :
  Calls Tryz.prog 4 #[.string s,.string t] w fun e w'=>Q2a s (Q7i 8 0) w e w':=by
 have SC:=hid (fun w=>z1t s w hs);unfold Q3x at SC;have H0:=hid hc;have jo:=(z1k s).1;have j6:=(z1k s).2;have jc:=z5a s;have jp:=z5g hc;have ju:¬(200:Int)<(t.size:Int):=by omega
 have jj:Hid (∀(W:World) (v:Value) (xs:List LV),Q0s W v xs->xs.map LV.ln=(Q0c s).1->Calls Tryz.prog 11 #[v] W fun e w'=>∃vp j0,e=.returned (.agg #[.int .i64 (nR s),.int .i64 (nH s),vp])/\Q0a W w'/\j0.map PV.pr=Q0p (Q0c s).1/\Q2e w' w'.heap.size vp j0):=fun W v xs hL hx=>by
  have h1:xs.length=(Q0c s).1.length:=by rw[← hx];simp
  have h:=z47 W v xs hL (by omega) (fun x hxx=>by
   have hm:x.ln∈(Q0c s).1:=by rw[← hx];exact qBj.2 ⟨x,hxx,rfl⟩
   exact⟨(j6 x.ln hm).fb,jc x.ln hm,by have:=(j6 x.ln hm).sb;omega⟩)
  rw[hx]at h;exact h
 have jk:Hid (∀(W:World) (v:Value) (xs:List LV),Q0s W v xs->xs.map LV.ln=(Q0c s).1->Calls Tryz.prog 13 #[v] W fun e w'=>∃v' ys,e=.returned v'/\Q0s w' v' ys/\ys.map LV.ln=Q0i s/\ys.length<=1000/\Q0a W w'):=fun W v xs hL hx=>by
  have h1:xs.length=(Q0c s).1.length:=by rw[← hx];simp
  refine(z5b W v xs hL (by omega) (fun x hxx=>(j6 x.ln (by rw[← hx];exact qBj.2 ⟨x,hxx,rfl⟩)).fb)).mono ?_;rintro e w'⟨v',he,jl,hf⟩;refine⟨v',_,he,jl,by rw[z4x,hx];rfl,?_,hf⟩;have:=qCc (fun x:LV=>Q0x x.ln) xs;omega
 have je:Hid (∀(W:World) (v:Value) (ys:List LV),Q0s W v ys->ys.map LV.ln=Q0i s->ys.length<=1000->Calls Tryz.prog 14 #[v,.string t] W fun e w'=>∃v',e=.returned (.tuple #[v',.int .i64 (Q3r (Q0i s) t).2.1,.int .i64 (Q3r (Q0i s) t).2.2])/\Q0a W w'/\Q43 w' v' (Q3r (Q0i s) t).1):=fun W v ys hL hy hn=>by
  have h:=z82 W v ys t hL hn hl;rw[hy]at h;exact h
 have IC:Hid (∀(W:World) (vp:Value) (j0:List PV),j0.map PV.pr=Q0p (Q0c s).1->Q2e W W.heap.size vp j0->Calls Tryz.prog 12 #[.agg #[.int .i64 (nR s),.int .i64 (nH s),vp]] W fun e w'=>e=.returned (.bool (decide (0<(Q13 s).length)))/\Q0a W w'):=fun W vp j0 hm hp=>by
  obtain⟨h1,h2,h3,h4,h5⟩:=z12 s hc hm;have h:=z15 W (nR s) (nH s) vp j0 hp h2 h3 h4 (by rw[← h5];exact y0c hc);rw[z4w s hc hm]at h;exact h
 have jf:Hid (decide (0<(Q13 s).length)=true):=by unfold Hid;simp;exact List.length_pos_iff.2 hcl
 generalize nR s=R at *;generalize nH s=H at *;clear jo j6 jc jp hc hcl jk je;go_enter Tryz.func4,Tryz.ntmps4
 go_wp2_with (first
  |(refine qAg rfl 26 _ _ rfl w.heap.size (Q66) rfl rfl _ _ jb.out Q29 rfl (z2f _ _ _ _ rfl rfl rfl) ?_)
  |(go_at_call 12;have j4:=ja.out;refine(IC.out _ _ j0 j7.out (j8.out _ (mRf _ _))).mono ?_;rw[jf.out];rintro e w3⟨rfl,j2⟩;have jh:=hid (ja.trans j2);have jt:=hid j2;have jb:=hid (j2.at jn.out id);have js:=hid (j2.at (z0a w2 _) id);have jr:=hid (ji.fresh j2);clear j2)
  |(go_at_call 11;have j4:=HX.out;refine(jj.out _ v xs HL.out HX.out).mono ?_;rintro e w2⟨vp,j0,rfl,j5,j3,j1⟩;obtain⟨ra,rc,jq⟩:=z0c j1.row.own;subst jq;have j7:=hid j3;have j8:Hid (∀W,Q0a (w2.alloc (.cells #[.int .i64 R,.int .i64 H,.slice ra j0.length rc] 42 (0,0))) W->Q2e W W.heap.size (.slice ra j0.length rc) j0):=fun W hW=>(j1.kept (qR _) (Mod.trans ((mRf (fun _=>False) w2).alloc _) hW) (fun _ _ x=>x)).up (Mod.trans ((mRf (fun _=>False) w2).alloc _) hW).size;have ja:Hid (Q0a w (w2.alloc (.cells #[.int .i64 R,.int .i64 H,.slice ra j0.length rc] 42 (0,0)))):=(jg.trans j5).alloc _;have jn:Hid ((w2.alloc (.cells #[.int .i64 R,.int .i64 H,.slice ra j0.length rc] 42 (0,0))).heap[w.heap.size]? = some (.cells Q66 26 (0,0))):=z0b (j5.at jm.out id);have ji:=hid ((HL.fresh j5).fresh ((mRf _ w2).alloc (.cells #[.int .i64 R,.int .i64 H,.slice ra j0.length rc] 42 (0,0))));clear j5 j3 j1)
  |(go_at_call 10;refine(SC.out _).mono ?_;rintro e w1⟨v,rfl,j9,xs,hL,jd⟩;rw[H0.out];have HX:=hid (jd.elim (fun h=>absurd H0.out h.1) (fun h=>h.2));have HL:=hid hL;have jg:Hid (Q0a w w1):=Mod.trans ((mRf _ w).alloc _) j9;have jm:Hid (w1.heap[w.heap.size]? = some (.cells Q66 26 (0,0))):=j9.at (z0a w _) id;clear jd hL j9))
 refine qAc (z0l rfl _ _ w.heap.size 26 (Q66) (0,0) _ rfl (qAn _ _ _ _ _ _ jb.out) qCl rfl Q29) rfl ?_;exact Q2a.bad (jh.setRow (fun h=>absurd h (qBw _)) _)
theorem v1k(s t:ByteArray)(w:World)(hs:s.size<=maxLen)(hl:t.size<=200)(hc:(Q0u s).1=0)(hcl:Q13 s=[])(he:(Q3r (Q0i s) t).2.1≠0) :
  Calls Tryz.prog 4 #[.string s,.string t] w fun e w'=>Q2a s (Q7i (Q3r (Q0i s) t).2.1 (Q3r (Q0i s) t).2.2) w e w':=by
 have SC:=hid (fun w=>z1t s w hs);unfold Q3x at SC;have H0:=hid hc;have k2:=(z1k s).1;have j8:=(z1k s).2;have jj:=z5a s;have k3:=z5g hc;have ka:¬(200:Int)<(t.size:Int):=by omega
 have jv:Hid (∀(W:World) (v:Value) (xs:List LV),Q0s W v xs->xs.map LV.ln=(Q0c s).1->Calls Tryz.prog 11 #[v] W fun e w'=>∃vp j0,e=.returned (.agg #[.int .i64 (nR s),.int .i64 (nH s),vp])/\Q0a W w'/\j0.map PV.pr=Q0p (Q0c s).1/\Q2e w' w'.heap.size vp j0):=fun W v xs hL hx=>by
  have h1:xs.length=(Q0c s).1.length:=by rw[← hx];simp
  have h:=z47 W v xs hL (by omega) (fun x hxx=>by
   have hm:x.ln∈(Q0c s).1:=by rw[← hx];exact qBj.2 ⟨x,hxx,rfl⟩
   exact⟨(j8 x.ln hm).fb,jj x.ln hm,by have:=(j8 x.ln hm).sb;omega⟩)
  rw[hx]at h;exact h
 have jw:Hid (∀(W:World) (v:Value) (xs:List LV),Q0s W v xs->xs.map LV.ln=(Q0c s).1->Calls Tryz.prog 13 #[v] W fun e w'=>∃v' ys,e=.returned v'/\Q0s w' v' ys/\ys.map LV.ln=Q0i s/\ys.length<=1000/\Q0a W w'):=fun W v xs hL hx=>by
  have h1:xs.length=(Q0c s).1.length:=by rw[← hx];simp
  refine(z5b W v xs hL (by omega) (fun x hxx=>(j8 x.ln (by rw[← hx];exact qBj.2 ⟨x,hxx,rfl⟩)).fb)).mono ?_;rintro e w'⟨v',he,jx,hf⟩;refine⟨v',_,he,jx,by rw[z4x,hx];rfl,?_,hf⟩;have:=qCc (fun x:LV=>Q0x x.ln) xs;omega
 have jd:Hid (∀(W:World) (v:Value) (ys:List LV),Q0s W v ys->ys.map LV.ln=Q0i s->ys.length<=1000->Calls Tryz.prog 14 #[v,.string t] W fun e w'=>∃v',e=.returned (.tuple #[v',.int .i64 (Q3r (Q0i s) t).2.1,.int .i64 (Q3r (Q0i s) t).2.2])/\Q0a W w'/\Q43 w' v' (Q3r (Q0i s) t).1):=fun W v ys hL hy hn=>by
  have h:=z82 W v ys t hL hn hl;rw[hy]at h;exact h
 have IC:Hid (∀(W:World) (vp:Value) (j0:List PV),j0.map PV.pr=Q0p (Q0c s).1->Q2e W W.heap.size vp j0->Calls Tryz.prog 12 #[.agg #[.int .i64 (nR s),.int .i64 (nH s),vp]] W fun e w'=>e=.returned (.bool (decide (0<(Q13 s).length)))/\Q0a W w'):=fun W vp j0 hm hp=>by
  obtain⟨h1,h2,h3,h4,h5⟩:=z12 s hc hm;have h:=z15 W (nR s) (nH s) vp j0 hp h2 h3 h4 (by rw[← h5];exact y0c hc);rw[z4w s hc hm]at h;exact h
 have jl:Hid (decide (0<(Q13 s).length)=false):=by unfold Hid;simp[hcl]
 have c0:((Q3r (Q0i s) t).2.1 != 0)=true:=by simpa using he
 generalize Q3r (Q0i s) t=C at jd c0 ⊢;generalize nR s=R at *;generalize nH s=H at *;clear k2 j8 jj k3 hc hcl he;go_enter Tryz.func4,Tryz.ntmps4
 go_wp2_with (first
  |(refine qAg rfl 26 _ _ rfl w.heap.size (Q7o (.slice none 0 0) (.slice none 0 0) (.slice none 0 0) C.2.2) rfl rfl _ _ ji.out Q29 rfl (z2f _ _ _ _ rfl rfl rfl) ?_)
  |(go_at_call 14;have j1:=jg.out;refine(jd.out _ v' ys jq.out HY.out k6).mono ?_;rintro e w5⟨vt,rfl,j5,jb⟩;obtain⟨ta,tc,k5⟩:=z0c jb.own;subst k5;have k8:=hid jb;have jn:=hid (jg.trans j5);have k9:=hid (ju.trans j5);have ji:=hid (j5.at k1.out id);have k7:=hid (j5.at js.out id);clear jb j5)
  |(go_at_call 13;have j1:=jf.out;refine(jw.out _ v xs jp.out HX.out).mono ?_;rintro e w4⟨v',ys,rfl,jh,hy,k6,j4⟩;have jq:=hid jh;have HY:=hid hy;have jg:=hid (jf.trans j4);have ju:=hid (jt.trans j4);have k1:=hid (j4.at k0.out id);have js:=hid (j4.at jr.out id);clear jh hy j4)
  |(go_at_call 12;have j1:=je.out;refine(IC.out _ _ j0 j9.out (ja.out _ (mRf _ _))).mono ?_;rw[jl.out];rintro e w3⟨rfl,j3⟩;have jf:=hid (je.trans j3);have jt:=hid j3;have k0:=hid (j3.at jz.out id);have jr:=hid (j3.at (z0a w2 _) id);have jp:=hid (jo.fresh j3);clear j3)
  |(go_at_call 11;have j1:=HX.out;refine(jv.out _ v xs HL.out HX.out).mono ?_;rintro e w2⟨vp,j0,rfl,j7,j6,j2⟩;obtain⟨ra,rc,k4⟩:=z0c j2.row.own;subst k4;have j9:=hid j6;have ja:Hid (∀W,Q0a (w2.alloc (.cells #[.int .i64 R,.int .i64 H,.slice ra j0.length rc] 42 (0,0))) W->Q2e W W.heap.size (.slice ra j0.length rc) j0):=fun W hW=>(j2.kept (qR _) (Mod.trans ((mRf (fun _=>False) w2).alloc _) hW) (fun _ _ x=>x)).up (Mod.trans ((mRf (fun _=>False) w2).alloc _) hW).size;have je:Hid (Q0a w (w2.alloc (.cells #[.int .i64 R,.int .i64 H,.slice ra j0.length rc] 42 (0,0)))):=(jm.trans j7).alloc _;have jz:Hid ((w2.alloc (.cells #[.int .i64 R,.int .i64 H,.slice ra j0.length rc] 42 (0,0))).heap[w.heap.size]? = some (.cells Q66 26 (0,0))):=z0b (j7.at jy.out id);have jo:=hid ((HL.fresh j7).fresh ((mRf _ w2).alloc (.cells #[.int .i64 R,.int .i64 H,.slice ra j0.length rc] 42 (0,0))));clear j7 j6 j2)
  |(go_at_call 10;refine(SC.out _).mono ?_;rintro e w1⟨v,rfl,jc,xs,hL,jk⟩;rw[H0.out];have HX:=hid (jk.elim (fun h=>absurd H0.out h.1) (fun h=>h.2));have HL:=hid hL;have jm:Hid (Q0a w w1):=Mod.trans ((mRf _ w).alloc _) jc;have jy:Hid (w1.heap[w.heap.size]? = some (.cells Q66 26 (0,0))):=jc.at (z0a w _) id;clear jk hL jc))
 refine qAc (z0l rfl _ _ w.heap.size 26 (Q7o (.slice none 0 0) (.slice none 0 0) (.slice none 0 0) C.2.2) (0,0) _ rfl (qAn _ _ _ _ _ _ ji.out) qCl rfl Q29) rfl ?_;exact Q2a.bad (jn.setRow (fun h=>absurd h (qBw _)) _)
theorem x70(s t:ByteArray)(w:World)(hs:s.size<=maxLen)(hl:t.size<=200)(hc:(Q0u s).1=0)(hcl:Q13 s=[])(he:(Q3r (Q0i s) t).2.1=0)(hm:60<(Q3r (Q0i s) t).1.length)(hml:(Q3r (Q0i s) t).1.length<=1000) :
  Calls Tryz.prog 4 #[.string s,.string t] w fun e w'=>Q2a s (Q7i 1 0) w e w':=by
 have SC:=hid (fun w=>z1t s w hs);unfold Q3x at SC;have H0:=hid hc;have k2:=(z1k s).1;have j8:=(z1k s).2;have jj:=z5a s;have k3:=z5g hc;have ka:¬(200:Int)<(t.size:Int):=by omega
 have jv:Hid (∀(W:World) (v:Value) (xs:List LV),Q0s W v xs->xs.map LV.ln=(Q0c s).1->Calls Tryz.prog 11 #[v] W fun e w'=>∃vp j0,e=.returned (.agg #[.int .i64 (nR s),.int .i64 (nH s),vp])/\Q0a W w'/\j0.map PV.pr=Q0p (Q0c s).1/\Q2e w' w'.heap.size vp j0):=fun W v xs hL hx=>by
  have h1:xs.length=(Q0c s).1.length:=by rw[← hx];simp
  have h:=z47 W v xs hL (by omega) (fun x hxx=>by
   have hm:x.ln∈(Q0c s).1:=by rw[← hx];exact qBj.2 ⟨x,hxx,rfl⟩
   exact⟨(j8 x.ln hm).fb,jj x.ln hm,by have:=(j8 x.ln hm).sb;omega⟩)
  rw[hx]at h;exact h
 have jw:Hid (∀(W:World) (v:Value) (xs:List LV),Q0s W v xs->xs.map LV.ln=(Q0c s).1->Calls Tryz.prog 13 #[v] W fun e w'=>∃v' ys,e=.returned v'/\Q0s w' v' ys/\ys.map LV.ln=Q0i s/\ys.length<=1000/\Q0a W w'):=fun W v xs hL hx=>by
  have h1:xs.length=(Q0c s).1.length:=by rw[← hx];simp
  refine(z5b W v xs hL (by omega) (fun x hxx=>(j8 x.ln (by rw[← hx];exact qBj.2 ⟨x,hxx,rfl⟩)).fb)).mono ?_;rintro e w'⟨v',he,jx,hf⟩;refine⟨v',_,he,jx,by rw[z4x,hx];rfl,?_,hf⟩;have:=qCc (fun x:LV=>Q0x x.ln) xs;omega
 have j9:Hid (∀(W:World) (v:Value) (ys:List LV),Q0s W v ys->ys.map LV.ln=Q0i s->ys.length<=1000->Calls Tryz.prog 14 #[v,.string t] W fun e w'=>∃v',e=.returned (.tuple #[v',.int .i64 (Q3r (Q0i s) t).2.1,.int .i64 (Q3r (Q0i s) t).2.2])/\Q0a W w'/\Q43 w' v' (Q3r (Q0i s) t).1):=fun W v ys hL hy hn=>by
  have h:=z82 W v ys t hL hn hl;rw[hy]at h;exact h
 have IC:Hid (∀(W:World) (vp:Value) (j0:List PV),j0.map PV.pr=Q0p (Q0c s).1->Q2e W W.heap.size vp j0->Calls Tryz.prog 12 #[.agg #[.int .i64 (nR s),.int .i64 (nH s),vp]] W fun e w'=>e=.returned (.bool (decide (0<(Q13 s).length)))/\Q0a W w'):=fun W vp j0 hm hp=>by
  obtain⟨h1,h2,h3,h4,h5⟩:=z12 s hc hm;have h:=z15 W (nR s) (nH s) vp j0 hp h2 h3 h4 (by rw[← h5];exact y0c hc);rw[z4w s hc hm]at h;exact h
 have jl:Hid (decide (0<(Q13 s).length)=false):=by unfold Hid;simp[hcl]
 generalize Q3r (Q0i s) t=C at j9 he hm hml ⊢;have kb:(60:Int)<(C.1.length:Int):=by omega
 rw[he]at j9;generalize nR s=R at *;generalize nH s=H at *;clear k2 j8 jj k3 hc hcl he;go_enter Tryz.func4,Tryz.ntmps4
 go_wp2_with (first
  |(refine qAg rfl 26 _ _ rfl w.heap.size (Q66) rfl rfl _ _ ji.out Q29 rfl (z2f _ _ _ _ rfl rfl rfl) ?_)
  |(go_at_call 14;have j1:=jg.out;refine(j9.out _ v' ys jq.out HY.out k6).mono ?_;rintro e w5⟨vt,rfl,j5,jc⟩;obtain⟨ta,tc,k5⟩:=z0c jc.own;subst k5;have k8:=hid jc;have jn:=hid (jg.trans j5);have k9:=hid (ju.trans j5);have ji:=hid (j5.at k1.out id);have k7:=hid (j5.at js.out id);clear jc j5)
  |(go_at_call 13;have j1:=jf.out;refine(jw.out _ v xs jp.out HX.out).mono ?_;rintro e w4⟨v',ys,rfl,jh,hy,k6,j4⟩;have jq:=hid jh;have HY:=hid hy;have jg:=hid (jf.trans j4);have ju:=hid (jt.trans j4);have k1:=hid (j4.at k0.out id);have js:=hid (j4.at jr.out id);clear jh hy j4)
  |(go_at_call 12;have j1:=je.out;refine(IC.out _ _ j0 ja.out (jb.out _ (mRf _ _))).mono ?_;rw[jl.out];rintro e w3⟨rfl,j3⟩;have jf:=hid (je.trans j3);have jt:=hid j3;have k0:=hid (j3.at jz.out id);have jr:=hid (j3.at (z0a w2 _) id);have jp:=hid (jo.fresh j3);clear j3)
  |(go_at_call 11;have j1:=HX.out;refine(jv.out _ v xs HL.out HX.out).mono ?_;rintro e w2⟨vp,j0,rfl,j7,j6,j2⟩;obtain⟨ra,rc,k4⟩:=z0c j2.row.own;subst k4;have ja:=hid j6;have jb:Hid (∀W,Q0a (w2.alloc (.cells #[.int .i64 R,.int .i64 H,.slice ra j0.length rc] 42 (0,0))) W->Q2e W W.heap.size (.slice ra j0.length rc) j0):=fun W hW=>(j2.kept (qR _) (Mod.trans ((mRf (fun _=>False) w2).alloc _) hW) (fun _ _ x=>x)).up (Mod.trans ((mRf (fun _=>False) w2).alloc _) hW).size;have je:Hid (Q0a w (w2.alloc (.cells #[.int .i64 R,.int .i64 H,.slice ra j0.length rc] 42 (0,0)))):=(jm.trans j7).alloc _;have jz:Hid ((w2.alloc (.cells #[.int .i64 R,.int .i64 H,.slice ra j0.length rc] 42 (0,0))).heap[w.heap.size]? = some (.cells Q66 26 (0,0))):=z0b (j7.at jy.out id);have jo:=hid ((HL.fresh j7).fresh ((mRf _ w2).alloc (.cells #[.int .i64 R,.int .i64 H,.slice ra j0.length rc] 42 (0,0))));clear j7 j6 j2)
  |(go_at_call 10;refine(SC.out _).mono ?_;rintro e w1⟨v,rfl,jd,xs,hL,jk⟩;rw[H0.out];have HX:=hid (jk.elim (fun h=>absurd H0.out h.1) (fun h=>h.2));have HL:=hid hL;have jm:Hid (Q0a w w1):=Mod.trans ((mRf _ w).alloc _) jd;have jy:Hid (w1.heap[w.heap.size]? = some (.cells Q66 26 (0,0))):=jd.at (z0a w _) id;clear jk hL jd))
 refine qAc (z0l rfl _ _ w.heap.size 26 (Q66) (0,0) _ rfl (qAn _ _ _ _ _ _ ji.out) qCl rfl Q29) rfl ?_;exact Q2a.bad (jn.setRow (fun h=>absurd h (qBw _)) _)
theorem x7h{w:World}{B k n:Nat}{e:TypeId}{v:Value}{xs:List Value}(h:w.ownsRow B e k v n xs){g:Nat}(hg:v.ownBlock=some g):∃cur,w.heap[g]? = some (.cells cur e (0,0)):=by
 rcases h.2 with⟨rfl,_⟩|⟨g',cap,cur,rfl,_,hb,_⟩
 ·simp[Value.ownBlock]at hg
 simp[Value.ownBlock]at hg;subst hg;exact⟨cur,hb⟩
theorem v1l(s t:ByteArray)(w:World)(hs:s.size<=maxLen)(hl:t.size<=200)(hc:(Q0u s).1=0)(hcl:Q13 s=[])(he:(Q3r (Q0i s) t).2.1=0)(hm:(Q3r (Q0i s) t).1.length<=60) (hge:(Q24 s ((Q3r (Q0i s) t).1.map Tk.r)).err≠0) :
  Calls Tryz.prog 4 #[.string s,.string t] w fun e w'=>Q2a s (⟨(Q24 s ((Q3r (Q0i s) t).1.map Tk.r)).err,[],[],(Q24 s ((Q3r (Q0i s) t).1.map Tk.r)).wanted,Q49 (Q3r (Q0i s) t).1 (Q24 s ((Q3r (Q0i s) t).1.map Tk.r)).place t.size⟩) w e w':=by
 have SC:=hid (fun w=>z1t s w hs);unfold Q3x at SC;have H0:=hid hc;have kv:=(z1k s).1;have jd:=(z1k s).2;have jy:=z5a s;have kx:=z5g hc;have x4:¬(200:Int)<(t.size:Int):=by omega
 have kl:Hid (∀(W:World) (v:Value) (xs:List LV),Q0s W v xs->xs.map LV.ln=(Q0c s).1->Calls Tryz.prog 11 #[v] W fun e w'=>∃vp j0,e=.returned (.agg #[.int .i64 (nR s),.int .i64 (nH s),vp])/\Q0a W w'/\j0.map PV.pr=Q0p (Q0c s).1/\Q2e w' w'.heap.size vp j0):=fun W v xs hL hx=>by
  have h1:xs.length=(Q0c s).1.length:=by rw[← hx];simp
  have h:=z47 W v xs hL (by omega) (fun x hxx=>by
   have hm:x.ln∈(Q0c s).1:=by rw[← hx];exact qBj.2 ⟨x,hxx,rfl⟩
   exact⟨(jd x.ln hm).fb,jy x.ln hm,by have:=(jd x.ln hm).sb;omega⟩)
  rw[hx]at h;exact h
 have km:Hid (∀(W:World) (v:Value) (xs:List LV),Q0s W v xs->xs.map LV.ln=(Q0c s).1->Calls Tryz.prog 13 #[v] W fun e w'=>∃v' ys,e=.returned v'/\Q0s w' v' ys/\ys.map LV.ln=Q0i s/\ys.length<=1000/\Q0a W w'):=fun W v xs hL hx=>by
  have h1:xs.length=(Q0c s).1.length:=by rw[← hx];simp
  refine(z5b W v xs hL (by omega) (fun x hxx=>(jd x.ln (by rw[← hx];exact qBj.2 ⟨x,hxx,rfl⟩)).fb)).mono ?_;rintro e w'⟨v',he,kn,hf⟩;refine⟨v',_,he,kn,by rw[z4x,hx];rfl,?_,hf⟩;have:=qCc (fun x:LV=>Q0x x.ln) xs;omega
 have je:Hid (∀(W:World) (v:Value) (ys:List LV),Q0s W v ys->ys.map LV.ln=Q0i s->ys.length<=1000->Calls Tryz.prog 14 #[v,.string t] W fun e w'=>∃v',e=.returned (.tuple #[v',.int .i64 (Q3r (Q0i s) t).2.1,.int .i64 (Q3r (Q0i s) t).2.2])/\Q0a W w'/\Q43 w' v' (Q3r (Q0i s) t).1):=fun W v ys hL hy hn=>by
  have h:=z82 W v ys t hL hn hl;rw[hy]at h;exact h
 have IC:Hid (∀(W:World) (vp:Value) (j0:List PV),j0.map PV.pr=Q0p (Q0c s).1->Q2e W W.heap.size vp j0->Calls Tryz.prog 12 #[.agg #[.int .i64 (nR s),.int .i64 (nH s),vp]] W fun e w'=>e=.returned (.bool (decide (0<(Q13 s).length)))/\Q0a W w'):=fun W vp j0 hm hp=>by
  obtain⟨h1,h2,h3,h4,h5⟩:=z12 s hc hm;have h:=z15 W (nR s) (nH s) vp j0 hp h2 h3 h4 (by rw[← h5];exact y0c hc);rw[z4w s hc hm]at h;exact h
 have k2:Hid (decide (0<(Q13 s).length)=false):=by unfold Hid;simp[hcl]
 have jj:=z6d s t;have hT:=y9p hc hcl;have jk:(Q3r (Q0i s) t).1.length<=1000:=by omega
 generalize hCE:Q3r (Q0i s) t=C at je he hm jk jj hge ⊢;have x6:¬(60:Int)<(C.1.length:Int):=by omega
 rw[he]at je;have GR:Hid (∀(W:World) (vp vk:Value) (j0:List PV),j0.map PV.pr=Q0p (Q0c s).1->Q2e W W.heap.size vp j0->Q1c W vk (C.1.map Tk.r)->Calls Tryz.prog 16 #[.agg #[.int .i64 (nR s),.int .i64 (nH s),vp],vk] W fun e w'=>∃vn vw,e=.returned (.tuple #[.agg (Q6m vn vw (Q24 s (C.1.map Tk.r)).place),.int .i64 (Q24 s (C.1.map Tk.r)).err])/\Q0a W w'/\Q2x w' W.heap.size vn (Q1p (Q8b s) (Q24 s (C.1.map Tk.r)).st)/\IntOwn w' W.heap.size vw (Q24 s (C.1.map Tk.r)).wanted):=fun W vp vk j0 hmp hp hk=>by
  obtain⟨h1,h2,h3,h4,h5⟩:=z12 s hc hmp;have h:=y8p W (nR s) (nH s) vp vk j0 (C.1.map Tk.r) (Q7p s) hp hk (by simpa using hm) jj (by rw[h1];exact hT) h5;rw[h1]at h;exact h
 generalize Q24 s (C.1.map Tk.r)=G at GR hge ⊢;have c0:(G.err != 0)=true:=by simpa using hge
 generalize nR s=R at *;generalize nH s=H at *;clear kv jd jy kx hc hcl he hge jj hT hCE;go_enter Tryz.func4,Tryz.ntmps4
 go_wp2_with (first
  |(refine qAg rfl 26 _ _ rfl w.heap.size (Q7o (.slice none 0 0) (.slice none 0 0) (.slice wa G.wanted.length wc) (Q49 C.1 G.place t.size)) rfl rfl _ _ jx.out Q29 rfl (z2f _ _ _ _ rfl rfl rfl) ?_)
  |(go_at_call 17;have j1:=js.out;refine(y7d _ _ C.1 G.place t kf.out jk).mono ?_;rintro e w8⟨rfl,ja⟩;have k4:=hid ((js.alloc _).trans ja);have jx:=hid (ja.at kt.out id);have kk:=hid (ja.at (z0a w7 _) id);have y1:=Q0b kk.out 1;simp at y1;have k5:=hid (Mod.trans ((mRf (fun _=>False) w7).alloc _) ja);clear ja)
  |(go_at_call 16;have j1:=jg.out;refine(GR.out _ _ _ j0 j5.out (j6.out _ kj.out) k6.out).mono ?_;rintro e w7⟨vn,vw,rfl,j9,jl,jn⟩;obtain⟨na,nc,ky⟩:=z0c jl;subst ky;obtain⟨wa,wc,x1⟩:=z0c jn;subst x1;have x3:=hid jl;have ju:=hid jn;have js:=hid (jg.trans j9);have kt:Hid ((w7.alloc (.cells (Q6m (.slice na (Q1p (Q8b s) G.st).length nc) (.slice wa G.wanted.length wc) G.place) 50 (0,0))).heap[w.heap.size]? = some (.cells Q66 26 (0,0))):=z0b (j9.at jw.out id);have kf:=hid ((ke.fresh j9).fresh ((mRf _ w7).alloc (.cells (Q6m (.slice na (Q1p (Q8b s) G.st).length nc) (.slice wa G.wanted.length wc) G.place) 50 (0,0))));have kw:=j9.size;clear j9 jl jn)
  |(go_at_call 15;have j1:=jr.out;refine(z9j _ _ C.1 jt.out jk).mono ?_;rintro e w6⟨vk,rfl,j4,jm⟩;have k6:=hid (IntOwn.at' jm);obtain⟨ka,kc,jz⟩:=z0c jm;rw[qAv]at jz;subst jz;have jg:=hid (jr.trans j4);have kj:=hid (ki.trans j4);have jw:=hid (j4.at ks.out id);have jf:=hid (j4.at k1.out id);have ke:=hid (jt.fresh j4);have t0:=Q0b jf.out 0;have t1:=Q0b jf.out 1;have t2:=Q0b jf.out 2;simp at t0 t1 t2;clear jm j4)
  |(go_at_call 14;have j1:=jq.out;refine(je.out _ v' ys k9.out HY.out x2).mono ?_;rintro e w5⟨vt,rfl,j8,jh⟩;obtain⟨ta,tc,x0⟩:=z0c jh.own;subst x0;have jt:=hid jh;have jr:=hid (jq.trans j8);have ki:=hid (kh.trans j8);have ks:=hid (j8.at kr.out id);have k1:=hid (j8.at kd.out id);clear jh j8)
  |(go_at_call 13;have j1:=jp.out;refine(km.out _ v xs k8.out HX.out).mono ?_;rintro e w4⟨v',ys,rfl,jv,hy,x2,j7⟩;have k9:=hid jv;have HY:=hid hy;have jq:=hid (jp.trans j7);have kh:=hid (kg.trans j7);have kr:=hid (j7.at kq.out id);have kd:=hid (j7.at kb.out id);clear jv hy j7)
  |(go_at_call 12;have j1:=jo.out;refine(IC.out _ _ j0 j5.out (j6.out _ (mRf _ _))).mono ?_;rw[k2.out];rintro e w3⟨rfl,j3⟩;have jp:=hid (jo.trans j3);have kg:=hid j3;have kq:=hid (j3.at kp.out id);have kb:=hid (j3.at (z0a w2 _) id);have k8:=hid (k7.fresh j3);clear j3)
  |(go_at_call 11;have j1:=HX.out;refine(kl.out _ v xs HL.out HX.out).mono ?_;rintro e w2⟨vp,j0,rfl,jc,jb,j2⟩;obtain⟨ra,rc,kz⟩:=z0c j2.row.own;subst kz;have j5:=hid jb;have j6:Hid (∀W,Q0a (w2.alloc (.cells #[.int .i64 R,.int .i64 H,.slice ra j0.length rc] 42 (0,0))) W->Q2e W W.heap.size (.slice ra j0.length rc) j0):=fun W hW=>(j2.kept (qR _) (Mod.trans ((mRf (fun _=>False) w2).alloc _) hW) (fun _ _ x=>x)).up (Mod.trans ((mRf (fun _=>False) w2).alloc _) hW).size;have jo:Hid (Q0a w (w2.alloc (.cells #[.int .i64 R,.int .i64 H,.slice ra j0.length rc] 42 (0,0)))):=(k3.trans jc).alloc _;have kp:Hid ((w2.alloc (.cells #[.int .i64 R,.int .i64 H,.slice ra j0.length rc] 42 (0,0))).heap[w.heap.size]? = some (.cells Q66 26 (0,0))):=z0b (jc.at ko.out id);have k7:=hid ((HL.fresh jc).fresh ((mRf _ w2).alloc (.cells #[.int .i64 R,.int .i64 H,.slice ra j0.length rc] 42 (0,0))));clear jc jb j2)
  |(go_at_call 10;refine(SC.out _).mono ?_;rintro e w1⟨v,rfl,ji,xs,hL,k0⟩;rw[H0.out];have HX:=hid (k0.elim (fun h=>absurd H0.out h.1) (fun h=>h.2));have HL:=hid hL;have k3:Hid (Q0a w w1):=Mod.trans ((mRf _ w).alloc _) ji;have ko:Hid (w1.heap[w.heap.size]? = some (.cells Q66 26 (0,0))):=ji.at (z0a w _) id;clear k0 hL ji))
 refine qAc (z0l rfl _ _ w.heap.size 26 (Q7o (.slice none 0 0) (.slice none 0 0) (.slice wa G.wanted.length wc) (Q49 C.1 G.place t.size)) (0,0) _ rfl (qAn _ _ _ _ _ _ jx.out) qCl rfl Q29) rfl ?_;have x5:=z0j jw.out;have h6:=jg.size;refine⟨.slice none 0 0,.slice none 0 0,.slice wa G.wanted.length wc,rfl,k4.setRow (fun h=>absurd h (qBw _)) _,Q18.nil _ _ _ _,qAh _ _ _ _,?_⟩;refine z0g (z0d ju.out (fun g hg=>?_)) h6;have ku:=ju.lt g hg;rw[qCx _ _ _ _ (by omega)];exact k5.block g ku.2 id
theorem v2q(s t:ByteArray)(w:World)(hs:s.size<=maxLen)(hl:t.size<=200)(hc:(Q0u s).1=0)(hcl:Q13 s=[])(he:(Q3r (Q0i s) t).2.1=0)(hm:(Q3r (Q0i s) t).1.length<=60) (hge:(Q24 s ((Q3r (Q0i s) t).1.map Tk.r)).err=0) :
  Calls Tryz.prog 4 #[.string s,.string t] w fun e w'=>Q2a s (⟨0,(Q3r (Q0i s) t).1,(Q24 s ((Q3r (Q0i s) t).1.map Tk.r)).st,[],0⟩) w e w':=by
 have SC:=hid (fun w=>z1t s w hs);unfold Q3x at SC;have H0:=hid hc;have kr:=(z1k s).1;have jd:=(z1k s).2;have jy:=z5a s;have kt:=z5g hc;have x1:¬(200:Int)<(t.size:Int):=by omega
 have ki:Hid (∀(W:World) (v:Value) (xs:List LV),Q0s W v xs->xs.map LV.ln=(Q0c s).1->Calls Tryz.prog 11 #[v] W fun e w'=>∃vp j0,e=.returned (.agg #[.int .i64 (nR s),.int .i64 (nH s),vp])/\Q0a W w'/\j0.map PV.pr=Q0p (Q0c s).1/\Q2e w' w'.heap.size vp j0):=fun W v xs hL hx=>by
  have h1:xs.length=(Q0c s).1.length:=by rw[← hx];simp
  have h:=z47 W v xs hL (by omega) (fun x hxx=>by
   have hm:x.ln∈(Q0c s).1:=by rw[← hx];exact qBj.2 ⟨x,hxx,rfl⟩
   exact⟨(jd x.ln hm).fb,jy x.ln hm,by have:=(jd x.ln hm).sb;omega⟩)
  rw[hx]at h;exact h
 have kj:Hid (∀(W:World) (v:Value) (xs:List LV),Q0s W v xs->xs.map LV.ln=(Q0c s).1->Calls Tryz.prog 13 #[v] W fun e w'=>∃v' ys,e=.returned v'/\Q0s w' v' ys/\ys.map LV.ln=Q0i s/\ys.length<=1000/\Q0a W w'):=fun W v xs hL hx=>by
  have h1:xs.length=(Q0c s).1.length:=by rw[← hx];simp
  refine(z5b W v xs hL (by omega) (fun x hxx=>(jd x.ln (by rw[← hx];exact qBj.2 ⟨x,hxx,rfl⟩)).fb)).mono ?_;rintro e w'⟨v',he,kk,hf⟩;refine⟨v',_,he,kk,by rw[z4x,hx];rfl,?_,hf⟩;have:=qCc (fun x:LV=>Q0x x.ln) xs;omega
 have je:Hid (∀(W:World) (v:Value) (ys:List LV),Q0s W v ys->ys.map LV.ln=Q0i s->ys.length<=1000->Calls Tryz.prog 14 #[v,.string t] W fun e w'=>∃v',e=.returned (.tuple #[v',.int .i64 (Q3r (Q0i s) t).2.1,.int .i64 (Q3r (Q0i s) t).2.2])/\Q0a W w'/\Q43 w' v' (Q3r (Q0i s) t).1):=fun W v ys hL hy hn=>by
  have h:=z82 W v ys t hL hn hl;rw[hy]at h;exact h
 have IC:Hid (∀(W:World) (vp:Value) (j0:List PV),j0.map PV.pr=Q0p (Q0c s).1->Q2e W W.heap.size vp j0->Calls Tryz.prog 12 #[.agg #[.int .i64 (nR s),.int .i64 (nH s),vp]] W fun e w'=>e=.returned (.bool (decide (0<(Q13 s).length)))/\Q0a W w'):=fun W vp j0 hm hp=>by
  obtain⟨h1,h2,h3,h4,h5⟩:=z12 s hc hm;have h:=z15 W (nR s) (nH s) vp j0 hp h2 h3 h4 (by rw[← h5];exact y0c hc);rw[z4w s hc hm]at h;exact h
 have k2:Hid (decide (0<(Q13 s).length)=false):=by unfold Hid;simp[hcl]
 have jk:=z6d s t;have hT:=y9p hc hcl;have jx:(Q3r (Q0i s) t).1.length<=1000:=by omega
 generalize hCE:Q3r (Q0i s) t=C at je he hm jx jk hge ⊢;have x3:¬(60:Int)<(C.1.length:Int):=by omega
 rw[he]at je;have GR:Hid (∀(W:World) (vp vk:Value) (j0:List PV),j0.map PV.pr=Q0p (Q0c s).1->Q2e W W.heap.size vp j0->Q1c W vk (C.1.map Tk.r)->Calls Tryz.prog 16 #[.agg #[.int .i64 (nR s),.int .i64 (nH s),vp],vk] W fun e w'=>∃vn vw,e=.returned (.tuple #[.agg (Q6m vn vw (Q24 s (C.1.map Tk.r)).place),.int .i64 (Q24 s (C.1.map Tk.r)).err])/\Q0a W w'/\Q2x w' W.heap.size vn (Q1p (Q8b s) (Q24 s (C.1.map Tk.r)).st)/\IntOwn w' W.heap.size vw (Q24 s (C.1.map Tk.r)).wanted):=fun W vp vk j0 hmp hp hk=>by
  obtain⟨h1,h2,h3,h4,h5⟩:=z12 s hc hmp;have h:=y8p W (nR s) (nH s) vp vk j0 (C.1.map Tk.r) (Q7p s) hp hk (by simpa using hm) jk (by rw[h1];exact hT) h5;rw[h1]at h;exact h
 generalize Q24 s (C.1.map Tk.r)=G at GR hge ⊢;rw[hge]at GR;generalize nR s=R at *;generalize nH s=H at *;clear kr jd jy kt hc hcl he hge jk hT hCE;go_enter Tryz.func4,Tryz.ntmps4
 go_wp2_with (first
  |(refine qAg rfl 26 _ _ rfl w.heap.size (Q7o (.slice ta C.1.length tc) (.slice na (Q1p (Q8b s) G.st).length nc) (.slice none 0 0) 0) rfl rfl _ _ jh.out Q29 rfl (z2f _ _ _ _ rfl rfl rfl) ?_)
  |(go_at_call 16;have j1:=jg.out;refine(GR.out _ _ _ j0 j5.out (j6.out _ kh.out) k5.out).mono ?_;rintro e w7⟨vn,vw,rfl,ja,jl,jn⟩;obtain⟨na,nc,ku⟩:=z0c jl;subst ku;obtain⟨wa,wc,kx⟩:=z0c jn;subst kx;have js:=hid jl;have kz:=hid jn;have k4:=hid (jg.trans ja);have jh:Hid ((w7.alloc (.cells (Q6m (.slice na (Q1p (Q8b s) G.st).length nc) (.slice wa G.wanted.length wc) G.place) 50 (0,0))).heap[w.heap.size]? = some (.cells Q66 26 (0,0))):=z0b (ja.at jw.out id);have ju:=hid ((kd.fresh ja).fresh ((mRf _ w7).alloc (.cells (Q6m (.slice na (Q1p (Q8b s) G.st).length nc) (.slice wa G.wanted.length wc) G.place) 50 (0,0))));have ks:=ja.size;clear ja jl jn)
  |(go_at_call 15;have j1:=jr.out;refine(z9j _ _ C.1 jt.out jx).mono ?_;rintro e w6⟨vk,rfl,j4,jm⟩;have k5:=hid (IntOwn.at' jm);obtain⟨ka,kc,jz⟩:=z0c jm;rw[qAv]at jz;subst jz;have jg:=hid (jr.trans j4);have kh:=hid (kg.trans j4);have jw:=hid (j4.at kp.out id);have jf:=hid (j4.at k1.out id);have kd:=hid (jt.fresh j4);have t0:=Q0b jf.out 0;have t1:=Q0b jf.out 1;have t2:=Q0b jf.out 2;simp at t0 t1 t2;clear jm j4)
  |(go_at_call 14;have j1:=jq.out;refine(je.out _ v' ys k8.out HY.out ky).mono ?_;rintro e w5⟨vt,rfl,j9,ji⟩;obtain⟨ta,tc,kw⟩:=z0c ji.own;subst kw;have jt:=hid ji;have jr:=hid (jq.trans j9);have kg:=hid (kf.trans j9);have kp:=hid (j9.at ko.out id);have k1:=hid (j9.at kb.out id);clear ji j9)
  |(go_at_call 13;have j1:=jp.out;refine(kj.out _ v xs k7.out HX.out).mono ?_;rintro e w4⟨v',ys,rfl,jv,hy,ky,j8⟩;have k8:=hid jv;have HY:=hid hy;have jq:=hid (jp.trans j8);have kf:=hid (ke.trans j8);have ko:=hid (j8.at kn.out id);have kb:=hid (j8.at k9.out id);clear jv hy j8)
  |(go_at_call 12;have j1:=jo.out;refine(IC.out _ _ j0 j5.out (j6.out _ (mRf _ _))).mono ?_;rw[k2.out];rintro e w3⟨rfl,j3⟩;have jp:=hid (jo.trans j3);have ke:=hid j3;have kn:=hid (j3.at km.out id);have k9:=hid (j3.at (z0a w2 _) id);have k7:=hid (k6.fresh j3);clear j3)
  |(go_at_call 11;have j1:=HX.out;refine(ki.out _ v xs HL.out HX.out).mono ?_;rintro e w2⟨vp,j0,rfl,jc,jb,j2⟩;obtain⟨ra,rc,kv⟩:=z0c j2.row.own;subst kv;have j5:=hid jb;have j6:Hid (∀W,Q0a (w2.alloc (.cells #[.int .i64 R,.int .i64 H,.slice ra j0.length rc] 42 (0,0))) W->Q2e W W.heap.size (.slice ra j0.length rc) j0):=fun W hW=>(j2.kept (qR _) (Mod.trans ((mRf (fun _=>False) w2).alloc _) hW) (fun _ _ x=>x)).up (Mod.trans ((mRf (fun _=>False) w2).alloc _) hW).size;have jo:Hid (Q0a w (w2.alloc (.cells #[.int .i64 R,.int .i64 H,.slice ra j0.length rc] 42 (0,0)))):=(k3.trans jc).alloc _;have km:Hid ((w2.alloc (.cells #[.int .i64 R,.int .i64 H,.slice ra j0.length rc] 42 (0,0))).heap[w.heap.size]? = some (.cells Q66 26 (0,0))):=z0b (jc.at kl.out id);have k6:=hid ((HL.fresh jc).fresh ((mRf _ w2).alloc (.cells #[.int .i64 R,.int .i64 H,.slice ra j0.length rc] 42 (0,0))));clear jc jb j2)
  |(go_at_call 10;refine(SC.out _).mono ?_;rintro e w1⟨v,rfl,jj,xs,hL,k0⟩;rw[H0.out];have HX:=hid (k0.elim (fun h=>absurd H0.out h.1) (fun h=>h.2));have HL:=hid hL;have k3:Hid (Q0a w w1):=Mod.trans ((mRf _ w).alloc _) jj;have kl:Hid (w1.heap[w.heap.size]? = some (.cells Q66 26 (0,0))):=jj.at (z0a w _) id;clear k0 hL jj))
 refine qAc (z0l rfl _ _ w.heap.size 26 (Q7o (.slice ta C.1.length tc) (.slice na (Q1p (Q8b s) G.st).length nc) (.slice none 0 0) 0) (0,0) _ rfl (qAn _ _ _ _ _ _ jh.out) qCl rfl Q29) rfl ?_;have x2:=z0j jw.out;have h6:=jg.size;refine⟨.slice ta C.1.length tc,.slice na (Q1p (Q8b s) G.st).length nc,.slice none 0 0,rfl,(k4.alloc _).setRow (fun h=>absurd h (qBw _)) _,?_,?_,qAh _ _ _ _⟩
 ·refine ju.kept (S:=fun k=>k=w.heap.size) (Mod.setRow (S:=fun k=>k=w.heap.size) (mRf _ _) (g:=w.heap.size) (fun _=>rfl) _) (fun b hb hbe=>?_);subst hbe;obtain⟨x0,j7⟩:=x7h ju.own hb;rw[jh.out]at j7;simp at j7
 refine z0g (z0d js.out (fun g hg=>?_)) h6;have kq:=js.lt g hg;rw[qCx _ _ _ _ (by omega)];exact z0s kq.2
theorem y8g(lns:List Ln)(t:ByteArray)(ht:t.size<=200):∀(f i:Nat) (toks:List Tk),toks.length<=i->i<=t.size->(Q93 lns t f i toks).1.length<=t.size
 |0,_,_,_,_=>by simp[Q93]
 |f+1,i,toks,h,hi=>by
  unfold Q93;have hb:=y78 lns t i;split
  ·split
   ·simp
   rename_i h1 h2;have j0:(if Q27 lns (Q2j lns t i).1 then toks else toks++[⟨(Q2j lns t i).1,i,(Q2j lns t i).2⟩]).length<=toks.length+1:=by
    split
    ·omega
    simp
   refine y8g lns t ht f _ _ ?_ ?_
   ·omega
   omega
  show toks.length<=t.size;omega
theorem x94(s t:ByteArray)(ht:t.size<=200):(Q3r (Q0i s) t).1.length<=1000:=by
 have:=y8g (Q0i s) t ht (t.size+1) 0 [] (by simp) (by omega);unfold Q3r;omega
theorem v1i(s t:ByteArray)(w:World)(hs:s.size<=maxLen)(ht:t.size<=maxLen) :
  Calls Tryz.prog 4 #[.string s,.string t] w fun e w'=>Q2a s (Q82 s t) w e w':=by
 unfold Q82;by_cases hl:200<t.size
 ·rw[qAb hl];exact x7z s t w ht hl
 rw[qAa hl];have j1:t.size<=200:=by omega
 by_cases hc:(Q0u s).1=0
 ·rw[qAa (by simp[hc])];by_cases j0:Q13 s=[]
  ·rw[qAa (by simp[j0])];unfold runG;by_cases he:(Q3r (Q0i s) t).2.1=0
   ·rw[qAa (by simp[he])];by_cases hm:60<(Q3r (Q0i s) t).1.length
    ·rw[qAb hm];exact x70 s t w hs j1 hc j0 he hm (x94 s t j1)
    rw[qAa hm];by_cases j2:(Q24 s ((Q3r (Q0i s) t).1.map Tk.r)).err=0
    ·rw[qAa (by simp[j2])];exact v2q s t w hs j1 hc j0 he (by omega) j2
    rw[qAb j2];exact v1l s t w hs j1 hc j0 he (by omega) j2
   rw[qAb he];exact v1k s t w hs j1 hc j0 he
  rw[qAb j0];exact x43 s t w hs j1 hc j0
 rw[qAb hc];exact v1j s t w hs j1 hc
theorem y61{ps:List Pr}{R H:Nat}{hs:List Hd}(h:Tab ps R H hs):∀(l:List Int) (a:Nat) (k:List Sy) (st:List St),Q4z (hN hs) (hF hs) (hO hs) R k->Q3d R H k->(∀s∈st,0<=s.num/\s.num<=127)->Q1z R l=true ->
  a+l.length<=60->k.length<=1+48*a->st.length<=a*2000000000->(Q6k ps hs R H l a k st).st.length<=61*2000000000/\(Q6k ps hs R H l a k st).wanted.length<=9
 | [],a,k,st,h1,h2,h3,_,h5,h6,h7=>by
  unfold Q6k;split
  ·rename_i hw;obtain⟨_,s2,s3,_,_,_,s7⟩:=h.step (qR _) h1 h2 h3 hw;simp only[qEq,Nat.add_zero]at h5;obtain⟨_,_,q3,_⟩:=Q95 h5 h6 h7 s3 s2 s7;refine⟨qDa q3 (qCr _ (by omega)),by simp⟩
  exact⟨by simp,z4b _⟩
 |t::l,a,k,st,h1,h2,h3,h4,h5,h6,h7=>by
  have h8:(0<=t/\t<R)/\Q1z R l=true:=by
   unfold Q1z at h4 ⊢;simpa using h4
  simp only[qBk]at h5;unfold Q6k;split
  ·rename_i hw;obtain⟨_,s2,s3,s4,s5,s6,s7⟩:=h.step (t:=t.toNat) (by omega) h1 h2 h3 hw;obtain⟨_,_,q3,q4⟩:=Q95 (show a<=60 by omega) h6 h7 s3 s2 s7;exact y61 h l (a+1) _ _ s4 s5 s6 h8.2 (by omega) q4 q3
  exact⟨by simp,z4b _⟩
theorem v0b{s:ByteArray}(hc:(Q0u s).1=0)(hcl:Q13 s=[])(l:List Int)(hk:Q1z (nR s) l=true)(hl:l.length<=60):(Q24 s l).st.length<=61*2000000000/\(Q24 s l).wanted.length<=9:=by
 have hT:=y9p hc hcl;exact y61 hT l 0 _ _ hT.start.1 hT.start.2 (by simp) hk (by omega) (by simp) (by simp)
def thr(ps:List Pr)(hs:List Hd)(R H:Nat):List Int->List Sy->List St->Option (List Sy × List St)
 | [],k,st=>some (k,st)
 |t::l,k,st=>if(Q57 hs R k).getD t.toNat false then thr ps hs R H l (Q7w ps hs H t.toNat k st).1 (Q7w ps hs H t.toNat k st).2 else none
section
variable {ps:List Pr}{hs:List Hd}{R H:Nat}
theorem y3i:∀(l:List Int) (k:List Sy) (st:List St) (r:List Sy × List St),thr ps hs R H l k st=some r->∀j,∃r',thr ps hs R H (l.take j) k st=some r'
 | [],k,st,r,h,j=>⟨_,by rw[List.take_nil];rfl⟩
 |t::l,k,st,r,h,0=>⟨_,rfl⟩
 |t::l,k,st,r,h,j+1=>by
  unfold thr at h;split at h
  ·rename_i hw;obtain⟨r',h'⟩:=y3i l _ _ r h j;exact⟨r',by rw[List.take_succ_cons,thr,qAb hw];exact h'⟩
  cases h
theorem y8q:∀(l:List Int) (a:Nat) (k:List Sy) (st:List St),∃(n:Nat) (r:List Sy × List St),n<=l.length/\thr ps hs R H (l.take n) k st=some r /\
    ((n=l.length/\(Q57 hs R r.1).getD R false=true/\(Q6k ps hs R H l a k st).err=0) ∨
     ((Q6k ps hs R H l a k st).err=10/\(Q6k ps hs R H l a k st).place=a+n/\(Q6k ps hs R H l a k st).st=[]/\(Q6k ps hs R H l a k st).wanted=Q3e (Q57 hs R r.1) /\
      (∀h:n<l.length,(Q57 hs R r.1).getD l[n].toNat false=false)/\(n=l.length->(Q57 hs R r.1).getD R false=false)))
  | [],a,k,st=>by
    refine⟨0,(k,st),qR _,rfl,?_⟩;unfold Q6k;split
    · rename_i hw;exact .inl ⟨rfl,hw,rfl⟩
    rename_i hw;exact .inr ⟨rfl,rfl,rfl,rfl,fun h=>absurd h (by simp),fun _=>by simpa using hw⟩
  |t::l,a,k,st=>by
    unfold Q6k;split
    · rename_i hw
      obtain⟨n,r,h1,h2,h3⟩:=y8q l (a+1) (Q7w ps hs H t.toNat k st).1 (Q7w ps hs H t.toNat k st).2;refine⟨n+1,r,by simpa using h1,by rw[List.take_succ_cons,thr,qAb hw];exact h2,?_⟩;rcases h3 with⟨e1,e2,e3⟩|⟨e1,e2,e3,e4,e5,e6⟩
      · exact .inl ⟨by simp[e1],e2,e3⟩
      exact .inr ⟨e1,by rw[e2];omega,e3,e4,fun h=>by simpa using e5 (by simpa using h),fun h=>e6 (by simpa using h)⟩
    rename_i hw;exact⟨0,(k,st),qBq _,rfl,.inr ⟨rfl,rfl,rfl,rfl,fun _=>by simpa using hw,fun h=>by simp at h⟩⟩
end
theorem y1g{R:Int}{l:List Int}(h:Q1z R l=true)(n:Nat):Q1z R (l.take n)=true:=by
 unfold Q1z at h ⊢;rw[qAy]at h ⊢;exact fun x hx=>h x (qFl hx)
section
variable {ps:List Pr}{R H:Nat}{hs:List Hd}
theorem y7r(h:Tab ps R H hs):∀(l:List Int) (A:List St) (k β:List Sy) (st:List St),Q0d A=l->Q4z (hN hs) (hF hs) (hO hs) R k->Q3d R H k->(∀s∈st,0<=s.num/\s.num<=127)->Q1i ps A k=some β ->
  ∃k' st' C,thr ps hs R H l k st=some (k',st')/\(∀x∈C,x.leaf=false)/\Q1i ps C k'=some β/\Q4z (hN hs) (hF hs) (hO hs) R k'/\Q3d R H k'
 | [],A,k,β,st,hl,h1,h2,h3,hru=>⟨k,st,A,rfl,y1i hl,hru,h1,h2⟩
 |t::l,A,k,β,st,hl,h1,h2,h3,hru=>by
  obtain⟨B,C,rfl,hB,hC⟩:=z4o hl;have j0:=y9g h.g.tab _ _ _ h2 hru ⟨true,t⟩ (by simp);obtain⟨n,rfl⟩:∃n:Nat,t=n:=⟨t.toNat,by have:=j0.1;dsimp only at this;omega⟩;have j1:n<=R:=by have:=j0.2.1 rfl;dsimp only at this;omega
  have j2:Q6u (hN hs) (hF hs) R k n=true:=by unfold Q6u;rw[h.g.runFirst B k _ hB hru];rfl
  have hw:(Q57 hs R k).getD n false=true:=by rw[z30 h.ok h.hR k h2 n];exact j2
  obtain⟨s1,_,_,s4,s5,s6,_⟩:=h.step j1 h1 h2 h3 hw;rw[z3a (R:=R) (H:=H) (t:=n) (ch:=chL (Q6d (ps.zip (Q0r hs ps)) 72)) (ch':=chF hs ps) (fun X x0 x1=>z8u x0 (by have:=h.hH;omega) (by have:=h.hR;omega)) (fun p hp=>(h.syms p hp).2) _ _ _ h2]at s1;obtain⟨f,k',e1,e⟩:=h.g.runTo j1 B k β st h1 hB hru;have m1:=z19 _ _ _ _ s1 (max f (Q2y H k.length)) (by omega);have m2:=z19 _ _ _ _ e (max f (Q2y H k.length)) (by omega);rw[m1,qO]at m2;rw[m2]at s4 s5 s6;unfold thr;rw[qAo,qAb hw,m2];exact y7r h l C k' β _ hC s4 s5 s6 e1
theorem z6u(h:Tab ps R H hs):∀(l:List Int) (k:List Sy) (st:List St) (r:List Sy × List St),Q1z R l=true->Q4z (hN hs) (hF hs) (hO hs) R k->Q3d R H k->(∀s∈st,0<=s.num/\s.num<=127)->thr ps hs R H l k st=some r ->
  ∃A,Q0d A=l/\Q1i ps A k=some r.1/\Q4z (hN hs) (hF hs) (hO hs) R r.1/\Q3d R H r.1/\∀s∈r.2,0<=s.num/\s.num<=127
 | [],k,st,r,_,h1,h2,h3,hr=>by
  cases hr;exact⟨[],rfl,rfl,h1,h2,h3⟩
 |t::l,k,st,r,h4,h1,h2,h3,hr=>by
  have h5:(0<=t/\t<R)/\Q1z R l=true:=by
   unfold Q1z at h4 ⊢;simpa using h4
  unfold thr at hr;split at hr
  ·rename_i hw;have j1:t.toNat<=R:=by omega
   obtain⟨s1,_,_,s4,s5,s6,_⟩:=h.step j1 h1 h2 h3 hw;have j0:=s1;rw[z3a (R:=R) (H:=H) (t:=t.toNat) (ch:=chL (Q6d (ps.zip (Q0r hs ps)) 72)) (ch':=chF hs ps) (fun X x0 x1=>z8u x0 (by have:=h.hH;omega) (by have:=h.hR;omega)) (fun p hp=>(h.syms p hp).2) _ _ _ h2]at j0;have j2:=hw;rw[z30 h.ok h.hR k h2]at j2;obtain⟨ns,e1,e2⟩:=h.g.leaf j1 k h1 h2 j2 st j0;obtain⟨j3,e3,e4⟩:=y2h (t:=t.toNat) (fun X hX=>by obtain⟨p,q1,q2,_⟩:=h.g.chr X t.toNat hX;exact⟨p,q1,q2⟩) _ _ _ _ j0;have en:j3=ns:=by rw[e1]at e3;exact(qFt e3).symm
   subst en;rcases e2 with⟨_,q1⟩|⟨q,_⟩
   ·obtain⟨A,z1,z2,z3⟩:=z6u h l _ _ r h5.2 s4 s5 s6 hr;refine⟨j3++A,by rw[z0o,q1,z1,show((t.toNat:Nat):Int)=t by omega];rfl,?_,z3⟩;rw[z1g,e4];exact z2
   omega
  cases hr
def Vb(ps:List Pr)(l:List Int)(t:Nat):Prop:=∃A β,Q0d A=l/\Q1i ps A [⟨true,0⟩]=some (⟨false,t⟩::β)
def Ve(ps:List Pr)(l:List Int):Prop:=∃A,Q0d A=l/\Q1i ps A [⟨true,0⟩]=some []
theorem y0n(h:Tab ps R H hs){l:List Int}(hk:Q1z R l=true){r:List Sy × List St}(hr:thr ps hs R H l [⟨true,0⟩] []=some r){t:Nat}(ht:t<R):(Q57 hs R r.1).getD t false=true↔Vb ps l t:=by
 obtain⟨A,z1,z2,z3,z4,z5⟩:=z6u h l _ _ r hk h.start.1 h.start.2 (by simp) hr;rw[z30 h.ok h.hR r.1 z4 t];constructor
 ·intro hw;have j2:(Q57 hs R r.1).getD t false=true:=by rw[z30 h.ok h.hR r.1 z4 t];exact hw
  obtain⟨s1,_⟩:=h.step (by omega:t<=R) z3 z4 z5 j2;have j0:=s1;rw[z3a (R:=R) (H:=H) (t:=t) (ch:=chL (Q6d (ps.zip (Q0r hs ps)) 72)) (ch':=chF hs ps) (fun X x0 x1=>z8u x0 (by have:=h.hH;omega) (by have:=h.hR;omega)) (fun p hp=>(h.syms p hp).2) _ _ _ z4]at j0;obtain⟨ns,e1,e2⟩:=h.g.leaf (by omega) r.1 z3 z4 hw r.2 j0;obtain⟨j3,e3,e4⟩:=y2h (t:=t) (fun X hX=>by obtain⟨p,q1,q2,_⟩:=h.g.chr X t hX;exact⟨p,q1,q2⟩) _ _ _ _ j0;have en:j3=ns:=by rw[e1]at e3;exact(qFt e3).symm
  subst en;rcases e2 with⟨_,q1⟩|⟨q,_⟩
  ·obtain⟨B,C,rfl,hB,hC⟩:=z4o q1;rw[z1g]at e4;cases hb:Q1i ps B r.1 with
   |none=>rw[hb]at e4;cases e4
   |some β =>
    rw[hb,qDn]at e4;obtain⟨y,k',rfl,y1,y2,_⟩:=z09 rfl e4;refine⟨A++B,k',by rw[z0o,z1,z3d hB,qBd],?_⟩;rw[z1g,z2,qDn,hb];obtain⟨yh,yn⟩:=y;dsimp only at y1 y2;rw[y1,y2]
  omega
 rintro⟨A',β,q1,q2⟩;obtain⟨k',j4,C,e1,e2,e3,e4,e5⟩:=y7r h l A' [⟨true,0⟩] _ [] q1 h.start.1 h.start.2 (by simp) q2;rw[hr,qO]at e1;have j1:r.1=k':=by rw[e1]
 rw[j1];have:Q1i ps (C++⟨true,(t:Int)⟩::[]) k'=some β:=by
  rw[z1g,e3,qDn];simp[Q1i]
 unfold Q6u;rw[h.g.runFirst C k' _ e2 this];rfl
theorem y3k(h:Tab ps R H hs){l:List Int}(hk:Q1z R l=true){r:List Sy × List St}(hr:thr ps hs R H l [⟨true,0⟩] []=some r):(Q57 hs R r.1).getD R false=true↔Ve ps l:=by
 obtain⟨A,z1,z2,z3,z4,z5⟩:=z6u h l _ _ r hk h.start.1 h.start.2 (by simp) hr;rw[z30 h.ok h.hR r.1 z4 R];constructor
 ·intro hw;have j3:(Q57 hs R r.1).getD R false=true:=by rw[z30 h.ok h.hR r.1 z4 R];exact hw
  obtain⟨s1,_⟩:=h.step (qR R) z3 z4 z5 j3;have j0:=s1;rw[z3a (R:=R) (H:=H) (t:=R) (ch:=chL (Q6d (ps.zip (Q0r hs ps)) 72)) (ch':=chF hs ps) (fun X x0 x1=>z8u x0 (by have:=h.hH;omega) (by have:=h.hR;omega)) (fun p hp=>(h.syms p hp).2) _ _ _ z4]at j0;obtain⟨ns,e1,e2⟩:=h.g.leaf (qR _) r.1 z3 z4 hw r.2 j0;obtain⟨j1,e3,e4⟩:=y2h (t:=R) (fun X hX=>by obtain⟨p,q1,q2,_⟩:=h.g.chr X R hX;exact⟨p,q1,q2⟩) _ _ _ _ j0;have en:j1=ns:=by rw[e1]at e3;exact(qFt e3).symm
  subst en;rcases e2 with⟨q,_⟩|⟨_,q1,q2⟩
  ·omega
  refine⟨A++j1,by rw[z0o,z1,q1,qBd],?_⟩;rw[z1g,z2,qDn,e4,q2]
 rintro⟨A',q1,q2⟩;obtain⟨k',j4,C,e1,e2,e3,e4,e5⟩:=y7r h l A' [⟨true,0⟩] _ [] q1 h.start.1 h.start.2 (by simp) q2;rw[hr,qO]at e1;have j2:r.1=k':=by rw[e1]
 rw[j2];unfold Q6u;rw[h.g.runNull C k' e2 e3];simp
theorem y9q:∀(l:List Int) (k:List Sy) (st:List St) (t:Int),thr ps hs R H (l++[t]) k st=(thr ps hs R H l k st).bind (fun r=>if(Q57 hs R r.1).getD t.toNat false=true then some (Q7w ps hs H t.toNat r.1 r.2) else none)
 | [],k,st,t=>by
  rw[qCh,thr];simp only[thr,qDn]
 |x::l,k,st,t=>by
  rw[qBh,thr,thr];split
  ·exact y9q l _ _ t
  rfl
end
theorem z5h{X Y l:List Int}{f n:Nat}(h:X++Y=(l.drop f).take (n-f))(hn:n<=l.length)(hf:f<=n):X=(l.drop f).take X.length/\Y=(l.drop (f+X.length)).take (n-(f+X.length))/\f+X.length<=n:=by
 have hl:X.length+Y.length=n-f:=by
  have:=qEn List.length h;rw[qP,qCo,qCt]at this;omega
 refine⟨?_,?_,by omega⟩
 ·have e:(X++Y).take X.length=X:=List.take_left;rw[h,List.take_take,qFe (by omega)]at e;exact e.symm
 have e:(X++Y).drop X.length=Y:=List.drop_left;rw[h,List.drop_take,List.drop_drop]at e;rw[← e,show n-(f+X.length)=n-f-X.length by omega]
theorem z6n{s:St}(hs:s.leaf=false)(h:0<=s.num):s=⟨false,(s.num.toNat:Int)⟩:=by
 obtain⟨a,b⟩:=s;dsimp only at hs h ⊢;rw[hs];congr 1;omega
section
variable {ps:List Pr}
theorem spine:∀(A:List St) (k:List Sy) (Y:Sy) (γ:List Sy),Q1i ps A k=some (Y::γ) ->
  (∃a,k=a++Y::γ/\Q1i ps A a=some []) ∨
  (∃(p:Nat) (q:Pr) (d:Nat) (A' B':List St) (γ':List Sy),ps[p]? = some q/\q.syms[d]? = some Y/\γ=q.syms.drop (d+1)++γ'/\A=A'++⟨false,(p:Int)⟩::B'/\Q1i ps A' k=some (⟨true,q.head⟩::γ')/\Q1i ps B' (q.syms.take d)=some [])
 | [],k,Y,γ,h=>by
  cases h;exact .inl ⟨[],rfl,rfl⟩
 |s::A,k,Y,γ,h=>by
  cases hs:s.leaf
  ·obtain⟨y,k',q,rfl,h1,h2,h3,h4,h5⟩:=z05 hs h;have j0:=z6n hs h2;have hy:y=⟨true,q.head⟩:=by
    obtain⟨a,b⟩:=y;dsimp only at h1 h4;rw[h1,h4]
   have step:∀z,Q1i ps (s::A) (y::z)=Q1i ps A (q.syms++z):=fun z=>by
    simp only[Q1i,hs,qF,qAz];rw[qAb ⟨h1,h2⟩,h3];simp only[];rw[qAb h4]
   rcases spine A (q.syms++k') Y γ h5 with⟨a,e,hr⟩|⟨p2,q2,d2,A',B',γ',e1,e2,e3,e4,e5,e6⟩
   ·rcases List.append_eq_append_iff.1 e with⟨a2,e1,e2⟩|⟨b,e1,e2⟩
    ·subst e1;exact .inl ⟨y::a2,by rw[e2];rfl,by rw[step];exact hr⟩
    cases b with
    |nil =>
     rw[qBd]at e1;rw[qCh]at e2;exact .inl ⟨[y],by rw[← e2];rfl,by rw[step,qBd,e1];exact hr⟩
    |cons z b =>
     rw[qBh,qBe]at e2;obtain⟨rfl,e2⟩:=e2;refine .inr ⟨s.num.toNat,q,a.length,[],A,k',h3,by rw[e1];simp,?_,by rw[qCh,← j0],by rw[← hy];rfl,?_⟩
     ·rw[e1,e2];simp
     rw[e1,List.take_left];exact hr
   refine .inr ⟨p2,q2,d2,s::A',B',γ',e1,e2,e3,by rw[e4];rfl,?_,e6⟩;have:Q1i ps (s::A') (y::k')=Q1i ps A' (q.syms++k'):=by
    simp only[Q1i,hs,qF,qAz];rw[qAb ⟨h1,h2⟩,h3];simp only[];rw[qAb h4]
   rw[this];exact e5
  obtain⟨y,k',rfl,h1,h2,h3⟩:=z09 hs h;have step:∀(A:List St) z,Q1i ps (s::A) (y::z)=Q1i ps A z:=fun A z=>by
   simp only[Q1i,hs,qBn];rw[qAb ⟨h1,h2⟩]
  rcases spine A k' Y γ h3 with⟨a,e,hr⟩|⟨p2,q2,d2,A',B',γ',e1,e2,e3,e4,e5,e6⟩
  ·exact .inl ⟨y::a,by rw[e];rfl,by rw[step];exact hr⟩
  exact .inr ⟨p2,q2,d2,s::A',B',γ',e1,e2,e3,by rw[e4];rfl,by rw[step];exact e5,e6⟩
def It(ps:List Pr)(l:List Int)(n p d f:Nat):Prop :=
 ∃q,ps[p]? = some q/\d<=q.syms.length/\f<=n/\(∃B,Q1i ps B (q.syms.take d)=some []/\Q0d B=(l.drop f).take (n-f))/\(∃A γ,Q1i ps A [⟨true,0⟩]=some (⟨true,q.head⟩::γ)/\Q0d A=l.take f)
theorem z3p{p:Nat}{q:Pr}{B:List St}{γ:List Sy}(hp:ps[p]? = some q):Q1i ps (⟨false,(p:Int)⟩::B) (⟨true,q.head⟩::γ)=Q1i ps B (q.syms++γ):=by
 simp only[Q1i,qF,qAz];rw[qAb ⟨trivial,by omega⟩,qAo,hp];simp
theorem It.at'{l:List Int}{n p d f:Nat}(h:It ps l n p d f)(hn:n<=l.length):∃q A γ,ps[p]? = some q/\Q0d A=l.take n/\Q1i ps A [⟨true,0⟩]=some (q.syms.drop d++γ):=by
 obtain⟨q,hp,hd,hf,⟨B,b1,b2⟩,A,γ,a1,a2⟩:=h;refine⟨q,A++⟨false,(p:Int)⟩::B,γ,hp,?_,?_⟩
 ·rw[z0o,a2];have:Q0d (⟨false,(p:Int)⟩::B)=Q0d B:=by simp[Q0d]
  rw[this,b2,← qFv,show f+(n-f)=n by omega]
 rw[z1g,a1,qDn,z3p hp];have:=z26 B _ _ (q.syms.drop d++γ) b1;rw[← qAs,qFb,qCh]at this;exact this
theorem x3f{l:List Int}{p:Nat}{q:Pr}(hp:ps[p]? = some q)(hh:q.head=0):It ps l 0 p 0 0 :=
 ⟨q,hp,qBq _,qR _,⟨[],rfl,by simp[Q0d]⟩,[],[],by rw[hh];rfl,by simp[Q0d]⟩
theorem y0i{q:Pr}{d:Nat}{Y:Sy}(h:q.syms[d]? = some Y):q.syms.take (d+1)=q.syms.take d++[Y]:=by
 rw[qCu,h];rfl
theorem x3h{l:List Int}{n p d f:Nat}{q:Pr}{t:Int}(h:It ps l n p d f)(hp:ps[p]? = some q)(hs:q.syms[d]? = some ⟨false,t⟩)(ht:l[n]? = some t):It ps l (n+1) p (d+1) f:=by
 obtain⟨q',j0,hd,hf,⟨B,b1,b2⟩,c⟩:=h;rw[hp,qO]at j0;subst j0;have j1:=(qS hs).1;refine⟨q,hp,j1,by omega,⟨B++[⟨true,t⟩],?_,?_⟩,c⟩
 ·rw[y0i hs];refine y5s b1 ?_;simp[Q1i]
 rw[z0o,b2,show n+1-f=(n-f)+1 by omega,qCu,qDx,show f+(n-f)=n by omega,ht];rfl
theorem x3g{l:List Int}{n p d f p':Nat}{q q':Pr}{X:Int}(h:It ps l n p d f)(hn:n<=l.length)(hp:ps[p]? = some q)(hs:q.syms[d]? = some ⟨true,X⟩)(hp':ps[p']? = some q')(hh:q'.head=X):It ps l n p' 0 n:=by
 obtain⟨q2,A,γ,e1,e2,e3⟩:=h.at' hn;rw[hp,qO]at e1;subst e1;obtain⟨j0,j1⟩:=qS hs;refine⟨q',hp',qBq _,qR _,⟨[],by simp[Q1i],by simp[Q0d]⟩,A,q.syms.drop (d+1)++γ,?_,e2⟩;rw[e3,qC j0,j1,hh];rfl
theorem x3e{l:List Int}{n p f p' d' f':Nat}{q q':Pr}(h:It ps l n p q.syms.length f)(hn:n<=l.length)(hp:ps[p]? = some q)(h':It ps l f p' d' f')(hp':ps[p']? = some q')(hs:q'.syms[d']? = some ⟨true,q.head⟩):It ps l n p' (d'+1) f':=by
 obtain⟨q2,e1,_,hf,⟨B,b1,b2⟩,_⟩:=h;rw[hp,qO]at e1;subst e1;obtain⟨q3,e1,j1,j2,⟨B',b3,b4⟩,c⟩:=h';rw[hp',qO]at e1;subst e1;have j0:=(qS hs).1;refine⟨q',hp',j0,by omega,⟨B'++⟨false,(p:Int)⟩::B,?_,?_⟩,c⟩
 ·rw[y0i hs];refine y5s b3 ?_;rw[z3p hp,qBd];rw[qAw]at b1;exact b1
 have:Q0d (⟨false,(p:Int)⟩::B)=Q0d B:=by simp[Q0d]
 rw[z0o,this,b4,b2];have e:l.drop f=(l.drop f').drop (f-f'):=by rw[List.drop_drop,show f'+(f-f')=f by omega]
 rw[e,← qFv,show f-f'+(n-f)=n-f' by omega]
structure Clo(ps:List Pr)(l:List Int)(N:Nat)(S:Nat->Nat->Nat->Nat->Prop):Prop where
 init:∀p q,ps[p]? = some q->q.head=0->S 0 p 0 0
 scan:∀n p d f q t,n<N->S n p d f->ps[p]? = some q->q.syms[d]? = some ⟨false,t⟩->l[n]? = some t->S (n+1) p (d+1) f
 pred:∀n p d f q p' q',n<=N->S n p d f->ps[p]? = some q->q.syms[d]? = some ⟨true,q'.head⟩->ps[p']? = some q'->S n p' 0 n
 comp:∀n p f q p' d' f' q',n<=N->S n p q.syms.length f->ps[p]? = some q->S f p' d' f'->ps[p']? = some q'->q'.syms[d']? = some ⟨true,q.head⟩->S n p' (d'+1) f'
theorem x3d{l:List Int}{N:Nat}{S:Nat->Nat->Nat->Nat->Prop}(h:Clo ps l N S)(hNl:N<=l.length):∀(T b n p d f:Nat) (q:Pr) (A B:List St) (γ:List Sy),n<=N->ps[p]? = some q->d<=q.syms.length->f<=n->Q1i ps B (q.syms.take d)=some []->Q0d B=(l.drop f).take (n-f) ->
  Q1i ps A [⟨true,0⟩]=some (⟨true,q.head⟩::γ)->Q0d A=l.take f->A.length+B.length=T->B.length=b->S n p d f:=by
 intro T;induction T using Nat.strongRecOn with
 |_ T ihT =>
  intro b;induction b using Nat.strongRecOn with
  |_ b ihb =>
   intro n p d f q A B γ j1 hp hd hf hB j3 hA j0 hT hb;cases d with
   |zero =>
    rw[List.take_zero]at hB;have j9:=z27 hB;subst j9;have jd:f=n:=by
     have:=qEn List.length j3;rw[qCo,qCt]at this;simp[Q0d]at this;omega
    subst jd;by_cases j4:A=[]
    ·subst j4;have e:([⟨true,0⟩]:List Sy)=⟨true,q.head⟩::γ:=by simpa [Q1i]using hA
     rw[qBe,Sy.mk.injEq]at e;have jc:f=0:=by
      have:=qEn List.length j0;rw[qCo]at this;simp[Q0d]at this;omega
     subst jc;exact h.init p q hp e.1.2.symm
    rcases spine A [⟨true,0⟩] ⟨true,q.head⟩ γ hA with⟨a,e,hr⟩|⟨p2,q2,d2,A',B',γ',e1,e2,e3,e4,e5,e6⟩
    ·cases a with
     |nil=>exact absurd (z27 hr) j4
     |cons z a=>simp at e
    have je:Q0d A'++Q0d B'=(l.drop 0).take (f-0):=by
     rw[qEc,Nat.sub_zero,← j0,e4,z0o];congr 1
    obtain⟨c1,c2,c3⟩:=z5h je (by omega) (by omega);rw[qEc]at c1;rw[qBy]at c2 c3;have jg:A.length=A'.length+(B'.length+1):=by rw[e4];simp
    have jm:=(qS e2).1;have hS:=ihT (A'.length+B'.length) (by simp at hT;omega) B'.length f p2 d2 (Q0d A').length q2 A' B' γ' j1 e1 (by omega) c3 e6 c2 e5 c1 rfl rfl;exact h.pred f p2 d2 _ q2 p q j1 hS e1 e2 hp
   |succ d =>
    have j7:d<q.syms.length:=hd;have hY:q.syms[d]? = some q.syms[d]:=qE j7;rw[y0i hY]at hB;obtain⟨B1,B2,rfl,h1,h2⟩:=z20 ps B (q.syms.take d) [q.syms[d]] hB;rw[z0o]at j3;obtain⟨c1,c2,c3⟩:=z5h j3 (by omega) hf;generalize hm:f+(Q0d B1).length=m at c2 c3;have jj:(Q0d B1).length=m-f:=by omega
    rw[jj]at c1;generalize q.syms[d]=Y at hY h2;rw[qP]at hT hb;cases B2 with
    |nil=>simp[Q1i]at h2
    |cons s B3 =>
     have j5:=ihT (A.length+B1.length) (by simp at hT;omega) B1.length m p d f q A B1 γ (by omega) hp (by omega) (by omega) h1 c1 hA j0 rfl rfl;cases hs:s.leaf
     ·obtain⟨y,k',q2,e0,y1,y2,y3,y4,y5⟩:=z05 hs h2;rw[qBe]at e0;obtain⟨rfl,rfl⟩:=e0;rw[qBd]at y5;have jl:=z6n hs y2;have j6:Y=⟨true,q2.head⟩:=by
       obtain⟨a,b⟩:=Y;dsimp only at y1 y4;rw[y1,y4]
      have jf:Q0d B3=(l.drop m).take (n-m):=by
       rw[← c2,jl];simp[Q0d]
      have j8:Q1i ps (A++⟨false,(p:Int)⟩::B1) [⟨true,0⟩]=some (⟨true,q2.head⟩::(q.syms.drop (d+1)++γ)):=by
       rw[z1g,hA,qDn,z3p hp];have:=z26 B1 _ _ (q.syms.drop d++γ) h1;rw[← qAs,qFb,qCh]at this;rw[this,qC j7,(qS hY).2,j6];rfl
      have j2:Q0d (A++⟨false,(p:Int)⟩::B1)=l.take m:=by
       rw[z0o,j0];have:Q0d (⟨false,(p:Int)⟩::B1)=Q0d B1:=by simp[Q0d]
       rw[this,c1,← qFv,show f+(m-f)=m by omega]
      have jb:=ihb B3.length (by simp at hb;omega) n s.num.toNat q2.syms.length m q2 (A++⟨false,(p:Int)⟩::B1) B3 _ j1 y3 (qR _) c3 (by rw[qAw];exact y5) jf j8 j2 (by simp at hT ⊢;omega) rfl;exact h.comp n s.num.toNat m q2 p d f q j1 jb y3 j5 hp (by rw[hY,j6])
     obtain⟨y,k',e0,y1,y2,y3⟩:=z09 hs h2;rw[qBe]at e0;obtain⟨rfl,rfl⟩:=e0;have ja:=z27 y3;subst ja;have ji:Q0d [s]=[s.num]:=by simp[Q0d,hs]
     rw[ji]at c2;have jk:n=m+1:=by
      have:=qEn List.length c2;rw[qCo,qCt]at this;simp at this;omega
     subst jk;have jh:l[m]? = some s.num:=by
      rw[show m+1-m=1 by omega]at c2;have:=qEn (fun x=>x[0]?) c2;simp only[qCv]at this;rw[List.getElem?_take,qAb (by omega),qDx,Nat.add_zero]at this;exact this.symm
     refine h.scan m p d f q s.num (by omega) j5 hp ?_ jh;rw[hY];obtain⟨a,b⟩:=Y;dsimp only at y1 y2;rw[y1,y2]
theorem Clo.all{l:List Int}{N:Nat}{S:Nat->Nat->Nat->Nat->Prop}(h:Clo ps l N S)(hNl:N<=l.length){n p d f:Nat}(hn:n<=N)(hI:It ps l n p d f):S n p d f:=by
 obtain⟨q,hp,hd,hf,⟨B,b1,b2⟩,A,γ,a1,a2⟩:=hI;exact x3d h hNl _ _ n p d f q A B γ hn hp hd hf b1 b2 a1 a2 rfl rfl
theorem x8c{l:List Int}{t:Nat}:Vb ps l t↔∃p q d f,It ps l l.length p d f/\ps[p]? = some q/\q.syms[d]? = some ⟨false,(t:Int)⟩:=by
 constructor
 ·rintro⟨A,β,h1,h2⟩;rcases spine A [⟨true,0⟩] ⟨false,t⟩ β h2 with⟨a,e,hr⟩|⟨p,q,d,A',B',γ',e1,e2,e3,e4,e5,e6⟩
  ·cases a with
   |nil=>simp at e
   |cons z a=>simp at e
  have j2:Q0d A'++Q0d B'=(l.drop 0).take (l.length-0):=by
   rw[qEc,Nat.sub_zero,qAw,← h1,e4,z0o];congr 1
  obtain⟨c1,c2,c3⟩:=z5h j2 (qR _) (by omega);rw[qEc]at c1;rw[qBy]at c2 c3;have j3:=(qS e2).1;exact⟨p,q,d,(Q0d A').length,⟨q,e1,by omega,c3,⟨B',e6,c2⟩,A',γ',e5,c1⟩,e1,e2⟩
 rintro⟨p,q,d,f,h1,h2,h3⟩;obtain⟨q2,A,γ,e1,e2,e3⟩:=h1.at' (qR _);rw[h2,qO]at e1;subst e1;obtain⟨j0,j1⟩:=qS h3;refine⟨A,q.syms.drop (d+1)++γ,by rw[e2,qAw],?_⟩;rw[e3,qC j0,j1];rfl
theorem x8d{l:List Int}:Ve ps l↔∃p q,It ps l l.length p q.syms.length 0/\ps[p]? = some q/\q.head=0:=by
 constructor
 ·rintro⟨A,h1,h2⟩;cases A with
  |nil=>simp[Q1i]at h2
  |cons s A =>
   cases hs:s.leaf
   ·obtain⟨y,k',q,e0,y1,y2,y3,y4,y5⟩:=z05 hs h2;rw[qBe]at e0;obtain⟨rfl,rfl⟩:=e0;rw[qBd]at y5;have j0:=z6n hs y2;refine⟨s.num.toNat,q,⟨q,y3,qR _,qBq _,⟨A,by rw[qAw];exact y5,?_⟩,[],[],by rw[y4];rfl,by simp[Q0d]⟩,y3,y4⟩;rw[qEc,Nat.sub_zero,qAw,← h1,j0];simp[Q0d]
   obtain⟨y,k',e0,y1,y2,y3⟩:=z09 hs h2;rw[qBe]at e0;obtain⟨rfl,_⟩:=e0;cases y1
 rintro⟨p,q,h1,h2,h3⟩;obtain⟨q2,e1,_,_,⟨B,b1,b2⟩,_⟩:=h1;rw[h2,qO]at e1;subst e1;refine⟨⟨false,(p:Int)⟩::B,?_,?_⟩
 ·have:Q0d (⟨false,(p:Int)⟩::B)=Q0d B:=by simp[Q0d]
  rw[this,b2,qEc,Nat.sub_zero,qAw]
 rw[← h3,z3p h2,qBd];rw[qAw]at b1;exact b1
end
def Ds(ps:List Pr)(l:List Int)(ys:List Sy)(i j:Nat):Prop:=i<=j/\j<=l.length/\∃B,Q1i ps B ys=some []/\Q0d B=(l.drop i).take (j-i)
def toL(g:Nat->Bool):Nat->Nat->Nat
 |0,t=>t
 |f+1,t=>if g t=true then t else toL g f (t+1)
theorem x9f(g:Nat->Bool)(m:Nat)(hg:g m=true)(hne:∀t,t<m->g t=true->False):∀(f t:Nat),t<=m->m<=t+f->toL g f t=m
 |0,t,h1,h2=>by unfold toL;omega
 |f+1,t,h1,h2=>by
  unfold toL;by_cases e:t=m
  ·subst e;rw[qAb hg]
  rw[qAa (fun q=>hne t (by omega) q)];exact x9f g m hg hne f (t+1) (by omega) (by omega)
def toF(rc:List Sy->Nat->Nat->Bool)(y:Sy)(ys:List Sy)(i j:Nat):Nat:=toL (fun t=>rc [y] i t&&rc ys t j) (j-i) i
def rowN(rc:List Sy->Nat->Nat->Bool)(T:Int->Nat->Nat->List Nd):List Sy->Nat->Nat->List Nd
 | [],_,_=>[]
 |y::ys,i,j=>(if y.isH=false then [⟨-1,y.num,i,1⟩] else T y.num i (toF rc y ys i j))++rowN rc T ys (toF rc y ys i j) j
def Q7u(ps:List Pr)(rc:List Sy->Nat->Nat->Bool)(h:Int)(i j:Nat):Nat:=ps.findIdx fun q=>q.head==h&&rc q.syms i j
def Q8j(ps:List Pr)(rc:List Sy->Nat->Nat->Bool):Nat->Int->Nat->Nat->List Nd
 |0,_,_,_=>[]
 |f+1,h,i,j=>match ps[Q7u ps rc h i j]? with
  |some q=>⟨(Q7u ps rc h i j:Int),-1,i,((rowN rc (Q8j ps rc f) q.syms i j).length:Int)+1⟩::rowN rc (Q8j ps rc f) q.syms i j
  |none=>[]
theorem y87:∀(n:Nat) (V:List Int),V.Nodup->(∀v∈V,0<=v/\v<(n:Int))->V.length<=n
 |0,[],_,_=>qR _
 |0,v::V,_,h=>by
  have:=h v (by simp);omega
 |n+1,V,hn,h=>by
  have h1:=y87 n (V.erase (n:Int)) (hn.erase _) (fun v hv=>by
   have hm:=(List.Nodup.mem_erase_iff hn).1 hv;have:=h v hm.2;have:=hm.1;omega)
  rw[List.length_erase]at h1;split at h1
  ·omega
  omega
section
variable {ps:List Pr}{l:List Int}
theorem z7f:∀(A B C D:List St) (ys:List Sy),A++B=C++D->Q1i ps A ys=some []->Q1i ps C ys=some []->A=C
 | [],B,C,D,ys,_,h1,h2=>by
  cases h1;exact(z27 h2).symm
 |s::A,B,[],D,ys,_,h1,h2=>by
  cases h2;exact z27 h1
 |s::A,B,c::C,D,ys,e,h1,h2=>by
  rw[qBh,qBh,qBe]at e;obtain⟨rfl,e⟩:=e;congr 1;cases hs:s.leaf
  ·obtain⟨y,k',q,rfl,g1,g2,g3,g4,g5⟩:=z05 hs h1;obtain⟨y',k2,q',e0,f1,f2,f3,f4,f5⟩:=z05 hs h2;rw[qBe]at e0;obtain⟨_,rfl⟩:=e0;rw[g3,qO]at f3;subst f3;exact z7f A B C D _ e g5 f5
  obtain⟨y,k',rfl,g1,g2,g3⟩:=z09 hs h1;obtain⟨y',k2,e0,f1,f2,f3⟩:=z09 hs h2;rw[qBe]at e0;obtain⟨_,rfl⟩:=e0;exact z7f A B C D _ e g3 f3
def Ctx(ps:List Pr)(l:List Int)(ys:List Sy)(i j:Nat):Prop:=∃A0 γ A1,Q1i ps A0 [⟨true,0⟩]=some (ys++γ)/\Q0d A0=l.take i/\Q1i ps A1 γ=some []/\Q0d A1=l.drop j
def Uni(ps:List Pr)(l:List Int):Prop:=∀A A',Q1i ps A [⟨true,0⟩]=some []->Q1i ps A' [⟨true,0⟩]=some []->Q0d A=l->Q0d A'=l->A=A'
theorem Ctx.one{ys:List Sy}{i j:Nat}(hU:Uni ps l)(h:Ctx ps l ys i j)(hij:i<=j){B B':List St}(h1:Q1i ps B ys=some [])(h2:Q1i ps B' ys=some [])(l1:Q0d B=(l.drop i).take (j-i))(l2:Q0d B'=(l.drop i).take (j-i)):B=B':=by
 obtain⟨A0,γ,A1,a1,a2,a3,a4⟩:=h;have j0:∀X,Q1i ps X ys=some []->Q0d X=(l.drop i).take (j-i)->Q1i ps (A0++(X++A1)) [⟨true,0⟩]=some []/\Q0d (A0++(X++A1))=l:=fun X hX lX=>by
  refine⟨?_,?_⟩
  ·rw[z1g,a1,qDn,z1g,z26 X ys [] γ hX];exact a3
  rw[z0o,z0o,a2,lX,a4,← qAs,← qFv,show i+(j-i)=j by omega,qFb]
 have e:=hU _ _ (j0 B h1 l1).1 (j0 B' h2 l2).1 (j0 B h1 l1).2 (j0 B' h2 l2).2;have e2:=qFt e;exact List.append_cancel_right e2
theorem z4p{p:Int}{B:List St}:Q0d (⟨false,p⟩::B)=Q0d B:=by simp[Q0d]
theorem Ctx.prod{h:Int}{i j p:Nat}{q:Pr}(hc:Ctx ps l [⟨true,h⟩] i j)(hp:ps[p]? = some q)(hh:q.head=h):Ctx ps l q.syms i j:=by
 obtain⟨A0,γ,A1,a1,a2,a3,a4⟩:=hc;subst hh;refine⟨A0++[⟨false,(p:Int)⟩],γ,A1,?_,by rw[z0o,a2,z4p];simp[Q0d],a3,a4⟩;rw[z1g,a1,qDn,List.singleton_append,z3p hp];rfl
theorem Ctx.first{y:Sy}{ys:List Sy}{i j m:Nat}{B2:List St}(hc:Ctx ps l (y::ys) i j)(hmj:m<=j)(h2:Q1i ps B2 ys=some [])(l2:Q0d B2=(l.drop m).take (j-m)):Ctx ps l [y] i m:=by
 obtain⟨A0,γ,A1,a1,a2,a3,a4⟩:=hc;refine⟨A0,ys++γ,B2++A1,by rw[a1];rfl,a2,?_,?_⟩
 ·rw[z1g,z26 B2 ys [] γ h2];exact a3
 rw[z0o,l2,a4];have:l.drop j=(l.drop m).drop (j-m):=by rw[List.drop_drop,show m+(j-m)=j by omega]
 rw[this,qFb]
theorem Ctx.rest{y:Sy}{ys:List Sy}{i j m:Nat}{B1:List St}(hc:Ctx ps l (y::ys) i j)(him:i<=m)(h1:Q1i ps B1 [y]=some [])(l1:Q0d B1=(l.drop i).take (m-i)):Ctx ps l ys m j:=by
 obtain⟨A0,γ,A1,a1,a2,a3,a4⟩:=hc;refine⟨A0++B1,γ,A1,?_,?_,a3,a4⟩
 ·rw[z1g,a1,qDn];have:=z26 B1 [y] [] (ys++γ) h1;exact this
 rw[z0o,a2,l1,← qFv,show i+(m-i)=m by omega]
def RcIs(ps:List Pr)(l:List Int)(R H:Nat)(rc:List Sy->Nat->Nat->Bool):Prop:=∀(ys:List Sy) (i j:Nat),Q3d R H ys->i<=l.length->(rc ys i j=true↔Ds ps l ys i j)
theorem v3e{R H:Nat}{rc:List Sy->Nat->Nat->Bool}(hrc:RcIs ps l R H rc)(hU:Uni ps l){y:Sy}{ys:List Sy}(hv:Q3d R H (y::ys)){i j m:Nat}{B1 B2:List St}(hc:Ctx ps l (y::ys) i j)(him:i<=m)(hmj:m<=j)(hj:j<=l.length)(h1:Q1i ps B1 [y]=some [])(h2:Q1i ps B2 ys=some [])
  (l1:Q0d B1=(l.drop i).take (m-i)) (l2:Q0d B2=(l.drop m).take (j-m)):toF rc y ys i j=m:=by
 have join:∀(t:Nat) (X Y:List St),i<=t->t<=j->Q1i ps X [y]=some []->Q1i ps Y ys=some []->Q0d X=(l.drop i).take (t-i)->Q0d Y=(l.drop t).take (j-t)->Q1i ps (X++Y) (y::ys)=some []/\Q0d (X++Y)=(l.drop i).take (j-i):=fun t X Y ht1 ht2 q1 q2 q3 q4=>by
  refine⟨?_,?_⟩
  ·rw[z1g,show y::ys=[y]++ys from rfl,z26 X [y] [] ys q1];exact q2
  rw[z0o,q3,q4];have:l.drop t=(l.drop i).drop (t-i):=by rw[List.drop_drop,show i+(t-i)=t by omega]
  rw[this,← qFv,show t-i+(j-t)=j-i by omega]
 have j0:∀(t:Nat) (X:List St),i<=t->t<=l.length->Q0d X=(l.drop i).take (t-i)->(Q0d X).length=t-i:=fun t X ht1 ht2 q=>by
  rw[q,qCo,qCt];omega
 have j1:Q3d R H [y]:=fun s hs=>hv s (by rw[qM]at hs;subst hs;simp);have j2:Q3d R H ys:=fun s hs=>hv s (by simp[hs]);refine x9f _ m ?_ (fun t ht hg=>?_) _ _ him (by omega)
 ·rw[qAd];exact⟨(hrc [y] i m j1 (by omega)).2 ⟨him,by omega,B1,h1,l1⟩,(hrc ys m j j2 (by omega)).2 ⟨hmj,hj,B2,h2,l2⟩⟩
 rw[qAd]at hg;by_cases hi:i<=t
 ·obtain⟨g1,g2,X,x1,x2⟩:=(hrc [y] i t j1 (by omega)).1 hg.1;obtain⟨g3,g4,Y,y1,y2⟩:=(hrc ys t j j2 (by omega)).1 hg.2;have e:=hc.one hU (by omega) (join t X Y hi (by omega) x1 y1 x2 y2).1 (join m B1 B2 him hmj h1 h2 l1 l2).1 (join t X Y hi (by omega) x1 y1 x2 y2).2 (join m B1 B2 him hmj h1 h2 l1 l2).2;have e2:=z7f X Y B1 B2 [y] e x1 h1;have q1:=j0 t X hi (by omega) x2;have q2:=j0 m B1 him (by omega) l1;rw[e2]at q1;omega
 have:=((hrc [y] i t j1 (by omega)).1 hg.1).1;omega
theorem x89{R H:Nat}{rc:List Sy->Nat->Nat->Bool}(hrc:RcIs ps l R H rc)(hU:Uni ps l)(T:Int->Nat->Nat->List Nd):∀(ys:List Sy) (i j:Nat) (B:List St),Q3d R H ys->Ctx ps l ys i j->i<=j->j<=l.length->Q1i ps B ys=some []->Q0d B=(l.drop i).take (j-i) ->
  (∀(y:Sy) (i' j':Nat) (B1:List St),y.isH=true->i<=i'->i'<=j'->j'<=j->B1.length<=B.length->Q1i ps B1 [y]=some []->Q0d B1=(l.drop i').take (j'-i')->Ctx ps l [y] i' j'->T y.num i' j'=Q4h ps B1 i')->rowN rc T ys i j=Q4h ps B i
 | [],i,j,B,_,_,_,_,h,_,_=>by
  rw[z27 h];rfl
 |y::ys,i,j,B,hv,hc,hij,hj,h,hl,hT=>by
  obtain⟨B1,B2,rfl,h1,h2⟩:=z20 ps B [y] ys h;rw[z0o]at hl;obtain⟨c1,c2,c3⟩:=z5h hl hj hij;generalize hm:i+(Q0d B1).length=m at c2 c3;have j1:(Q0d B1).length=m-i:=by omega
  rw[j1]at c1;have j0:i<=m:=by omega
  have j2:=v3e hrc hU hv hc j0 c3 hj h1 h2 c1 c2;rw[x0s ps i h1,j1,show i+(m-i)=m by omega];unfold rowN;rw[j2,x89 hrc hU T ys m j B2 (fun s hs=>hv s (by simp[hs])) (hc.rest j0 h1 c1) c3 hj h2 c2 (fun y' i' j' X q1 q2 q3 q4 q5 q6 q7 q8=>hT y' i' j' X q1 (by omega) q3 q4 (by rw[qP];omega) q6 q7 q8)];congr 1;cases hy:y.isH
  ·rw[qAb rfl];cases B1 with
   |nil=>simp[Q1i]at h1
   |cons s B3 =>
    cases hs:s.leaf
    ·obtain⟨z,k',q,e0,g1,_⟩:=z05 hs h1;rw[qBe]at e0;rw[← e0.1,hy]at g1;cases g1
    obtain⟨z,k',e0,g1,g2,g3⟩:=z09 hs h1;rw[qBe]at e0;obtain⟨rfl,rfl⟩:=e0;rw[z27 g3];obtain⟨a,b⟩:=s;dsimp only at hs g2;rw[hs,g2,y65]
  rw[qAa (by simp)];exact hT y i m B1 hy (qR _) j0 c3 (by rw[qP];omega) h1 c1 (hc.first c3 h2 c2)
theorem y7s{rc:List Sy->Nat->Nat->Bool}{R H:Nat}(hT:Q1d ps R H)(hH:H<=8)(hrc:RcIs ps l R H rc)(hU:Uni ps l):∀(f:Nat) (h:Int) (i j:Nat) (V:List Int) (B:List St),Q1i ps B [⟨true,h⟩]=some []->i<=j->j<=l.length->Q0d B=(l.drop i).take (j-i)->Ctx ps l [⟨true,h⟩] i j ->
    V.Nodup->(∀v∈V,0<=v/\v<H)->(∀v∈V,∃X,Q1i ps X [⟨true,v⟩]=some []/\Q0d X=(l.drop i).take (j-i)/\Ctx ps l [⟨true,v⟩] i j/\B.length<=X.length)->V.length<=8->(j-i)*8+9<=f+V.length->Q8j ps rc f h i j=Q4h ps B i
  |0,h,i,j,V,B,h1,hij,hj,hl,hc,v1,v2,v3,v4,hf=>by omega
  |f+1,h,i,j,V,B,h1,hij,hj,hl,hc,v1,v2,v3,v4,hf=>by
    cases B with
    |nil=>simp[Q1i]at h1
    |cons s B =>
      cases hs:s.leaf
      · obtain⟨y,k',q,e0,g1,g2,g3,g4,g5⟩:=z05 hs h1
        rw[qBe]at e0;obtain⟨rfl,rfl⟩:=e0;rw[qBd]at g5;dsimp only at g4;have j2:=z6n hs g2;have j7:Q0d B=(l.drop i).take (j-i):=by rw[← hl,j2,z4p]
        -- the production that is found
        have j3:(q.head==h&&rc q.syms i j)=true:=by
          rw[qAd,qBi];exact⟨g4,(hrc q.syms i j (hT.sy q (qAi g3)) (by omega)).2 ⟨hij,hj,B,g5,j7⟩⟩
        have hlt:Q7u ps rc h i j<ps.length:=qFw ⟨q,qAi g3,j3⟩;have j6:=qDz (w:=hlt);rw[qAd,qBi]at j6;obtain⟨f1,f2⟩:=j6;obtain⟨_,_,X,x1,x2⟩:=(hrc _ i j (hT.sy _ (qG hlt)) (by omega)).1 f2;have ja:ps[Q7u ps rc h i j]? = some (ps[Q7u ps rc h i j]'hlt):=qE hlt;have hX:Q1i ps (⟨false,(Q7u ps rc h i j:Int)⟩::X) [⟨true,h⟩]=some []:=by
          have:=z3p (B:=X) (γ:=[]) ja;have e:(ps[Q7u ps rc h i j]'hlt).head=h:=f1;rw[e]at this;rw[this,qBd];exact x1
        have e:=hc.one hU hij hX h1 (by rw[z4p];exact x2) hl;rw[qBe]at e;have jb:Q7u ps rc h i j=s.num.toNat:=by
          have:=e.1;rw[j2,St.mk.injEq]at this;omega
        have j4:rowN rc (Q8j ps rc f) q.syms i j=Q4h ps B i:=by
         refine x89 hrc hU (Q8j ps rc f) q.syms i j B (hT.sy q (qAi g3)) (hc.prod g3 g4) hij hj g5 j7 (fun y i' j' B1 q1 q2 q3 q4 q5 q6 q7 q8=>?_);obtain⟨yh,yn⟩:=y;dsimp only at q1;subst q1;have j5:0<=yn/\yn<H:=by
           cases B1 with
           |nil=>simp[Q1i]at q6
           |cons z Z =>
             cases hz:z.leaf
             · obtain⟨y',k2,q',e0,w1,w2,w3,w4,w5⟩:=z05 hz q6
               rw[qBe]at e0;have:=hT.hd q' (qAi w3);rw[← e0.1]at w4;dsimp only at w4;omega
             obtain⟨y',k2,e0,w1,w2,w3⟩:=z09 hz q6;rw[qBe]at e0;rw[← e0.1]at w1;cases w1
         have j1:∃X,Q1i ps X [⟨true,yn⟩]=some []/\Q0d X=(l.drop i').take (j'-i')/\Ctx ps l [⟨true,yn⟩] i' j'/\B1.length<=X.length:=⟨B1,q6,q7,q8,qR _⟩;by_cases same:i'=i/\j'=j
         · obtain⟨rfl,rfl⟩:=same
           have j0:yn ∉ V:=fun hm=>by
             obtain⟨X,y1,y2,y3,y4⟩:=v3 yn hm;have e:=y3.one hU hij q6 y1 q7 y2;rw[e]at q5;simp only[qBk]at y4;omega
           have j8:(yn::V).length<=8:=by
             have j9:(yn::V).Nodup:=List.nodup_cons.2 ⟨j0,v1⟩;refine y87 8 _ j9 (fun v hv=>?_);have hb:0<=v/\v<H:=by
               rcases qBu.1 hv with rfl|hv
               · exact j5
               exact v2 v hv
             omega
           refine y7s hT hH hrc hU f yn i' j' (yn::V) B1 q6 q3 hj q7 q8 (List.nodup_cons.2 ⟨j0,v1⟩) (fun v hv=>?_) (fun v hv=>?_) j8 (by rw[qBk];omega)
           · rcases qBu.1 hv with rfl|hv
             · exact j5
             exact v2 v hv
           rcases qBu.1 hv with rfl|hv
           · exact j1
           obtain⟨X,y1,y2,y3,y4⟩:=v3 v hv;exact⟨X,y1,y2,y3,by simp only[qBk]at y4;omega⟩
         refine y7s hT hH hrc hU f yn i' j' [yn] B1 q6 q3 (by omega) q7 q8 (by simp) (fun v hv=>?_) (fun v hv=>?_) (by simp) (by simp only[qAj];omega)
         · rw[qM]at hv;subst hv;exact j5
         rw[qM]at hv;subst hv;exact j1
        unfold Q8j;rw[jb,g3];dsimp only;rw[j4];have e9:=h1;rw[j2]at e9;rw[j2,y66 ps i e9,x0t];rfl
      obtain⟨y,k',e0,g1,g2,g3⟩:=z09 hs h1;rw[qBe]at e0;rw[← e0.1]at g1;cases g1
end
section
variable {ps:List Pr}{R H:Nat}{hs:List Hd}
theorem v1t(h:Tab ps R H hs){k:List Sy}(hk:Q3d R H k){t:Nat}(ht:R<t):(Q57 hs R k).getD t false=false:=by
 rw[z30 h.ok h.hR k hk t];unfold Q6u;have h1:Q3y (hN hs) (fun X=>hF hs X t) t k=false:=by
  cases hb:Q3y (hN hs) (fun X=>hF hs X t) t k with
  |false=>rfl
  |true =>
   obtain⟨a,s,b,rfl,_,j0⟩:=z1s hb;cases hx:s.isH
   ·rw[hx]at j0;simp only[qF,qAz,qBi]at j0;have:=hk s (by simp);rw[hx]at this;simp only[qF,qAz]at this;omega
   rw[hx]at j0;simp only[qBn]at j0;have:=h.g.bF _ _ j0;omega
 rw[h1,show(t==R)=false by simp;omega];simp
structure GrowIs(ps:List Pr)(R:Nat)(l:List Int)(G:GOut)(n:Nat):Prop where
 le:n<=l.length
 each:∀i (hi:i<l.length),i<n->Vb ps (l.take i) l[i].toNat
 or:(n=l.length/\Ve ps l/\∃A,G=⟨0,[],0,A⟩/\Q1i ps A [⟨true,0⟩]=some []/\Q0d A=l) ∨
  (∃W:List Bool,G=⟨10,Q3e W,n,[]⟩/\(∀t,t<R->(W.getD t false=true↔Vb ps (l.take n) t))/\(W.getD R false=true↔Ve ps (l.take n))/\(∀t,R<t->W.getD t false=false)/\(∀hi:n<l.length,¬Vb ps (l.take n) l[n].toNat)/\(n=l.length->¬Ve ps l))
theorem x79(h:Tab ps R H hs){l:List Int}(hk:Q1z R l=true):∀(n:Nat),n<=l.length->(∃r,thr ps hs R H (l.take n) [⟨true,0⟩] []=some r)->∀i (hi:i<l.length),i<n->Vb ps (l.take i) l[i].toNat:=by
 intro n hn hr i hi j3;obtain⟨r,hr⟩:=hr;have j2:∀j,Q1z R (l.take j)=true:=fun j=>y1g hk j;obtain⟨r1,j0⟩:=y3i _ _ _ r hr (i+1);rw[List.take_take,qFe (by omega),qCu,qE hi]at j0;rw[show(some l[i]).toList=[l[i]] from rfl,y9q]at j0;obtain⟨r2,j1⟩:=y3i _ _ _ r hr i;rw[List.take_take,qFe (by omega)]at j1;rw[j1,qDn]at j0;split at j0
 ·rename_i hw;have hb:0<=l[i]/\l[i]<R:=by
   unfold Q1z at hk;rw[qAy]at hk;have:=hk l[i] (qG hi);simpa using this
  exact(y0n h (j2 i) j1 (by omega)).1 hw
 cases j0
theorem v0c(h:Tab ps R H hs){l:List Int}(hk:Q1z R l=true):∃n,GrowIs ps R l (Q6k ps hs R H l 0 [⟨true,0⟩] []) n:=by
 obtain⟨n,r,h1,h2,h3⟩:=y8q (ps:=ps) (hs:=hs) (R:=R) (H:=H) l 0 [⟨true,0⟩] [];have j0:=y1g hk n;refine⟨n,h1,x79 h hk n h1 ⟨r,h2⟩,?_⟩;obtain⟨A,z1,z2,z3,z4,z5⟩:=z6u h _ _ _ r j0 h.start.1 h.start.2 (by simp) h2;rcases h3 with⟨e1,e2,e3⟩|⟨e1,e2,e3,e4,e5,e6⟩
 ·have j1:=(y3k h j0 h2).1 e2;rw[e1,qAw]at j1;refine .inl ⟨e1,j1,?_⟩;obtain⟨A',a1,a2⟩:=j1;exact⟨A',by rw[z8b h l A' 0 _ [] a1 h.start.1 h.start.2 (by simp) a2];rfl,a2,a1⟩
 refine .inr ⟨Q57 hs R r.1,?_,fun t ht=>y0n h j0 h2 ht,y3k h j0 h2,fun t ht=>v1t h z4 ht,fun hi hv=>?_,fun hn hv=>?_⟩
 ·rw[qBy]at e2;generalize Q6k ps hs R H l 0 [⟨true,0⟩] []=G at e1 e2 e3 e4;obtain⟨g1,g2,g3,g4⟩:=G;dsimp only at e1 e2 e3 e4;rw[e1,e2,e3,e4]
 ·have hb:0<=l[n]/\l[n]<R:=by
   unfold Q1z at hk;rw[qAy]at hk;have:=hk l[n] (qG hi);simpa using this
  have:=(y0n h j0 h2 (t:=l[n].toNat) (by omega)).2 hv;rw[e5 hi]at this;cases this
 have j2:Ve ps (l.take n):=by rw[hn,qAw];exact hv
 have:=(y3k h j0 h2).2 j2;rw[e6 hn]at this;cases this
theorem v2x(h:Tab ps R H hs)(l:List Int):Uni ps l:=fun A A' h1 h2 l1 l2=>by
 have e1:=z8b h l A 0 _ [] l1 h.start.1 h.start.2 (by simp) h1;have e2:=z8b h l A' 0 _ [] l2 h.start.1 h.start.2 (by simp) h2;rw[e1,GOut.mk.injEq]at e2;have:=e2.2.2.2;simpa using this
end
def Q9j(l:List Int)(D:Int->Nat->Nat->Prop)(y:Sy)(i j:Nat):Prop:=if y.isH=true then D y.num i j else l[i]? = some y.num/\j=i+1
def RR(l:List Int)(D:Int->Nat->Nat->Prop):List Sy->Nat->Nat->Prop
 | [],i,j=>i=j
 |y::ys,i,j=>∃m,Q9j l D y i m/\RR l D ys m j
section
variable {ps:List Pr}{l:List Int}{D:Int->Nat->Nat->Prop}
theorem y9f(hD:∀h i j,D h i j->Ds ps l [⟨true,h⟩] i j):∀(ys:List Sy) (i j:Nat),i<=l.length->RR l D ys i j->Ds ps l ys i j
 | [],i,j,hi,h=>by
  cases h;exact⟨qR _,hi,[],rfl,by simp[Q0d]⟩
 |y::ys,i,j,hi,h=>by
  obtain⟨m,h1,h2⟩:=h;have hy:Ds ps l [y] i m:=by
   unfold Q9j at h1;obtain⟨a,b⟩:=y;cases a
   ·simp only[qF,qAz]at h1;obtain⟨h3,rfl⟩:=h1;have j0:=(qS h3).1;refine⟨by omega,j0,[⟨true,b⟩],by simp[Q1i],?_⟩;rw[show i+1-i=0+1 by omega,qCu,qDx,Nat.add_zero,h3];simp[Q0d]
   simp only[qBn]at h1;exact hD b i m h1
  obtain⟨g1,g2,B1,b1,b2⟩:=hy;obtain⟨g3,g4,B2,b3,b4⟩:=y9f hD ys m j g2 h2;refine⟨by omega,g4,B1++B2,?_,?_⟩
  ·rw[z1g,show y::ys=[y]++ys from rfl,z26 B1 [y] [] ys b1];exact b3
  rw[z0o,b2,b4];have:l.drop m=(l.drop i).drop (m-i):=by rw[List.drop_drop,show i+(m-i)=m by omega]
  rw[this,← qFv,show m-i+(j-m)=j-i by omega]
theorem v1g(hc:∀q∈ps,∀i j,i<=l.length->RR l D q.syms i j->D q.head i j):∀(n:Nat) (B:List St) (ys:List Sy) (i j:Nat),B.length<=n->Q1i ps B ys=some []->i<=j->j<=l.length->Q0d B=(l.drop i).take (j-i)->RR l D ys i j:=by
 intro n;induction n with
 |zero =>
  intro B ys i j hn h j0 hj hl;have:B=[]:=qCm (by omega);subst this;have:ys=[]:=by simpa [Q1i]using h
  subst this;have:=qEn List.length hl;rw[qCo,qCt]at this;simp[Q0d]at this;show i=j;omega
 |succ n ih =>
  intro B ys i j hn h j0 hj hl;cases ys with
  |nil =>
   have:=z27 h;subst this;have:=qEn List.length hl;rw[qCo,qCt]at this;simp[Q0d]at this;show i=j;omega
  |cons y ys =>
   cases B with
   |nil=>simp[Q1i]at h
   |cons s B =>
    rw[qBk]at hn;cases hs:s.leaf
    ·obtain⟨z,k',q,e0,g1,g2,g3,g4,g5⟩:=z05 hs h;rw[qBe]at e0;obtain⟨rfl,rfl⟩:=e0;obtain⟨B1,B2,rfl,h1,h2⟩:=z20 ps B q.syms ys g5;have j3:=z6n hs g2;rw[j3,z4p,z0o]at hl;obtain⟨c1,c2,c3⟩:=z5h hl hj j0;rw[qP]at hn;generalize hm:i+(Q0d B1).length=m at c2 c3;have j2:(Q0d B1).length=m-i:=by omega
     rw[j2]at c1;have r1:=ih B1 q.syms i m (by omega) h1 (by omega) (by omega) c1;have r2:=ih B2 ys m j (by omega) h2 c3 hj c2;refine⟨m,?_,r2⟩;unfold Q9j;rw[qAb g1,← g4];exact hc q (qAi g3) i m (by omega) r1
    obtain⟨z,k',e0,g1,g2,g3⟩:=z09 hs h;rw[qBe]at e0;obtain⟨rfl,rfl⟩:=e0;have j1:Q0d (s::B)=s.num::Q0d B:=by simp[Q0d,hs]
    rw[j1,show s.num::Q0d B=[s.num]++Q0d B from rfl]at hl;obtain⟨c1,c2,c3⟩:=z5h hl hj j0;rw[qAj]at c1 c2 c3;refine⟨i+1,?_,ih B ys (i+1) j (by omega) g3 c3 hj c2⟩;unfold Q9j;rw[qAa (by rw[g1];simp),g2];refine⟨?_,rfl⟩;have:=qEn (fun x=>x[0]?) c1;simp only[qCv]at this;rw[List.getElem?_take,qAb (by omega),qDx,Nat.add_zero]at this;exact this.symm
end
def Q83(ps:List Pr)(m:Itm):Option Sy:=(ps[m.p]?).bind fun q=>q.syms[m.d]?
def Q99(ps:List Pr)(l:List Int)(n:Nat)(m:Itm):Prop:=It ps l n m.p m.d m.f
structure Q3a(ps:List Pr)(l:List Int)(n:Nat)(L:List (List Itm)):Prop where
 len:L.length=n+1
 iff:∀(k:Nat) (X:List Itm),L[k]? = some X->∀m:Itm,m∈X↔Q99 ps l k m
structure Q9x(ps:List Pr)(L:List (List Itm))(n:Nat)(X:List Itm):Prop where
 pred:∀(m:Itm) (h:Int) (p':Nat) (q':Pr),m∈X->Q83 ps m=some ⟨true,h⟩->ps[p']? = some q'->q'.head=h->⟨p',0,n⟩∈X
 comp:∀(m:Itm) (q:Pr) (m':Itm) (Y:List Itm),m∈X->ps[m.p]? = some q->Q83 ps m=none->L[m.f]? = some Y->m'∈Y->Q83 ps m'=some ⟨true,q.head⟩->⟨m'.p,m'.d+1,m'.f⟩∈X
section
variable {ps:List Pr}{l:List Int}
theorem y2m{n p d f:Nat}(h:It ps l n p d f):f<=n/\∃q,ps[p]? = some q/\d<=q.syms.length:=by
 obtain⟨q,h1,h2,h3,_⟩:=h;exact⟨h3,q,h1,h2⟩
theorem z3r{m:Itm}{q:Pr}(h:ps[m.p]? = some q):Q83 ps m=q.syms[m.d]? := by unfold Q83;rw[h];rfl
theorem x83{n:Nat}{m:Itm}{q:Pr}(h:Q99 ps l n m)(hq:ps[m.p]? = some q):Q83 ps m=none↔m.d=q.syms.length:=by
 rw[z3r hq];obtain⟨_,q',e,hd⟩:=y2m h;rw[hq,qO]at e;subst e;constructor
 ·intro e;have:=List.getElem?_eq_none_iff.1 e;omega
 intro e;exact qN (by omega)
theorem y9h{N:Nat}{L:List (List Itm)}{X:List Itm}(hNl:N<=l.length)(hL:L.length=N)(hx:∀(k:Nat) (Y:List Itm),L[k]? = some Y->∀m:Itm,m∈Y↔Q99 ps l k m)(hs:∀m∈X,Q99 ps l N m)(hF:Q9x ps (L++[X]) N X)
  (h0:N=0->∀p q,ps[p]? = some q->q.head=0->⟨p,0,0⟩∈X)
  (h1:∀(n:Nat) (Y:List Itm) (m:Itm) (t:Int),N=n+1->L[n]? = some Y->m∈Y->Q83 ps m=some ⟨false,t⟩->l[n]? = some t->⟨m.p,m.d+1,m.f⟩∈X):Q3a ps l N (L++[X]):=by
 have j2:∀k,k<N->∃Y,L[k]? = some Y/\(L++[X])[k]? = some Y:=fun k hk=>by
  have:k<L.length:=by omega
  exact⟨L[k],qE this,by rw[qAl this,qE this]⟩
 have j0:(L++[X])[N]? = some X:=by rw[qAr (by omega),hL,qEm];rfl
 have j4:Clo ps l N (fun n p d f=>∃Y,(L++[X])[n]? = some Y/\(⟨p,d,f⟩:Itm)∈Y):=by
  have j3:∀n p d f,n<=N->(∃Y,(L++[X])[n]? = some Y/\(⟨p,d,f⟩:Itm)∈Y)->It ps l n p d f:=fun n p d f hn ⟨Y,y1,y2⟩=>by
   rcases qCk n N with q|q
   ·obtain⟨Z,z1,z2⟩:=j2 n q;rw[y1,qO]at z2;subst z2;exact(hx n Y z1 _).1 y2
   obtain rfl:n=N:=by omega
   rw[j0,qO]at y1;subst y1;exact hs _ y2
  have j1:∀n p d f,n<N->It ps l n p d f->∃Y,(L++[X])[n]? = some Y/\(⟨p,d,f⟩:Itm)∈Y:=fun n p d f hn h=>by
   obtain⟨Z,z1,z2⟩:=j2 n hn;exact⟨Z,z2,(hx n Z z1 ⟨p,d,f⟩).2 h⟩
  refine⟨fun p q hp hq=>?_,fun n p d f q t hn hS hp hsy ht=>?_,fun n p d f q p' q' hn hS hp hsy hp'=>?_,fun n p f q p' d' f' q' hn hS hp hS' hp' hsy=>?_⟩
  ·rcases Nat.eq_zero_or_pos N with e|e
   ·subst e;exact⟨X,j0,h0 rfl p q hp hq⟩
   exact j1 0 p 0 0 e (x3f hp hq)
  ·rcases qCk (n+1) N with q1|q1
   ·exact j1 _ _ _ _ q1 (x3h (j3 n p d f (by omega) hS) hp hsy ht)
   obtain⟨Y,y1,y2⟩:=hS;obtain⟨Z,z1,z2⟩:=j2 n hn;rw[y1,qO]at z2;subst z2;have e:n+1=N:=by omega
   rw[e];exact⟨X,j0,h1 n Y ⟨p,d,f⟩ t e.symm z1 y2 (by rw[z3r (m:=⟨p,d,f⟩) hp];exact hsy) ht⟩
  ·rcases qCk n N with q1|q1
   ·exact j1 _ _ _ _ q1 (x3g (j3 n p d f hn hS) (by omega) hp hsy hp' rfl)
   obtain rfl:n=N:=by omega
   obtain⟨Y,y1,y2⟩:=hS;rw[j0,qO]at y1;subst y1;exact⟨X,j0,hF.pred ⟨p,d,f⟩ q'.head p' q' y2 (by rw[z3r (m:=⟨p,d,f⟩) hp];exact hsy) hp' rfl⟩
  rcases qCk n N with q1|q1
  ·have hI:=j3 n p q.syms.length f hn hS;have:=(y2m hI).1;exact j1 _ _ _ _ q1 (x3e hI (by omega) hp (j3 f p' d' f' (by omega) hS') hp' hsy)
  obtain rfl:n=N:=by omega
  obtain⟨Y,y1,y2⟩:=hS;rw[j0,qO]at y1;subst y1;obtain⟨Y',w1,w2⟩:=hS';refine⟨X,j0,hF.comp ⟨p,q.syms.length,f⟩ q ⟨p',d',f'⟩ Y' y2 hp ?_ w1 w2 (by rw[z3r (m:=⟨p',d',f'⟩) hp'];exact hsy)⟩;rw[z3r (m:=⟨p,q.syms.length,f⟩) hp];exact qN (qR _)
 refine⟨by rw[qP,hL];rfl,fun k Y hk m=>?_⟩;have j5:k<=N:=by
  have:=(qS hk).1;rw[qP,qAj]at this;omega
 constructor
 ·intro hm;rcases qCk k N with q|q
  ·obtain⟨Z,z1,z2⟩:=j2 k q;rw[hk,qO]at z2;subst z2;exact(hx k Y z1 m).1 hm
  obtain rfl:k=N:=by omega
  rw[j0,qO]at hk;subst hk;exact hs m hm
 intro hm;obtain⟨Z,z1,z2⟩:=j4.all hNl j5 hm;rw[hk,qO]at z1;subst z1;exact z2
theorem Q3a.next{L:List (List Itm)}{X:List Itm}(h:Q3a ps l l.length L)(hX:L[l.length]? = some X){t:Nat}:(∃m∈X,Q83 ps m=some ⟨false,(t:Int)⟩)↔Vb ps l t:=by
 rw[x8c];constructor
 ·rintro⟨m,hm,hs⟩;have hI:=(h.iff _ X hX m).1 hm;obtain⟨_,q,hq,_⟩:=y2m hI;exact⟨m.p,q,m.d,m.f,hI,hq,by rw[← z3r hq];exact hs⟩
 rintro⟨p,q,d,f,hI,hq,hs⟩;exact⟨⟨p,d,f⟩,(h.iff _ X hX ⟨p,d,f⟩).2 hI,by rw[z3r (m:=⟨p,d,f⟩) hq];exact hs⟩
theorem Q3a.fin{L:List (List Itm)}{X:List Itm}(h:Q3a ps l l.length L)(hX:L[l.length]? = some X):(∃m∈X,∃q,ps[m.p]? = some q/\Q83 ps m=none/\m.f=0/\q.head=0)↔Ve ps l:=by
 rw[x8d];constructor
 ·rintro⟨m,hm,q,hq,hs,hf,hh⟩;have hI:=(h.iff _ X hX m).1 hm;have hd:=(x83 hI hq).1 hs;obtain⟨p,d,f⟩:=m;dsimp only at hf hd hq;subst hf hd;exact⟨p,q,hI,hq,hh⟩
 rintro⟨p,q,hI,hq,hh⟩;refine⟨⟨p,q.syms.length,0⟩,(h.iff _ X hX ⟨p,q.syms.length,0⟩).2 hI,q,hq,?_,rfl,hh⟩;rw[z3r (m:=⟨p,q.syms.length,0⟩) hq];exact qN (qR _)
theorem v0h{n p d f k:Nat}(hnk:n<=k):It ps (l.take k) n p d f↔It ps l n p d f:=by
 have e1:∀f,f<=n->(l.take k).take f=l.take f:=fun f hf=>by rw[List.take_take,qFe (by omega)]
 have e2:∀f,f<=n->((l.take k).drop f).take (n-f)=(l.drop f).take (n-f):=fun f hf=>by
  rw[List.drop_take,List.take_take,qFe (by omega)]
 unfold It;constructor
 ·rintro⟨q,h1,h2,h3,⟨B,b1,b2⟩,A,γ,a1,a2⟩;exact⟨q,h1,h2,h3,⟨B,b1,by rw[← e2 f h3];exact b2⟩,A,γ,a1,by rw[← e1 f h3];exact a2⟩
 rintro⟨q,h1,h2,h3,⟨B,b1,b2⟩,A,γ,a1,a2⟩;exact⟨q,h1,h2,h3,⟨B,b1,by rw[e2 f h3];exact b2⟩,A,γ,a1,by rw[e1 f h3];exact a2⟩
theorem Q3a.take{n k:Nat}{L:List (List Itm)}(h:Q3a ps l n L)(hnk:n<=k):Q3a ps (l.take k) n L:=by
 refine⟨h.len,fun j X hX m=>?_⟩;have hj:j<=n:=by
  have:=(qS hX).1;have:=h.len;omega
 rw[h.iff j X hX m];exact(v0h (by omega)).symm
end
theorem x8a{ps:List Pr}{R H:Nat}{hs:List Hd}(h:Tab ps R H hs){l:List Int}(hl:l.length<=60){rc:List Sy->Nat->Nat->Bool}(hrc:RcIs ps l R H rc){A:List St}(h1:Q1i ps A [⟨true,0⟩]=some [])(h2:Q0d A=l):Q8j ps rc 2000 0 0 l.length=Q1p ps A:=by
 have j0:Q0d A=(l.drop 0).take (l.length-0):=by rw[qEc,Nat.sub_zero,qAw];exact h2
 have hc:Ctx ps l [⟨true,0⟩] 0 l.length:=⟨[],[],[],rfl,by simp[Q0d],rfl,by simp[Q0d]⟩;have j1:0<H:=h.h0;have:=y7s (R:=R) (H:=H) h.g.tab h.hH hrc (v2x h l) 2000 0 0 l.length [0] A h1 (qBq _) (qR _) j0 hc (by simp) (fun v hv=>by
  rw[qM]at hv;subst hv;omega) (fun v hv=>by
  rw[qM]at hv;subst hv;exact⟨A,h1,j0,hc,qR _⟩) (by simp) (by simp only[qAj];omega)
 rw[this,y67]
def spJ(base:Int)(l:List Int)(D:List Mat)(c:Int)(frm:List Bool)(n:Nat):Nat->Nat->List Bool->List Bool
 |0,_,out=>out
 |f+1,i,out=>spJ base l D c frm n f (i+1) (if frm.getD i false=true then(if c<base then(if l[i]? = some c then out.set (i+1) true else out) else orI out ((D.getD (c-base).toNat []).getD i []) n n) else out)
def spF(base:Int)(l:List Int)(D:List Mat)(c:Int)(frm:List Bool)(n:Nat):List Bool:=spJ base l D c frm n n 0 (List.replicate n false)
def spP(base:Int)(l:List Int)(D:List Mat)(c:Int)(i j:Nat):Prop:=if c<base then l[i]? = some c/\j=i+1 else atM (D.getD (c-base).toNat []) i j=true
theorem x9b(base:Int)(l:List Int)(D:List Mat)(c:Int)(frm:List Bool)(n:Nat)(hn:n=l.length+1):∀(f i:Nat) (out:List Bool),out.length=n->(spJ base l D c frm n f i out).length=n/\∀j,j<n->((spJ base l D c frm n f i out).getD j false=true↔out.getD j false=true∨∃k,i<=k/\k<i+f/\frm.getD k false=true/\spP base l D c k j)
 |0,i,out,hl=>⟨hl,fun j hj=>⟨.inl,fun h=>by
   rcases h with h|⟨k,h1,h2,_⟩
   ·exact h
   omega⟩⟩
 |f+1,i,out,hl=>by
  unfold spJ;have hl2:(if frm.getD i false=true then(if c<base then(if l[i]? = some c then out.set (i+1) true else out) else orI out ((D.getD (c-base).toNat []).getD i []) n n) else out).length=n:=by
   split
   ·split
    ·split
     ·rw[qBr];exact hl
     exact hl
    exact z2s _ _ _ _
   exact hl
  obtain⟨r1,r2⟩:=x9b base l D c frm n hn f (i+1) _ hl2;refine⟨r1,fun j hj=>?_⟩;rw[r2 j hj];have j0:((if frm.getD i false=true then(if c<base then(if l[i]? = some c then out.set (i+1) true else out) else orI out ((D.getD (c-base).toNat []).getD i []) n n) else out).getD j false=true)↔(out.getD j false=true∨(frm.getD i false=true/\spP base l D c i j)):=by
   unfold spP;by_cases h1:frm.getD i false=true
   ·rw[qAb h1];by_cases h2:c<base
    ·rw[qAb h2,qAb h2];by_cases h3:l[i]? = some c
     ·have j1:=(qS h3).1;rw[qAb h3,z2a _ _ _ _ _ (by omega)];by_cases h4:j=i+1
      ·rw[qAb h4];exact⟨fun _=>.inr ⟨h1,h3,h4⟩,fun _=>rfl⟩
      rw[qAa h4];exact⟨.inl,fun q=>q.elim id (fun q=>absurd q.2.2 h4)⟩
     rw[qAa h3];exact⟨.inl,fun q=>q.elim id (fun q=>absurd q.2.1 h3)⟩
    rw[qAa h2,qAa h2,z9y hj,qAt];unfold atM;exact⟨fun q=>q.imp id (fun q=>⟨h1,q⟩),fun q=>q.imp id (fun q=>q.2)⟩
   rw[qAa h1];exact⟨.inl,fun q=>q.elim id (fun q=>absurd q.1 h1)⟩
  rw[j0];constructor
  ·rintro((h|⟨h1,h2⟩)|⟨k,h1,h2,h3⟩)
   ·exact .inl h
   ·exact .inr ⟨i,by omega,by omega,h1,h2⟩
   exact .inr ⟨k,by omega,by omega,h3⟩
  rintro(h|⟨k,h1,h2,h3⟩)
  ·exact .inl (.inl h)
  by_cases e:k=i
  ·subst e;exact .inl (.inr h3)
  exact .inr ⟨k,by omega,by omega,h3⟩
theorem x9a(base:Int)(l:List Int)(D:List Mat)(c:Int)(frm:List Bool){n:Nat}(hn:n=l.length+1):(spF base l D c frm n).length=n/\∀j,j<n->((spF base l D c frm n).getD j false=true↔∃k,k<n/\frm.getD k false=true/\spP base l D c k j):=by
 obtain⟨r1,r2⟩:=x9b base l D c frm n hn n 0 (List.replicate n false) (by simp);refine⟨r1,fun j hj=>?_⟩;unfold spF;rw[r2 j hj];constructor
 ·rintro(h|⟨k,_,h2,h3⟩)
  ·rw[qD]at h;simp[hj]at h
  exact⟨k,by omega,h3⟩
 rintro⟨k,h1,h2⟩;exact .inr ⟨k,by omega,by omega,h2⟩
def rhF(base:Int)(l:List Int)(D:List Mat)(n:Nat):List Int->List Bool->List Bool
 | [],s=>s
 |c::cs,s=>rhF base l D n cs (spF base l D c s n)
def rhP(base:Int)(l:List Int)(D:List Mat):List Int->Nat->Nat->Prop
 | [],i,j=>i=j
 |c::cs,i,j=>∃m,spP base l D c i m/\rhP base l D cs m j
def Wide(l:List Int)(D:List Mat):Prop:=∀h i j,atM (D.getD h []) i j=true->j<=l.length
theorem x9c{base:Int}{l:List Int}{D:List Mat}(hD:Wide l D){c:Int}{i j:Nat}(h:spP base l D c i j):j<=l.length:=by
 unfold spP at h;split at h
 ·have:=(qS h.1).1;omega
 exact hD _ _ _ h
theorem x86(base:Int)(l:List Int)(D:List Mat)(hD:Wide l D){n:Nat}(hn:n=l.length+1):∀(cs:List Int) (s:List Bool),s.length=n->(rhF base l D n cs s).length=n/\∀j,j<n->((rhF base l D n cs s).getD j false=true↔∃i,i<n/\s.getD i false=true/\rhP base l D cs i j)
 | [],s,hs=>⟨hs,fun j hj=>⟨fun h=>⟨j,hj,h,rfl⟩,fun⟨i,h1,h2,h3⟩=>by cases h3;exact h2⟩⟩
 |c::cs,s,hs=>by
  obtain⟨q1,q2⟩:=x9a base l D c s hn;obtain⟨r1,r2⟩:=x86 base l D hD hn cs (spF base l D c s n) q1;refine⟨r1,fun j hj=>?_⟩;unfold rhF;rw[r2 j hj];constructor
  ·rintro⟨m,h1,h2,h3⟩;obtain⟨k,k1,k2,k3⟩:=(q2 m h1).1 h2;exact⟨k,k1,k2,m,k3,h3⟩
  rintro⟨k,k1,k2,m,k3,h3⟩;have hm:m<n:=by have:=x9c hD k3;omega
  exact⟨m,hm,(q2 m hm).2 ⟨k,k1,k2,k3⟩,h3⟩
def rcF(base:Int)(l:List Int)(D:List Mat)(cs:List Int)(i:Nat):List Bool:=rhF base l D (l.length+1) cs ((List.replicate (l.length+1) false).set i true)
theorem x4t(base:Int)(l:List Int)(D:List Mat)(hD:Wide l D)(cs:List Int){i:Nat}(hi:i<=l.length):(rcF base l D cs i).length=l.length+1/\∀j,j<l.length+1->((rcF base l D cs i).getD j false=true↔rhP base l D cs i j):=by
 obtain⟨r1,r2⟩:=x86 base l D hD rfl cs ((List.replicate (l.length+1) false).set i true) (by simp);refine⟨r1,fun j hj=>?_⟩;unfold rcF;rw[r2 j hj];constructor
 ·rintro⟨k,k1,k2,k3⟩;rw[z2a _ _ _ _ _ (by simp;omega)]at k2;split at k2
  ·rename_i e;subst e;exact k3
  rw[qD]at k2;simp[k1]at k2
 intro h;refine⟨i,by omega,?_,h⟩;rw[z2a _ _ _ _ _ (by simp;omega),qAb rfl]
section
variable {ps:List Pr}{R H:Nat}
theorem x87{base:Int}{l:List Int}{D:List Mat}(hD:Wide l D):∀(cs:List Int) (i j:Nat),i<=l.length->rhP base l D cs i j->j<=l.length
 | [],i,j,hi,h=>by cases h;exact hi
 |c::cs,i,j,hi,⟨m,h1,h2⟩=>x87 hD cs m j (x9c hD h1) h2
theorem y27{l:List Int}{D:List Mat}:∀(ys:List Sy),(∀s∈ys,0<=s.num/\s.num<(if s.isH then(H:Int) else R))->∀i j,rhP (bs R) l D (ys.map (Q0w R)) i j↔RR l (fun h i j=>atM (D.getD h.toNat []) i j=true) ys i j
 | [],_,i,j=>Iff.rfl
 |y::ys,hv,i,j=>by
  have ih:=y27 (l:=l) (D:=D) ys (fun s hs=>hv s (by simp[hs]));have hy:=hv y (by simp);have j0:∀m,spP (bs R) l D (Q0w R y) i m↔Q9j l (fun h i j=>atM (D.getD h.toNat []) i j=true) y i m:=fun m=>by
   unfold spP Q9j Q0w bs;obtain⟨a,b⟩:=y;cases a
   ·simp only[qF,qAz]at hy ⊢;rw[qAb (by omega)]
   simp only[qBn]at hy ⊢;rw[qAa (by omega),show(R:Int)+1+b-((R:Int)+1)=b by omega]
  rw[qDl];constructor
  ·rintro⟨m,h1,h2⟩;exact⟨m,(j0 m).1 h1,(ih m j).1 h2⟩
  rintro⟨m,h1,h2⟩;exact⟨m,(j0 m).2 h1,(ih m j).2 h2⟩
def Q5c(ps:List Pr)(l:List Int)(D:List Mat):Prop:=∀(h i j:Nat),atM (D.getD h []) i j=true->Ds ps l [⟨true,(h:Int)⟩] i j
def Q91(R:Nat)(ps:List Pr)(l:List Int)(D:List Mat):Prop:=∀q∈ps,∀i j,i<=l.length->rhP (bs R) l D (q.syms.map (Q0w R)) i j->atM (D.getD q.head.toNat []) i j=true
theorem Q5c.wide{l:List Int}{D:List Mat}(h:Q5c ps l D):Wide l D:=fun k i j e=>(h k i j e).2.1
theorem y9k{l:List Int}{D:List Mat}(hT:Q1d ps R H)(hD:Q5c ps l D){ys:List Sy}(hv:Q3d R H ys){i j:Nat}(hi:i<=l.length)(h:rhP (bs R) l D (ys.map (Q0w R)) i j):Ds ps l ys i j:=by
 have h2:=(y27 (R:=R) (H:=H) ys hv i j).1 h;have j0:∀(ys:List Sy) (i j:Nat),Q3d R H ys->i<=l.length->RR l (fun h i j=>atM (D.getD h.toNat []) i j=true) ys i j->RR l (fun h i j=>0<=h/\atM (D.getD h.toNat []) i j=true) ys i j:=by
  intro ys;induction ys with
  |nil=>intro i j _ _ q;exact q
  |cons y ys ih =>
   intro i j hv hi ⟨m,q1,q2⟩;have hy:=hv y (by simp);have hm:Q9j l (fun h i j=>0<=h/\atM (D.getD h.toNat []) i j=true) y i m/\m<=l.length:=by
    unfold Q9j at q1 ⊢;split at q1
    ·rename_i e;rw[qAb e];exact⟨⟨hy.1,q1⟩,hD.wide _ _ _ q1⟩
    rename_i e;rw[qAa e];have:=(qS q1.1).1;exact⟨q1,by omega⟩
   exact⟨m,hm.1,ih m j (fun s hs=>hv s (by simp[hs])) hm.2 q2⟩
 refine y9f (D:=fun h i j=>0<=h/\atM (D.getD h.toNat []) i j=true) (fun h i j ⟨q1,q2⟩=>?_) ys i j hi (j0 ys i j hv hi h2);have:=hD h.toNat i j q2;rw[show((h.toNat:Nat):Int)=h by omega]at this;exact this
theorem v3a{l:List Int}{D:List Mat}(hT:Q1d ps R H)(hD:Q5c ps l D)(hc:Q91 R ps l D):RcIs ps l R H (fun ys i j=>(rcF (bs R) l D (ys.map (Q0w R)) i).getD j false):=by
 intro ys i j hv hi;obtain⟨r1,r2⟩:=x4t (bs R) l D hD.wide (ys.map (Q0w R)) hi;constructor
 ·intro e;have hj:j<l.length+1:=by
   rcases qCk j (l.length+1)with q|q
   ·exact q
   dsimp only at e;rw[qD,qN (by omega)]at e;cases e
  exact y9k hT hD hv hi ((r2 j hj).1 e)
 rintro⟨h1,h2,B,b1,b2⟩;refine(r2 j (by omega)).2 ((y27 (R:=R) (H:=H) ys hv i j).2 ?_);refine v1g (ps:=ps) (fun q hq i j hi hr=>?_) B.length B ys i j (qR _) b1 h1 h2 b2;exact hc q hq i j hi ((y27 (R:=R) (H:=H) q.syms (hT.sy q hq) i j).2 hr)
end
end Go.Proofs.YtbdpfmalabgmbaaGreat
