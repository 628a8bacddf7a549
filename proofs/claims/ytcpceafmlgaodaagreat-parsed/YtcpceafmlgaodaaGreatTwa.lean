import Derived.Test.YtcpceafmlgaodaaGreatTw7
namespace Go.Proofs.YtcpceafmlgaodaaGreat
open Go.RowKit
set_option maxRecDepth 99999
set_option maxHeartbeats 0
set_option linter.all false
theorem y4d{l:List Bool}(h:l.length=9)(t:Nat):(Q28 l).any (·==(t:Int))=l.getD t false:=x3a h t
theorem z1z(vn vw:Value)(a:Int)(h1:vn.oneCell'=true)(h2:vw.oneCell'=true):(#[vn,vw,Value.int .i64 a]:Array Value).all (·.oneCell')=true :=
 all_oneCell_toArray (cs:=[vn,vw,.int .i64 a]) (by intro v hv;simp only[qBc,qCt,or_false]at hv;rcases hv with rfl|rfl|rfl;exact h1;exact h2;rfl)
def GrS(ps:List Pr)(hs:List Hd)(R H:Nat)(kinds:List Int)(G:Q95)(a:Nat)(k:List Sy)(st:List St):Prop :=
 if a<=kinds.length then Q6a ps hs R H (kinds.drop a) a k st=G else G=⟨0,[],0,st⟩
theorem GrS.kind{ps:List Pr}{hs:List Hd}{R H:Nat}{kinds:List Int}{G:Q95}{a:Nat}{k:List Sy}{st:List St}(h:GrS ps hs R H kinds G a k st)(ha:a<kinds.length)(t:Nat)(ht:kinds[a]=t) :
  if(Q5y hs R k).getD t false then GrS ps hs R H kinds G (a+1) (Q7h ps hs H t k st).1 (Q7h ps hs H t k st).2 else G=⟨10,Q28 (Q5y hs R k),a,[]⟩:=by
 unfold GrS at h ⊢;rw[qAb (by omega),qC ha,ht]at h;unfold Q6a at h;rw[qAl]at h;rw[qAb (show a+1<=kinds.length by omega)];split
 ·rename_i e;rw[qAb e]at h;exact h
 rename_i e;rw[qAa e]at h;exact h.symm
theorem GrS.last{ps:List Pr}{hs:List Hd}{R H:Nat}{kinds:List Int}{G:Q95}{a:Nat}{k:List Sy}{st:List St}(h:GrS ps hs R H kinds G a k st)(ha:a=kinds.length) :
  if(Q5y hs R k).getD R false then GrS ps hs R H kinds G (a+1) (Q7h ps hs H R k st).1 (Q7h ps hs H R k st).2 else G=⟨10,Q28 (Q5y hs R k),a,[]⟩:=by
 unfold GrS at h ⊢;rw[qAb (by omega),ha,qBw]at h;unfold Q6a at h;rw[qAa (show ¬(a+1<=kinds.length) by omega)];split
 ·rename_i e;rw[qAb e]at h;exact h.symm
 rename_i e;rw[qAa e]at h;rw[ha];exact h.symm
theorem Q9q{a kl sl rl pl:Nat}(ha:a<=60)(h1:kl<=1+48*a)(h2:sl<=a*2000000000)(h3:rl<=sl+(kl*335923+16124313))(h4:pl<=kl+48)(h5:sl<=rl) :
  rl<=1000000000000/\kl+6*rl<=100000000000+6*sl/\rl<=(a+1)*2000000000/\pl<=1+48*(a+1):=by omega
abbrev Q3n(vn vw:Value)(a:Int):Array Value:=#[vn,vw,.int .i64 a]
theorem Q2i:(Tryz.prog.info? 25).map (·.size)=some 3:=by kernel_rfl
theorem x57(w:World)(R H:Nat)(vp vk:Value)(ps:List PV)(kinds:List Int)(hs:List Hd)(hp:Q3c w w.heap.size vp ps)(hk:Q0z w vk kinds)(hkl:kinds.length<=60)(hkk:Q0w R kinds=true)
  (hT:Tab (Q0j ps) R H hs) (hse:hs=Q3w (Q0j ps) (Q0v R H)) :
  Calls Tryz.prog 14 #[.agg #[.int .i64 R,.int .i64 H,vp],vk] w fun e w'=>∃vn vw,e=.returned (.tuple #[.agg (Q3n vn vw (Q6a (Q0j ps) hs R H kinds 0 [⟨true,0⟩] []).place),.int .i64 (Q6a (Q0j ps) hs R H kinds 0 [⟨true,0⟩] []).err])/\Q0a w w' /\
   Q3l w' w.heap.size vn (Q17 (Q0j ps) (Q6a (Q0j ps) hs R H kinds 0 [⟨true,0⟩] []).st)/\IntOwn w' w.heap.size vw (Q6a (Q0j ps) hs R H kinds 0 [⟨true,0⟩] []).wanted:=by
 have kn:ps.length<=20:=by have:=hT.hl;simpa [Q0j]using this
 have hR:=hT.hR;have hH:=hT.hH;obtain⟨pa,pc,hvp⟩:=z0d hp.row.own;subst hvp;obtain⟨ka,kc,rfl,hkc,hkcell⟩:=hk;have kd:=hid hkcell;have HP:=hid hp;have HT:=hid hT;have ke:=hid hkk;have NG:Hid (∀W:World,Q0a w W->Calls Tryz.prog 22 #[.agg #[.int .i64 R,.int .i64 H,.slice pa ps.length pc]] W fun e w'=>∃gb fb vh,e=.returned (Q25 gb)/\Q0a W w' /\
   w'.heap[gb]? = some (.cells (gdA (Q25 fb) (Q53 ((Q0j ps).zip (Q0p hs (Q0j ps))) 72)) 128 (0,0))/\FA w' fb R H (.slice pa ps.length pc) vh ps hs):=fun W hW=>by
  have h:=y4l W R H (.slice pa ps.length pc) ps ((HP.kept (qR _) hW (fun _ _ x=>x)).up hW.size) (by omega) (by omega) (by omega) (by rw[← hse];exact HT.ok);rw[← hse]at h;exact h
 generalize hG:Q6a (Q0j ps) hs R H kinds 0 [⟨true,0⟩] []=G;have HG:=hid hG;clear hp hkcell hT hkk hse hG;go_enter Tryz.func14,Tryz.ntmps14
 go_wp2_with (first
  |(go_at_call 22;refine(NG.out _ (((mRf _ w).alloc _).alloc _)).mono ?_;rintro e w1⟨gb,fb,vh,rfl,hf1,hgd,hFA⟩;have ja:=hf1.at (z0b (z0a w _)) (fun x=>x);have t0:=Q0b ja 0;have t1:=Q0b ja 1;have t2:=Q0b ja 2;simp at t0 t1 t2;have kp:=z0j ja;have ki:=hid ja;clear ja))
 have k7:gb<w1.heap.size:=z0j hgd;have jd:=hf1.at (z0a (w.alloc _) _) (fun x=>x);have jd:w1.heap[w.heap.size+1]? = some (.cells (Q3n (.slice none 0 0) (.slice none 0 0) 0) 25 (0,0)):=by simpa using jd
 have kk:=z0j jd;have kh:=hid jd;have jn:=hid hgd;have k9:=hid hFA;have jy:Hid (Q0a w w1):=Mod.trans (((mRf _ w).alloc _).alloc _) hf1;have j7:Hid (GA (((w1.alloc (.cells #[.bool true,.int .i64 0] 69 (0,0))).alloc (.cells #[.bool true,.int .i64 0] 69 (0,0))).alloc (.cells #[.int .i64 R,.int .i64 H,.slice pa ps.length pc,Q25 gb,.slice (some ⟨w1.heap.size+1,0,none⟩) 1 1,.slice none 0 0] 74 (0,0))) (w1.heap.size+1+1) w1.heap.size R H (.slice pa ps.length pc) (Q25 gb) (.slice (some ⟨w1.heap.size+1,0,none⟩) 1 1) (.slice none 0 0) [⟨true,0⟩] []):=by
  refine⟨by omega,?_,?_,World.ownsRow_nil _ _ _ _,by simp[Value.ownBlock],by simp[Value.ownBlock],by simp[Value.ownBlock]⟩
  ·exact z00 _ _ _ _
  refine⟨rfl,.inr ⟨w1.heap.size+1,1,#[.bool true,.int .i64 0],rfl,by omega,?_,by simp,by unfold maxLen;omega,rfl,rfl⟩⟩;exact z06 _ _ _ _
 have k0:Hid (UpB w1.heap.size w1 (((w1.alloc (.cells #[.bool true,.int .i64 0] 69 (0,0))).alloc (.cells #[.bool true,.int .i64 0] 69 (0,0))).alloc (.cells #[.int .i64 R,.int .i64 H,.slice pa ps.length pc,Q25 gb,.slice (some ⟨w1.heap.size+1,0,none⟩) 1 1,.slice none 0 0] 74 (0,0)))):=(((mRf _ w1).alloc _).alloc _).alloc _;generalize(((w1.alloc (.cells #[.bool true,.int .i64 0] 69 (0,0))).alloc (.cells #[.bool true,.int .i64 0] 69 (0,0))).alloc (.cells #[.int .i64 R,.int .i64 H,.slice pa ps.length pc,Q25 gb,.slice (some ⟨w1.heap.size+1,0,none⟩) 1 1,.slice none 0 0] 74 (0,0)))=W3 at j7 k0 ⊢;obtain⟨b,hbE⟩:∃b,w1.heap.size+1+1=b:=⟨_,rfl⟩;rw[hbE]at j7 ⊢;clear jd hgd hFA hf1 t0 t1 t2 hbE NG;go_loopw [9,10,11] (fun x9 _ _ wr=>∃(a:Nat) (k:List Sy) (st:List St) (vk' vs':Value),x9=.int .i64 a/\a<=kinds.length+1/\GrS (Q0j ps) hs R H kinds G a k st/\GA wr b w1.heap.size R H (.slice pa ps.length pc) (Q25 gb) vk' vs' k st/\UpB w1.heap.size w1 wr /\
    Q4t (hN hs) (hF hs) (hO hs) R k/\Q27 R H k/\(∀s∈st,0<=s.num/\s.num<=127)/\k.length<=1+48*a/\st.length<=a*2000000000)
   (fun x _ _ _=>63-(intOf x).toNat)
 case atStart=>exact⟨0,[⟨true,0⟩],[],_,_,rfl,by omega,by unfold GrS;rw[qAb (by omega)];exact HG.out,j7.out,k0.out,HT.start.1,HT.start.2,by simp,by simp,by simp⟩
 obtain⟨a,k,st,vk',vs',rfl,ha,hgs,hGA,hU,hso,hsi,hnm,hkl1,hsl1⟩:=hrel;have ji:=hgs;have j6:=hid hGA;have k1:=hid hU;have jz:=hid hso;have jj:=hid hsi;have jp:=hid hnm;have j2:Hid (Q0a w wr):=Mod.trans' jy.out hU (fun i h1 h2=>by omega);have jx:w1.heap.size<=wr.heap.size:=hU.size;have jf:=hU.at ki.out (by omega);have t0:=Q0b jf 0;have t1:=Q0b jf 1;have t2:=Q0b jf 2;simp at t0 t1 t2;have js:=hid (hU.at kh.out (by omega));have km:=hid jf;have jm:=hid (hU.at jn.out (by omega));have jk:=hid (k9.kept hU (fun k hk=>hk));have jr:Hid (Q3c wr w1.heap.size (.slice pa ps.length pc) ps):=(HP.kept (qR _) j2.out (fun _ _ x=>x)).up jy.size;have k4:=hGA.cell 4;simp at k4;clear hGA hU hso hsi hnm jf;by_cases han:a<=kinds.length
 ·have ju:(a:Int)<=(kinds.length:Int):=by omega
  have j9:=hid (x0v wr gb fb (Q53 ((Q0j ps).zip (Q0p hs (Q0j ps))) 72) R H (.slice pa ps.length pc) vh ps hs k vk' w1.heap.size jm.out jk.out j6.ks (by omega) hR);by_cases hlt:a<kinds.length
  ·have jv:(a:Int)<(kinds.length:Int):=by omega
   have k8:=(qAn.1 ke.out) kinds[a] (by simp);simp only[qAc,qAm]at k8;obtain⟨t,ht⟩:∃t:Nat,kinds[a]=t:=⟨kinds[a].toNat,by omega⟩;have kl:t<=R:=by omega
   have j8:Hid ((Q5y hs R k).getD t false=true->_):=fun h=>HT.step kl jz.out jj.out jp.out h;obtain⟨kg,ko,rfl,hkv⟩:=kd.out a hlt;have ck:=Q0i j2.out hkv;rw[ht]at ck;clear k8 hkv;have j0:=ji.kind hlt t ht;have jc:=hid (y86 HT.ok R k);have LH:=hid (y4d jc.out t);generalize hWT:Q5y hs R k=WT at j0 jc LH j9 j8;have jg:(Q28 WT).length<=1000:=by have:=z38 WT;omega
   generalize hbit:WT.getD t false=bit at j0 LH j8;clear hWT hbit;cases bit
   ·simp only[qF,qAp]at j0;have j3:=hid j0;clear j0;go_wp2_with (first
     |(refine wpList_store_row rfl 25 _ _ rfl (w.heap.size+1) (Q3n (.slice none 0 0) (.slice wa (Q28 WT).length wc) a) rfl rfl _ _ je.out Q2i rfl (z1z _ _ _ rfl rfl) ?_)
     |(go_at_call 24;refine(z74 w2 _ (Q28 WT) t (IntOwn.at' j4.out) jg).mono ?_;rw[LH.out];rintro e w'⟨rfl,hw⟩;rw[hw];clear hw)
     |(go_at_call 23;refine j9.mono ?_;rintro e w2⟨v2,rfl,hf2,ho2⟩;obtain⟨wa,wc,hv2⟩:=z0d ho2;subst hv2;have j4:=hid ho2;have j1:=hid hf2;have je:=hid (hf2.at js.out (fun x=>x));clear ho2 hf2))
    refine bodyPost_ret (z0m rfl _ _ (w.heap.size+1) 25 (Q3n (.slice none 0 0) (.slice wa (Q28 WT).length wc) a) (0,0) _ rfl (setRow_heap _ _ _ _ _ _ je.out) Tryz.underlying25 rfl Q2i) rfl ?_;have FF:Q0a w (w2.setRow (w.heap.size+1) (Q3n (.slice none 0 0) (.slice wa (Q28 WT).length wc) a)):=(j2.trans j1.out).setRow (fun h=>by omega) _;refine⟨.slice none 0 0,.slice wa (Q28 WT).length wc,by rw[j3.out];rfl,FF,?_,?_⟩
    ·rw[j3.out];exact World.ownsRow_nil _ _ _ _
    rw[j3.out];refine z0f (z0c j4.out (fun g hg=>?_)) j2.size;have:=(j4.lt g hg).1;have h2:=j2.size;exact setRow_other _ _ _ _ (by omega)
   simp only[qBb]at j0;have jb:=hid j0;have jw:=j8.out rfl;obtain⟨s1,s2,s3,s4,s5,s6,s7⟩:=jw;have S4:=hid s4;have S5:=hid s5;have S6:=hid s6;have S1:=hid s1;generalize Q7h (Q0j ps) hs H t k st=rr at jb s2 s3 S4 S5 S6 S1 s7;clear j0 s1 s4 s5 s6;obtain⟨q1,q2,q3,q4⟩:=Q9q (show a<=60 by omega) hkl1 hsl1 s3 s2 s7;have GT:Hid (∀w2:World,Q0a wr w2->Calls Tryz.prog 25 #[Q25 b,.int .i64 (t:Nat)] w2 fun e w'=>e=.returned (.tuple #[])/\∃vk'' vs'',GA w' b w1.heap.size R H (.slice pa ps.length pc) (Q25 gb) vk'' vs'' rr.1 rr.2/\UpB w1.heap.size w2 w'):=fun w2 hf2 =>
    y0u w2 b w1.heap.size gb (Q25 fb) (Q53 ((Q0j ps).zip (Q0p hs (Q0j ps))) 72) R H _ vk' vs' k st ps t (Q2u H k.length) rr (j6.fresh hf2) ⟨k7,hf2.at jm.out (fun x=>x),z8c _ (qR _)⟩ (jr.kept jx hf2 (fun _ _ x=>x)) (by omega) (fun p hp=>HT.syms p.pr (qBp.2 ⟨p,hp,rfl⟩)) jj.out hR hH (by omega) (by have:=hf2.size;omega) S1.out q1 q2
   clear q1 q2;have jo:Hid (63-(a+1)<63-a):=by unfold Hid;omega
   go_wp2_with (first
    |(go_at_call 25;have jh:=j1.out;refine(GT.out w2 j1.out).mono ?_;rintro e w3⟨rfl,vk3,vs3,hG3,hU3⟩;have jl:=hid hG3;have jt:=hid hU3;clear hG3 hU3)
    |(go_at_call 24;refine(z74 w2 _ (Q28 WT) t (IntOwn.at' j4.out) jg).mono ?_;rw[LH.out];rintro e w'⟨rfl,hw⟩;rw[hw];clear hw)
    |(go_at_call 23;refine j9.mono ?_;rintro e w2⟨v2,rfl,hf2,ho2⟩;obtain⟨wa,wc,hv2⟩:=z0d ho2;subst hv2;have j4:=hid ho2;have j1:=hid hf2;clear ho2 hf2))
   go_roundw
   case rel =>
    exact⟨a+1,rr.1,rr.2,vk3,vs3,by go_num,by omega,jb.out,jl.out,Mod.trans k1.out (Mod.trans (j1.mono (fun _ _ x=>x.elim)) jt.out),S4.out,S5.out,S6.out,q4,q3⟩
   simpa [intOf]using jo.out
  have k6:a=kinds.length:=by omega
  have jv:¬(a:Int)<(kinds.length:Int):=by omega
  have kj:¬(a<kinds.length):=by omega
  have j8:Hid ((Q5y hs R k).getD R false=true->_):=fun h=>HT.step (qR _) jz.out jj.out jp.out h;have j0:=ji.last k6;clear k6;have jc:=hid (y86 HT.ok R k);have LH:=hid (y4d jc.out R);generalize hWT:Q5y hs R k=WT at j0 jc LH j9 j8;have jg:(Q28 WT).length<=1000:=by have:=z38 WT;omega
  generalize hbit:WT.getD R false=bit at j0 LH j8;clear hWT hbit;cases bit
  ·simp only[qF,qAp]at j0;have j3:=hid j0;clear j0;go_wp2_with (first
    |(refine wpList_store_row rfl 25 _ _ rfl (w.heap.size+1) (Q3n (.slice none 0 0) (.slice wa (Q28 WT).length wc) a) rfl rfl _ _ je.out Q2i rfl (z1z _ _ _ rfl rfl) ?_)
    |(go_at_call 24;refine(z74 w2 _ (Q28 WT) R (IntOwn.at' j4.out) jg).mono ?_;rw[LH.out];rintro e w'⟨rfl,hw⟩;rw[hw];clear hw)
    |(go_at_call 23;refine j9.mono ?_;rintro e w2⟨v2,rfl,hf2,ho2⟩;obtain⟨wa,wc,hv2⟩:=z0d ho2;subst hv2;have j4:=hid ho2;have j1:=hid hf2;have je:=hid (hf2.at js.out (fun x=>x));clear ho2 hf2))
   refine bodyPost_ret (z0m rfl _ _ (w.heap.size+1) 25 (Q3n (.slice none 0 0) (.slice wa (Q28 WT).length wc) a) (0,0) _ rfl (setRow_heap _ _ _ _ _ _ je.out) Tryz.underlying25 rfl Q2i) rfl ?_;have FF:Q0a w (w2.setRow (w.heap.size+1) (Q3n (.slice none 0 0) (.slice wa (Q28 WT).length wc) a)):=(j2.trans j1.out).setRow (fun h=>by omega) _;refine⟨.slice none 0 0,.slice wa (Q28 WT).length wc,by rw[j3.out];rfl,FF,?_,?_⟩
   ·rw[j3.out];exact World.ownsRow_nil _ _ _ _
   rw[j3.out];refine z0f (z0c j4.out (fun g hg=>?_)) j2.size;have:=(j4.lt g hg).1;have h2:=j2.size;exact setRow_other _ _ _ _ (by omega)
  simp only[qBb]at j0;have jb:=hid j0;have jw:=j8.out rfl;obtain⟨s1,s2,s3,s4,s5,s6,s7⟩:=jw;have S4:=hid s4;have S5:=hid s5;have S6:=hid s6;have S1:=hid s1;generalize Q7h (Q0j ps) hs H R k st=rr at jb s2 s3 S4 S5 S6 S1 s7;clear j0 s1 s4 s5 s6;obtain⟨q1,q2,q3,q4⟩:=Q9q (show a<=60 by omega) hkl1 hsl1 s3 s2 s7;have GT:Hid (∀w2:World,Q0a wr w2->Calls Tryz.prog 25 #[Q25 b,.int .i64 (R:Nat)] w2 fun e w'=>e=.returned (.tuple #[])/\∃vk'' vs'',GA w' b w1.heap.size R H (.slice pa ps.length pc) (Q25 gb) vk'' vs'' rr.1 rr.2/\UpB w1.heap.size w2 w'):=fun w2 hf2 =>
   y0u w2 b w1.heap.size gb (Q25 fb) (Q53 ((Q0j ps).zip (Q0p hs (Q0j ps))) 72) R H _ vk' vs' k st ps R (Q2u H k.length) rr (j6.fresh hf2) ⟨k7,hf2.at jm.out (fun x=>x),z8c _ (qR _)⟩ (jr.kept jx hf2 (fun _ _ x=>x)) (by omega) (fun p hp=>HT.syms p.pr (qBp.2 ⟨p,hp,rfl⟩)) jj.out hR hH (by omega) (by have:=hf2.size;omega) S1.out q1 q2
  clear q1 q2;have jo:Hid (63-(a+1)<63-a):=by unfold Hid;omega
  go_wp2_with (first
   |(go_at_call 25;have jh:=j1.out;refine(GT.out w2 j1.out).mono ?_;rintro e w3⟨rfl,vk3,vs3,hG3,hU3⟩;have jl:=hid hG3;have jt:=hid hU3;clear hG3 hU3)
   |(go_at_call 24;refine(z74 w2 _ (Q28 WT) R (IntOwn.at' j4.out) jg).mono ?_;rw[LH.out];rintro e w'⟨rfl,hw⟩;rw[hw];clear hw)
   |(go_at_call 23;refine j9.mono ?_;rintro e w2⟨v2,rfl,hf2,ho2⟩;obtain⟨wa,wc,hv2⟩:=z0d ho2;subst hv2;have j4:=hid ho2;have j1:=hid hf2;clear ho2 hf2))
  go_roundw
  case rel =>
   exact⟨a+1,rr.1,rr.2,vk3,vs3,by go_num,by omega,jb.out,jl.out,Mod.trans k1.out (Mod.trans (j1.mono (fun _ _ x=>x.elim)) jt.out),S4.out,S5.out,S6.out,q4,q3⟩
  simpa [intOf]using jo.out
 have k2:G=⟨0,[],0,st⟩:=by
  have h:=ji;unfold GrS at h;rw[qAa han]at h;exact h
 have j3:=hid k2;have ju:¬(a:Int)<=(kinds.length:Int):=by omega
 have j5:st.length<=1000000000000:=by
  have h1:a<=61:=by omega
  have h2:a*2000000000<=61*2000000000:=qBv _ h1;exact qCd hsl1 (qCd h2 (by decide))
 obtain⟨sa,sc,hvs⟩:=z0d j6.ss;have k5:=j6.cell 5;simp at k5;subst hvs;have kq:=j6.lt;have WD:Hid (∀W:World,Q0a wr W->Calls Tryz.prog 26 #[.agg #[.int .i64 R,.int .i64 H,.slice pa ps.length pc],.slice sa st.length sc] W fun e w'=>∃v,e=.returned v/\Q0a W w'/\Q3l w' W.heap.size v (Q17 (Q0j ps) st)):=fun W hW =>
  y26 W R H (.slice pa ps.length pc) (.slice sa st.length sc) ps st ((jr.kept jx hW (fun _ _ x=>x)).up (by have:=hW.size;omega)) ⟨z0f ((j6.fresh hW).ss) (qBg _),fun _ _=>rfl⟩ jp.out j5 (by omega) (fun p hp=>by have:=(HT.syms p.pr (qBp.2 ⟨p,hp,rfl⟩)).1;omega)
 clear k2 ji hkl1 hsl1 j5 k4;go_upto_region 14 with fail
 go_cut [12] (fun s12 wx=>Q0a wr wx/\Q3l wx wr.heap.size s12 (Q17 (Q0j ps) st))
 case first =>
  go_region_with (first
   |(go_at_call 26;refine(WD.out _ (by first|exact(mRf _ wr).drew|exact mRf _ wr)).mono ?_;rintro e w3⟨v,rfl,hf3,ho3⟩))
  all_goals
   go_wp2_with fail
   go_meet;exact⟨Mod.trans ((mRf _ wr).drew) hf3,ho3⟩
 obtain⟨hfx,hox⟩:=hcut;obtain⟨na,nc,hvn⟩:=z0d hox;subst hvn;have jq:=hid hox;have kb:=hid hfx;have k3:=hid (hfx.at js.out (fun x=>x));generalize hNF:Q17 (Q0j ps) st=NF at jq;have kf:=hid hNF;clear hfx hox hNF;go_wp2_with (first
  |(refine wpList_store_row rfl 25 _ _ rfl (w.heap.size+1) (Q3n (.slice na NF.length nc) (.slice none 0 0) 0) rfl rfl _ _ k3.out Q2i rfl (z1z _ _ _ rfl rfl) ?_))
 refine bodyPost_ret (z0m rfl _ _ (w.heap.size+1) 25 (Q3n (.slice na NF.length nc) (.slice none 0 0) 0) (0,0) _ rfl (setRow_heap _ _ _ _ _ _ k3.out) Tryz.underlying25 rfl Q2i) rfl ?_;refine⟨.slice na NF.length nc,.slice none 0 0,by rw[j3.out];rfl,(j2.trans kb.out).setRow (fun h=>by omega) _,?_,?_⟩
 ·rw[j3.out];show Q3l _ _ _ (Q17 (Q0j ps) st);rw[kf.out];refine z0f (z0c jq.out (fun g hg=>?_)) j2.size;have:=(jq.lt g hg).1;have h2:=j2.size;exact setRow_other _ _ _ _ (by omega)
 rw[j3.out];exact World.ownsRow_nil _ _ _ _
theorem x44{s:ByteArray}(hc:(Q0t s).1=0)(hcl:Q26 s=[]):Tab (Q0q (Q0c s).1) (Q0f (Q0c s).1).length (Q0h (Q0c s).1).length (Q7p s):=by
 have j0:=z31 hc;obtain⟨h1,h2,h3,h4,h5⟩:=z19 j0;have hI:=Q6r j0;have j2:=Q7j j0;have hT:=tabOk h3 hI.places j2.mem;have hR:=y2q (fun y hy=>(hI.places y hy).1) h5;obtain⟨c1,c2,c3⟩:=y3n (fun y hy=>(hI.places y hy).1) h5;have hS:=z8e hT hR;have j1:0<(Q0h (Q0c s).1).length:=by
  unfold Q33 at h4;rw[qAq]at h4;obtain⟨y,hy,hq⟩:=h4;have:=j2.mem y (qCx.2 ⟨hy,hq⟩);omega
 exact⟨llg hT hR j1 c3 hcl,hS.ok,hR,c1,j1,c2⟩
theorem v0q{s:ByteArray}(hc:(Q0t s).1=0):∀x∈Q7p s,x.ok:=by
 have j0:=z31 hc;obtain⟨h1,h2,h3,h4,h5⟩:=z19 j0;have hI:=Q6r j0;have j1:=Q7j j0;exact(z8e (tabOk h3 hI.places j1.mem) (y2q (fun y hy=>(hI.places y hy).1) h5)).ok
theorem y0h(w:World)(R H:Nat)(vp:Value)(ps:List PV)(hp:Q3c w w.heap.size vp ps)(hps:ps.length<=1000)(hH:H<=1000)(hR:R<=1000)(hok:∀x∈Q3w (Q0j ps) (Q0v R H),x.ok) :
  Calls Tryz.prog 13 #[.agg #[.int .i64 R,.int .i64 H,vp]] w fun e w'=>e=.returned (.bool (decide (0<(Q55 ((Q0j ps).zip (Q0p (Q3w (Q0j ps) (Q0v R H)) (Q0j ps))) R H).length)))/\Q0a w w':=by
 obtain⟨pa,pc,hvp⟩:=z0d hp.row.own;subst hvp;have CA:=hid (y5z (w.alloc (.cells #[.int .i64 R,.int .i64 H,.slice pa ps.length pc] 41 (0,0))) R H (.slice pa ps.length pc) ps ((hp.kept (qR _) ((mRf (fun _=>False) w).alloc _) (fun _ _ x=>x)).up (by simp)) hps hH hR hok);generalize Q55 ((Q0j ps).zip (Q0p (Q3w (Q0j ps) (Q0v R H)) (Q0j ps))) R H=CL at CA;clear hp hok;go_enter Tryz.func13,Tryz.ntmps13
 go_wp2_with (first
  |(go_at_call 21;refine CA.mono ?_;rintro e w1⟨v,rfl,hf1,ho⟩;obtain⟨ca,cc,hv⟩:=z0d ho;subst hv;clear ho))
 go_ret;refine⟨?_,Mod.trans ((mRf _ w).alloc _) hf1⟩;show Ending.returned (Value.bool _)=_;congr 2
def nR(s:ByteArray):Nat:=(Q0f (Q0c s).1).length
def nH(s:ByteArray):Nat:=(Q0h (Q0c s).1).length
def tabF(s:ByteArray):List Pr:=Q0q (Q0c s).1
def Q70(s:ByteArray)(kinds:List Int):Q95:=Q6a (tabF s) (Q7p s) (nR s) (nH s) kinds 0 [⟨true,0⟩] []
def Q65(e:Int):Q95:=⟨e,[],0,[]⟩
def Q2f(s:ByteArray)(kinds:List Int):Q95 :=
 if 60<kinds.length then Q65 1
 else if(Q0t s).1≠0 then Q65 (Q0t s).1
 else if Q0w (nR s) kinds=false then Q65 7
 else if Q26 s≠[] then Q65 8
 else Q70 s kinds
def Q2c(s:ByteArray)(G:Q95)(w:World)(e:Ending)(w':World):Prop :=
 ∃vn vw,e=.returned (.tuple #[.agg (Q3n vn vw G.place),.int .i64 G.err])/\Q0a w w'/\Q3l w' w.heap.size vn (Q17 (tabF s) G.st)/\IntOwn w' w.heap.size vw G.wanted
theorem Q2c.bad{s:ByteArray}{e:Int}{w w':World}(hf:Q0a w w'):Q2c s (Q65 e) w (.returned (.tuple #[.agg (Q3n (.slice none 0 0) (.slice none 0 0) 0),.int .i64 e])) w' :=
 ⟨_,_,rfl,hf,World.ownsRow_nil _ _ _ _,World.ownsRow_nil _ _ _ _⟩
theorem x0a(s:ByteArray)(kinds:List Int)(vk:Value)(w:World)(hk:Q0z w vk kinds)(hl:60<kinds.length)(hm:kinds.length<=maxLen) :
  Calls Tryz.prog 4 #[.string s,vk] w fun e w'=>Q2c s (Q65 1) w e w':=by
 obtain⟨ka,kc,rfl,hkc,_⟩:=hk;unfold maxLen at hm;have j0:(60:Int)<(kinds.length:Int):=by omega
 go_enter Tryz.func4,Tryz.ntmps4
 go_wp2;exact bodyPost_ret (z0m rfl _ _ w.heap.size 25 (Q3n (.slice none 0 0) (.slice none 0 0) 0) (0,0) _ rfl (z0a _ _) Tryz.underlying25 rfl Q2i) rfl (Q2c.bad ((mRf _ w).alloc _))
theorem x31(s:ByteArray)(kinds:List Int)(vk:Value)(w:World)(hs:s.size<=maxLen)(hk:Q0z w vk kinds)(hl:kinds.length<=60)(hc:(Q0t s).1≠0) :
  Calls Tryz.prog 4 #[.string s,vk] w fun e w'=>Q2c s (Q65 (Q0t s).1) w e w':=by
 obtain⟨ka,kc,rfl,hkc,_⟩:=hk;have TB:=hid (fun w=>x47 s w hs hc);have c0:((Q0t s).1 != 0)=true:=by simpa using hc
 have j2:¬(60:Int)<(kinds.length:Int):=by omega
 generalize(Q0t s).1=E at TB c0;clear hc;go_enter Tryz.func4,Tryz.ntmps4
 go_wp2_with (first
  |(refine wpList_store_row rfl 25 _ _ rfl w.heap.size (Q3n (.slice none 0 0) (.slice none 0 0) 0) rfl rfl _ _ j0.out Q2i rfl (z1z _ _ _ rfl rfl) ?_)
  |(go_at_call 11;refine(TB.out _).mono ?_;rintro e w1⟨rfl,hf1⟩;have j1:=hid hf1;have j0:Hid ((w1.alloc (.cells #[.int .i64 0,.int .i64 0,.slice none 0 0] 41 (0,0))).heap[w.heap.size]? = some (.cells (Q3n (.slice none 0 0) (.slice none 0 0) 0) 25 (0,0))):=z0b (hf1.at (z0a w _) (fun x=>x));clear hf1))
 refine bodyPost_ret (z0m rfl _ _ w.heap.size 25 (Q3n (.slice none 0 0) (.slice none 0 0) 0) (0,0) _ rfl (setRow_heap _ _ _ _ _ _ j0.out) Tryz.underlying25 rfl Q2i) rfl (Q2c.bad ?_);exact((Mod.trans ((mRf _ w).alloc _) j1.out).alloc _).setRow (fun h=>absurd h (qBk _)) _
theorem z4t(s:ByteArray)(hc:(Q0t s).1=0){pvs:List PV}(hm:pvs.map PV.pr=Q0q (Q0c s).1):Q0j pvs=tabF s/\pvs.length<=1000/\nH s<=1000/\nR s<=1000/\Q7p s=Q3w (Q0j pvs) (Q0v (nR s) (nH s)):=by
 obtain⟨z1,z2,z3⟩:=y5e hc;have h1:pvs.length=(Q0q (Q0c s).1).length:=by rw[← hm];simp
 refine⟨hm,by omega,by unfold nH;omega,by unfold nR;omega,?_⟩;unfold Q7p Q0j nR nH;rw[hm]
theorem x1q(s:ByteArray)(hc:(Q0t s).1=0){pvs:List PV}(hm:pvs.map PV.pr=Q0q (Q0c s).1):Q55 ((Q0j pvs).zip (Q0p (Q3w (Q0j pvs) (Q0v (nR s) (nH s))) (Q0j pvs))) (nR s) (nH s)=Q26 s:=by
 obtain⟨h1,_,_,_,h5⟩:=z4t s hc hm;rw[← h5,h1];rfl
theorem y99(s:ByteArray)(kinds:List Int)(vk:Value)(w:World)(hs:s.size<=maxLen)(hk:Q0z w vk kinds)(hl:kinds.length<=60)(hc:(Q0t s).1=0) :
  Calls Tryz.prog 4 #[.string s,vk] w fun e w'=>Q2c s (Q2f s kinds) w e w':=by
 have TB:=hid (fun w=>x0u s w hs hc);unfold Q9o at TB;have HK:=hid hk;have TC:=hid (fun(pvs:List PV) (hm:pvs.map PV.pr=Q0q (Q0c s).1)=>z4t s hc hm);have AR:Hid (∀(W:World) (vp:Value),Q0z W vk kinds->Calls Tryz.prog 12 #[.agg #[.int .i64 (nR s),.int .i64 (nH s),vp],vk] W fun e w'=>e=.returned (.bool (Q0w (nR s) kinds))/\Q0a W w'):=fun W vp h=>y3e W (nR s) (nH s) vp vk kinds h (by omega);have IC:Hid (∀(W:World) (vp:Value) (pvs:List PV),pvs.map PV.pr=Q0q (Q0c s).1->Q3c W W.heap.size vp pvs->Calls Tryz.prog 13 #[.agg #[.int .i64 (nR s),.int .i64 (nH s),vp]] W fun e w'=>e=.returned (.bool (decide (0<(Q26 s).length)))/\Q0a W w'):=fun W vp pvs hm hp=>by
  obtain⟨h1,h2,h3,h4,h5⟩:=z4t s hc hm;have h:=y0h W (nR s) (nH s) vp pvs hp h2 h3 h4 (by rw[← h5];exact v0q hc);rw[x1q s hc hm]at h;exact h
 have GR:Hid (∀(W:World) (vp:Value) (pvs:List PV),pvs.map PV.pr=Q0q (Q0c s).1->Q3c W W.heap.size vp pvs->Q0z W vk kinds->Q0w (nR s) kinds=true->Q26 s=[]->Calls Tryz.prog 14 #[.agg #[.int .i64 (nR s),.int .i64 (nH s),vp],vk] W fun e w'=>Q2c s (Q70 s kinds) W e w'):=fun W vp pvs hm hp hk hkk hcl=>by
  obtain⟨h1,h2,h3,h4,h5⟩:=z4t s hc hm;have hT:=x44 hc hcl;have h:=x57 W (nR s) (nH s) vp vk pvs kinds (Q7p s) hp hk hl hkk (by rw[h1];exact hT) h5;rw[h1]at h;exact h
 have jd:Hid (∀W:World,Q0a w W->Q0z W vk kinds):=fun W hW=>hk.fresh hW;have e1:((Q0f (Q0c s).1).length:Nat)=nR s:=rfl;have e2:((Q0h (Q0c s).1).length:Nat)=nH s:=rfl;rw[e1,e2]at TB;obtain⟨ka,kc,hvk,hkc,_⟩:=hk;have ji:Q2f s kinds=if Q0w (nR s) kinds=false then Q65 7 else if Q26 s≠[] then Q65 8 else Q70 s kinds:=by
  unfold Q2f;rw[qAa (by omega),qAa (by simp[hc])]
 rw[ji];have jm:¬(60:Int)<(kinds.length:Int):=by omega
 generalize nR s=R at *;generalize nH s=H at *;clear ji e1 e2 hc;subst hvk;generalize Q0w R kinds=KO at *;cases KO
 ·simp only[qBb];go_enter Tryz.func4,Tryz.ntmps4
  go_wp2_with (first
   |(refine wpList_store_row rfl 25 _ _ rfl w.heap.size (Q3n (.slice none 0 0) (.slice none 0 0) 0) rfl rfl _ _ j8.out Q2i rfl (z1z _ _ _ rfl rfl) ?_)
   |(go_at_call 12;refine(AR.out _ _ (jd.out _ j3.out)).mono ?_;rintro e w2⟨rfl,hf2⟩;have j5:=hid (j3.trans hf2);have j8:=hid (hf2.at jb.out (fun x=>x)))
   |(go_at_call 11;refine(TB.out _).mono ?_;rintro e w1⟨vp,pvs,rfl,hf1,hmap,hprs⟩;obtain⟨ra,rc,hvp⟩:=z0d hprs.row.own;subst hvp;have j3:Hid (Q0a w (w1.alloc (.cells #[.int .i64 R,.int .i64 H,.slice ra pvs.length rc] 41 (0,0)))):=(Mod.trans ((mRf _ w).alloc _) hf1).alloc _;have jb:Hid ((w1.alloc (.cells #[.int .i64 R,.int .i64 H,.slice ra pvs.length rc] 41 (0,0))).heap[w.heap.size]? = some (.cells (Q3n (.slice none 0 0) (.slice none 0 0) 0) 25 (0,0))):=z0b (hf1.at (z0a w _) (fun x=>x));clear hf1))
  refine bodyPost_ret (z0m rfl _ _ w.heap.size 25 (Q3n (.slice none 0 0) (.slice none 0 0) 0) (0,0) _ rfl (setRow_heap _ _ _ _ _ _ j8.out) Tryz.underlying25 rfl Q2i) rfl (Q2c.bad ?_);exact j5.setRow (fun h=>absurd h (qBk _)) _
 simp only[qCe,qAp];by_cases hcl:Q26 s=[]
 ·rw[qAa (by simp[hcl])];have je:Hid (decide (0<(Q26 s).length)=false):=by unfold Hid;simp[hcl]
  have jf:=hid hcl;generalize hGS:Q70 s kinds=GS at GR ⊢;clear hcl hGS;go_enter Tryz.func4,Tryz.ntmps4
  go_wp2_with (first
   |(refine wpList_store_row rfl 25 _ _ rfl w.heap.size (Q3n (.slice na (Q17 (tabF s) GS.st).length nc) (.slice wa GS.wanted.length wc) GS.place) rfl rfl _ _ jj.out Q2i rfl (z1z _ _ _ rfl rfl) ?_)
   |(go_at_call 14;have j4:=j7.out;refine(GR.out _ _ pvs j0.out (j1.out _ ja.out) (jd.out _ j7.out) (by first|rfl|trivial) jf.out).mono ?_;rintro e w4⟨vn,vw,rfl,hf4,hn4,hw4⟩;obtain⟨na,nc,hvn⟩:=z0d hn4;subst hvn;obtain⟨wa,wc,hvw⟩:=z0d hw4;subst hvw;have jg:=hid hn4;have jh:=hid hw4;have jl:=hid hf4;have jj:=hid (hf4.at jc.out (fun x=>x));clear hn4 hw4 hf4)
   |(go_at_call 13;have j4:=j5.out;refine(IC.out _ _ pvs j0.out (j1.out _ j9.out)).mono ?_;rw[je.out];rintro e w3⟨rfl,hf3⟩;have j7:=hid (j5.trans hf3);have ja:=hid (j9.trans hf3);have jc:=hid (hf3.at j8.out (fun x=>x));have j6:=hid (hf3.at j2.out (fun x=>x));have u0:=Q0b j6.out 0;have u1:=Q0b j6.out 1;have u2:=Q0b j6.out 2;simp at u0 u1 u2;clear hf3)
   |(go_at_call 12;refine(AR.out _ _ (jd.out _ j3.out)).mono ?_;rintro e w2⟨rfl,hf2⟩;have j5:=hid (j3.trans hf2);have j9:=hid hf2;have j8:=hid (hf2.at jb.out (fun x=>x));have j2:=hid (hf2.at (z0a w1 _) (fun x=>x));have t0:=Q0b j2.out 0;have t1:=Q0b j2.out 1;have t2:=Q0b j2.out 2;simp at t0 t1 t2;clear hf2)
   |(go_at_call 11;refine(TB.out _).mono ?_;rintro e w1⟨vp,pvs,rfl,hf1,hmap,hprs⟩;obtain⟨ra,rc,hvp⟩:=z0d hprs.row.own;subst hvp;have j0:=hid hmap;have j1:Hid (∀W,Q0a (w1.alloc (.cells #[.int .i64 R,.int .i64 H,.slice ra pvs.length rc] 41 (0,0))) W->Q3c W W.heap.size (.slice ra pvs.length rc) pvs):=fun W hW=>(hprs.kept (qR _) (Mod.trans ((mRf (fun _=>False) w1).alloc _) hW) (fun _ _ x=>x)).up (Mod.trans ((mRf (fun _=>False) w1).alloc _) hW).size;have j3:Hid (Q0a w (w1.alloc (.cells #[.int .i64 R,.int .i64 H,.slice ra pvs.length rc] 41 (0,0)))):=(Mod.trans ((mRf _ w).alloc _) hf1).alloc _;have jb:Hid ((w1.alloc (.cells #[.int .i64 R,.int .i64 H,.slice ra pvs.length rc] 41 (0,0))).heap[w.heap.size]? = some (.cells (Q3n (.slice none 0 0) (.slice none 0 0) 0) 25 (0,0))):=z0b (hf1.at (z0a w _) (fun x=>x));clear hf1 hmap hprs))
  refine bodyPost_ret (z0m rfl _ _ w.heap.size 25 (Q3n (.slice na (Q17 (tabF s) GS.st).length nc) (.slice wa GS.wanted.length wc) GS.place) (0,0) _ rfl (setRow_heap _ _ _ _ _ _ jj.out) Tryz.underlying25 rfl Q2i) rfl ?_;have jk:=j7.size;have jn:=z0j jc.out;refine⟨_,_,rfl,(j7.trans jl.out).setRow (fun h=>absurd h (qBk _)) _,?_,?_⟩
  ·refine z0f (z0c jg.out (fun g hg=>?_)) jk;have:=(jg.lt g hg).1;exact setRow_other _ _ _ _ (by omega)
  refine z0f (z0c jh.out (fun g hg=>?_)) jk;have:=(jh.lt g hg).1;exact setRow_other _ _ _ _ (by omega)
 rw[qAb hcl];have je:Hid (decide (0<(Q26 s).length)=true):=by unfold Hid;simp;exact List.length_pos_iff.2 hcl
 clear hcl;go_enter Tryz.func4,Tryz.ntmps4
 go_wp2_with (first
  |(refine wpList_store_row rfl 25 _ _ rfl w.heap.size (Q3n (.slice none 0 0) (.slice none 0 0) 0) rfl rfl _ _ jc.out Q2i rfl (z1z _ _ _ rfl rfl) ?_)
  |(go_at_call 13;have j4:=j5.out;refine(IC.out _ _ pvs j0.out (j1.out _ j9.out)).mono ?_;rw[je.out];rintro e w3⟨rfl,hf3⟩;have j7:=hid (j5.trans hf3);have ja:=hid (j9.trans hf3);have jc:=hid (hf3.at j8.out (fun x=>x));have j6:=hid (hf3.at j2.out (fun x=>x));have u0:=Q0b j6.out 0;have u1:=Q0b j6.out 1;have u2:=Q0b j6.out 2;simp at u0 u1 u2;clear hf3)
  |(go_at_call 12;refine(AR.out _ _ (jd.out _ j3.out)).mono ?_;rintro e w2⟨rfl,hf2⟩;have j5:=hid (j3.trans hf2);have j9:=hid hf2;have j8:=hid (hf2.at jb.out (fun x=>x));have j2:=hid (hf2.at (z0a w1 _) (fun x=>x));have t0:=Q0b j2.out 0;have t1:=Q0b j2.out 1;have t2:=Q0b j2.out 2;simp at t0 t1 t2;clear hf2)
  |(go_at_call 11;refine(TB.out _).mono ?_;rintro e w1⟨vp,pvs,rfl,hf1,hmap,hprs⟩;obtain⟨ra,rc,hvp⟩:=z0d hprs.row.own;subst hvp;have j0:=hid hmap;have j1:Hid (∀W,Q0a (w1.alloc (.cells #[.int .i64 R,.int .i64 H,.slice ra pvs.length rc] 41 (0,0))) W->Q3c W W.heap.size (.slice ra pvs.length rc) pvs):=fun W hW=>(hprs.kept (qR _) (Mod.trans ((mRf (fun _=>False) w1).alloc _) hW) (fun _ _ x=>x)).up (Mod.trans ((mRf (fun _=>False) w1).alloc _) hW).size;have j3:Hid (Q0a w (w1.alloc (.cells #[.int .i64 R,.int .i64 H,.slice ra pvs.length rc] 41 (0,0)))):=(Mod.trans ((mRf _ w).alloc _) hf1).alloc _;have jb:Hid ((w1.alloc (.cells #[.int .i64 R,.int .i64 H,.slice ra pvs.length rc] 41 (0,0))).heap[w.heap.size]? = some (.cells (Q3n (.slice none 0 0) (.slice none 0 0) 0) 25 (0,0))):=z0b (hf1.at (z0a w _) (fun x=>x));clear hf1 hmap hprs))
 refine bodyPost_ret (z0m rfl _ _ w.heap.size 25 (Q3n (.slice none 0 0) (.slice none 0 0) 0) (0,0) _ rfl (setRow_heap _ _ _ _ _ _ jc.out) Tryz.underlying25 rfl Q2i) rfl (Q2c.bad ?_);exact j7.setRow (fun h=>absurd h (qBk _)) _
theorem z05{ps:List Pr}{s:St}{l:List St}{k r:List Sy}(hs:s.leaf=false)(h:Q1f ps (s::l) k=some r) :
  ∃y k' p,k=y::k'/\y.isH=true/\0<=s.num/\ps[s.num.toNat]? = some p/\p.head=y.num/\Q1f ps l (p.syms++k')=some r:=by
 cases k with
 |nil=>simp[Q1f]at h
 |cons y k =>
  simp only[Q1f,hs,qF,qAp]at h;split at h
  ·rename_i hy;cases hp:ps[s.num.toNat]? with
   |none=>rw[hp]at h;cases h
   |some p =>
    rw[hp]at h;simp only[]at h;split at h
    ·rename_i hh;exact⟨y,k,p,rfl,hy.1,hy.2,rfl,hh,h⟩
    cases h
  cases h
theorem z08{ps:List Pr}{s:St}{l:List St}{k r:List Sy}(hs:s.leaf=true)(h:Q1f ps (s::l) k=some r) :
  ∃y k',k=y::k'/\y.isH=false/\y.num=s.num/\Q1f ps l k'=some r:=by
 cases k with
 |nil=>simp[Q1f]at h
 |cons y k =>
  simp only[Q1f,hs,qBb]at h;split at h
  ·rename_i hy;exact⟨y,k,rfl,hy.1,hy.2,h⟩
  cases h
theorem y8t{ps:List Pr}{R H:Nat}(hT:Q1b ps R H):∀(A:List St) (k r:List Sy),Q27 R H k->Q1f ps A k=some r->∀x∈A,0<=x.num/\(x.leaf=true->x.num<R)/\(x.leaf=false->x.num<ps.length)
 | [],_,_,_,_,x,hx=>by cases hx
 |s::A,k,r,hk,h,x,hx=>by
  cases hs:s.leaf
  ·obtain⟨y,k',p,rfl,h1,h2,h3,h4,h5⟩:=z05 hs h;rcases qBc.1 hx with rfl|hx
   ·have:=(qS h3).1;exact⟨h2,fun e=>by rw[hs]at e;(cases e),fun _=>by omega⟩
   refine y8t hT A (p.syms++k') r (fun z hz=>?_) h5 x hx;rcases qBj.1 hz with hz|hz
   ·exact hT.sy p (qAd h3) z hz
   exact hk z (qDc _ hz)
  obtain⟨y,k',rfl,h1,h2,h3⟩:=z08 hs h;rcases qBc.1 hx with rfl|hx
  ·have:=hk y (by simp);rw[h1,h2]at this;exact⟨this.1,fun _=>by simpa using this.2,fun e=>by rw[hs]at e;(cases e)⟩
  exact y8t hT A k' r (fun z hz=>hk z (qDc _ hz)) h3 x hx
section
variable {ps:List Pr}{R H:Nat}{N:Int->Bool}{F O:Int->Nat->Bool}{ch:Int->Nat->Int}
theorem LLG.runNull(g:LLG ps R H N F O ch):∀(B:List St) (k:List Sy),(∀x∈B,x.leaf=false)->Q1f ps B k=some []->k.all (Q35 N)=true
 | [],k,_,h=>by cases h;rfl
 |s::B,k,hl,h=>by
  obtain⟨y,k',p,rfl,h1,h2,h3,h4,h5⟩:=z05 (hl s (by simp)) h;have:=g.runNull B _ (fun x hx=>hl x (qDc _ hx)) h5;rw[qEk,qAc]at this;have hn:=g.clN p (qAd h3) this.1;rw[qCp,this.2,Q35,h1,← h4,hn];rfl
theorem LLG.runFirst(g:LLG ps R H N F O ch){t:Nat}{C:List St}:∀(B:List St) (k r:List Sy),(∀x∈B,x.leaf=false)->Q1f ps (B++⟨true,t⟩::C) k=some r->Q3s N (fun X=>F X t) t k=true
 | [],k,r,_,h=>by
  obtain⟨y,k',rfl,h1,h2,h3⟩:=z08 rfl h;simp only[Q3s,h1,qF,qAp,h2];simp
 |s::B,k,r,hl,h=>by
  obtain⟨y,k',p,rfl,h1,h2,h3,h4,h5⟩:=z05 (hl s (by simp)) h;have:=g.runFirst B _ r (fun x hx=>hl x (qDc _ hx)) h5;rw[z2o,qAk,qAc]at this;simp only[Q3s,h1,qBb,qBa];rcases this with h6|⟨h6,h7⟩
  ·rw[← h4,g.clF p (qAd h3) t h6];rfl
  rw[← h4,g.clN p (qAd h3) h6,h7];simp
theorem LLG.runTo(g:LLG ps R H N F O ch){t:Nat}(ht:t<=R){C:List St}:∀(B:List St) (k r:List Sy) (st:List St),Q4t N F O R k->(∀x∈B,x.leaf=false)->Q1f ps (B++⟨true,t⟩::C) k=some r ->
  ∃f k',Q1f ps C k'=some r/\gTo ps ch t f k st=some (k',st++(B++[⟨true,t⟩]))
 | [],k,r,st,hk,_,h=>by
  obtain⟨y,k',rfl,h1,h2,h3⟩:=z08 rfl h;refine⟨1,k',h3,?_⟩;simp only[gTo,h1,qBb,h2,qBq]
 |s::B,k,r,st,hk,hl,h=>by
  have hs:=hl s (by simp);have hB:=fun x hx=>hl x (qDc s hx);obtain⟨y,k',p,rfl,h1,h2,h3,h4,h5⟩:=z05 hs h;have hb:=g.runFirst B _ r hB h5;rw[z2o,qAk,qAc]at hb;have ha:ahd N F O p t=true:=by
   unfold ahd;rcases hb with hb|⟨hb,hc⟩
   ·rw[hb];rfl
   rw[hb,h4,hk [] y k' rfl h1 t (by unfold Q6j;rw[hc];rfl)];simp
  have j0:=g.one s.num.toNat p h3 t ht ha;rw[h4]at j0;obtain⟨f,k2,e1,e2⟩:=g.runTo ht B (p.syms++k') r (st++[s]) (g.stkOpen (qAd h3) h1 h4 hk) hB h5;refine⟨f+1,k2,e1,?_⟩;have j1:s=⟨false,ch y.num t⟩:=by
   obtain⟨sl,sn⟩:=s;dsimp only at hs j0 h2 ⊢;rw[j0,hs];congr 1;omega
  rw[gTo,qAa (by simp[h1]),qAb (by omega)];have:(ch y.num t).toNat=s.num.toNat:=by omega
  rw[this,h3];simp only[];rw[← j1,e2];simp
theorem LLG.runEnd(g:LLG ps R H N F O ch):∀(B:List St) (k:List Sy) (st:List St),Q4t N F O R k->(∀x∈B,x.leaf=false)->Q1f ps B k=some []->∃f,gTo ps ch R f k st=some ([],st++B)
 | [],k,st,hk,_,h=>by
  cases h;exact⟨1,by simp[gTo]⟩
 |s::B,k,st,hk,hl,h=>by
  have hs:=hl s (by simp);have hB:=fun x hx=>hl x (qDc s hx);obtain⟨y,k',p,rfl,h1,h2,h3,h4,h5⟩:=z05 hs h;have hb:=g.runNull B _ hB h5;rw[qEk,qAc]at hb;have ha:ahd N F O p R=true:=by
   unfold ahd;rw[hb.1,h4,hk [] y k' rfl h1 R (by unfold Q6j;rw[hb.2];simp)];simp
  have j0:=g.one s.num.toNat p h3 R (qR _) ha;rw[h4]at j0;obtain⟨f,e2⟩:=g.runEnd B (p.syms++k') (st++[s]) (g.stkOpen (qAd h3) h1 h4 hk) hB h5;refine⟨f+1,?_⟩;have j1:s=⟨false,ch y.num R⟩:=by
   obtain⟨sl,sn⟩:=s;dsimp only at hs j0 h2 ⊢;rw[j0,hs];congr 1;omega
  rw[gTo,qAa (by simp[h1]),qAb (by omega)];have:(ch y.num R).toNat=s.num.toNat:=by omega
  rw[this,h3];simp only[];rw[← j1,e2];simp
end
theorem y0z{A:List St}(h:Q0d A=[]):∀x∈A,x.leaf=false:=by
 intro x hx;unfold Q0d at h;rw[List.map_eq_nil_iff,List.filter_eq_nil_iff]at h;simpa using h x hx
theorem z4m:∀{A:List St}{t:Int}{l:List Int},Q0d A=t::l->∃B C,A=B++⟨true,t⟩::C/\(∀x∈B,x.leaf=false)/\Q0d C=l
 | [],t,l,h=>by simp[Q0d]at h
 |s::A,t,l,h=>by
  obtain⟨sl,sn⟩:=s;cases sl
  ·have e:Q0d (⟨false,sn⟩::A)=Q0d A:=by simp[Q0d]
   rw[e]at h;obtain⟨B,C,h1,h2,h3⟩:=z4m h;refine⟨⟨false,sn⟩::B,C,by rw[h1];rfl,fun x hx=>?_,h3⟩;rcases qBc.1 hx with rfl|hx
   ·rfl
   exact h2 x hx
  have e:Q0d (⟨true,sn⟩::A)=sn::Q0d A:=by simp[Q0d]
  rw[e,qAu]at h;exact⟨[],A,by rw[h.1];rfl,fun x hx=>by(cases hx),h.2⟩
theorem z71{ps:List Pr}{R H:Nat}{hs:List Hd}(h:Tab ps R H hs):∀(l:List Int) (A:List St) (a:Nat) (k:List Sy) (st:List St),Q0d A=l->Q4t (hN hs) (hF hs) (hO hs) R k->Q27 R H k->(∀s∈st,0<=s.num/\s.num<=127)->Q1f ps A k=some [] ->
  Q6a ps hs R H l a k st=⟨0,[],0,st++A⟩
 | [],A,a,k,st,hl,h1,h2,h3,hru=>by
  have hA:=y0z hl;have j0:=h.g.runNull A k hA hru;have j1:Q6j (hN hs) (hF hs) R k R=true:=by unfold Q6j;rw[j0];simp
  have hw:(Q5y hs R k).getD R false=true:=by rw[z3w h.ok h.hR k h2 R];exact j1
  obtain⟨s1,_⟩:=h.step (qR _) h1 h2 h3 hw;rw[z24 (R:=R) (H:=H) (t:=R) (ch:=chL (Q53 (ps.zip (Q0p hs ps)) 72)) (ch':=chF hs ps) (fun X x0 x1=>z8j x0 (by have:=h.hH;omega) (by have:=h.hR;omega)) (fun p hp=>(h.syms p hp).2) _ _ _ h2]at s1;obtain⟨f,e⟩:=h.g.runEnd A k st h1 hA hru;have m1:=z15 _ _ _ _ s1 (max f (Q2u H k.length)) (by omega);have m2:=z15 _ _ _ _ e (max f (Q2u H k.length)) (by omega);rw[m1,qO]at m2;unfold Q6a;rw[qAb hw,m2]
 |t::l,A,a,k,st,hl,h1,h2,h3,hru=>by
  obtain⟨B,C,rfl,hB,hC⟩:=z4m hl;have j2:=y8t h.g.tab _ _ _ h2 hru ⟨true,t⟩ (by simp);obtain⟨n,rfl⟩:∃n:Nat,t=n:=⟨t.toNat,by have:=j2.1;dsimp only at this;omega⟩;have j3:n<=R:=by have:=j2.2.1 rfl;dsimp only at this;omega
  have j1:Q6j (hN hs) (hF hs) R k n=true:=by unfold Q6j;rw[h.g.runFirst B k _ hB hru];rfl
  have hw:(Q5y hs R k).getD n false=true:=by rw[z3w h.ok h.hR k h2 n];exact j1
  obtain⟨s1,_,_,s4,s5,s6,_⟩:=h.step j3 h1 h2 h3 hw;rw[z24 (R:=R) (H:=H) (t:=n) (ch:=chL (Q53 (ps.zip (Q0p hs ps)) 72)) (ch':=chF hs ps) (fun X x0 x1=>z8j x0 (by have:=h.hH;omega) (by have:=h.hR;omega)) (fun p hp=>(h.syms p hp).2) _ _ _ h2]at s1;obtain⟨f,k',e1,e⟩:=h.g.runTo j3 B k [] st h1 hB hru;have m1:=z15 _ _ _ _ s1 (max f (Q2u H k.length)) (by omega);have m2:=z15 _ _ _ _ e (max f (Q2u H k.length)) (by omega);rw[m1,qO]at m2;rw[m2]at s4 s5 s6;unfold Q6a;rw[qAl,qAb hw,m2];rw[z71 h l C (a+1) k' _ hC s4 s5 s6 e1];simp
def Q4a(ps:List Pr)(A:List St)(c:Nat):List Nd:=List.zipWith Q74 (ndL A c) (Q08 ps (ndL A c))
theorem y97(ps:List Pr)(A:List St)(c:Nat):(Q4a ps A c).length=A.length:=by simp[Q4a,z60,z2u]
theorem y6q(ps:List Pr)(A:List St):Q4a ps A 0=Q17 ps A:=rfl
theorem y5b(ps:List Pr):∀(A B:List St) (ys:List Sy) (c:Nat),Q1f ps A ys=some []->Q08 ps (ndL (A++B) c)=Q08 ps (ndL A c)++Q08 ps (ndL B (c+(Q0d A).length))
 | [],B,ys,c,h=>by simp[ndL,Q08,Q0d]
 |s::A,B,ys,c,h=>by
  have key:∃ys',Q1f ps A ys'=some []:=by
   cases hs:s.leaf
   ·obtain⟨y,k',p,_,_,_,_,_,h5⟩:=z05 hs h;exact⟨_,h5⟩
   obtain⟨y,k',_,_,_,h5⟩:=z08 hs h;exact⟨_,h5⟩
  obtain⟨ys',hA⟩:=key;have j0:(Q08 ps (ndL (s::A++B) c))[0]? = (Q08 ps (ndL (s::A) c))[0]? := by
   cases ys with
   |nil=>simp[Q1f]at h
   |cons y ys =>
    obtain⟨T,A2,e,h1,h2⟩:=z2t ps (s::A) [y] ys h;have q1:=z6i ps _ T (A2++B) y c (qR _) h1;have q2:=z6i ps _ T A2 y c (qR _) h1;rw[e,qAh,q1,q2]
  have j1:∀c',Q08 ps (ndL (A++B) c')=Q08 ps (ndL A c')++Q08 ps (ndL B (c'+(Q0d A).length)):=fun c'=>y5b ps A B ys' c' hA;cases hl:s.leaf
  ·have e:Q0d (s::A)=Q0d A:=by simp[Q0d,hl]
   simp only[qAw,ndL,hl,qF,qAp,Q08,qBz,qO,e]at j0 ⊢;rw[j0,j1]
  have e:(Q0d (s::A)).length=(Q0d A).length+1:=by simp[Q0d,hl]
  simp only[qAw,ndL,hl,qBb,Q08,qBz,qO,e]at j0 ⊢;rw[j0,j1,show c+1+(Q0d A).length=c+((Q0d A).length+1) by omega]
theorem y96(ps:List Pr){A B:List St}{ys:List Sy}(c:Nat)(h:Q1f ps A ys=some []):Q4a ps (A++B) c=Q4a ps A c++Q4a ps B (c+(Q0d A).length):=by
 unfold Q4a;rw[y5b ps A B ys c h,y19,List.zipWith_append (by rw[z2u])]
theorem y6p(ps:List Pr){A:List St}{n:Int}{y:Sy}(c:Nat)(h:Q1f ps (⟨false,n⟩::A) [y]=some []):Q4a ps (⟨false,n⟩::A) c=⟨n,-1,c,A.length+1⟩::Q4a ps A c:=by
 have q:=z6i ps _ (⟨false,n⟩::A) [] y c (qR _) h;rw[qAt]at q;unfold Q4a;simp only[ndL,qF,qAp,Q08,qBz,qO,List.zipWith_cons_cons]at q ⊢;rw[q];simp[Q74]
theorem y6o(ps:List Pr)(n:Int)(c:Nat):Q4a ps [⟨true,n⟩] c=[⟨-1,n,c,1⟩]:=by
 have q:=z6i ps 1 [⟨true,n⟩] [] ⟨false,n⟩ c (qR _) (by simp[Q1f]);rw[qAt]at q;unfold Q4a;simp only[ndL,qBb,Q08,qBz,qO,List.zipWith_cons_cons]at q ⊢;rw[q];simp[Q74,ndL,Q08]
end Go.Proofs.YtcpceafmlgaodaaGreat
