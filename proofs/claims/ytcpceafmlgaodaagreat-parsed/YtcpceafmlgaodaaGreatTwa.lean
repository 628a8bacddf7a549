import Derived.Test.YtcpceafmlgaodaaGreatTw7
import Derived.Test.YtcpceafmlgaodaaGreatTw8
namespace Go.Proofs.YtcpceafmlgaodaaGreat
open Go.RowKit
set_option maxRecDepth 99999
set_option maxHeartbeats 0
set_option linter.all false
theorem y3o{l:List Bool}(h:l.length=9)(t:Nat):(Q27 l).any (·==(t:Int))=l.getD t false:=x26 h t
theorem z1z(vn vw:Value)(a:Int)(h1:vn.oneCell'=true)(h2:vw.oneCell'=true):(#[vn,vw,Value.int .i64 a]:Array Value).all (·.oneCell')=true :=
  all_oneCell_toArray (cs:=[vn,vw,.int .i64 a]) (by intro v hv;simp only[List.mem_cons,List.not_mem_nil,or_false]at hv;rcases hv with rfl|rfl|rfl;exact h1;exact h2;rfl)
def GrS(ps:List Pr)(hs:List Hd)(R H:Nat)(kinds:List Int)(G:Q98)(a:Nat)(k:List Sy)(st:List St):Prop :=
  if a<=kinds.length then Q6b ps hs R H (kinds.drop a) a k st=G else G=⟨0,[],0,st⟩
theorem GrS.kind{ps:List Pr}{hs:List Hd}{R H:Nat}{kinds:List Int}{G:Q98}{a:Nat}{k:List Sy}{st:List St}(h:GrS ps hs R H kinds G a k st)(ha:a<kinds.length)(t:Nat)(ht:kinds[a]=t) :
    if(Q5w hs R k).getD t false then GrS ps hs R H kinds G (a+1) (Q7t ps hs H t k st).1 (Q7t ps hs H t k st).2 else G=⟨10,Q27 (Q5w hs R k),a,[]⟩:=by
  unfold GrS at h ⊢;rw[if_pos (by omega),qC ha,ht]at h;unfold Q6b at h;rw[Int.toNat_natCast]at h;rw[if_pos (show a+1<=kinds.length by omega)];split
  · rename_i e;rw[if_pos e]at h;exact h
  rename_i e;rw[if_neg e]at h;exact h.symm
theorem GrS.last{ps:List Pr}{hs:List Hd}{R H:Nat}{kinds:List Int}{G:Q98}{a:Nat}{k:List Sy}{st:List St}(h:GrS ps hs R H kinds G a k st)(ha:a=kinds.length) :
    if(Q5w hs R k).getD R false then GrS ps hs R H kinds G (a+1) (Q7t ps hs H R k st).1 (Q7t ps hs H R k st).2 else G=⟨10,Q27 (Q5w hs R k),a,[]⟩:=by
  unfold GrS at h ⊢;rw[if_pos (by omega),ha,List.drop_length]at h;unfold Q6b at h;rw[if_neg (show ¬(a+1<=kinds.length) by omega)];split
  · rename_i e;rw[if_pos e]at h;exact h.symm
  rename_i e;rw[if_neg e]at h;rw[ha];exact h.symm
theorem Q9l{a kl sl rl pl:Nat}(ha:a<=60)(h1:kl<=1+48*a)(h2:sl<=a*2000000000)(h3:rl<=sl+(kl*335923+16124313))(h4:pl<=kl+48)(h5:sl<=rl) :
    rl<=1000000000000/\kl+6*rl<=100000000000+6*sl/\rl<=(a+1)*2000000000/\pl<=1+48*(a+1):=by omega
abbrev Q3n(vn vw:Value)(a:Int):Array Value:=#[vn,vw,.int .i64 a]
theorem Q2g:(Tryz.prog.info? 25).map (·.size)=some 3:=by kernel_rfl
theorem x69(w:World)(R H:Nat)(vp vk:Value)(ps:List PV)(kinds:List Int)(hs:List Hd)(hp:Q3f w w.heap.size vp ps)(hk:Q00 w vk kinds)(hkl:kinds.length<=60)(hkk:Q0x R kinds=true)
    (hT:Tab (Q0j ps) R H hs) (hse:hs=Q3w (Q0j ps) (Q0v R H)) :
    Calls Tryz.prog 14 #[.agg #[.int .i64 R,.int .i64 H,vp],vk] w fun e w'=>∃vn vw,e=.returned (.tuple #[.agg (Q3n vn vw (Q6b (Q0j ps) hs R H kinds 0 [⟨true,0⟩] []).place),.int .i64 (Q6b (Q0j ps) hs R H kinds 0 [⟨true,0⟩] []).err])/\Q0a w w' /\
      Q3p w' w.heap.size vn (Q17 (Q0j ps) (Q6b (Q0j ps) hs R H kinds 0 [⟨true,0⟩] []).st)/\IntOwn w' w.heap.size vw (Q6b (Q0j ps) hs R H kinds 0 [⟨true,0⟩] []).wanted:=by
  have kn:ps.length<=20:=by have:=hT.hl;simpa [Q0j]using this
  have hR:=hT.hR;have hH:=hT.hH;obtain⟨pa,pc,hvp⟩:=z0d hp.row.own;subst hvp;obtain⟨ka,kc,rfl,hkc,hkcell⟩:=hk;have kk:=hid hkcell;have HP:=hid hp;have HT:=hid hT;have kh:=hid hkk;have NG:Hid (∀W:World,Q0a w W->Calls Tryz.prog 22 #[.agg #[.int .i64 R,.int .i64 H,.slice pa ps.length pc]] W fun e w'=>∃gb fb vh,e=.returned (Q23 gb)/\Q0a W w' /\
      w'.heap[gb]? = some (.cells (gdA (Q23 fb) (Q51 ((Q0j ps).zip (Q0p hs (Q0j ps))) 72)) 128 (0,0))/\FA w' fb R H (.slice pa ps.length pc) vh ps hs):=fun W hW=>by
    have h:=y5k W R H (.slice pa ps.length pc) ps ((HP.kept (qR _) hW (fun _ _ x=>x)).up hW.size) (by omega) (by omega) (by omega) (by rw[← hse];exact HT.ok);rw[← hse]at h;exact h
  generalize hG:Q6b (Q0j ps) hs R H kinds 0 [⟨true,0⟩] []=G;have HG:=hid hG;clear hp hkcell hT hkk hse hG;go_enter Tryz.func14,Tryz.ntmps14
  go_wp2_with (first
    |(go_at_call 22;refine(NG.out _ (((mRf _ w).alloc _).alloc _)).mono ?_;rintro e w1⟨gb,fb,vh,rfl,hf1,hgd,hFA⟩;have ja:=hf1.at (z0b (z0a w _)) (fun x=>x);have t0:=Q0b ja 0;have t1:=Q0b ja 1;have t2:=Q0b ja 2;simp at t0 t1 t2;have kp:=z0j ja;have kf:=hid ja;clear ja))
  have k2:gb<w1.heap.size:=z0j hgd;have je:=hf1.at (z0a (w.alloc _) _) (fun x=>x);have je:w1.heap[w.heap.size+1]? = some (.cells (Q3n (.slice none 0 0) (.slice none 0 0) 0) 25 (0,0)):=by simpa using je
  have kl:=z0j je;have ke:=hid je;have jo:=hid hgd;have k9:=hid hFA;have k3:Hid (Q0a w w1):=Mod.trans (((mRf _ w).alloc _).alloc _) hf1;have j6:Hid (GA (((w1.alloc (.cells #[.bool true,.int .i64 0] 69 (0,0))).alloc (.cells #[.bool true,.int .i64 0] 69 (0,0))).alloc (.cells #[.int .i64 R,.int .i64 H,.slice pa ps.length pc,Q23 gb,.slice (some ⟨w1.heap.size+1,0,none⟩) 1 1,.slice none 0 0] 74 (0,0))) (w1.heap.size+1+1) w1.heap.size R H (.slice pa ps.length pc) (Q23 gb) (.slice (some ⟨w1.heap.size+1,0,none⟩) 1 1) (.slice none 0 0) [⟨true,0⟩] []):=by
    refine⟨by omega,?_,?_,World.ownsRow_nil _ _ _ _,by simp[Value.ownBlock],by simp[Value.ownBlock],by simp[Value.ownBlock]⟩
    · exact z00 _ _ _ _
    refine⟨rfl,.inr ⟨w1.heap.size+1,1,#[.bool true,.int .i64 0],rfl,by omega,?_,by simp,by unfold maxLen;omega,rfl,rfl⟩⟩;exact z06 _ _ _ _
  have k7:Hid (UpB w1.heap.size w1 (((w1.alloc (.cells #[.bool true,.int .i64 0] 69 (0,0))).alloc (.cells #[.bool true,.int .i64 0] 69 (0,0))).alloc (.cells #[.int .i64 R,.int .i64 H,.slice pa ps.length pc,Q23 gb,.slice (some ⟨w1.heap.size+1,0,none⟩) 1 1,.slice none 0 0] 74 (0,0)))):=(((mRf _ w1).alloc _).alloc _).alloc _;generalize(((w1.alloc (.cells #[.bool true,.int .i64 0] 69 (0,0))).alloc (.cells #[.bool true,.int .i64 0] 69 (0,0))).alloc (.cells #[.int .i64 R,.int .i64 H,.slice pa ps.length pc,Q23 gb,.slice (some ⟨w1.heap.size+1,0,none⟩) 1 1,.slice none 0 0] 74 (0,0)))=W3 at j6 k7 ⊢;obtain⟨b,hbE⟩:∃b,w1.heap.size+1+1=b:=⟨_,rfl⟩;rw[hbE]at j6 ⊢;clear je hgd hFA hf1 t0 t1 t2 hbE NG;go_loopw [9,10,11] (fun x9 _ _ wr=>∃(a:Nat) (k:List Sy) (st:List St) (vk' vs':Value),x9=.int .i64 a/\a<=kinds.length+1/\GrS (Q0j ps) hs R H kinds G a k st/\GA wr b w1.heap.size R H (.slice pa ps.length pc) (Q23 gb) vk' vs' k st/\UpB w1.heap.size w1 wr /\
        Q4u (hN hs) (hF hs) (hO hs) R k/\Q29 R H k/\(∀s∈st,0<=s.num/\s.num<=127)/\k.length<=1+48*a/\st.length<=a*2000000000)
      (fun x _ _ _=>63-(intOf x).toNat)
  case atStart=>exact⟨0,[⟨true,0⟩],[],_,_,rfl,by omega,by unfold GrS;rw[if_pos (by omega)];exact HG.out,j6,k7,HT.start.1,HT.start.2,by simp,by simp,by simp⟩
  obtain⟨a,k,st,vk',vs',rfl,ha,hgs,hGA,hU,hso,hsi,hnm,hkl1,hsl1⟩:=hrel;have ji:=hgs;have j7:=hid hGA;have k1:=hid hU;have jy:=hid hso;have jj:=hid hsi;have js:=hid hnm;have j2:Hid (Q0a w wr):=Mod.trans' k3.out hU (fun i h1 h2=>by omega);have jq:w1.heap.size<=wr.heap.size:=hU.size;have jb:=hU.at kf.out (by omega);have t0:=Q0b jb 0;have t1:=Q0b jb 1;have t2:=Q0b jb 2;simp at t0 t1 t2;have jn:=hid (hU.at ke.out (by omega));have km:=hid jb;have jp:=hid (hU.at jo.out (by omega));have jw:=hid (k9.kept hU (fun k hk=>hk));have jl:Hid (Q3f wr w1.heap.size (.slice pa ps.length pc) ps):=(HP.kept (qR _) j2.out (fun _ _ x=>x)).up k3.size;have k4:=hGA.cell 4;simp at k4;clear hGA hU hso hsi hnm jb;by_cases han:a<=kinds.length
  · have jt:(a:Int)<=(kinds.length:Int):=by omega
    have j9:=hid (x0z wr gb fb (Q51 ((Q0j ps).zip (Q0p hs (Q0j ps))) 72) R H (.slice pa ps.length pc) vh ps hs k vk' w1.heap.size jp.out jw.out j7.ks (by omega) hR);by_cases hlt:a<kinds.length
    · have jm:(a:Int)<(kinds.length:Int):=by omega
      have jz:=(List.all_eq_true.1 kh.out) kinds[a] (by simp);simp only[Bool.and_eq_true,decide_eq_true_eq]at jz;obtain⟨t,ht⟩:∃t:Nat,kinds[a]=t:=⟨kinds[a].toNat,by omega⟩;have kj:t<=R:=by omega
      have j8:Hid ((Q5w hs R k).getD t false=true->_):=fun h=>HT.step kj jy.out jj.out js.out h;obtain⟨kg,ko,rfl,hkv⟩:=kk.out a hlt;have ck:=Q0i j2.out hkv;rw[ht]at ck;clear jz hkv;have j0:=ji.kind hlt t ht;have jd:=hid (y8t HT.ok R k);have LH:=hid (y3o jd.out t);generalize hWT:Q5w hs R k=WT at j0 jd LH j9 j8;have jg:(Q27 WT).length<=1000:=by have:=z39 WT;omega
      generalize hbit:WT.getD t false=bit at j0 LH j8;clear hWT hbit;cases bit
      · simp only[qF,if_false]at j0
        have j1:=hid j0;clear j0;go_wp2_with (first
          |(refine wpList_store_row rfl 25 _ _ rfl (w.heap.size+1) (Q3n (.slice none 0 0) (.slice wa (Q27 WT).length wc) a) rfl rfl _ _ jf.out Q2g rfl (z1z _ _ _ rfl rfl) ?_)
          |(go_at_call 24;refine(z8d w2 _ (Q27 WT) t (IntOwn.at' j3.out) jg).mono ?_;rw[LH.out];rintro e w'⟨rfl,hw⟩;rw[hw];clear hw)
          |(go_at_call 23;refine j9.mono ?_;rintro e w2⟨v2,rfl,hf2,ho2⟩;obtain⟨wa,wc,hv2⟩:=z0d ho2;subst hv2;have j3:=hid ho2;have j4:=hid hf2;have jf:=hid (hf2.at jn.out (fun x=>x));clear ho2 hf2))
        refine bodyPost_ret (z0m rfl _ _ (w.heap.size+1) 25 (Q3n (.slice none 0 0) (.slice wa (Q27 WT).length wc) a) (0,0) _ rfl (setRow_heap _ _ _ _ _ _ jf.out) Tryz.underlying25 rfl Q2g) rfl ?_;have FF:Q0a w (w2.setRow (w.heap.size+1) (Q3n (.slice none 0 0) (.slice wa (Q27 WT).length wc) a)):=(j2.trans j4.out).setRow (fun h=>by omega) _;refine⟨.slice none 0 0,.slice wa (Q27 WT).length wc,by rw[j1.out];rfl,FF,?_,?_⟩
        · rw[j1.out];exact World.ownsRow_nil _ _ _ _
        rw[j1.out];refine z0f (z0c j3.out (fun g hg=>?_)) j2.size;have:=(j3.lt g hg).1;have h2:=j2.size;exact setRow_other _ _ _ _ (by omega)
      simp only[if_true]at j0;have jh:=hid j0;have jr:=j8.out rfl;obtain⟨s1,s2,s3,s4,s5,s6,s7⟩:=jr;have S4:=hid s4;have S5:=hid s5;have S6:=hid s6;have S1:=hid s1;generalize Q7t (Q0j ps) hs H t k st=rr at jh s2 s3 S4 S5 S6 S1 s7;clear j0 s1 s4 s5 s6;obtain⟨q1,q2,q3,q4⟩:=Q9l (show a<=60 by omega) hkl1 hsl1 s3 s2 s7;have GT:Hid (∀w2:World,Q0a wr w2->Calls Tryz.prog 25 #[Q23 b,.int .i64 (t:Nat)] w2 fun e w'=>e=.returned (.tuple #[])/\∃vk'' vs'',GA w' b w1.heap.size R H (.slice pa ps.length pc) (Q23 gb) vk'' vs'' rr.1 rr.2/\UpB w1.heap.size w2 w'):=fun w2 hf2 =>
        y0p w2 b w1.heap.size gb (Q23 fb) (Q51 ((Q0j ps).zip (Q0p hs (Q0j ps))) 72) R H _ vk' vs' k st ps t (Q2u H k.length) rr (j7.fresh hf2) ⟨k2,hf2.at jp.out (fun x=>x),z76 _ (qR _)⟩ (jl.kept jq hf2 (fun _ _ x=>x)) (by omega) (fun p hp=>HT.syms p.pr (List.mem_map.2 ⟨p,hp,rfl⟩)) jj.out hR hH (by omega) (by have:=hf2.size;omega) S1.out q1 q2
      clear q1 q2;have ju:Hid (63-(a+1)<63-a):=by unfold Hid;omega
      go_wp2_with (first
        |(go_at_call 25;have jc:=j4.out;refine(GT.out w2 j4.out).mono ?_;rintro e w3⟨rfl,vk3,vs3,hG3,hU3⟩;have jv:=hid hG3;have jk:=hid hU3;clear hG3 hU3)
        |(go_at_call 24;refine(z8d w2 _ (Q27 WT) t (IntOwn.at' j3.out) jg).mono ?_;rw[LH.out];rintro e w'⟨rfl,hw⟩;rw[hw];clear hw)
        |(go_at_call 23;refine j9.mono ?_;rintro e w2⟨v2,rfl,hf2,ho2⟩;obtain⟨wa,wc,hv2⟩:=z0d ho2;subst hv2;have j3:=hid ho2;have j4:=hid hf2;clear ho2 hf2))
      go_roundw
      case rel =>
        exact⟨a+1,rr.1,rr.2,vk3,vs3,by go_num,by omega,jh,jv,Mod.trans k1.out (Mod.trans (j4.mono (fun _ _ x=>x.elim)) jk.out),S4,S5,S6,q4,q3⟩
      simpa [intOf]using ju.out
    have k8:a=kinds.length:=by omega
    have jm:¬(a:Int)<(kinds.length:Int):=by omega
    have kd:¬(a<kinds.length):=by omega
    have j8:Hid ((Q5w hs R k).getD R false=true->_):=fun h=>HT.step (qR _) jy.out jj.out js.out h;have j0:=ji.last k8;clear k8;have jd:=hid (y8t HT.ok R k);have LH:=hid (y3o jd.out R);generalize hWT:Q5w hs R k=WT at j0 jd LH j9 j8;have jg:(Q27 WT).length<=1000:=by have:=z39 WT;omega
    generalize hbit:WT.getD R false=bit at j0 LH j8;clear hWT hbit;cases bit
    · simp only[qF,if_false]at j0
      have j1:=hid j0;clear j0;go_wp2_with (first
        |(refine wpList_store_row rfl 25 _ _ rfl (w.heap.size+1) (Q3n (.slice none 0 0) (.slice wa (Q27 WT).length wc) a) rfl rfl _ _ jf.out Q2g rfl (z1z _ _ _ rfl rfl) ?_)
        |(go_at_call 24;refine(z8d w2 _ (Q27 WT) R (IntOwn.at' j3.out) jg).mono ?_;rw[LH.out];rintro e w'⟨rfl,hw⟩;rw[hw];clear hw)
        |(go_at_call 23;refine j9.mono ?_;rintro e w2⟨v2,rfl,hf2,ho2⟩;obtain⟨wa,wc,hv2⟩:=z0d ho2;subst hv2;have j3:=hid ho2;have j4:=hid hf2;have jf:=hid (hf2.at jn.out (fun x=>x));clear ho2 hf2))
      refine bodyPost_ret (z0m rfl _ _ (w.heap.size+1) 25 (Q3n (.slice none 0 0) (.slice wa (Q27 WT).length wc) a) (0,0) _ rfl (setRow_heap _ _ _ _ _ _ jf.out) Tryz.underlying25 rfl Q2g) rfl ?_;have FF:Q0a w (w2.setRow (w.heap.size+1) (Q3n (.slice none 0 0) (.slice wa (Q27 WT).length wc) a)):=(j2.trans j4.out).setRow (fun h=>by omega) _;refine⟨.slice none 0 0,.slice wa (Q27 WT).length wc,by rw[j1.out];rfl,FF,?_,?_⟩
      · rw[j1.out];exact World.ownsRow_nil _ _ _ _
      rw[j1.out];refine z0f (z0c j3.out (fun g hg=>?_)) j2.size;have:=(j3.lt g hg).1;have h2:=j2.size;exact setRow_other _ _ _ _ (by omega)
    simp only[if_true]at j0;have jh:=hid j0;have jr:=j8.out rfl;obtain⟨s1,s2,s3,s4,s5,s6,s7⟩:=jr;have S4:=hid s4;have S5:=hid s5;have S6:=hid s6;have S1:=hid s1;generalize Q7t (Q0j ps) hs H R k st=rr at jh s2 s3 S4 S5 S6 S1 s7;clear j0 s1 s4 s5 s6;obtain⟨q1,q2,q3,q4⟩:=Q9l (show a<=60 by omega) hkl1 hsl1 s3 s2 s7;have GT:Hid (∀w2:World,Q0a wr w2->Calls Tryz.prog 25 #[Q23 b,.int .i64 (R:Nat)] w2 fun e w'=>e=.returned (.tuple #[])/\∃vk'' vs'',GA w' b w1.heap.size R H (.slice pa ps.length pc) (Q23 gb) vk'' vs'' rr.1 rr.2/\UpB w1.heap.size w2 w'):=fun w2 hf2 =>
      y0p w2 b w1.heap.size gb (Q23 fb) (Q51 ((Q0j ps).zip (Q0p hs (Q0j ps))) 72) R H _ vk' vs' k st ps R (Q2u H k.length) rr (j7.fresh hf2) ⟨k2,hf2.at jp.out (fun x=>x),z76 _ (qR _)⟩ (jl.kept jq hf2 (fun _ _ x=>x)) (by omega) (fun p hp=>HT.syms p.pr (List.mem_map.2 ⟨p,hp,rfl⟩)) jj.out hR hH (by omega) (by have:=hf2.size;omega) S1.out q1 q2
    clear q1 q2;have ju:Hid (63-(a+1)<63-a):=by unfold Hid;omega
    go_wp2_with (first
      |(go_at_call 25;have jc:=j4.out;refine(GT.out w2 j4.out).mono ?_;rintro e w3⟨rfl,vk3,vs3,hG3,hU3⟩;have jv:=hid hG3;have jk:=hid hU3;clear hG3 hU3)
      |(go_at_call 24;refine(z8d w2 _ (Q27 WT) R (IntOwn.at' j3.out) jg).mono ?_;rw[LH.out];rintro e w'⟨rfl,hw⟩;rw[hw];clear hw)
      |(go_at_call 23;refine j9.mono ?_;rintro e w2⟨v2,rfl,hf2,ho2⟩;obtain⟨wa,wc,hv2⟩:=z0d ho2;subst hv2;have j3:=hid ho2;have j4:=hid hf2;clear ho2 hf2))
    go_roundw
    case rel =>
      exact⟨a+1,rr.1,rr.2,vk3,vs3,by go_num,by omega,jh,jv,Mod.trans k1.out (Mod.trans (j4.mono (fun _ _ x=>x.elim)) jk.out),S4,S5,S6,q4,q3⟩
    simpa [intOf]using ju.out
  have k0:G=⟨0,[],0,st⟩:=by
    have h:=ji;unfold GrS at h;rw[if_neg han]at h;exact h
  have j1:=hid k0;have jt:¬(a:Int)<=(kinds.length:Int):=by omega
  have j5:st.length<=1000000000000:=by
    have h1:a<=61:=by omega
    have h2:a*2000000000<=61*2000000000:=Nat.mul_le_mul_right _ h1;exact Nat.le_trans hsl1 (Nat.le_trans h2 (by decide))
  obtain⟨sa,sc,hvs⟩:=z0d j7.ss;have k5:=j7.cell 5;simp at k5;subst hvs;have kq:=j7.lt;have WD:Hid (∀W:World,Q0a wr W->Calls Tryz.prog 26 #[.agg #[.int .i64 R,.int .i64 H,.slice pa ps.length pc],.slice sa st.length sc] W fun e w'=>∃v,e=.returned v/\Q0a W w'/\Q3p w' W.heap.size v (Q17 (Q0j ps) st)):=fun W hW =>
    y3c W R H (.slice pa ps.length pc) (.slice sa st.length sc) ps st ((jl.kept jq hW (fun _ _ x=>x)).up (by have:=hW.size;omega)) ⟨z0f ((j7.fresh hW).ss) (Nat.zero_le _),fun _ _=>rfl⟩ js.out j5 (by omega) (fun p hp=>by have:=(HT.syms p.pr (List.mem_map.2 ⟨p,hp,rfl⟩)).1;omega)
  clear k0 ji hkl1 hsl1 j5 k4;go_upto_region 14 with fail
  go_cut [12] (fun s12 wx=>Q0a wr wx/\Q3p wx wr.heap.size s12 (Q17 (Q0j ps) st))
  case first =>
    go_region_with (first
      |(go_at_call 26;refine(WD.out _ (by first|exact(mRf _ wr).drew|exact mRf _ wr)).mono ?_;rintro e w3⟨v,rfl,hf3,ho3⟩))
    all_goals
      go_wp2_with fail
      go_meet;exact⟨Mod.trans ((mRf _ wr).drew) hf3,ho3⟩
  obtain⟨hfx,hox⟩:=hcut;obtain⟨na,nc,hvn⟩:=z0d hox;subst hvn;have jx:=hid hox;have ki:=hid hfx;have k6:=hid (hfx.at jn.out (fun x=>x));generalize hNF:Q17 (Q0j ps) st=NF at jx;have kb:=hid hNF;clear hfx hox hNF;go_wp2_with (first
    |(refine wpList_store_row rfl 25 _ _ rfl (w.heap.size+1) (Q3n (.slice na NF.length nc) (.slice none 0 0) 0) rfl rfl _ _ k6.out Q2g rfl (z1z _ _ _ rfl rfl) ?_))
  refine bodyPost_ret (z0m rfl _ _ (w.heap.size+1) 25 (Q3n (.slice na NF.length nc) (.slice none 0 0) 0) (0,0) _ rfl (setRow_heap _ _ _ _ _ _ k6.out) Tryz.underlying25 rfl Q2g) rfl ?_;refine⟨.slice na NF.length nc,.slice none 0 0,by rw[j1.out];rfl,(j2.trans ki.out).setRow (fun h=>by omega) _,?_,?_⟩
  · rw[j1.out]
    show Q3p _ _ _ (Q17 (Q0j ps) st);rw[kb.out];refine z0f (z0c jx.out (fun g hg=>?_)) j2.size;have:=(jx.lt g hg).1;have h2:=j2.size;exact setRow_other _ _ _ _ (by omega)
  rw[j1.out];exact World.ownsRow_nil _ _ _ _
theorem x3v{s:ByteArray}(hc:(Q0t s).1=0)(hcl:Q25 s=[]):Tab (Q0q (Q0c s).1) (Q0f (Q0c s).1).length (Q0h (Q0c s).1).length (Q7h s):=by
  have j0:=z4d hc;obtain⟨h1,h2,h3,h4,h5⟩:=z2c j0;have hI:=Q6o j0;have j1:=Q7p j0;have hT:=tabOk h3 hI.places j1.mem;have hR:=y1x (fun y hy=>(hI.places y hy).1) h5;obtain⟨c1,c2,c3⟩:=y42 (fun y hy=>(hI.places y hy).1) h5;have hS:=z9u hT hR;have j2:0<(Q0h (Q0c s).1).length:=by
    unfold Q32 at h4;rw[List.any_eq_true]at h4;obtain⟨y,hy,hq⟩:=h4;have:=j1.mem y (List.mem_filter.2 ⟨hy,hq⟩);omega
  exact⟨llg hT hR j2 c3 hcl,hS.ok,hR,c1,j2,c2⟩
theorem v0i{s:ByteArray}(hc:(Q0t s).1=0):∀x∈Q7h s,x.ok:=by
  have j0:=z4d hc;obtain⟨h1,h2,h3,h4,h5⟩:=z2c j0;have hI:=Q6o j0;have j1:=Q7p j0;exact(z9u (tabOk h3 hI.places j1.mem) (y1x (fun y hy=>(hI.places y hy).1) h5)).ok
theorem y0g(w:World)(R H:Nat)(vp:Value)(ps:List PV)(hp:Q3f w w.heap.size vp ps)(hps:ps.length<=1000)(hH:H<=1000)(hR:R<=1000)(hok:∀x∈Q3w (Q0j ps) (Q0v R H),x.ok) :
    Calls Tryz.prog 13 #[.agg #[.int .i64 R,.int .i64 H,vp]] w fun e w'=>e=.returned (.bool (decide (0<(Q54 ((Q0j ps).zip (Q0p (Q3w (Q0j ps) (Q0v R H)) (Q0j ps))) R H).length)))/\Q0a w w':=by
  obtain⟨pa,pc,hvp⟩:=z0d hp.row.own;subst hvp;have CA:=hid (y6f (w.alloc (.cells #[.int .i64 R,.int .i64 H,.slice pa ps.length pc] 41 (0,0))) R H (.slice pa ps.length pc) ps ((hp.kept (qR _) ((mRf (fun _=>False) w).alloc _) (fun _ _ x=>x)).up (by simp)) hps hH hR hok);generalize Q54 ((Q0j ps).zip (Q0p (Q3w (Q0j ps) (Q0v R H)) (Q0j ps))) R H=CL at CA;clear hp hok;go_enter Tryz.func13,Tryz.ntmps13
  go_wp2_with (first
    |(go_at_call 21;refine CA.mono ?_;rintro e w1⟨v,rfl,hf1,ho⟩;obtain⟨ca,cc,hv⟩:=z0d ho;subst hv;clear ho))
  go_ret;refine⟨?_,Mod.trans ((mRf _ w).alloc _) hf1⟩;show Ending.returned (Value.bool _)=_;congr 2
def nR(s:ByteArray):Nat:=(Q0f (Q0c s).1).length
def nH(s:ByteArray):Nat:=(Q0h (Q0c s).1).length
def tabF(s:ByteArray):List Pr:=Q0q (Q0c s).1
def Q72(s:ByteArray)(kinds:List Int):Q98:=Q6b (tabF s) (Q7h s) (nR s) (nH s) kinds 0 [⟨true,0⟩] []
def Q66(e:Int):Q98:=⟨e,[],0,[]⟩
def Q2h(s:ByteArray)(kinds:List Int):Q98 :=
  if 60<kinds.length then Q66 1
  else if(Q0t s).1≠0 then Q66 (Q0t s).1
  else if Q0x (nR s) kinds=false then Q66 7
  else if Q25 s≠[] then Q66 8
  else Q72 s kinds
def Q2d(s:ByteArray)(G:Q98)(w:World)(e:Ending)(w':World):Prop :=
  ∃vn vw,e=.returned (.tuple #[.agg (Q3n vn vw G.place),.int .i64 G.err])/\Q0a w w'/\Q3p w' w.heap.size vn (Q17 (tabF s) G.st)/\IntOwn w' w.heap.size vw G.wanted
theorem Q2d.bad{s:ByteArray}{e:Int}{w w':World}(hf:Q0a w w'):Q2d s (Q66 e) w (.returned (.tuple #[.agg (Q3n (.slice none 0 0) (.slice none 0 0) 0),.int .i64 e])) w' :=
  ⟨_,_,rfl,hf,World.ownsRow_nil _ _ _ _,World.ownsRow_nil _ _ _ _⟩
theorem y9w(s:ByteArray)(kinds:List Int)(vk:Value)(w:World)(hk:Q00 w vk kinds)(hl:60<kinds.length)(hm:kinds.length<=maxLen) :
    Calls Tryz.prog 4 #[.string s,vk] w fun e w'=>Q2d s (Q66 1) w e w':=by
  obtain⟨ka,kc,rfl,hkc,_⟩:=hk;unfold maxLen at hm;have j0:(60:Int)<(kinds.length:Int):=by omega
  go_enter Tryz.func4,Tryz.ntmps4
  go_wp2;exact bodyPost_ret (z0m rfl _ _ w.heap.size 25 (Q3n (.slice none 0 0) (.slice none 0 0) 0) (0,0) _ rfl (z0a _ _) Tryz.underlying25 rfl Q2g) rfl (Q2d.bad ((mRf _ w).alloc _))
theorem x2z(s:ByteArray)(kinds:List Int)(vk:Value)(w:World)(hs:s.size<=maxLen)(hk:Q00 w vk kinds)(hl:kinds.length<=60)(hc:(Q0t s).1≠0) :
    Calls Tryz.prog 4 #[.string s,vk] w fun e w'=>Q2d s (Q66 (Q0t s).1) w e w':=by
  obtain⟨ka,kc,rfl,hkc,_⟩:=hk;have TB:=hid (fun w=>x1w s w hs hc);have c0:((Q0t s).1 != 0)=true:=by simpa using hc
  have j2:¬(60:Int)<(kinds.length:Int):=by omega
  generalize(Q0t s).1=E at TB c0;clear hc;go_enter Tryz.func4,Tryz.ntmps4
  go_wp2_with (first
    |(refine wpList_store_row rfl 25 _ _ rfl w.heap.size (Q3n (.slice none 0 0) (.slice none 0 0) 0) rfl rfl _ _ j0.out Q2g rfl (z1z _ _ _ rfl rfl) ?_)
    |(go_at_call 11;refine(TB.out _).mono ?_;rintro e w1⟨rfl,hf1⟩;have j1:=hid hf1;have j0:Hid ((w1.alloc (.cells #[.int .i64 0,.int .i64 0,.slice none 0 0] 41 (0,0))).heap[w.heap.size]? = some (.cells (Q3n (.slice none 0 0) (.slice none 0 0) 0) 25 (0,0))):=z0b (hf1.at (z0a w _) (fun x=>x));clear hf1))
  refine bodyPost_ret (z0m rfl _ _ w.heap.size 25 (Q3n (.slice none 0 0) (.slice none 0 0) 0) (0,0) _ rfl (setRow_heap _ _ _ _ _ _ j0.out) Tryz.underlying25 rfl Q2g) rfl (Q2d.bad ?_);exact((Mod.trans ((mRf _ w).alloc _) j1.out).alloc _).setRow (fun h=>absurd h (Nat.lt_irrefl _)) _
theorem z4i(s:ByteArray)(hc:(Q0t s).1=0){pvs:List PV}(hm:pvs.map PV.pr=Q0q (Q0c s).1):Q0j pvs=tabF s/\pvs.length<=1000/\nH s<=1000/\nR s<=1000/\Q7h s=Q3w (Q0j pvs) (Q0v (nR s) (nH s)):=by
  obtain⟨z1,z2,z3⟩:=y4j hc;have h1:pvs.length=(Q0q (Q0c s).1).length:=by rw[← hm];simp
  refine⟨hm,by omega,by unfold nH;omega,by unfold nR;omega,?_⟩;unfold Q7h Q0j nR nH;rw[hm]
theorem x4b(s:ByteArray)(hc:(Q0t s).1=0){pvs:List PV}(hm:pvs.map PV.pr=Q0q (Q0c s).1):Q54 ((Q0j pvs).zip (Q0p (Q3w (Q0j pvs) (Q0v (nR s) (nH s))) (Q0j pvs))) (nR s) (nH s)=Q25 s:=by
  obtain⟨h1,_,_,_,h5⟩:=z4i s hc hm;rw[← h5,h1];rfl
theorem x0t(s:ByteArray)(kinds:List Int)(vk:Value)(w:World)(hs:s.size<=maxLen)(hk:Q00 w vk kinds)(hl:kinds.length<=60)(hc:(Q0t s).1=0) :
    Calls Tryz.prog 4 #[.string s,vk] w fun e w'=>Q2d s (Q2h s kinds) w e w':=by
  have TB:=hid (fun w=>x0d s w hs hc);unfold Q9j at TB;have HK:=hid hk;have TC:=hid (fun(pvs:List PV) (hm:pvs.map PV.pr=Q0q (Q0c s).1)=>z4i s hc hm);have AR:Hid (∀(W:World) (vp:Value),Q00 W vk kinds->Calls Tryz.prog 12 #[.agg #[.int .i64 (nR s),.int .i64 (nH s),vp],vk] W fun e w'=>e=.returned (.bool (Q0x (nR s) kinds))/\Q0a W w'):=fun W vp h=>y5t W (nR s) (nH s) vp vk kinds h (by omega);have IC:Hid (∀(W:World) (vp:Value) (pvs:List PV),pvs.map PV.pr=Q0q (Q0c s).1->Q3f W W.heap.size vp pvs->Calls Tryz.prog 13 #[.agg #[.int .i64 (nR s),.int .i64 (nH s),vp]] W fun e w'=>e=.returned (.bool (decide (0<(Q25 s).length)))/\Q0a W w'):=fun W vp pvs hm hp=>by
    obtain⟨h1,h2,h3,h4,h5⟩:=z4i s hc hm;have h:=y0g W (nR s) (nH s) vp pvs hp h2 h3 h4 (by rw[← h5];exact v0i hc);rw[x4b s hc hm]at h;exact h
  have GR:Hid (∀(W:World) (vp:Value) (pvs:List PV),pvs.map PV.pr=Q0q (Q0c s).1->Q3f W W.heap.size vp pvs->Q00 W vk kinds->Q0x (nR s) kinds=true->Q25 s=[]->Calls Tryz.prog 14 #[.agg #[.int .i64 (nR s),.int .i64 (nH s),vp],vk] W fun e w'=>Q2d s (Q72 s kinds) W e w'):=fun W vp pvs hm hp hk hkk hcl=>by
    obtain⟨h1,h2,h3,h4,h5⟩:=z4i s hc hm;have hT:=x3v hc hcl;have h:=x69 W (nR s) (nH s) vp vk pvs kinds (Q7h s) hp hk hl hkk (by rw[h1];exact hT) h5;rw[h1]at h;exact h
  have jd:Hid (∀W:World,Q0a w W->Q00 W vk kinds):=fun W hW=>hk.fresh hW;have e1:((Q0f (Q0c s).1).length:Nat)=nR s:=rfl;have e2:((Q0h (Q0c s).1).length:Nat)=nH s:=rfl;rw[e1,e2]at TB;obtain⟨ka,kc,hvk,hkc,_⟩:=hk;have jh:Q2h s kinds=if Q0x (nR s) kinds=false then Q66 7 else if Q25 s≠[] then Q66 8 else Q72 s kinds:=by
    unfold Q2h;rw[if_neg (by omega),if_neg (by simp[hc])]
  rw[jh];have jn:¬(60:Int)<(kinds.length:Int):=by omega
  generalize nR s=R at *;generalize nH s=H at *;clear jh e1 e2 hc;subst hvk;generalize Q0x R kinds=KO at *;cases KO
  · simp only[if_true]
    go_enter Tryz.func4,Tryz.ntmps4
    go_wp2_with (first
      |(refine wpList_store_row rfl 25 _ _ rfl w.heap.size (Q3n (.slice none 0 0) (.slice none 0 0) 0) rfl rfl _ _ j7.out Q2g rfl (z1z _ _ _ rfl rfl) ?_)
      |(go_at_call 12;refine(AR.out _ _ (jd.out _ j4.out)).mono ?_;rintro e w2⟨rfl,hf2⟩;have j6:=hid (j4.trans hf2);have j7:=hid (hf2.at jc.out (fun x=>x)))
      |(go_at_call 11;refine(TB.out _).mono ?_;rintro e w1⟨vp,pvs,rfl,hf1,hmap,hprs⟩;obtain⟨ra,rc,hvp⟩:=z0d hprs.row.own;subst hvp;have j4:Hid (Q0a w (w1.alloc (.cells #[.int .i64 R,.int .i64 H,.slice ra pvs.length rc] 41 (0,0)))):=(Mod.trans ((mRf _ w).alloc _) hf1).alloc _;have jc:Hid ((w1.alloc (.cells #[.int .i64 R,.int .i64 H,.slice ra pvs.length rc] 41 (0,0))).heap[w.heap.size]? = some (.cells (Q3n (.slice none 0 0) (.slice none 0 0) 0) 25 (0,0))):=z0b (hf1.at (z0a w _) (fun x=>x));clear hf1))
    refine bodyPost_ret (z0m rfl _ _ w.heap.size 25 (Q3n (.slice none 0 0) (.slice none 0 0) 0) (0,0) _ rfl (setRow_heap _ _ _ _ _ _ j7.out) Tryz.underlying25 rfl Q2g) rfl (Q2d.bad ?_);exact j6.setRow (fun h=>absurd h (Nat.lt_irrefl _)) _
  simp only[Bool.true_eq_false,if_false];by_cases hcl:Q25 s=[]
  · rw[if_neg (by simp[hcl])]
    have jf:Hid (decide (0<(Q25 s).length)=false):=by unfold Hid;simp[hcl]
    have je:=hid hcl;generalize hGS:Q72 s kinds=GS at GR ⊢;clear hcl hGS;go_enter Tryz.func4,Tryz.ntmps4
    go_wp2_with (first
      |(refine wpList_store_row rfl 25 _ _ rfl w.heap.size (Q3n (.slice na (Q17 (tabF s) GS.st).length nc) (.slice wa GS.wanted.length wc) GS.place) rfl rfl _ _ ji.out Q2g rfl (z1z _ _ _ rfl rfl) ?_)
      |(go_at_call 14;have j3:=j8.out;refine(GR.out _ _ pvs j2.out (j1.out _ j9.out) (jd.out _ j8.out) (by first|rfl|trivial) je.out).mono ?_;rintro e w4⟨vn,vw,rfl,hf4,hn4,hw4⟩;obtain⟨na,nc,hvn⟩:=z0d hn4;subst hvn;obtain⟨wa,wc,hvw⟩:=z0d hw4;subst hvw;have jj:=hid hn4;have jk:=hid hw4;have jl:=hid hf4;have ji:=hid (hf4.at ja.out (fun x=>x));clear hn4 hw4 hf4)
      |(go_at_call 13;have j3:=j6.out;refine(IC.out _ _ pvs j2.out (j1.out _ jb.out)).mono ?_;rw[jf.out];rintro e w3⟨rfl,hf3⟩;have j8:=hid (j6.trans hf3);have j9:=hid (jb.trans hf3);have ja:=hid (hf3.at j7.out (fun x=>x));have j5:=hid (hf3.at j0.out (fun x=>x));have u0:=Q0b j5.out 0;have u1:=Q0b j5.out 1;have u2:=Q0b j5.out 2;simp at u0 u1 u2;clear hf3)
      |(go_at_call 12;refine(AR.out _ _ (jd.out _ j4.out)).mono ?_;rintro e w2⟨rfl,hf2⟩;have j6:=hid (j4.trans hf2);have jb:=hid hf2;have j7:=hid (hf2.at jc.out (fun x=>x));have j0:=hid (hf2.at (z0a w1 _) (fun x=>x));have t0:=Q0b j0.out 0;have t1:=Q0b j0.out 1;have t2:=Q0b j0.out 2;simp at t0 t1 t2;clear hf2)
      |(go_at_call 11;refine(TB.out _).mono ?_;rintro e w1⟨vp,pvs,rfl,hf1,hmap,hprs⟩;obtain⟨ra,rc,hvp⟩:=z0d hprs.row.own;subst hvp;have j2:=hid hmap;have j1:Hid (∀W,Q0a (w1.alloc (.cells #[.int .i64 R,.int .i64 H,.slice ra pvs.length rc] 41 (0,0))) W->Q3f W W.heap.size (.slice ra pvs.length rc) pvs):=fun W hW=>(hprs.kept (qR _) (Mod.trans ((mRf (fun _=>False) w1).alloc _) hW) (fun _ _ x=>x)).up (Mod.trans ((mRf (fun _=>False) w1).alloc _) hW).size;have j4:Hid (Q0a w (w1.alloc (.cells #[.int .i64 R,.int .i64 H,.slice ra pvs.length rc] 41 (0,0)))):=(Mod.trans ((mRf _ w).alloc _) hf1).alloc _;have jc:Hid ((w1.alloc (.cells #[.int .i64 R,.int .i64 H,.slice ra pvs.length rc] 41 (0,0))).heap[w.heap.size]? = some (.cells (Q3n (.slice none 0 0) (.slice none 0 0) 0) 25 (0,0))):=z0b (hf1.at (z0a w _) (fun x=>x));clear hf1 hmap hprs))
    refine bodyPost_ret (z0m rfl _ _ w.heap.size 25 (Q3n (.slice na (Q17 (tabF s) GS.st).length nc) (.slice wa GS.wanted.length wc) GS.place) (0,0) _ rfl (setRow_heap _ _ _ _ _ _ ji.out) Tryz.underlying25 rfl Q2g) rfl ?_;have jg:=j8.size;have jm:=z0j ja.out;refine⟨_,_,rfl,(j8.trans jl.out).setRow (fun h=>absurd h (Nat.lt_irrefl _)) _,?_,?_⟩
    · refine z0f (z0c jj.out (fun g hg=>?_)) jg
      have:=(jj.lt g hg).1;exact setRow_other _ _ _ _ (by omega)
    refine z0f (z0c jk.out (fun g hg=>?_)) jg;have:=(jk.lt g hg).1;exact setRow_other _ _ _ _ (by omega)
  rw[if_pos hcl];have jf:Hid (decide (0<(Q25 s).length)=true):=by unfold Hid;simp;exact List.length_pos_iff.2 hcl
  clear hcl;go_enter Tryz.func4,Tryz.ntmps4
  go_wp2_with (first
    |(refine wpList_store_row rfl 25 _ _ rfl w.heap.size (Q3n (.slice none 0 0) (.slice none 0 0) 0) rfl rfl _ _ ja.out Q2g rfl (z1z _ _ _ rfl rfl) ?_)
    |(go_at_call 13;have j3:=j6.out;refine(IC.out _ _ pvs j2.out (j1.out _ jb.out)).mono ?_;rw[jf.out];rintro e w3⟨rfl,hf3⟩;have j8:=hid (j6.trans hf3);have j9:=hid (jb.trans hf3);have ja:=hid (hf3.at j7.out (fun x=>x));have j5:=hid (hf3.at j0.out (fun x=>x));have u0:=Q0b j5.out 0;have u1:=Q0b j5.out 1;have u2:=Q0b j5.out 2;simp at u0 u1 u2;clear hf3)
    |(go_at_call 12;refine(AR.out _ _ (jd.out _ j4.out)).mono ?_;rintro e w2⟨rfl,hf2⟩;have j6:=hid (j4.trans hf2);have jb:=hid hf2;have j7:=hid (hf2.at jc.out (fun x=>x));have j0:=hid (hf2.at (z0a w1 _) (fun x=>x));have t0:=Q0b j0.out 0;have t1:=Q0b j0.out 1;have t2:=Q0b j0.out 2;simp at t0 t1 t2;clear hf2)
    |(go_at_call 11;refine(TB.out _).mono ?_;rintro e w1⟨vp,pvs,rfl,hf1,hmap,hprs⟩;obtain⟨ra,rc,hvp⟩:=z0d hprs.row.own;subst hvp;have j2:=hid hmap;have j1:Hid (∀W,Q0a (w1.alloc (.cells #[.int .i64 R,.int .i64 H,.slice ra pvs.length rc] 41 (0,0))) W->Q3f W W.heap.size (.slice ra pvs.length rc) pvs):=fun W hW=>(hprs.kept (qR _) (Mod.trans ((mRf (fun _=>False) w1).alloc _) hW) (fun _ _ x=>x)).up (Mod.trans ((mRf (fun _=>False) w1).alloc _) hW).size;have j4:Hid (Q0a w (w1.alloc (.cells #[.int .i64 R,.int .i64 H,.slice ra pvs.length rc] 41 (0,0)))):=(Mod.trans ((mRf _ w).alloc _) hf1).alloc _;have jc:Hid ((w1.alloc (.cells #[.int .i64 R,.int .i64 H,.slice ra pvs.length rc] 41 (0,0))).heap[w.heap.size]? = some (.cells (Q3n (.slice none 0 0) (.slice none 0 0) 0) 25 (0,0))):=z0b (hf1.at (z0a w _) (fun x=>x));clear hf1 hmap hprs))
  refine bodyPost_ret (z0m rfl _ _ w.heap.size 25 (Q3n (.slice none 0 0) (.slice none 0 0) 0) (0,0) _ rfl (setRow_heap _ _ _ _ _ _ ja.out) Tryz.underlying25 rfl Q2g) rfl (Q2d.bad ?_);exact j8.setRow (fun h=>absurd h (Nat.lt_irrefl _)) _
theorem x2l(s:ByteArray)(kinds:List Int)(vk:Value)(w:World)(hs:s.size<=maxLen)(hk:Q00 w vk kinds)(hm:kinds.length<=maxLen) :
    Calls Tryz.prog 4 #[.string s,vk] w fun e w'=>Q2d s (Q2h s kinds) w e w':=by
  by_cases hl:60<kinds.length
  · have e:Q2h s kinds=Q66 1:=by unfold Q2h;rw[if_pos hl]
    rw[e];exact y9w s kinds vk w hk hl hm
  by_cases hc:(Q0t s).1=0
  · exact x0t s kinds vk w hs hk (by omega) hc
  have e:Q2h s kinds=Q66 (Q0t s).1:=by unfold Q2h;rw[if_neg hl,if_pos hc]
  rw[e];exact x2z s kinds vk w hs hk (by omega) hc
theorem y7l{ps:List Pr}{R H:Nat}{hs:List Hd}(h:Tab ps R H hs):∀(l:List Int) (a:Nat) (k:List Sy) (st:List St),Q4u (hN hs) (hF hs) (hO hs) R k->Q29 R H k->(∀s∈st,0<=s.num/\s.num<=127)->Q0x R l=true ->
    a+l.length<=60->k.length<=1+48*a->st.length<=a*2000000000->(Q6b ps hs R H l a k st).st.length<=61*2000000000/\(Q6b ps hs R H l a k st).wanted.length<=9
  | [],a,k,st,h1,h2,h3,_,h5,h6,h7=>by
    unfold Q6b;split
    · rename_i hw
      obtain⟨_,s2,s3,_,_,_,s7⟩:=h.step (qR _) h1 h2 h3 hw;simp only[List.length_nil,Nat.add_zero]at h5;obtain⟨_,_,q3,_⟩:=Q9l h5 h6 h7 s3 s2 s7;refine⟨Nat.le_trans q3 (Nat.mul_le_mul_right _ (by omega)),by simp⟩
    exact⟨by simp,z39 _⟩
  |t::l,a,k,st,h1,h2,h3,h4,h5,h6,h7=>by
    have h8:(0<=t/\t<R)/\Q0x R l=true:=by
      unfold Q0x at h4 ⊢;simpa using h4
    simp only[List.length_cons]at h5;unfold Q6b;split
    · rename_i hw
      obtain⟨_,s2,s3,s4,s5,s6,s7⟩:=h.step (t:=t.toNat) (by omega) h1 h2 h3 hw;obtain⟨_,_,q3,q4⟩:=Q9l (show a<=60 by omega) h6 h7 s3 s2 s7;exact y7l h l (a+1) _ _ s4 s5 s6 h8.2 (by omega) q4 q3
    exact⟨by simp,z39 _⟩
theorem x9z{s:ByteArray}(hc:(Q0t s).1=0)(hcl:Q25 s=[])(l:List Int)(hk:Q0x (nR s) l=true)(hl:l.length<=60):(Q72 s l).st.length<=61*2000000000/\(Q72 s l).wanted.length<=9:=by
  have hT:=x3v hc hcl;exact y7l hT l 0 _ _ hT.start.1 hT.start.2 (by simp) hk (by omega) (by simp) (by simp)
def thr(ps:List Pr)(hs:List Hd)(R H:Nat):List Int->List Sy->List St->Option (List Sy × List St)
  | [],k,st=>some (k,st)
  |t::l,k,st=>if(Q5w hs R k).getD t.toNat false then thr ps hs R H l (Q7t ps hs H t.toNat k st).1 (Q7t ps hs H t.toNat k st).2 else none
section
variable {ps:List Pr}{hs:List Hd}{R H:Nat}
theorem y19:∀(l:List Int) (k:List Sy) (st:List St) (r:List Sy × List St),thr ps hs R H l k st=some r->∀j,∃r',thr ps hs R H (l.take j) k st=some r'
  | [],k,st,r,h,j=>⟨_,by rw[List.take_nil];rfl⟩
  |t::l,k,st,r,h,0=>⟨_,rfl⟩
  |t::l,k,st,r,h,j+1=>by
    unfold thr at h;split at h
    · rename_i hw
      obtain⟨r',h'⟩:=y19 l _ _ r h j;exact⟨r',by rw[List.take_succ_cons,thr,if_pos hw];exact h'⟩
    cases h
theorem y8e:∀(l:List Int) (a:Nat) (k:List Sy) (st:List St),∃(n:Nat) (r:List Sy × List St),n<=l.length/\thr ps hs R H (l.take n) k st=some r /\
    ((n=l.length/\(Q5w hs R r.1).getD R false=true/\(Q6b ps hs R H l a k st).err=0) ∨
     ((Q6b ps hs R H l a k st).err=10/\(Q6b ps hs R H l a k st).place=a+n/\(Q6b ps hs R H l a k st).st=[]/\(Q6b ps hs R H l a k st).wanted=Q27 (Q5w hs R r.1) /\
      (∀h:n<l.length,(Q5w hs R r.1).getD l[n].toNat false=false)/\(n=l.length->(Q5w hs R r.1).getD R false=false)))
  | [],a,k,st=>by
    refine⟨0,(k,st),qR _,rfl,?_⟩;unfold Q6b;split
    · rename_i hw;exact .inl ⟨rfl,hw,rfl⟩
    rename_i hw;exact .inr ⟨rfl,rfl,rfl,rfl,fun h=>absurd h (by simp),fun _=>by simpa using hw⟩
  |t::l,a,k,st=>by
    unfold Q6b;split
    · rename_i hw
      obtain⟨n,r,h1,h2,h3⟩:=y8e l (a+1) (Q7t ps hs H t.toNat k st).1 (Q7t ps hs H t.toNat k st).2;refine⟨n+1,r,by simpa using h1,by rw[List.take_succ_cons,thr,if_pos hw];exact h2,?_⟩;rcases h3 with⟨e1,e2,e3⟩|⟨e1,e2,e3,e4,e5,e6⟩
      · exact .inl ⟨by simp[e1],e2,e3⟩
      exact .inr ⟨e1,by rw[e2];omega,e3,e4,fun h=>by simpa using e5 (by simpa using h),fun h=>e6 (by simpa using h)⟩
    rename_i hw;exact⟨0,(k,st),Nat.zero_le _,rfl,.inr ⟨rfl,rfl,rfl,rfl,fun _=>by simpa using hw,fun h=>by simp at h⟩⟩
end
theorem y0t{R:Int}{l:List Int}(h:Q0x R l=true)(n:Nat):Q0x R (l.take n)=true:=by
  unfold Q0x at h ⊢;rw[List.all_eq_true]at h ⊢;exact fun x hx=>h x (List.mem_of_mem_take hx)
def Q1d(ps:List Pr):List St->List Sy->Option (List Sy)
  | [],k=>some k
  |_::_,[]=>none
  | s :: l,y::k=>if s.leaf then(if y.isH=false/\y.num=s.num then Q1d ps l k else none)
      else if y.isH=true/\0<=s.num then(match ps[s.num.toNat]? with
        |some p=>if p.head=y.num then Q1d ps l (p.syms++k) else none
        |none=>none) else none
def Q0d(l:List St):List Int:=(l.filter St.leaf).map St.num
theorem z0o(a b:List St):Q0d (a++b)=Q0d a++Q0d b:=by simp[Q0d]
theorem z26{a:List St}(h:∀x∈a,x.leaf=false):Q0d a=[]:=by
  unfold Q0d;rw[List.filter_eq_nil_iff.2 (fun x hx=>by simp[h x hx])];rfl
theorem z1f(ps:List Pr):∀(a b:List St) (k:List Sy),Q1d ps (a++b) k=(Q1d ps a k).bind (Q1d ps b)
  | [],b,k=>rfl
  |s::a,b,[]=>rfl
  |s::a,b,y::k=>by
    simp only[List.cons_append,Q1d];split
    · split
      · exact z1f ps a b k
      rfl
    split
    · split
      · split
        · exact z1f ps a b _
        rfl
      rfl
    rfl
theorem y27{ps:List Pr}{ch:Int->Nat->Int}{t:Nat}(hch:∀X,0<=ch X t->∃p,ps[(ch X t).toNat]? = some p/\p.head=X):∀(f:Nat) (k:List Sy) (st:List St) (r:List Sy × List St),gTo ps ch t f k st=some r->∃ns,r.2=st++ns/\Q1d ps ns k=some r.1
  |0,_,_,_,h=>by cases h
  |f+1,[],st,r,h=>by cases h;exact⟨[],by simp,rfl⟩
  |f+1,s::k,st,r,h=>by
    unfold gTo at h;split at h
    · rename_i hs
      cases h;exact⟨[⟨true,s.num⟩],rfl,by simp[Q1d,hs]⟩
    rename_i hs;split at h
    · rename_i h0
      obtain⟨p,hp,hh⟩:=hch _ h0;rw[hp]at h;obtain⟨ns,h1,h2⟩:=y27 hch f _ _ r h;refine⟨⟨false,ch s.num t⟩::ns,by rw[h1];simp,?_⟩;have j0:s.isH=true:=by simpa using hs
      simp only[Q1d,qF,if_false];rw[if_pos ⟨j0,h0⟩,hp];simp only[];rw[if_pos hh];exact h2
    cases h
section
variable {ps:List Pr}{R H:Nat}{N:Int->Bool}{F O:Int->Nat->Bool}{ch:Int->Nat->Int}
theorem z58{t:Nat}:∀(l:List Sy),(∀s∈l,∃(c:Nat) (ns:List St),(∀x∈ns,x.leaf=false)/\∀f k st,gTo ps ch t (c+f) (s::k) st=gTo ps ch t f k (st++ns)) ->
    ∃(c:Nat) (ns:List St),(∀x∈ns,x.leaf=false)/\∀f k st,gTo ps ch t (c+f) (l++k) st=gTo ps ch t f k (st++ns)
  | [],_=>⟨0,[],by simp,fun f k st=>by simp⟩
  |s::l,h=>by
    obtain⟨c1,n1,h1,h3⟩:=h s (by simp);obtain⟨c2,n2,h4,h6⟩:=z58 l (fun x hx=>h x (by simp[hx]));refine⟨c1+c2,n1++n2,?_,fun f k st=>?_⟩
    · intro x hx
      rcases List.mem_append.1 hx with hx|hx
      · exact h1 x hx
      exact h4 x hx
    rw[Nat.add_assoc,List.cons_append,h3,h6,List.append_assoc]
theorem LLG.nullN(g:LLG ps R H N F O ch){t:Nat}(ht:t<=R):∀(n:Nat) (s:Sy),s.isH=true->NS ps n s.num=true->O s.num t=true ->
    ∃(c:Nat) (ns:List St),(∀x∈ns,x.leaf=false)/\∀f k st,gTo ps ch t (c+f) (s::k) st=gTo ps ch t f k (st++ns)
  |0,_,_,h,_=>by cases h
  |n+1,s,hs,h,ho=>by
    obtain⟨i,p,hi,hp,hc,hl,hall⟩:=g.nul1 h ht ho;obtain⟨c,ns,h1,h3⟩:=z58 (ps:=ps) (ch:=ch) (t:=t) p.syms (fun x hx=>g.nullN ht n x (hall x hx).1 (hall x hx).2.1 (hall x hx).2.2);refine⟨c+1,⟨false,i⟩::ns,?_,fun f k st=>?_⟩
    · intro x hx
      simp only[List.mem_cons]at hx;rcases hx with rfl|hx
      · rfl
      exact h1 x hx
    rw[show c+1+f=c+f+1 by omega,z5k hi hs hc,h3,List.append_assoc];rfl
theorem LLG.firstN(g:LLG ps R H N F O ch){t:Nat}(ht:t<=R):∀(n:Nat) (s:Sy),s.isH=true->FS ps N t n s.num=true ->
    ∃(c:Nat) (ns:List St) (k':List Sy),(∀x∈ns,x.leaf=false)/\∀f k st,gTo ps ch t (c+f+1) (s::k) st=some (k'++k,st++ns++[⟨true,t⟩])
  |0,_,_,h=>by cases h
  |n+1,s,hs,h=>by
    unfold FS at h;rw[List.any_eq_true]at h;obtain⟨p,hp,h⟩:=h;simp only[Bool.and_eq_true,beq_iff_eq]at h;obtain⟨i,hi⟩:=v0c hp;have hb:=z4b (g.fsF t n) _ h.2;have ha:ahd N F O p t=true:=by unfold ahd;rw[hb];rfl
    have hc:=g.one i p hi t ht ha;rw[h.1]at hc;obtain⟨a,x,b,e,h1,h2⟩:=z1q h.2;have j2:(if x.isH then F x.num t else x.num==(t:Int))=true:=by
      cases hx:x.isH
      · rw[hx]at h2;exact h2
      rw[hx]at h2;exact g.fsF t n _ h2
    obtain⟨c,ns,k1,k3⟩:=z58 (ps:=ps) (ch:=ch) (t:=t) a (fun y hy=>by
      have j0:=(List.all_eq_true.1 h1) y hy;simp only[Q30,Bool.and_eq_true]at j0;refine g.nullN ht H y j0.1 (g.leN _ j0.2) ?_;obtain⟨a1,a2,ea⟩:=List.append_of_mem hy;refine g.clO p hp a1 y (a2++x::b) (by rw[e,ea];simp) j0.1 t ?_;have:Q3s N (fun X=>F X t) t (a2++x::b)=true:=z27 x b j2 a2 (by
        rw[List.all_eq_true]at h1 ⊢;intro z hz;exact h1 z (by rw[ea];simp[hz]))
      rw[this];rfl)
    have j1:∀y∈(⟨false,i⟩:St)::ns,y.leaf=false:=fun y hy=>by
      simp only[List.mem_cons]at hy;rcases hy with rfl|hy
      · rfl
      exact k1 y hy
    cases hx:x.isH
    · rw[hx]at h2
      simp only[qF,if_false,beq_iff_eq]at h2;refine⟨c+1,⟨false,i⟩::ns,b,j1,fun f k st=>?_⟩;rw[show c+1+f+1=c+(f+1)+1 by omega,z5k hi hs hc,e,List.append_assoc,k3,List.cons_append,gTo,if_pos hx,h2];simp
    rw[hx]at h2;simp only[if_true]at h2;obtain⟨c',ns',k',m1,m4⟩:=g.firstN ht n x hx h2;refine⟨c+1+c',⟨false,i⟩::(ns++ns'),k'++b,?_,fun f k st=>?_⟩
    · intro y hy
      rw[← List.cons_append]at hy;rcases List.mem_append.1 hy with hy|hy
      · exact j1 y hy
      exact m1 y hy
    rw[show c+1+c'+f+1=c+(c'+f+1)+1 by omega,z5k hi hs hc,e,List.append_assoc,k3,List.cons_append,m4];simp
theorem LLG.leaf(g:LLG ps R H N F O ch){t:Nat}(ht:t<=R)(k:List Sy)(hk:Q4u N F O R k)(hin:Q29 R H k)(hw:Q6j N F R k t=true)(st:List St){f:Nat}{r:List Sy × List St}(hr:gTo ps ch t f k st=some r) :
    ∃ns,r.2=st++ns/\((t<R/\Q0d ns=[(t:Int)])∨(t=R/\Q0d ns=[]/\r.1=[])):=by
  have j2:∀(a:List Sy) (x:List Sy),k=a++x->a.all (Q30 N)=true->Q6j N F R x t=true->∃(c:Nat) (ns:List St),(∀x∈ns,x.leaf=false)/\∀f k st,gTo ps ch t (c+f) (a++k) st=gTo ps ch t f k (st++ns):=by
    intro a x e ha hx;refine z58 a (fun y hy=>?_);have j1:=(List.all_eq_true.1 ha) y hy;simp only[Q30,Bool.and_eq_true]at j1;refine g.nullN ht H y j1.1 (g.leN _ j1.2) ?_;obtain⟨a1,a2,ea⟩:=List.append_of_mem hy;refine hk a1 y (a2++x) (by rw[e,ea];simp) j1.1 t ?_;have j4:a2.all (Q30 N)=true:=by
      rw[List.all_eq_true]at ha ⊢;intro z hz;exact ha z (by rw[ea];simp[hz])
    unfold Q6j at hx ⊢;rw[z2x,List.all_append,j4];simp only[Bool.true_and];rw[Bool.or_assoc,hx];simp
  have j0:∀{f':Nat}{r':List Sy × List St},gTo ps ch t f' k st=some r'->r=r':=fun {f' r'} h'=>by
    have h1:=z13 _ _ _ _ hr (f+f') (by omega);have h2:=z13 _ _ _ _ h' (f+f') (by omega);rw[h1]at h2;simpa using h2
  unfold Q6j at hw;cases hb:Q3s N (fun X=>F X t) t k
  · rw[hb]at hw
    simp only[Bool.false_or,Bool.and_eq_true,beq_iff_eq]at hw;obtain⟨hw1,rfl⟩:=hw;obtain⟨c,ns,h1,h3⟩:=j2 k [] (by simp) hw1 (by simp[Q6j,Q3s]);have h4:=h3 1 [] st;rw[List.append_nil]at h4;have e:=j0 (f':=c+1) (r':=([],st++ns)) (by rw[h4];rfl);rw[e];exact⟨ns,rfl,.inr ⟨rfl,z26 h1,rfl⟩⟩
  obtain⟨a,s,b,rfl,ha,hs⟩:=z1q hb;have j3:t<R:=by
    cases hx:s.isH
    · rw[hx]at hs
      simp only[qF,if_false,beq_iff_eq]at hs;have:=hin s (by simp);rw[hx]at this;simp only[qF,if_false]at this;omega
    rw[hx]at hs;exact g.bF _ _ hs
  obtain⟨c,ns,h1,h3⟩:=j2 a (s::b) rfl ha (by
    unfold Q6j;have:Q3s N (fun X=>F X t) t ([]++s::b)=true:=z27 s b hs [] rfl;rw[List.nil_append]at this;rw[this];rfl)
  cases hx:s.isH
  · rw[hx]at hs
    simp only[qF,if_false,beq_iff_eq]at hs;have e:=j0 (f':=c+1) (r':=(b,st++ns++[⟨true,s.num⟩])) (by rw[h3,gTo,if_pos hx]);rw[e];refine⟨ns++[⟨true,s.num⟩],by simp,.inl ⟨j3,?_⟩⟩;rw[z0o,z26 h1,hs];rfl
  rw[hx]at hs;simp only[if_true]at hs;obtain⟨c',ns',k',m1,m4⟩:=g.firstN ht H s hx (g.leF _ _ hs);have e:=j0 (f':=c+(c'+0+1)) (r':=(k'++b,st++ns++ns'++[⟨true,t⟩])) (by rw[h3];exact m4 0 b (st++ns));rw[e];refine⟨ns++ns'++[⟨true,t⟩],by simp,.inl ⟨j3,?_⟩⟩;rw[z0o,z0o,z26 h1,z26 m1];rfl
end
end Go.Proofs.YtcpceafmlgaodaaGreat
