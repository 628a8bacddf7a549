import Derived.Test.YtbdpfmalabgmbaaGreatTw7
namespace Go.Proofs.YtbdpfmalabgmbaaGreat
open Go.RowKit
set_option maxRecDepth 99999
set_option maxHeartbeats 0
set_option linter.all false
theorem y4v{l:List Bool}(h:l.length=9)(t:Nat):(Q3e l).any (·==(t:Int))=l.getD t false:=x3s h t
theorem z53(vn vw:Value)(a:Int)(h1:vn.oneCell'=true)(h2:vw.oneCell'=true):(#[vn,vw,Value.int .i64 a]:Array Value).all (·.oneCell')=true :=
 qCq (cs:=[vn,vw,.int .i64 a]) (by intro v hv;simp only[qBu,qEi,or_false]at hv;rcases hv with rfl|rfl|rfl;exact h1;exact h2;rfl)
def GrS(ps:List Pr)(hs:List Hd)(R H:Nat)(kinds:List Int)(G:GOut)(a:Nat)(k:List Sy)(st:List St):Prop :=
 if a<=kinds.length then Q6k ps hs R H (kinds.drop a) a k st=G else G=⟨0,[],0,st⟩
theorem GrS.kind{ps:List Pr}{hs:List Hd}{R H:Nat}{kinds:List Int}{G:GOut}{a:Nat}{k:List Sy}{st:List St}(h:GrS ps hs R H kinds G a k st)(ha:a<kinds.length)(t:Nat)(ht:kinds[a]=t) :
  if(Q57 hs R k).getD t false then GrS ps hs R H kinds G (a+1) (Q7w ps hs H t k st).1 (Q7w ps hs H t k st).2 else G=⟨10,Q3e (Q57 hs R k),a,[]⟩:=by
 unfold GrS at h ⊢;rw[qAb (by omega),qC ha,ht]at h;unfold Q6k at h;rw[qAo]at h;rw[qAb (show a+1<=kinds.length by omega)];split
 ·rename_i e;rw[qAb e]at h;exact h
 rename_i e;rw[qAa e]at h;exact h.symm
theorem GrS.last{ps:List Pr}{hs:List Hd}{R H:Nat}{kinds:List Int}{G:GOut}{a:Nat}{k:List Sy}{st:List St}(h:GrS ps hs R H kinds G a k st)(ha:a=kinds.length) :
  if(Q57 hs R k).getD R false then GrS ps hs R H kinds G (a+1) (Q7w ps hs H R k st).1 (Q7w ps hs H R k st).2 else G=⟨10,Q3e (Q57 hs R k),a,[]⟩:=by
 unfold GrS at h ⊢;rw[qAb (by omega),ha,qCy]at h;unfold Q6k at h;rw[qAa (show ¬(a+1<=kinds.length) by omega)];split
 ·rename_i e;rw[qAb e]at h;exact h.symm
 rename_i e;rw[qAa e]at h;rw[ha];exact h.symm
theorem Q95{a kl sl rl pl:Nat}(ha:a<=60)(h1:kl<=1+48*a)(h2:sl<=a*2000000000)(h3:rl<=sl+(kl*335923+16124313))(h4:pl<=kl+48)(h5:sl<=rl) :
  rl<=1000000000000/\kl+6*rl<=100000000000+6*sl/\rl<=(a+1)*2000000000/\pl<=1+48*(a+1):=by omega
abbrev Q6m(vn vw:Value)(a:Int):Array Value:=#[vn,vw,.int .i64 a]
theorem Q7d:(Tryz.prog.info? 50).map (·.size)=some 3:=by kernel_rfl
theorem y8p(w:World)(R H:Nat)(vp vk:Value)(ps:List PV)(kinds:List Int)(hs:List Hd)(hp:Q2e w w.heap.size vp ps)(hk:Q1c w vk kinds)(hkl:kinds.length<=60)(hkk:Q1z R kinds=true)
  (hT:Tab (Q0k ps) R H hs) (hse:hs=Q33 (Q0k ps) (Q0z R H)) :
  Calls Tryz.prog 16 #[.agg #[.int .i64 R,.int .i64 H,vp],vk] w fun e w'=>∃vn vw,e=.returned (.tuple #[.agg (Q6m vn vw (Q6k (Q0k ps) hs R H kinds 0 [⟨true,0⟩] []).place),.int .i64 (Q6k (Q0k ps) hs R H kinds 0 [⟨true,0⟩] []).err])/\Q0a w w' /\
   Q2x w' w.heap.size vn (Q1p (Q0k ps) (Q6k (Q0k ps) hs R H kinds 0 [⟨true,0⟩] []).st)/\IntOwn w' w.heap.size vw (Q6k (Q0k ps) hs R H kinds 0 [⟨true,0⟩] []).wanted:=by
 have xm:ps.length<=20:=by have:=hT.hl;simpa [Q0k]using this
 have hR:=hT.hR;have hH:=hT.hH;obtain⟨pa,pc,xi⟩:=z0c hp.row.own;subst xi;obtain⟨ka,kc,rfl,xl,j7⟩:=hk;have x4:=hid j7;have HP:=hid hp;have HT:=hid hT;have x5:=hid hkk;have NG:Hid (∀W:World,Q0a w W->Calls Tryz.prog 35 #[.agg #[.int .i64 R,.int .i64 H,.slice pa ps.length pc]] W fun e w'=>∃gb fb vh,e=.returned (Q3c gb)/\Q0a W w' /\
   w'.heap[gb]? = some (.cells (gdA (Q3c fb) (Q6d ((Q0k ps).zip (Q0r hs (Q0k ps))) 72)) 145 (0,0))/\FA w' fb R H (.slice pa ps.length pc) vh ps hs):=fun W hW=>by
  have h:=y44 W R H (.slice pa ps.length pc) ps ((HP.kept (qR _) hW (fun _ _ x=>x)).up hW.size) (by omega) (by omega) (by omega) (by rw[← hse];exact HT.ok);rw[← hse]at h;exact h
 generalize hG:Q6k (Q0k ps) hs R H kinds 0 [⟨true,0⟩] []=G;have HG:=hid hG;clear hp j7 hT hkk hse hG;go_enter Tryz.func16,Tryz.ntmps16
 go_wp2_with (first
  |(go_at_call 35;refine(NG.out _ (((mRf _ w).alloc _).alloc _)).mono ?_;rintro e w1⟨gb,fb,vh,rfl,jt,kb,kp⟩;have jg:=jt.at (z0b (z0a w _)) id;have t0:=Q0b jg 0;have t1:=Q0b jg 1;have t2:=Q0b jg 2;simp at t0 t1 t2;have xn:=z0j jg;have x8:=hid jg;clear jg))
 have kv:gb<w1.heap.size:=z0j kb;have jk:=jt.at (z0a (w.alloc _) _) id;have jk:w1.heap[w.heap.size+1]? = some (.cells (Q6m (.slice none 0 0) (.slice none 0 0) 0) 50 (0,0)):=by simpa using jk
 have xf:=z0j jk;have x7:=hid jk;have jy:=hid kb;have x2:=hid kp;have kk:Hid (Q0a w w1):=Mod.trans (((mRf _ w).alloc _).alloc _) jt;have jb:Hid (GA (((w1.alloc (.cells #[.bool true,.int .i64 0] 93 (0,0))).alloc (.cells #[.bool true,.int .i64 0] 93 (0,0))).alloc (.cells #[.int .i64 R,.int .i64 H,.slice pa ps.length pc,Q3c gb,.slice (some ⟨w1.heap.size+1,0,none⟩) 1 1,.slice none 0 0] 97 (0,0))) (w1.heap.size+1+1) w1.heap.size R H (.slice pa ps.length pc) (Q3c gb) (.slice (some ⟨w1.heap.size+1,0,none⟩) 1 1) (.slice none 0 0) [⟨true,0⟩] []):=by
  refine⟨by omega,?_,?_,qAh _ _ _ _,by simp[Value.ownBlock],by simp[Value.ownBlock],by simp[Value.ownBlock]⟩
  ·exact z01 _ _ _ _
  refine⟨rfl,.inr ⟨w1.heap.size+1,1,#[.bool true,.int .i64 0],rfl,by omega,?_,by simp,by unfold maxLen;omega,rfl,rfl⟩⟩;exact z06 _ _ _ _
 have km:Hid (UpB w1.heap.size w1 (((w1.alloc (.cells #[.bool true,.int .i64 0] 93 (0,0))).alloc (.cells #[.bool true,.int .i64 0] 93 (0,0))).alloc (.cells #[.int .i64 R,.int .i64 H,.slice pa ps.length pc,Q3c gb,.slice (some ⟨w1.heap.size+1,0,none⟩) 1 1,.slice none 0 0] 97 (0,0)))):=(((mRf _ w1).alloc _).alloc _).alloc _;generalize(((w1.alloc (.cells #[.bool true,.int .i64 0] 93 (0,0))).alloc (.cells #[.bool true,.int .i64 0] 93 (0,0))).alloc (.cells #[.int .i64 R,.int .i64 H,.slice pa ps.length pc,Q3c gb,.slice (some ⟨w1.heap.size+1,0,none⟩) 1 1,.slice none 0 0] 97 (0,0)))=W3 at jb km ⊢;obtain⟨b,ku⟩:∃b,w1.heap.size+1+1=b:=⟨_,rfl⟩;rw[ku]at jb ⊢;clear jk kb kp jt t0 t1 t2 ku NG;go_loopw [9,10,11] (fun x9 _ _ wr=>∃(a:Nat) (k:List Sy) (st:List St) (jq ju:Value),x9=.int .i64 a/\a<=kinds.length+1/\GrS (Q0k ps) hs R H kinds G a k st/\GA wr b w1.heap.size R H (.slice pa ps.length pc) (Q3c gb) jq ju k st/\UpB w1.heap.size w1 wr /\
    Q4z (hN hs) (hF hs) (hO hs) R k/\Q3d R H k/\(∀s∈st,0<=s.num/\s.num<=127)/\k.length<=1+48*a/\st.length<=a*2000000000)
   (fun x _ _ _=>63-(intOf x).toNat)
 case atStart=>exact⟨0,[⟨true,0⟩],[],_,_,rfl,by omega,by unfold GrS;rw[qAb (by omega)];exact HG.out,jb.out,km.out,HT.start.1,HT.start.2,by simp,by simp,by simp⟩
 obtain⟨a,k,st,jq,ju,rfl,ha,xc,k7,hU,x1,x0,kz,jd,j8⟩:=hrel;have jr:=xc;have ja:=hid k7;have kn:=hid hU;have kl:=hid x1;have js:=hid x0;have k0:=hid kz;have j4:Hid (Q0a w wr):=Mod.trans' kk.out hU (fun i h1 h2=>by omega);have kh:w1.heap.size<=wr.heap.size:=hU.size;have jm:=hU.at x8.out (by omega);have t0:=Q0b jm 0;have t1:=Q0b jm 1;have t2:=Q0b jm 2;simp at t0 t1 t2;have k3:=hid (hU.at x7.out (by omega));have xk:=hid jm;have jx:=hid (hU.at jy.out (by omega));have jv:=hid (x2.kept hU (fun k hk=>hk));have k2:Hid (Q2e wr w1.heap.size (.slice pa ps.length pc) ps):=(HP.kept (qR _) j4.out (fun _ _ x=>x)).up kk.size;have k4:=k7.cell 4;simp at k4;clear k7 hU x1 x0 kz jm;by_cases xa:a<=kinds.length
 ·have k8:(a:Int)<=(kinds.length:Int):=by omega
  have jf:=hid (x1f wr gb fb (Q6d ((Q0k ps).zip (Q0r hs (Q0k ps))) 72) R H (.slice pa ps.length pc) vh ps hs k jq w1.heap.size jx.out jv.out ja.ks (by omega) hR);by_cases ky:a<kinds.length
  ·have kd:(a:Int)<(kinds.length:Int):=by omega
   have kw:=(qAy.1 x5.out) kinds[a] (by simp);simp only[qAd,qAu]at kw;obtain⟨t,ht⟩:∃t:Nat,kinds[a]=t:=⟨kinds[a].toNat,by omega⟩;have xg:t<=R:=by omega
   have jc:Hid ((Q57 hs R k).getD t false=true->_):=fun h=>HT.step xg kl.out js.out k0.out h;obtain⟨kg,ko,rfl,kx⟩:=x4.out a ky;have ck:=Q0h j4.out kx;rw[ht]at ck;clear kw kx;have j1:=jr.kind ky t ht;have ji:=hid (y9u HT.ok R k);have LH:=hid (y4v ji.out t);generalize hWT:Q57 hs R k=WT at j1 ji LH jf jc;have jo:(Q3e WT).length<=1000:=by have:=z4b WT;omega
   generalize hbit:WT.getD t false=bit at j1 LH jc;clear hWT hbit;cases bit
   ·simp only[qF,qAz]at j1;have j5:=hid j1;clear j1;go_wp2_with (first
     |(refine qAg rfl 50 _ _ rfl (w.heap.size+1) (Q6m (.slice none 0 0) (.slice wa (Q3e WT).length wc) a) rfl rfl _ _ jl.out Q7d rfl (z53 _ _ _ rfl rfl) ?_)
     |(go_at_call 37;refine(z8e w2 _ (Q3e WT) t (IntOwn.at' j6.out) jo).mono ?_;rw[LH.out];rintro e w'⟨rfl,hw⟩;rw[hw];clear hw)
     |(go_at_call 36;refine jf.mono ?_;rintro e w2⟨v2,rfl,j0,j2⟩;obtain⟨wa,wc,je⟩:=z0c j2;subst je;have j6:=hid j2;have j3:=hid j0;have jl:=hid (j0.at k3.out id);clear j2 j0))
    refine qAc (z0l rfl _ _ (w.heap.size+1) 50 (Q6m (.slice none 0 0) (.slice wa (Q3e WT).length wc) a) (0,0) _ rfl (qAn _ _ _ _ _ _ jl.out) qFk rfl Q7d) rfl ?_;have FF:Q0a w (w2.setRow (w.heap.size+1) (Q6m (.slice none 0 0) (.slice wa (Q3e WT).length wc) a)):=(j4.trans j3.out).setRow (fun h=>by omega) _;refine⟨.slice none 0 0,.slice wa (Q3e WT).length wc,by rw[j5.out];rfl,FF,?_,?_⟩
    ·rw[j5.out];exact qAh _ _ _ _
    rw[j5.out];refine z0g (z0d j6.out (fun g hg=>?_)) j4.size;have:=(j6.lt g hg).1;have h2:=j4.size;exact qCx _ _ _ _ (by omega)
   simp only[qBn]at j1;have jh:=hid j1;have kf:=jc.out rfl;obtain⟨s1,s2,s3,s4,s5,s6,s7⟩:=kf;have S4:=hid s4;have S5:=hid s5;have S6:=hid s6;have S1:=hid s1;generalize Q7w (Q0k ps) hs H t k st=rr at jh s2 s3 S4 S5 S6 S1 s7;clear j1 s1 s4 s5 s6;obtain⟨q1,q2,q3,q4⟩:=Q95 (show a<=60 by omega) jd j8 s3 s2 s7;have GT:Hid (∀w2:World,Q0a wr w2->Calls Tryz.prog 38 #[Q3c b,.int .i64 (t:Nat)] w2 fun e w'=>e=.returned (.tuple #[])/\∃vk'' vs'',GA w' b w1.heap.size R H (.slice pa ps.length pc) (Q3c gb) vk'' vs'' rr.1 rr.2/\UpB w1.heap.size w2 w'):=fun w2 j0 =>
    y1d w2 b w1.heap.size gb (Q3c fb) (Q6d ((Q0k ps).zip (Q0r hs (Q0k ps))) 72) R H _ jq ju k st ps t (Q2y H k.length) rr (ja.fresh j0) ⟨kv,j0.at jx.out id,z8m _ (qR _)⟩ (k2.kept kh j0 (fun _ _ x=>x)) (by omega) (fun p hp=>HT.syms p.pr (qBj.2 ⟨p,hp,rfl⟩)) js.out hR hH (by omega) (by have:=j0.size;omega) S1.out q1 q2
   clear q1 q2;have jz:Hid (63-(a+1)<63-a):=by unfold Hid;omega
   go_wp2_with (first
    |(go_at_call 38;have jp:=j3.out;refine(GT.out w2 j3.out).mono ?_;rintro e w3⟨rfl,ki,kj,jj,jn⟩;have jw:=hid jj;have k6:=hid jn;clear jj jn)
    |(go_at_call 37;refine(z8e w2 _ (Q3e WT) t (IntOwn.at' j6.out) jo).mono ?_;rw[LH.out];rintro e w'⟨rfl,hw⟩;rw[hw];clear hw)
    |(go_at_call 36;refine jf.mono ?_;rintro e w2⟨v2,rfl,j0,j2⟩;obtain⟨wa,wc,je⟩:=z0c j2;subst je;have j6:=hid j2;have j3:=hid j0;clear j2 j0))
   go_roundw
   case rel =>
    exact⟨a+1,rr.1,rr.2,ki,kj,by go_num,by omega,jh.out,jw.out,Mod.trans kn.out (Mod.trans (j3.mono (fun _ _ x=>x.elim)) k6.out),S4.out,S5.out,S6.out,q4,q3⟩
   simpa [intOf]using jz.out
  have kt:a=kinds.length:=by omega
  have kd:¬(a:Int)<(kinds.length:Int):=by omega
  have xd:¬(a<kinds.length):=by omega
  have jc:Hid ((Q57 hs R k).getD R false=true->_):=fun h=>HT.step (qR _) kl.out js.out k0.out h;have j1:=jr.last kt;clear kt;have ji:=hid (y9u HT.ok R k);have LH:=hid (y4v ji.out R);generalize hWT:Q57 hs R k=WT at j1 ji LH jf jc;have jo:(Q3e WT).length<=1000:=by have:=z4b WT;omega
  generalize hbit:WT.getD R false=bit at j1 LH jc;clear hWT hbit;cases bit
  ·simp only[qF,qAz]at j1;have j5:=hid j1;clear j1;go_wp2_with (first
    |(refine qAg rfl 50 _ _ rfl (w.heap.size+1) (Q6m (.slice none 0 0) (.slice wa (Q3e WT).length wc) a) rfl rfl _ _ jl.out Q7d rfl (z53 _ _ _ rfl rfl) ?_)
    |(go_at_call 37;refine(z8e w2 _ (Q3e WT) R (IntOwn.at' j6.out) jo).mono ?_;rw[LH.out];rintro e w'⟨rfl,hw⟩;rw[hw];clear hw)
    |(go_at_call 36;refine jf.mono ?_;rintro e w2⟨v2,rfl,j0,j2⟩;obtain⟨wa,wc,je⟩:=z0c j2;subst je;have j6:=hid j2;have j3:=hid j0;have jl:=hid (j0.at k3.out id);clear j2 j0))
   refine qAc (z0l rfl _ _ (w.heap.size+1) 50 (Q6m (.slice none 0 0) (.slice wa (Q3e WT).length wc) a) (0,0) _ rfl (qAn _ _ _ _ _ _ jl.out) qFk rfl Q7d) rfl ?_;have FF:Q0a w (w2.setRow (w.heap.size+1) (Q6m (.slice none 0 0) (.slice wa (Q3e WT).length wc) a)):=(j4.trans j3.out).setRow (fun h=>by omega) _;refine⟨.slice none 0 0,.slice wa (Q3e WT).length wc,by rw[j5.out];rfl,FF,?_,?_⟩
   ·rw[j5.out];exact qAh _ _ _ _
   rw[j5.out];refine z0g (z0d j6.out (fun g hg=>?_)) j4.size;have:=(j6.lt g hg).1;have h2:=j4.size;exact qCx _ _ _ _ (by omega)
  simp only[qBn]at j1;have jh:=hid j1;have kf:=jc.out rfl;obtain⟨s1,s2,s3,s4,s5,s6,s7⟩:=kf;have S4:=hid s4;have S5:=hid s5;have S6:=hid s6;have S1:=hid s1;generalize Q7w (Q0k ps) hs H R k st=rr at jh s2 s3 S4 S5 S6 S1 s7;clear j1 s1 s4 s5 s6;obtain⟨q1,q2,q3,q4⟩:=Q95 (show a<=60 by omega) jd j8 s3 s2 s7;have GT:Hid (∀w2:World,Q0a wr w2->Calls Tryz.prog 38 #[Q3c b,.int .i64 (R:Nat)] w2 fun e w'=>e=.returned (.tuple #[])/\∃vk'' vs'',GA w' b w1.heap.size R H (.slice pa ps.length pc) (Q3c gb) vk'' vs'' rr.1 rr.2/\UpB w1.heap.size w2 w'):=fun w2 j0 =>
   y1d w2 b w1.heap.size gb (Q3c fb) (Q6d ((Q0k ps).zip (Q0r hs (Q0k ps))) 72) R H _ jq ju k st ps R (Q2y H k.length) rr (ja.fresh j0) ⟨kv,j0.at jx.out id,z8m _ (qR _)⟩ (k2.kept kh j0 (fun _ _ x=>x)) (by omega) (fun p hp=>HT.syms p.pr (qBj.2 ⟨p,hp,rfl⟩)) js.out hR hH (by omega) (by have:=j0.size;omega) S1.out q1 q2
  clear q1 q2;have jz:Hid (63-(a+1)<63-a):=by unfold Hid;omega
  go_wp2_with (first
   |(go_at_call 38;have jp:=j3.out;refine(GT.out w2 j3.out).mono ?_;rintro e w3⟨rfl,ki,kj,jj,jn⟩;have jw:=hid jj;have k6:=hid jn;clear jj jn)
   |(go_at_call 37;refine(z8e w2 _ (Q3e WT) R (IntOwn.at' j6.out) jo).mono ?_;rw[LH.out];rintro e w'⟨rfl,hw⟩;rw[hw];clear hw)
   |(go_at_call 36;refine jf.mono ?_;rintro e w2⟨v2,rfl,j0,j2⟩;obtain⟨wa,wc,je⟩:=z0c j2;subst je;have j6:=hid j2;have j3:=hid j0;clear j2 j0))
  go_roundw
  case rel =>
   exact⟨a+1,rr.1,rr.2,ki,kj,by go_num,by omega,jh.out,jw.out,Mod.trans kn.out (Mod.trans (j3.mono (fun _ _ x=>x.elim)) k6.out),S4.out,S5.out,S6.out,q4,q3⟩
  simpa [intOf]using jz.out
 have kq:G=⟨0,[],0,st⟩:=by
  have h:=jr;unfold GrS at h;rw[qAa xa]at h;exact h
 have j5:=hid kq;have k8:¬(a:Int)<=(kinds.length:Int):=by omega
 have j9:st.length<=1000000000000:=by
  have h1:a<=61:=by omega
  have h2:a*2000000000<=61*2000000000:=qCr _ h1;exact qDa j8 (qDa h2 (by decide))
 obtain⟨sa,sc,xj⟩:=z0c ja.ss;have k5:=ja.cell 5;simp at k5;subst xj;have xo:=ja.lt;have WD:Hid (∀W:World,Q0a wr W->Calls Tryz.prog 39 #[.agg #[.int .i64 R,.int .i64 H,.slice pa ps.length pc],.slice sa st.length sc] W fun e w'=>∃v,e=.returned v/\Q0a W w'/\Q2x w' W.heap.size v (Q1p (Q0k ps) st)):=fun W hW =>
  y3o W R H (.slice pa ps.length pc) (.slice sa st.length sc) ps st ((k2.kept kh hW (fun _ _ x=>x)).up (by have:=hW.size;omega)) ⟨z0g ((ja.fresh hW).ss) (qBq _),fun _ _=>rfl⟩ k0.out j9 (by omega) (fun p hp=>by have:=(HT.syms p.pr (qBj.2 ⟨p,hp,rfl⟩)).1;omega)
 clear kq jr jd j8 j9 k4;go_upto_region 14 with fail
 go_cut [12] (fun s12 wx=>Q0a wr wx/\Q2x wx wr.heap.size s12 (Q1p (Q0k ps) st))
 case first =>
  go_region_with (first
   |(go_at_call 39;refine(WD.out _ (by first|exact(mRf _ wr).drew|exact mRf _ wr)).mono ?_;rintro e w3⟨v,rfl,xb,xe⟩))
  all_goals
   go_wp2_with fail
   go_meet;exact⟨Mod.trans ((mRf _ wr).drew) xb,xe⟩
 obtain⟨k9,ke⟩:=hcut;obtain⟨na,nc,xh⟩:=z0c ke;subst xh;have k1:=hid ke;have x3:=hid k9;have kr:=hid (k9.at k3.out id);generalize hNF:Q1p (Q0k ps) st=NF at k1;have x6:=hid hNF;clear k9 ke hNF;go_wp2_with (first
  |(refine qAg rfl 50 _ _ rfl (w.heap.size+1) (Q6m (.slice na NF.length nc) (.slice none 0 0) 0) rfl rfl _ _ kr.out Q7d rfl (z53 _ _ _ rfl rfl) ?_))
 refine qAc (z0l rfl _ _ (w.heap.size+1) 50 (Q6m (.slice na NF.length nc) (.slice none 0 0) 0) (0,0) _ rfl (qAn _ _ _ _ _ _ kr.out) qFk rfl Q7d) rfl ?_;refine⟨.slice na NF.length nc,.slice none 0 0,by rw[j5.out];rfl,(j4.trans x3.out).setRow (fun h=>by omega) _,?_,?_⟩
 ·rw[j5.out];show Q2x _ _ _ (Q1p (Q0k ps) st);rw[x6.out];refine z0g (z0d k1.out (fun g hg=>?_)) j4.size;have:=(k1.lt g hg).1;have h2:=j4.size;exact qCx _ _ _ _ (by omega)
 rw[j5.out];exact qAh _ _ _ _
theorem y9p{s:ByteArray}(hc:(Q0u s).1=0)(hcl:Q13 s=[]):Tab (Q0p (Q0c s).1) (Q0g (Q0c s).1).length (Q0j (Q0c s).1).length (Q7p s):=by
 have j0:=z2w hc;obtain⟨h1,h2,h3,h4,h5⟩:=z2d j0;have hI:=Q62 j0;have j2:=Q7y j0;have hT:=tabOk h3 hI.places j2.mem;have hR:=y28 (fun y hy=>(hI.places y hy).1) h5;obtain⟨c1,c2,c3⟩:=y34 (fun y hy=>(hI.places y hy).1) h5;have hS:=z8o hT hR;have j1:0<(Q0j (Q0c s).1).length:=by
  unfold Q4a at h4;rw[qBb]at h4;obtain⟨y,hy,hq⟩:=h4;have:=j2.mem y (qDi.2 ⟨hy,hq⟩);omega
 exact⟨llg hT hR j1 c3 hcl,hS.ok,hR,c1,j1,c2⟩
theorem y0c{s:ByteArray}(hc:(Q0u s).1=0):∀x∈Q7p s,x.ok:=by
 have j0:=z2w hc;obtain⟨h1,h2,h3,h4,h5⟩:=z2d j0;have hI:=Q62 j0;have j1:=Q7y j0;exact(z8o (tabOk h3 hI.places j1.mem) (y28 (fun y hy=>(hI.places y hy).1) h5)).ok
theorem z15(w:World)(R H:Nat)(vp:Value)(ps:List PV)(hp:Q2e w w.heap.size vp ps)(hps:ps.length<=1000)(hH:H<=1000)(hR:R<=1000)(hok:∀x∈Q33 (Q0k ps) (Q0z R H),x.ok) :
  Calls Tryz.prog 12 #[.agg #[.int .i64 R,.int .i64 H,vp]] w fun e w'=>e=.returned (.bool (decide (0<(Q6g ((Q0k ps).zip (Q0r (Q33 (Q0k ps) (Q0z R H)) (Q0k ps))) R H).length)))/\Q0a w w':=by
 obtain⟨pa,pc,j1⟩:=z0c hp.row.own;subst j1;have CA:=hid (y6h (w.alloc (.cells #[.int .i64 R,.int .i64 H,.slice pa ps.length pc] 42 (0,0))) R H (.slice pa ps.length pc) ps ((hp.kept (qR _) ((mRf (fun _=>False) w).alloc _) (fun _ _ x=>x)).up (by simp)) hps hH hR hok);generalize Q6g ((Q0k ps).zip (Q0r (Q33 (Q0k ps) (Q0z R H)) (Q0k ps))) R H=CL at CA;clear hp hok;go_enter Tryz.func12,Tryz.ntmps12
 go_wp2_with (first
  |(go_at_call 32;refine CA.mono ?_;rintro e w1⟨v,rfl,j0,ho⟩;obtain⟨ca,cc,hv⟩:=z0c ho;subst hv;clear ho))
 go_ret;refine⟨?_,Mod.trans ((mRf _ w).alloc _) j0⟩;show Ending.returned (Value.bool _)=_;congr 2
def nR(s:ByteArray):Nat:=(Q0g (Q0c s).1).length
def nH(s:ByteArray):Nat:=(Q0j (Q0c s).1).length
def Q8b(s:ByteArray):List Pr:=Q0p (Q0c s).1
def Q24(s:ByteArray)(kinds:List Int):GOut:=Q6k (Q8b s) (Q7p s) (nR s) (nH s) kinds 0 [⟨true,0⟩] []
def ParRet(s:ByteArray)(G:GOut)(w:World)(e:Ending)(w':World):Prop :=
 ∃vn vw,e=.returned (.tuple #[.agg (Q6m vn vw G.place),.int .i64 G.err])/\Q0a w w'/\Q2x w' w.heap.size vn (Q1p (Q8b s) G.st)/\IntOwn w' w.heap.size vw G.wanted
theorem z12(s:ByteArray)(hc:(Q0u s).1=0){pvs:List PV}(hm:pvs.map PV.pr=Q0p (Q0c s).1):Q0k pvs=Q8b s/\pvs.length<=1000/\nH s<=1000/\nR s<=1000/\Q7p s=Q33 (Q0k pvs) (Q0z (nR s) (nH s)):=by
 obtain⟨z1,z2,z3⟩:=y5w hc;have h1:pvs.length=(Q0p (Q0c s).1).length:=by rw[← hm];simp
 refine⟨hm,by omega,by unfold nH;omega,by unfold nR;omega,?_⟩;unfold Q7p Q0k nR nH;rw[hm]
theorem z4w(s:ByteArray)(hc:(Q0u s).1=0){pvs:List PV}(hm:pvs.map PV.pr=Q0p (Q0c s).1):Q6g ((Q0k pvs).zip (Q0r (Q33 (Q0k pvs) (Q0z (nR s) (nH s))) (Q0k pvs))) (nR s) (nH s)=Q13 s:=by
 obtain⟨h1,_,_,_,h5⟩:=z12 s hc hm;rw[← h5,h1];rfl
theorem z05{ps:List Pr}{s:St}{l:List St}{k r:List Sy}(hs:s.leaf=false)(h:Q1i ps (s::l) k=some r) :
  ∃y k' p,k=y::k'/\y.isH=true/\0<=s.num/\ps[s.num.toNat]? = some p/\p.head=y.num/\Q1i ps l (p.syms++k')=some r:=by
 cases k with
 |nil=>simp[Q1i]at h
 |cons y k =>
  simp only[Q1i,hs,qF,qAz]at h;split at h
  ·rename_i hy;cases hp:ps[s.num.toNat]? with
   |none=>rw[hp]at h;cases h
   |some p =>
    rw[hp]at h;simp only[]at h;split at h
    ·rename_i hh;exact⟨y,k,p,rfl,hy.1,hy.2,rfl,hh,h⟩
    cases h
  cases h
theorem z09{ps:List Pr}{s:St}{l:List St}{k r:List Sy}(hs:s.leaf=true)(h:Q1i ps (s::l) k=some r) :
  ∃y k',k=y::k'/\y.isH=false/\y.num=s.num/\Q1i ps l k'=some r:=by
 cases k with
 |nil=>simp[Q1i]at h
 |cons y k =>
  simp only[Q1i,hs,qBn]at h;split at h
  ·rename_i hy;exact⟨y,k,rfl,hy.1,hy.2,h⟩
  cases h
theorem y9g{ps:List Pr}{R H:Nat}(hT:Q1d ps R H):∀(A:List St) (k r:List Sy),Q3d R H k->Q1i ps A k=some r->∀x∈A,0<=x.num/\(x.leaf=true->x.num<R)/\(x.leaf=false->x.num<ps.length)
 | [],_,_,_,_,x,hx=>by cases hx
 |s::A,k,r,hk,h,x,hx=>by
  cases hs:s.leaf
  ·obtain⟨y,k',p,rfl,h1,h2,h3,h4,h5⟩:=z05 hs h;rcases qBu.1 hx with rfl|hx
   ·have:=(qS h3).1;exact⟨h2,fun e=>by rw[hs]at e;(cases e),fun _=>by omega⟩
   refine y9g hT A (p.syms++k') r (fun z hz=>?_) h5 x hx;rcases qBs.1 hz with hz|hz
   ·exact hT.sy p (qAi h3) z hz
   exact hk z (qEa _ hz)
  obtain⟨y,k',rfl,h1,h2,h3⟩:=z09 hs h;rcases qBu.1 hx with rfl|hx
  ·have:=hk y (by simp);rw[h1,h2]at this;exact⟨this.1,fun _=>by simpa using this.2,fun e=>by rw[hs]at e;(cases e)⟩
  exact y9g hT A k' r (fun z hz=>hk z (qEa _ hz)) h3 x hx
section
variable {ps:List Pr}{R H:Nat}{N:Int->Bool}{F O:Int->Nat->Bool}{ch:Int->Nat->Int}
theorem LLG.runNull(g:LLG ps R H N F O ch):∀(B:List St) (k:List Sy),(∀x∈B,x.leaf=false)->Q1i ps B k=some []->k.all (Q4c N)=true
 | [],k,_,h=>by cases h;rfl
 |s::B,k,hl,h=>by
  obtain⟨y,k',p,rfl,h1,h2,h3,h4,h5⟩:=z05 (hl s (by simp)) h;have:=g.runNull B _ (fun x hx=>hl x (qEa _ hx)) h5;rw[List.all_append,qAd]at this;have hn:=g.clN p (qAi h3) this.1;rw[qDv,this.2,Q4c,h1,← h4,hn];rfl
theorem LLG.runFirst(g:LLG ps R H N F O ch){t:Nat}{C:List St}:∀(B:List St) (k r:List Sy),(∀x∈B,x.leaf=false)->Q1i ps (B++⟨true,t⟩::C) k=some r->Q3y N (fun X=>F X t) t k=true
 | [],k,r,_,h=>by
  obtain⟨y,k',rfl,h1,h2,h3⟩:=z09 rfl h;simp only[Q3y,h1,qF,qAz,h2];simp
 |s::B,k,r,hl,h=>by
  obtain⟨y,k',p,rfl,h1,h2,h3,h4,h5⟩:=z05 (hl s (by simp)) h;have:=g.runFirst B _ r (fun x hx=>hl x (qEa _ hx)) h5;rw[z2v,qAt,qAd]at this;simp only[Q3y,h1,qBn,qBm];rcases this with h6|⟨h6,h7⟩
  ·rw[← h4,g.clF p (qAi h3) t h6];rfl
  rw[← h4,g.clN p (qAi h3) h6,h7];simp
theorem LLG.runTo(g:LLG ps R H N F O ch){t:Nat}(ht:t<=R){C:List St}:∀(B:List St) (k r:List Sy) (st:List St),Q4z N F O R k->(∀x∈B,x.leaf=false)->Q1i ps (B++⟨true,t⟩::C) k=some r ->
  ∃f k',Q1i ps C k'=some r/\gTo ps ch t f k st=some (k',st++(B++[⟨true,t⟩]))
 | [],k,r,st,hk,_,h=>by
  obtain⟨y,k',rfl,h1,h2,h3⟩:=z09 rfl h;refine⟨1,k',h3,?_⟩;simp only[gTo,h1,qBn,h2,qCh]
 |s::B,k,r,st,hk,hl,h=>by
  have hs:=hl s (by simp);have hB:=fun x hx=>hl x (qEa s hx);obtain⟨y,k',p,rfl,h1,h2,h3,h4,h5⟩:=z05 hs h;have hb:=g.runFirst B _ r hB h5;rw[z2v,qAt,qAd]at hb;have ha:ahd N F O p t=true:=by
   unfold ahd;rcases hb with hb|⟨hb,hc⟩
   ·rw[hb];rfl
   rw[hb,h4,hk [] y k' rfl h1 t (by unfold Q6u;rw[hc];rfl)];simp
  have j0:=g.one s.num.toNat p h3 t ht ha;rw[h4]at j0;obtain⟨f,k2,e1,e2⟩:=g.runTo ht B (p.syms++k') r (st++[s]) (g.stkOpen (qAi h3) h1 h4 hk) hB h5;refine⟨f+1,k2,e1,?_⟩;have j1:s=⟨false,ch y.num t⟩:=by
   obtain⟨sl,sn⟩:=s;dsimp only at hs j0 h2 ⊢;rw[j0,hs];congr 1;omega
  rw[gTo,qAa (by simp[h1]),qAb (by omega)];have:(ch y.num t).toNat=s.num.toNat:=by omega
  rw[this,h3];simp only[];rw[← j1,e2];simp
theorem LLG.runEnd(g:LLG ps R H N F O ch):∀(B:List St) (k:List Sy) (st:List St),Q4z N F O R k->(∀x∈B,x.leaf=false)->Q1i ps B k=some []->∃f,gTo ps ch R f k st=some ([],st++B)
 | [],k,st,hk,_,h=>by
  cases h;exact⟨1,by simp[gTo]⟩
 |s::B,k,st,hk,hl,h=>by
  have hs:=hl s (by simp);have hB:=fun x hx=>hl x (qEa s hx);obtain⟨y,k',p,rfl,h1,h2,h3,h4,h5⟩:=z05 hs h;have hb:=g.runNull B _ hB h5;rw[List.all_append,qAd]at hb;have ha:ahd N F O p R=true:=by
   unfold ahd;rw[hb.1,h4,hk [] y k' rfl h1 R (by unfold Q6u;rw[hb.2];simp)];simp
  have j0:=g.one s.num.toNat p h3 R (qR _) ha;rw[h4]at j0;obtain⟨f,e2⟩:=g.runEnd B (p.syms++k') (st++[s]) (g.stkOpen (qAi h3) h1 h4 hk) hB h5;refine⟨f+1,?_⟩;have j1:s=⟨false,ch y.num R⟩:=by
   obtain⟨sl,sn⟩:=s;dsimp only at hs j0 h2 ⊢;rw[j0,hs];congr 1;omega
  rw[gTo,qAa (by simp[h1]),qAb (by omega)];have:(ch y.num R).toNat=s.num.toNat:=by omega
  rw[this,h3];simp only[];rw[← j1,e2];simp
end
theorem y1i{A:List St}(h:Q0d A=[]):∀x∈A,x.leaf=false:=by
 intro x hx;unfold Q0d at h;rw[List.map_eq_nil_iff,List.filter_eq_nil_iff]at h;simpa using h x hx
theorem z4o:∀{A:List St}{t:Int}{l:List Int},Q0d A=t::l->∃B C,A=B++⟨true,t⟩::C/\(∀x∈B,x.leaf=false)/\Q0d C=l
 | [],t,l,h=>by simp[Q0d]at h
 |s::A,t,l,h=>by
  obtain⟨sl,sn⟩:=s;cases sl
  ·have e:Q0d (⟨false,sn⟩::A)=Q0d A:=by simp[Q0d]
   rw[e]at h;obtain⟨B,C,h1,h2,h3⟩:=z4o h;refine⟨⟨false,sn⟩::B,C,by rw[h1];rfl,fun x hx=>?_,h3⟩;rcases qBu.1 hx with rfl|hx
   ·rfl
   exact h2 x hx
  have e:Q0d (⟨true,sn⟩::A)=sn::Q0d A:=by simp[Q0d]
  rw[e,qBe]at h;exact⟨[],A,by rw[h.1];rfl,fun x hx=>by(cases hx),h.2⟩
theorem z8b{ps:List Pr}{R H:Nat}{hs:List Hd}(h:Tab ps R H hs):∀(l:List Int) (A:List St) (a:Nat) (k:List Sy) (st:List St),Q0d A=l->Q4z (hN hs) (hF hs) (hO hs) R k->Q3d R H k->(∀s∈st,0<=s.num/\s.num<=127)->Q1i ps A k=some [] ->
  Q6k ps hs R H l a k st=⟨0,[],0,st++A⟩
 | [],A,a,k,st,hl,h1,h2,h3,hru=>by
  have hA:=y1i hl;have j0:=h.g.runNull A k hA hru;have j1:Q6u (hN hs) (hF hs) R k R=true:=by unfold Q6u;rw[j0];simp
  have hw:(Q57 hs R k).getD R false=true:=by rw[z30 h.ok h.hR k h2 R];exact j1
  obtain⟨s1,_⟩:=h.step (qR _) h1 h2 h3 hw;rw[z3a (R:=R) (H:=H) (t:=R) (ch:=chL (Q6d (ps.zip (Q0r hs ps)) 72)) (ch':=chF hs ps) (fun X x0 x1=>z8u x0 (by have:=h.hH;omega) (by have:=h.hR;omega)) (fun p hp=>(h.syms p hp).2) _ _ _ h2]at s1;obtain⟨f,e⟩:=h.g.runEnd A k st h1 hA hru;have m1:=z19 _ _ _ _ s1 (max f (Q2y H k.length)) (by omega);have m2:=z19 _ _ _ _ e (max f (Q2y H k.length)) (by omega);rw[m1,qO]at m2;unfold Q6k;rw[qAb hw,m2]
 |t::l,A,a,k,st,hl,h1,h2,h3,hru=>by
  obtain⟨B,C,rfl,hB,hC⟩:=z4o hl;have j2:=y9g h.g.tab _ _ _ h2 hru ⟨true,t⟩ (by simp);obtain⟨n,rfl⟩:∃n:Nat,t=n:=⟨t.toNat,by have:=j2.1;dsimp only at this;omega⟩;have j3:n<=R:=by have:=j2.2.1 rfl;dsimp only at this;omega
  have j1:Q6u (hN hs) (hF hs) R k n=true:=by unfold Q6u;rw[h.g.runFirst B k _ hB hru];rfl
  have hw:(Q57 hs R k).getD n false=true:=by rw[z30 h.ok h.hR k h2 n];exact j1
  obtain⟨s1,_,_,s4,s5,s6,_⟩:=h.step j3 h1 h2 h3 hw;rw[z3a (R:=R) (H:=H) (t:=n) (ch:=chL (Q6d (ps.zip (Q0r hs ps)) 72)) (ch':=chF hs ps) (fun X x0 x1=>z8u x0 (by have:=h.hH;omega) (by have:=h.hR;omega)) (fun p hp=>(h.syms p hp).2) _ _ _ h2]at s1;obtain⟨f,k',e1,e⟩:=h.g.runTo j3 B k [] st h1 hB hru;have m1:=z19 _ _ _ _ s1 (max f (Q2y H k.length)) (by omega);have m2:=z19 _ _ _ _ e (max f (Q2y H k.length)) (by omega);rw[m1,qO]at m2;rw[m2]at s4 s5 s6;unfold Q6k;rw[qAo,qAb hw,m2];rw[z8b h l C (a+1) k' _ hC s4 s5 s6 e1];simp
def Q4h(ps:List Pr)(A:List St)(c:Nat):List Nd:=List.zipWith Q8g (ndL A c) (Q08 ps (ndL A c))
theorem x0t(ps:List Pr)(A:List St)(c:Nat):(Q4h ps A c).length=A.length:=by simp[Q4h,z69,z21]
theorem y67(ps:List Pr)(A:List St):Q4h ps A 0=Q1p ps A:=rfl
theorem y5t(ps:List Pr):∀(A B:List St) (ys:List Sy) (c:Nat),Q1i ps A ys=some []->Q08 ps (ndL (A++B) c)=Q08 ps (ndL A c)++Q08 ps (ndL B (c+(Q0d A).length))
 | [],B,ys,c,h=>by simp[ndL,Q08,Q0d]
 |s::A,B,ys,c,h=>by
  have key:∃ys',Q1i ps A ys'=some []:=by
   cases hs:s.leaf
   ·obtain⟨y,k',p,_,_,_,_,_,h5⟩:=z05 hs h;exact⟨_,h5⟩
   obtain⟨y,k',_,_,_,h5⟩:=z09 hs h;exact⟨_,h5⟩
  obtain⟨ys',hA⟩:=key;have j0:(Q08 ps (ndL (s::A++B) c))[0]? = (Q08 ps (ndL (s::A) c))[0]? := by
   cases ys with
   |nil=>simp[Q1i]at h
   |cons y ys =>
    obtain⟨T,A2,e,h1,h2⟩:=z20 ps (s::A) [y] ys h;have q1:=z6r ps _ T (A2++B) y c (qR _) h1;have q2:=z6r ps _ T A2 y c (qR _) h1;rw[e,qAs,q1,q2]
  have j1:∀c',Q08 ps (ndL (A++B) c')=Q08 ps (ndL A c')++Q08 ps (ndL B (c'+(Q0d A).length)):=fun c'=>y5t ps A B ys' c' hA;cases hl:s.leaf
  ·have e:Q0d (s::A)=Q0d A:=by simp[Q0d,hl]
   simp only[qBh,ndL,hl,qF,qAz,Q08,qCv,qO,e]at j0 ⊢;rw[j0,j1]
  have e:(Q0d (s::A)).length=(Q0d A).length+1:=by simp[Q0d,hl]
  simp only[qBh,ndL,hl,qBn,Q08,qCv,qO,e]at j0 ⊢;rw[j0,j1,show c+1+(Q0d A).length=c+((Q0d A).length+1) by omega]
theorem x0s(ps:List Pr){A B:List St}{ys:List Sy}(c:Nat)(h:Q1i ps A ys=some []):Q4h ps (A++B) c=Q4h ps A c++Q4h ps B (c+(Q0d A).length):=by
 unfold Q4h;rw[y5t ps A B ys c h,y2t,List.zipWith_append (by rw[z21])]
theorem y66(ps:List Pr){A:List St}{n:Int}{y:Sy}(c:Nat)(h:Q1i ps (⟨false,n⟩::A) [y]=some []):Q4h ps (⟨false,n⟩::A) c=⟨n,-1,c,A.length+1⟩::Q4h ps A c:=by
 have q:=z6r ps _ (⟨false,n⟩::A) [] y c (qR _) h;rw[qBd]at q;unfold Q4h;simp only[ndL,qF,qAz,Q08,qCv,qO,List.zipWith_cons_cons]at q ⊢;rw[q];simp[Q8g]
theorem y65(ps:List Pr)(n:Int)(c:Nat):Q4h ps [⟨true,n⟩] c=[⟨-1,n,c,1⟩]:=by
 have q:=z6r ps 1 [⟨true,n⟩] [] ⟨false,n⟩ c (qR _) (by simp[Q1i]);rw[qBd]at q;unfold Q4h;simp only[ndL,qBn,Q08,qCv,qO,List.zipWith_cons_cons]at q ⊢;rw[q];simp[Q8g,ndL,Q08]
end Go.Proofs.YtbdpfmalabgmbaaGreat
