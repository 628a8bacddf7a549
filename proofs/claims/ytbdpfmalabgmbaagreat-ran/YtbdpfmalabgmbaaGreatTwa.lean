import Derived.Test.YtbdpfmalabgmbaaGreatTw7
import Derived.Test.YtbdpfmalabgmbaaGreatTw8
namespace Go.Proofs.YtbdpfmalabgmbaaGreat
open Go.RowKit
set_option maxRecDepth 99999
set_option maxHeartbeats 0
set_option linter.all false
theorem y4v{l:List Bool}(h:l.length=9)(t:Nat):(Q3e l).any (·==(t:Int))=l.getD t false:=x3s h t
theorem z53(vn vw:Value)(a:Int)(h1:vn.oneCell'=true)(h2:vw.oneCell'=true):(#[vn,vw,Value.int .i64 a]:Array Value).all (·.oneCell')=true :=
 qCq (cs:=[vn,vw,.int .i64 a]) (by intro v hv;simp only[qBu,qEi,or_false]at hv;rcases hv with rfl|rfl|rfl;exact h1;exact h2;rfl)
def GrS(ps:List Pr)(hs:List Hd)(R H:Nat)(kinds:List Int)(G:GOut)(a:Nat)(k:List Sy)(st:List St):Prop :=
 if a<=kinds.length then Q6k ps hs R H (kinds.drop a) a k st=G else G=⟨0,[],0,st⟩
theorem GrS.kind{ps:List Pr}{hs:List Hd}{R H:Nat}{kinds:List Int}{G:GOut}{a:Nat}{k:List Sy}{st:List St}(h:GrS ps hs R H kinds G a k st)(ha:a<kinds.length)(t:Nat)(ht:kinds[a]=t) :
  if(Q57 hs R k).getD t false then GrS ps hs R H kinds G (a+1) (Q7w ps hs H t k st).1 (Q7w ps hs H t k st).2 else G=⟨10,Q3e (Q57 hs R k),a,[]⟩:=by
 unfold GrS at h ⊢;rw[qAb (by omega),qC ha,ht]at h;unfold Q6k at h;rw[qAo]at h;rw[qAb (show a+1<=kinds.length by omega)];split
 ·rename_i e;rw[qAb e]at h;exact h
 rename_i e;rw[qAa e]at h;exact h.symm
theorem GrS.last{ps:List Pr}{hs:List Hd}{R H:Nat}{kinds:List Int}{G:GOut}{a:Nat}{k:List Sy}{st:List St}(h:GrS ps hs R H kinds G a k st)(ha:a=kinds.length) :
  if(Q57 hs R k).getD R false then GrS ps hs R H kinds G (a+1) (Q7w ps hs H R k st).1 (Q7w ps hs H R k st).2 else G=⟨10,Q3e (Q57 hs R k),a,[]⟩:=by
 unfold GrS at h ⊢;rw[qAb (by omega),ha,qCy]at h;unfold Q6k at h;rw[qAa (show ¬(a+1<=kinds.length) by omega)];split
 ·rename_i e;rw[qAb e]at h;exact h.symm
 rename_i e;rw[qAa e]at h;rw[ha];exact h.symm
theorem Q95{a kl sl rl pl:Nat}(ha:a<=60)(h1:kl<=1+48*a)(h2:sl<=a*2000000000)(h3:rl<=sl+(kl*335923+16124313))(h4:pl<=kl+48)(h5:sl<=rl) :
  rl<=1000000000000/\kl+6*rl<=100000000000+6*sl/\rl<=(a+1)*2000000000/\pl<=1+48*(a+1):=by omega
abbrev Q6m(vn vw:Value)(a:Int):Array Value:=#[vn,vw,.int .i64 a]
theorem Q7d:(Tryz.prog.info? 50).map (·.size)=some 3:=by kernel_rfl
theorem y8p(w:World)(R H:Nat)(vp vk:Value)(ps:List PV)(kinds:List Int)(hs:List Hd)(hp:Q2e w w.heap.size vp ps)(hk:Q1c w vk kinds)(hkl:kinds.length<=60)(hkk:Q1z R kinds=true)
  (hT:Tab (Q0k ps) R H hs) (hse:hs=Q33 (Q0k ps) (Q0z R H)) :
  Calls Tryz.prog 16 #[.agg #[.int .i64 R,.int .i64 H,vp],vk] w fun e w'=>∃vn vw,e=.returned (.tuple #[.agg (Q6m vn vw (Q6k (Q0k ps) hs R H kinds 0 [⟨true,0⟩] []).place),.int .i64 (Q6k (Q0k ps) hs R H kinds 0 [⟨true,0⟩] []).err])/\Q0a w w' /\
   Q2x w' w.heap.size vn (Q1p (Q0k ps) (Q6k (Q0k ps) hs R H kinds 0 [⟨true,0⟩] []).st)/\IntOwn w' w.heap.size vw (Q6k (Q0k ps) hs R H kinds 0 [⟨true,0⟩] []).wanted:=by
 have xm:ps.length<=20:=by have:=hT.hl;simpa [Q0k]using this
 have hR:=hT.hR;have hH:=hT.hH;obtain⟨pa,pc,xi⟩:=z0c hp.row.own;subst xi;obtain⟨ka,kc,rfl,xl,j7⟩:=hk;have x4:=hid j7;have HP:=hid hp;have HT:=hid hT;have x5:=hid hkk;have NG:Hid (∀W:World,Q0a w W->Calls Tryz.prog 35 #[.agg #[.int .i64 R,.int .i64 H,.slice pa ps.length pc]] W fun e w'=>∃gb fb vh,e=.returned (Q3c gb)/\Q0a W w' /\
   w'.heap[gb]? = some (.cells (gdA (Q3c fb) (Q6d ((Q0k ps).zip (Q0r hs (Q0k ps))) 72)) 145 (0,0))/\FA w' fb R H (.slice pa ps.length pc) vh ps hs):=fun W hW=>by
  have h:=y44 W R H (.slice pa ps.length pc) ps ((HP.kept (qR _) hW (fun _ _ x=>x)).up hW.size) (by omega) (by omega) (by omega) (by rw[← hse];exact HT.ok);rw[← hse]at h;exact h
 generalize hG:Q6k (Q0k ps) hs R H kinds 0 [⟨true,0⟩] []=G;have HG:=hid hG;clear hp j7 hT hkk hse hG;go_enter Tryz.func16,Tryz.ntmps16
 go_wp2_with (first
  |(go_at_call 35;refine(NG.out _ (((mRf _ w).alloc _).alloc _)).mono ?_;rintro e w1⟨gb,fb,vh,rfl,jt,kb,kp⟩;have jg:=jt.at (z0b (z0a w _)) id;have t0:=Q0b jg 0;have t1:=Q0b jg 1;have t2:=Q0b jg 2;simp at t0 t1 t2;have xn:=z0j jg;have x8:=hid jg;clear jg))
 have kv:gb<w1.heap.size:=z0j kb;have jk:=jt.at (z0a (w.alloc _) _) id;have jk:w1.heap[w.heap.size+1]? = some (.cells (Q6m (.slice none 0 0) (.slice none 0 0) 0) 50 (0,0)):=by simpa using jk
 have xf:=z0j jk;have x7:=hid jk;have jy:=hid kb;have x2:=hid kp;have kk:Hid (Q0a w w1):=Mod.trans (((mRf _ w).alloc _).alloc _) jt;have jb:Hid (GA (((w1.alloc (.cells #[.bool true,.int .i64 0] 93 (0,0))).alloc (.cells #[.bool true,.int .i64 0] 93 (0,0))).alloc (.cells #[.int .i64 R,.int .i64 H,.slice pa ps.length pc,Q3c gb,.slice (some ⟨w1.heap.size+1,0,none⟩) 1 1,.slice none 0 0] 97 (0,0))) (w1.heap.size+1+1) w1.heap.size R H (.slice pa ps.length pc) (Q3c gb) (.slice (some ⟨w1.heap.size+1,0,none⟩) 1 1) (.slice none 0 0) [⟨true,0⟩] []):=by
  refine⟨by omega,?_,?_,qAh _ _ _ _,by simp[Value.ownBlock],by simp[Value.ownBlock],by simp[Value.ownBlock]⟩
  ·exact z01 _ _ _ _
  refine⟨rfl,.inr ⟨w1.heap.size+1,1,#[.bool true,.int .i64 0],rfl,by omega,?_,by simp,by unfold maxLen;omega,rfl,rfl⟩⟩;exact z06 _ _ _ _
 have km:Hid (UpB w1.heap.size w1 (((w1.alloc (.cells #[.bool true,.int .i64 0] 93 (0,0))).alloc (.cells #[.bool true,.int .i64 0] 93 (0,0))).alloc (.cells #[.int .i64 R,.int .i64 H,.slice pa ps.length pc,Q3c gb,.slice (some ⟨w1.heap.size+1,0,none⟩) 1 1,.slice none 0 0] 97 (0,0)))):=(((mRf _ w1).alloc _).alloc _).alloc _;generalize(((w1.alloc (.cells #[.bool true,.int .i64 0] 93 (0,0))).alloc (.cells #[.bool true,.int .i64 0] 93 (0,0))).alloc (.cells #[.int .i64 R,.int .i64 H,.slice pa ps.length pc,Q3c gb,.slice (some ⟨w1.heap.size+1,0,none⟩) 1 1,.slice none 0 0] 97 (0,0)))=W3 at jb km ⊢;obtain⟨b,ku⟩:∃b,w1.heap.size+1+1=b:=⟨_,rfl⟩;rw[ku]at jb ⊢;clear jk kb kp jt t0 t1 t2 ku NG;go_loopw [9,10,11] (fun x9 _ _ wr=>∃(a:Nat) (k:List Sy) (st:List St) (jq ju:Value),x9=.int .i64 a/\a<=kinds.length+1/\GrS (Q0k ps) hs R H kinds G a k st/\GA wr b w1.heap.size R H (.slice pa ps.length pc) (Q3c gb) jq ju k st/\UpB w1.heap.size w1 wr /\
    Q4z (hN hs) (hF hs) (hO hs) R k/\Q3d R H k/\(∀s∈st,0<=s.num/\s.num<=127)/\k.length<=1+48*a/\st.length<=a*2000000000)
   (fun x _ _ _=>63-(intOf x).toNat)
 case atStart=>exact⟨0,[⟨true,0⟩],[],_,_,rfl,by omega,by unfold GrS;rw[qAb (by omega)];exact HG.out,jb.out,km.out,HT.start.1,HT.start.2,by simp,by simp,by simp⟩
 obtain⟨a,k,st,jq,ju,rfl,ha,xc,k7,hU,x1,x0,kz,jd,j8⟩:=hrel;have jr:=xc;have ja:=hid k7;have kn:=hid hU;have kl:=hid x1;have js:=hid x0;have k0:=hid kz;have j4:Hid (Q0a w wr):=Mod.trans' kk.out hU (fun i h1 h2=>by omega);have kh:w1.heap.size<=wr.heap.size:=hU.size;have jm:=hU.at x8.out (by omega);have t0:=Q0b jm 0;have t1:=Q0b jm 1;have t2:=Q0b jm 2;simp at t0 t1 t2;have k3:=hid (hU.at x7.out (by omega));have xk:=hid jm;have jx:=hid (hU.at jy.out (by omega));have jv:=hid (x2.kept hU (fun k hk=>hk));have k2:Hid (Q2e wr w1.heap.size (.slice pa ps.length pc) ps):=(HP.kept (qR _) j4.out (fun _ _ x=>x)).up kk.size;have k4:=k7.cell 4;simp at k4;clear k7 hU x1 x0 kz jm;by_cases xa:a<=kinds.length
 ·have k8:(a:Int)<=(kinds.length:Int):=by omega
  have jf:=hid (x1f wr gb fb (Q6d ((Q0k ps).zip (Q0r hs (Q0k ps))) 72) R H (.slice pa ps.length pc) vh ps hs k jq w1.heap.size jx.out jv.out ja.ks (by omega) hR);by_cases ky:a<kinds.length
  ·have kd:(a:Int)<(kinds.length:Int):=by omega
   have kw:=(qAy.1 x5.out) kinds[a] (by simp);simp only[qAd,qAu]at kw;obtain⟨t,ht⟩:∃t:Nat,kinds[a]=t:=⟨kinds[a].toNat,by omega⟩;have xg:t<=R:=by omega
   have jc:Hid ((Q57 hs R k).getD t false=true->_):=fun h=>HT.step xg kl.out js.out k0.out h;obtain⟨kg,ko,rfl,kx⟩:=x4.out a ky;have ck:=Q0h j4.out kx;rw[ht]at ck;clear kw kx;have j1:=jr.kind ky t ht;have ji:=hid (y9u HT.ok R k);have LH:=hid (y4v ji.out t);generalize hWT:Q57 hs R k=WT at j1 ji LH jf jc;have jo:(Q3e WT).length<=1000:=by have:=z4b WT;omega
   generalize hbit:WT.getD t false=bit at j1 LH jc;clear hWT hbit;cases bit
   ·simp only[qF,qAz]at j1;have j5:=hid j1;clear j1;go_wp2_with (first
     |(refine qAg rfl 50 _ _ rfl (w.heap.size+1) (Q6m (.slice none 0 0) (.slice wa (Q3e WT).length wc) a) rfl rfl _ _ jl.out Q7d rfl (z53 _ _ _ rfl rfl) ?_)
     |(go_at_call 37;refine(z8e w2 _ (Q3e WT) t (IntOwn.at' j6.out) jo).mono ?_;rw[LH.out];rintro e w'⟨rfl,hw⟩;rw[hw];clear hw)
     |(go_at_call 36;refine jf.mono ?_;rintro e w2⟨v2,rfl,j0,j2⟩;obtain⟨wa,wc,je⟩:=z0c j2;subst je;have j6:=hid j2;have j3:=hid j0;have jl:=hid (j0.at k3.out id);clear j2 j0))
    refine qAc (z0l rfl _ _ (w.heap.size+1) 50 (Q6m (.slice none 0 0) (.slice wa (Q3e WT).length wc) a) (0,0) _ rfl (qAn _ _ _ _ _ _ jl.out) qFk rfl Q7d) rfl ?_;have FF:Q0a w (w2.setRow (w.heap.size+1) (Q6m (.slice none 0 0) (.slice wa (Q3e WT).length wc) a)):=(j4.trans j3.out).setRow (fun h=>by omega) _;refine⟨.slice none 0 0,.slice wa (Q3e WT).length wc,by rw[j5.out];rfl,FF,?_,?_⟩
    ·rw[j5.out];exact qAh _ _ _ _
    rw[j5.out];refine z0g (z0d j6.out (fun g hg=>?_)) j4.size;have:=(j6.lt g hg).1;have h2:=j4.size;exact qCx _ _ _ _ (by omega)
   simp only[qBn]at j1;have jh:=hid j1;have kf:=jc.out rfl;obtain⟨s1,s2,s3,s4,s5,s6,s7⟩:=kf;have S4:=hid s4;have S5:=hid s5;have S6:=hid s6;have S1:=hid s1;generalize Q7w (Q0k ps) hs H t k st=rr at jh s2 s3 S4 S5 S6 S1 s7;clear j1 s1 s4 s5 s6;obtain⟨q1,q2,q3,q4⟩:=Q95 (show a<=60 by omega) jd j8 s3 s2 s7;have GT:Hid (∀w2:World,Q0a wr w2->Calls Tryz.prog 38 #[Q3c b,.int .i64 (t:Nat)] w2 fun e w'=>e=.returned (.tuple #[])/\∃vk'' vs'',GA w' b w1.heap.size R H (.slice pa ps.length pc) (Q3c gb) vk'' vs'' rr.1 rr.2/\UpB w1.heap.size w2 w'):=fun w2 j0 =>
    y1d w2 b w1.heap.size gb (Q3c fb) (Q6d ((Q0k ps).zip (Q0r hs (Q0k ps))) 72) R H _ jq ju k st ps t (Q2y H k.length) rr (ja.fresh j0) ⟨kv,j0.at jx.out id,z8m _ (qR _)⟩ (k2.kept kh j0 (fun _ _ x=>x)) (by omega) (fun p hp=>HT.syms p.pr (qBj.2 ⟨p,hp,rfl⟩)) js.out hR hH (by omega) (by have:=j0.size;omega) S1.out q1 q2
   clear q1 q2;have jz:Hid (63-(a+1)<63-a):=by unfold Hid;omega
   go_wp2_with (first
    |(go_at_call 38;have jp:=j3.out;refine(GT.out w2 j3.out).mono ?_;rintro e w3⟨rfl,ki,kj,jj,jn⟩;have jw:=hid jj;have k6:=hid jn;clear jj jn)
    |(go_at_call 37;refine(z8e w2 _ (Q3e WT) t (IntOwn.at' j6.out) jo).mono ?_;rw[LH.out];rintro e w'⟨rfl,hw⟩;rw[hw];clear hw)
    |(go_at_call 36;refine jf.mono ?_;rintro e w2⟨v2,rfl,j0,j2⟩;obtain⟨wa,wc,je⟩:=z0c j2;subst je;have j6:=hid j2;have j3:=hid j0;clear j2 j0))
   go_roundw
   case rel =>
    exact⟨a+1,rr.1,rr.2,ki,kj,by go_num,by omega,jh.out,jw.out,Mod.trans kn.out (Mod.trans (j3.mono (fun _ _ x=>x.elim)) k6.out),S4.out,S5.out,S6.out,q4,q3⟩
   simpa [intOf]using jz.out
  have kt:a=kinds.length:=by omega
  have kd:¬(a:Int)<(kinds.length:Int):=by omega
  have xd:¬(a<kinds.length):=by omega
  have jc:Hid ((Q57 hs R k).getD R false=true->_):=fun h=>HT.step (qR _) kl.out js.out k0.out h;have j1:=jr.last kt;clear kt;have ji:=hid (y9u HT.ok R k);have LH:=hid (y4v ji.out R);generalize hWT:Q57 hs R k=WT at j1 ji LH jf jc;have jo:(Q3e WT).length<=1000:=by have:=z4b WT;omega
  generalize hbit:WT.getD R false=bit at j1 LH jc;clear hWT hbit;cases bit
  ·simp only[qF,qAz]at j1;have j5:=hid j1;clear j1;go_wp2_with (first
    |(refine qAg rfl 50 _ _ rfl (w.heap.size+1) (Q6m (.slice none 0 0) (.slice wa (Q3e WT).length wc) a) rfl rfl _ _ jl.out Q7d rfl (z53 _ _ _ rfl rfl) ?_)
    |(go_at_call 37;refine(z8e w2 _ (Q3e WT) R (IntOwn.at' j6.out) jo).mono ?_;rw[LH.out];rintro e w'⟨rfl,hw⟩;rw[hw];clear hw)
    |(go_at_call 36;refine jf.mono ?_;rintro e w2⟨v2,rfl,j0,j2⟩;obtain⟨wa,wc,je⟩:=z0c j2;subst je;have j6:=hid j2;have j3:=hid j0;have jl:=hid (j0.at k3.out id);clear j2 j0))
   refine qAc (z0l rfl _ _ (w.heap.size+1) 50 (Q6m (.slice none 0 0) (.slice wa (Q3e WT).length wc) a) (0,0) _ rfl (qAn _ _ _ _ _ _ jl.out) qFk rfl Q7d) rfl ?_;have FF:Q0a w (w2.setRow (w.heap.size+1) (Q6m (.slice none 0 0) (.slice wa (Q3e WT).length wc) a)):=(j4.trans j3.out).setRow (fun h=>by omega) _;refine⟨.slice none 0 0,.slice wa (Q3e WT).length wc,by rw[j5.out];rfl,FF,?_,?_⟩
   ·rw[j5.out];exact qAh _ _ _ _
   rw[j5.out];refine z0g (z0d j6.out (fun g hg=>?_)) j4.size;have:=(j6.lt g hg).1;have h2:=j4.size;exact qCx _ _ _ _ (by omega)
  simp only[qBn]at j1;have jh:=hid j1;have kf:=jc.out rfl;obtain⟨s1,s2,s3,s4,s5,s6,s7⟩:=kf;have S4:=hid s4;have S5:=hid s5;have S6:=hid s6;have S1:=hid s1;generalize Q7w (Q0k ps) hs H R k st=rr at jh s2 s3 S4 S5 S6 S1 s7;clear j1 s1 s4 s5 s6;obtain⟨q1,q2,q3,q4⟩:=Q95 (show a<=60 by omega) jd j8 s3 s2 s7;have GT:Hid (∀w2:World,Q0a wr w2->Calls Tryz.prog 38 #[Q3c b,.int .i64 (R:Nat)] w2 fun e w'=>e=.returned (.tuple #[])/\∃vk'' vs'',GA w' b w1.heap.size R H (.slice pa ps.length pc) (Q3c gb) vk'' vs'' rr.1 rr.2/\UpB w1.heap.size w2 w'):=fun w2 j0 =>
   y1d w2 b w1.heap.size gb (Q3c fb) (Q6d ((Q0k ps).zip (Q0r hs (Q0k ps))) 72) R H _ jq ju k st ps R (Q2y H k.length) rr (ja.fresh j0) ⟨kv,j0.at jx.out id,z8m _ (qR _)⟩ (k2.kept kh j0 (fun _ _ x=>x)) (by omega) (fun p hp=>HT.syms p.pr (qBj.2 ⟨p,hp,rfl⟩)) js.out hR hH (by omega) (by have:=j0.size;omega) S1.out q1 q2
  clear q1 q2;have jz:Hid (63-(a+1)<63-a):=by unfold Hid;omega
  go_wp2_with (first
   |(go_at_call 38;have jp:=j3.out;refine(GT.out w2 j3.out).mono ?_;rintro e w3⟨rfl,ki,kj,jj,jn⟩;have jw:=hid jj;have k6:=hid jn;clear jj jn)
   |(go_at_call 37;refine(z8e w2 _ (Q3e WT) R (IntOwn.at' j6.out) jo).mono ?_;rw[LH.out];rintro e w'⟨rfl,hw⟩;rw[hw];clear hw)
   |(go_at_call 36;refine jf.mono ?_;rintro e w2⟨v2,rfl,j0,j2⟩;obtain⟨wa,wc,je⟩:=z0c j2;subst je;have j6:=hid j2;have j3:=hid j0;clear j2 j0))
  go_roundw
  case rel =>
   exact⟨a+1,rr.1,rr.2,ki,kj,by go_num,by omega,jh.out,jw.out,Mod.trans kn.out (Mod.trans (j3.mono (fun _ _ x=>x.elim)) k6.out),S4.out,S5.out,S6.out,q4,q3⟩
  simpa [intOf]using jz.out
 have kq:G=⟨0,[],0,st⟩:=by
  have h:=jr;unfold GrS at h;rw[qAa xa]at h;exact h
 have j5:=hid kq;have k8:¬(a:Int)<=(kinds.length:Int):=by omega
 have j9:st.length<=1000000000000:=by
  have h1:a<=61:=by omega
  have h2:a*2000000000<=61*2000000000:=qCr _ h1;exact qDa j8 (qDa h2 (by decide))
 obtain⟨sa,sc,xj⟩:=z0c ja.ss;have k5:=ja.cell 5;simp at k5;subst xj;have xo:=ja.lt;have WD:Hid (∀W:World,Q0a wr W->Calls Tryz.prog 39 #[.agg #[.int .i64 R,.int .i64 H,.slice pa ps.length pc],.slice sa st.length sc] W fun e w'=>∃v,e=.returned v/\Q0a W w'/\Q2x w' W.heap.size v (Q1p (Q0k ps) st)):=fun W hW =>
  y3o W R H (.slice pa ps.length pc) (.slice sa st.length sc) ps st ((k2.kept kh hW (fun _ _ x=>x)).up (by have:=hW.size;omega)) ⟨z0g ((ja.fresh hW).ss) (qBq _),fun _ _=>rfl⟩ k0.out j9 (by omega) (fun p hp=>by have:=(HT.syms p.pr (qBj.2 ⟨p,hp,rfl⟩)).1;omega)
 clear kq jr jd j8 j9 k4;go_upto_region 14 with fail
 go_cut [12] (fun s12 wx=>Q0a wr wx/\Q2x wx wr.heap.size s12 (Q1p (Q0k ps) st))
 case first =>
  go_region_with (first
   |(go_at_call 39;refine(WD.out _ (by first|exact(mRf _ wr).drew|exact mRf _ wr)).mono ?_;rintro e w3⟨v,rfl,xb,xe⟩))
  all_goals
   go_wp2_with fail
   go_meet;exact⟨Mod.trans ((mRf _ wr).drew) xb,xe⟩
 obtain⟨k9,ke⟩:=hcut;obtain⟨na,nc,xh⟩:=z0c ke;subst xh;have k1:=hid ke;have x3:=hid k9;have kr:=hid (k9.at k3.out id);generalize hNF:Q1p (Q0k ps) st=NF at k1;have x6:=hid hNF;clear k9 ke hNF;go_wp2_with (first
  |(refine qAg rfl 50 _ _ rfl (w.heap.size+1) (Q6m (.slice na NF.length nc) (.slice none 0 0) 0) rfl rfl _ _ kr.out Q7d rfl (z53 _ _ _ rfl rfl) ?_))
 refine qAc (z0l rfl _ _ (w.heap.size+1) 50 (Q6m (.slice na NF.length nc) (.slice none 0 0) 0) (0,0) _ rfl (qAn _ _ _ _ _ _ kr.out) qFk rfl Q7d) rfl ?_;refine⟨.slice na NF.length nc,.slice none 0 0,by rw[j5.out];rfl,(j4.trans x3.out).setRow (fun h=>by omega) _,?_,?_⟩
 ·rw[j5.out];show Q2x _ _ _ (Q1p (Q0k ps) st);rw[x6.out];refine z0g (z0d k1.out (fun g hg=>?_)) j4.size;have:=(k1.lt g hg).1;have h2:=j4.size;exact qCx _ _ _ _ (by omega)
 rw[j5.out];exact qAh _ _ _ _
theorem y9p{s:ByteArray}(hc:(Q0u s).1=0)(hcl:Q13 s=[]):Tab (Q0p (Q0c s).1) (Q0g (Q0c s).1).length (Q0j (Q0c s).1).length (Q7p s):=by
 have j0:=z2w hc;obtain⟨h1,h2,h3,h4,h5⟩:=z2d j0;have hI:=Q62 j0;have j2:=Q7y j0;have hT:=tabOk h3 hI.places j2.mem;have hR:=y28 (fun y hy=>(hI.places y hy).1) h5;obtain⟨c1,c2,c3⟩:=y34 (fun y hy=>(hI.places y hy).1) h5;have hS:=z8o hT hR;have j1:0<(Q0j (Q0c s).1).length:=by
  unfold Q4a at h4;rw[qBb]at h4;obtain⟨y,hy,hq⟩:=h4;have:=j2.mem y (qDi.2 ⟨hy,hq⟩);omega
 exact⟨llg hT hR j1 c3 hcl,hS.ok,hR,c1,j1,c2⟩
theorem y0c{s:ByteArray}(hc:(Q0u s).1=0):∀x∈Q7p s,x.ok:=by
 have j0:=z2w hc;obtain⟨h1,h2,h3,h4,h5⟩:=z2d j0;have hI:=Q62 j0;have j1:=Q7y j0;exact(z8o (tabOk h3 hI.places j1.mem) (y28 (fun y hy=>(hI.places y hy).1) h5)).ok
theorem z15(w:World)(R H:Nat)(vp:Value)(ps:List PV)(hp:Q2e w w.heap.size vp ps)(hps:ps.length<=1000)(hH:H<=1000)(hR:R<=1000)(hok:∀x∈Q33 (Q0k ps) (Q0z R H),x.ok) :
  Calls Tryz.prog 12 #[.agg #[.int .i64 R,.int .i64 H,vp]] w fun e w'=>e=.returned (.bool (decide (0<(Q6g ((Q0k ps).zip (Q0r (Q33 (Q0k ps) (Q0z R H)) (Q0k ps))) R H).length)))/\Q0a w w':=by
 obtain⟨pa,pc,j1⟩:=z0c hp.row.own;subst j1;have CA:=hid (y6h (w.alloc (.cells #[.int .i64 R,.int .i64 H,.slice pa ps.length pc] 42 (0,0))) R H (.slice pa ps.length pc) ps ((hp.kept (qR _) ((mRf (fun _=>False) w).alloc _) (fun _ _ x=>x)).up (by simp)) hps hH hR hok);generalize Q6g ((Q0k ps).zip (Q0r (Q33 (Q0k ps) (Q0z R H)) (Q0k ps))) R H=CL at CA;clear hp hok;go_enter Tryz.func12,Tryz.ntmps12
 go_wp2_with (first
  |(go_at_call 32;refine CA.mono ?_;rintro e w1⟨v,rfl,j0,ho⟩;obtain⟨ca,cc,hv⟩:=z0c ho;subst hv;clear ho))
 go_ret;refine⟨?_,Mod.trans ((mRf _ w).alloc _) j0⟩;show Ending.returned (Value.bool _)=_;congr 2
def nR(s:ByteArray):Nat:=(Q0g (Q0c s).1).length
def nH(s:ByteArray):Nat:=(Q0j (Q0c s).1).length
def Q8b(s:ByteArray):List Pr:=Q0p (Q0c s).1
def Q24(s:ByteArray)(kinds:List Int):GOut:=Q6k (Q8b s) (Q7p s) (nR s) (nH s) kinds 0 [⟨true,0⟩] []
def ParRet(s:ByteArray)(G:GOut)(w:World)(e:Ending)(w':World):Prop :=
 ∃vn vw,e=.returned (.tuple #[.agg (Q6m vn vw G.place),.int .i64 G.err])/\Q0a w w'/\Q2x w' w.heap.size vn (Q1p (Q8b s) G.st)/\IntOwn w' w.heap.size vw G.wanted
theorem z12(s:ByteArray)(hc:(Q0u s).1=0){pvs:List PV}(hm:pvs.map PV.pr=Q0p (Q0c s).1):Q0k pvs=Q8b s/\pvs.length<=1000/\nH s<=1000/\nR s<=1000/\Q7p s=Q33 (Q0k pvs) (Q0z (nR s) (nH s)):=by
 obtain⟨z1,z2,z3⟩:=y5w hc;have h1:pvs.length=(Q0p (Q0c s).1).length:=by rw[← hm];simp
 refine⟨hm,by omega,by unfold nH;omega,by unfold nR;omega,?_⟩;unfold Q7p Q0k nR nH;rw[hm]
theorem z4w(s:ByteArray)(hc:(Q0u s).1=0){pvs:List PV}(hm:pvs.map PV.pr=Q0p (Q0c s).1):Q6g ((Q0k pvs).zip (Q0r (Q33 (Q0k pvs) (Q0z (nR s) (nH s))) (Q0k pvs))) (nR s) (nH s)=Q13 s:=by
 obtain⟨h1,_,_,_,h5⟩:=z12 s hc hm;rw[← h5,h1];rfl
theorem y03(lns:List Ln)(t:ByteArray)(i:Nat):∀(f k:Nat) (b:Int × Int),(b.2<=i∨(0<=b.1/\b.1<lns.length))->((Q5d lns t i f k b).2<=i∨(0<=(Q5d lns t i f k b).1/\(Q5d lns t i f k b).1<lns.length))
 |0,_,b,h=>h
 |f+1,k,b,h=>by
  unfold Q5d;cases hq:lns[k]? with
  |none=>exact h
  |some x =>
   simp only[];refine y03 lns t i f (k+1) _ ?_;split
   ·right;have:=(qS hq).1;dsimp only;omega
   exact h
theorem y08(lns:List Ln)(t:ByteArray):∀(f i:Nat) (toks:List Tk),(∀x∈toks,0<=x.r/\x.r<lns.length)->∀x∈(Q93 lns t f i toks).1,0<=x.r/\x.r<lns.length
 |0,_,_,_,x,hx=>by simp[Q93]at hx
 |f+1,i,toks,h,x,hx=>by
  unfold Q93 at hx;split at hx
  ·split at hx
   ·simp at hx
   rename_i hb;refine y08 lns t f _ _ ?_ x hx;split
   ·exact h
   intro y hy;rcases qBs.1 hy with hy|hy
   ·exact h y hy
   simp only[qM]at hy;subst hy;rcases y03 lns t i (lns.length+1) 0 (0,i) (.inl (Int.le_refl _))with h1|h1
   ·exact absurd h1 hb
   exact h1
  exact h x hx
theorem x4z(s:ByteArray):(Q0i s).length=nR s:=by unfold Q0i nR Q0g;rw[qAv]
theorem z6d(s t:ByteArray):Q1z (nR s) ((Q3r (Q0i s) t).1.map Tk.r)=true:=by
 unfold Q1z;rw[qAy];intro k hk;obtain⟨x,hx,rfl⟩:=qBj.1 hk;have:=y08 (Q0i s) t _ _ _ (by simp) x hx;rw[x4z]at this;simp;exact this
structure ROut where
 err:Int
 toks:List Tk
 st:List St
 wanted:List Int
 place:Int
def Q7i(e p:Int):ROut:=⟨e,[],[],[],p⟩
def runG(s t:ByteArray)(C:List Tk × Int × Int):ROut :=
 if C.2.1≠0 then Q7i C.2.1 C.2.2
 else if 60<C.1.length then Q7i 1 0
 else if(Q24 s (C.1.map Tk.r)).err≠0 then⟨(Q24 s (C.1.map Tk.r)).err,[],[],(Q24 s (C.1.map Tk.r)).wanted,Q49 C.1 (Q24 s (C.1.map Tk.r)).place t.size⟩
 else⟨0,C.1,(Q24 s (C.1.map Tk.r)).st,[],0⟩
def Q82(s t:ByteArray):ROut :=
 if 200<t.size then Q7i 1 0
 else if(Q0u s).1≠0 then Q7i (Q0u s).1 0
 else if Q13 s≠[] then Q7i 8 0
 else runG s t (Q3r (Q0i s) t)
abbrev Q7o(vt vn vw:Value)(a:Int):Array Value:=#[vt,vn,vw,.int .i64 a]
theorem Q29:(Tryz.prog.info? 26).map (·.size)=some 4:=by kernel_rfl
theorem z2f(vt vn vw:Value)(a:Int)(h1:vt.oneCell'=true)(h2:vn.oneCell'=true)(h3:vw.oneCell'=true):(#[vt,vn,vw,Value.int .i64 a]:Array Value).all (·.oneCell')=true :=
 qCq (cs:=[vt,vn,vw,.int .i64 a]) (by intro v hv;simp only[qBu,qEi,or_false]at hv;rcases hv with rfl|rfl|rfl|rfl;exact h1;exact h2;exact h3;rfl)
def Q2a(s:ByteArray)(O:ROut)(w:World)(e:Ending)(w':World):Prop :=
 ∃vt vn vw,e=.returned (.tuple #[.agg (Q7o vt vn vw O.place),.int .i64 O.err])/\Q0a w w'/\Q43 w' vt O.toks/\Q2x w' w.heap.size vn (Q1p (Q8b s) O.st)/\IntOwn w' w.heap.size vw O.wanted
theorem Q2a.bad{s:ByteArray}{e p:Int}{w w':World}(hf:Q0a w w'):Q2a s (Q7i e p) w (.returned (.tuple #[.agg (Q7o (.slice none 0 0) (.slice none 0 0) (.slice none 0 0) p),.int .i64 e])) w' :=
 ⟨_,_,_,rfl,hf,Q18.nil _ _ _ _,qAh _ _ _ _,qAh _ _ _ _⟩
abbrev Q66:Array Value:=Q7o (.slice none 0 0) (.slice none 0 0) (.slice none 0 0) 0
theorem x7z(s t:ByteArray)(w:World)(ht:t.size<=maxLen)(hl:200<t.size) :
  Calls Tryz.prog 4 #[.string s,.string t] w fun e w'=>Q2a s (Q7i 1 0) w e w':=by
 unfold maxLen at ht;have j0:(200:Int)<(t.size:Int):=by omega
 go_enter Tryz.func4,Tryz.ntmps4
 go_wp2;exact qAc (z0l rfl _ _ w.heap.size 26 Q66 (0,0) _ rfl (z0a _ _) qCl rfl Q29) rfl (Q2a.bad ((mRf _ w).alloc _))
theorem v1j(s t:ByteArray)(w:World)(hs:s.size<=maxLen)(hl:t.size<=200)(hc:(Q0u s).1≠0) :
  Calls Tryz.prog 4 #[.string s,.string t] w fun e w'=>Q2a s (Q7i (Q0u s).1 0) w e w':=by
 have SC:=hid (fun w=>z1t s w hs);unfold Q3x at SC;have c0:((Q0u s).1 != 0)=true:=by simpa using hc
 have j3:¬(200:Int)<(t.size:Int):=by omega
 generalize Q0u s=E at SC c0 hc;go_enter Tryz.func4,Tryz.ntmps4
 go_wp2_with (first
  |(refine qAg rfl 26 _ _ rfl w.heap.size Q66 rfl rfl _ _ j1.out Q29 rfl (z2f _ _ _ _ rfl rfl rfl) ?_)
  |(go_at_call 10;refine(SC.out _).mono ?_;rintro e w1⟨v,rfl,j0,_⟩;have j2:Hid (Q0a w w1):=Mod.trans ((mRf _ w).alloc _) j0;have j1:Hid (w1.heap[w.heap.size]? = some (.cells Q66 26 (0,0))):=j0.at (z0a w _) id;clear j0))
 refine qAc (z0l rfl _ _ w.heap.size 26 Q66 (0,0) _ rfl (qAn _ _ _ _ _ _ j1.out) qCl rfl Q29) rfl (Q2a.bad ?_);exact j2.setRow (fun h=>absurd h (qBw _)) _
theorem x43(s t:ByteArray)(w:World)(hs:s.size<=maxLen)(hl:t.size<=200)(hc:(Q0u s).1=0)(hcl:Q13 s≠[]) :
  Calls Tryz.prog 4 #[.string s,.string t] w fun e w'=>Q2a s (Q7i 8 0) w e w':=by
 have SC:=hid (fun w=>z1t s w hs);unfold Q3x at SC;have H0:=hid hc;have jo:=(z1k s).1;have j6:=(z1k s).2;have jc:=z5a s;have jp:=z5g hc;have ju:¬(200:Int)<(t.size:Int):=by omega
 have jj:Hid (∀(W:World) (v:Value) (xs:List LV),Q0s W v xs->xs.map LV.ln=(Q0c s).1->Calls Tryz.prog 11 #[v] W fun e w'=>∃vp j0,e=.returned (.agg #[.int .i64 (nR s),.int .i64 (nH s),vp])/\Q0a W w'/\j0.map PV.pr=Q0p (Q0c s).1/\Q2e w' w'.heap.size vp j0):=fun W v xs hL hx=>by
  have h1:xs.length=(Q0c s).1.length:=by rw[← hx];simp
  have h:=z47 W v xs hL (by omega) (fun x hxx=>by
   have hm:x.ln∈(Q0c s).1:=by rw[← hx];exact qBj.2 ⟨x,hxx,rfl⟩
   exact⟨(j6 x.ln hm).fb,jc x.ln hm,by have:=(j6 x.ln hm).sb;omega⟩)
  rw[hx]at h;exact h
 have jk:Hid (∀(W:World) (v:Value) (xs:List LV),Q0s W v xs->xs.map LV.ln=(Q0c s).1->Calls Tryz.prog 13 #[v] W fun e w'=>∃v' ys,e=.returned v'/\Q0s w' v' ys/\ys.map LV.ln=Q0i s/\ys.length<=1000/\Q0a W w'):=fun W v xs hL hx=>by
  have h1:xs.length=(Q0c s).1.length:=by rw[← hx];simp
  refine(z5b W v xs hL (by omega) (fun x hxx=>(j6 x.ln (by rw[← hx];exact qBj.2 ⟨x,hxx,rfl⟩)).fb)).mono ?_;rintro e w'⟨v',he,jl,hf⟩;refine⟨v',_,he,jl,by rw[z4x,hx];rfl,?_,hf⟩;have:=qCc (fun x:LV=>Q0x x.ln) xs;omega
 have je:Hid (∀(W:World) (v:Value) (ys:List LV),Q0s W v ys->ys.map LV.ln=Q0i s->ys.length<=1000->Calls Tryz.prog 14 #[v,.string t] W fun e w'=>∃v',e=.returned (.tuple #[v',.int .i64 (Q3r (Q0i s) t).2.1,.int .i64 (Q3r (Q0i s) t).2.2])/\Q0a W w'/\Q43 w' v' (Q3r (Q0i s) t).1):=fun W v ys hL hy hn=>by
  have h:=z82 W v ys t hL hn hl;rw[hy]at h;exact h
 have IC:Hid (∀(W:World) (vp:Value) (j0:List PV),j0.map PV.pr=Q0p (Q0c s).1->Q2e W W.heap.size vp j0->Calls Tryz.prog 12 #[.agg #[.int .i64 (nR s),.int .i64 (nH s),vp]] W fun e w'=>e=.returned (.bool (decide (0<(Q13 s).length)))/\Q0a W w'):=fun W vp j0 hm hp=>by
  obtain⟨h1,h2,h3,h4,h5⟩:=z12 s hc hm;have h:=z15 W (nR s) (nH s) vp j0 hp h2 h3 h4 (by rw[← h5];exact y0c hc);rw[z4w s hc hm]at h;exact h
 have jf:Hid (decide (0<(Q13 s).length)=true):=by unfold Hid;simp;exact List.length_pos_iff.2 hcl
 generalize nR s=R at *;generalize nH s=H at *;clear jo j6 jc jp hc hcl jk je;go_enter Tryz.func4,Tryz.ntmps4
 go_wp2_with (first
  |(refine qAg rfl 26 _ _ rfl w.heap.size (Q66) rfl rfl _ _ jb.out Q29 rfl (z2f _ _ _ _ rfl rfl rfl) ?_)
  |(go_at_call 12;have j4:=ja.out;refine(IC.out _ _ j0 j7.out (j8.out _ (mRf _ _))).mono ?_;rw[jf.out];rintro e w3⟨rfl,j2⟩;have jh:=hid (ja.trans j2);have jt:=hid j2;have jb:=hid (j2.at jn.out id);have js:=hid (j2.at (z0a w2 _) id);have jr:=hid (ji.fresh j2);clear j2)
  |(go_at_call 11;have j4:=HX.out;refine(jj.out _ v xs HL.out HX.out).mono ?_;rintro e w2⟨vp,j0,rfl,j5,j3,j1⟩;obtain⟨ra,rc,jq⟩:=z0c j1.row.own;subst jq;have j7:=hid j3;have j8:Hid (∀W,Q0a (w2.alloc (.cells #[.int .i64 R,.int .i64 H,.slice ra j0.length rc] 42 (0,0))) W->Q2e W W.heap.size (.slice ra j0.length rc) j0):=fun W hW=>(j1.kept (qR _) (Mod.trans ((mRf (fun _=>False) w2).alloc _) hW) (fun _ _ x=>x)).up (Mod.trans ((mRf (fun _=>False) w2).alloc _) hW).size;have ja:Hid (Q0a w (w2.alloc (.cells #[.int .i64 R,.int .i64 H,.slice ra j0.length rc] 42 (0,0)))):=(jg.trans j5).alloc _;have jn:Hid ((w2.alloc (.cells #[.int .i64 R,.int .i64 H,.slice ra j0.length rc] 42 (0,0))).heap[w.heap.size]? = some (.cells Q66 26 (0,0))):=z0b (j5.at jm.out id);have ji:=hid ((HL.fresh j5).fresh ((mRf _ w2).alloc (.cells #[.int .i64 R,.int .i64 H,.slice ra j0.length rc] 42 (0,0))));clear j5 j3 j1)
  |(go_at_call 10;refine(SC.out _).mono ?_;rintro e w1⟨v,rfl,j9,xs,hL,jd⟩;rw[H0.out];have HX:=hid (jd.elim (fun h=>absurd H0.out h.1) (fun h=>h.2));have HL:=hid hL;have jg:Hid (Q0a w w1):=Mod.trans ((mRf _ w).alloc _) j9;have jm:Hid (w1.heap[w.heap.size]? = some (.cells Q66 26 (0,0))):=j9.at (z0a w _) id;clear jd hL j9))
 refine qAc (z0l rfl _ _ w.heap.size 26 (Q66) (0,0) _ rfl (qAn _ _ _ _ _ _ jb.out) qCl rfl Q29) rfl ?_;exact Q2a.bad (jh.setRow (fun h=>absurd h (qBw _)) _)
theorem v1k(s t:ByteArray)(w:World)(hs:s.size<=maxLen)(hl:t.size<=200)(hc:(Q0u s).1=0)(hcl:Q13 s=[])(he:(Q3r (Q0i s) t).2.1≠0) :
  Calls Tryz.prog 4 #[.string s,.string t] w fun e w'=>Q2a s (Q7i (Q3r (Q0i s) t).2.1 (Q3r (Q0i s) t).2.2) w e w':=by
 have SC:=hid (fun w=>z1t s w hs);unfold Q3x at SC;have H0:=hid hc;have k2:=(z1k s).1;have j8:=(z1k s).2;have jj:=z5a s;have k3:=z5g hc;have ka:¬(200:Int)<(t.size:Int):=by omega
 have jv:Hid (∀(W:World) (v:Value) (xs:List LV),Q0s W v xs->xs.map LV.ln=(Q0c s).1->Calls Tryz.prog 11 #[v] W fun e w'=>∃vp j0,e=.returned (.agg #[.int .i64 (nR s),.int .i64 (nH s),vp])/\Q0a W w'/\j0.map PV.pr=Q0p (Q0c s).1/\Q2e w' w'.heap.size vp j0):=fun W v xs hL hx=>by
  have h1:xs.length=(Q0c s).1.length:=by rw[← hx];simp
  have h:=z47 W v xs hL (by omega) (fun x hxx=>by
   have hm:x.ln∈(Q0c s).1:=by rw[← hx];exact qBj.2 ⟨x,hxx,rfl⟩
   exact⟨(j8 x.ln hm).fb,jj x.ln hm,by have:=(j8 x.ln hm).sb;omega⟩)
  rw[hx]at h;exact h
 have jw:Hid (∀(W:World) (v:Value) (xs:List LV),Q0s W v xs->xs.map LV.ln=(Q0c s).1->Calls Tryz.prog 13 #[v] W fun e w'=>∃v' ys,e=.returned v'/\Q0s w' v' ys/\ys.map LV.ln=Q0i s/\ys.length<=1000/\Q0a W w'):=fun W v xs hL hx=>by
  have h1:xs.length=(Q0c s).1.length:=by rw[← hx];simp
  refine(z5b W v xs hL (by omega) (fun x hxx=>(j8 x.ln (by rw[← hx];exact qBj.2 ⟨x,hxx,rfl⟩)).fb)).mono ?_;rintro e w'⟨v',he,jx,hf⟩;refine⟨v',_,he,jx,by rw[z4x,hx];rfl,?_,hf⟩;have:=qCc (fun x:LV=>Q0x x.ln) xs;omega
 have jd:Hid (∀(W:World) (v:Value) (ys:List LV),Q0s W v ys->ys.map LV.ln=Q0i s->ys.length<=1000->Calls Tryz.prog 14 #[v,.string t] W fun e w'=>∃v',e=.returned (.tuple #[v',.int .i64 (Q3r (Q0i s) t).2.1,.int .i64 (Q3r (Q0i s) t).2.2])/\Q0a W w'/\Q43 w' v' (Q3r (Q0i s) t).1):=fun W v ys hL hy hn=>by
  have h:=z82 W v ys t hL hn hl;rw[hy]at h;exact h
 have IC:Hid (∀(W:World) (vp:Value) (j0:List PV),j0.map PV.pr=Q0p (Q0c s).1->Q2e W W.heap.size vp j0->Calls Tryz.prog 12 #[.agg #[.int .i64 (nR s),.int .i64 (nH s),vp]] W fun e w'=>e=.returned (.bool (decide (0<(Q13 s).length)))/\Q0a W w'):=fun W vp j0 hm hp=>by
  obtain⟨h1,h2,h3,h4,h5⟩:=z12 s hc hm;have h:=z15 W (nR s) (nH s) vp j0 hp h2 h3 h4 (by rw[← h5];exact y0c hc);rw[z4w s hc hm]at h;exact h
 have jl:Hid (decide (0<(Q13 s).length)=false):=by unfold Hid;simp[hcl]
 have c0:((Q3r (Q0i s) t).2.1 != 0)=true:=by simpa using he
 generalize Q3r (Q0i s) t=C at jd c0 ⊢;generalize nR s=R at *;generalize nH s=H at *;clear k2 j8 jj k3 hc hcl he;go_enter Tryz.func4,Tryz.ntmps4
 go_wp2_with (first
  |(refine qAg rfl 26 _ _ rfl w.heap.size (Q7o (.slice none 0 0) (.slice none 0 0) (.slice none 0 0) C.2.2) rfl rfl _ _ ji.out Q29 rfl (z2f _ _ _ _ rfl rfl rfl) ?_)
  |(go_at_call 14;have j1:=jg.out;refine(jd.out _ v' ys jq.out HY.out k6).mono ?_;rintro e w5⟨vt,rfl,j5,jb⟩;obtain⟨ta,tc,k5⟩:=z0c jb.own;subst k5;have k8:=hid jb;have jn:=hid (jg.trans j5);have k9:=hid (ju.trans j5);have ji:=hid (j5.at k1.out id);have k7:=hid (j5.at js.out id);clear jb j5)
  |(go_at_call 13;have j1:=jf.out;refine(jw.out _ v xs jp.out HX.out).mono ?_;rintro e w4⟨v',ys,rfl,jh,hy,k6,j4⟩;have jq:=hid jh;have HY:=hid hy;have jg:=hid (jf.trans j4);have ju:=hid (jt.trans j4);have k1:=hid (j4.at k0.out id);have js:=hid (j4.at jr.out id);clear jh hy j4)
  |(go_at_call 12;have j1:=je.out;refine(IC.out _ _ j0 j9.out (ja.out _ (mRf _ _))).mono ?_;rw[jl.out];rintro e w3⟨rfl,j3⟩;have jf:=hid (je.trans j3);have jt:=hid j3;have k0:=hid (j3.at jz.out id);have jr:=hid (j3.at (z0a w2 _) id);have jp:=hid (jo.fresh j3);clear j3)
  |(go_at_call 11;have j1:=HX.out;refine(jv.out _ v xs HL.out HX.out).mono ?_;rintro e w2⟨vp,j0,rfl,j7,j6,j2⟩;obtain⟨ra,rc,k4⟩:=z0c j2.row.own;subst k4;have j9:=hid j6;have ja:Hid (∀W,Q0a (w2.alloc (.cells #[.int .i64 R,.int .i64 H,.slice ra j0.length rc] 42 (0,0))) W->Q2e W W.heap.size (.slice ra j0.length rc) j0):=fun W hW=>(j2.kept (qR _) (Mod.trans ((mRf (fun _=>False) w2).alloc _) hW) (fun _ _ x=>x)).up (Mod.trans ((mRf (fun _=>False) w2).alloc _) hW).size;have je:Hid (Q0a w (w2.alloc (.cells #[.int .i64 R,.int .i64 H,.slice ra j0.length rc] 42 (0,0)))):=(jm.trans j7).alloc _;have jz:Hid ((w2.alloc (.cells #[.int .i64 R,.int .i64 H,.slice ra j0.length rc] 42 (0,0))).heap[w.heap.size]? = some (.cells Q66 26 (0,0))):=z0b (j7.at jy.out id);have jo:=hid ((HL.fresh j7).fresh ((mRf _ w2).alloc (.cells #[.int .i64 R,.int .i64 H,.slice ra j0.length rc] 42 (0,0))));clear j7 j6 j2)
  |(go_at_call 10;refine(SC.out _).mono ?_;rintro e w1⟨v,rfl,jc,xs,hL,jk⟩;rw[H0.out];have HX:=hid (jk.elim (fun h=>absurd H0.out h.1) (fun h=>h.2));have HL:=hid hL;have jm:Hid (Q0a w w1):=Mod.trans ((mRf _ w).alloc _) jc;have jy:Hid (w1.heap[w.heap.size]? = some (.cells Q66 26 (0,0))):=jc.at (z0a w _) id;clear jk hL jc))
 refine qAc (z0l rfl _ _ w.heap.size 26 (Q7o (.slice none 0 0) (.slice none 0 0) (.slice none 0 0) C.2.2) (0,0) _ rfl (qAn _ _ _ _ _ _ ji.out) qCl rfl Q29) rfl ?_;exact Q2a.bad (jn.setRow (fun h=>absurd h (qBw _)) _)
theorem x70(s t:ByteArray)(w:World)(hs:s.size<=maxLen)(hl:t.size<=200)(hc:(Q0u s).1=0)(hcl:Q13 s=[])(he:(Q3r (Q0i s) t).2.1=0)(hm:60<(Q3r (Q0i s) t).1.length)(hml:(Q3r (Q0i s) t).1.length<=1000) :
  Calls Tryz.prog 4 #[.string s,.string t] w fun e w'=>Q2a s (Q7i 1 0) w e w':=by
 have SC:=hid (fun w=>z1t s w hs);unfold Q3x at SC;have H0:=hid hc;have k2:=(z1k s).1;have j8:=(z1k s).2;have jj:=z5a s;have k3:=z5g hc;have ka:¬(200:Int)<(t.size:Int):=by omega
 have jv:Hid (∀(W:World) (v:Value) (xs:List LV),Q0s W v xs->xs.map LV.ln=(Q0c s).1->Calls Tryz.prog 11 #[v] W fun e w'=>∃vp j0,e=.returned (.agg #[.int .i64 (nR s),.int .i64 (nH s),vp])/\Q0a W w'/\j0.map PV.pr=Q0p (Q0c s).1/\Q2e w' w'.heap.size vp j0):=fun W v xs hL hx=>by
  have h1:xs.length=(Q0c s).1.length:=by rw[← hx];simp
  have h:=z47 W v xs hL (by omega) (fun x hxx=>by
   have hm:x.ln∈(Q0c s).1:=by rw[← hx];exact qBj.2 ⟨x,hxx,rfl⟩
   exact⟨(j8 x.ln hm).fb,jj x.ln hm,by have:=(j8 x.ln hm).sb;omega⟩)
  rw[hx]at h;exact h
 have jw:Hid (∀(W:World) (v:Value) (xs:List LV),Q0s W v xs->xs.map LV.ln=(Q0c s).1->Calls Tryz.prog 13 #[v] W fun e w'=>∃v' ys,e=.returned v'/\Q0s w' v' ys/\ys.map LV.ln=Q0i s/\ys.length<=1000/\Q0a W w'):=fun W v xs hL hx=>by
  have h1:xs.length=(Q0c s).1.length:=by rw[← hx];simp
  refine(z5b W v xs hL (by omega) (fun x hxx=>(j8 x.ln (by rw[← hx];exact qBj.2 ⟨x,hxx,rfl⟩)).fb)).mono ?_;rintro e w'⟨v',he,jx,hf⟩;refine⟨v',_,he,jx,by rw[z4x,hx];rfl,?_,hf⟩;have:=qCc (fun x:LV=>Q0x x.ln) xs;omega
 have j9:Hid (∀(W:World) (v:Value) (ys:List LV),Q0s W v ys->ys.map LV.ln=Q0i s->ys.length<=1000->Calls Tryz.prog 14 #[v,.string t] W fun e w'=>∃v',e=.returned (.tuple #[v',.int .i64 (Q3r (Q0i s) t).2.1,.int .i64 (Q3r (Q0i s) t).2.2])/\Q0a W w'/\Q43 w' v' (Q3r (Q0i s) t).1):=fun W v ys hL hy hn=>by
  have h:=z82 W v ys t hL hn hl;rw[hy]at h;exact h
 have IC:Hid (∀(W:World) (vp:Value) (j0:List PV),j0.map PV.pr=Q0p (Q0c s).1->Q2e W W.heap.size vp j0->Calls Tryz.prog 12 #[.agg #[.int .i64 (nR s),.int .i64 (nH s),vp]] W fun e w'=>e=.returned (.bool (decide (0<(Q13 s).length)))/\Q0a W w'):=fun W vp j0 hm hp=>by
  obtain⟨h1,h2,h3,h4,h5⟩:=z12 s hc hm;have h:=z15 W (nR s) (nH s) vp j0 hp h2 h3 h4 (by rw[← h5];exact y0c hc);rw[z4w s hc hm]at h;exact h
 have jl:Hid (decide (0<(Q13 s).length)=false):=by unfold Hid;simp[hcl]
 generalize Q3r (Q0i s) t=C at j9 he hm hml ⊢;have kb:(60:Int)<(C.1.length:Int):=by omega
 rw[he]at j9;generalize nR s=R at *;generalize nH s=H at *;clear k2 j8 jj k3 hc hcl he;go_enter Tryz.func4,Tryz.ntmps4
 go_wp2_with (first
  |(refine qAg rfl 26 _ _ rfl w.heap.size (Q66) rfl rfl _ _ ji.out Q29 rfl (z2f _ _ _ _ rfl rfl rfl) ?_)
  |(go_at_call 14;have j1:=jg.out;refine(j9.out _ v' ys jq.out HY.out k6).mono ?_;rintro e w5⟨vt,rfl,j5,jc⟩;obtain⟨ta,tc,k5⟩:=z0c jc.own;subst k5;have k8:=hid jc;have jn:=hid (jg.trans j5);have k9:=hid (ju.trans j5);have ji:=hid (j5.at k1.out id);have k7:=hid (j5.at js.out id);clear jc j5)
  |(go_at_call 13;have j1:=jf.out;refine(jw.out _ v xs jp.out HX.out).mono ?_;rintro e w4⟨v',ys,rfl,jh,hy,k6,j4⟩;have jq:=hid jh;have HY:=hid hy;have jg:=hid (jf.trans j4);have ju:=hid (jt.trans j4);have k1:=hid (j4.at k0.out id);have js:=hid (j4.at jr.out id);clear jh hy j4)
  |(go_at_call 12;have j1:=je.out;refine(IC.out _ _ j0 ja.out (jb.out _ (mRf _ _))).mono ?_;rw[jl.out];rintro e w3⟨rfl,j3⟩;have jf:=hid (je.trans j3);have jt:=hid j3;have k0:=hid (j3.at jz.out id);have jr:=hid (j3.at (z0a w2 _) id);have jp:=hid (jo.fresh j3);clear j3)
  |(go_at_call 11;have j1:=HX.out;refine(jv.out _ v xs HL.out HX.out).mono ?_;rintro e w2⟨vp,j0,rfl,j7,j6,j2⟩;obtain⟨ra,rc,k4⟩:=z0c j2.row.own;subst k4;have ja:=hid j6;have jb:Hid (∀W,Q0a (w2.alloc (.cells #[.int .i64 R,.int .i64 H,.slice ra j0.length rc] 42 (0,0))) W->Q2e W W.heap.size (.slice ra j0.length rc) j0):=fun W hW=>(j2.kept (qR _) (Mod.trans ((mRf (fun _=>False) w2).alloc _) hW) (fun _ _ x=>x)).up (Mod.trans ((mRf (fun _=>False) w2).alloc _) hW).size;have je:Hid (Q0a w (w2.alloc (.cells #[.int .i64 R,.int .i64 H,.slice ra j0.length rc] 42 (0,0)))):=(jm.trans j7).alloc _;have jz:Hid ((w2.alloc (.cells #[.int .i64 R,.int .i64 H,.slice ra j0.length rc] 42 (0,0))).heap[w.heap.size]? = some (.cells Q66 26 (0,0))):=z0b (j7.at jy.out id);have jo:=hid ((HL.fresh j7).fresh ((mRf _ w2).alloc (.cells #[.int .i64 R,.int .i64 H,.slice ra j0.length rc] 42 (0,0))));clear j7 j6 j2)
  |(go_at_call 10;refine(SC.out _).mono ?_;rintro e w1⟨v,rfl,jd,xs,hL,jk⟩;rw[H0.out];have HX:=hid (jk.elim (fun h=>absurd H0.out h.1) (fun h=>h.2));have HL:=hid hL;have jm:Hid (Q0a w w1):=Mod.trans ((mRf _ w).alloc _) jd;have jy:Hid (w1.heap[w.heap.size]? = some (.cells Q66 26 (0,0))):=jd.at (z0a w _) id;clear jk hL jd))
 refine qAc (z0l rfl _ _ w.heap.size 26 (Q66) (0,0) _ rfl (qAn _ _ _ _ _ _ ji.out) qCl rfl Q29) rfl ?_;exact Q2a.bad (jn.setRow (fun h=>absurd h (qBw _)) _)
end Go.Proofs.YtbdpfmalabgmbaaGreat
