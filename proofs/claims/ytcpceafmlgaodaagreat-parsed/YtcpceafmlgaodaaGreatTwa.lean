import Derived.Test.YtcpceafmlgaodaaGreatTw7
import Derived.Test.YtcpceafmlgaodaaGreatTw8
namespace Go.Proofs.YtcpceafmlgaodaaGreat
open Go.RowKit
set_option maxRecDepth 100000
set_option maxHeartbeats 16000000
set_option linter.unusedVariables false
set_option linter.unusedSimpArgs false
theorem y5g{l:List Bool}(h:l.length=9)(t:Nat):(Q3e l).any(·==(t:Int))=l.getD t false:=x5g h t
theorem z1r(vn vw:Value)(a:Int)(h1:vn.oneCell'=true)(h2:vw.oneCell'=true):(#[vn,vw,Value.int .i64 a]:Array Value).all(·.oneCell')=true :=
 all_oneCell_toArray(cs:=[vn,vw,.int .i64 a])(by intro v hv;simp only[List.mem_cons,List.not_mem_nil,or_false]at hv;rcases hv with rfl|rfl|rfl;exact h1;exact h2;rfl)
def GrS(ps:List Pr)(hs:List Hd)(R H:Nat)(kinds:List Int)(G:W0f)(a:Nat)(k:List Sy)(st:List St):Prop :=
 if a<=kinds.length then Q6q ps hs R H(kinds.drop a)a k st=G else G=⟨0,[],0,st⟩
theorem GrS.kind{ps:List Pr}{hs:List Hd}{R H:Nat}{kinds:List Int}{G:W0f}{a:Nat}{k:List Sy}{st:List St}(h:GrS ps hs R H kinds G a k st)(ha:a<kinds.length)(t:Nat)(ht:kinds[a]=t) :
  if(Q57 hs R k).getD t false then GrS ps hs R H kinds G(a+1)(Q7t ps hs H t k st).1(Q7t ps hs H t k st).2 else G=⟨10,Q3e(Q57 hs R k),a,[]⟩:=by
 unfold GrS at h ⊢;rw[if_pos(by omega),qC ha,ht]at h;unfold Q6q at h;rw[Int.toNat_natCast]at h;rw[if_pos(show a+1<=kinds.length by omega)];split
 ·rename_i e;rw[if_pos e]at h;exact h
 rename_i e;rw[if_neg e]at h;exact h.symm
theorem GrS.last{ps:List Pr}{hs:List Hd}{R H:Nat}{kinds:List Int}{G:W0f}{a:Nat}{k:List Sy}{st:List St}(h:GrS ps hs R H kinds G a k st)(ha:a=kinds.length) :
  if(Q57 hs R k).getD R false then GrS ps hs R H kinds G(a+1)(Q7t ps hs H R k st).1(Q7t ps hs H R k st).2 else G=⟨10,Q3e(Q57 hs R k),a,[]⟩:=by
 unfold GrS at h ⊢;rw[if_pos(by omega),ha,List.drop_length]at h;unfold Q6q at h;rw[if_neg(show ¬(a+1<=kinds.length)by omega)];split
 ·rename_i e;rw[if_pos e]at h;exact h.symm
 rename_i e;rw[if_neg e]at h;rw[ha];exact h.symm
theorem Q9v{a kl sl rl pl:Nat}(ha:a<=60)(h1:kl<=1+48*a)(h2:sl<=a*2000000000)(h3:rl<=sl+(kl*335923+16124313))(h4:pl<=kl+48)(h5:sl<=rl) :
  rl<=1000000000000/\kl+6*rl<=100000000000+6*sl/\rl<=(a+1)*2000000000/\pl<=1+48*(a+1):=by omega
abbrev Q3y(vn vw:Value)(a:Int):Array Value:=#[vn,vw,.int .i64 a]
theorem Q2o:(Tryz.prog.info? 25).map(·.size)=some 3:=by kernel_rfl
theorem x70(w:World)(R H:Nat)(vp vk:Value)(ps:List PV)(kinds:List Int)(hs:List Hd)(hp:Q3p w w.heap.size vp ps)(hk:Q02 w vk kinds)(hkl:kinds.length<=60)(hkk:Q0y R kinds=true)
  (hT:Tab(Q0k ps)R H hs)(hse:hs=Q34(Q0k ps)(Q0x R H)) :
  Calls Tryz.prog 14#[.agg#[.int .i64 R,.int .i64 H,vp],vk]w fun e w'=>∃vn vw,e=.returned(.tuple#[.agg(Q3y vn vw(Q6q(Q0k ps)hs R H kinds 0 [⟨true,0⟩] []).place),.int .i64(Q6q(Q0k ps)hs R H kinds 0 [⟨true,0⟩] []).err])/\Q0a w w' /\
   Q3z w' w.heap.size vn(Q2d(Q0k ps)(Q6q(Q0k ps)hs R H kinds 0 [⟨true,0⟩] []).st)/\Q2c w' w.heap.size vw(Q6q(Q0k ps)hs R H kinds 0 [⟨true,0⟩] []).wanted:=by
 have kn:ps.length<=20:=by have:=hT.hl;simpa [Q0k]using this
 have hR:=hT.hR;have hH:=hT.hH;obtain⟨pa,pc,hvp⟩:=z0d hp.row.own;subst hvp;obtain⟨ka,kc,rfl,hkc,hkcell⟩:=hk;have kf:=hid hkcell;have HP:=hid hp;have HT:=hid hT;have kh:=hid hkk;have NG:Hid(∀W:World,Q0a w W->Calls Tryz.prog 22#[.agg#[.int .i64 R,.int .i64 H,.slice pa ps.length pc]]W fun e w'=>∃gb fb vh,e=.returned(Q3b gb)/\Q0a W w' /\
   w'.heap[gb]? = some(.cells(gdA(Q3b fb)(Q6c((Q0k ps).zip(Q0q hs(Q0k ps)))72))128(0,0))/\FA w' fb R H(.slice pa ps.length pc)vh ps hs):=fun W hW=>by
  have h:=y3j W R H(.slice pa ps.length pc)ps((HP.out.kept(qR _)hW(fun _ _ x=>x)).up hW.size)(by omega)(by omega)(by omega)(by rw[← hse];exact HT.out.ok);rw[← hse]at h;exact h
 generalize hG:Q6q(Q0k ps)hs R H kinds 0 [⟨true,0⟩] []=G;have HG:=hid hG;clear hp hkcell hT hkk hse hG;go_enter Tryz.func14,Tryz.ntmps14
 go_wp2_with(first
  |(go_at_call 22;refine(NG.out _(((mRf _ w).alloc _).alloc _)).mono ?_;rintro e w1⟨gb,fb,vh,rfl,hf1,hgd,hFA⟩;have j9:=hf1.at(z0b(z0a w _))(fun x=>x);have t0:=Q0b j9 0;have t1:=Q0b j9 1;have t2:=Q0b j9 2;simp at t0 t1 t2;have km:=z0j j9;have kj:=hid j9;clear j9))
 have k3:gb<w1.heap.size:=z0j hgd;have jf:=hf1.at(z0a(w.alloc _)_)(fun x=>x);have jf:w1.heap[w.heap.size+1]? = some(.cells(Q3y(.slice none 0 0)(.slice none 0 0)0)25(0,0)):=by simpa using jf
 have ke:=z0j jf;have kd:=hid jf;have jw:=hid hgd;have k9:=hid hFA;have k2:Hid(Q0a w w1):=Mod.trans(((mRf _ w).alloc _).alloc _)hf1;have j6:Hid(GA(((w1.alloc(.cells#[.bool true,.int .i64 0]69(0,0))).alloc(.cells#[.bool true,.int .i64 0]69(0,0))).alloc(.cells#[.int .i64 R,.int .i64 H,.slice pa ps.length pc,Q3b gb,.slice(some⟨w1.heap.size+1,0,none⟩)1 1,.slice none 0 0]74(0,0)))(w1.heap.size+1+1)w1.heap.size R H(.slice pa ps.length pc)(Q3b gb)(.slice(some⟨w1.heap.size+1,0,none⟩)1 1)(.slice none 0 0) [⟨true,0⟩] []):=by
  refine⟨by omega,?_,?_,World.ownsRow_nil _ _ _ _,by simp[Value.ownBlock],by simp[Value.ownBlock],by simp[Value.ownBlock]⟩
  ·exact z00 _ _ _ _
  refine⟨rfl,.inr⟨w1.heap.size+1,1,#[.bool true,.int .i64 0],rfl,by omega,?_,by simp,by unfold maxLen;omega,rfl,rfl⟩⟩;exact z06 _ _ _ _
 have jz:Hid(UpB w1.heap.size w1(((w1.alloc(.cells#[.bool true,.int .i64 0]69(0,0))).alloc(.cells#[.bool true,.int .i64 0]69(0,0))).alloc(.cells#[.int .i64 R,.int .i64 H,.slice pa ps.length pc,Q3b gb,.slice(some⟨w1.heap.size+1,0,none⟩)1 1,.slice none 0 0]74(0,0)))):=(((mRf _ w1).alloc _).alloc _).alloc _;generalize(((w1.alloc(.cells#[.bool true,.int .i64 0]69(0,0))).alloc(.cells#[.bool true,.int .i64 0]69(0,0))).alloc(.cells#[.int .i64 R,.int .i64 H,.slice pa ps.length pc,Q3b gb,.slice(some⟨w1.heap.size+1,0,none⟩)1 1,.slice none 0 0]74(0,0)))=W3 at j6 jz ⊢;obtain⟨b,hbE⟩:∃b,w1.heap.size+1+1=b:=⟨_,rfl⟩;rw[hbE]at j6 ⊢;clear jf hgd hFA hf1 t0 t1 t2 hbE NG;go_loopw [9,10,11](fun x9 _ _ wr=>∃(a:Nat)(k:List Sy)(st:List St)(vk' vs':Value),x9=.int .i64 a/\a<=kinds.length+1/\GrS(Q0k ps)hs R H kinds G a k st/\GA wr b w1.heap.size R H(.slice pa ps.length pc)(Q3b gb)vk' vs' k st/\UpB w1.heap.size w1 wr /\
    Q41(hN hs)(hF hs)(hO hs)R k/\Q3f R H k/\(∀s∈st,0<=s.num/\s.num<=127)/\k.length<=1+48*a/\st.length<=a*2000000000)
   (fun x _ _ _=>63-(intOf x).toNat)
 case atStart=>exact⟨0,[⟨true,0⟩],[],_,_,rfl,by omega,by unfold GrS;rw[if_pos(by omega)];exact HG.out,j6.out,jz.out,HT.out.start.1,HT.out.start.2,by simp,by simp,by simp⟩
 obtain⟨a,k,st,vk',vs',rfl,ha,hgs,hGA,hU,hso,hsi,hnm,hkl1,hsl1⟩:=hrel;have ji:=hgs;have j7:=hid hGA;have k8:=hid hU;have k6:=hid hso;have jj:=hid hsi;have jt:=hid hnm;have j2:Hid(Q0a w wr):=Mod.trans' k2.out hU(fun i h1 h2=>by omega);have jv:w1.heap.size<=wr.heap.size:=hU.size;have jg:=hU.at kj.out(by omega);have t0:=Q0b jg 0;have t1:=Q0b jg 1;have t2:=Q0b jg 2;simp at t0 t1 t2;have jq:=hid(hU.at kd.out(by omega));have kq:=hid jg;have jn:=hid(hU.at jw.out(by omega));have jm:=hid(k9.out.kept hU(fun k hk=>hk));have jp:Hid(Q3p wr w1.heap.size(.slice pa ps.length pc)ps):=(HP.out.kept(qR _)j2.out(fun _ _ x=>x)).up k2.out.size;have k4:=hGA.cell 4;simp at k4;clear hGA hU hso hsi hnm jg;by_cases han:a<=kinds.length
 ·have ju:(a:Int)<=(kinds.length:Int):=by omega
  have ja:=hid(y9j wr gb fb(Q6c((Q0k ps).zip(Q0q hs(Q0k ps)))72)R H(.slice pa ps.length pc)vh ps hs k vk' w1.heap.size jn.out jm.out j7.out.ks(by omega)hR);by_cases hlt:a<kinds.length
  ·have jo:(a:Int)<(kinds.length:Int):=by omega
   have jy:=(List.all_eq_true.1 kh.out)kinds[a](by simp);simp only[Bool.and_eq_true,decide_eq_true_eq]at jy;obtain⟨t,ht⟩:∃t:Nat,kinds[a]=t:=⟨kinds[a].toNat,by omega⟩;have ki:t<=R:=by omega
   have j8:Hid((Q57 hs R k).getD t false=true->_):=fun h=>HT.out.step ki k6.out jj.out jt.out h;obtain⟨kg,ko,rfl,hkv⟩:=kf.out a hlt;have ck:=Q0j j2.out hkv;rw[ht]at ck;clear jy hkv;have j0:=ji.kind hlt t ht;have jc:=hid(y75 HT.out.ok R k);have LH:=hid(y5g jc.out t);generalize hWT:Q57 hs R k=WT at j0 jc LH ja j8;have jh:(Q3e WT).length<=1000:=by have:=z3x WT;omega
   generalize hbit:WT.getD t false=bit at j0 LH j8;clear hWT hbit;cases bit
   ·simp only[Bool.false_eq_true,if_false]at j0;have j1:=hid j0;clear j0;go_wp2_with(first
     |(refine wpList_store_row rfl 25 _ _ rfl(w.heap.size+1)(Q3y(.slice none 0 0)(.slice wa(Q3e WT).length wc)a)rfl rfl _ _ jd.out Q2o rfl(z1r _ _ _ rfl rfl)?_)
     |(go_at_call 24;refine(z76 w2 _(Q3e WT)t(Q2c.at' j4.out)jh).mono ?_;rw[LH.out];rintro e w'⟨rfl,hw⟩;rw[hw];clear hw)
     |(go_at_call 23;refine ja.out.mono ?_;rintro e w2⟨v2,rfl,hf2,ho2⟩;obtain⟨wa,wc,hv2⟩:=z0d ho2;subst hv2;have j4:=hid ho2;have j3:=hid hf2;have jd:=hid(hf2.at jq.out(fun x=>x));clear ho2 hf2))
    refine bodyPost_ret(z0m rfl _ _(w.heap.size+1)25(Q3y(.slice none 0 0)(.slice wa(Q3e WT).length wc)a)(0,0)_ rfl(setRow_heap _ _ _ _ _ _ jd.out)Tryz.underlying25 rfl Q2o)rfl ?_;have FF:Q0a w(w2.setRow(w.heap.size+1)(Q3y(.slice none 0 0)(.slice wa(Q3e WT).length wc)a)):=(j2.out.trans j3.out).setRow(fun h=>by omega)_;refine⟨.slice none 0 0,.slice wa(Q3e WT).length wc,by rw[j1.out];rfl,FF,?_,?_⟩
    ·rw[j1.out];exact World.ownsRow_nil _ _ _ _
    rw[j1.out];refine z0f(z0c j4.out(fun g hg=>?_))j2.out.size;have:=(j4.out.lt g hg).1;have h2:=j2.out.size;exact setRow_other _ _ _ _(by omega)
   simp only[if_true]at j0;have jb:=hid j0;have js:=j8.out rfl;obtain⟨s1,s2,s3,s4,s5,s6,s7⟩:=js;have S4:=hid s4;have S5:=hid s5;have S6:=hid s6;have S1:=hid s1;generalize Q7t(Q0k ps)hs H t k st=rr at jb s2 s3 S4 S5 S6 S1 s7;clear j0 s1 s4 s5 s6;obtain⟨q1,q2,q3,q4⟩:=Q9v(show a<=60 by omega)hkl1 hsl1 s3 s2 s7;have GT:Hid(∀w2:World,Q0a wr w2->Calls Tryz.prog 25#[Q3b b,.int .i64(t:Nat)]w2 fun e w'=>e=.returned(.tuple#[])/\∃vk'' vs'',GA w' b w1.heap.size R H(.slice pa ps.length pc)(Q3b gb)vk'' vs'' rr.1 rr.2/\UpB w1.heap.size w2 w'):=fun w2 hf2 =>
    y1g w2 b w1.heap.size gb(Q3b fb)(Q6c((Q0k ps).zip(Q0q hs(Q0k ps)))72)R H _ vk' vs' k st ps t(Q22 H k.length)rr(j7.out.fresh hf2)⟨k3,hf2.at jn.out(fun x=>x),z8a _(qR _)⟩(jp.out.kept jv hf2(fun _ _ x=>x))(by omega)(fun p hp=>HT.out.syms p.pr(List.mem_map.2⟨p,hp,rfl⟩))jj.out hR hH(by omega)(by have:=hf2.size;omega)S1.out q1 q2
   clear q1 q2;have jx:Hid(63-(a+1)<63-a):=by unfold Hid;omega
   go_wp2_with(first
    |(go_at_call 25;have je:=j3.out;refine(GT.out w2 j3.out).mono ?_;rintro e w3⟨rfl,vk3,vs3,hG3,hU3⟩;have jr:=hid hG3;have jk:=hid hU3;clear hG3 hU3)
    |(go_at_call 24;refine(z76 w2 _(Q3e WT)t(Q2c.at' j4.out)jh).mono ?_;rw[LH.out];rintro e w'⟨rfl,hw⟩;rw[hw];clear hw)
    |(go_at_call 23;refine ja.out.mono ?_;rintro e w2⟨v2,rfl,hf2,ho2⟩;obtain⟨wa,wc,hv2⟩:=z0d ho2;subst hv2;have j4:=hid ho2;have j3:=hid hf2;clear ho2 hf2))
   go_roundw
   case rel =>
    exact⟨a+1,rr.1,rr.2,vk3,vs3,by go_num,by omega,jb.out,jr.out,Mod.trans k8.out(Mod.trans(j3.out.mono(fun _ _ x=>x.elim))jk.out),S4.out,S5.out,S6.out,q4,q3⟩
   simpa [intOf]using jx.out
  have k1:a=kinds.length:=by omega
  have jo:¬(a:Int)<(kinds.length:Int):=by omega
  have kb:¬(a<kinds.length):=by omega
  have j8:Hid((Q57 hs R k).getD R false=true->_):=fun h=>HT.out.step(qR _)k6.out jj.out jt.out h;have j0:=ji.last k1;clear k1;have jc:=hid(y75 HT.out.ok R k);have LH:=hid(y5g jc.out R);generalize hWT:Q57 hs R k=WT at j0 jc LH ja j8;have jh:(Q3e WT).length<=1000:=by have:=z3x WT;omega
  generalize hbit:WT.getD R false=bit at j0 LH j8;clear hWT hbit;cases bit
  ·simp only[Bool.false_eq_true,if_false]at j0;have j1:=hid j0;clear j0;go_wp2_with(first
    |(refine wpList_store_row rfl 25 _ _ rfl(w.heap.size+1)(Q3y(.slice none 0 0)(.slice wa(Q3e WT).length wc)a)rfl rfl _ _ jd.out Q2o rfl(z1r _ _ _ rfl rfl)?_)
    |(go_at_call 24;refine(z76 w2 _(Q3e WT)R(Q2c.at' j4.out)jh).mono ?_;rw[LH.out];rintro e w'⟨rfl,hw⟩;rw[hw];clear hw)
    |(go_at_call 23;refine ja.out.mono ?_;rintro e w2⟨v2,rfl,hf2,ho2⟩;obtain⟨wa,wc,hv2⟩:=z0d ho2;subst hv2;have j4:=hid ho2;have j3:=hid hf2;have jd:=hid(hf2.at jq.out(fun x=>x));clear ho2 hf2))
   refine bodyPost_ret(z0m rfl _ _(w.heap.size+1)25(Q3y(.slice none 0 0)(.slice wa(Q3e WT).length wc)a)(0,0)_ rfl(setRow_heap _ _ _ _ _ _ jd.out)Tryz.underlying25 rfl Q2o)rfl ?_;have FF:Q0a w(w2.setRow(w.heap.size+1)(Q3y(.slice none 0 0)(.slice wa(Q3e WT).length wc)a)):=(j2.out.trans j3.out).setRow(fun h=>by omega)_;refine⟨.slice none 0 0,.slice wa(Q3e WT).length wc,by rw[j1.out];rfl,FF,?_,?_⟩
   ·rw[j1.out];exact World.ownsRow_nil _ _ _ _
   rw[j1.out];refine z0f(z0c j4.out(fun g hg=>?_))j2.out.size;have:=(j4.out.lt g hg).1;have h2:=j2.out.size;exact setRow_other _ _ _ _(by omega)
  simp only[if_true]at j0;have jb:=hid j0;have js:=j8.out rfl;obtain⟨s1,s2,s3,s4,s5,s6,s7⟩:=js;have S4:=hid s4;have S5:=hid s5;have S6:=hid s6;have S1:=hid s1;generalize Q7t(Q0k ps)hs H R k st=rr at jb s2 s3 S4 S5 S6 S1 s7;clear j0 s1 s4 s5 s6;obtain⟨q1,q2,q3,q4⟩:=Q9v(show a<=60 by omega)hkl1 hsl1 s3 s2 s7;have GT:Hid(∀w2:World,Q0a wr w2->Calls Tryz.prog 25#[Q3b b,.int .i64(R:Nat)]w2 fun e w'=>e=.returned(.tuple#[])/\∃vk'' vs'',GA w' b w1.heap.size R H(.slice pa ps.length pc)(Q3b gb)vk'' vs'' rr.1 rr.2/\UpB w1.heap.size w2 w'):=fun w2 hf2 =>
   y1g w2 b w1.heap.size gb(Q3b fb)(Q6c((Q0k ps).zip(Q0q hs(Q0k ps)))72)R H _ vk' vs' k st ps R(Q22 H k.length)rr(j7.out.fresh hf2)⟨k3,hf2.at jn.out(fun x=>x),z8a _(qR _)⟩(jp.out.kept jv hf2(fun _ _ x=>x))(by omega)(fun p hp=>HT.out.syms p.pr(List.mem_map.2⟨p,hp,rfl⟩))jj.out hR hH(by omega)(by have:=hf2.size;omega)S1.out q1 q2
  clear q1 q2;have jx:Hid(63-(a+1)<63-a):=by unfold Hid;omega
  go_wp2_with(first
   |(go_at_call 25;have je:=j3.out;refine(GT.out w2 j3.out).mono ?_;rintro e w3⟨rfl,vk3,vs3,hG3,hU3⟩;have jr:=hid hG3;have jk:=hid hU3;clear hG3 hU3)
   |(go_at_call 24;refine(z76 w2 _(Q3e WT)R(Q2c.at' j4.out)jh).mono ?_;rw[LH.out];rintro e w'⟨rfl,hw⟩;rw[hw];clear hw)
   |(go_at_call 23;refine ja.out.mono ?_;rintro e w2⟨v2,rfl,hf2,ho2⟩;obtain⟨wa,wc,hv2⟩:=z0d ho2;subst hv2;have j4:=hid ho2;have j3:=hid hf2;clear ho2 hf2))
  go_roundw
  case rel =>
   exact⟨a+1,rr.1,rr.2,vk3,vs3,by go_num,by omega,jb.out,jr.out,Mod.trans k8.out(Mod.trans(j3.out.mono(fun _ _ x=>x.elim))jk.out),S4.out,S5.out,S6.out,q4,q3⟩
  simpa [intOf]using jx.out
 have k0:G=⟨0,[],0,st⟩:=by
  have h:=ji;unfold GrS at h;rw[if_neg han]at h;exact h
 have j1:=hid k0;have ju:¬(a:Int)<=(kinds.length:Int):=by omega
 have j5:st.length<=1000000000000:=by
  have h1:a<=61:=by omega
  have h2:a*2000000000<=61*2000000000:=Nat.mul_le_mul_right _ h1;exact Nat.le_trans hsl1(Nat.le_trans h2(by decide))
 obtain⟨sa,sc,hvs⟩:=z0d j7.out.ss;have k5:=j7.out.cell 5;simp at k5;subst hvs;have kp:=j7.out.lt;have WD:Hid(∀W:World,Q0a wr W->Calls Tryz.prog 26#[.agg#[.int .i64 R,.int .i64 H,.slice pa ps.length pc],.slice sa st.length sc]W fun e w'=>∃v,e=.returned v/\Q0a W w'/\Q3z w' W.heap.size v(Q2d(Q0k ps)st)):=fun W hW =>
  y1z W R H(.slice pa ps.length pc)(.slice sa st.length sc)ps st((jp.out.kept jv hW(fun _ _ x=>x)).up(by have:=hW.size;omega))⟨z0f((j7.out.fresh hW).ss)(Nat.zero_le _),fun _ _=>rfl⟩jt.out j5(by omega)(fun p hp=>by have:=(HT.out.syms p.pr(List.mem_map.2⟨p,hp,rfl⟩)).1;omega)
 clear k0 ji hkl1 hsl1 j5 k4;go_upto_region 14 with fail
 go_cut [12](fun s12 wx=>Q0a wr wx/\Q3z wx wr.heap.size s12(Q2d(Q0k ps)st))
 case first =>
  go_region_with(first
   |(go_at_call 26;refine(WD.out _(by first|exact(mRf _ wr).drew|exact mRf _ wr)).mono ?_;rintro e w3⟨v,rfl,hf3,ho3⟩))
  all_goals
   go_wp2_with fail
   go_meet;exact⟨Mod.trans((mRf _ wr).drew)hf3,ho3⟩
 obtain⟨hfx,hox⟩:=hcut;obtain⟨na,nc,hvn⟩:=z0d hox;subst hvn;have jl:=hid hox;have kl:=hid hfx;have k7:=hid(hfx.at jq.out(fun x=>x));generalize hNF:Q2d(Q0k ps)st=NF at jl;have kk:=hid hNF;clear hfx hox hNF;go_wp2_with(first
  |(refine wpList_store_row rfl 25 _ _ rfl(w.heap.size+1)(Q3y(.slice na NF.length nc)(.slice none 0 0)0)rfl rfl _ _ k7.out Q2o rfl(z1r _ _ _ rfl rfl)?_))
 refine bodyPost_ret(z0m rfl _ _(w.heap.size+1)25(Q3y(.slice na NF.length nc)(.slice none 0 0)0)(0,0)_ rfl(setRow_heap _ _ _ _ _ _ k7.out)Tryz.underlying25 rfl Q2o)rfl ?_;refine⟨.slice na NF.length nc,.slice none 0 0,by rw[j1.out];rfl,(j2.out.trans kl.out).setRow(fun h=>by omega)_,?_,?_⟩
 ·rw[j1.out];show Q3z _ _ _(Q2d(Q0k ps)st);rw[kk.out];refine z0f(z0c jl.out(fun g hg=>?_))j2.out.size;have:=(jl.out.lt g hg).1;have h2:=j2.out.size;exact setRow_other _ _ _ _(by omega)
 rw[j1.out];exact World.ownsRow_nil _ _ _ _
theorem x4y{s:ByteArray}(hc:(Q0u s).1=0)(hcl:Q3c s=[]):Tab(Q0r(Q0c s).1)(Q0g(Q0c s).1).length(Q0i(Q0c s).1).length(Q7u s):=by
 have j0:=z4b hc;obtain⟨h1,h2,h3,h4,h5⟩:=z18 j0;have hI:=Q6y j0;have j2:=Q73 j0;have hT:=tabOk h3 hI.places j2.mem;have hR:=y1r(fun y hy=>(hI.places y hy).1)h5;obtain⟨c1,c2,c3⟩:=y4e(fun y hy=>(hI.places y hy).1)h5;have hS:=z8z hT hR;have j1:0<(Q0i(Q0c s).1).length:=by
  unfold Q4f at h4;rw[List.any_eq_true]at h4;obtain⟨y,hy,hq⟩:=h4;have:=j2.mem y(List.mem_filter.2⟨hy,hq⟩);omega
 exact⟨llg hT hR j1 c3 hcl,hS.ok,hR,c1,j1,c2⟩
theorem x9s{s:ByteArray}(hc:(Q0u s).1=0):∀x∈Q7u s,x.ok:=by
 have j0:=z4b hc;obtain⟨h1,h2,h3,h4,h5⟩:=z18 j0;have hI:=Q6y j0;have j1:=Q73 j0;exact(z8z(tabOk h3 hI.places j1.mem)(y1r(fun y hy=>(hI.places y hy).1)h5)).ok
theorem y0g(w:World)(R H:Nat)(vp:Value)(ps:List PV)(hp:Q3p w w.heap.size vp ps)(hps:ps.length<=1000)(hH:H<=1000)(hR:R<=1000)(hok:∀x∈Q34(Q0k ps)(Q0x R H),x.ok) :
  Calls Tryz.prog 13#[.agg#[.int .i64 R,.int .i64 H,vp]]w fun e w'=>e=.returned(.bool(decide(0<(Q6e((Q0k ps).zip(Q0q(Q34(Q0k ps)(Q0x R H))(Q0k ps)))R H).length)))/\Q0a w w':=by
 obtain⟨pa,pc,hvp⟩:=z0d hp.row.own;subst hvp;have CA:=hid(y54(w.alloc(.cells#[.int .i64 R,.int .i64 H,.slice pa ps.length pc]41(0,0)))R H(.slice pa ps.length pc)ps((hp.kept(qR _)((mRf(fun _=>False)w).alloc _)(fun _ _ x=>x)).up(by simp))hps hH hR hok);generalize Q6e((Q0k ps).zip(Q0q(Q34(Q0k ps)(Q0x R H))(Q0k ps)))R H=CL at CA;clear hp hok;go_enter Tryz.func13,Tryz.ntmps13
 go_wp2_with(first
  |(go_at_call 21;refine CA.out.mono ?_;rintro e w1⟨v,rfl,hf1,ho⟩;obtain⟨ca,cc,hv⟩:=z0d ho;subst hv;clear ho))
 go_ret;refine⟨?_,Mod.trans((mRf _ w).alloc _)hf1⟩;show Ending.returned(Value.bool _)=_;congr 2
def nR(s:ByteArray):Nat:=(Q0g(Q0c s).1).length
def nH(s:ByteArray):Nat:=(Q0i(Q0c s).1).length
def tabF(s:ByteArray):List Pr:=Q0r(Q0c s).1
def Q8d(s:ByteArray)(kinds:List Int):W0f:=Q6q(tabF s)(Q7u s)(nR s)(nH s)kinds 0 [⟨true,0⟩] []
def Q7h(e:Int):W0f:=⟨e,[],0,[]⟩
def Q2m(s:ByteArray)(kinds:List Int):W0f :=
 if 60<kinds.length then Q7h 1
 else if(Q0u s).1≠0 then Q7h(Q0u s).1
 else if Q0y(nR s)kinds=false then Q7h 7
 else if Q3c s≠[]then Q7h 8
 else Q8d s kinds
def Q2j(s:ByteArray)(G:W0f)(w:World)(e:Ending)(w':World):Prop :=
 ∃vn vw,e=.returned(.tuple#[.agg(Q3y vn vw G.place),.int .i64 G.err])/\Q0a w w'/\Q3z w' w.heap.size vn(Q2d(tabF s)G.st)/\Q2c w' w.heap.size vw G.wanted
theorem Q2j.bad{s:ByteArray}{e:Int}{w w':World}(hf:Q0a w w'):Q2j s(Q7h e)w(.returned(.tuple#[.agg(Q3y(.slice none 0 0)(.slice none 0 0)0),.int .i64 e]))w' :=
 ⟨_,_,rfl,hf,World.ownsRow_nil _ _ _ _,World.ownsRow_nil _ _ _ _⟩
theorem x0l(s:ByteArray)(kinds:List Int)(vk:Value)(w:World)(hk:Q02 w vk kinds)(hl:60<kinds.length)(hm:kinds.length<=maxLen) :
  Calls Tryz.prog 4#[.string s,vk]w fun e w'=>Q2j s(Q7h 1)w e w':=by
 obtain⟨ka,kc,rfl,hkc,_⟩:=hk;unfold maxLen at hm;have j0:(60:Int)<(kinds.length:Int):=by omega
 go_enter Tryz.func4,Tryz.ntmps4
 go_wp2;exact bodyPost_ret(z0m rfl _ _ w.heap.size 25(Q3y(.slice none 0 0)(.slice none 0 0)0)(0,0)_ rfl(z0a _ _)Tryz.underlying25 rfl Q2o)rfl(Q2j.bad((mRf _ w).alloc _))
theorem x5n(s:ByteArray)(kinds:List Int)(vk:Value)(w:World)(hs:s.size<=maxLen)(hk:Q02 w vk kinds)(hl:kinds.length<=60)(hc:(Q0u s).1≠0) :
  Calls Tryz.prog 4#[.string s,vk]w fun e w'=>Q2j s(Q7h(Q0u s).1)w e w':=by
 obtain⟨ka,kc,rfl,hkc,_⟩:=hk;have TB:=hid(fun w=>x2p s w hs hc);have c0:((Q0u s).1 != 0)=true:=by simpa using hc
 have j2:¬(60:Int)<(kinds.length:Int):=by omega
 generalize(Q0u s).1=E at TB c0;clear hc;go_enter Tryz.func4,Tryz.ntmps4
 go_wp2_with(first
  |(refine wpList_store_row rfl 25 _ _ rfl w.heap.size(Q3y(.slice none 0 0)(.slice none 0 0)0)rfl rfl _ _ j0.out Q2o rfl(z1r _ _ _ rfl rfl)?_)
  |(go_at_call 11;refine(TB.out _).mono ?_;rintro e w1⟨rfl,hf1⟩;have j1:=hid hf1;have j0:Hid((w1.alloc(.cells#[.int .i64 0,.int .i64 0,.slice none 0 0]41(0,0))).heap[w.heap.size]? = some(.cells(Q3y(.slice none 0 0)(.slice none 0 0)0)25(0,0))):=z0b(hf1.at(z0a w _)(fun x=>x));clear hf1))
 refine bodyPost_ret(z0m rfl _ _ w.heap.size 25(Q3y(.slice none 0 0)(.slice none 0 0)0)(0,0)_ rfl(setRow_heap _ _ _ _ _ _ j0.out)Tryz.underlying25 rfl Q2o)rfl(Q2j.bad ?_);exact((Mod.trans((mRf _ w).alloc _)j1.out).alloc _).setRow(fun h=>absurd h(Nat.lt_irrefl _))_
theorem z4j(s:ByteArray)(hc:(Q0u s).1=0){pvs:List PV}(hm:pvs.map PV.pr=Q0r(Q0c s).1):Q0k pvs=tabF s/\pvs.length<=1000/\nH s<=1000/\nR s<=1000/\Q7u s=Q34(Q0k pvs)(Q0x(nR s)(nH s)):=by
 obtain⟨z1,z2,z3⟩:=y5u hc;have h1:pvs.length=(Q0r(Q0c s).1).length:=by rw[← hm];simp
 refine⟨hm,by omega,by unfold nH;omega,by unfold nR;omega,?_⟩;unfold Q7u Q0k nR nH;rw[hm]
theorem x27(s:ByteArray)(hc:(Q0u s).1=0){pvs:List PV}(hm:pvs.map PV.pr=Q0r(Q0c s).1):Q6e((Q0k pvs).zip(Q0q(Q34(Q0k pvs)(Q0x(nR s)(nH s)))(Q0k pvs)))(nR s)(nH s)=Q3c s:=by
 obtain⟨h1,_,_,_,h5⟩:=z4j s hc hm;rw[← h5,h1];rfl
theorem x0q(s:ByteArray)(kinds:List Int)(vk:Value)(w:World)(hs:s.size<=maxLen)(hk:Q02 w vk kinds)(hl:kinds.length<=60)(hc:(Q0u s).1=0) :
  Calls Tryz.prog 4#[.string s,vk]w fun e w'=>Q2j s(Q2m s kinds)w e w':=by
 have TB:=hid(fun w=>x0f s w hs hc);unfold Q9t at TB;have HK:=hid hk;have TC:=hid(fun(pvs:List PV)(hm:pvs.map PV.pr=Q0r(Q0c s).1)=>z4j s hc hm);have AR:Hid(∀(W:World)(vp:Value),Q02 W vk kinds->Calls Tryz.prog 12#[.agg#[.int .i64(nR s),.int .i64(nH s),vp],vk]W fun e w'=>e=.returned(.bool(Q0y(nR s)kinds))/\Q0a W w'):=fun W vp h=>y42 W(nR s)(nH s)vp vk kinds h(by omega);have IC:Hid(∀(W:World)(vp:Value)(pvs:List PV),pvs.map PV.pr=Q0r(Q0c s).1->Q3p W W.heap.size vp pvs->Calls Tryz.prog 13#[.agg#[.int .i64(nR s),.int .i64(nH s),vp]]W fun e w'=>e=.returned(.bool(decide(0<(Q3c s).length)))/\Q0a W w'):=fun W vp pvs hm hp=>by
  obtain⟨h1,h2,h3,h4,h5⟩:=z4j s hc hm;have h:=y0g W(nR s)(nH s)vp pvs hp h2 h3 h4(by rw[← h5];exact x9s hc);rw[x27 s hc hm]at h;exact h
 have GR:Hid(∀(W:World)(vp:Value)(pvs:List PV),pvs.map PV.pr=Q0r(Q0c s).1->Q3p W W.heap.size vp pvs->Q02 W vk kinds->Q0y(nR s)kinds=true->Q3c s=[]->Calls Tryz.prog 14#[.agg#[.int .i64(nR s),.int .i64(nH s),vp],vk]W fun e w'=>Q2j s(Q8d s kinds)W e w'):=fun W vp pvs hm hp hk hkk hcl=>by
  obtain⟨h1,h2,h3,h4,h5⟩:=z4j s hc hm;have hT:=x4y hc hcl;have h:=x70 W(nR s)(nH s)vp vk pvs kinds(Q7u s)hp hk hl hkk(by rw[h1];exact hT)h5;rw[h1]at h;exact h
 have jd:Hid(∀W:World,Q0a w W->Q02 W vk kinds):=fun W hW=>hk.fresh hW;have e1:((Q0g(Q0c s).1).length:Nat)=nR s:=rfl;have e2:((Q0i(Q0c s).1).length:Nat)=nH s:=rfl;rw[e1,e2]at TB;obtain⟨ka,kc,hvk,hkc,_⟩:=hk;have jh:Q2m s kinds=if Q0y(nR s)kinds=false then Q7h 7 else if Q3c s≠[]then Q7h 8 else Q8d s kinds:=by
  unfold Q2m;rw[if_neg(by omega),if_neg(by simp[hc])]
 rw[jh];have jn:¬(60:Int)<(kinds.length:Int):=by omega
 generalize nR s=R at *;generalize nH s=H at *;clear jh e1 e2 hc;subst hvk;generalize Q0y R kinds=KO at *;cases KO
 ·simp only[if_true];go_enter Tryz.func4,Tryz.ntmps4
  go_wp2_with(first
   |(refine wpList_store_row rfl 25 _ _ rfl w.heap.size(Q3y(.slice none 0 0)(.slice none 0 0)0)rfl rfl _ _ j8.out Q2o rfl(z1r _ _ _ rfl rfl)?_)
   |(go_at_call 12;refine(AR.out _ _(jd.out _ j3.out)).mono ?_;rintro e w2⟨rfl,hf2⟩;have j5:=hid(j3.out.trans hf2);have j8:=hid(hf2.at j9.out(fun x=>x)))
   |(go_at_call 11;refine(TB.out _).mono ?_;rintro e w1⟨vp,pvs,rfl,hf1,hmap,hprs⟩;obtain⟨ra,rc,hvp⟩:=z0d hprs.row.own;subst hvp;have j3:Hid(Q0a w(w1.alloc(.cells#[.int .i64 R,.int .i64 H,.slice ra pvs.length rc]41(0,0)))):=(Mod.trans((mRf _ w).alloc _)hf1).alloc _;have j9:Hid((w1.alloc(.cells#[.int .i64 R,.int .i64 H,.slice ra pvs.length rc]41(0,0))).heap[w.heap.size]? = some(.cells(Q3y(.slice none 0 0)(.slice none 0 0)0)25(0,0))):=z0b(hf1.at(z0a w _)(fun x=>x));clear hf1))
  refine bodyPost_ret(z0m rfl _ _ w.heap.size 25(Q3y(.slice none 0 0)(.slice none 0 0)0)(0,0)_ rfl(setRow_heap _ _ _ _ _ _ j8.out)Tryz.underlying25 rfl Q2o)rfl(Q2j.bad ?_);exact j5.out.setRow(fun h=>absurd h(Nat.lt_irrefl _))_
 simp only[Bool.true_eq_false,if_false];by_cases hcl:Q3c s=[]
 ·rw[if_neg(by simp[hcl])];have je:Hid(decide(0<(Q3c s).length)=false):=by unfold Hid;simp[hcl]
  have jf:=hid hcl;generalize hGS:Q8d s kinds=GS at GR ⊢;clear hcl hGS;go_enter Tryz.func4,Tryz.ntmps4
  go_wp2_with(first
   |(refine wpList_store_row rfl 25 _ _ rfl w.heap.size(Q3y(.slice na(Q2d(tabF s)GS.st).length nc)(.slice wa GS.wanted.length wc)GS.place)rfl rfl _ _ jg.out Q2o rfl(z1r _ _ _ rfl rfl)?_)
   |(go_at_call 14;have j4:=j7.out;refine(GR.out _ _ pvs j2.out(j0.out _ jb.out)(jd.out _ j7.out)(by first|rfl|trivial)jf.out).mono ?_;rintro e w4⟨vn,vw,rfl,hf4,hn4,hw4⟩;obtain⟨na,nc,hvn⟩:=z0d hn4;subst hvn;obtain⟨wa,wc,hvw⟩:=z0d hw4;subst hvw;have jk:=hid hn4;have ji:=hid hw4;have jl:=hid hf4;have jg:=hid(hf4.at ja.out(fun x=>x));clear hn4 hw4 hf4)
   |(go_at_call 13;have j4:=j5.out;refine(IC.out _ _ pvs j2.out(j0.out _ jc.out)).mono ?_;rw[je.out];rintro e w3⟨rfl,hf3⟩;have j7:=hid(j5.out.trans hf3);have jb:=hid(jc.out.trans hf3);have ja:=hid(hf3.at j8.out(fun x=>x));have j6:=hid(hf3.at j1.out(fun x=>x));have u0:=Q0b j6.out 0;have u1:=Q0b j6.out 1;have u2:=Q0b j6.out 2;simp at u0 u1 u2;clear hf3)
   |(go_at_call 12;refine(AR.out _ _(jd.out _ j3.out)).mono ?_;rintro e w2⟨rfl,hf2⟩;have j5:=hid(j3.out.trans hf2);have jc:=hid hf2;have j8:=hid(hf2.at j9.out(fun x=>x));have j1:=hid(hf2.at(z0a w1 _)(fun x=>x));have t0:=Q0b j1.out 0;have t1:=Q0b j1.out 1;have t2:=Q0b j1.out 2;simp at t0 t1 t2;clear hf2)
   |(go_at_call 11;refine(TB.out _).mono ?_;rintro e w1⟨vp,pvs,rfl,hf1,hmap,hprs⟩;obtain⟨ra,rc,hvp⟩:=z0d hprs.row.own;subst hvp;have j2:=hid hmap;have j0:Hid(∀W,Q0a(w1.alloc(.cells#[.int .i64 R,.int .i64 H,.slice ra pvs.length rc]41(0,0)))W->Q3p W W.heap.size(.slice ra pvs.length rc)pvs):=fun W hW=>(hprs.kept(qR _)(Mod.trans((mRf(fun _=>False)w1).alloc _)hW)(fun _ _ x=>x)).up(Mod.trans((mRf(fun _=>False)w1).alloc _)hW).size;have j3:Hid(Q0a w(w1.alloc(.cells#[.int .i64 R,.int .i64 H,.slice ra pvs.length rc]41(0,0)))):=(Mod.trans((mRf _ w).alloc _)hf1).alloc _;have j9:Hid((w1.alloc(.cells#[.int .i64 R,.int .i64 H,.slice ra pvs.length rc]41(0,0))).heap[w.heap.size]? = some(.cells(Q3y(.slice none 0 0)(.slice none 0 0)0)25(0,0))):=z0b(hf1.at(z0a w _)(fun x=>x));clear hf1 hmap hprs))
  refine bodyPost_ret(z0m rfl _ _ w.heap.size 25(Q3y(.slice na(Q2d(tabF s)GS.st).length nc)(.slice wa GS.wanted.length wc)GS.place)(0,0)_ rfl(setRow_heap _ _ _ _ _ _ jg.out)Tryz.underlying25 rfl Q2o)rfl ?_;have jj:=j7.out.size;have jm:=z0j ja.out;refine⟨_,_,rfl,(j7.out.trans jl.out).setRow(fun h=>absurd h(Nat.lt_irrefl _))_,?_,?_⟩
  ·refine z0f(z0c jk.out(fun g hg=>?_))jj;have:=(jk.out.lt g hg).1;exact setRow_other _ _ _ _(by omega)
  refine z0f(z0c ji.out(fun g hg=>?_))jj;have:=(ji.out.lt g hg).1;exact setRow_other _ _ _ _(by omega)
 rw[if_pos hcl];have je:Hid(decide(0<(Q3c s).length)=true):=by unfold Hid;simp;exact List.length_pos_iff.2 hcl
 clear hcl;go_enter Tryz.func4,Tryz.ntmps4
 go_wp2_with(first
  |(refine wpList_store_row rfl 25 _ _ rfl w.heap.size(Q3y(.slice none 0 0)(.slice none 0 0)0)rfl rfl _ _ ja.out Q2o rfl(z1r _ _ _ rfl rfl)?_)
  |(go_at_call 13;have j4:=j5.out;refine(IC.out _ _ pvs j2.out(j0.out _ jc.out)).mono ?_;rw[je.out];rintro e w3⟨rfl,hf3⟩;have j7:=hid(j5.out.trans hf3);have jb:=hid(jc.out.trans hf3);have ja:=hid(hf3.at j8.out(fun x=>x));have j6:=hid(hf3.at j1.out(fun x=>x));have u0:=Q0b j6.out 0;have u1:=Q0b j6.out 1;have u2:=Q0b j6.out 2;simp at u0 u1 u2;clear hf3)
  |(go_at_call 12;refine(AR.out _ _(jd.out _ j3.out)).mono ?_;rintro e w2⟨rfl,hf2⟩;have j5:=hid(j3.out.trans hf2);have jc:=hid hf2;have j8:=hid(hf2.at j9.out(fun x=>x));have j1:=hid(hf2.at(z0a w1 _)(fun x=>x));have t0:=Q0b j1.out 0;have t1:=Q0b j1.out 1;have t2:=Q0b j1.out 2;simp at t0 t1 t2;clear hf2)
  |(go_at_call 11;refine(TB.out _).mono ?_;rintro e w1⟨vp,pvs,rfl,hf1,hmap,hprs⟩;obtain⟨ra,rc,hvp⟩:=z0d hprs.row.own;subst hvp;have j2:=hid hmap;have j0:Hid(∀W,Q0a(w1.alloc(.cells#[.int .i64 R,.int .i64 H,.slice ra pvs.length rc]41(0,0)))W->Q3p W W.heap.size(.slice ra pvs.length rc)pvs):=fun W hW=>(hprs.kept(qR _)(Mod.trans((mRf(fun _=>False)w1).alloc _)hW)(fun _ _ x=>x)).up(Mod.trans((mRf(fun _=>False)w1).alloc _)hW).size;have j3:Hid(Q0a w(w1.alloc(.cells#[.int .i64 R,.int .i64 H,.slice ra pvs.length rc]41(0,0)))):=(Mod.trans((mRf _ w).alloc _)hf1).alloc _;have j9:Hid((w1.alloc(.cells#[.int .i64 R,.int .i64 H,.slice ra pvs.length rc]41(0,0))).heap[w.heap.size]? = some(.cells(Q3y(.slice none 0 0)(.slice none 0 0)0)25(0,0))):=z0b(hf1.at(z0a w _)(fun x=>x));clear hf1 hmap hprs))
 refine bodyPost_ret(z0m rfl _ _ w.heap.size 25(Q3y(.slice none 0 0)(.slice none 0 0)0)(0,0)_ rfl(setRow_heap _ _ _ _ _ _ ja.out)Tryz.underlying25 rfl Q2o)rfl(Q2j.bad ?_);exact j7.out.setRow(fun h=>absurd h(Nat.lt_irrefl _))_
theorem x3d(s:ByteArray)(kinds:List Int)(vk:Value)(w:World)(hs:s.size<=maxLen)(hk:Q02 w vk kinds)(hm:kinds.length<=maxLen) :
  Calls Tryz.prog 4#[.string s,vk]w fun e w'=>Q2j s(Q2m s kinds)w e w':=by
 by_cases hl:60<kinds.length
 ·have e:Q2m s kinds=Q7h 1:=by unfold Q2m;rw[if_pos hl]
  rw[e];exact x0l s kinds vk w hk hl hm
 by_cases hc:(Q0u s).1=0
 ·exact x0q s kinds vk w hs hk(by omega)hc
 have e:Q2m s kinds=Q7h(Q0u s).1:=by unfold Q2m;rw[if_neg hl,if_pos hc]
 rw[e];exact x5n s kinds vk w hs hk(by omega)hc
theorem y6c{ps:List Pr}{R H:Nat}{hs:List Hd}(h:Tab ps R H hs):∀(l:List Int)(a:Nat)(k:List Sy)(st:List St),Q41(hN hs)(hF hs)(hO hs)R k->Q3f R H k->(∀s∈st,0<=s.num/\s.num<=127)->Q0y R l=true ->
  a+l.length<=60->k.length<=1+48*a->st.length<=a*2000000000->(Q6q ps hs R H l a k st).st.length<=61*2000000000/\(Q6q ps hs R H l a k st).wanted.length<=9
 | [],a,k,st,h1,h2,h3,_,h5,h6,h7=>by
  unfold Q6q;split
  ·rename_i hw;obtain⟨_,s2,s3,_,_,_,s7⟩:=h.step(qR _)h1 h2 h3 hw;simp only[List.length_nil,Nat.add_zero]at h5;obtain⟨_,_,q3,_⟩:=Q9v h5 h6 h7 s3 s2 s7;refine⟨Nat.le_trans q3(Nat.mul_le_mul_right _(by omega)),by simp⟩
  exact⟨by simp,z3x _⟩
 |t::l,a,k,st,h1,h2,h3,h4,h5,h6,h7=>by
  have h8:(0<=t/\t<R)/\Q0y R l=true:=by
   unfold Q0y at h4 ⊢;simpa using h4
  simp only[List.length_cons]at h5;unfold Q6q;split
  ·rename_i hw;obtain⟨_,s2,s3,s4,s5,s6,s7⟩:=h.step(t:=t.toNat)(by omega)h1 h2 h3 hw;obtain⟨_,_,q3,q4⟩:=Q9v(show a<=60 by omega)h6 h7 s3 s2 s7;exact y6c h l(a+1)_ _ s4 s5 s6 h8.2(by omega)q4 q3
  exact⟨by simp,z3x _⟩
theorem x86{s:ByteArray}(hc:(Q0u s).1=0)(hcl:Q3c s=[])(l:List Int)(hk:Q0y(nR s)l=true)(hl:l.length<=60):(Q8d s l).st.length<=61*2000000000/\(Q8d s l).wanted.length<=9:=by
 have hT:=x4y hc hcl;exact y6c hT l 0 _ _ hT.start.1 hT.start.2(by simp)hk(by omega)(by simp)(by simp)
end Go.Proofs.YtcpceafmlgaodaaGreat
