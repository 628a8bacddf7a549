import Derived.Test.YtcpceafmlgaodaaGreatRh5
namespace Go.Proofs.YtcpceafmlgaodaaGreat
open Go.RowKit
set_option maxRecDepth 99999
set_option maxHeartbeats 0
set_option linter.all false
theorem fcellZ{a b:World}{p:Addr}{v:Value}(h:Q0a a b)(hc:a.cell? p=some v):b.cell? p=some v:=by
 unfold World.cell? at hc ⊢;cases hb:a.heap[p.block]? with
 |none=>rw[hb]at hc;cases hc
 |some o =>
  rw[h.at hb (fun x=>x)];rw[hb]at hc;exact hc
theorem y1n(s:ByteArray):∀(f a:Nat) (acc:List (ZLn × Int)),acc.length<=a->a<=s.size->(Q3v s f a acc).1.length<=s.size
 |0,a,acc,h1,h2=>by simp[Q3v];omega
 |f+1,a,acc,h1,h2=>by
  rw[z6n];split
  ·split
   ·split
    ·simp
    obtain⟨n1,n2,n3,n4⟩:=z78 s (a:=a) h2;exact y1n s f _ _ (by simp;omega) (by omega)
   simp
  dsimp only;omega
theorem x5g(s:ByteArray):(Q4r s).1.length<=s.size:=y1n s _ 0 [] (by simp) (by omega)
theorem y5n(s:ByteArray):∀(f a:Nat) (acc:List (ZLn × Int)),-1<=(Q3v s f a acc).2
 |0,a,acc=>by simp[Q3v]
 |f+1,a,acc=>by
  rw[z6n];split
  ·split
   ·split
    ·dsimp only;omega
    exact y5n s f _ _
   dsimp only;omega
  simp
theorem y2u:∀(xs:List ZLV) (X:SP),(∀x∈xs,0<=x.pl)->-1<=(Q1h X xs).2
 | [],X,_=>by simp[Q1h]
 |x::xs,X,hx=>by
  unfold Q1h;split
  ·have:=hx x (by simp);dsimp only;omega
  exact y2u xs _ (fun y hy=>hx y (by simp[hy]))
theorem y6e{em:ByteArray->Bool}{l:List ZLV}{i:Nat}(hi:i<l.length):Q5h em (l.drop i)=if em l[i].ln.pat=true then some l[i].pl else Q5h em (l.drop (i+1)):=by
 rw[qC hi];rfl
theorem x08(em:ByteArray->Bool)(s:ByteArray)(w:World)(hs:s.size<=maxLen)(hl:800<s.size):Calls Tryz.prog 15 #[.string s] w fun e w'=>ReadRet em s w e w':=by
 have hz:∀xs fp,Q51 em s xs fp=(1,0):=fun xs fp=>by unfold Q51;rw[qAb hl]
 have HZ:=hid hz;have k1:(800:Int)<(s.size:Int):=by omega
 unfold maxLen at hs;clear hz;go_enter Tryz.func15,Tryz.ntmps15
 go_wp2;refine bodyPost_ret (results_tmp3 rfl _ _ _) rfl ⟨.pointer none,[],fun q=>by omega,fun x hx=>by(cases hx),?_,mRf _ _,?_⟩
 ·rw[HZ.out];rfl
 rw[HZ.out];intro q;cases q
theorem y7k(em:ByteArray->Bool)(s:ByteArray)(w:World)(hl:s.size<=800)(hY:∀y∈(Q4r s).1,YOk em y):Calls Tryz.prog 15 #[.string s] w fun e w'=>ReadRet em s w e w':=by
 have FO:=hid (fun w=>x5k s w (by omega));have jh:=x5g s;have kd:-1<=(Q4r s).2:=y5n s _ 0 [];have HZ:Hid (∀(xs:List ZLV) (fp:Int),Q51 em s xs fp=if 0<=fp then((2:Int),fp) else if 0<=(Q1h Q2t xs).2 then(3,(Q1h Q2t xs).2)
   else if 0<=Q3g (Q1h Q2t xs).1 xs [] then(4,Q3g (Q1h Q2t xs).1 xs [])
   else tailZ s (Q1h Q2t xs).1.prods.length (Q5h em (Q1h Q2t xs).1.rules)):=fun xs fp=>by unfold Q51;rw[qAa (by omega)]
 generalize hR:Q4r s=R at FO jh kd hY;obtain⟨zs,fp⟩:=R;dsimp only at FO jh kd hY;have HR:=hid hR;have HY:=hid hY;have k1:¬(800:Int)<(s.size:Int):=by omega
 clear hR hY;go_enter Tryz.func15,Tryz.ntmps15
 go_upto_region 4 with(first
  |(go_at_call 27;refine(FO.out _).mono ?_;rintro e w1⟨v,xs,hxs,rfl,hf1,hL⟩;have j6:=hid hxs;have j7:=hid hf1;have HL:=hid hL;clear hxs hf1 hL))
 by_cases hfp:0<=fp
 ·go_wp2;refine bodyPost_ret (results_tmp3 rfl _ _ _) rfl ⟨.pointer none,xs,fun _=>by rw[HR.out];exact j6.out,HL.each,?_,j7.out,?_⟩
  ·rw[HR.out,HZ.out,qAb hfp];rfl
  rw[HR.out,HZ.out,qAb hfp];intro q;cases q
 have jz:fp=-1:=by omega
 subst jz;have ki:xs.length<=1000:=by
  have:=qDn List.length j6.out;rw[qAo]at this;omega
 have jo:Hid (∀x∈xs,YOk em x.both):=fun x hx=>HY.out _ (by rw[← j6.out];exact List.mem_map_of_mem hx);have k2:∀x∈xs,0<=x.pl:=fun x hx=>(jo.out x hx).pl.1;have SO:=hid (y7l w1 w.heap.size v xs HL.out ki);have kl:=y2u xs Q2t k2;have jl:=hid (fun h=>y2t xs Q2t x3m h k2);have jn:=hid (y8w xs Q2t (fun x=>x∈xs) (fun x hx=>by(simp[Q2t]at hx)) (fun x hx=>by(simp[Q2t]at hx)) (fun x hx=>hx));have j0:=hid (HZ.out xs (-1));clear k2 HZ FO;generalize hSS:Q1h Q2t xs=SS at SO kl jl jn j0;have kr:=hid hSS;clear hSS;obtain⟨X,sp⟩:=SS;dsimp only at SO kl jl jn j0;rw[qAa (by omega)]at j0;obtain⟨vo,vc,hvv⟩:=z0d HL.own;subst hvv;go_upto_region 7 with(first
  |(go_at_call 28;refine(SO.out).mono ?_;rintro e w2⟨rfl,hX,hf2⟩;have HX:=hid hX;have j5:=hid hf2;clear hX hf2))
 by_cases hsp:0<=sp
 ·go_wp2;refine bodyPost_ret (results_tmp3 rfl _ _ _) rfl ⟨.pointer none,xs,fun _=>by rw[HR.out];exact j6.out,fun x hx=>(HL.each x hx).fresh j5.out,?_,j7.trans j5.out,?_⟩
  ·rw[HR.out,j0.out,qAb hsp];rfl
  rw[HR.out,j0.out,qAb hsp];intro q;cases q
 have k3:sp=-1:=by omega
 subst k3;rw[qAa (by omega)]at j0;obtain⟨bd0,bd1,bd2,bd3⟩:=jl.out (by omega);obtain⟨v0,v1,v2,v3,v4,hX⟩:=HX.out;have NM:=hid (x04 w2 w1.heap.size w.heap.size X v0 v1 v2 v3 v4 _ [] xs hX (HL.kept j5.out (fun _ _ x=>x)) (by omega) (by omega) ki (fun x hx=>(jo.out x hx).zok));have jd:=hid hX;clear HX jl SO hX bd3;generalize hNN:Q3g X xs []=NN at NM j0;clear hNN;go_upto_region 10 with(first
  |(go_at_call 29;refine(NM.out).mono ?_;rintro e w3⟨rfl,hf3⟩;have jb:=hid hf3;clear hf3))
 by_cases hnn:0<=NN
 ·go_wp2;refine bodyPost_ret (results_tmp3 rfl _ _ _) rfl ⟨.pointer none,xs,fun _=>by rw[HR.out];exact j6.out,fun x hx=>((HL.each x hx).fresh j5.out).fresh jb.out,?_,(j7.trans j5.out).trans jb.out,?_⟩
  ·rw[HR.out,j0.out,qAb hnn];rfl
  rw[HR.out,j0.out,qAb hnn];intro q;cases q
 rw[qAa hnn]at j0;have HF:Hid (Q0a w w3):=(j7.trans j5.out).trans jb.out;have kn:Hid (Q0a w w1):=j7.out;have je:=jd.fresh jb.out;have ka:=hid je;have jw:Hid (Q0a w1 w3):=j5.trans jb.out;have EM:Hid (∀(x:ZLV) (W:World),x∈X.rules->Calls Tryz.prog 30 #[.string x.ln.pat,.string ⟨#[]⟩] W fun e w'=>e=.returned (.bool (em x.ln.pat))/\Q0a W w'):=fun x W hx=>by
  obtain⟨m1,m2⟩:=jn.1 x hx;obtain⟨L,q1,q2,q3⟩:=(jo.out x m1).pat m2;refine(y5x x.ln.pat ⟨#[]⟩ L W q2 (by show 0<=210;omega) q1).mono ?_;rintro e w'⟨b,h1,h2,h3⟩;refine⟨?_,h3⟩;have x2:em x.ln.pat=true↔L []:=q3;have:b=em x.ln.pat:=by rw[qAs,h2,x2];rfl
  rw[h1,this]
 obtain⟨a0,cp0,hv0⟩:=z0d (je.own 0 _ rfl);obtain⟨a1,cp1,hv1⟩:=z0d (je.own 1 _ rfl);obtain⟨a4,cp4,hv4⟩:=z0d (je.own 4 _ rfl);dsimp only at hv0 hv1 hv4;subst hv0 hv1 hv4;have x3:w1.heap.size<w3.heap.size:=je.lt;generalize hEE:Q5h em X.rules=EE at j0;have k5:=hid hEE;have x1:w.heap.size<=w1.heap.size:=j7.size;clear hEE jd NM j7 j5 jb je;go_wp2_with fail
 go_loopw [8,9] (fun x8 _ wr=>∃i:Nat,x8=.int .i64 i/\i<=X.rules.length/\Q5h em (X.rules.drop i)=EE/\Q0a w3 wr)
   (fun x _ _=>1001-(intOf x).toNat)
 case atStart=>exact⟨0,rfl,by omega,k5.out,mRf _ _⟩
 obtain⟨i,rfl,hi,hrec,hfr⟩:=hrel;have j8:=ka.fresh hfr;have k0:=Q2q.cell j8 0;have kk:=Q2q.cell j8 1;simp at k0 kk;have jc:=hid hfr;have kw:=j8.lt;have jx:=hid j8;clear k5 hfr;by_cases hlt:i<X.rules.length
 ·have j1:(i:Int)<(X.rules.length:Int):=by omega
  rw[y6e hlt]at hrec;have jg:=Q2q.rules j8;obtain⟨g,cap',hv⟩:=Joins.ownsRow_form jg.own (by omega);rw[qI]at hv;obtain⟨rfl,_,rfl⟩:=hv;have c3:=jg.cell i 3 hlt (by omega);have c6:=jg.cell i 6 hlt (by omega);have EX:=hid (EM.out X.rules[i] wr (by simp));generalize hxe:X.rules[i]=x at hrec c3 c6 EX;obtain⟨⟨xr,xk,xn,xp,xsy,xpl⟩,vs,vp,pl⟩:=x;simp[ZLV.cells]at c3 c6;have ke:=(jg.own.lt g rfl).2;dsimp only at hrec EX;clear hxe j8 jg;cases hem:em xp
  ·rw[hem,qAa (by simp)]at hrec;rw[hem]at EX;have jk:=hid hrec;clear hrec;go_wp2_with (first
    |(go_at_call 30;refine(EX.out).mono ?_;rintro e w5⟨rfl,hf5⟩;have jj:=hid hf5;clear hf5))
   go_roundw
   case rel=>exact⟨i+1,by go_num,by omega,jk.out,jc.trans jj.out⟩
   simp[intOf];omega
  rw[hem,qAb rfl]at hrec;rw[hem]at EX;have jk:=hid hrec;clear hrec;go_wp2_with (first
   |(go_at_call 30;refine(EX.out).mono ?_;rintro e w5⟨rfl,hf5⟩;have jj:=hid hf5;have kc:=jx.fresh hf5;have m0:=Q2q.cell kc 0;simp at m0;have x7:w5.cell? ⟨g,i*7+6,none⟩=some (.int .i64 pl):=(fcellZ hf5 c6);clear hf5 kc))
  go_quiet (fail);go_wp2;refine bodyPost_ret (results_tmp3 rfl _ _ _) rfl ⟨.pointer none,xs,fun _=>by rw[HR.out];exact j6.out,fun x hx=>((((HL.each x hx).fresh jw.out).fresh jc.out).fresh jj.out).fresh (Q4l _ _),?_,((HF.trans jc.out).trans jj.out).trans (Q4l _ _),?_⟩
  ·rw[HR.out,j0.out,← jk.out];rfl
  rw[HR.out,j0.out,← jk.out];intro q;cases q
 have j1:¬(i:Int)<(X.rules.length:Int):=by omega
 rw[qAi (by omega)]at hrec;have ji:EE=none:=hrec.symm;subst ji;have jp:Hid (Q51 em s xs (-1)=if X.prods.length=0 then(6,(s.size:Int)) else(0,0)):=j0.out;clear hrec j8 j0 EM;by_cases hp0:X.prods.length=0
 ·have j2:((X.prods.length:Int)==0)=true:=by simp[hp0]
  have jq:Hid (Q51 em s xs (-1)=(6,(s.size:Int))):=by unfold Hid;rw[jp.out,qAb hp0]
  clear hp0 jp;go_wp2;refine bodyPost_ret (results_tmp3 rfl _ _ _) rfl ⟨.pointer none,xs,fun _=>by rw[HR.out];exact j6.out,fun x hx=>((HL.each x hx).fresh jw.out).fresh jc.out,?_,HF.trans jc.out,?_⟩
  ·rw[HR.out,jq.out];rfl
  rw[HR.out,jq.out];intro q;cases q
 have j2:((X.prods.length:Int)==0)=false:=by simpa using hp0
 have jq:Hid (Q51 em s xs (-1)=(0,0)):=by unfold Hid;rw[jp.out,qAa hp0]
 have kt:Hid (Q0a w1 wr):=jw.trans jc.out;clear hp0 jp;obtain⟨wo,hwo⟩:∃wo,wo=wr:=⟨_,rfl⟩;subst hwo;go_wp2_with fail
 go_loopw [10,11,12,13] (fun x10 _ _ _ wr=>∃(i:Nat) (v4:Value) (sv:List Value),x10=.int .i64 i/\i<=X.prods.length/\sv.length=i/\Q6k wr w1.heap.size X (.slice a0 X.rules.length cp0) (.slice a1 X.prods.length cp1) v2 v3 v4 sv/\Q0a w1 wr)
   (fun x _ _ _ _=>1001-(intOf x).toNat)
 case atStart=>exact⟨0,_,[],rfl,by omega,rfl,⟨jx.out,by simp,fun i v x q=>by simp at q⟩,kt.out⟩
 obtain⟨i,v4,sv,rfl,hi,hsl,hS,hfr⟩:=hrel;obtain⟨wp,hwp⟩:∃wp,wp=wr:=⟨_,rfl⟩;subst hwp;have kv:Hid (1001-(intOf (.int .i64 ((i:Int)+1))).toNat<1001-(intOf (.int .i64 (i:Int))).toNat):=by unfold Hid;simp[intOf];omega
 have jm:=hid hsl;have HS:=hid hS;have kp:=hid hfr;have kj:=Q2q.cell hS.sp 1;simp at kj;have kx:=hS.sp.lt;clear hsl jx k0 kk kw ka;by_cases hlt:i<X.prods.length
 ·have j3:(i:Int)<(X.prods.length:Int):=by omega
  have jr:=Q2q.prods hS.sp;obtain⟨g,cap',hv⟩:=Joins.ownsRow_form jr.own (by omega);rw[qI]at hv;obtain⟨rfl,_,rfl⟩:=hv;have c4:=jr.cell i 4 hlt (by omega);have ke:=(jr.own.lt g rfl).2;have ja:=jn.2 X.prods[i] (by simp);have js:=(HL.each _ ja).fresh hfr;have jt:=jo.out _ ja;have j9:X.prods[i]? = some X.prods[i]:=qE hlt;generalize hxe:X.prods[i]=x at c4 js jt j9;have jv:=hid j9;have ku:=hid jt;have jd:=hid js;obtain⟨so,sc,hvs⟩:=z0d js.syms;obtain⟨⟨xr,xk,xn,xp,xsy,xpl⟩,vs,vp,pl⟩:=x;dsimp only at hvs;subst hvs;simp[ZLV.cells]at c4;have kz:=jt.small;dsimp only[ZLV.both]at kz;obtain⟨it,hit,ht0,ht1,ht2⟩:=Q6o;obtain⟨iu,hiu,hu0,hu1,hu2⟩:=infoIs';clear hxe jr ja js jt j9 hS hfr;go_wp2_with fail
  go_loopw [11,12,13] (fun x11 x12 _ wr=>∃j:Nat,x12=.int .i64 j/\j<=xsy.length/\wr.ownsRow wp.heap.size 3 1 x11 j (Q9w ((xsy.map (Q8l X)).take j))/\Q0a wp wr)
    (fun _ x _ _=>1001-(intOf x).toNat)
  case atStart=>exact⟨0,rfl,by omega,World.ownsRow_nil _ _ _ _,mRf _ _⟩
  obtain⟨j,rfl,hj,hown,hfr⟩:=hrel;have HO:=hid hown;have ju:=hid hfr;have d1:=fcellZ hfr kj;have d4:=fcellZ hfr c4;obtain⟨ro,rc,hro⟩:=z0d hown;subst hro;have x4:w1.heap.size<wr.heap.size:=qCr kx hfr.size;have x6:g<wr.heap.size:=qCr ke hfr.size;clear hown;by_cases hjl:j<xsy.length
  ·have j4:(j:Int)<(xsy.length:Int):=by omega
   obtain⟨gs,cs,hvs⟩:=Joins.ownsRow_form jd.syms (by dsimp only;omega);rw[qI]at hvs;obtain⟨rfl,_,rfl⟩:=hvs;have x5:wr.cell? ⟨gs,j,none⟩=some (.string xsy[j]):=by
    have:=(jd.fresh hfr).syms.cells (g:=gs) rfl j (.string xsy[j]) (by simp[hjl]);rwa [Addr.add_mid,qBi]at this
   have NX:=hid (y0f wr w1.heap.size X _ _ _ _ _ _ xsy[j] (HS.sp.fresh hfr) (ku.ne _ (by show xsy[j]∈xsy;simp)) (by omega) (by omega));have ky:gs<wr.heap.size:=by
    have:=((jd.fresh hfr).syms.lt gs rfl).2;exact this
   have kg:(xsy.map (Q8l X)).take (j+1)=(xsy.map (Q8l X)).take j++[Q8l X xsy[j]]:=by
    rw[qCc];simp[hjl]
   have k9:=hid kg;clear kg hfr;generalize Q8l X xsy[j]=nn at NX k9;go_wp2_with (first
    |(go_at_call 31;refine csm NX.out ?_)
    |(at_builtin;refine z0g _ rfl _ _ 22 rfl wp.heap.size 3 it _ 1 8 Tryz.underlying22 hit ht0 ht1 ht2 rfl (by decide) _ _ _ rfl (HO.alloc _) ⟨wr.heap.size,0,none⟩ 1 1 [.int .i64 nn] rfl rfl (z0l rfl) (by intro u hu;simp at hu;subst hu;rfl) (by unfold maxLen;omega) (by omega) (by have:=ju.size;simp;omega) ?_;intro v' w6 hown2 hgrow hblk;have kb:Q0a wp w6:=Mod.grown (S:=fun _=>False) (ju.alloc _) hgrow (fun k hk hlt=>by have:=(HO.lt k hk).1;omega);have kq:=hid hown2;have ko:=hid kb;clear hown2 hgrow hblk kb))
   go_roundw
   case rel =>
    refine⟨j+1,by go_num,by omega,?_,ko.out⟩;rw[k9.out];have e1:=qBf (f:=Value.int .i64) (l₁:=(xsy.map (Q8l X)).take j) (l₂:=[nn]);rw[qCf]at e1;show World.ownsRow _ _ _ _ _ _ (List.map _ _);rw[e1];exact kq.out
   simp[intOf];omega
  have j4:¬(j:Int)<(xsy.length:Int):=by omega
  have kf:j=xsy.length:=by omega
  have kh:wr.ownsRow wp.heap.size 3 1 (.slice ro j rc) xsy.length (Q9w (xsy.map (Q8l X))):=by
   have:=HO.out;rw[qCh (by simp;omega)]at this;rw[← kf];exact this
  have ks:=hid kh;have jf:=HS.fresh hfr;have k8:=hid jf;obtain⟨b4,cq4,hv4⟩:=z0d (jf.sp.own 4 _ rfl);dsimp only at hv4;subst hv4;have q4:=Q2q.cell jf.sp 4;have f4:=Q2q.frozen jf.sp 4;simp at q4;have x0:sv.length<=100:=by rw[jm.out];omega
  clear kf kh jf hfr;go_wp2_with (first
   |(at_builtin;refine z0g _ rfl _ _ 52 rfl (w1.heap.size+1) 22 iu _ 1 24 Tryz.underlying52 hiu hu0 hu1 hu2 rfl (by decide) (.slice b4 sv.length cq4) sv.length sv rfl ((k8.sp.own 4 _ rfl).alloc _) ⟨wr.heap.size,0,none⟩ 1 1 [.slice ro j rc] rfl rfl (z0l rfl) (by intro u hu;simp at hu;subst hu;rfl) (by unfold maxLen;omega) (by omega) (by simp;omega) ?_;intro v9 w6 hown hgrow hblk;obtain⟨a9,c9,hv9⟩:=z0d hown;have jy:=k8.sp.blk_grown ((mRf _ wr).alloc _) (i:=4) rfl hgrow;have k6:w6.cell? ⟨w1.heap.size,4,none⟩=some (.slice b4 sv.length cq4):=Q0b jy 4;have k7:=Q0g jy 4;have k4:=hid (Q6k.add (HS.out) ju.out ((mRf _ wr).alloc _) (by rw[jm.out];exact jv.out) ks.out hown hgrow (by simpa using hblk));clear hown hgrow hblk jy;subst hv9))
  go_roundw
  case rel=>exact⟨i+1,_,_,by go_num,by omega,by simp[jm.out],k4.1,z96 kp.out k4.2 (qR _)⟩
  exact kv.out
 have j3:¬(i:Int)<(X.prods.length:Int):=by omega
 have km:Hid (sv.length=X.prods.length):=by unfold Hid;rw[jm.out];omega
 go_wp2;refine bodyPost_ret (results_tmp3 rfl _ _ _) rfl ⟨.pointer (some ⟨w1.heap.size,0,none⟩),xs,fun _=>by rw[HR.out];exact j6.out,fun x hx=>(HL.each x hx).fresh hfr,?_,?_,fun _=>⟨w1.heap.size,x1,rfl,?_⟩⟩
 ·rw[HR.out,jq.out];rfl
 ·exact kn.trans hfr
 rw[kr.out];exact⟨_,_,_,_,_,_,HS.out,km.out⟩
structure RelB(s:ByteArray)(lns:List Ln)(zs:List (ZLn × Int)):Prop where
 len:lns.length=zs.length
 at':∀(k:Nat) (x:Ln) (z:ZLn × Int),lns[k]? = some x->zs[k]? = some z->∃i:Nat,i<s.size/\ZRel s i x z.1/\z.2=i/\∀p∈z.1.places,0<=p/\p<=s.size
theorem RelB.nil(s:ByteArray):RelB s [] []:=⟨rfl,fun k x z h=>by simp at h⟩
theorem RelB.snoc{s:ByteArray}{lns:List Ln}{zs:List (ZLn × Int)}{x:Ln}{z:ZLn}{i:Nat}(h:RelB s lns zs)(hi:i<s.size)(hr:ZRel s i x z)(hp:∀p∈z.places,0<=p/\p<=s.size):RelB s (lns++[x]) (zs++[(z,(i:Int))]):=by
 refine⟨by simp[h.len],fun k y u h1 h2=>?_⟩;by_cases hk:k<lns.length
 ·rw[qAe hk]at h1;rw[qAe (by rw[← h.len];exact hk)]at h2;exact h.at' k y u h1 h2
 have j0:=(qS h1).1;simp at j0;have e:k=lns.length:=by omega
 subst e;rw[qAg (qR _)]at h1;rw[h.len,qAg (qR _)]at h2;simp at h1 h2;subst h1 h2;exact⟨i,hi,hr,rfl,hp⟩
theorem z6p(s:ByteArray):∀(f:Nat) (i:Int) (a:List ByteArray) (b:List Int) (l:List ByteArray × List Int),0<=i->(∀p∈b,0<=p/\p<=s.size)->Q43 s f i a b=some l->∀p∈l.2,0<=p/\p<=s.size
 |0,i,a,b,l,h0,hb,h=>by simp[Q43]at h
 |f+1,i,a,b,l,h0,hb,h=>by
  rw[z6q]at h;split at h
  ·rename_i c1;split at h
   ·split at h
    ·cases h
    rename_i c3;refine z6p s f _ _ _ l (by omega) (fun p hp=>?_) h;rcases qBj.1 hp with hp|hp
    ·exact hb p hp
    simp at hp;subst hp;omega
   cases h
  injection h with h;subst h;exact hb
theorem y5o{u:ByteArray}{z:ZLn}(h:Q4u u=some z):∀p∈z.places,0<=p/\p<=u.size:=by
 unfold Q4u at h;split at h
 ·split at h
  ·injection h with h;subst h;intro p hp;cases hp
  cases h
 split at h
 ·rename_i c;cases hz:Q43 u (u.size+5) (Q5k u 0+1) [] []with
  |none=>rw[hz]at h;cases h
  |some l =>
   rw[hz]at h;injection h with h;subst h;exact z6p u _ _ _ _ l (by omega) (fun p hp=>by cases hp) hz
 cases h
theorem v2b{s:ByteArray}{a e:Nat}(hae:a<=e)(he:e<s.size)(h10:atB s (e:Nat)=10)(hc:Q1g s a e):nlF s a=e:=by
 obtain⟨n1,n2,n3,n4⟩:=z78 s (a:=a) (by omega);rcases Nat.lt_trichotomy (nlF s a) e with q|q|q
 ·exfalso;rcases n3 with z|z
  ·omega
  have:=hc (nlF s a) (by omega) (by omega);omega
 ·exact q
 exact absurd h10 (n4 e hae q)
theorem forms(s:ByteArray):∀(f g a:Nat) (acc:List Ln) (accz:List (ZLn × Int)),a<=s.size->s.size+2<=f+a->s.size+1<=g+a->RelB s acc accz ->
  ((Q1k s f a acc).2.2=true->(Q3v s g a accz).2=-1/\RelB s (Q1k s f a acc).1 (Q3v s g a accz).1)/\((Q1k s f a acc).2.2=false->0<=(Q3v s g a accz).2)
 |0,g,a,acc,accz,h1,h2,h3,h4=>by omega
 |f+1,0,a,acc,accz,h1,h2,h3,h4=>by omega
 |f+1,g+1,a,acc,accz,h1,h2,h3,h4=>by
  unfold Q1k;rw[z6n];by_cases c:a<s.size
  ·have ci:((a:Nat):Int)<(s.size:Int):=by omega
   rw[qAb c,qAb ci];by_cases hok:(Q2s s a).2.2=true
   ·obtain⟨e,e1,e2,e3,e4,e5,z,e6,e7⟩:=x71 hok;have hn:=v2b (by omega) e1 e3 e5;rw[qAa (by rw[hok];simp),hn,e6,e4];dsimp only;rw[qAa (by omega)];have j0:=z10 (s:=s) (a:=a) (e:=e) (by omega);exact forms s f g (e+1) _ _ (by omega) (by omega) (by omega) (h4.snoc c e7 (fun p hp=>by have:=y5o e6 p hp;omega))
   rw[qAb (by simpa using hok)];refine⟨fun q=>(by cases q),fun _=>?_⟩;obtain⟨n1,n2,n3,n4⟩:=z78 s (a:=a) h1;cases hz:Q4u (s.extract a (nlF s a))with
   |none=>dsimp only;omega
   |some z =>
    dsimp only;by_cases hn:nlF s a=s.size
    ·rw[qAb hn];dsimp only;omega
    exfalso;refine hok (x7g (e:=nlF s a) (by omega) n1 ?_ (by rw[hz];rfl));rcases n3 with q|q
    ·exact absurd q hn
    exact q
  have ci:¬((a:Nat):Int)<(s.size:Int):=by omega
  rw[qAa c,qAa ci];exact⟨fun _=>⟨rfl,h4⟩,fun q=>(by cases q)⟩
theorem z57(s:ByteArray):((Q0c s).2.2=true->(Q4r s).2=-1/\RelB s (Q0c s).1 (Q4r s).1)/\((Q0c s).2.2=false->0<=(Q4r s).2) :=
 forms s (s.size+5) (s.size+1) 0 [] [] (by omega) (by omega) (by omega) (RelB.nil s)
theorem y1m(s:ByteArray):∀(f a:Nat) (acc:List (ZLn × Int)),0<=(Q3v s f a acc).2->(Q3v s f a acc).1=[]
 |0,a,acc,h=>by simp[Q3v]at h
 |f+1,a,acc,h=>by
  rw[z6n]at h ⊢;by_cases c:a<s.size
  ·rw[qAb c]at h ⊢;cases hz:Q4u (s.extract a (nlF s a))with
   |none=>rfl
   |some z =>
    rw[hz]at h;dsimp only at h ⊢;by_cases hn:nlF s a=s.size
    ·rw[qAb hn]
    rw[qAa hn]at h ⊢;exact y1m s f _ _ h
  rw[qAa c]at h;dsimp only at h;omega
theorem v09:∃em:ByteArray->ByteArray->Bool,∀p t,em p t=true↔(Q6q p 6 0).lang (bytesOf t) :=
 ⟨fun p t=>@decide ((Q6q p 6 0).lang (bytesOf t)) (Classical.propDecidable _),fun p t=>by simp⟩
theorem y71{s:ByteArray}(hs:s.size<=800){em:ByteArray->ByteArray->Bool}(hem:∀p t,em p t=true↔(Q6q p 6 0).lang (bytesOf t)):∀y∈(Q4r s).1,YOk (fun p=>em p ⟨#[]⟩) y:=by
 intro y hy;cases hk:(Q0c s).2.2
 ·have:=y1m s _ 0 [] ((z57 s).2 hk);have e:(Q4r s).1=[]:=this;rw[e]at hy;cases hy
 obtain⟨h1,h2⟩:=(z57 s).1 hk;obtain⟨k,hkl,rfl⟩:=qAv hy;have hx:k<(Q0c s).1.length:=by rw[h2.len];exact hkl
 obtain⟨i,i1,i2,i3,i4⟩:=h2.at' k _ _ (qE hx) (qE hkl);have j0:=(z47 s).2 _ (qG hx);have j2:=j0.sb;have j1:=i2.syms.1;refine⟨fun n hn=>?_,?_,by omega,by omega,fun p hp=>by have:=i4 p hp;omega,fun hr=>?_⟩
 ·obtain⟨j,hj,rfl⟩:=qAv hn;obtain⟨a,m,q1,q2,q3⟩:=i2.syms.2 j _ _ (qE (by omega)) (qE hj);rw[q3,z10 q2];have:=q1.pos;omega
 ·rw[i2.places];simp[j1]
 obtain⟨L,q1,q2,q3⟩:=i2.pat hr;refine⟨L,q1,by omega,?_⟩;rw[hem,q1];rfl
theorem x7x{s:ByteArray}{a b m n:Nat}{d d':Wd}(h:WordAt s a m d)(h':WordAt s b n d')(ha:a+m<=s.size)(hb:b+n<=s.size):d.ls=d'.ls↔(s.extract a (a+m)).toList=(s.extract b (b+n)).toList:=by
 constructor
 ·exact y5l h h' ha hb
 intro e;have e2:(s.extract a (a+m)).data.toList=(s.extract b (b+n)).data.toList:=by rw[← btl,← btl];exact e
 have e3:s.extract a (a+m)=s.extract b (b+n):=by
  apply qEb;exact Array.toList_inj.1 e2
 have s1:=z10 (s:=s) (a:=a) (e:=a+m) ha;have s2:=z10 (s:=s) (a:=b) (e:=b+n) hb;have j0:m=n:=by rw[e3,s2]at s1;omega
 subst j0;rw[h.ls,h'.ls];apply qEh;intro k _;by_cases hk:k<m
 ·rw[qAb hk,qAb hk];have q1:=z02 (s:=s) (a:=a) (e:=a+m) ha (k:=(k:Int)) (by omega) (by omega);have q2:=z02 (s:=s) (a:=b) (e:=b+m) hb (k:=(k:Int)) (by omega) (by omega);rw[← q1,← q2,e3]
 rw[qAa hk,qAa hk]
structure Q38(s:ByteArray)(lns:List Ln)(xs:List ZLV):Prop where
 len:lns.length=xs.length
 at':∀(k:Nat) (x:Ln) (z:ZLV),lns[k]? = some x->xs[k]? = some z->∃i:Nat,i<s.size/\ZRel s i x z.ln/\z.pl=i
theorem x29{s:ByteArray}{lns:List Ln}{xs:List ZLV}(h:RelB s lns (xs.map ZLV.both)):Q38 s lns xs:=by
 refine⟨by have:=h.len;rw[qAo]at this;exact this,fun k x z h1 h2=>?_⟩;obtain⟨i,i1,i2,i3,_⟩:=h.at' k x z.both h1 (by rw[qBe,h2];rfl);exact⟨i,i1,i2,i3⟩
section
variable {s:ByteArray}{lns:List Ln}{xs:List ZLV}
theorem Q38.get(h:Q38 s lns xs){k:Nat}(hk:k<xs.length):∃(x:Ln) (i:Nat),lns[k]? = some x/\i<s.size/\ZRel s i x xs[k].ln/\xs[k].pl=i/\x.front.place=i:=by
 have j0:k<lns.length:=by rw[h.len];exact hk
 obtain⟨i,i1,i2,i3⟩:=h.at' k _ _ (qE j0) (qE hk);exact⟨lns[k],i,qE j0,i1,i2,i3,i2.place⟩
def Q6l(s:ByteArray)(ls:List Int)(n:ByteArray):Prop:=∃(j m:Nat) (d:Wd),WordAt s j m d/\d.ls=ls/\j+m<=s.size/\n=s.extract j (j+m)
theorem ZRel.word{i:Nat}{x:Ln}{z:ZLn}(h:ZRel s i x z):Q6l s x.front.ls z.name:=by
 obtain⟨m,h1,h2,h3⟩:=h.name;exact⟨i,m,x.front,h1,rfl,h2,h3⟩
theorem ZRel.sword{i:Nat}{x:Ln}{z:ZLn}(h:ZRel s i x z){k:Nat}{d:Wd}{n:ByteArray}(h1:x.syms[k]? = some d)(h2:z.syms[k]? = some n):Q6l s d.ls n:=by
 obtain⟨j,m,q1,q2,q3⟩:=h.syms.2 k d n h1 h2;exact⟨j,m,d,q1,rfl,q2,q3⟩
theorem Q6l.eq_iff{ls ls':List Int}{n n':ByteArray}(h:Q6l s ls n)(h':Q6l s ls' n'):ls=ls'↔n.toList=n'.toList:=by
 obtain⟨j,m,d,q1,q2,q3,q4⟩:=h;obtain⟨j',m',d',q1',q2',q3',q4'⟩:=h';rw[← q2,← q2',q4,q4'];exact x7x q1 q1' q3 q3'
theorem Q6l.cap{ls:List Int}{n:ByteArray}(h:Q6l s ls n):Q1a (ls.getD 0 0)=Q1a (atB n 0):=by
 obtain⟨j,m,d,q1,q2,q3,q4⟩:=h;have hp:=q1.pos;rw[q4,← q2,q1.ls];have:((List.range 8).map (fun k:Nat=>if k<m then atB s ((j:Int)+k) else 0)).getD 0 0=atB s j:=by
  simp[List.range,List.range.loop,show 0<m by omega]
 rw[this,z02 q3 (by omega) (by omega),qCs]
theorem z9u(x:Ln):Q07 x=!Q1a (x.front.ls.getD 0 0):=rfl
theorem z7z{ls:List Int}{i:Nat}(hi:i<=lns.length):Q2d lns ls<i↔∃(j:Nat) (x:Ln),j<i/\lns[j]? = some x/\x.front.ls=ls:=by
 unfold Q2d;constructor
 ·intro h;have hl:lns.findIdx (fun x=>x.front.ls==ls)<lns.length:=by omega
  have hg:=qDb (w:=hl);exact⟨_,_,h,qE hl,by simpa using hg⟩
 rintro⟨j,x,h1,h2,h3⟩;obtain⟨hj,hx⟩:=qS h2;by_cases q:lns.findIdx (fun x=>x.front.ls==ls)<=j
 ·omega
 exfalso;have nf:=List.not_of_lt_findIdx (xs:=lns) (p:=fun x=>x.front.ls==ls) (i:=j) (by omega);rw[hx]at nf;simp[h3]at nf
theorem z8w{l:List ByteArray}{t:ByteArray}:0<=Q1v l t↔∃y∈l,y.toList=t.toList :=
 ⟨fun h=>z56 (by omega),y7z⟩
end
structure SI(lns:List Ln)(xs:List ZLV)(i:Nat)(X:SP):Prop where
 rules:X.rules.length=Q2z lns i
 prods:X.prods.length=Q2y lns i
 heads:X.heads.length=Q3d lns i
 mem:∀t:ByteArray,(∃y∈X.heads,y.toList=t.toList)↔∃(j:Nat) (z:ZLV),j<i/\xs[j]? = some z/\z.ln.rule=false/\z.ln.name.toList=t.toList
 rl:X.rules=(xs.take i).filter (fun z=>z.ln.rule)
 pr:X.prods=(xs.take i).filter (fun z=>!z.ln.rule)
section
variable {s:ByteArray}{lns:List Ln}{xs:List ZLV}
theorem y9j(h:Q38 s lns xs){i:Nat}(hi:i<xs.length)(hr:xs[i].ln.rule=false):Q24 lns i=true↔∃(j:Nat) (z:ZLV),j<i/\xs[j]? = some z/\z.ln.rule=false/\z.ln.name.toList=xs[i].ln.name.toList:=by
 obtain⟨x,p,g1,g2,g3,g4,g5⟩:=h.get hi;have hl:=h.len;unfold Q24;rw[g1];dsimp only;rw[qAm,z7z (by omega)];constructor
 ·rintro⟨j,y,h1,h2,h3⟩;obtain⟨y',q,k1,k2,k3,k4,k5⟩:=h.get (k:=j) (by omega);rw[h2]at k1;injection k1 with k1;subst k1;refine⟨j,xs[j],h1,qE (by omega),?_,(k3.word.eq_iff g3.word).1 h3⟩;have e1:=k3.rule;have e2:=g3.rule;rw[hr]at e2;rw[e1,z9u,h3,← z9u,← e2]
 rintro⟨j,z,h1,h2,h3,h4⟩;obtain⟨hj,hz⟩:=qS h2;obtain⟨y',q,k1,k2,k3,k4,k5⟩:=h.get hj;rw[hz]at k3;exact⟨j,y',h1,k1,(k3.word.eq_iff g3.word).2 h4⟩
theorem y0j(h:Q38 s lns xs){i:Nat}(hi:i<xs.length)(hr:xs[i].ln.rule=true):Q24 lns i=true↔∃(j:Nat) (z:ZLV),j<i/\xs[j]? = some z/\z.ln.rule=true/\z.ln.name.toList=xs[i].ln.name.toList:=by
 obtain⟨x,p,g1,g2,g3,g4,g5⟩:=h.get hi;have hl:=h.len;unfold Q24;rw[g1];dsimp only;rw[qAm,z7z (by omega)];constructor
 ·rintro⟨j,y,h1,h2,h3⟩;obtain⟨y',q,k1,k2,k3,k4,k5⟩:=h.get (k:=j) (by omega);rw[h2]at k1;injection k1 with k1;subst k1;refine⟨j,xs[j],h1,qE (by omega),?_,(k3.word.eq_iff g3.word).1 h3⟩;have e1:=k3.rule;have e2:=g3.rule;rw[hr]at e2;rw[e1,z9u,h3,← z9u,← e2]
 rintro⟨j,z,h1,h2,h3,h4⟩;obtain⟨hj,hz⟩:=qS h2;obtain⟨y',q,k1,k2,k3,k4,k5⟩:=h.get hj;rw[hz]at k3;exact⟨j,y',h1,k1,(k3.word.eq_iff g3.word).2 h4⟩
theorem v0r(h:Q38 s lns xs){i:Nat}{X:SP}(hi:i<xs.length)(hS:SI lns xs i X):SI lns xs (i+1) (Q0y X xs[i]):=by
 obtain⟨x,p,g1,g2,g3,g4,g5⟩:=h.get hi;have j1:i<lns.length:=by rw[h.len];exact hi
 have hx:lns[i]=x:=by rw[qE j1]at g1;injection g1
 have c1:=z4g lns i j1;have c2:=z4f lns i j1;have c3:=z3c lns i j1;rw[hx,← g3.rule]at c1 c2 c3;have j2:xs.take (i+1)=xs.take i++[xs[i]]:=by rw[qCc,qE hi];rfl
 have j0:∀(t:ByteArray) (j:Nat) (z:ZLV),(j<i+1/\xs[j]? = some z/\z.ln.rule=false/\z.ln.name.toList=t.toList)↔((j<i/\xs[j]? = some z/\z.ln.rule=false/\z.ln.name.toList=t.toList)∨(j=i/\z=xs[i]/\z.ln.rule=false/\z.ln.name.toList=t.toList)):=by
  intro t j z;constructor
  ·rintro⟨q1,q2,q3⟩;by_cases e:j=i
   ·subst e;rw[qE hi]at q2;injection q2 with q2;exact .inr ⟨rfl,q2.symm,q3⟩
   exact .inl ⟨by omega,q2,q3⟩
  rintro(⟨q1,q2⟩|⟨rfl,rfl,q3⟩)
  ·exact⟨by omega,q2⟩
  exact⟨by omega,qE hi,q3⟩
 cases hr:xs[i].ln.rule
 ·have j3:Q0y X xs[i]={X with prods:=X.prods++[xs[i]],heads:=if Q1v X.heads xs[i].ln.name<0 then X.heads++[xs[i].ln.name] else X.heads,head:=X.head++[if Q1v X.heads xs[i].ln.name<0 then(X.heads.length:Int) else Q1v X.heads xs[i].ln.name]}:=by
   unfold Q0y;rw[qAa (by rw[hr];simp)]
  rw[j3];rw[hr]at c1 c2 c3;have j4:Q24 lns i=true↔0<=Q1v X.heads xs[i].ln.name:=by
   rw[y9j h hi hr,z8w,hS.mem]
  refine⟨?_,?_,?_,?_,?_,?_⟩
  ·rw[c1];simpa using hS.rules
  ·rw[c2];show(X.prods++[xs[i]]).length=_;rw[qP,hS.prods];rfl
  ·dsimp only;rw[c3,← hS.heads];by_cases q:Q1v X.heads xs[i].ln.name<0
   ·have:Q24 lns i=false:=by
     cases z:Q24 lns i
     ·rfl
     exact absurd (j4.1 z) (by omega)
    rw[qAb q,this];simp
   rw[qAa q,j4.2 (by omega)];simp
  ·intro t;dsimp only;have j5:(∃(j:Nat) (z:ZLV),j<i+1/\xs[j]? = some z/\z.ln.rule=false/\z.ln.name.toList=t.toList)↔((∃y∈X.heads,y.toList=t.toList)∨xs[i].ln.name.toList=t.toList):=by
    rw[hS.mem t];constructor
    ·rintro⟨j,z,q⟩;rcases(j0 t j z).1 q with q|⟨_,rfl,_,q⟩
     ·exact .inl ⟨j,z,q⟩
     exact .inr q
    rintro(⟨j,z,q⟩|q)
    ·exact⟨j,z,(j0 t j z).2 (.inl q)⟩
    exact⟨i,xs[i],(j0 t i _).2 (.inr ⟨rfl,rfl,hr,q⟩)⟩
   rw[j5];by_cases q:Q1v X.heads xs[i].ln.name<0
   ·rw[qAb q];constructor
    ·rintro⟨y,hy,e⟩;rcases qBj.1 hy with hy|hy
     ·exact .inl ⟨y,hy,e⟩
     simp at hy;subst hy;exact .inr e
    rintro(⟨y,hy,e⟩|e)
    ·exact⟨y,by simp[hy],e⟩
    exact⟨_,by simp,e⟩
   rw[qAa q];constructor
   ·exact fun z=>.inl z
   rintro(z|e)
   ·exact z
   obtain⟨y,hy,e2⟩:=z56 q;exact⟨y,hy,e2.trans e⟩
  ·rw[j2,qBu,← hS.rl];simp[qAj,hr]
  rw[j2,qBu,← hS.pr];simp[qAj,hr]
 have j3:Q0y X xs[i]={X with rules:=X.rules++[xs[i]]}:=by
  unfold Q0y;rw[qAb hr]
 rw[j3];rw[hr]at c1 c2 c3;refine⟨?_,?_,?_,?_,?_,?_⟩
 ·rw[c1];show(X.rules++[xs[i]]).length=_;rw[qP,hS.rules];rfl
 ·rw[c2];simpa using hS.prods
 ·rw[c3];simpa using hS.heads
 ·intro t;dsimp only;rw[hS.mem t];constructor
  ·rintro⟨j,z,q⟩;exact⟨j,z,(j0 t j z).2 (.inl q)⟩
  rintro⟨j,z,q⟩;rcases(j0 t j z).1 q with q|⟨_,rfl,q,_⟩
  ·exact⟨j,z,q⟩
  rw[hr]at q;cases q
 ·rw[j2,qBu,← hS.rl];simp[qAj,hr]
 rw[j2,qBu,← hS.pr];simp[qAj,hr]
theorem y8g(h:Q38 s lns xs):∀(f i:Nat) (X:SP),i<=xs.length->xs.length+1<=f+i->SI lns xs i X ->
  (Q1h X (xs.drop i)).2=Q4i lns f i/\((Q1h X (xs.drop i)).2=-1->SI lns xs xs.length (Q1h X (xs.drop i)).1)
 |0,i,X,hi,hf,hS=>by omega
 |f+1,i,X,hi,hf,hS=>by
  unfold Q4i;by_cases hlt:i<xs.length
  ·obtain⟨x,p,g1,g2,g3,g4,g5⟩:=h.get hlt;have j0:=v0r h hlt hS;rw[g1,qC hlt];dsimp only;have j2:Q73 (Q0y X xs[i]) xs[i]=Q7l lns i x:=by
    unfold Q73 Q7l;rw[j0.rules,j0.prods,j0.heads,g3.syms.1]
   unfold Q1h;rw[j2];cases ho:Q7l lns i x
   ·rw[qAa (by simp),qAa (by simp)];exact y8g h f (i+1) _ (by omega) (by omega) j0
   rw[qAb rfl,qAb rfl];refine⟨by rw[g4,g5],fun q=>?_⟩;dsimp only at q;omega
  have j1:i=xs.length:=by omega
  rw[qN (by rw[h.len];omega),qAi (by omega)];exact⟨rfl,fun _=>by rw[← j1];exact hS⟩
theorem v0s:SI lns xs 0 Q2t:=by
 refine⟨rfl,rfl,rfl,fun t=>?_,by simp[Q2t],by simp[Q2t]⟩;constructor
 ·rintro⟨y,hy,_⟩;simp[Q2t]at hy
 rintro⟨j,z,q,_⟩;omega
theorem x3f(h:Q38 s lns xs):(Q1h Q2t xs).2=Q3q lns/\((Q1h Q2t xs).2=-1->SI lns xs xs.length (Q1h Q2t xs).1):=by
 have:=y8g h (lns.length+1) 0 Q2t (by omega) (by rw[h.len];omega) v0s;exact this
end
end Go.Proofs.YtcpceafmlgaodaaGreat
