import Derived.Test.YtbdpfmalabgmbaaGreatRh5
namespace Go.Proofs.YtbdpfmalabgmbaaGreat
open Go.RowKit
set_option maxRecDepth 99999
set_option maxHeartbeats 0
set_option linter.all false
structure YOk(em:ByteArray->Bool)(y:ZLn × Int):Prop where
 ne:∀n∈y.1.syms,0<n.size
 len:y.1.places.length=y.1.syms.length
 small:y.1.syms.length<=1000
 pl:0<=y.2/\y.2<=1000
 pls:∀p∈y.1.places,0<=p/\p<=1000
 pat:y.1.rule=true->∃L,Q8u y.1.pat L/\y.1.pat.size<=1000/\(em y.1.pat=true↔L [])
theorem YOk.zok{em:ByteArray->Bool}{x:ZLV}(h:YOk em x.both):ZOk x:=⟨h.ne,h.len,h.small,h.pl,h.pls⟩
def Q5s(em:ByteArray->Bool):List ZLV->Option Int
 | []=>none
 |x::l=>if em x.ln.pat=true then some x.pl else Q5s em l
theorem y9j:∀(xs:List ZLV) (X:SP) (P:ZLV->Prop),(∀x∈X.rules,P x/\x.ln.rule=true)->(∀x∈X.prods,P x)->(∀x∈xs,P x)->(∀x∈(Q1b X xs).1.rules,P x/\x.ln.rule=true)/\(∀x∈(Q1b X xs).1.prods,P x)
 | [],X,P,h1,h2,_=>⟨h1,h2⟩
 |x::xs,X,P,h1,h2,h3=>by
  have s1:(∀y∈(Q01 X x).rules,P y/\y.ln.rule=true)/\(∀y∈(Q01 X x).prods,P y):=by
   unfold Q01;split
   ·rename_i c;refine⟨fun y hy=>?_,h2⟩;rcases qBs.1 hy with hy|hy
    ·exact h1 y hy
    simp at hy;subst hy;exact⟨h3 _ (by simp),c⟩
   refine⟨h1,fun y hy=>?_⟩;rcases qBs.1 hy with hy|hy
   ·exact h2 y hy
   simp at hy;subst hy;exact h3 _ (by simp)
  unfold Q1b;split
  ·exact s1
  exact y9j xs _ P s1.1 s1.2 (fun y hy=>h3 y (by simp[hy]))
theorem y3b:∀(xs:List ZLV) (X:SP),SPbd X->(Q1b X xs).2<0->(∀x∈xs,0<=x.pl)->SPbd (Q1b X xs).1
 | [],X,h,_,_=>h
 |x::xs,X,h,hp,hx=>by
  unfold Q1b at hp ⊢;cases ho:Q8f (Q01 X x) x
  ·rw[ho]at hp;rw[qAa (by simp)]at hp ⊢;exact y3b xs _ (x49 h ho) hp (fun y hy=>hx y (by simp[hy]))
  rw[ho,qAb rfl]at hp;have:=hx x (by simp);dsimp only at hp;omega
theorem x33:SPbd Q2m:=⟨by simp[Q2m],by simp[Q2m],by simp[Q2m],by simp[Q2m]⟩
def Q8q(X:SP)(x:ZLV):List Int:=x.ln.syms.map (Q80 X)
structure Q6v(w:World)(b:Nat)(X:SP)(v0 v1 v2 v3 v4:Value)(sv:List Value):Prop where
 sp:Q2f w b X v0 v1 v2 v3 v4 sv
 len:sv.length<=X.prods.length
 syms:∀(i:Nat) (v:Value) (x:ZLV),sv[i]? = some v->X.prods[i]? = some x->w.ownsRow (b+1) 3 1 v x.ln.syms.length (W0b (Q8q X x))/\∀k,v.ownBlock=some k->v4.ownBlock≠some k
theorem Q6v.fresh{w w':World}{b:Nat}{X:SP}{v0 v1 v2 v3 v4:Value}{sv:List Value}(h:Q6v w b X v0 v1 v2 v3 v4 sv)(m:Q0a w w'):Q6v w' b X v0 v1 v2 v3 v4 sv :=
 ⟨h.sp.fresh m,h.len,fun i v x h1 h2=>⟨z0d (h.syms i v x h1 h2).1 (fun g hg=>m.block g ((h.syms i v x h1 h2).1.lt g hg).2 id),(h.syms i v x h1 h2).2⟩⟩
theorem Q6v.add{w wr W w1:World}{b:Nat}{X:SP}{v0 v1 v2 v3 v4 v' u:Value}{sv:List Value}{x:ZLV}(h:Q6v w b X v0 v1 v2 v3 v4 sv)(hr:Q0a w wr)(hW:Q0a wr W)(hx:X.prods[sv.length]? = some x)
  (hu:wr.ownsRow w.heap.size 3 1 u x.ln.syms.length (W0b (Q8q X x)))
  (hown:w1.ownsRow (b+1) 24 1 v' (sv.length+1) (sv++[u])) (hg:W.grownBy w1 v4.ownBlock)
  (hb:∀k,v'.ownBlock=some k->v4.ownBlock=some k∨W.heap.size<=k) :
  Q6v (w1.setCell ⟨b,4,none⟩ v') b X v0 v1 v2 v3 v' (sv++[u])/\UpZ b w (w1.setCell ⟨b,4,none⟩ v'):=by
 obtain⟨q1,q2⟩:=Q2f.add4 (h.sp.fresh hr) hW hown hg hb;have j3:=h.sp.lt;have j4:=hr.size;have j5:=hW.size;have j0:Mod (fun k=>k=b∨v4.ownBlock=some k) wr (w1.setCell ⟨b,4,none⟩ v') :=
  ((hW.mono (T:=fun k=>k=b∨v4.ownBlock=some k) (fun _ _ x=>x.elim)).grown hg (fun k hk _=>.inr hk)).setCell (fun _=>.inl rfl) _
 have j1:=(h.sp.own_lt (i:=4) rfl);refine⟨⟨q1,?_,?_⟩,(hr.mono (fun _ _ x=>x.elim)).trans q2⟩
 ·have:=(qS hx).1;simp;omega
 intro i v y h1 h2;by_cases hi:i<sv.length
 ·rw[qAl hi]at h1;obtain⟨y1,y2⟩:=h.syms i v y h1 h2;have y3:=z0d (w':=wr) y1 (fun g hg=>hr.block g (y1.lt g hg).2 id);refine⟨z0d y3 (fun g hg=>j0.block g (y3.lt g hg).2 ?_),fun k hk e=>?_⟩
  ·rintro(e|e)
   ·have:=(y1.lt g hg).1;omega
   exact y2 g hg e
  rcases hb k e with z|z
  ·exact y2 k hk z
  have:=y1.lt k hk;omega
 have j2:=(qS h1).1;simp at j2;have e:i=sv.length:=by omega
 subst e;rw[qAr (qR _)]at h1;simp at h1;subst h1;rw[hx]at h2;injection h2 with h2;subst h2;have ul:=hu.lt;refine⟨z0g (z0d hu (fun g hg=>j0.block g (ul g hg).2 ?_)) (by omega),fun k hk e=>?_⟩
 ·rintro(e|e)
  ·have:=ul g hg;omega
  have:=j1 g e;have:=ul g hg;omega
 have:=ul k hk;rcases hb k e with z|z
 ·have:=j1 k z;omega
 omega
def SpecX(w:World)(b:Nat)(X:SP):Prop:=∃v0 v1 v2 v3 v4 sv,Q6v w b X v0 v1 v2 v3 v4 sv/\sv.length=X.prods.length
def tailZ(s:ByteArray)(n:Nat):Option Int->Int × Int
 |some p=>(5,p)
 |none=>if n=0 then(6,(s.size:Int)) else(0,0)
def Q6b(em:ByteArray->Bool)(s:ByteArray)(xs:List ZLV)(fp:Int):Int × Int :=
 if 800<s.size then(1,0) else if 0<=fp then(2,fp) else if 0<=(Q1b Q2m xs).2 then(3,(Q1b Q2m xs).2)
 else if 0<=Q3k (Q1b Q2m xs).1 xs [] then(4,Q3k (Q1b Q2m xs).1 xs [])
 else tailZ s (Q1b Q2m xs).1.prods.length (Q5s em (Q1b Q2m xs).1.rules)
def ReadRet(em:ByteArray->Bool)(s:ByteArray)(w:World)(e:Ending)(w':World):Prop :=
 ∃(p:Value) (xs:List ZLV),(s.size<=800->xs.map ZLV.both=(Q4x s).1)/\(∀x∈xs,x.At w.heap.size w')/\e=.returned (.tuple #[p,.int .i64 (Q6b em s xs (Q4x s).2).1,.int .i64 (Q6b em s xs (Q4x s).2).2])/\Q0a w w' /\
  ((Q6b em s xs (Q4x s).2).1=0->∃b,w.heap.size<=b/\p=.pointer (some ⟨b,0,none⟩)/\SpecX w' b (Q1b Q2m xs).1)
theorem fcellZ{a b:World}{p:Addr}{v:Value}(h:Q0a a b)(hc:a.cell? p=some v):b.cell? p=some v:=by
 unfold World.cell? at hc ⊢;cases hb:a.heap[p.block]? with
 |none=>rw[hb]at hc;cases hc
 |some o =>
  rw[h.at hb id];rw[hb]at hc;exact hc
theorem y15(s:ByteArray):∀(f a:Nat) (acc:List (ZLn × Int)),acc.length<=a->a<=s.size->(Q32 s f a acc).1.length<=s.size
 |0,a,acc,h1,h2=>by simp[Q32];omega
 |f+1,a,acc,h1,h2=>by
  rw[z6w];split
  ·split
   ·split
    ·simp
    obtain⟨n1,n2,n3,n4⟩:=z8i s (a:=a) h2;exact y15 s f _ _ (by simp;omega) (by omega)
   simp
  dsimp only;omega
theorem x5t(s:ByteArray):(Q4x s).1.length<=s.size:=y15 s _ 0 [] (by simp) (by omega)
theorem y55(s:ByteArray):∀(f a:Nat) (acc:List (ZLn × Int)),-1<=(Q32 s f a acc).2
 |0,a,acc=>by simp[Q32]
 |f+1,a,acc=>by
  rw[z6w];split
  ·split
   ·split
    ·dsimp only;omega
    exact y55 s f _ _
   dsimp only;omega
  simp
theorem y3c:∀(xs:List ZLV) (X:SP),(∀x∈xs,0<=x.pl)->-1<=(Q1b X xs).2
 | [],X,_=>by simp[Q1b]
 |x::xs,X,hx=>by
  unfold Q1b;split
  ·have:=hx x (by simp);dsimp only;omega
  exact y3c xs _ (fun y hy=>hx y (by simp[hy]))
theorem y6w{em:ByteArray->Bool}{l:List ZLV}{i:Nat}(hi:i<l.length):Q5s em (l.drop i)=if em l[i].ln.pat=true then some l[i].pl else Q5s em (l.drop (i+1)):=by
 rw[qC hi];rfl
theorem x1r(em:ByteArray->Bool)(s:ByteArray)(w:World)(hs:s.size<=maxLen)(hl:800<s.size):Calls Tryz.prog 18 #[.string s] w fun e w'=>ReadRet em s w e w':=by
 have hz:∀xs fp,Q6b em s xs fp=(1,0):=fun xs fp=>by unfold Q6b;rw[qAb hl]
 have HZ:=hid hz;have k1:(800:Int)<(s.size:Int):=by omega
 unfold maxLen at hs;clear hz;go_enter Tryz.func18,Tryz.ntmps18
 go_wp2;refine qAc (qFg rfl _ _ _) rfl ⟨.pointer none,[],fun q=>by omega,fun x hx=>by(cases hx),?_,mRf _ _,?_⟩
 ·rw[HZ.out];rfl
 rw[HZ.out];intro q;cases q
theorem y72(em:ByteArray->Bool)(s:ByteArray)(w:World)(hl:s.size<=800)(hY:∀y∈(Q4x s).1,YOk em y):Calls Tryz.prog 18 #[.string s] w fun e w'=>ReadRet em s w e w':=by
 have FO:=hid (fun w=>x5y s w (by omega));have jr:=x5t s;have kv:-1<=(Q4x s).2:=y55 s _ 0 [];have HZ:Hid (∀(xs:List ZLV) (fp:Int),Q6b em s xs fp=if 0<=fp then((2:Int),fp) else if 0<=(Q1b Q2m xs).2 then(3,(Q1b Q2m xs).2)
   else if 0<=Q3k (Q1b Q2m xs).1 xs [] then(4,Q3k (Q1b Q2m xs).1 xs [])
   else tailZ s (Q1b Q2m xs).1.prods.length (Q5s em (Q1b Q2m xs).1.rules)):=fun xs fp=>by unfold Q6b;rw[qAa (by omega)]
 generalize hR:Q4x s=R at FO jr kv hY;obtain⟨zs,fp⟩:=R;dsimp only at FO jr kv hY;have HR:=hid hR;have HY:=hid hY;have k1:¬(800:Int)<(s.size:Int):=by omega
 clear hR hY;go_enter Tryz.func18,Tryz.ntmps18
 go_upto_region 4 with(first
  |(go_at_call 40;refine(FO.out _).mono ?_;rintro e w1⟨v,xs,x7,rfl,ks,hL⟩;have jc:=hid x7;have je:=hid ks;have HL:=hid hL;clear x7 ks hL))
 by_cases kw:0<=fp
 ·go_wp2;refine qAc (qFg rfl _ _ _) rfl ⟨.pointer none,xs,fun _=>by rw[HR.out];exact jc.out,HL.each,?_,je.out,?_⟩
  ·rw[HR.out,HZ.out,qAb kw];rfl
  rw[HR.out,HZ.out,qAb kw];intro q;cases q
 have kg:fp=-1:=by omega
 subst kg;have x6:xs.length<=1000:=by
  have:=qEn List.length jc.out;rw[qAv]at this;omega
 have k2:Hid (∀x∈xs,YOk em x.both):=fun x hx=>HY.out _ (by rw[← jc.out];exact List.mem_map_of_mem hx);have ki:∀x∈xs,0<=x.pl:=fun x hx=>(k2.out x hx).pl.1;have SO:=hid (y73 w1 w.heap.size v xs HL.out x6);have xb:=y3c xs Q2m ki;have jx:=hid (fun h=>y3b xs Q2m x33 h ki);have jz:=hid (y9j xs Q2m (fun x=>x∈xs) (fun x hx=>by(simp[Q2m]at hx)) (fun x hx=>by(simp[Q2m]at hx)) (fun x hx=>hx));have j8:=hid (HZ.out xs (-1));clear ki HZ FO;generalize hSS:Q1b Q2m xs=SS at SO xb jx jz j8;have xh:=hid hSS;clear hSS;obtain⟨X,sp⟩:=SS;dsimp only at SO xb jx jz j8;rw[qAa (by omega)]at j8;obtain⟨vo,vc,y9⟩:=z0c HL.own;subst y9;go_upto_region 7 with(first
  |(go_at_call 41;refine(SO.out).mono ?_;rintro e w2⟨rfl,hX,kt⟩;have HX:=hid hX;have jb:=hid kt;clear hX kt))
 by_cases x1:0<=sp
 ·go_wp2;refine qAc (qFg rfl _ _ _) rfl ⟨.pointer none,xs,fun _=>by rw[HR.out];exact jc.out,fun x hx=>(HL.each x hx).fresh jb.out,?_,je.trans jb.out,?_⟩
  ·rw[HR.out,j8.out,qAb x1];rfl
  rw[HR.out,j8.out,qAb x1];intro q;cases q
 have kj:sp=-1:=by omega
 subst kj;rw[qAa (by omega)]at j8;obtain⟨yf,yg,yh,xm⟩:=jx.out (by omega);obtain⟨v0,v1,v2,v3,v4,hX⟩:=HX.out;have NM:=hid (x1n w2 w1.heap.size w.heap.size X v0 v1 v2 v3 v4 _ [] xs hX (HL.kept jb.out (fun _ _ x=>x)) (by omega) (by omega) x6 (fun x hx=>(k2.out x hx).zok));have jm:=hid hX;clear HX jx SO hX xm;generalize hNN:Q3k X xs []=NN at NM j8;clear hNN;go_upto_region 10 with(first
  |(go_at_call 42;refine(NM.out).mono ?_;rintro e w3⟨rfl,ku⟩;have jk:=hid ku;clear ku))
 by_cases kh:0<=NN
 ·go_wp2;refine qAc (qFg rfl _ _ _) rfl ⟨.pointer none,xs,fun _=>by rw[HR.out];exact jc.out,fun x hx=>((HL.each x hx).fresh jb.out).fresh jk.out,?_,(je.trans jb.out).trans jk.out,?_⟩
  ·rw[HR.out,j8.out,qAb kh];rfl
  rw[HR.out,j8.out,qAb kh];intro q;cases q
 rw[qAa kh]at j8;have HF:Hid (Q0a w w3):=(je.trans jb.out).trans jk.out;have xd:Hid (Q0a w w1):=je.out;have jn:=jm.fresh jk.out;have ko:=hid jn;have kc:Hid (Q0a w1 w3):=jb.trans jk.out;have EM:Hid (∀(x:ZLV) (W:World),x∈X.rules->Calls Tryz.prog 43 #[.string x.ln.pat,.string ⟨#[]⟩] W fun e w'=>e=.returned (.bool (em x.ln.pat))/\Q0a W w'):=fun x W hx=>by
  obtain⟨m1,m2⟩:=jz.1 x hx;obtain⟨L,q1,q2,q3⟩:=(k2.out x m1).pat m2;refine(y6f x.ln.pat ⟨#[]⟩ L W q2 (by show 0<=210;omega) q1).mono ?_;rintro e w'⟨b,h1,h2,h3⟩;refine⟨?_,h3⟩;have yd:em x.ln.pat=true↔L []:=q3;have:b=em x.ln.pat:=by rw[qBc,h2,yd];rfl
  rw[h1,this]
 obtain⟨a0,xo,x4⟩:=z0c (jn.own 0 _ rfl);obtain⟨a1,xq,x5⟩:=z0c (jn.own 1 _ rfl);obtain⟨a4,yi,jt⟩:=z0c (jn.own 4 _ rfl);dsimp only at x4 x5 jt;subst x4 x5 jt;have yj:w1.heap.size<w3.heap.size:=jn.lt;generalize hEE:Q5s em X.rules=EE at j8;have kl:=hid hEE;have yc:w.heap.size<=w1.heap.size:=je.size;clear hEE jm NM je jb jk jn;go_wp2_with fail
 go_loopw [8,9] (fun x8 _ wr=>∃i:Nat,x8=.int .i64 i/\i<=X.rules.length/\Q5s em (X.rules.drop i)=EE/\Q0a w3 wr)
   (fun x _ _=>1001-(intOf x).toNat)
 case atStart=>exact⟨0,rfl,by omega,kl.out,mRf _ _⟩
 obtain⟨i,rfl,hi,j0,j5⟩:=hrel;have jf:=ko.fresh j5;have k0:=Q2f.cell jf 0;have xa:=Q2f.cell jf 1;simp at k0 xa;have jl:=hid j5;have xu:=jf.lt;have kd:=hid jf;clear kl j5;by_cases ji:i<X.rules.length
 ·have j1:(i:Int)<(X.rules.length:Int):=by omega
  rw[y6w ji]at j0;have jq:=Q2f.rules jf;obtain⟨g,ke,hv⟩:=Joins.ownsRow_form jq.own (by omega);rw[qI]at hv;obtain⟨rfl,_,rfl⟩:=hv;have c3:=jq.cell i 3 ji (by omega);have c6:=jq.cell i 6 ji (by omega);have EX:=hid (EM.out X.rules[i] wr (by simp));generalize hxe:X.rules[i]=x at j0 c3 c6 EX;obtain⟨⟨xr,xk,xn,xp,j7,ye⟩,vs,vp,pl⟩:=x;simp[ZLV.cells]at c3 c6;have kx:=(jq.own.lt g rfl).2;dsimp only at j0 EX;clear hxe jf jq;cases hem:em xp
  ·rw[hem,qAa (by simp)]at j0;rw[hem]at EX;have jw:=hid j0;clear j0;go_wp2_with (first
    |(go_at_call 43;refine(EX.out).mono ?_;rintro e w5⟨rfl,jg⟩;have jv:=hid jg;clear jg))
   go_roundw
   case rel=>exact⟨i+1,by go_num,by omega,jw.out,jl.trans jv.out⟩
   simp[intOf];omega
  rw[hem,qAb rfl]at j0;rw[hem]at EX;have jw:=hid j0;clear j0;go_wp2_with (first
   |(go_at_call 43;refine(EX.out).mono ?_;rintro e w5⟨rfl,jg⟩;have jv:=hid jg;have kr:=kd.fresh jg;have m0:=Q2f.cell kr 0;simp at m0;have yn:w5.cell? ⟨g,i*7+6,none⟩=some (.int .i64 pl):=(fcellZ jg c6);clear jg kr))
  go_quiet (fail);go_wp2;refine qAc (qFg rfl _ _ _) rfl ⟨.pointer none,xs,fun _=>by rw[HR.out];exact jc.out,fun x hx=>((((HL.each x hx).fresh kc.out).fresh jl.out).fresh jv.out).fresh (Q3n _ _),?_,((HF.trans jl.out).trans jv.out).trans (Q3n _ _),?_⟩
  ·rw[HR.out,j8.out,← jw.out];rfl
  rw[HR.out,j8.out,← jw.out];intro q;cases q
 have j1:¬(i:Int)<(X.rules.length:Int):=by omega
 rw[qAp (by omega)]at j0;have js:EE=none:=j0.symm;subst js;have k3:Hid (Q6b em s xs (-1)=if X.prods.length=0 then(6,(s.size:Int)) else(0,0)):=j8.out;clear j0 jf j8 EM;by_cases jo:X.prods.length=0
 ·have j2:((X.prods.length:Int)==0)=true:=by simp[jo]
  have k4:Hid (Q6b em s xs (-1)=(6,(s.size:Int))):=by unfold Hid;rw[k3.out,qAb jo]
  clear jo k3;go_wp2;refine qAc (qFg rfl _ _ _) rfl ⟨.pointer none,xs,fun _=>by rw[HR.out];exact jc.out,fun x hx=>((HL.each x hx).fresh kc.out).fresh jl.out,?_,HF.trans jl.out,?_⟩
  ·rw[HR.out,k4.out];rfl
  rw[HR.out,k4.out];intro q;cases q
 have j2:((X.prods.length:Int)==0)=false:=by simpa using jo
 have k4:Hid (Q6b em s xs (-1)=(0,0)):=by unfold Hid;rw[k3.out,qAa jo]
 have xj:Hid (Q0a w1 wr):=kc.trans jl.out;clear jo k3;obtain⟨wo,ya⟩:∃wo,wo=wr:=⟨_,rfl⟩;subst ya;go_wp2_with fail
 go_loopw [10,11,12,13] (fun x10 _ _ _ wr=>∃(i:Nat) (v4:Value) (sv:List Value),x10=.int .i64 i/\i<=X.prods.length/\sv.length=i/\Q6v wr w1.heap.size X (.slice a0 X.rules.length xo) (.slice a1 X.prods.length xq) v2 v3 v4 sv/\Q0a w1 wr)
   (fun x _ _ _ _=>1001-(intOf x).toNat)
 case atStart=>exact⟨0,_,[],rfl,by omega,rfl,⟨kd.out,by simp,fun i v x q=>by simp at q⟩,xj.out⟩
 obtain⟨i,v4,sv,rfl,hi,x0,hS,j5⟩:=hrel;obtain⟨wp,yb⟩:∃wp,wp=wr:=⟨_,rfl⟩;subst yb;have xt:Hid (1001-(intOf (.int .i64 ((i:Int)+1))).toNat<1001-(intOf (.int .i64 (i:Int))).toNat):=by unfold Hid;simp[intOf];omega
 have jy:=hid x0;have HS:=hid hS;have xf:=hid j5;have x9:=Q2f.cell hS.sp 1;simp at x9;have xv:=hS.sp.lt;clear x0 kd k0 xa xu ko;by_cases ji:i<X.prods.length
 ·have j3:(i:Int)<(X.prods.length:Int):=by omega
  have k5:=Q2f.prods hS.sp;obtain⟨g,ke,hv⟩:=Joins.ownsRow_form k5.own (by omega);rw[qI]at hv;obtain⟨rfl,_,rfl⟩:=hv;have c4:=k5.cell i 4 ji (by omega);have kx:=(k5.own.lt g rfl).2;have jj:=jz.2 X.prods[i] (by simp);have k8:=(HL.each _ jj).fresh j5;have k9:=k2.out _ jj;have jh:X.prods[i]? = some X.prods[i]:=qE ji;generalize hxe:X.prods[i]=x at c4 k8 k9 jh;have kb:=hid jh;have xl:=hid k9;have jm:=hid k8;obtain⟨so,sc,ju⟩:=z0c k8.syms;obtain⟨⟨xr,xk,xn,xp,j7,ye⟩,vs,vp,pl⟩:=x;dsimp only at ju;subst ju;simp[ZLV.cells]at c4;have y0:=k9.small;dsimp only[ZLV.both]at y0;obtain⟨it,xx,y2,y3,y4⟩:=Q6z;obtain⟨iu,xy,y5,y6,y7⟩:=infoIs';clear hxe k5 jj k8 k9 jh hS j5;go_wp2_with fail
  go_loopw [11,12,13] (fun x11 x12 _ wr=>∃j:Nat,x12=.int .i64 j/\j<=j7.length/\wr.ownsRow wp.heap.size 3 1 x11 j (W0b ((j7.map (Q80 X)).take j))/\Q0a wp wr)
    (fun _ x _ _=>1001-(intOf x).toNat)
  case atStart=>exact⟨0,rfl,by omega,qAh _ _ _ _,mRf _ _⟩
  obtain⟨j,rfl,hj,j9,j5⟩:=hrel;have HO:=hid j9;have ka:=hid j5;have d1:=fcellZ j5 x9;have d4:=fcellZ j5 c4;obtain⟨ro,rc,xz⟩:=z0c j9;subst xz;have yk:w1.heap.size<wr.heap.size:=qDr xv j5.size;have ym:g<wr.heap.size:=qDr kx j5.size;clear j9;by_cases kz:j<j7.length
  ·have j4:(j:Int)<(j7.length:Int):=by omega
   obtain⟨gs,cs,ju⟩:=Joins.ownsRow_form jm.syms (by dsimp only;omega);rw[qI]at ju;obtain⟨rfl,_,rfl⟩:=ju;have yl:wr.cell? ⟨gs,j,none⟩=some (.string j7[j]):=by
    have:=(jm.fresh j5).syms.cells (g:=gs) rfl j (.string j7[j]) (by simp[kz]);rwa [qDd,qBy]at this
   have NX:=hid (y0u wr w1.heap.size X _ _ _ _ _ _ j7[j] (HS.sp.fresh j5) (xl.ne _ (by show j7[j]∈j7;simp)) (by omega) (by omega));have xw:gs<wr.heap.size:=by
    have:=((jm.fresh j5).syms.lt gs rfl).2;exact this
   have x2:(j7.map (Q80 X)).take (j+1)=(j7.map (Q80 X)).take j++[Q80 X j7[j]]:=by
    rw[qCu];simp[kz]
   have kn:=hid x2;clear x2 j5;generalize Q80 X j7[j]=nn at NX kn;go_wp2_with (first
    |(go_at_call 44;refine csm NX.out ?_)
    |(at_builtin;refine z0f _ rfl _ _ 24 rfl wp.heap.size 3 it _ 1 8 qDq xx y2 y3 y4 rfl (by decide) _ _ _ rfl (HO.alloc _) ⟨wr.heap.size,0,none⟩ 1 1 [.int .i64 nn] rfl rfl (z0m rfl) (by intro u hu;simp at hu;subst hu;rfl) (by unfold maxLen;omega) (by omega) (by have:=ka.size;simp;omega) ?_;intro v' w6 jd j6 ja;have kq:Q0a wp w6:=Mod.grown (S:=fun _=>False) (ka.alloc _) j6 (fun k hk ji=>by have:=(HO.lt k hk).1;omega);have xg:=hid jd;have xe:=hid kq;clear jd j6 ja kq))
   go_roundw
   case rel =>
    refine⟨j+1,by go_num,by omega,?_,xe.out⟩;rw[kn.out];have e1:=qBp (f:=Value.int .i64) (l₁:=(j7.map (Q80 X)).take j) (l₂:=[nn]);rw[qDb]at e1;show World.ownsRow _ _ _ _ _ _ (List.map _ _);rw[e1];exact xg.out
   simp[intOf];omega
  have j4:¬(j:Int)<(j7.length:Int):=by omega
  have ky:j=j7.length:=by omega
  have x3:wr.ownsRow wp.heap.size 3 1 (.slice ro j rc) j7.length (W0b (j7.map (Q80 X))):=by
   have:=HO.out;rw[qDg (by simp;omega)]at this;rw[← ky];exact this
  have xi:=hid x3;have jp:=HS.fresh j5;have km:=hid jp;obtain⟨b4,kp,jt⟩:=z0c (jp.sp.own 4 _ rfl);dsimp only at jt;subst jt;have q4:=Q2f.cell jp.sp 4;have f4:=Q2f.frozen jp.sp 4;simp at q4;have y1:sv.length<=100:=by rw[jy.out];omega
  clear ky x3 jp j5;go_wp2_with (first
   |(at_builtin;refine z0f _ rfl _ _ 109 rfl (w1.heap.size+1) 24 iu _ 1 24 Tryz.underlying109 xy y5 y6 y7 rfl (by decide) (.slice b4 sv.length kp) sv.length sv rfl ((km.sp.own 4 _ rfl).alloc _) ⟨wr.heap.size,0,none⟩ 1 1 [.slice ro j rc] rfl rfl (z0m rfl) (by intro u hu;simp at hu;subst hu;rfl) (by unfold maxLen;omega) (by omega) (by simp;omega) ?_;intro v9 w6 j9 j6 ja;obtain⟨a9,c9,y8⟩:=z0c j9;have kf:=km.sp.blk_grown ((mRf _ wr).alloc _) (i:=4) rfl j6;have k6:w6.cell? ⟨w1.heap.size,4,none⟩=some (.slice b4 sv.length kp):=Q0b kf 4;have k7:=Q0f kf 4;have kk:=hid (Q6v.add (HS.out) ka.out ((mRf _ wr).alloc _) (by rw[jy.out];exact kb.out) xi.out j9 j6 (by simpa using ja));clear j9 j6 ja kf;subst y8))
  go_roundw
  case rel=>exact⟨i+1,_,_,by go_num,by omega,by simp[jy.out],kk.1,y0m xf.out kk.2 (qR _)⟩
  exact xt.out
 have j3:¬(i:Int)<(X.prods.length:Int):=by omega
 have xc:Hid (sv.length=X.prods.length):=by unfold Hid;rw[jy.out];omega
 go_wp2;refine qAc (qFg rfl _ _ _) rfl ⟨.pointer (some ⟨w1.heap.size,0,none⟩),xs,fun _=>by rw[HR.out];exact jc.out,fun x hx=>(HL.each x hx).fresh j5,?_,?_,fun _=>⟨w1.heap.size,yc,rfl,?_⟩⟩
 ·rw[HR.out,k4.out];rfl
 ·exact xd.trans j5
 rw[xh.out];exact⟨_,_,_,_,_,_,HS.out,xc.out⟩
structure RelB(s:ByteArray)(lns:List Ln)(zs:List (ZLn × Int)):Prop where
 len:lns.length=zs.length
 at':∀(k:Nat) (x:Ln) (z:ZLn × Int),lns[k]? = some x->zs[k]? = some z->∃i:Nat,i<s.size/\ZRel s i x z.1/\z.2=i/\∀p∈z.1.places,0<=p/\p<=s.size
theorem RelB.nil(s:ByteArray):RelB s [] []:=⟨rfl,fun k x z h=>by simp at h⟩
theorem RelB.snoc{s:ByteArray}{lns:List Ln}{zs:List (ZLn × Int)}{x:Ln}{z:ZLn}{i:Nat}(h:RelB s lns zs)(hi:i<s.size)(hr:ZRel s i x z)(hp:∀p∈z.places,0<=p/\p<=s.size):RelB s (lns++[x]) (zs++[(z,(i:Int))]):=by
 refine⟨by simp[h.len],fun k y u h1 h2=>?_⟩;by_cases hk:k<lns.length
 ·rw[qAl hk]at h1;rw[qAl (by rw[← h.len];exact hk)]at h2;exact h.at' k y u h1 h2
 have j0:=(qS h1).1;simp at j0;have e:k=lns.length:=by omega
 subst e;rw[qAr (qR _)]at h1;rw[h.len,qAr (qR _)]at h2;simp at h1 h2;subst h1 h2;exact⟨i,hi,hr,rfl,hp⟩
theorem z6y(s:ByteArray):∀(f:Nat) (i:Int) (a:List ByteArray) (b:List Int) (l:List ByteArray × List Int),0<=i->(∀p∈b,0<=p/\p<=s.size)->Q5b s f i a b=some l->∀p∈l.2,0<=p/\p<=s.size
 |0,i,a,b,l,h0,hb,h=>by simp[Q5b]at h
 |f+1,i,a,b,l,h0,hb,h=>by
  rw[z6z]at h;split at h
  ·rename_i c1;split at h
   ·split at h
    ·cases h
    rename_i c3;refine z6y s f _ _ _ l (by omega) (fun p hp=>?_) h;rcases qBs.1 hp with hp|hp
    ·exact hb p hp
    simp at hp;subst hp;omega
   cases h
  injection h with h;subst h;exact hb
theorem y56{u:ByteArray}{z:ZLn}(h:Q40 u=some z):∀p∈z.places,0<=p/\p<=u.size:=by
 unfold Q40 at h;split at h
 ·split at h
  ·injection h with h;subst h;intro p hp;cases hp
  cases h
 split at h
 ·rename_i c;cases hz:Q5b u (u.size+5) (Q5v u 0+1) [] []with
  |none=>rw[hz]at h;cases h
  |some l =>
   rw[hz]at h;injection h with h;subst h;exact z6y u _ _ _ _ l (by omega) (fun p hp=>by cases hp) hz
 cases h
theorem v28{s:ByteArray}{a e:Nat}(hae:a<=e)(he:e<s.size)(h10:atB s (e:Nat)=10)(hc:Q1j s a e):nlF s a=e:=by
 obtain⟨n1,n2,n3,n4⟩:=z8i s (a:=a) (by omega);rcases qFx (nlF s a) e with q|q|q
 ·exfalso;rcases n3 with z|z
  ·omega
  have:=hc (nlF s a) (by omega) (by omega);omega
 ·exact q
 exact absurd h10 (n4 e hae q)
theorem forms(s:ByteArray):∀(f g a:Nat) (acc:List Ln) (accz:List (ZLn × Int)),a<=s.size->s.size+2<=f+a->s.size+1<=g+a->RelB s acc accz ->
  ((Q1l s f a acc).2.2=true->(Q32 s g a accz).2=-1/\RelB s (Q1l s f a acc).1 (Q32 s g a accz).1)/\((Q1l s f a acc).2.2=false->0<=(Q32 s g a accz).2)
 |0,g,a,acc,accz,h1,h2,h3,h4=>by omega
 |f+1,0,a,acc,accz,h1,h2,h3,h4=>by omega
 |f+1,g+1,a,acc,accz,h1,h2,h3,h4=>by
  unfold Q1l;rw[z6w];by_cases c:a<s.size
  ·have ci:((a:Nat):Int)<(s.size:Int):=by omega
   rw[qAb c,qAb ci];by_cases j0:(Q2w s a).2.2=true
   ·obtain⟨e,e1,e2,e3,e4,e5,z,e6,e7⟩:=x8p j0;have hn:=v28 (by omega) e1 e3 e5;rw[qAa (by rw[j0];simp),hn,e6,e4];dsimp only;rw[qAa (by omega)];have j1:=z08 (s:=s) (a:=a) (e:=e) (by omega);exact forms s f g (e+1) _ _ (by omega) (by omega) (by omega) (h4.snoc c e7 (fun p hp=>by have:=y56 e6 p hp;omega))
   rw[qAb (by simpa using j0)];refine⟨fun q=>(by cases q),fun _=>?_⟩;obtain⟨n1,n2,n3,n4⟩:=z8i s (a:=a) h1;cases hz:Q40 (s.extract a (nlF s a))with
   |none=>dsimp only;omega
   |some z =>
    dsimp only;by_cases hn:nlF s a=s.size
    ·rw[qAb hn];dsimp only;omega
    exfalso;refine j0 (x7x (e:=nlF s a) (by omega) n1 ?_ (by rw[hz];rfl));rcases n3 with q|q
    ·exact absurd q hn
    exact q
  have ci:¬((a:Nat):Int)<(s.size:Int):=by omega
  rw[qAa c,qAa ci];exact⟨fun _=>⟨rfl,h4⟩,fun q=>(by cases q)⟩
theorem z6g(s:ByteArray):((Q0c s).2.2=true->(Q4x s).2=-1/\RelB s (Q0c s).1 (Q4x s).1)/\((Q0c s).2.2=false->0<=(Q4x s).2) :=
 forms s (s.size+5) (s.size+1) 0 [] [] (by omega) (by omega) (by omega) (RelB.nil s)
theorem y14(s:ByteArray):∀(f a:Nat) (acc:List (ZLn × Int)),0<=(Q32 s f a acc).2->(Q32 s f a acc).1=[]
 |0,a,acc,h=>by simp[Q32]at h
 |f+1,a,acc,h=>by
  rw[z6w]at h ⊢;by_cases c:a<s.size
  ·rw[qAb c]at h ⊢;cases hz:Q40 (s.extract a (nlF s a))with
   |none=>rfl
   |some z =>
    rw[hz]at h;dsimp only at h ⊢;by_cases hn:nlF s a=s.size
    ·rw[qAb hn]
    rw[qAa hn]at h ⊢;exact y14 s f _ _ h
  rw[qAa c]at h;dsimp only at h;omega
theorem v13:∃em:ByteArray->ByteArray->Bool,∀p t,em p t=true↔(Q61 p 6 0).lang (Q36 t) :=
 ⟨fun p t=>@decide ((Q61 p 6 0).lang (Q36 t)) (Classical.propDecidable _),fun p t=>by simp⟩
theorem y8m{s:ByteArray}(hs:s.size<=800){em:ByteArray->ByteArray->Bool}(hem:∀p t,em p t=true↔(Q61 p 6 0).lang (Q36 t)):∀y∈(Q4x s).1,YOk (fun p=>em p ⟨#[]⟩) y:=by
 intro y hy;cases hk:(Q0c s).2.2
 ·have:=y14 s _ 0 [] ((z6g s).2 hk);have e:(Q4x s).1=[]:=this;rw[e]at hy;cases hy
 obtain⟨h1,h2⟩:=(z6g s).1 hk;obtain⟨k,j0,rfl⟩:=qBf hy;have hx:k<(Q0c s).1.length:=by rw[h2.len];exact j0
 obtain⟨i,i1,i2,i3,i4⟩:=h2.at' k _ _ (qE hx) (qE j0);have j1:=(z1k s).2 _ (qG hx);have j3:=j1.sb;have j2:=i2.syms.1;refine⟨fun n hn=>?_,?_,by omega,by omega,fun p hp=>by have:=i4 p hp;omega,fun hr=>?_⟩
 ·obtain⟨j,hj,rfl⟩:=qBf hn;obtain⟨a,m,q1,q2,q3⟩:=i2.syms.2 j _ _ (qE (by omega)) (qE hj);rw[q3,z08 q2];have:=q1.pos;omega
 ·rw[i2.places];simp[j2]
 obtain⟨L,q1,q2,q3⟩:=i2.pat hr;refine⟨L,q1,by omega,?_⟩;rw[hem,q1];rfl
theorem x8i{s:ByteArray}{a b m n:Nat}{d d':Wd}(h:WordAt s a m d)(h':WordAt s b n d')(ha:a+m<=s.size)(hb:b+n<=s.size):d.ls=d'.ls↔(s.extract a (a+m)).toList=(s.extract b (b+n)).toList:=by
 constructor
 ·exact y53 h h' ha hb
 intro e;have e2:(s.extract a (a+m)).data.toList=(s.extract b (b+n)).data.toList:=by rw[← btl,← btl];exact e
 have e3:s.extract a (a+m)=s.extract b (b+n):=by
  apply qFi;exact Array.toList_inj.1 e2
 have s1:=z08 (s:=s) (a:=a) (e:=a+m) ha;have s2:=z08 (s:=s) (a:=b) (e:=b+n) hb;have j0:m=n:=by rw[e3,s2]at s1;omega
 subst j0;rw[h.ls,h'.ls];apply qEs;intro k _;by_cases hk:k<m
 ·rw[qAb hk,qAb hk];have q1:=z0z (s:=s) (a:=a) (e:=a+m) ha (k:=(k:Int)) (by omega) (by omega);have q2:=z0z (s:=s) (a:=b) (e:=b+m) hb (k:=(k:Int)) (by omega) (by omega);rw[← q1,← q2,e3]
 rw[qAa hk,qAa hk]
structure Q4f(s:ByteArray)(lns:List Ln)(xs:List ZLV):Prop where
 len:lns.length=xs.length
 at':∀(k:Nat) (x:Ln) (z:ZLV),lns[k]? = some x->xs[k]? = some z->∃i:Nat,i<s.size/\ZRel s i x z.ln/\z.pl=i
theorem x3r{s:ByteArray}{lns:List Ln}{xs:List ZLV}(h:RelB s lns (xs.map ZLV.both)):Q4f s lns xs:=by
 refine⟨by have:=h.len;rw[qAv]at this;exact this,fun k x z h1 h2=>?_⟩;obtain⟨i,i1,i2,i3,_⟩:=h.at' k x z.both h1 (by rw[qBt,h2];rfl);exact⟨i,i1,i2,i3⟩
section
variable {s:ByteArray}{lns:List Ln}{xs:List ZLV}
theorem Q4f.get(h:Q4f s lns xs){k:Nat}(hk:k<xs.length):∃(x:Ln) (i:Nat),lns[k]? = some x/\i<s.size/\ZRel s i x xs[k].ln/\xs[k].pl=i/\x.front.place=i:=by
 have j0:k<lns.length:=by rw[h.len];exact hk
 obtain⟨i,i1,i2,i3⟩:=h.at' k _ _ (qE j0) (qE hk);exact⟨lns[k],i,qE j0,i1,i2,i3,i2.place⟩
def Q6w(s:ByteArray)(ls:List Int)(n:ByteArray):Prop:=∃(j m:Nat) (d:Wd),WordAt s j m d/\d.ls=ls/\j+m<=s.size/\n=s.extract j (j+m)
theorem ZRel.word{i:Nat}{x:Ln}{z:ZLn}(h:ZRel s i x z):Q6w s x.front.ls z.name:=by
 obtain⟨m,h1,h2,h3⟩:=h.name;exact⟨i,m,x.front,h1,rfl,h2,h3⟩
theorem ZRel.sword{i:Nat}{x:Ln}{z:ZLn}(h:ZRel s i x z){k:Nat}{d:Wd}{n:ByteArray}(h1:x.syms[k]? = some d)(h2:z.syms[k]? = some n):Q6w s d.ls n:=by
 obtain⟨j,m,q1,q2,q3⟩:=h.syms.2 k d n h1 h2;exact⟨j,m,d,q1,rfl,q2,q3⟩
theorem Q6w.eq_iff{ls ls':List Int}{n n':ByteArray}(h:Q6w s ls n)(h':Q6w s ls' n'):ls=ls'↔n.toList=n'.toList:=by
 obtain⟨j,m,d,q1,q2,q3,q4⟩:=h;obtain⟨j',m',d',j0,j1,j2,j3⟩:=h';rw[← q2,← j1,q4,j3];exact x8i q1 j0 q3 j2
theorem Q6w.cap{ls:List Int}{n:ByteArray}(h:Q6w s ls n):Q1a (ls.getD 0 0)=Q1a (atB n 0):=by
 obtain⟨j,m,d,q1,q2,q3,q4⟩:=h;have hp:=q1.pos;rw[q4,← q2,q1.ls];have:((List.range 8).map (fun k:Nat=>if k<m then atB s ((j:Int)+k) else 0)).getD 0 0=atB s j:=by
  simp[List.range,List.range.loop,show 0<m by omega]
 rw[this,z0z q3 (by omega) (by omega),qDs]
theorem z98(x:Ln):Q0x x=!Q1a (x.front.ls.getD 0 0):=rfl
theorem z79{ls:List Int}{i:Nat}(hi:i<=lns.length):Q2i lns ls<i↔∃(j:Nat) (x:Ln),j<i/\lns[j]? = some x/\x.front.ls=ls:=by
 unfold Q2i;constructor
 ·intro h;have hl:lns.findIdx (fun x=>x.front.ls==ls)<lns.length:=by omega
  have hg:=qDz (w:=hl);exact⟨_,_,h,qE hl,by simpa using hg⟩
 rintro⟨j,x,h1,h2,h3⟩;obtain⟨hj,hx⟩:=qS h2;by_cases q:lns.findIdx (fun x=>x.front.ls==ls)<=j
 ·omega
 exfalso;have nf:=List.not_of_lt_findIdx (xs:=lns) (p:=fun x=>x.front.ls==ls) (i:=j) (by omega);rw[hx]at nf;simp[h3]at nf
theorem z88{l:List ByteArray}{t:ByteArray}:0<=Q1y l t↔∃y∈l,y.toList=t.toList :=
 ⟨fun h=>z6f (by omega),y8k⟩
end
structure SI(lns:List Ln)(xs:List ZLV)(i:Nat)(X:SP):Prop where
 rules:X.rules.length=Q23 lns i
 prods:X.prods.length=Q22 lns i
 heads:X.heads.length=Q3h lns i
 mem:∀t:ByteArray,(∃y∈X.heads,y.toList=t.toList)↔∃(j:Nat) (z:ZLV),j<i/\xs[j]? = some z/\z.ln.rule=false/\z.ln.name.toList=t.toList
 rl:X.rules=(xs.take i).filter (fun z=>z.ln.rule)
 pr:X.prods=(xs.take i).filter (fun z=>!z.ln.rule)
section
variable {s:ByteArray}{lns:List Ln}{xs:List ZLV}
theorem y98(h:Q4f s lns xs){i:Nat}(hi:i<xs.length)(hr:xs[i].ln.rule=false):Q3b lns i=true↔∃(j:Nat) (z:ZLV),j<i/\xs[j]? = some z/\z.ln.rule=false/\z.ln.name.toList=xs[i].ln.name.toList:=by
 obtain⟨x,p,g1,g2,g3,g4,g5⟩:=h.get hi;have hl:=h.len;unfold Q3b;rw[g1];dsimp only;rw[qAu,z79 (by omega)];constructor
 ·rintro⟨j,y,h1,h2,h3⟩;obtain⟨y',q,k1,k2,k3,k4,k5⟩:=h.get (k:=j) (by omega);rw[h2]at k1;injection k1 with k1;subst k1;refine⟨j,xs[j],h1,qE (by omega),?_,(k3.word.eq_iff g3.word).1 h3⟩;have e1:=k3.rule;have e2:=g3.rule;rw[hr]at e2;rw[e1,z98,h3,← z98,← e2]
 rintro⟨j,z,h1,h2,h3,h4⟩;obtain⟨hj,hz⟩:=qS h2;obtain⟨y',q,k1,k2,k3,k4,k5⟩:=h.get hj;rw[hz]at k3;exact⟨j,y',h1,k1,(k3.word.eq_iff g3.word).2 h4⟩
theorem y0z(h:Q4f s lns xs){i:Nat}(hi:i<xs.length)(hr:xs[i].ln.rule=true):Q3b lns i=true↔∃(j:Nat) (z:ZLV),j<i/\xs[j]? = some z/\z.ln.rule=true/\z.ln.name.toList=xs[i].ln.name.toList:=by
 obtain⟨x,p,g1,g2,g3,g4,g5⟩:=h.get hi;have hl:=h.len;unfold Q3b;rw[g1];dsimp only;rw[qAu,z79 (by omega)];constructor
 ·rintro⟨j,y,h1,h2,h3⟩;obtain⟨y',q,k1,k2,k3,k4,k5⟩:=h.get (k:=j) (by omega);rw[h2]at k1;injection k1 with k1;subst k1;refine⟨j,xs[j],h1,qE (by omega),?_,(k3.word.eq_iff g3.word).1 h3⟩;have e1:=k3.rule;have e2:=g3.rule;rw[hr]at e2;rw[e1,z98,h3,← z98,← e2]
 rintro⟨j,z,h1,h2,h3,h4⟩;obtain⟨hj,hz⟩:=qS h2;obtain⟨y',q,k1,k2,k3,k4,k5⟩:=h.get hj;rw[hz]at k3;exact⟨j,y',h1,k1,(k3.word.eq_iff g3.word).2 h4⟩
theorem v1m(h:Q4f s lns xs){i:Nat}{X:SP}(hi:i<xs.length)(hS:SI lns xs i X):SI lns xs (i+1) (Q01 X xs[i]):=by
 obtain⟨x,p,g1,g2,g3,g4,g5⟩:=h.get hi;have j1:i<lns.length:=by rw[h.len];exact hi
 have hx:lns[i]=x:=by rw[qE j1]at g1;injection g1
 have c1:=z4j lns i j1;have c2:=z4i lns i j1;have c3:=z3i lns i j1;rw[hx,← g3.rule]at c1 c2 c3;have j2:xs.take (i+1)=xs.take i++[xs[i]]:=by rw[qCu,qE hi];rfl
 have j0:∀(t:ByteArray) (j:Nat) (z:ZLV),(j<i+1/\xs[j]? = some z/\z.ln.rule=false/\z.ln.name.toList=t.toList)↔((j<i/\xs[j]? = some z/\z.ln.rule=false/\z.ln.name.toList=t.toList)∨(j=i/\z=xs[i]/\z.ln.rule=false/\z.ln.name.toList=t.toList)):=by
  intro t j z;constructor
  ·rintro⟨q1,q2,q3⟩;by_cases e:j=i
   ·subst e;rw[qE hi]at q2;injection q2 with q2;exact .inr ⟨rfl,q2.symm,q3⟩
   exact .inl ⟨by omega,q2,q3⟩
  rintro(⟨q1,q2⟩|⟨rfl,rfl,q3⟩)
  ·exact⟨by omega,q2⟩
  exact⟨by omega,qE hi,q3⟩
 cases hr:xs[i].ln.rule
 ·have j3:Q01 X xs[i]={X with prods:=X.prods++[xs[i]],heads:=if Q1y X.heads xs[i].ln.name<0 then X.heads++[xs[i].ln.name] else X.heads,head:=X.head++[if Q1y X.heads xs[i].ln.name<0 then(X.heads.length:Int) else Q1y X.heads xs[i].ln.name]}:=by
   unfold Q01;rw[qAa (by rw[hr];simp)]
  rw[j3];rw[hr]at c1 c2 c3;have j4:Q3b lns i=true↔0<=Q1y X.heads xs[i].ln.name:=by
   rw[y98 h hi hr,z88,hS.mem]
  refine⟨?_,?_,?_,?_,?_,?_⟩
  ·rw[c1];simpa using hS.rules
  ·rw[c2];show(X.prods++[xs[i]]).length=_;rw[qP,hS.prods];rfl
  ·dsimp only;rw[c3,← hS.heads];by_cases q:Q1y X.heads xs[i].ln.name<0
   ·have:Q3b lns i=false:=by
     cases z:Q3b lns i
     ·rfl
     exact absurd (j4.1 z) (by omega)
    rw[qAb q,this];simp
   rw[qAa q,j4.2 (by omega)];simp
  ·intro t;dsimp only;have j5:(∃(j:Nat) (z:ZLV),j<i+1/\xs[j]? = some z/\z.ln.rule=false/\z.ln.name.toList=t.toList)↔((∃y∈X.heads,y.toList=t.toList)∨xs[i].ln.name.toList=t.toList):=by
    rw[hS.mem t];constructor
    ·rintro⟨j,z,q⟩;rcases(j0 t j z).1 q with q|⟨_,rfl,_,q⟩
     ·exact .inl ⟨j,z,q⟩
     exact .inr q
    rintro(⟨j,z,q⟩|q)
    ·exact⟨j,z,(j0 t j z).2 (.inl q)⟩
    exact⟨i,xs[i],(j0 t i _).2 (.inr ⟨rfl,rfl,hr,q⟩)⟩
   rw[j5];by_cases q:Q1y X.heads xs[i].ln.name<0
   ·rw[qAb q];constructor
    ·rintro⟨y,hy,e⟩;rcases qBs.1 hy with hy|hy
     ·exact .inl ⟨y,hy,e⟩
     simp at hy;subst hy;exact .inr e
    rintro(⟨y,hy,e⟩|e)
    ·exact⟨y,by simp[hy],e⟩
    exact⟨_,by simp,e⟩
   rw[qAa q];constructor
   ·exact fun z=>.inl z
   rintro(z|e)
   ·exact z
   obtain⟨y,hy,e2⟩:=z6f q;exact⟨y,hy,e2.trans e⟩
  ·rw[j2,qBx,← hS.rl];simp[qAq,hr]
  rw[j2,qBx,← hS.pr];simp[qAq,hr]
 have j3:Q01 X xs[i]={X with rules:=X.rules++[xs[i]]}:=by
  unfold Q01;rw[qAb hr]
 rw[j3];rw[hr]at c1 c2 c3;refine⟨?_,?_,?_,?_,?_,?_⟩
 ·rw[c1];show(X.rules++[xs[i]]).length=_;rw[qP,hS.rules];rfl
 ·rw[c2];simpa using hS.prods
 ·rw[c3];simpa using hS.heads
 ·intro t;dsimp only;rw[hS.mem t];constructor
  ·rintro⟨j,z,q⟩;exact⟨j,z,(j0 t j z).2 (.inl q)⟩
  rintro⟨j,z,q⟩;rcases(j0 t j z).1 q with q|⟨_,rfl,q,_⟩
  ·exact⟨j,z,q⟩
  rw[hr]at q;cases q
 ·rw[j2,qBx,← hS.rl];simp[qAq,hr]
 rw[j2,qBx,← hS.pr];simp[qAq,hr]
theorem y83(h:Q4f s lns xs):∀(f i:Nat) (X:SP),i<=xs.length->xs.length+1<=f+i->SI lns xs i X ->
  (Q1b X (xs.drop i)).2=Q4p lns f i/\((Q1b X (xs.drop i)).2=-1->SI lns xs xs.length (Q1b X (xs.drop i)).1)
 |0,i,X,hi,hf,hS=>by omega
 |f+1,i,X,hi,hf,hS=>by
  unfold Q4p;by_cases hlt:i<xs.length
  ·obtain⟨x,p,g1,g2,g3,g4,g5⟩:=h.get hlt;have j0:=v1m h hlt hS;rw[g1,qC hlt];dsimp only;have j2:Q8f (Q01 X xs[i]) xs[i]=Q7z lns i x:=by
    unfold Q8f Q7z;rw[j0.rules,j0.prods,j0.heads,g3.syms.1]
   unfold Q1b;rw[j2];cases ho:Q7z lns i x
   ·rw[qAa (by simp),qAa (by simp)];exact y83 h f (i+1) _ (by omega) (by omega) j0
   rw[qAb rfl,qAb rfl];refine⟨by rw[g4,g5],fun q=>?_⟩;dsimp only at q;omega
  have j1:i=xs.length:=by omega
  rw[qN (by rw[h.len];omega),qAp (by omega)];exact⟨rfl,fun _=>by rw[← j1];exact hS⟩
theorem v1n:SI lns xs 0 Q2m:=by
 refine⟨rfl,rfl,rfl,fun t=>?_,by simp[Q2m],by simp[Q2m]⟩;constructor
 ·rintro⟨y,hy,_⟩;simp[Q2m]at hy
 rintro⟨j,z,q,_⟩;omega
theorem x3x(h:Q4f s lns xs):(Q1b Q2m xs).2=Q3v lns/\((Q1b Q2m xs).2=-1->SI lns xs xs.length (Q1b Q2m xs).1):=by
 have:=y83 h (lns.length+1) 0 Q2m (by omega) (by rw[h.len];omega) v1n;exact this
end
end Go.Proofs.YtbdpfmalabgmbaaGreat
