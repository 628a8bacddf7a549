import Derived.Test.YtbdpfmalabgmbaaGreatRh4
import Derived.Deep.LoopGhost
namespace Go.Proofs.YtbdpfmalabgmbaaGreat
open Go.RowKit
set_option maxRecDepth 99999
set_option maxHeartbeats 0
set_option linter.all false
def Q9i(rs:List ZLV)(s:ByteArray):Nat->Nat->Int
 |0,_=>-1
 |f+1,i=>match rs[i]? with
  |none=>-1
  |some x=>if(x.ln.name.toList==s.toList)=true then(if x.ln.skip=true then -1 else(i:Int)) else Q9i rs s f (i+1)
def Q80(X:SP)(s:ByteArray):Int :=
 if Q1a (atB s 0)=true then(if Q1y X.heads s<0 then -1 else(X.rules.length:Int)+1+Q1y X.heads s)
 else Q9i X.rules s (X.rules.length+1) 0
theorem y7g(rs:List ZLV)(s:ByteArray)(f i:Nat):Q9i rs s (f+1) i=match rs[i]? with
  |none=>-1
  |some x=>if(x.ln.name.toList==s.toList)=true then(if x.ln.skip=true then -1 else(i:Int)) else Q9i rs s f (i+1):=rfl
theorem Q2f.rules{w:World}{b:Nat}{X:SP}{v0 v1 v2 v3 v4:Value}{sv:List Value}(h:Q2f w b X v0 v1 v2 v3 v4 sv):Q18 ZLV.cells 7 113 w v0 X.rules:=⟨z0g (h.own 0 _ rfl) (qBq _),fun x _=>rfl⟩
theorem Q2f.prods{w:World}{b:Nat}{X:SP}{v0 v1 v2 v3 v4:Value}{sv:List Value}(h:Q2f w b X v0 v1 v2 v3 v4 sv):Q18 ZLV.cells 7 113 w v1 X.prods:=⟨z0g (h.own 1 _ rfl) (qBq _),fun x _=>rfl⟩
theorem y6b(l:List ByteArray)(s:ByteArray):-1<=Q1y l s/\Q1y l s<=l.length:=by unfold Q1y;split<;>omega
theorem y0u(w:World)(b:Nat)(X:SP)(v0 v1 v2 v3 v4:Value)(sv:List Value)(s:ByteArray)(h:Q2f w b X v0 v1 v2 v3 v4 sv)(hs:0<s.size)(hr:X.rules.length<=1000)(hh:X.heads.length<=1000) :
  Calls Tryz.prog 44 #[.pointer (some ⟨b,0,none⟩),.string s] w fun e w'=>e=.returned (.int .i64 (Q80 X s))/\w'=w:=by
 have hb:=z1u hs;have jd:s[0].toNat<256:=s[0].toNat_lt;have ZG:=hid (fun w=>z7m (s[0].toNat:Int) w);have FI:=hid (fun w=>z60 X.heads s v2 w);have k0:=Q2f.cell h 0;have k2:=Q2f.cell h 2;simp at k0 k2;have j4:=z7i (h.own 2 _ rfl);have FX:=hid (z60 X.heads s v2 w j4 hh);have fb:=y6b X.heads s;unfold Q80;have j3:atB s 0=(s[0].toNat:Int):=hb;rw[j3];generalize Q1a (s[0].toNat:Int)=cp at ZG ⊢;have j8:(0:Int)<(s.size:Int):=by omega
 obtain⟨a0,j9,j5⟩:=z0c (h.own 0 _ rfl);obtain⟨a2,ja,j6⟩:=z0c (h.own 2 _ rfl);have j1:=hid h.rules;dsimp only at j5 j6;subst j5 j6;clear hb j3 h j4 FI;cases cp
 ·rw[qAa (by simp)];generalize hV:Q9i X.rules s (X.rules.length+1) 0=V;have HV:=hid hV;clear hV FX fb;go_enter Tryz.func44,Tryz.ntmps44
  go_wp2_with (first
   |(go_at_call 74;refine csm (ZG.out _) ?_))
  go_loopw [6] (fun x6 wr=>∃(i f:Nat),x6=.int .i64 i/\wr=w/\i<=X.rules.length/\X.rules.length+1<=f+i/\Q9i X.rules s f i=V)
    (fun x _=>1001-(intOf x).toNat)
  case atStart=>exact⟨0,X.rules.length+1,rfl,rfl,by omega,by omega,HV.out⟩
  obtain⟨i,f,rfl,rfl,hi,hf,j0⟩:=hrel;obtain⟨f,rfl⟩:∃g,f=g+1:=⟨f-1,by omega⟩;rw[y7g]at j0;clear HV;by_cases j2:i<X.rules.length
  ·have k1:(i:Int)<(X.rules.length:Int):=by omega
   rw[qE j2]at j0;obtain⟨g,j7,hv⟩:=Joins.ownsRow_form j1.own (by omega);rw[qI]at hv;obtain⟨rfl,_,rfl⟩:=hv;have c1:=j1.cell i 1 j2 (by omega);have c2:=j1.cell i 2 j2 (by omega);generalize X.rules[i]=x at j0 c1 c2;obtain⟨⟨xr,xk,xn,xp,jf,je⟩,vs,vp,pl⟩:=x;simp[ZLV.cells]at c1 c2;dsimp only at j0;cases h1:(xn.toList==s.toList)
   ·rw[h1,qAa (by simp)]at j0;have HR:=hid j0;clear j0;go_wp2;go_roundw
    case rel=>exact⟨i+1,f,by go_num,by first|rfl|trivial,by omega,by omega,HR.out⟩
    simp[intOf];omega
   rw[h1,qAb rfl]at j0;cases xk
   ·rw[qAa (by simp)]at j0;have HR:=hid j0;clear j0;go_wp2;go_ret;exact⟨by rw[← HR.out];rfl,rfl⟩
   rw[qAb rfl]at j0;have HR:=hid j0;clear j0;go_wp2;go_ret;exact⟨by rw[← HR.out];rfl,rfl⟩
  have k1:¬(i:Int)<(X.rules.length:Int):=by omega
  rw[qN (by omega)]at j0;have HR:=hid j0;clear j0;go_wp2;go_ret;exact⟨by rw[← HR.out];rfl,rfl⟩
 rw[qAb rfl];generalize Q1y X.heads s=fd at FX fb ⊢;obtain⟨jb,jc⟩:=fb;by_cases hf:fd<0
 ·rw[qAb hf];go_enter Tryz.func44,Tryz.ntmps44
  go_wp2_with (first
   |(go_at_call 74;refine csm (ZG.out _) ?_)
   |(go_at_call 73;refine csm FX.out ?_))
  go_ret;exact⟨rfl,rfl⟩
 rw[qAa hf];go_enter Tryz.func44,Tryz.ntmps44
 go_wp2_with (first
  |(go_at_call 74;refine csm (ZG.out _) ?_)
  |(go_at_call 73;refine csm FX.out ?_))
 go_ret;exact⟨rfl,rfl⟩
def Q7q(X:SP)(x:ZLV):Nat->Nat->Option Int
 |0,_=>none
 |f+1,j=>match x.ln.syms[j]? with
  |none=>none
  |some n=>if Q80 X n<0 then some (x.pl+x.ln.places.getD j 0) else Q7q X x f (j+1)
theorem y3g(X:SP)(x:ZLV)(f j:Nat):Q7q X x (f+1) j=match x.ln.syms[j]? with
  |none=>none
  |some n=>if Q80 X n<0 then some (x.pl+x.ln.places.getD j 0) else Q7q X x f (j+1):=rfl
def Q3k(X:SP):List ZLV->List ByteArray->Int
 | [],_=>-1
 |x::l,ahead =>
  if x.ln.rule=true/\0<=Q1y ahead x.ln.name then x.pl
  else match Q7q X x (x.ln.syms.length+1) 0 with
   |some p=>p
   |none=>Q3k X l (if x.ln.rule=true then ahead++[x.ln.name] else ahead)
structure ZOk(x:ZLV):Prop where
 ne:∀n∈x.ln.syms,0<n.size
 len:x.ln.places.length=x.ln.syms.length
 small:x.ln.syms.length<=1000
 pl:0<=x.pl/\x.pl<=1000
 pls:∀p∈x.ln.places,0<=p/\p<=1000
theorem x1n(w:World)(b B0:Nat)(X:SP)(v0 v1 v2 v3 v4 v:Value)(sv:List Value)(xs:List ZLV)(h:Q2f w b X v0 v1 v2 v3 v4 sv)(hL:Q44 B0 w v xs)(hr:X.rules.length<=1000)(hh:X.heads.length<=1000)(hn:xs.length<=1000)(hok:∀x∈xs,ZOk x) :
  Calls Tryz.prog 42 #[.pointer (some ⟨b,0,none⟩),v] w fun e w'=>e=.returned (.int .i64 (Q3k X xs []))/\Q0a w w':=by
 obtain⟨i0,k7,ke,kf,kg⟩:=Q8x;have NU:=hid (fun(w':World) (hf:Q0a w w') (s:ByteArray) (hs:0<s.size)=>y0u w' b X v0 v1 v2 v3 v4 sv s (h.fresh hf) hs hr hh);have HL:=hid (fun w' (hf:Q0a w w')=>hL.kept hf (fun _ _ x=>x));have jz:=hid hok;obtain⟨ao,cap,hv⟩:=z0c hL.own;subst hv;generalize hR:Q3k X xs []=R;have HR:=hid hR;clear hL hR h hok;go_enter Tryz.func42,Tryz.ntmps42
 go_wp2;go_loopw [5,6] (fun x5 x6 wr=>∃(i:Nat) (ah:List ByteArray),x6=.int .i64 i/\i<=xs.length/\ah.length<=i/\Q3k X (xs.drop i) ah=R/\wr.ownsRow w.heap.size 9 1 x5 ah.length (Q98 ah)/\Q0a w wr)
   (fun _ x _=>1001-(intOf x).toNat)
 case atStart=>exact⟨0,[],rfl,by omega,by simp,HR.out,qAh _ _ _ _,mRf _ _⟩
 obtain⟨i,ah,rfl,hi,kk,j0,j6,jh⟩:=hrel;clear HR;have jg:=hid (HL.out wr jh);have HF:=hid jh;have HO:=hid j6;have k3:Hid (1001-(intOf (.int .i64 ((i:Int)+1))).toNat<1001-(intOf (.int .i64 (i:Int))).toNat):=by unfold Hid;simp[intOf];omega
 obtain⟨aa,ca,kc⟩:=z0c j6;subst kc;by_cases jn:i<xs.length
 ·have k8:(i:Int)<(xs.length:Int):=by omega
  obtain⟨g,k0,hv⟩:=Joins.ownsRow_form jg.own (by omega);rw[qI]at hv;obtain⟨rfl,_,rfl⟩:=hv;rw[qC jn,Q3k]at j0;have ji:=jg.each xs[i] (by simp);have jo:=jz.out xs[i] (by simp);have jj:=hid (fun(W:World) (hW:Q0a w W)=>(HL.out W hW).each xs[i] (by simp));have j9:=fun(W:World) (hW:Q0a w W) j hj=>(HL.out W hW).row.cell i j jn hj;generalize hx:xs[i]=x at j0 ji j9 jo jj;obtain⟨⟨xr,xk,xn,xp,j2,j3⟩,vs,vp,pl⟩:=x;obtain⟨so,sc,je⟩:=z0c ji.syms;obtain⟨po,pc,jd⟩:=z0c ji.places;dsimp only at je jd;subst je jd;have HC:Hid (∀W,Q0a w W->W.cell? ⟨g,i*7,none⟩=some (.bool xr)/\W.cell? ⟨g,i*7+2,none⟩=some (.string xn)/\W.cell? ⟨g,i*7+4,none⟩=some (.slice so j2.length sc)/\W.cell? ⟨g,i*7+5,none⟩=some (.slice po j3.length pc)/\W.cell? ⟨g,i*7+6,none⟩=some (.int .i64 pl)):=fun W hW=>by
   exact⟨j9 W hW 0 (by omega),j9 W hW 2 (by omega),j9 W hW 4 (by omega),j9 W hW 5 (by omega),j9 W hW 6 (by omega)⟩
  obtain⟨c0,c2,c4,c5,c6⟩:=HC.out wr jh;have FI:=hid (z60 ah xn _ wr (z7i j6) (by omega));have fb:=y6b ah xn;dsimp only at j0;have j4:=hid j0;have HZ:=hid jo;have k6:=(jg.own.lt g rfl).2;clear j0 ji j9 hx jh j6 jo;go_upto_if 20 with fail
  go_cut [5,7] (fun x5 _ wx=>∃j7,j7.length<=i+1/\(¬(xr=true/\0<=Q1y ah xn))/\j7=(if xr=true then ah++[xn] else ah)/\wx.ownsRow w.heap.size 9 1 x5 j7.length (Q98 j7)/\Q0a w wx)
  case first =>
   cases xr
   ·go_wp2_with fail
    go_meet;exact⟨ah,by omega,by simp,rfl,HO.out,HF.out⟩
   generalize hfd:Q1y ah xn=fd at FI fb j4;have jy:=hid hfd;clear hfd;obtain⟨ki,kj⟩:=fb;by_cases hf:0<=fd
   ·have jc:Hid (pl=R):=by
     have:=j4.out;rw[qAb ⟨rfl,hf⟩]at this;exact this
    clear j4;go_wp2_with (first
     |(go_at_call 73;refine csm FI.out ?_))
    go_ret;exact⟨by rw[← jc.out];rfl,HF.out⟩
   have k5:fd=-1:=by omega
   subst k5;go_wp2_with (first
    |(go_at_call 73;refine csm FI.out ?_)
    |(at_builtin;refine z0f _ rfl _ _ 108 rfl w.heap.size 9 i0 _ 1 16 Tryz.underlying108 k7 ke kf kg rfl (by decide) _ _ _ rfl (HO.alloc _) ⟨wr.heap.size,0,none⟩ 1 1 [.string xn] rfl rfl (z0m rfl) (by intro u hu;simp at hu;subst hu;rfl) (by unfold maxLen;omega) (by omega) (by have:=HF.size;simp;omega) ?_;intro v' w2 j1 j8 jm;have jq:Q0a w w2:=Mod.grown (S:=fun _=>False) (HF.alloc _) j8 (fun k hk jn=>by have:=(HO.lt k hk).1;omega);have jk:=hid j1;have jb:=hid jq;clear j1 j8 jm jq))
   go_meet;refine⟨ah++[xn],by simp;omega,by rw[jy.out];simp,by simp,?_,jb.out⟩;rw[qP,qAj];have e1:=qBp (f:=Value.string) (l₁:=ah) (l₂:=[xn]);rw[qDb]at e1;show World.ownsRow _ _ _ _ _ _ (List.map _ _);rw[e1];exact jk.out
  obtain⟨j7,jl,jx,jr,j1,j5⟩:=hcut;have jc:Hid ((match Q7q X ⟨⟨xr,xk,xn,xp,j2,j3⟩,.slice so j2.length sc,.slice po j3.length pc,pl⟩ (j2.length+1) 0 with|some p=>p|none=>Q3k X (xs.drop (i+1)) j7)=R):=by
   have:=j4.out;rw[qAa jx,← jr]at this;exact this
  have jk:=hid j1;have jb:=hid j5;obtain⟨ab,cb,kd⟩:=z0c j1;obtain⟨d0,d2,d4,d5,d6⟩:=HC.out wc j5;have km:g<wc.heap.size:=((HL.out wc j5).own.lt g rfl).2;have jf:=hid (jj.out wc j5);clear j4 c0 c2 c4 c5 c6 FI fb jx jr j1 j5 HO HF jg k6 HC jj;subst kd;generalize hSZ:Q7q X ⟨⟨xr,xk,xn,xp,j2,j3⟩,.slice so j2.length sc,.slice po j3.length pc,pl⟩ (j2.length+1) 0=SZ at jc;have jp:=hid hSZ;clear hSZ;go_wp2_with fail
  go_loopw [8] (fun x8 wr=>∃(j f:Nat),x8=.int .i64 j/\wr=wc/\j<=j2.length/\j2.length+1<=f+j/\Q7q X ⟨⟨xr,xk,xn,xp,j2,j3⟩,.slice so j2.length sc,.slice po j3.length pc,pl⟩ f j=SZ)
    (fun x _=>1001-(intOf x).toNat)
  case atStart=>exact⟨0,j2.length+1,rfl,by first|rfl|trivial,by omega,by omega,jp.out⟩
  obtain⟨j,f,rfl,rfl,hj,hf,j0⟩:=hrel;obtain⟨f,rfl⟩:∃k,f=k+1:=⟨f-1,by omega⟩;rw[y3g]at j0;clear jp;dsimp only at j0;have kh:=HZ.small;dsimp only at kh;by_cases jt:j<j2.length
  ·have k1:(j:Int)<(j2.length:Int):=by omega
   rw[qE jt]at j0;dsimp only at j0;obtain⟨gs,cs,je⟩:=Joins.ownsRow_form jf.syms (by dsimp only;omega);rw[qI]at je;obtain⟨rfl,_,rfl⟩:=je;have kl:wr.cell? ⟨gs,j,none⟩=some (.string j2[j]):=by
    have:=jf.syms.cells (g:=gs) rfl j (.string j2[j]) (by simp[jt]);rwa [qDd,qBy]at this
   have kb:=HZ.ne j2[j] (by simp);have NX:=hid (NU.out wr jb.out j2[j] kb);generalize Q80 X j2[j]=nn at NX j0;by_cases jw:nn<0
   ·rw[qAb jw]at j0;have jv:=HZ.len;dsimp only at jv;have ju:j<j3.length:=by omega
    have k2:(j:Int)<(j3.length:Int):=by omega
    obtain⟨gp,cp,jd⟩:=Joins.ownsRow_form jf.places (by dsimp only;omega);rw[qI]at jd;obtain⟨rfl,_,rfl⟩:=jd;have k4:wr.cell? ⟨gp,j,none⟩=some (.int .i64 j3[j]):=by
     have:=jf.places.cells (g:=gp) rfl j (.int .i64 j3[j]) (by simp[ju]);rwa [qDd,qBy]at this
    have k9:=HZ.pl;have ka:=HZ.pls j3[j] (by simp);dsimp only at k9;have js:j3.getD j 0=j3[j]:=by simp[ju]
    rw[js]at j0;clear js jv;have ja:Hid (pl+j3[j]=R):=by
     have:=jc.out;rw[← j0]at this;exact this
    clear j0;generalize j3[j]=q at k4 ka ja;go_wp2_with (first
     |(go_at_call 44;refine csm NX.out ?_))
    go_quiet (fail);go_wp2;go_ret;refine⟨?_,jb.trans (Q3n _ _)⟩;rw[← ja.out];rfl
   rw[qAa jw]at j0;have ja:=hid j0;clear j0;go_wp2_with (first
    |(go_at_call 44;refine csm NX.out ?_))
   go_roundw
   case rel=>exact⟨j+1,f,by go_num,by first|rfl|trivial,by omega,by omega,ja.out⟩
   simp[intOf];omega
  have k1:¬(j:Int)<(j2.length:Int):=by omega
  rw[qN (by omega)]at j0;have ja:Hid (Q3k X (xs.drop (i+1)) j7=R):=by
   have:=jc.out;rw[← j0]at this;exact this
  clear j0;go_wp2;go_roundw
  case rel=>exact⟨i+1,j7,by go_num,by omega,jl,ja.out,jk.out,jb.out⟩
  exact k3.out
 have k8:¬(i:Int)<(xs.length:Int):=by omega
 rw[qAp (by omega),Q3k]at j0;have j4:=hid j0;clear j0;go_wp2;go_ret;exact⟨by rw[← j4.out];rfl,HF.out⟩
abbrev Pc(s:ByteArray):Int->LR:=Q1u (Q3m (lgK s 6) s) s
abbrev Am(s:ByteArray):Int->LR:=Q3m (lgK s 6) s
def Q8u(p:ByteArray)(L:Q03):Prop:=Q61 p 6 0=⟨p.size,true,L⟩
def PceIs(p:ByteArray)(L:Q03):Prop:=Pc p 0=⟨p.size,true,L⟩
def Q86(p:ByteArray)(L:Q03):Prop:=Am p 0=⟨p.size,true,L⟩
theorem y9z(p:ByteArray)(hp:p.size<=80000):AtmC p 0 (Q3w (zgK p 6) p):=y0t p 6 0 hp (by omega) (fun k' e=>y3t p hp k' 1 (by omega))
theorem y95(p:ByteArray)(hp:p.size<=80000):PceC p 0 (Q4i (Q3w (zgK p 6) p) p):=z7n p 6 0 hp (y9z p hp)
theorem x3q(s:ByteArray):Q3z s (Pc s):=z6l s 6
theorem v2f(s:ByteArray):Q3z s (Am s):=z2y s 6
theorem x3w(s s':ByteArray):Loc s s' (Pc s) (Pc s'):=z9s (z8h (y81 s s' 6 6 (qR _)) (z2y s 6)) (z2y s 6)
theorem v2g(s s':ByteArray):LocA s s' (Am s) (Am s'):=z8h (y81 s s' 6 6 (qR _)) (z2y s 6)
theorem z59{s:ByteArray}{a e:Nat}(he:e<=s.size){x:Int}(h0:0<=x):Q3g s (a+x) (s.extract a e) x (e-a-x.toNat):=fun j hj=>by
 rw[z0z he (by omega) (by omega)];congr 1;omega
theorem z3t{s:ByteArray}{a e:Nat}(he:e<=s.size):(s.extract a e).size=e-a:=by rw[qBl];omega
theorem v06{u:ByteArray}{i j:Nat}{A:Q03}(h:Pc u i=⟨(j:Int),true,A⟩)(hi:i<=u.size):PceIs (u.extract i j) A/\i<j/\j<=u.size:=by
 have g:=x3q u i (by omega) (by omega) (by rw[h]);rw[h]at g;dsimp only at g;have j0:=z3t (s:=u) (a:=i) (e:=j) (by omega);refine⟨?_,by omega,by omega⟩;have al:=z59 (s:=u) (a:=i) (e:=j) (by omega) (x:=0) (by omega);rw[qDs]at al;have sm:=x3w u (u.extract i j) i 0 (j-i) (by omega) (by omega) (by omega) al (by rw[z2c (by omega)];decide) (by rw[h]) (by rw[h];dsimp only;omega);unfold PceIs;rw[z2r sm.ok,sm.next,sm.lang,h];dsimp only;congr 1;omega
theorem x9x{q:ByteArray}{n:Nat}{A:Q03}(h:Am q 0=⟨(n:Int),true,A⟩):Q86 (q.extract 0 n) A/\0<n/\n<=q.size:=by
 have g:=v2f q 0 (by omega) (by omega) (by rw[h]);rw[h]at g;dsimp only at g;have j0:=z3t (s:=q) (a:=0) (e:=n) (by omega);refine⟨?_,by omega,by omega⟩;have al:=z59 (s:=q) (a:=0) (e:=n) (by omega) (x:=0) (by omega);have sm:=v2g q (q.extract 0 n) 0 0 (n-0) (by omega) (by omega) (by omega) al (by rw[h]) (by rw[h];dsimp only;omega);unfold Q86;rw[z2r sm.ok,sm.next,sm.lang,h];dsimp only;congr 1;omega
theorem v0d{a:ByteArray}{A:Q03}(h:Q86 a A)(h40:atB a 0=40):Q8u (a.extract 1 (a.size-1)) A/\3<=a.size:=by
 unfold Q86 Am Q3m at h;rw[qAb h40]at h;have h':Q6h (Q61 a 5) a 0=⟨a.size,true,A⟩:=h;unfold Q6h at h';by_cases c1:(Q61 a 5 (0+1)).ok=false
 ·rw[qAb c1]at h';injection h' with _ e;cases e
 rw[qAa c1]at h';have j0:(Q61 a 5 1).ok=true:=by simpa using c1
 by_cases c2:atB a (Q61 a 5 (0+1)).next≠41
 ·rw[qAb c2]at h';injection h' with _ e;cases e
 rw[qAa c2]at h';injection h' with e1 _ e3;have hn:(Q61 a 5 ((1:Nat):Int)).next+1=a.size:=e1;have j2:=z0r (s:=a) (i:=0) (by omega);have g:=y4t a 5 ((1:Nat):Int) (by omega) (by omega) j0;have j3:=z3t (s:=a) (a:=1) (e:=a.size-1) (by omega);refine⟨?_,by omega⟩;have al:=z59 (s:=a) (a:=1) (e:=a.size-1) (by omega) (x:=0) (by omega);rw[qDs]at al;have sm:=y2p a (a.extract 1 (a.size-1)) (show 5<=6 by omega) ((1:Nat):Int) 0 (a.size-1-1) (by omega) (by omega) (by omega) al (by rw[z2c (by omega)];decide) j0 (by omega);unfold Q8u;rw[z2r sm.ok,sm.next,sm.lang];have j1:(Q61 a 5 ((1:Nat):Int)).lang=A:=e3;rw[j1];congr 1;omega
theorem y9e{s:ByteArray}:∀{As:List Q03}{x y:Int},Row (Pc s) x As y->0<=x->x<=s.size->x<=y/\y<=s.size
 | [],x,y,h,_,h1=>by have:x=y:=h;omega
 |A::As,x,y,⟨h1,h2,h3⟩,h0,hs=>by
  have g:=x3q s x h0 hs h1;have:=y9e h3 (by omega) (by omega);omega
theorem x4y{p:ByteArray}{b x:Nat}(hx:x<=p.size):∀{As:List Q03}{y:Int},Row (Pc p) y As x->(b:Int)<=y->Row (Pc (p.extract b x)) (y-b) As ((x:Int)-b)
 | [],y,h,hb=>by have:y=x:=h;show y-b=(x:Int)-b;omega
 |A::As,y,⟨h1,h2,h3⟩,hb=>by
  have hy:y<p.size:=by
   have:=z0r (s:=p) (i:=y) (y3y (z3e h1));omega
  have g:=x3q p y (by omega) (by omega) h1;have j0:=y9e h3 (by omega) (by omega);have j1:=z3t (s:=p) (a:=b) (e:=x) hx;have al:=z59 (s:=p) (a:=b) (e:=x) hx (x:=y-b) (by omega);rw[show(b:Int)+(y-b)=y by omega]at al;have sm:=x3w p (p.extract b x) y (y-b) (x-b-(y-b).toNat) (by omega) (by omega) (by omega) al (by rw[z2c (by omega)];decide) h1 (by omega);refine⟨sm.ok,by rw[sm.lang];exact h2,?_⟩;rw[sm.next,show(Pc p y).next-y+(y-(b:Int))=(Pc p y).next-b by omega];exact x4y hx h3 (by omega)
theorem x8q(a:ByteArray)(A:Q03)(hs:a.size<=1000)(h:Q86 a A)(ih:∀p L,p.size+2<=a.size->Q8u p L->SetC 81 p L):SetC 131 a A:=by
 by_cases j0:atB a 0=40
 ·obtain⟨hp,h3⟩:=v0d h j0;have j3:=z3t (s:=a) (a:=1) (e:=a.size-1) (by omega);have TH:=ih _ A (by omega) hp;intro t g fs w ht hg hl;have TX:=hid (TH t g fs w ht hg hl);have j1:0<a.size:=by omega
  have b0:atB a 0=(a[0].toNat:Int):=z1u j1;have j2:a[0].toNat<256:=a[0].toNat_lt;rw[b0]at j0;have j4:((a[0].toNat:Int)==40)=true:=by simp[j0]
  have p0:(0:Int)<(a.size:Int):=by omega
  have p1:(1:Int)<=(a.size:Int)-1:=by omega
  have p2:(a.size:Int)-1<=(a.size:Int):=by omega
  have p3:((a.size:Int)-1).toNat=a.size-1:=by omega
  clear hg hl b0 j0 h hp TH ih;go_enter Tryz.func131,Tryz.ntmps131
  go_wp2_with (first
   |(go_at_call 81;refine(TX.out).mono ?_;rintro e w1⟨g',gs,rfl,q⟩;have HQ:=hid q;clear q))
  go_ret;exact⟨g',gs,rfl,HQ.out⟩
 unfold Q86 Am Q3m at h;rw[qAa j0]at h;by_cases c:(Q2r a 0).2.2=false
 ·rw[qAb c]at h;injection h with _ e;cases e
 rw[qAa c]at h;injection h with e1 _ e3;have:=x52 a (by omega) j0 (by simpa using c) e1;rw[e3]at this;exact this
def Q9t(fs:List Bool):Nat:=(fs.filter (fun b=>!b)).length
theorem y69:∀{as' bs:List Bool},as'.length=bs.length->(∀j,On as' j->On bs j)->Q9t bs<=Q9t as'
 | [],[],_,_=>qR _
 |a::as',b::bs,hl,h=>by
  have hl':as'.length=bs.length:=by simpa using hl
  have ih:=y69 hl' (fun j hj=>by have:=h (j+1) (by simpa [On]using hj);simpa [On]using this);unfold Q9t at ih ⊢;rw[qAq,qAq];cases a
  ·cases b<;>simp<;>omega
  have:=h 0 (by simp[On]);simp[On]at this;subst this;simpa using ih
 | [],b::bs,hl,_=>by simp at hl
 |a::as',[],hl,_=>by simp at hl
theorem x39:∀{as' bs:List Bool},as'.length=bs.length->(∀j,On as' j->On bs j)->(∃j,On bs j/\¬On as' j)->Q9t bs<Q9t as'
 | [],[],_,_,⟨j,h,_⟩=>by simp[On]at h
 |a::as',b::bs,hl,h,hex=>by
  have hl':as'.length=bs.length:=by simpa using hl
  have hs:∀j,On as' j->On bs j:=fun j hj=>by have:=h (j+1) (by simpa [On]using hj);simpa [On]using this
  have ih:=y69 hl' hs;obtain⟨j,h1,h2⟩:=hex;unfold Q9t at ih ⊢;rw[qAq,qAq];cases j with
  |zero =>
   simp[On]at h1 h2;subst h1;have j1:a=false:=by simpa using h2
   subst j1;simp;omega
  |succ j =>
   have j0:=x39 hl' hs ⟨j,by simpa [On]using h1,by simpa [On]using h2⟩;unfold Q9t at j0;cases a
   ·cases b<;>simp<;>omega
   have:=h 0 (by simp[On]);simp[On]at this;subst this;simpa using j0
 | [],b::bs,hl,_,_=>by simp at hl
 |a::as',[],hl,_,_=>by simp at hl
theorem v0r{xs ys:List Bool}{n:Nat}(h:moI xs ys n=true):∃j,On ys j/\¬On xs j:=by
 unfold moI at h;rw[qBb]at h;obtain⟨j,_,hj⟩:=h;rw[qAd,Bool.not_eq_true']at hj;exact⟨j,z2e.2 hj.1,fun q=>by rw[z2e,hj.2]at q;cases q⟩
theorem x62{xs ys:List Bool}{n:Nat}(h:moI xs ys n=false)(hl:ys.length=n):∀j,On ys j->On xs j:=by
 intro j hj;cases hx:xs.getD j false
 ·exfalso;have:moI xs ys n=true:=by
   unfold moI;rw[qBb];exact⟨j,by have:=hj.lt;simp;omega,by rw[hx,z2e.1 hj];rfl⟩
  rw[this]at h;cases h
 exact z2e.2 hx
theorem v0v(fs:List Bool):Q9t fs<=fs.length:=qCc _ _
theorem x4h{q:ByteArray}{L:Q03}(h:PceIs q L):∃(n:Nat) (A:Q03),Am q 0=⟨(n:Int),true,A⟩/\0<n/\n<=q.size/\Q86 (q.extract 0 n) A/\∀w,L w↔Q5x (Q8z q (q.size+1) n (false,false)).1 (Q8z q (q.size+1) n (false,false)).2 A w:=by
 have j1:(Pc q 0).ok=true:=by rw[h]
 have ha:(Am q 0).ok=true:=y2v j1;have g:=v2f q 0 (by omega) (by omega) ha;obtain⟨n,hn⟩:∃n:Nat,(Am q 0).next=n:=⟨(Am q 0).next.toNat,by omega⟩;have e:Am q 0=⟨(n:Int),true,(Am q 0).lang⟩:=by rw[← hn];exact z2r ha
 obtain⟨h1,h2,h3⟩:=x9x e;refine⟨n,(Am q 0).lang,e,h2,h3,h1,?_⟩;have h':Q2g q (q.size+5) (Am q 0)=⟨q.size,true,L⟩:=h;rw[e]at h';have j0:=z90 (s:=q) (A:=(Am q 0).lang) (q.size+5) (q.size+1) n (Am q 0).lang (false,false) (fun w=>(y8l _ w).symm) (by omega) (by omega) h3 (by rw[h']);rw[h']at j0;exact j0
theorem Q6j.same{A:Q03}{t:ByteArray}{fs gs hs:List Bool}(h:Q6j A t fs gs)(hl:hs.length=t.size+1)(e:∀j,On hs j↔On gs j):Q6j A t fs hs:=⟨hl,fun j hj=>by rw[e,h.on j hj]⟩
structure Way(A:Q03)(t:ByteArray)(fs os:List Bool):Prop where
 len:os.length=t.size+1
 lo:∀j,j<=t.size->Q5o A t (On fs) j->On os j
 hi:∀j,On os j->j<=t.size->Q5o (Q5x false true A) t (On fs) j
theorem x5p{A:Q03}{t:ByteArray}{fs os:List Bool}(h:Q6j A t fs os):Way A t fs os :=
 ⟨h.len,fun j hj r=>(h.on j hj).2 r,fun j ho hj=>x7k ((h.on j hj).1 ho)⟩
theorem x8h{A:Q03}{t:ByteArray}{fs os ns:List Bool}(h:Way A t fs os)(hn:Q6j A t os ns):Way A t fs (orI os ns (t.size+1) (t.size+1))/\Q9t (orI os ns (t.size+1) (t.size+1))<=Q9t os/\(moI os ns (t.size+1)=true->Q9t (orI os ns (t.size+1) (t.size+1))<Q9t os)/\(moI os ns (t.size+1)=false->Q6j (Q5x false true A) t fs (orI os ns (t.size+1) (t.size+1))):=by
 have u:=v02 (xs:=os) (ys:=ns) h.len;have j0:∀j,On os j->On (orI os ns (t.size+1) (t.size+1)) j:=fun j hj=>(u.on j).2 (.inl hj);have j1:os.length=(orI os ns (t.size+1) (t.size+1)).length:=u.len.symm;have hL:=h.len;refine⟨⟨by rw[z2s],fun j hj r=>j0 j (h.lo j hj r),fun j ho hj=>?_⟩,y69 j1 j0,fun hm=>?_,fun hm=>?_⟩
 ·rcases(u.on j).1 ho with q|⟨_,q⟩
  ·exact h.hi j q hj
  obtain⟨i,i1,i2,i3⟩:=(hn.on j hj).1 q;exact x4j hj ⟨i,i1,h.hi i i2 (by omega),i3⟩
 ·obtain⟨j,q1,q2⟩:=v0r hm;refine x39 j1 j0 ⟨j,(u.on j).2 (.inr ⟨?_,q1⟩),q2⟩;have:=q1.lt;rw[hn.len]at this;omega
 have j2:=x62 hm hn.len;have hc:=y7e h.len h.lo h.hi hn j2;refine hc.same (by rw[z2s]) (fun j=>⟨fun q=>?_,j0 j⟩);rcases(u.on j).1 q with z|⟨_,z⟩
 ·exact z
 exact j2 j z
theorem x2v{A:Q03}{t:ByteArray}{fs os:List Bool}(m:Bool)(h:Q6j (Q5x false m A) t fs os)(hl:fs.length=t.size+1):Q6j (Q5x true m A) t fs (orI os fs (t.size+1) (t.size+1)):=by
 have u:=v02 (xs:=os) (ys:=fs) h.len;refine(Q6j.alt h (y8o hl) u).iff (fun w=>?_);unfold Q03.alt Q5x epsL;constructor
 ·rintro((⟨q,_⟩|q)|q)
  ·cases q
  ·exact .inr q
  exact .inl ⟨rfl,q⟩
 rintro(⟨_,q⟩|q)
 ·exact .inr q
 exact .inl (.inr q)
theorem x55(q:ByteArray)(L:Q03)(hs:q.size<=1000)(h:PceIs q L)(hone:∀a A,a.size<=q.size->Q86 a A->SetC 131 a A):SetC 125 q L:=by
 obtain⟨n,A,he,jq,jk,hA,jd⟩:=x4h h;have jr:=z3t (s:=q) (a:=0) (e:=n) jk;have ON:=hone _ A (by omega) hA;intro t g fs w ht hg hl;have AT:=hid (fun w=>y9z q (by omega) 0 w (by omega));have e0:((0:Nat):Int)=0:=rfl;have jg:Q3w (zgK q 6) q 0=n:=by
  have:=z7l (p:=q) 6 (x:=0) (by omega);unfold Q7h at this;have e1:(Q3m (lgK q 6) q 0)=⟨(n:Int),true,A⟩:=he;rw[e1]at this;exact this
 rw[e0,jg]at AT;have ja:=hid (fun(g:Nat) (fs:List Bool) (w:World) (h1:Q1x w g fs) (h2:fs.length=t.size+1)=>ON t g fs w ht h1 h2);have HG:=hid hg;have HL:=hid hl;have j5:=hid jd;generalize hM:Q8z q (q.size+1) n (false,false)=M at j5;have HM:=hid hM;have p1:(n:Int)<=(q.size:Int):=by omega
 clear h he hA jd ON hg hl e0 jg hM hone;go_enter Tryz.func125,Tryz.ntmps125
 go_wp2_with (first
  |(go_at_call 126;refine csm (AT.out _) ?_))
 go_loopw [8,9,10] (fun x8 x9 x10 wr=>∃(i f:Nat) (b:Bool × Bool),x10=.int .i64 i/\x8=.bool b.1/\x9=.bool b.2/\wr=w/\n<=i/\i<=q.size/\q.size+1<=f+i/\Q8z q f i b=M)
   (fun _ _ x _=>1001-(intOf x).toNat)
 case atStart=>exact⟨n,q.size+1,(false,false),rfl,rfl,rfl,rfl,by omega,by omega,by omega,HM.out⟩
 obtain⟨i,f,⟨bn,bm⟩,rfl,rfl,rfl,rfl,jn,jo,hf,j0⟩:=hrel;obtain⟨f,rfl⟩:∃k,f=k+1:=⟨f-1,by omega⟩;rw[x3y]at j0;clear HM;by_cases j8:i<q.size
 ·rw[qAb j8,z1u j8]at j0;have k1:(i:Int)<(q.size:Int):=by omega
  have jm:q[i].toNat<256:=q[i].toNat_lt;have HR:=hid j0;clear j0;cases bn<;>cases bm;all_goals
   go_wp2;go_roundw
   case rel=>exact⟨i+1,f,(_,_),by go_num,rfl,rfl,by first|rfl|trivial,by omega,by omega,by omega,HR.out⟩
   simp[intOf];omega
 rw[qAa j8]at j0;subst j0;have k1:¬(i:Int)<(q.size:Int):=by omega
 dsimp only at j5;obtain⟨wo,jl⟩:∃wo,wo=wr:=⟨_,rfl⟩;subst jl;have UN:=hid (fun(w:World) (ga gb:Nat) (xs ys:List Bool) (ha:Q1x w ga xs) (hb:Q1x w gb ys) (la:xs.length=t.size+1) (lb:ys.length=t.size+1)=>z23 w ga gb (t.size+1) xs ys ha hb la lb (by omega));have OX:=hid (ja.out g fs wo HG.out HL.out);go_wp2_with (first
  |(go_at_call 131;refine(OX.out).mono ?_;rintro e w1⟨g1,jb,rfl,q1,q2,q3⟩;have HQ:=hid (And.intro q1 (And.intro q2 q3));clear q1 q2 q3))
 go_loopg [11,12,13] (2*(t.size+1)+1) (fun k x11 x12 _ wx=>∃(g2:Nat) (os:List Bool) (mo:Bool),x11=bsl g2 (t.size+1)/\x12=.bool mo/\2*Q9t os+(if mo=true then 1 else 0)<=k/\Q1x wx g2 os/\Q0a wo wx/\Way A t fs os/\(mo=true->bm=true)/\(mo=false->Q6j (Q5x false bm A) t fs os))
 case atStart =>
  obtain⟨q1,q2,q3⟩:=HQ.out;refine⟨g1,jb,bm,rfl,rfl,?_,q2,q1,x5p q3,fun e=>e,fun e=>?_⟩
  ·have:=v0v jb;rw[q3.len]at this;split<;>omega
  rw[e];exact q3.iff (fun w=>(y8l A w).symm)
 obtain⟨g2,os,mo,rfl,rfl,hk,hB,je,hW,jc,jf⟩:=hrel;have j3:=hid hB;have j4:=hid je;have HW:=hid hW;have j7:=hid jf;have j6:=hid jc;clear hB je hW jf jc HQ OX;cases mo
 ·have j9:=hid (j7.out rfl);clear j7 j6;cases bn
  ·go_wp2;go_ret;exact⟨g2,os,rfl,j4.out,j3.out,j9.iff (fun w=>(j5.out w).symm)⟩
  have UX:=hid (UN.out wr g2 g os fs j3.out (HG.fresh j4.out) HW.len HL.out);go_wp2_with (first
   |(go_at_call 80;refine(UX.out).mono ?_;rintro e w3⟨rfl,j2,j1⟩;have HU:=hid (And.intro j2 j1);clear j2 j1))
  go_ret;exact⟨_,_,rfl,j4.trans HU.1,HU.2,(x2v bm j9.out HL.out).iff (fun w=>(j5.out w).symm)⟩
 have jj:=j6.out rfl;subst jj;clear j7 j6;have ji:=hid (ja.out g2 os wr j3.out HW.len);go_wp2_with (first
  |(go_at_call 80;have jh:=HN.1;refine(UN.out w1 g2 g3 os ns (j3.fresh HN.1) HN.2.1 HW.len HN.2.2.len).mono ?_;rintro e w3⟨rfl,j2,j1⟩;have HU:=hid (And.intro j2 j1);clear j2 j1)
  |(go_at_call 131;refine(ji.out).mono ?_;rintro e w1⟨g3,ns,rfl,q1,q2,q3⟩;have HN:=hid (And.intro q1 (And.intro q2 q3));clear q1 q2 q3))
 obtain⟨y1,y2,y3,y4⟩:=x8h HW.out HN.2.2;go_roundg (2*Q9t (orI os ns (t.size+1) (t.size+1))+(if moI os ns (t.size+1)=true then 1 else 0))
 case measure =>
  have jp:2*Q9t os+1<=gk:=by simpa using hk
  split
  ·have:=y3 (by assumption);omega
  omega
 exact⟨_,_,_,rfl,rfl,qR _,HU.2,(j4.trans HN.1).trans HU.1,y1,fun _=>(by first|rfl|trivial),y4⟩
theorem y70(u:ByteArray)(As:List Q03)(hs:u.size<=1000)(h:Row (Pc u) 0 As u.size)(hsome:∀q L,q.size<=u.size->PceIs q L->SetC 125 q L):SetC 111 u (Q9q As):=by
 intro t g fs w ht hg hl;have j8:=hid hsome;have PC:=hid (fun(i:Nat) (w:World) (hi:i<=u.size)=>y95 u (by omega) i w (by omega));have HG:=hid hg;have HL:=hid hl;have HR:=hid h;clear hsome hg hl h;go_enter Tryz.func111,Tryz.ntmps111
 go_wp2;go_loopw [2,7,8] (fun x2 x7 _ wr=>∃(i g1:Nat) (gs:List Bool) (Ds Rs:List Q03),x7=.int .i64 i/\x2=bsl g1 (t.size+1)/\i<=u.size/\As=Ds++Rs/\Row (Pc u) i Rs u.size/\Q1x wr g1 gs/\Q0a w wr/\Q6j (Q9q Ds) t fs gs)
   (fun _ x _ _=>2001-(intOf x).toNat)
 case atStart=>exact⟨0,g,fs,[],As,rfl,rfl,by omega,rfl,HR.out,HG.out,mRf _ _,y8o HL.out⟩
 obtain⟨i,g1,gs,Ds,Rs,rfl,rfl,hi,j3,j0,hB,j4,j5⟩:=hrel;have j2:=hid j3;have HB:=hid hB;have HF:=hid j4;have j1:=hid j5;clear j3 hB j4 j5 HR;cases Rs with
 |nil =>
  have j9:(i:Int)=u.size:=j0;have k1:¬(i:Int)<(u.size:Int):=by omega
  clear j9 j0;go_wp2;go_ret;refine⟨g1,gs,rfl,HF.out,HB.out,?_⟩;rw[j2.out,qBd];exact j1.out
 |cons A Rs =>
  obtain⟨r1,r2,r3⟩:=j0;have jb:=z0r (s:=u) (i:=(i:Int)) (y3y (z3e r1));have g0:=x3q u i (by omega) (by omega) r1;obtain⟨j,hj⟩:∃j:Nat,(Pc u i).next=j:=⟨(Pc u i).next.toNat,by omega⟩;have e:Pc u i=⟨(j:Int),true,A⟩:=by rw[← hj,← r2];exact z2r r1
  obtain⟨p1,p2,p3⟩:=v06 e hi;have ja:=z3t (s:=u) (a:=i) (e:=j) p3;have SX:=hid (j8.out _ A (by omega) p1 t g1 gs wr ht HB.out j1.len);have PX:=hid (fun w=>PC.out i w hi);have j6:Q4i (Q3w (zgK u 6) u) u i=j:=by
   have:=z56 (p:=u) 6 (x:=(i:Int)) (by omega) (by omega);unfold Q7h at this;have e1:Q1u (Q3m (lgK u 6) u) u i=⟨(j:Int),true,A⟩:=e;rw[e1]at this;exact this
  rw[j6]at PX;rw[hj]at r3;have j7:=hid r3;have k1:(i:Int)<(u.size:Int):=by omega
  have k2:(i:Int)<=(j:Int):=by omega
  have k3:(j:Int)<=(u.size:Int):=by omega
  clear r1 r2 r3 e p1 j6 hj g0 ja;go_wp2_with (first
   |(go_at_call 112;refine csm (PX.out _) ?_)
   |(go_at_call 125;refine(SX.out).mono ?_;rintro e w1⟨g3,ns,rfl,q1,q2,q3⟩;have HN:=hid (And.intro q1 (And.intro q2 q3));clear q1 q2 q3))
  go_roundw
  case rel =>
   refine⟨j,g3,ns,Ds++[A],Rs,rfl,rfl,by omega,by rw[j2.out];simp,j7.out,HN.2.1,HF.trans HN.1,?_⟩;exact(j1.cat HN.2.2).iff (fun w=>(y31 Ds A w).symm)
  simp[intOf];omega
def W0f(Bs:List (List Q03)):Q03:=fun w=>∃B∈Bs,Q9q B w
theorem x0u(Bs:List (List Q03))(B:List Q03)(w:List Nat):W0f (Bs++[B]) w↔Q03.alt (W0f Bs) (Q9q B) w:=by
 unfold W0f Q03.alt;constructor
 ·rintro⟨D,hD,q⟩;rcases qBs.1 hD with hD|hD
  ·exact .inl ⟨D,hD,q⟩
  simp at hD;subst hD;exact .inr q
 rintro(⟨D,hD,q⟩|q)
 ·exact⟨D,by simp[hD],q⟩
 exact⟨B,by simp,q⟩
def Rest(p:ByteArray)(z:Int)(Bs:List (List Q03)):Prop:=(Bs=[]/\z=p.size)∨(atB p z=124/\Alts (Pc p) p (z+1) Bs p.size)
theorem y3u(p:ByteArray)(Bs:List (List Q03))(hs:p.size<=1000)(h:Alts (Pc p) p 0 Bs p.size)(hbr:∀u As,u.size<=p.size->Row (Pc u) 0 As u.size->SetC 111 u (Q9q As)):SetC 81 p (W0f Bs):=by
 intro t g fs w ht hg hl;have jf:=hid hbr;have PC:=hid (fun(i:Nat) (w:World) (hi:i<=p.size)=>y95 p (by omega) i w (by omega));have UN:=hid (fun(w:World) (ga gb:Nat) (xs ys:List Bool) (ha:Q1x w ga xs) (hb:Q1x w gb ys) (la:xs.length=t.size+1) (lb:ys.length=t.size+1)=>z23 w ga gb (t.size+1) xs ys ha hb la lb (by omega));have HG:=hid hg;have HL:=hid hl;have HA:=hid h;have mk:=fun w=>run_make_row' (P:=Tryz.prog) 118 4 (.bool false) 1 qCw (by kernel_rfl) rfl .i64 .i64 (t.size+1) (by omega) (by omega) w;simp only[Int.natCast_add,Int.cast_ofNat_Int]at mk;clear hbr hg hl h;go_enter Tryz.func81,Tryz.ntmps81
 go_wp2;go_loopw [7,8,9,10] (fun x7 x8 x9 _ wr=>∃(b i g1:Nat) (os:List Bool) (Ds:List (List Q03)),x8=.int .i64 b/\x9=.int .i64 i/\x7=bsl g1 (t.size+1)/\Q1x wr g1 os/\Q0a w wr/\Q6j (W0f Ds) t fs os/\i<=p.size+1 /\
    ((i=p.size+1/\Ds=Bs)∨(∃(z:Nat) (Ls Rs:List Q03) (Ts:List (List Q03)),Bs=Ds++(Ls++Rs)::Ts/\b<=i/\i<=p.size/\Row (Pc p) b Ls i/\Row (Pc p) i Rs z/\Rest p z Ts)))
   (fun _ _ x _ _=>2001-(intOf x).toNat)
 case atStart =>
  have hA:=HA.out;cases Bs with
  |nil=>exact hA.elim
  |cons B Ts =>
   obtain⟨z,_,q1,q2⟩:=hA;have hz:=y9e q1 (by omega) (by omega);obtain⟨zn,rfl⟩:∃n:Nat,z=n:=⟨z.toNat,by omega⟩;refine⟨0,0,w.heap.size,List.replicate (t.size+1) false,[],rfl,rfl,rfl,?_,(mRf _ w).alloc _,?_,by omega,.inr ⟨zn,[],B,Ts,rfl,by omega,by omega,rfl,q1,q2⟩⟩
   ·rw[z03];exact z0a _ _
   refine(x2w (by simp) (fun j q=>?_)).iff (fun w=>⟨fun q=>q.elim,fun⟨B,hB,_⟩=>by cases hB⟩);unfold On at q;rw[qEb]at q;split at q<;>simp at q
 obtain⟨b,i,g1,os,Ds,rfl,rfl,rfl,hB,jj,jk,jx,jt⟩:=hrel;have HB:=hid hB;have HF:=hid jj;have j1:=hid jk;clear hB jj jk HA mk;rcases jt with⟨j6,ji⟩|⟨z,Ls,Rs,Ts,jh,jw,j6,r1,r2,r3⟩
 ·have k1:¬(i:Int)<=(p.size:Int):=by omega
  have HD:=hid ji;clear j6 ji;go_wp2;go_ret;exact⟨g1,os,rfl,HF.out,HB.out,by rw[← HD.out];exact j1.out⟩
 have k1:(i:Int)<=(p.size:Int):=by omega
 have ja:=hid jh;have j8:=hid r1;have j9:=hid r3;clear jh r1 r3;cases Rs with
 |nil =>
  have js:(i:Int)=z:=r2;have jb:i=z:=by omega
  subst jb;clear r2 js;have j0:=x4y j6 j8.out (b:=b) (Int.le_refl _);have ju:=z3t (s:=p) (a:=b) (e:=i) j6;rw[Int.sub_self,show(i:Int)-b=((p.extract b i).size:Int) by omega]at j0;have BX:=hid (fun(w:World) (hg:Q1x w g fs)=>jf.out _ Ls (by omega) j0 t g fs w ht hg HL.out);have k2:(b:Int)<=(i:Int):=by omega
  clear j0 ju;have je:Hid (∀(wb:World) (g3:Nat) (ns:List Bool),True->Q6j (Q9q Ls) t fs ns->Q6j (W0f (Ds++[Ls])) t fs (orI os ns (t.size+1) (t.size+1))):=fun wb g3 ns _ hn=>(j1.alt hn (v02 j1.len)).iff (fun w=>(x0u Ds Ls w).symm);have jd:i=p.size∨(∃j2:i<p.size,((p[i].toNat:Int)==124)=true):=by
   rcases j9.out with⟨_,q⟩|⟨q,_⟩
   ·left;omega
   right;have jr:=z0r (s:=p) (i:=(i:Int)) (by omega);have j2:i<p.size:=by omega
   refine⟨j2,?_⟩;rw[z1u j2]at q;simp[q]
  have jg:Hid ((i+1=p.size+1/\Ds++[Ls]=Bs)∨(∃(z:Nat) (Ls' Rs:List Q03) (Ts:List (List Q03)),Bs=(Ds++[Ls])++(Ls'++Rs)::Ts/\i+1<=i+1/\i+1<=p.size/\Row (Pc p) ((i+1:Nat):Int) Ls' ((i+1:Nat):Int)/\Row (Pc p) ((i+1:Nat):Int) Rs z/\Rest p z Ts)):=by
   have hB:=ja.out;rw[qBd]at hB;rcases j9.out with⟨q1,q2⟩|⟨q1,q2⟩
   ·left;refine⟨by omega,?_⟩;rw[hB,q1]
   right;have jr:=z0r (s:=p) (i:=(i:Int)) (by omega);cases Ts with
   |nil=>exact q2.elim
   |cons B Ts =>
    obtain⟨z2,_,y1,y2⟩:=q2;have hz:=y9e y1 (by omega) (by omega);obtain⟨zn,rfl⟩:∃n:Nat,z2=n:=⟨z2.toNat,by omega⟩;exact⟨zn,[],B,Ts,by rw[hB];simp,by omega,by omega,rfl,y1,y2⟩
  clear ja j8 j9 jf;rcases jd with jd|⟨j2,jp⟩
  ·have k3:((i:Int)==(p.size:Int))=true:=by simp;omega
   clear jd;go_wp2_with (first
    |(go_at_call 80;have j7:=HN.1;refine(UN.out w1 g1 g3 os ns (HB.fresh HN.1) HN.2.1 j1.len HN.2.2.len).mono ?_;rintro e w3⟨rfl,j5,j3⟩;have HU:=hid (And.intro j5 j3);clear j5 j3)
    |(go_at_call 111;refine(BX.out _ (HG.fresh HF.out)).mono ?_;rintro e w1⟨g3,ns,rfl,q1,q2,q3⟩;have HN:=hid (And.intro q1 (And.intro q2 q3));clear q1 q2 q3))
   go_roundw
   case rel=>exact⟨i+1,i+1,_,_,Ds++[Ls],by go_num,by go_num,rfl,HU.2,(HF.trans HN.1).trans HU.1,je.out w1 g3 ns trivial HN.2.2,by omega,jg.out⟩
   simp[intOf];omega
  have k3:((i:Int)==(p.size:Int))=false:=by simp;omega
  have k4:(i:Int)<(p.size:Int):=by omega
  have jq:p[i].toNat<256:=p[i].toNat_lt;go_wp2_with (first
   |(go_at_call 80;have j7:=HN.1;refine(UN.out w1 g1 g3 os ns (HB.fresh HN.1) HN.2.1 j1.len HN.2.2.len).mono ?_;rintro e w3⟨rfl,j5,j3⟩;have HU:=hid (And.intro j5 j3);clear j5 j3)
   |(go_at_call 111;refine(BX.out _ (HG.fresh HF.out)).mono ?_;rintro e w1⟨g3,ns,rfl,q1,q2,q3⟩;have HN:=hid (And.intro q1 (And.intro q2 q3));clear q1 q2 q3))
  go_roundw
  case rel=>exact⟨i+1,i+1,_,_,Ds++[Ls],by go_num,by go_num,rfl,HU.2,(HF.trans HN.1).trans HU.1,je.out w1 g3 ns trivial HN.2.2,by omega,jg.out⟩
  simp[intOf];omega
 |cons A Rs =>
  obtain⟨y1,y2,y3⟩:=r2;have j4:=z3e y1;have jc:=z0r (s:=p) (i:=(i:Int)) (y3y j4);have j2:i<p.size:=by omega
  have g0:=x3q p i (by omega) (by omega) y1;obtain⟨j,hj⟩:∃j:Nat,(Pc p i).next=j:=⟨(Pc p i).next.toNat,by omega⟩;have PX:=hid (fun w=>PC.out i w j6);have jm:Q4i (Q3w (zgK p 6) p) p i=j:=by
   have:=z56 (p:=p) 6 (x:=(i:Int)) (by omega) (by omega);unfold Q7h at this;have e1:Q1u (Q3m (lgK p 6) p) p i=⟨(j:Int),true,A⟩:=by
    show Pc p i=_;rw[← hj,← y2];exact z2r y1
   rw[e1]at this;exact this
  rw[jm]at PX;have jl:Row (Pc p) b (Ls++[A]) ((j:Nat):Int):=by
   have:=Row.snoc j8.out y1;rw[y2,hj]at this;exact this
  rw[hj]at y3;have jo:=hid y3;have jn:=hid jl;have jv:((p[i].toNat:Int)==124)=false:=by
   rw[z1u j2]at j4;cases q:((p[i].toNat:Int)==124)
   ·rfl
   have:(p[i].toNat:Int)=124:=by simpa using q
   rw[this]at j4;revert j4;decide
  have k3:((i:Int)==(p.size:Int))=false:=by simp;omega
  have k4:(i:Int)<(p.size:Int):=by omega
  have jq:p[i].toNat<256:=p[i].toNat_lt;have k5:¬(j:Int)<0:=by omega
  have b1:i<j:=by omega
  have b2:j<=p.size:=by omega
  clear y1 y2 y3 j4 jm hj jl j8 g0 jc;go_wp2_with (first
   |(go_at_call 112;refine csm (PX.out _) ?_))
  go_roundw
  case rel=>exact⟨b,j,g1,os,Ds,rfl,rfl,rfl,HB.out,HF.out,j1.out,by omega,.inr ⟨z,Ls++[A],Rs,Ts,by rw[ja.out];simp,by omega,by omega,jn.out,jo.out,j9.out⟩⟩
  simp[intOf];omega
theorem z77:∀(N:Nat) (p:ByteArray) (L:Q03),p.size<=N->p.size<=1000->Q8u p L->SetC 81 p L
 |0,p,L,hN,hs,h=>by
  exfalso;have g:=y4t p 6 0 (by omega) (by omega) (by rw[h]);rw[h]at g;dsimp only at g;omega
 |N+1,p,L,hN,hs,h=>by
  have j0:(Q61 p 6 0).ok=true:=by rw[h]
  obtain⟨Bs,h1,h2⟩:=y6q (P:=Pc p) (s:=p) (x:=0) j0;have e:Q25 (Q00 (Pc p) p) p 0=⟨p.size,true,L⟩:=h;rw[e]at h1 h2;dsimp only at h1 h2;have j1:=y3u p Bs hs h1 (fun u As hu hr=>y70 u As (by omega) hr (fun q M hq hM=>x55 q M (by omega) hM (fun a A ha hA=>x8q a A (by omega) hA (fun c C hc hC=>z77 N c C (by omega) (by omega) hC))));intro t g fs w ht hg hl;refine(j1 t g fs w ht hg hl).mono ?_;rintro e w'⟨g',gs,q1,q2,q3,q4⟩;exact⟨g',gs,q1,q2,q3,q4.iff (fun w=>(h2 w).symm)⟩
theorem x00{L:Q03}{t:ByteArray}{n j:Nat}:Q5o L t (On ((List.replicate (n+1) false).set 0 true)) j↔L (Q1n t 0 j):=by
 constructor
 ·rintro⟨i,h1,h2,h3⟩;have:i=0:=by
   unfold On at h2;rw[qCs]at h2;by_cases e:0=i
   ·exact e.symm
   rw[qAa e,qEb]at h2;split at h2<;>simp at h2
  subst this;exact h3
 intro h;exact⟨0,by omega,by unfold On;simp,h⟩
def LenRet(L:Q03)(t:ByteArray)(w:World)(e:Ending)(w':World):Prop :=
 ∃g gs,e=.returned (bsl g (t.size+1))/\Q0a w w'/\Q1x w' g gs/\gs.length=t.size+1/\∀j,j<=t.size->(On gs j↔L (Q1n t 0 j))
theorem z75(p t:ByteArray)(L:Q03)(w:World)(hs:p.size<=1000)(ht:t.size<=210)(h:Q8u p L) :
  Calls Tryz.prog 48 #[.string p,.string t] w fun e w'=>LenRet L t w e w':=by
 have TH:=hid (z77 p.size p L (qR _) hs h t);have mk:=fun w=>run_make_row' (P:=Tryz.prog) 118 4 (.bool false) 1 qCw (by kernel_rfl) rfl .i64 .i64 (t.size+1) (by omega) (by omega) w;simp only[Int.natCast_add,Int.cast_ofNat_Int]at mk;have hB:Q1x (w.alloc (.cells (madeCells #[.bool false] (t.size+1)) 4)) w.heap.size (List.replicate (t.size+1) false):=by
  rw[z03];exact z0a _ _
 have c0:=hB.cell (j:=0) (by simp);have f0:=hB.frozen 0;have e0:(List.replicate (t.size+1) false).getD 0 false=false:=by simp
 rw[e0]at c0;have HB:Hid (Q1x (w.alloc (.cells ((madeCells #[.bool false] (t.size+1)).setIfInBounds 0 (.bool true)) 4)) w.heap.size ((List.replicate (t.size+1) false).set 0 true)):=by
  unfold Hid Q1x;rw[z0a,z03];congr 2
 have k1:(0:Int)<(t.size:Int)+1:=by omega
 clear hB e0;go_enter Tryz.func48,Tryz.ntmps48
 go_wp2_with (first
  |(go_at_call 81;refine(TH.out w.heap.size _ _ ht HB.out (by simp)).mono ?_;rintro e w1⟨g3,ns,rfl,q1,q2,q3⟩;have HN:=hid (And.intro q1 (And.intro q2 q3));clear q1 q2 q3))
 go_ret;obtain⟨q1,q2,q3⟩:=HN.out;refine⟨g3,ns,rfl,((mRf _ w).alloc _).trans q1,q2,q3.len,fun j hj=>?_⟩;rw[q3.on j hj];exact x00
def MatRet(L:Q03)(t:ByteArray)(w:World)(e:Ending)(w':World):Prop :=
 ∃b:Bool,e=.returned (.bool b)/\(b=true↔L (Q36 t))/\Q0a w w'
theorem y6f(p t:ByteArray)(L:Q03)(w:World)(hs:p.size<=1000)(ht:t.size<=210)(h:Q8u p L) :
  Calls Tryz.prog 43 #[.string p,.string t] w fun e w'=>MatRet L t w e w':=by
 have LE:=hid (z75 p t L w hs ht h);have k1:(t.size:Int)<(t.size:Int)+1:=by omega
 clear h;go_enter Tryz.func43,Tryz.ntmps43
 go_wp2_with (first
  |(go_at_call 48;refine(LE.out).mono ?_;rintro e w1⟨g3,ns,rfl,q1,q2,q3,q4⟩;have hc:=q2.cell (j:=t.size) (by omega);have HN:=hid (And.intro q1 (q4 t.size (qR _)));clear q1 q2 q3 q4))
 go_ret;obtain⟨q1,q2⟩:=HN.out;refine⟨_,rfl,?_,q1⟩;show _↔L (Q1n t 0 t.size);rw[← q2,z2e,qD]
end Go.Proofs.YtbdpfmalabgmbaaGreat
