import Derived.Test.YtcpceafmlgaodaaGreatRh4
import Derived.Deep.LoopGhost
namespace Go.Proofs.YtcpceafmlgaodaaGreat
open Go.RowKit
set_option maxRecDepth 99999
set_option maxHeartbeats 0
set_option linter.all false
def Q81(rs:List ZLV)(s:ByteArray):Nat->Nat->Int
 |0,_=>-1
 |f+1,i=>match rs[i]? with
  |none=>-1
  |some x=>if(x.ln.name.toList==s.toList)=true then(if x.ln.skip=true then -1 else(i:Int)) else Q81 rs s f (i+1)
def Q8l(X:SP)(s:ByteArray):Int :=
 if Q1a (atB s 0)=true then(if Q1v X.heads s<0 then -1 else(X.rules.length:Int)+1+Q1v X.heads s)
 else Q81 X.rules s (X.rules.length+1) 0
theorem y6y(rs:List ZLV)(s:ByteArray)(f i:Nat):Q81 rs s (f+1) i=match rs[i]? with
  |none=>-1
  |some x=>if(x.ln.name.toList==s.toList)=true then(if x.ln.skip=true then -1 else(i:Int)) else Q81 rs s f (i+1):=rfl
theorem Q2q.rules{w:World}{b:Nat}{X:SP}{v0 v1 v2 v3 v4:Value}{sv:List Value}(h:Q2q w b X v0 v1 v2 v3 v4 sv):Q2e ZLV.cells 7 85 w v0 X.rules:=⟨z0f (h.own 0 _ rfl) (qBg _),fun x _=>rfl⟩
theorem Q2q.prods{w:World}{b:Nat}{X:SP}{v0 v1 v2 v3 v4:Value}{sv:List Value}(h:Q2q w b X v0 v1 v2 v3 v4 sv):Q2e ZLV.cells 7 85 w v1 X.prods:=⟨z0f (h.own 1 _ rfl) (qBg _),fun x _=>rfl⟩
theorem y5s(l:List ByteArray)(s:ByteArray):-1<=Q1v l s/\Q1v l s<=l.length:=by unfold Q1v;split<;>omega
theorem y0f(w:World)(b:Nat)(X:SP)(v0 v1 v2 v3 v4:Value)(sv:List Value)(s:ByteArray)(h:Q2q w b X v0 v1 v2 v3 v4 sv)(hs:0<s.size)(hr:X.rules.length<=1000)(hh:X.heads.length<=1000) :
  Calls Tryz.prog 31 #[.pointer (some ⟨b,0,none⟩),.string s] w fun e w'=>e=.returned (.int .i64 (Q8l X s))/\w'=w:=by
 have hb:=z1r hs;have j4:s[0].toNat<256:=s[0].toNat_lt;have ZG:=hid (fun w=>z7d (s[0].toNat:Int) w);have FI:=hid (fun w=>z6r X.heads s v2 w);have k0:=Q2q.cell h 0;have k2:=Q2q.cell h 2;simp at k0 k2;have j2:=z69 (h.own 2 _ rfl);have FX:=hid (z6r X.heads s v2 w j2 hh);have fb:=y5s X.heads s;unfold Q8l;have j1:atB s 0=(s[0].toNat:Int):=hb;rw[j1];generalize Q1a (s[0].toNat:Int)=cp at ZG ⊢;have j3:(0:Int)<(s.size:Int):=by omega
 obtain⟨a0,cp0,hv0⟩:=z0d (h.own 0 _ rfl);obtain⟨a2,cp2,hv2⟩:=z0d (h.own 2 _ rfl);have j0:=hid h.rules;dsimp only at hv0 hv2;subst hv0 hv2;clear hb j1 h j2 FI;cases cp
 ·rw[qAa (by simp)];generalize hV:Q81 X.rules s (X.rules.length+1) 0=V;have HV:=hid hV;clear hV FX fb;go_enter Tryz.func31,Tryz.ntmps31
  go_wp2_with (first
   |(go_at_call 64;refine csm (ZG.out _) ?_))
  go_loopw [6] (fun x6 wr=>∃(i f:Nat),x6=.int .i64 i/\wr=w/\i<=X.rules.length/\X.rules.length+1<=f+i/\Q81 X.rules s f i=V)
    (fun x _=>1001-(intOf x).toNat)
  case atStart=>exact⟨0,X.rules.length+1,rfl,rfl,by omega,by omega,HV.out⟩
  obtain⟨i,f,rfl,rfl,hi,hf,hrec⟩:=hrel;obtain⟨f,rfl⟩:∃g,f=g+1:=⟨f-1,by omega⟩;rw[y6y]at hrec;clear HV;by_cases hlt:i<X.rules.length
  ·have k1:(i:Int)<(X.rules.length:Int):=by omega
   rw[qE hlt]at hrec;obtain⟨g,cap',hv⟩:=Joins.ownsRow_form j0.own (by omega);rw[qI]at hv;obtain⟨rfl,_,rfl⟩:=hv;have c1:=j0.cell i 1 hlt (by omega);have c2:=j0.cell i 2 hlt (by omega);generalize X.rules[i]=x at hrec c1 c2;obtain⟨⟨xr,xk,xn,xp,xsy,xpl⟩,vs,vp,pl⟩:=x;simp[ZLV.cells]at c1 c2;dsimp only at hrec;cases h1:(xn.toList==s.toList)
   ·rw[h1,qAa (by simp)]at hrec;have HR:=hid hrec;clear hrec;go_wp2;go_roundw
    case rel=>exact⟨i+1,f,by go_num,by first|rfl|trivial,by omega,by omega,HR.out⟩
    simp[intOf];omega
   rw[h1,qAb rfl]at hrec;cases xk
   ·rw[qAa (by simp)]at hrec;have HR:=hid hrec;clear hrec;go_wp2;go_ret;exact⟨by rw[← HR.out];rfl,rfl⟩
   rw[qAb rfl]at hrec;have HR:=hid hrec;clear hrec;go_wp2;go_ret;exact⟨by rw[← HR.out];rfl,rfl⟩
  have k1:¬(i:Int)<(X.rules.length:Int):=by omega
  rw[qN (by omega)]at hrec;have HR:=hid hrec;clear hrec;go_wp2;go_ret;exact⟨by rw[← HR.out];rfl,rfl⟩
 rw[qAb rfl];generalize Q1v X.heads s=fd at FX fb ⊢;obtain⟨fb1,fb2⟩:=fb;by_cases hf:fd<0
 ·rw[qAb hf];go_enter Tryz.func31,Tryz.ntmps31
  go_wp2_with (first
   |(go_at_call 64;refine csm (ZG.out _) ?_)
   |(go_at_call 62;refine csm FX.out ?_))
  go_ret;exact⟨rfl,rfl⟩
 rw[qAa hf];go_enter Tryz.func31,Tryz.ntmps31
 go_wp2_with (first
  |(go_at_call 64;refine csm (ZG.out _) ?_)
  |(go_at_call 62;refine csm FX.out ?_))
 go_ret;exact⟨rfl,rfl⟩
def Q7b(X:SP)(x:ZLV):Nat->Nat->Option Int
 |0,_=>none
 |f+1,j=>match x.ln.syms[j]? with
  |none=>none
  |some n=>if Q8l X n<0 then some (x.pl+x.ln.places.getD j 0) else Q7b X x f (j+1)
theorem y2y(X:SP)(x:ZLV)(f j:Nat):Q7b X x (f+1) j=match x.ln.syms[j]? with
  |none=>none
  |some n=>if Q8l X n<0 then some (x.pl+x.ln.places.getD j 0) else Q7b X x f (j+1):=rfl
def Q3g(X:SP):List ZLV->List ByteArray->Int
 | [],_=>-1
 |x::l,ahead =>
  if x.ln.rule=true/\0<=Q1v ahead x.ln.name then x.pl
  else match Q7b X x (x.ln.syms.length+1) 0 with
   |some p=>p
   |none=>Q3g X l (if x.ln.rule=true then ahead++[x.ln.name] else ahead)
structure ZOk(x:ZLV):Prop where
 ne:∀n∈x.ln.syms,0<n.size
 len:x.ln.places.length=x.ln.syms.length
 small:x.ln.syms.length<=1000
 pl:0<=x.pl/\x.pl<=1000
 pls:∀p∈x.ln.places,0<=p/\p<=1000
theorem x04(w:World)(b B0:Nat)(X:SP)(v0 v1 v2 v3 v4 v:Value)(sv:List Value)(xs:List ZLV)(h:Q2q w b X v0 v1 v2 v3 v4 sv)(hL:Q4x B0 w v xs)(hr:X.rules.length<=1000)(hh:X.heads.length<=1000)(hn:xs.length<=1000)(hok:∀x∈xs,ZOk x) :
  Calls Tryz.prog 29 #[.pointer (some ⟨b,0,none⟩),v] w fun e w'=>e=.returned (.int .i64 (Q3g X xs []))/\Q0a w w':=by
 obtain⟨i0,hi0,hz0,hz1,hz2⟩:=Q8j;have NU:=hid (fun(w':World) (hf:Q0a w w') (s:ByteArray) (hs:0<s.size)=>y0f w' b X v0 v1 v2 v3 v4 sv s (h.fresh hf) hs hr hh);have HL:=hid (fun w' (hf:Q0a w w')=>hL.kept hf (fun _ _ x=>x));have jh:=hid hok;obtain⟨ao,cap,hv⟩:=z0d hL.own;subst hv;generalize hR:Q3g X xs []=R;have HR:=hid hR;clear hL hR h hok;go_enter Tryz.func29,Tryz.ntmps29
 go_wp2;go_loopw [5,6] (fun x5 x6 wr=>∃(i:Nat) (ah:List ByteArray),x6=.int .i64 i/\i<=xs.length/\ah.length<=i/\Q3g X (xs.drop i) ah=R/\wr.ownsRow w.heap.size 9 1 x5 ah.length (Q9t ah)/\Q0a w wr)
   (fun _ x _=>1001-(intOf x).toNat)
 case atStart=>exact⟨0,[],rfl,by omega,by simp,HR.out,World.ownsRow_nil _ _ _ _,mRf _ _⟩
 obtain⟨i,ah,rfl,hi,hal,hrec,hown,hfr⟩:=hrel;clear HR;have j6:=hid (HL.out wr hfr);have HF:=hid hfr;have HO:=hid hown;have ji:Hid (1001-(intOf (.int .i64 ((i:Int)+1))).toNat<1001-(intOf (.int .i64 (i:Int))).toNat):=by unfold Hid;simp[intOf];omega
 obtain⟨aa,ca,hva⟩:=z0d hown;subst hva;by_cases hlt:i<xs.length
 ·have jm:(i:Int)<(xs.length:Int):=by omega
  obtain⟨g,cap',hv⟩:=Joins.ownsRow_form j6.own (by omega);rw[qI]at hv;obtain⟨rfl,_,rfl⟩:=hv;rw[qC hlt,Q3g]at hrec;have j7:=j6.each xs[i] (by simp);have ja:=jh.out xs[i] (by simp);have j8:=hid (fun(W:World) (hW:Q0a w W)=>(HL.out W hW).each xs[i] (by simp));have j1:=fun(W:World) (hW:Q0a w W) j hj=>(HL.out W hW).row.cell i j hlt hj;generalize hx:xs[i]=x at hrec j7 j1 ja j8;obtain⟨⟨xr,xk,xn,xp,xsy,xpl⟩,vs,vp,pl⟩:=x;obtain⟨so,sc,hvs⟩:=z0d j7.syms;obtain⟨po,pc,hvp⟩:=z0d j7.places;dsimp only at hvs hvp;subst hvs hvp;have HC:Hid (∀W,Q0a w W->W.cell? ⟨g,i*7,none⟩=some (.bool xr)/\W.cell? ⟨g,i*7+2,none⟩=some (.string xn)/\W.cell? ⟨g,i*7+4,none⟩=some (.slice so xsy.length sc)/\W.cell? ⟨g,i*7+5,none⟩=some (.slice po xpl.length pc)/\W.cell? ⟨g,i*7+6,none⟩=some (.int .i64 pl)):=fun W hW=>by
   exact⟨j1 W hW 0 (by omega),j1 W hW 2 (by omega),j1 W hW 4 (by omega),j1 W hW 5 (by omega),j1 W hW 6 (by omega)⟩
  obtain⟨c0,c2,c4,c5,c6⟩:=HC.out wr hfr;have FI:=hid (z6r ah xn _ wr (z69 hown) (by omega));have fb:=y5s ah xn;dsimp only at hrec;have j0:=hid hrec;have HZ:=hid ja;have jl:=(j6.own.lt g rfl).2;clear hrec j7 j1 hx hfr hown ja;go_upto_if 20 with fail
  go_cut [5,7] (fun x5 _ wx=>∃ah2,ah2.length<=i+1/\(¬(xr=true/\0<=Q1v ah xn))/\ah2=(if xr=true then ah++[xn] else ah)/\wx.ownsRow w.heap.size 9 1 x5 ah2.length (Q9t ah2)/\Q0a w wx)
  case first =>
   cases xr
   ·go_wp2_with fail
    go_meet;exact⟨ah,by omega,by simp,rfl,HO.out,HF.out⟩
   generalize hfd:Q1v ah xn=fd at FI fb j0;have jg:=hid hfd;clear hfd;obtain⟨fb1,fb2⟩:=fb;by_cases hf:0<=fd
   ·have j4:Hid (pl=R):=by
     have:=j0.out;rw[qAb ⟨rfl,hf⟩]at this;exact this
    clear j0;go_wp2_with (first
     |(go_at_call 62;refine csm FI.out ?_))
    go_ret;exact⟨by rw[← j4.out];rfl,HF.out⟩
   have jk:fd=-1:=by omega
   subst jk;go_wp2_with (first
    |(go_at_call 62;refine csm FI.out ?_)
    |(at_builtin;refine z0g _ rfl _ _ 51 rfl w.heap.size 9 i0 _ 1 16 Tryz.underlying51 hi0 hz0 hz1 hz2 rfl (by decide) _ _ _ rfl (HO.alloc _) ⟨wr.heap.size,0,none⟩ 1 1 [.string xn] rfl rfl (z0l rfl) (by intro u hu;simp at hu;subst hu;rfl) (by unfold maxLen;omega) (by omega) (by have:=HF.size;simp;omega) ?_;intro v' w2 hown2 hgrow hblk;have jc:Q0a w w2:=Mod.grown (S:=fun _=>False) (HF.alloc _) hgrow (fun k hk hlt=>by have:=(HO.lt k hk).1;omega);have j9:=hid hown2;have j3:=hid jc;clear hown2 hgrow hblk jc))
   go_meet;refine⟨ah++[xn],by simp;omega,by rw[jg.out];simp,by simp,?_,j3.out⟩;rw[qP,qAf];have e1:=qBf (f:=Value.string) (l₁:=ah) (l₂:=[xn]);rw[qCf]at e1;show World.ownsRow _ _ _ _ _ _ (List.map _ _);rw[e1];exact j9.out
  obtain⟨ah2,hal2,hno,hah,hown2,hfr2⟩:=hcut;have j4:Hid ((match Q7b X ⟨⟨xr,xk,xn,xp,xsy,xpl⟩,.slice so xsy.length sc,.slice po xpl.length pc,pl⟩ (xsy.length+1) 0 with|some p=>p|none=>Q3g X (xs.drop (i+1)) ah2)=R):=by
   have:=j0.out;rw[qAa hno,← hah]at this;exact this
  have j9:=hid hown2;have j3:=hid hfr2;obtain⟨ab,cb,hvb⟩:=z0d hown2;obtain⟨d0,d2,d4,d5,d6⟩:=HC.out wc hfr2;have js:g<wc.heap.size:=((HL.out wc hfr2).own.lt g rfl).2;have j5:=hid (j8.out wc hfr2);clear j0 c0 c2 c4 c5 c6 FI fb hno hah hown2 hfr2 HO HF j6 jl HC j8;subst hvb;generalize hSZ:Q7b X ⟨⟨xr,xk,xn,xp,xsy,xpl⟩,.slice so xsy.length sc,.slice po xpl.length pc,pl⟩ (xsy.length+1) 0=SZ at j4;have jb:=hid hSZ;clear hSZ;go_wp2_with fail
  go_loopw [8] (fun x8 wr=>∃(j f:Nat),x8=.int .i64 j/\wr=wc/\j<=xsy.length/\xsy.length+1<=f+j/\Q7b X ⟨⟨xr,xk,xn,xp,xsy,xpl⟩,.slice so xsy.length sc,.slice po xpl.length pc,pl⟩ f j=SZ)
    (fun x _=>1001-(intOf x).toNat)
  case atStart=>exact⟨0,xsy.length+1,rfl,by first|rfl|trivial,by omega,by omega,jb.out⟩
  obtain⟨j,f,rfl,rfl,hj,hf,hrec⟩:=hrel;obtain⟨f,rfl⟩:∃k,f=k+1:=⟨f-1,by omega⟩;rw[y2y]at hrec;clear jb;dsimp only at hrec;have jq:=HZ.small;dsimp only at jq;by_cases hjl:j<xsy.length
  ·have k1:(j:Int)<(xsy.length:Int):=by omega
   rw[qE hjl]at hrec;dsimp only at hrec;obtain⟨gs,cs,hvs⟩:=Joins.ownsRow_form j5.syms (by dsimp only;omega);rw[qI]at hvs;obtain⟨rfl,_,rfl⟩:=hvs;have jr:wr.cell? ⟨gs,j,none⟩=some (.string xsy[j]):=by
    have:=j5.syms.cells (g:=gs) rfl j (.string xsy[j]) (by simp[hjl]);rwa [Addr.add_mid,qBi]at this
   have jp:=HZ.ne xsy[j] (by simp);have NX:=hid (NU.out wr j3.out xsy[j] jp);generalize Q8l X xsy[j]=nn at NX hrec;by_cases hn0:nn<0
   ·rw[qAb hn0]at hrec;have jf:=HZ.len;dsimp only at jf;have je:j<xpl.length:=by omega
    have k2:(j:Int)<(xpl.length:Int):=by omega
    obtain⟨gp,cp,hvp⟩:=Joins.ownsRow_form j5.places (by dsimp only;omega);rw[qI]at hvp;obtain⟨rfl,_,rfl⟩:=hvp;have jj:wr.cell? ⟨gp,j,none⟩=some (.int .i64 xpl[j]):=by
     have:=j5.places.cells (g:=gp) rfl j (.int .i64 xpl[j]) (by simp[je]);rwa [Addr.add_mid,qBi]at this
    have jn:=HZ.pl;have jo:=HZ.pls xpl[j] (by simp);dsimp only at jn;have jd:xpl.getD j 0=xpl[j]:=by simp[je]
    rw[jd]at hrec;clear jd jf;have j2:Hid (pl+xpl[j]=R):=by
     have:=j4.out;rw[← hrec]at this;exact this
    clear hrec;generalize xpl[j]=q at jj jo j2;go_wp2_with (first
     |(go_at_call 31;refine csm NX.out ?_))
    go_quiet (fail);go_wp2;go_ret;refine⟨?_,j3.trans (Q4l _ _)⟩;rw[← j2.out];rfl
   rw[qAa hn0]at hrec;have j2:=hid hrec;clear hrec;go_wp2_with (first
    |(go_at_call 31;refine csm NX.out ?_))
   go_roundw
   case rel=>exact⟨j+1,f,by go_num,by first|rfl|trivial,by omega,by omega,j2.out⟩
   simp[intOf];omega
  have k1:¬(j:Int)<(xsy.length:Int):=by omega
  rw[qN (by omega)]at hrec;have j2:Hid (Q3g X (xs.drop (i+1)) ah2=R):=by
   have:=j4.out;rw[← hrec]at this;exact this
  clear hrec;go_wp2;go_roundw
  case rel=>exact⟨i+1,ah2,by go_num,by omega,hal2,j2.out,j9.out,j3.out⟩
  exact ji.out
 have jm:¬(i:Int)<(xs.length:Int):=by omega
 rw[qAi (by omega),Q3g]at hrec;have j0:=hid hrec;clear hrec;go_wp2;go_ret;exact⟨by rw[← j0.out];rfl,HF.out⟩
abbrev Pc(s:ByteArray):Int->LR:=Q1r (Q3i (lgK s 6) s) s
abbrev Am(s:ByteArray):Int->LR:=Q3i (lgK s 6) s
def Q89(p:ByteArray)(L:Q02):Prop:=Q6q p 6 0=⟨p.size,true,L⟩
def PceIs(p:ByteArray)(L:Q02):Prop:=Pc p 0=⟨p.size,true,L⟩
def Q8q(p:ByteArray)(L:Q02):Prop:=Am p 0=⟨p.size,true,L⟩
theorem y9b(p:ByteArray)(hp:p.size<=80000):AtmC p 0 (Q3r (zgK p 6) p):=y0e p 6 0 hp (by omega) (fun k' e=>y3b p hp k' 1 (by omega))
theorem y9g(p:ByteArray)(hp:p.size<=80000):PceC p 0 (Q4b (Q3r (zgK p 6) p) p):=z7e p 6 0 hp (y9b p hp)
theorem x28(s:ByteArray):Q3t s (Pc s):=z6c s 6
theorem v1l(s:ByteArray):Q3t s (Am s):=z2r s 6
theorem x3e(s s':ByteArray):Loc s s' (Pc s) (Pc s'):=z9f (z77 (y8e s s' 6 6 (qR _)) (z2r s 6)) (z2r s 6)
theorem v1m(s s':ByteArray):LocA s s' (Am s) (Am s'):=z77 (y8e s s' 6 6 (qR _)) (z2r s 6)
theorem z51{s:ByteArray}{a e:Nat}(he:e<=s.size){x:Int}(h0:0<=x):Q3a s (a+x) (s.extract a e) x (e-a-x.toNat):=fun j hj=>by
 rw[z02 he (by omega) (by omega)];congr 1;omega
theorem z3q{s:ByteArray}{a e:Nat}(he:e<=s.size):(s.extract a e).size=e-a:=by rw[qAz];omega
theorem v0g{u:ByteArray}{i j:Nat}{A:Q02}(h:Pc u i=⟨(j:Int),true,A⟩)(hi:i<=u.size):PceIs (u.extract i j) A/\i<j/\j<=u.size:=by
 have g:=x28 u i (by omega) (by omega) (by rw[h]);rw[h]at g;dsimp only at g;have j0:=z3q (s:=u) (a:=i) (e:=j) (by omega);refine⟨?_,by omega,by omega⟩;have al:=z51 (s:=u) (a:=i) (e:=j) (by omega) (x:=0) (by omega);rw[qCs]at al;have sm:=x3e u (u.extract i j) i 0 (j-i) (by omega) (by omega) (by omega) al (by rw[z18 (by omega)];decide) (by rw[h]) (by rw[h];dsimp only;omega);unfold PceIs;rw[z2k sm.ok,sm.next,sm.lang,h];dsimp only;congr 1;omega
theorem x89{q:ByteArray}{n:Nat}{A:Q02}(h:Am q 0=⟨(n:Int),true,A⟩):Q8q (q.extract 0 n) A/\0<n/\n<=q.size:=by
 have g:=v1l q 0 (by omega) (by omega) (by rw[h]);rw[h]at g;dsimp only at g;have j0:=z3q (s:=q) (a:=0) (e:=n) (by omega);refine⟨?_,by omega,by omega⟩;have al:=z51 (s:=q) (a:=0) (e:=n) (by omega) (x:=0) (by omega);have sm:=v1m q (q.extract 0 n) 0 0 (n-0) (by omega) (by omega) (by omega) al (by rw[h]) (by rw[h];dsimp only;omega);unfold Q8q;rw[z2k sm.ok,sm.next,sm.lang,h];dsimp only;congr 1;omega
theorem x9m{a:ByteArray}{A:Q02}(h:Q8q a A)(h40:atB a 0=40):Q89 (a.extract 1 (a.size-1)) A/\3<=a.size:=by
 unfold Q8q Am Q3i at h;rw[qAb h40]at h;have h':Q56 (Q6q a 5) a 0=⟨a.size,true,A⟩:=h;unfold Q56 at h';by_cases c1:(Q6q a 5 (0+1)).ok=false
 ·rw[qAb c1]at h';injection h' with _ e;cases e
 rw[qAa c1]at h';have j0:(Q6q a 5 1).ok=true:=by simpa using c1
 by_cases c2:atB a (Q6q a 5 (0+1)).next≠41
 ·rw[qAb c2]at h';injection h' with _ e;cases e
 rw[qAa c2]at h';injection h' with e1 _ e3;have hn:(Q6q a 5 ((1:Nat):Int)).next+1=a.size:=e1;have j2:=z0q (s:=a) (i:=0) (by omega);have g:=y4a a 5 ((1:Nat):Int) (by omega) (by omega) j0;have j3:=z3q (s:=a) (a:=1) (e:=a.size-1) (by omega);refine⟨?_,by omega⟩;have al:=z51 (s:=a) (a:=1) (e:=a.size-1) (by omega) (x:=0) (by omega);rw[qCs]at al;have sm:=y16 a (a.extract 1 (a.size-1)) (show 5<=6 by omega) ((1:Nat):Int) 0 (a.size-1-1) (by omega) (by omega) (by omega) al (by rw[z18 (by omega)];decide) j0 (by omega);unfold Q89;rw[z2k sm.ok,sm.next,sm.lang];have j1:(Q6q a 5 ((1:Nat):Int)).lang=A:=e3;rw[j1];congr 1;omega
theorem y8r{s:ByteArray}:∀{As:List Q02}{x y:Int},Row (Pc s) x As y->0<=x->x<=s.size->x<=y/\y<=s.size
 | [],x,y,h,_,h1=>by have:x=y:=h;omega
 |A::As,x,y,⟨h1,h2,h3⟩,h0,hs=>by
  have g:=x28 s x h0 hs h1;have:=y8r h3 (by omega) (by omega);omega
theorem x4m{p:ByteArray}{b x:Nat}(hx:x<=p.size):∀{As:List Q02}{y:Int},Row (Pc p) y As x->(b:Int)<=y->Row (Pc (p.extract b x)) (y-b) As ((x:Int)-b)
 | [],y,h,hb=>by have:y=x:=h;show y-b=(x:Int)-b;omega
 |A::As,y,⟨h1,h2,h3⟩,hb=>by
  have hy:y<p.size:=by
   have:=z0q (s:=p) (i:=y) (y3h (z28 h1));omega
  have g:=x28 p y (by omega) (by omega) h1;have j0:=y8r h3 (by omega) (by omega);have j1:=z3q (s:=p) (a:=b) (e:=x) hx;have al:=z51 (s:=p) (a:=b) (e:=x) hx (x:=y-b) (by omega);rw[show(b:Int)+(y-b)=y by omega]at al;have sm:=x3e p (p.extract b x) y (y-b) (x-b-(y-b).toNat) (by omega) (by omega) (by omega) al (by rw[z18 (by omega)];decide) h1 (by omega);refine⟨sm.ok,by rw[sm.lang];exact h2,?_⟩;rw[sm.next,show(Pc p y).next-y+(y-(b:Int))=(Pc p y).next-b by omega];exact x4m hx h3 (by omega)
theorem x72(a:ByteArray)(A:Q02)(hs:a.size<=1000)(h:Q8q a A)(ih:∀p L,p.size+2<=a.size->Q89 p L->SetC 91 p L):SetC 130 a A:=by
 by_cases h40:atB a 0=40
 ·obtain⟨hp,h3⟩:=x9m h h40;have j2:=z3q (s:=a) (a:=1) (e:=a.size-1) (by omega);have TH:=ih _ A (by omega) hp;intro t g fs w ht hg hl;have TX:=hid (TH t g fs w ht hg hl);have j0:0<a.size:=by omega
  have b0:atB a 0=(a[0].toNat:Int):=z1r j0;have j1:a[0].toNat<256:=a[0].toNat_lt;rw[b0]at h40;have j3:((a[0].toNat:Int)==40)=true:=by simp[h40]
  have p0:(0:Int)<(a.size:Int):=by omega
  have p1:(1:Int)<=(a.size:Int)-1:=by omega
  have p2:(a.size:Int)-1<=(a.size:Int):=by omega
  have p3:((a.size:Int)-1).toNat=a.size-1:=by omega
  clear hg hl b0 h40 h hp TH ih;go_enter Tryz.func130,Tryz.ntmps130
  go_wp2_with (first
   |(go_at_call 91;refine(TX.out).mono ?_;rintro e w1⟨g',gs,rfl,q⟩;have HQ:=hid q;clear q))
  go_ret;exact⟨g',gs,rfl,HQ.out⟩
 unfold Q8q Am Q3i at h;rw[qAa h40]at h;by_cases c:(Q2n a 0).2.2=false
 ·rw[qAb c]at h;injection h with _ e;cases e
 rw[qAa c]at h;injection h with e1 _ e3;have:=x5n a (by omega) h40 (by simpa using c) e1;rw[e3]at this;exact this
def Q9d(fs:List Bool):Nat:=(fs.filter (fun b=>!b)).length
theorem y6s:∀{as' bs:List Bool},as'.length=bs.length->(∀j,On as' j->On bs j)->Q9d bs<=Q9d as'
 | [],[],_,_=>qR _
 |a::as',b::bs,hl,h=>by
  have hl':as'.length=bs.length:=by simpa using hl
  have ih:=y6s hl' (fun j hj=>by have:=h (j+1) (by simpa [On]using hj);simpa [On]using this);unfold Q9d at ih ⊢;rw[qAj,qAj];cases a
  ·cases b<;>simp<;>omega
  have:=h 0 (by simp[On]);simp[On]at this;subst this;simpa using ih
 | [],b::bs,hl,_=>by simp at hl
 |a::as',[],hl,_=>by simp at hl
theorem x3q:∀{as' bs:List Bool},as'.length=bs.length->(∀j,On as' j->On bs j)->(∃j,On bs j/\¬On as' j)->Q9d bs<Q9d as'
 | [],[],_,_,⟨j,h,_⟩=>by simp[On]at h
 |a::as',b::bs,hl,h,hex=>by
  have hl':as'.length=bs.length:=by simpa using hl
  have hs:∀j,On as' j->On bs j:=fun j hj=>by have:=h (j+1) (by simpa [On]using hj);simpa [On]using this
  have ih:=y6s hl' hs;obtain⟨j,h1,h2⟩:=hex;unfold Q9d at ih ⊢;rw[qAj,qAj];cases j with
  |zero =>
   simp[On]at h1 h2;subst h1;have j1:a=false:=by simpa using h2
   subst j1;simp;omega
  |succ j =>
   have j0:=x3q hl' hs ⟨j,by simpa [On]using h1,by simpa [On]using h2⟩;unfold Q9d at j0;cases a
   ·cases b<;>simp<;>omega
   have:=h 0 (by simp[On]);simp[On]at this;subst this;simpa using j0
 | [],b::bs,hl,_,_=>by simp at hl
 |a::as',[],hl,_,_=>by simp at hl
theorem x90{xs ys:List Bool}{n:Nat}(h:moI xs ys n=true):∃j,On ys j/\¬On xs j:=by
 unfold moI at h;rw[qAq]at h;obtain⟨j,_,hj⟩:=h;rw[qAc,Bool.not_eq_true']at hj;exact⟨j,z3l.2 hj.1,fun q=>by rw[z3l,hj.2]at q;cases q⟩
theorem x6m{xs ys:List Bool}{n:Nat}(h:moI xs ys n=false)(hl:ys.length=n):∀j,On ys j->On xs j:=by
 intro j hj;cases hx:xs.getD j false
 ·exfalso;have:moI xs ys n=true:=by
   unfold moI;rw[qAq];exact⟨j,by have:=hj.lt;simp;omega,by rw[hx,z3l.1 hj];rfl⟩
  rw[this]at h;cases h
 exact z3l.2 hx
theorem x94(fs:List Bool):Q9d fs<=fs.length:=qCw _ _
theorem x33{q:ByteArray}{L:Q02}(h:PceIs q L):∃(n:Nat) (A:Q02),Am q 0=⟨(n:Int),true,A⟩/\0<n/\n<=q.size/\Q8q (q.extract 0 n) A/\∀w,L w↔Q5m (Q8k q (q.size+1) n (false,false)).1 (Q8k q (q.size+1) n (false,false)).2 A w:=by
 have j1:(Pc q 0).ok=true:=by rw[h]
 have ha:(Am q 0).ok=true:=y2d j1;have g:=v1l q 0 (by omega) (by omega) ha;obtain⟨n,hn⟩:∃n:Nat,(Am q 0).next=n:=⟨(Am q 0).next.toNat,by omega⟩;have e:Am q 0=⟨(n:Int),true,(Am q 0).lang⟩:=by rw[← hn];exact z2k ha
 obtain⟨h1,h2,h3⟩:=x89 e;refine⟨n,(Am q 0).lang,e,h2,h3,h1,?_⟩;have h':Q2a q (q.size+5) (Am q 0)=⟨q.size,true,L⟩:=h;rw[e]at h';have j0:=z9m (s:=q) (A:=(Am q 0).lang) (q.size+5) (q.size+1) n (Am q 0).lang (false,false) (fun w=>(y70 _ w).symm) (by omega) (by omega) h3 (by rw[h']);rw[h']at j0;exact j0
theorem Q58.same{A:Q02}{t:ByteArray}{fs gs hs:List Bool}(h:Q58 A t fs gs)(hl:hs.length=t.size+1)(e:∀j,On hs j↔On gs j):Q58 A t fs hs:=⟨hl,fun j hj=>by rw[e,h.on j hj]⟩
structure Way(A:Q02)(t:ByteArray)(fs os:List Bool):Prop where
 len:os.length=t.size+1
 lo:∀j,j<=t.size->Q5d A t (On fs) j->On os j
 hi:∀j,On os j->j<=t.size->Q5d (Q5m false true A) t (On fs) j
theorem x5c{A:Q02}{t:ByteArray}{fs os:List Bool}(h:Q58 A t fs os):Way A t fs os :=
 ⟨h.len,fun j hj r=>(h.on j hj).2 r,fun j ho hj=>x63 ((h.on j hj).1 ho)⟩
theorem x7w{A:Q02}{t:ByteArray}{fs os ns:List Bool}(h:Way A t fs os)(hn:Q58 A t os ns):Way A t fs (orI os ns (t.size+1) (t.size+1))/\Q9d (orI os ns (t.size+1) (t.size+1))<=Q9d os/\(moI os ns (t.size+1)=true->Q9d (orI os ns (t.size+1) (t.size+1))<Q9d os)/\(moI os ns (t.size+1)=false->Q58 (Q5m false true A) t fs (orI os ns (t.size+1) (t.size+1))):=by
 have u:=v0b (xs:=os) (ys:=ns) h.len;have j0:∀j,On os j->On (orI os ns (t.size+1) (t.size+1)) j:=fun j hj=>(u.on j).2 (.inl hj);have j1:os.length=(orI os ns (t.size+1) (t.size+1)).length:=u.len.symm;have hL:=h.len;refine⟨⟨by rw[z2l],fun j hj r=>j0 j (h.lo j hj r),fun j ho hj=>?_⟩,y6s j1 j0,fun hm=>?_,fun hm=>?_⟩
 ·rcases(u.on j).1 ho with q|⟨_,q⟩
  ·exact h.hi j q hj
  obtain⟨i,i1,i2,i3⟩:=(hn.on j hj).1 q;exact x34 hj ⟨i,i1,h.hi i i2 (by omega),i3⟩
 ·obtain⟨j,q1,q2⟩:=x90 hm;refine x3q j1 j0 ⟨j,(u.on j).2 (.inr ⟨?_,q1⟩),q2⟩;have:=q1.lt;rw[hn.len]at this;omega
 have j2:=x6m hm hn.len;have hc:=y6w h.len h.lo h.hi hn j2;refine hc.same (by rw[z2l]) (fun j=>⟨fun q=>?_,j0 j⟩);rcases(u.on j).1 q with z|⟨_,z⟩
 ·exact z
 exact j2 j z
theorem x2d{A:Q02}{t:ByteArray}{fs os:List Bool}(m:Bool)(h:Q58 (Q5m false m A) t fs os)(hl:fs.length=t.size+1):Q58 (Q5m true m A) t fs (orI os fs (t.size+1) (t.size+1)):=by
 have u:=v0b (xs:=os) (ys:=fs) h.len;refine(Q58.alt h (y73 hl) u).iff (fun w=>?_);unfold Q02.alt Q5m epsL;constructor
 ·rintro((⟨q,_⟩|q)|q)
  ·cases q
  ·exact .inr q
  exact .inl ⟨rfl,q⟩
 rintro(⟨_,q⟩|q)
 ·exact .inr q
 exact .inl (.inr q)
theorem x5p(q:ByteArray)(L:Q02)(hs:q.size<=1000)(h:PceIs q L)(hone:∀a A,a.size<=q.size->Q8q a A->SetC 130 a A):SetC 125 q L:=by
 obtain⟨n,A,he,hn0,hnq,hA,hfl⟩:=x33 h;have jd:=z3q (s:=q) (a:=0) (e:=n) hnq;have ON:=hone _ A (by omega) hA;intro t g fs w ht hg hl;have AT:=hid (fun w=>y9b q (by omega) 0 w (by omega));have e0:((0:Nat):Int)=0:=rfl;have j7:Q3r (zgK q 6) q 0=n:=by
  have:=z7c (p:=q) 6 (x:=0) (by omega);unfold Q64 at this;have e1:(Q3i (lgK q 6) q 0)=⟨(n:Int),true,A⟩:=he;rw[e1]at this;exact this
 rw[e0,j7]at AT;have j6:=hid (fun(g:Nat) (fs:List Bool) (w:World) (h1:Q1y w g fs) (h2:fs.length=t.size+1)=>ON t g fs w ht h1 h2);have HG:=hid hg;have HL:=hid hl;have j2:=hid hfl;generalize hM:Q8k q (q.size+1) n (false,false)=M at j2;have HM:=hid hM;have p1:(n:Int)<=(q.size:Int):=by omega
 clear h he hA hfl ON hg hl e0 j7 hM hone;go_enter Tryz.func125,Tryz.ntmps125
 go_wp2_with (first
  |(go_at_call 123;refine csm (AT.out _) ?_))
 go_loopw [8,9,10] (fun x8 x9 x10 wr=>∃(i f:Nat) (b:Bool × Bool),x10=.int .i64 i/\x8=.bool b.1/\x9=.bool b.2/\wr=w/\n<=i/\i<=q.size/\q.size+1<=f+i/\Q8k q f i b=M)
   (fun _ _ x _=>1001-(intOf x).toNat)
 case atStart=>exact⟨n,q.size+1,(false,false),rfl,rfl,rfl,rfl,by omega,by omega,by omega,HM.out⟩
 obtain⟨i,f,⟨bn,bm⟩,rfl,rfl,rfl,rfl,hi1,hi2,hf,hrec⟩:=hrel;obtain⟨f,rfl⟩:∃k,f=k+1:=⟨f-1,by omega⟩;rw[x3g]at hrec;clear HM;by_cases hlt:i<q.size
 ·rw[qAb hlt,z1r hlt]at hrec;have k1:(i:Int)<(q.size:Int):=by omega
  have jb:q[i].toNat<256:=q[i].toNat_lt;have HR:=hid hrec;clear hrec;cases bn<;>cases bm;all_goals
   go_wp2;go_roundw
   case rel=>exact⟨i+1,f,(_,_),by go_num,rfl,rfl,by first|rfl|trivial,by omega,by omega,by omega,HR.out⟩
   simp[intOf];omega
 rw[qAa hlt]at hrec;subst hrec;have k1:¬(i:Int)<(q.size:Int):=by omega
 dsimp only at j2;obtain⟨wo,hwo⟩:∃wo,wo=wr:=⟨_,rfl⟩;subst hwo;have UN:=hid (fun(w:World) (ga gb:Nat) (xs ys:List Bool) (ha:Q1y w ga xs) (hb:Q1y w gb ys) (la:xs.length=t.size+1) (lb:ys.length=t.size+1)=>z2x w ga gb (t.size+1) xs ys ha hb la lb (by omega));have OX:=hid (j6.out g fs wo HG.out HL.out);go_wp2_with (first
  |(go_at_call 130;refine(OX.out).mono ?_;rintro e w1⟨g1,gs1,rfl,q1,q2,q3⟩;have HQ:=hid (And.intro q1 (And.intro q2 q3));clear q1 q2 q3))
 go_loopg [11,12,13] (2*(t.size+1)+1) (fun k x11 x12 _ wx=>∃(g2:Nat) (os:List Bool) (mo:Bool),x11=bsl g2 (t.size+1)/\x12=.bool mo/\2*Q9d os+(if mo=true then 1 else 0)<=k/\Q1y wx g2 os/\Q0a wo wx/\Way A t fs os/\(mo=true->bm=true)/\(mo=false->Q58 (Q5m false bm A) t fs os))
 case atStart =>
  obtain⟨q1,q2,q3⟩:=HQ.out;refine⟨g1,gs1,bm,rfl,rfl,?_,q2,q1,x5c q3,fun e=>e,fun e=>?_⟩
  ·have:=x94 gs1;rw[q3.len]at this;split<;>omega
  rw[e];exact q3.iff (fun w=>(y70 A w).symm)
 obtain⟨g2,os,mo,rfl,rfl,hk,hB,hfr,hW,hbm,hgo⟩:=hrel;have j0:=hid hB;have j1:=hid hfr;have HW:=hid hW;have j4:=hid hgo;have j3:=hid hbm;clear hB hfr hW hgo hbm HQ OX;cases mo
 ·have j5:=hid (j4.out rfl);clear j4 j3;cases bn
  ·go_wp2;go_ret;exact⟨g2,os,rfl,j1.out,j0.out,j5.iff (fun w=>(j2.out w).symm)⟩
  have UX:=hid (UN.out wr g2 g os fs j0.out (HG.fresh j1.out) HW.len HL.out);go_wp2_with (first
   |(go_at_call 70;refine(UX.out).mono ?_;rintro e w3⟨rfl,hf3,hb3⟩;have HU:=hid (And.intro hf3 hb3);clear hf3 hb3))
  go_ret;exact⟨_,_,rfl,j1.trans HU.1,HU.2,(x2d bm j5.out HL.out).iff (fun w=>(j2.out w).symm)⟩
 have ja:=j3.out rfl;subst ja;clear j4 j3;have j9:=hid (j6.out g2 os wr j0.out HW.len);go_wp2_with (first
  |(go_at_call 70;have j8:=HN.1;refine(UN.out w1 g2 g3 os ns (j0.fresh HN.1) HN.2.1 HW.len HN.2.2.len).mono ?_;rintro e w3⟨rfl,hf3,hb3⟩;have HU:=hid (And.intro hf3 hb3);clear hf3 hb3)
  |(go_at_call 130;refine(j9.out).mono ?_;rintro e w1⟨g3,ns,rfl,q1,q2,q3⟩;have HN:=hid (And.intro q1 (And.intro q2 q3));clear q1 q2 q3))
 obtain⟨y1,y2,y3,y4⟩:=x7w HW.out HN.2.2;go_roundg (2*Q9d (orI os ns (t.size+1) (t.size+1))+(if moI os ns (t.size+1)=true then 1 else 0))
 case measure =>
  have jc:2*Q9d os+1<=gk:=by simpa using hk
  split
  ·have:=y3 (by assumption);omega
  omega
 exact⟨_,_,_,rfl,rfl,qR _,HU.2,(j1.trans HN.1).trans HU.1,y1,fun _=>(by first|rfl|trivial),y4⟩
theorem y7j(u:ByteArray)(As:List Q02)(hs:u.size<=1000)(h:Row (Pc u) 0 As u.size)(hsome:∀q L,q.size<=u.size->PceIs q L->SetC 125 q L):SetC 116 u (Q9a As):=by
 intro t g fs w ht hg hl;have j4:=hid hsome;have PC:=hid (fun(i:Nat) (w:World) (hi:i<=u.size)=>y9g u (by omega) i w (by omega));have HG:=hid hg;have HL:=hid hl;have HR:=hid h;clear hsome hg hl h;go_enter Tryz.func116,Tryz.ntmps116
 go_wp2;go_loopw [2,7,8] (fun x2 x7 _ wr=>∃(i g1:Nat) (gs:List Bool) (Ds Rs:List Q02),x7=.int .i64 i/\x2=bsl g1 (t.size+1)/\i<=u.size/\As=Ds++Rs/\Row (Pc u) i Rs u.size/\Q1y wr g1 gs/\Q0a w wr/\Q58 (Q9a Ds) t fs gs)
   (fun _ x _ _=>2001-(intOf x).toNat)
 case atStart=>exact⟨0,g,fs,[],As,rfl,rfl,by omega,rfl,HR.out,HG.out,mRf _ _,y73 HL.out⟩
 obtain⟨i,g1,gs,Ds,Rs,rfl,rfl,hi,hAs,hrow,hB,hfr,hgo⟩:=hrel;have j1:=hid hAs;have HB:=hid hB;have HF:=hid hfr;have j0:=hid hgo;clear hAs hB hfr hgo HR;cases Rs with
 |nil =>
  have j5:(i:Int)=u.size:=hrow;have k1:¬(i:Int)<(u.size:Int):=by omega
  clear j5 hrow;go_wp2;go_ret;refine⟨g1,gs,rfl,HF.out,HB.out,?_⟩;rw[j1.out,qAt];exact j0.out
 |cons A Rs =>
  obtain⟨r1,r2,r3⟩:=hrow;have j7:=z0q (s:=u) (i:=(i:Int)) (y3h (z28 r1));have g0:=x28 u i (by omega) (by omega) r1;obtain⟨j,hj⟩:∃j:Nat,(Pc u i).next=j:=⟨(Pc u i).next.toNat,by omega⟩;have e:Pc u i=⟨(j:Int),true,A⟩:=by rw[← hj,← r2];exact z2k r1
  obtain⟨p1,p2,p3⟩:=v0g e hi;have j6:=z3q (s:=u) (a:=i) (e:=j) p3;have SX:=hid (j4.out _ A (by omega) p1 t g1 gs wr ht HB.out j0.len);have PX:=hid (fun w=>PC.out i w hi);have j2:Q4b (Q3r (zgK u 6) u) u i=j:=by
   have:=z5y (p:=u) 6 (x:=(i:Int)) (by omega) (by omega);unfold Q64 at this;have e1:Q1r (Q3i (lgK u 6) u) u i=⟨(j:Int),true,A⟩:=e;rw[e1]at this;exact this
  rw[j2]at PX;rw[hj]at r3;have j3:=hid r3;have k1:(i:Int)<(u.size:Int):=by omega
  have k2:(i:Int)<=(j:Int):=by omega
  have k3:(j:Int)<=(u.size:Int):=by omega
  clear r1 r2 r3 e p1 j2 hj g0 j6;go_wp2_with (first
   |(go_at_call 115;refine csm (PX.out _) ?_)
   |(go_at_call 125;refine(SX.out).mono ?_;rintro e w1⟨g3,ns,rfl,q1,q2,q3⟩;have HN:=hid (And.intro q1 (And.intro q2 q3));clear q1 q2 q3))
  go_roundw
  case rel =>
   refine⟨j,g3,ns,Ds++[A],Rs,rfl,rfl,by omega,by rw[j1.out];simp,j3.out,HN.2.1,HF.trans HN.1,?_⟩;exact(j0.cat HN.2.2).iff (fun w=>(y3k Ds A w).symm)
  simp[intOf];omega
def Q90(Bs:List (List Q02)):Q02:=fun w=>∃B∈Bs,Q9a B w
theorem y98(Bs:List (List Q02))(B:List Q02)(w:List Nat):Q90 (Bs++[B]) w↔Q02.alt (Q90 Bs) (Q9a B) w:=by
 unfold Q90 Q02.alt;constructor
 ·rintro⟨D,hD,q⟩;rcases qBj.1 hD with hD|hD
  ·exact .inl ⟨D,hD,q⟩
  simp at hD;subst hD;exact .inr q
 rintro(⟨D,hD,q⟩|q)
 ·exact⟨D,by simp[hD],q⟩
 exact⟨B,by simp,q⟩
def Rest(p:ByteArray)(z:Int)(Bs:List (List Q02)):Prop:=(Bs=[]/\z=p.size)∨(atB p z=124/\Alts (Pc p) p (z+1) Bs p.size)
theorem y3c(p:ByteArray)(Bs:List (List Q02))(hs:p.size<=1000)(h:Alts (Pc p) p 0 Bs p.size)(hbr:∀u As,u.size<=p.size->Row (Pc u) 0 As u.size->SetC 116 u (Q9a As)):SetC 91 p (Q90 Bs):=by
 intro t g fs w ht hg hl;have jc:=hid hbr;have PC:=hid (fun(i:Nat) (w:World) (hi:i<=p.size)=>y9g p (by omega) i w (by omega));have UN:=hid (fun(w:World) (ga gb:Nat) (xs ys:List Bool) (ha:Q1y w ga xs) (hb:Q1y w gb ys) (la:xs.length=t.size+1) (lb:ys.length=t.size+1)=>z2x w ga gb (t.size+1) xs ys ha hb la lb (by omega));have HG:=hid hg;have HL:=hid hl;have HA:=hid h;have mk:=fun w=>run_make_row' (P:=Tryz.prog) 90 4 (.bool false) 1 Tryz.underlying90 (by kernel_rfl) rfl .i64 .i64 (t.size+1) (by omega) (by omega) w;simp only[Int.natCast_add,Int.cast_ofNat_Int]at mk;clear hbr hg hl h;go_enter Tryz.func91,Tryz.ntmps91
 go_wp2;go_loopw [7,8,9,10] (fun x7 x8 x9 _ wr=>∃(b i g1:Nat) (os:List Bool) (Ds:List (List Q02)),x8=.int .i64 b/\x9=.int .i64 i/\x7=bsl g1 (t.size+1)/\Q1y wr g1 os/\Q0a w wr/\Q58 (Q90 Ds) t fs os/\i<=p.size+1 /\
    ((i=p.size+1/\Ds=Bs)∨(∃(z:Nat) (Ls Rs:List Q02) (Ts:List (List Q02)),Bs=Ds++(Ls++Rs)::Ts/\b<=i/\i<=p.size/\Row (Pc p) b Ls i/\Row (Pc p) i Rs z/\Rest p z Ts)))
   (fun _ _ x _ _=>2001-(intOf x).toNat)
 case atStart =>
  have hA:=HA.out;cases Bs with
  |nil=>exact hA.elim
  |cons B Ts =>
   obtain⟨z,_,q1,q2⟩:=hA;have hz:=y8r q1 (by omega) (by omega);obtain⟨zn,rfl⟩:∃n:Nat,z=n:=⟨z.toNat,by omega⟩;refine⟨0,0,w.heap.size,List.replicate (t.size+1) false,[],rfl,rfl,rfl,?_,(mRf _ w).alloc _,?_,by omega,.inr ⟨zn,[],B,Ts,rfl,by omega,by omega,rfl,q1,q2⟩⟩
   ·rw[z03];exact z0a _ _
   refine(x2e (by simp) (fun j q=>?_)).iff (fun w=>⟨fun q=>q.elim,fun⟨B,hB,_⟩=>by cases hB⟩);unfold On at q;rw[qDd]at q;split at q<;>simp at q
 obtain⟨b,i,g1,os,Ds,rfl,rfl,rfl,hB,hfr,hgo,hi1,hst⟩:=hrel;have HB:=hid hB;have HF:=hid hfr;have j1:=hid hgo;clear hB hfr hgo HA mk;rcases hst with⟨hip,hDs⟩|⟨z,Ls,Rs,Ts,hBs,hbi,hip,r1,r2,r3⟩
 ·have k1:¬(i:Int)<=(p.size:Int):=by omega
  have HD:=hid hDs;clear hip hDs;go_wp2;go_ret;exact⟨g1,os,rfl,HF.out,HB.out,by rw[← HD.out];exact j1.out⟩
 have k1:(i:Int)<=(p.size:Int):=by omega
 have j7:=hid hBs;have j5:=hid r1;have j6:=hid r3;clear hBs r1 r3;cases Rs with
 |nil =>
  have jk:(i:Int)=z:=r2;have j8:i=z:=by omega
  subst j8;clear r2 jk;have j0:=x4m hip j5.out (b:=b) (Int.le_refl _);have jl:=z3q (s:=p) (a:=b) (e:=i) hip;rw[Int.sub_self,show(i:Int)-b=((p.extract b i).size:Int) by omega]at j0;have BX:=hid (fun(w:World) (hg:Q1y w g fs)=>jc.out _ Ls (by omega) j0 t g fs w ht hg HL.out);have k2:(b:Int)<=(i:Int):=by omega
  clear j0 jl;have jb:Hid (∀(wb:World) (g3:Nat) (ns:List Bool),True->Q58 (Q9a Ls) t fs ns->Q58 (Q90 (Ds++[Ls])) t fs (orI os ns (t.size+1) (t.size+1))):=fun wb g3 ns _ hn=>(j1.alt hn (v0b j1.len)).iff (fun w=>(y98 Ds Ls w).symm);have ja:i=p.size∨(∃j2:i<p.size,((p[i].toNat:Int)==124)=true):=by
   rcases j6.out with⟨_,q⟩|⟨q,_⟩
   ·left;omega
   right;have jj:=z0q (s:=p) (i:=(i:Int)) (by omega);have j2:i<p.size:=by omega
   refine⟨j2,?_⟩;rw[z1r j2]at q;simp[q]
  have jd:Hid ((i+1=p.size+1/\Ds++[Ls]=Bs)∨(∃(z:Nat) (Ls' Rs:List Q02) (Ts:List (List Q02)),Bs=(Ds++[Ls])++(Ls'++Rs)::Ts/\i+1<=i+1/\i+1<=p.size/\Row (Pc p) ((i+1:Nat):Int) Ls' ((i+1:Nat):Int)/\Row (Pc p) ((i+1:Nat):Int) Rs z/\Rest p z Ts)):=by
   have hB:=j7.out;rw[qAt]at hB;rcases j6.out with⟨q1,q2⟩|⟨q1,q2⟩
   ·left;refine⟨by omega,?_⟩;rw[hB,q1]
   right;have jj:=z0q (s:=p) (i:=(i:Int)) (by omega);cases Ts with
   |nil=>exact q2.elim
   |cons B Ts =>
    obtain⟨z2,_,y1,y2⟩:=q2;have hz:=y8r y1 (by omega) (by omega);obtain⟨zn,rfl⟩:∃n:Nat,z2=n:=⟨z2.toNat,by omega⟩;exact⟨zn,[],B,Ts,by rw[hB];simp,by omega,by omega,rfl,y1,y2⟩
  clear j7 j5 j6 jc;rcases ja with ja|⟨j2,h124⟩
  ·have k3:((i:Int)==(p.size:Int))=true:=by simp;omega
   clear ja;go_wp2_with (first
    |(go_at_call 70;have j4:=HN.1;refine(UN.out w1 g1 g3 os ns (HB.fresh HN.1) HN.2.1 j1.len HN.2.2.len).mono ?_;rintro e w3⟨rfl,hf3,hb3⟩;have HU:=hid (And.intro hf3 hb3);clear hf3 hb3)
    |(go_at_call 116;refine(BX.out _ (HG.fresh HF.out)).mono ?_;rintro e w1⟨g3,ns,rfl,q1,q2,q3⟩;have HN:=hid (And.intro q1 (And.intro q2 q3));clear q1 q2 q3))
   go_roundw
   case rel=>exact⟨i+1,i+1,_,_,Ds++[Ls],by go_num,by go_num,rfl,HU.2,(HF.trans HN.1).trans HU.1,jb.out w1 g3 ns trivial HN.2.2,by omega,jd.out⟩
   simp[intOf];omega
  have k3:((i:Int)==(p.size:Int))=false:=by simp;omega
  have k4:(i:Int)<(p.size:Int):=by omega
  have ji:p[i].toNat<256:=p[i].toNat_lt;go_wp2_with (first
   |(go_at_call 70;have j4:=HN.1;refine(UN.out w1 g1 g3 os ns (HB.fresh HN.1) HN.2.1 j1.len HN.2.2.len).mono ?_;rintro e w3⟨rfl,hf3,hb3⟩;have HU:=hid (And.intro hf3 hb3);clear hf3 hb3)
   |(go_at_call 116;refine(BX.out _ (HG.fresh HF.out)).mono ?_;rintro e w1⟨g3,ns,rfl,q1,q2,q3⟩;have HN:=hid (And.intro q1 (And.intro q2 q3));clear q1 q2 q3))
  go_roundw
  case rel=>exact⟨i+1,i+1,_,_,Ds++[Ls],by go_num,by go_num,rfl,HU.2,(HF.trans HN.1).trans HU.1,jb.out w1 g3 ns trivial HN.2.2,by omega,jd.out⟩
  simp[intOf];omega
 |cons A Rs =>
  obtain⟨y1,y2,y3⟩:=r2;have j3:=z28 y1;have j9:=z0q (s:=p) (i:=(i:Int)) (y3h j3);have j2:i<p.size:=by omega
  have g0:=x28 p i (by omega) (by omega) y1;obtain⟨j,hj⟩:∃j:Nat,(Pc p i).next=j:=⟨(Pc p i).next.toNat,by omega⟩;have PX:=hid (fun w=>PC.out i w hip);have jf:Q4b (Q3r (zgK p 6) p) p i=j:=by
   have:=z5y (p:=p) 6 (x:=(i:Int)) (by omega) (by omega);unfold Q64 at this;have e1:Q1r (Q3i (lgK p 6) p) p i=⟨(j:Int),true,A⟩:=by
    show Pc p i=_;rw[← hj,← y2];exact z2k y1
   rw[e1]at this;exact this
  rw[jf]at PX;have je:Row (Pc p) b (Ls++[A]) ((j:Nat):Int):=by
   have:=Row.snoc j5.out y1;rw[y2,hj]at this;exact this
  rw[hj]at y3;have jh:=hid y3;have jg:=hid je;have jm:((p[i].toNat:Int)==124)=false:=by
   rw[z1r j2]at j3;cases q:((p[i].toNat:Int)==124)
   ·rfl
   have:(p[i].toNat:Int)=124:=by simpa using q
   rw[this]at j3;revert j3;decide
  have k3:((i:Int)==(p.size:Int))=false:=by simp;omega
  have k4:(i:Int)<(p.size:Int):=by omega
  have ji:p[i].toNat<256:=p[i].toNat_lt;have k5:¬(j:Int)<0:=by omega
  have b1:i<j:=by omega
  have b2:j<=p.size:=by omega
  clear y1 y2 y3 j3 jf hj je j5 g0 j9;go_wp2_with (first
   |(go_at_call 115;refine csm (PX.out _) ?_))
  go_roundw
  case rel=>exact⟨b,j,g1,os,Ds,rfl,rfl,rfl,HB.out,HF.out,j1.out,by omega,.inr ⟨z,Ls++[A],Rs,Ts,by rw[j7.out];simp,by omega,by omega,jg.out,jh.out,j6.out⟩⟩
  simp[intOf];omega
theorem z7x:∀(N:Nat) (p:ByteArray) (L:Q02),p.size<=N->p.size<=1000->Q89 p L->SetC 91 p L
 |0,p,L,hN,hs,h=>by
  exfalso;have g:=y4a p 6 0 (by omega) (by omega) (by rw[h]);rw[h]at g;dsimp only at g;omega
 |N+1,p,L,hN,hs,h=>by
  have j0:(Q6q p 6 0).ok=true:=by rw[h]
  obtain⟨Bs,h1,h2⟩:=y57 (P:=Pc p) (s:=p) (x:=0) j0;have e:Q20 (Q0x (Pc p) p) p 0=⟨p.size,true,L⟩:=h;rw[e]at h1 h2;dsimp only at h1 h2;have j1:=y3c p Bs hs h1 (fun u As hu hr=>y7j u As (by omega) hr (fun q M hq hM=>x5p q M (by omega) hM (fun a A ha hA=>x72 a A (by omega) hA (fun c C hc hC=>z7x N c C (by omega) (by omega) hC))));intro t g fs w ht hg hl;refine(j1 t g fs w ht hg hl).mono ?_;rintro e w'⟨g',gs,q1,q2,q3,q4⟩;exact⟨g',gs,q1,q2,q3,q4.iff (fun w=>(h2 w).symm)⟩
end Go.Proofs.YtcpceafmlgaodaaGreat
