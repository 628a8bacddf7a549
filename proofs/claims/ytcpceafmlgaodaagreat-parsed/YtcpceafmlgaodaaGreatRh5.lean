import Derived.Test.YtcpceafmlgaodaaGreatRh4
import Derived.Deep.LoopGhost
namespace Go.Proofs.YtcpceafmlgaodaaGreat
open Go.RowKit
set_option maxRecDepth 100000
set_option maxHeartbeats 16000000
set_option linter.unusedVariables false
set_option linter.unusedSimpArgs false
def Q84(rs:List ZLV)(s:ByteArray):Nat->Nat->Int
 |0,_=>-1
 |f+1,i=>match rs[i]? with
  |none=>-1
  |some x=>if(x.ln.name.toList==s.toList)=true then(if x.ln.skip=true then -1 else(i:Int))else Q84 rs s f(i+1)
def Q8x(X:SP)(s:ByteArray):Int :=
 if Q1n(atB s 0)=true then(if Q1z X.heads s<0 then -1 else(X.rules.length:Int)+1+Q1z X.heads s)
 else Q84 X.rules s(X.rules.length+1)0
theorem y52(rs:List ZLV)(s:ByteArray)(f i:Nat):Q84 rs s(f+1)i=match rs[i]? with
  |none=>-1
  |some x=>if(x.ln.name.toList==s.toList)=true then(if x.ln.skip=true then -1 else(i:Int))else Q84 rs s f(i+1):=rfl
theorem Q2z.rules{w:World}{b:Nat}{X:SP}{v0 v1 v2 v3 v4:Value}{sv:List Value}(h:Q2z w b X v0 v1 v2 v3 v4 sv):Q2k ZLV.cells 7 85 w v0 X.rules:=⟨z0f(h.own 0 _ rfl)(Nat.zero_le _),fun x _=>rfl⟩
theorem Q2z.prods{w:World}{b:Nat}{X:SP}{v0 v1 v2 v3 v4:Value}{sv:List Value}(h:Q2z w b X v0 v1 v2 v3 v4 sv):Q2k ZLV.cells 7 85 w v1 X.prods:=⟨z0f(h.own 1 _ rfl)(Nat.zero_le _),fun x _=>rfl⟩
theorem y48(l:List ByteArray)(s:ByteArray):-1<=Q1z l s/\Q1z l s<=l.length:=by unfold Q1z;split<;>omega
theorem z8t(w:World)(b:Nat)(X:SP)(v0 v1 v2 v3 v4:Value)(sv:List Value)(s:ByteArray)(h:Q2z w b X v0 v1 v2 v3 v4 sv)(hs:0<s.size)(hr:X.rules.length<=1000)(hh:X.heads.length<=1000) :
  Calls Tryz.prog 31#[.pointer(some⟨b,0,none⟩),.string s]w fun e w'=>e=.returned(.int .i64(Q8x X s))/\w'=w:=by
 have hb:=z1z hs;have j4:s[0].toNat<256:=s[0].toNat_lt;have ZG:=hid(fun w=>z6y(s[0].toNat:Int)w);have FI:=hid(fun w=>z59 X.heads s v2 w);have k0:=Q2z.cell h 0;have k2:=Q2z.cell h 2;simp at k0 k2;have j1:=z69(h.own 2 _ rfl);have FX:=hid(z59 X.heads s v2 w j1 hh);have fb:=y48 X.heads s;unfold Q8x;have j2:atB s 0=(s[0].toNat:Int):=hb;rw[j2];generalize Q1n(s[0].toNat:Int)=cp at ZG ⊢;have j3:(0:Int)<(s.size:Int):=by omega
 obtain⟨a0,cp0,hv0⟩:=z0d(h.own 0 _ rfl);obtain⟨a2,cp2,hv2⟩:=z0d(h.own 2 _ rfl);have j0:=hid h.rules;dsimp only at hv0 hv2;subst hv0 hv2;clear hb j2 h j1 FI;cases cp
 ·rw[if_neg(by simp)];generalize hV:Q84 X.rules s(X.rules.length+1)0=V;have HV:=hid hV;clear hV FX fb;go_enter Tryz.func31,Tryz.ntmps31
  go_wp2_with(first
   |(go_at_call 64;refine(ZG.out _).mono ?_;rintro e w'⟨rfl,hw⟩;rw[hw];clear hw))
  go_loopw [6](fun x6 wr=>∃(i f:Nat),x6=.int .i64 i/\wr=w/\i<=X.rules.length/\X.rules.length+1<=f+i/\Q84 X.rules s f i=V)
    (fun x _=>1001-(intOf x).toNat)
  case atStart=>exact⟨0,X.rules.length+1,rfl,rfl,by omega,by omega,HV.out⟩
  obtain⟨i,f,rfl,rfl,hi,hf,hrec⟩:=hrel;obtain⟨f,rfl⟩:∃g,f=g+1:=⟨f-1,by omega⟩;rw[y52]at hrec;clear HV;by_cases hlt:i<X.rules.length
  ·have k1:(i:Int)<(X.rules.length:Int):=by omega
   rw[qE hlt]at hrec;obtain⟨g,cap',hv⟩:=Q1d.ownsRow_form j0.out.own(by omega);rw[qI]at hv;obtain⟨rfl,_,rfl⟩:=hv;have c1:=j0.out.cell i 1 hlt(by omega);have c2:=j0.out.cell i 2 hlt(by omega);generalize X.rules[i]=x at hrec c1 c2;obtain⟨⟨xr,xk,xn,xp,xsy,xpl⟩,vs,vp,pl⟩:=x;simp[ZLV.cells]at c1 c2;dsimp only at hrec;cases h1:(xn.toList==s.toList)
   ·rw[h1,if_neg(by simp)]at hrec;have HR:=hid hrec;clear hrec;go_wp2;go_roundw
    case rel=>exact⟨i+1,f,by go_num,by first|rfl|trivial,by omega,by omega,HR.out⟩
    simp[intOf];omega
   rw[h1,if_pos rfl]at hrec;cases xk
   ·rw[if_neg(by simp)]at hrec;have HR:=hid hrec;clear hrec;go_wp2;go_ret;exact⟨by rw[← HR.out];rfl,rfl⟩
   rw[if_pos rfl]at hrec;have HR:=hid hrec;clear hrec;go_wp2;go_ret;exact⟨by rw[← HR.out];rfl,rfl⟩
  have k1:¬(i:Int)<(X.rules.length:Int):=by omega
  rw[qN(by omega)]at hrec;have HR:=hid hrec;clear hrec;go_wp2;go_ret;exact⟨by rw[← HR.out];rfl,rfl⟩
 rw[if_pos rfl];generalize Q1z X.heads s=fd at FX fb ⊢;obtain⟨fb1,fb2⟩:=fb;by_cases hf:fd<0
 ·rw[if_pos hf];go_enter Tryz.func31,Tryz.ntmps31
  go_wp2_with(first
   |(go_at_call 64;refine(ZG.out _).mono ?_;rintro e w'⟨rfl,hw⟩;rw[hw];clear hw)
   |(go_at_call 62;refine(FX.out).mono ?_;rintro e w'⟨rfl,hw⟩;rw[hw];clear hw))
  go_ret;exact⟨rfl,rfl⟩
 rw[if_neg hf];go_enter Tryz.func31,Tryz.ntmps31
 go_wp2_with(first
  |(go_at_call 64;refine(ZG.out _).mono ?_;rintro e w'⟨rfl,hw⟩;rw[hw];clear hw)
  |(go_at_call 62;refine(FX.out).mono ?_;rintro e w'⟨rfl,hw⟩;rw[hw];clear hw))
 go_ret;exact⟨rfl,rfl⟩
def Q7k(X:SP)(x:ZLV):Nat->Nat->Option Int
 |0,_=>none
 |f+1,j=>match x.ln.syms[j]? with
  |none=>none
  |some n=>if Q8x X n<0 then some(x.pl+x.ln.places.getD j 0)else Q7k X x f(j+1)
theorem y2n(X:SP)(x:ZLV)(f j:Nat):Q7k X x(f+1)j=match x.ln.syms[j]? with
  |none=>none
  |some n=>if Q8x X n<0 then some(x.pl+x.ln.places.getD j 0)else Q7k X x f(j+1):=rfl
def Q3l(X:SP):List ZLV->List ByteArray->Int
 | [],_=>-1
 |x::l,ahead =>
  if x.ln.rule=true/\0<=Q1z ahead x.ln.name then x.pl
  else match Q7k X x(x.ln.syms.length+1)0 with
   |some p=>p
   |none=>Q3l X l(if x.ln.rule=true then ahead++[x.ln.name]else ahead)
structure ZOk(x:ZLV):Prop where
 ne:∀n∈x.ln.syms,0<n.size
 len:x.ln.places.length=x.ln.syms.length
 small:x.ln.syms.length<=1000
 pl:0<=x.pl/\x.pl<=1000
 pls:∀p∈x.ln.places,0<=p/\p<=1000
theorem y9z(w:World)(b B0:Nat)(X:SP)(v0 v1 v2 v3 v4 v:Value)(sv:List Value)(xs:List ZLV)(h:Q2z w b X v0 v1 v2 v3 v4 sv)(hL:Q46 B0 w v xs)(hr:X.rules.length<=1000)(hh:X.heads.length<=1000)(hn:xs.length<=1000)(hok:∀x∈xs,ZOk x) :
  Calls Tryz.prog 29#[.pointer(some⟨b,0,none⟩),v]w fun e w'=>e=.returned(.int .i64(Q3l X xs []))/\Q0a w w':=by
 obtain⟨i0,hi0,hz0,hz1,hz2⟩:=Q8v;have NU:=hid(fun(w':World)(hf:Q0a w w')(s:ByteArray)(hs:0<s.size)=>z8t w' b X v0 v1 v2 v3 v4 sv s(h.fresh hf)hs hr hh);have HL:=hid(fun w'(hf:Q0a w w')=>hL.kept hf(fun _ _ x=>x));have jl:=hid hok;obtain⟨ao,cap,hv⟩:=z0d hL.own;subst hv;generalize hR:Q3l X xs []=R;have HR:=hid hR;clear hL hR h hok;go_enter Tryz.func29,Tryz.ntmps29
 go_wp2;go_loopw [5,6](fun x5 x6 wr=>∃(i:Nat)(ah:List ByteArray),x6=.int .i64 i/\i<=xs.length/\ah.length<=i/\Q3l X(xs.drop i)ah=R/\wr.ownsRow w.heap.size 9 1 x5 ah.length(Q9z ah)/\Q0a w wr)
   (fun _ x _=>1001-(intOf x).toNat)
 case atStart=>exact⟨0,[],rfl,by omega,by simp,HR.out,World.ownsRow_nil _ _ _ _,mRf _ _⟩
 obtain⟨i,ah,rfl,hi,hal,hrec,hown,hfr⟩:=hrel;clear HR;have j6:=hid(HL.out wr hfr);have HF:=hid hfr;have HO:=hid hown;have jn:Hid(1001-(intOf(.int .i64((i:Int)+1))).toNat<1001-(intOf(.int .i64(i:Int))).toNat):=by unfold Hid;simp[intOf];omega
 obtain⟨aa,ca,hva⟩:=z0d hown;subst hva;by_cases hlt:i<xs.length
 ·have jh:(i:Int)<(xs.length:Int):=by omega
  obtain⟨g,cap',hv⟩:=Q1d.ownsRow_form j6.out.own(by omega);rw[qI]at hv;obtain⟨rfl,_,rfl⟩:=hv;rw[qC hlt,Q3l]at hrec;have j7:=j6.out.each xs[i](by simp);have j9:=jl.out xs[i](by simp);have j8:=hid(fun(W:World)(hW:Q0a w W)=>(HL.out W hW).each xs[i](by simp));have j1:=fun(W:World)(hW:Q0a w W)j hj=>(HL.out W hW).row.cell i j hlt hj;generalize hx:xs[i]=x at hrec j7 j1 j9 j8;obtain⟨⟨xr,xk,xn,xp,xsy,xpl⟩,vs,vp,pl⟩:=x;obtain⟨so,sc,hvs⟩:=z0d j7.syms;obtain⟨po,pc,hvp⟩:=z0d j7.places;dsimp only at hvs hvp;subst hvs hvp;have HC:Hid(∀W,Q0a w W->W.cell?⟨g,i*7,none⟩=some(.bool xr)/\W.cell?⟨g,i*7+2,none⟩=some(.string xn)/\W.cell?⟨g,i*7+4,none⟩=some(.slice so xsy.length sc)/\W.cell?⟨g,i*7+5,none⟩=some(.slice po xpl.length pc)/\W.cell?⟨g,i*7+6,none⟩=some(.int .i64 pl)):=fun W hW=>by
   exact⟨j1 W hW 0(by omega),j1 W hW 2(by omega),j1 W hW 4(by omega),j1 W hW 5(by omega),j1 W hW 6(by omega)⟩
  obtain⟨c0,c2,c4,c5,c6⟩:=HC.out wr hfr;have FI:=hid(z59 ah xn _ wr(z69 hown)(by omega));have fb:=y48 ah xn;dsimp only at hrec;have j0:=hid hrec;have HZ:=hid j9;have jo:=(j6.out.own.lt g rfl).2;clear hrec j7 j1 hx hfr hown j9;go_upto_if 20 with fail
  go_cut [5,7](fun x5 _ wx=>∃ah2,ah2.length<=i+1/\(¬(xr=true/\0<=Q1z ah xn))/\ah2=(if xr=true then ah++[xn]else ah)/\wx.ownsRow w.heap.size 9 1 x5 ah2.length(Q9z ah2)/\Q0a w wx)
  case first =>
   cases xr
   ·go_wp2_with fail
    go_meet;exact⟨ah,by omega,by simp,rfl,HO.out,HF.out⟩
   generalize hfd:Q1z ah xn=fd at FI fb j0;have jk:=hid hfd;clear hfd;obtain⟨fb1,fb2⟩:=fb;by_cases hf:0<=fd
   ·have j3:Hid(pl=R):=by
     have:=j0.out;rw[if_pos⟨rfl,hf⟩]at this;exact this
    clear j0;go_wp2_with(first
     |(go_at_call 62;refine(FI.out).mono ?_;rintro e w'⟨rfl,hw⟩;rw[hw];clear hw))
    go_ret;exact⟨by rw[← j3.out];rfl,HF.out⟩
   have ji:fd=-1:=by omega
   subst ji;go_wp2_with(first
    |(go_at_call 62;refine(FI.out).mono ?_;rintro e w'⟨rfl,hw⟩;rw[hw];clear hw)
    |(at_builtin;refine z0g _ rfl _ _ 51 rfl w.heap.size 9 i0 _ 1 16 Tryz.underlying51 hi0 hz0 hz1 hz2 rfl(by decide)_ _ _ rfl(HO.out.alloc _)⟨wr.heap.size,0,none⟩1 1 [.string xn]rfl rfl(z0l rfl)(by intro u hu;simp at hu;subst hu;rfl)(by unfold maxLen;omega)(by omega)(by have:=HF.out.size;simp;omega)?_;intro v' w2 hown2 hgrow hblk;have je:Q0a w w2:=Mod.grown(S:=fun _=>False)(HF.out.alloc _)hgrow(fun k hk hlt=>by have:=(HO.out.lt k hk).1;omega);have ja:=hid hown2;have j4:=hid je;clear hown2 hgrow hblk je))
   go_meet;refine⟨ah++[xn],by simp;omega,by rw[jk.out];simp,by simp,?_,j4.out⟩;rw[List.length_append,List.length_singleton];have e1:=List.map_append(f:=Value.string)(l₁:=ah)(l₂:=[xn]);rw[List.map_singleton]at e1;show World.ownsRow _ _ _ _ _ _(List.map _ _);rw[e1];exact ja.out
  obtain⟨ah2,hal2,hno,hah,hown2,hfr2⟩:=hcut;have j3:Hid((match Q7k X⟨⟨xr,xk,xn,xp,xsy,xpl⟩,.slice so xsy.length sc,.slice po xpl.length pc,pl⟩(xsy.length+1)0 with|some p=>p|none=>Q3l X(xs.drop(i+1))ah2)=R):=by
   have:=j0.out;rw[if_neg hno,← hah]at this;exact this
  have ja:=hid hown2;have j4:=hid hfr2;obtain⟨ab,cb,hvb⟩:=z0d hown2;obtain⟨d0,d2,d4,d5,d6⟩:=HC.out wc hfr2;have js:g<wc.heap.size:=((HL.out wc hfr2).own.lt g rfl).2;have j5:=hid(j8.out wc hfr2);clear j0 c0 c2 c4 c5 c6 FI fb hno hah hown2 hfr2 HO HF j6 jo HC j8;subst hvb;generalize hSZ:Q7k X⟨⟨xr,xk,xn,xp,xsy,xpl⟩,.slice so xsy.length sc,.slice po xpl.length pc,pl⟩(xsy.length+1)0=SZ at j3;have jc:=hid hSZ;clear hSZ;go_wp2_with fail
  go_loopw [8](fun x8 wr=>∃(j f:Nat),x8=.int .i64 j/\wr=wc/\j<=xsy.length/\xsy.length+1<=f+j/\Q7k X⟨⟨xr,xk,xn,xp,xsy,xpl⟩,.slice so xsy.length sc,.slice po xpl.length pc,pl⟩f j=SZ)
    (fun x _=>1001-(intOf x).toNat)
  case atStart=>exact⟨0,xsy.length+1,rfl,by first|rfl|trivial,by omega,by omega,jc.out⟩
  obtain⟨j,f,rfl,rfl,hj,hf,hrec⟩:=hrel;obtain⟨f,rfl⟩:∃k,f=k+1:=⟨f-1,by omega⟩;rw[y2n]at hrec;clear jc;dsimp only at hrec;have jg:=HZ.out.small;dsimp only at jg;by_cases hjl:j<xsy.length
  ·have k1:(j:Int)<(xsy.length:Int):=by omega
   rw[qE hjl]at hrec;dsimp only at hrec;obtain⟨gs,cs,hvs⟩:=Q1d.ownsRow_form j5.out.syms(by dsimp only;omega);rw[qI]at hvs;obtain⟨rfl,_,rfl⟩:=hvs;have jr:wr.cell?⟨gs,j,none⟩=some(.string xsy[j]):=by
    have:=j5.out.syms.cells(g:=gs)rfl j(.string xsy[j])(by simp[hjl]);rwa [Addr.add_mid,Nat.zero_add]at this
   have jq:=HZ.out.ne xsy[j](by simp);have NX:=hid(NU.out wr j4.out xsy[j]jq);generalize Q8x X xsy[j]=nn at NX hrec;by_cases hn0:nn<0
   ·rw[if_pos hn0]at hrec;have jd:=HZ.out.len;dsimp only at jd;have jb:j<xpl.length:=by omega
    have k2:(j:Int)<(xpl.length:Int):=by omega
    obtain⟨gp,cp,hvp⟩:=Q1d.ownsRow_form j5.out.places(by dsimp only;omega);rw[qI]at hvp;obtain⟨rfl,_,rfl⟩:=hvp;have jj:wr.cell?⟨gp,j,none⟩=some(.int .i64 xpl[j]):=by
     have:=j5.out.places.cells(g:=gp)rfl j(.int .i64 xpl[j])(by simp[jb]);rwa [Addr.add_mid,Nat.zero_add]at this
    have jp:=HZ.out.pl;have jm:=HZ.out.pls xpl[j](by simp);dsimp only at jp;have jf:xpl.getD j 0=xpl[j]:=by simp[jb]
    rw[jf]at hrec;clear jf jd;have j2:Hid(pl+xpl[j]=R):=by
     have:=j3.out;rw[← hrec]at this;exact this
    clear hrec;generalize xpl[j]=q at jj jm j2;go_wp2_with(first
     |(go_at_call 31;refine(NX.out).mono ?_;rintro e w'⟨rfl,hw⟩;rw[hw];clear hw))
    go_quiet(fail);go_wp2;go_ret;refine⟨?_,j4.out.trans(Q4x _ _)⟩;rw[← j2.out];rfl
   rw[if_neg hn0]at hrec;have j2:=hid hrec;clear hrec;go_wp2_with(first
    |(go_at_call 31;refine(NX.out).mono ?_;rintro e w'⟨rfl,hw⟩;rw[hw];clear hw))
   go_roundw
   case rel=>exact⟨j+1,f,by go_num,by first|rfl|trivial,by omega,by omega,j2.out⟩
   simp[intOf];omega
  have k1:¬(j:Int)<(xsy.length:Int):=by omega
  rw[qN(by omega)]at hrec;have j2:Hid(Q3l X(xs.drop(i+1))ah2=R):=by
   have:=j3.out;rw[← hrec]at this;exact this
  clear hrec;go_wp2;go_roundw
  case rel=>exact⟨i+1,ah2,by go_num,by omega,hal2,j2.out,ja.out,j4.out⟩
  exact jn.out
 have jh:¬(i:Int)<(xs.length:Int):=by omega
 rw[List.drop_eq_nil_of_le(by omega),Q3l]at hrec;have j0:=hid hrec;clear hrec;go_wp2;go_ret;exact⟨by rw[← j0.out];rfl,HF.out⟩
abbrev Pc(s:ByteArray):Int->LR:=Q1u(Q3q(lgK s 6)s)s
abbrev Am(s:ByteArray):Int->LR:=Q3q(lgK s 6)s
def Q9k(p:ByteArray)(L:Q04):Prop:=Q61 p 6 0=⟨p.size,true,L⟩
def PceIs(p:ByteArray)(L:Q04):Prop:=Pc p 0=⟨p.size,true,L⟩
def Q9e(p:ByteArray)(L:Q04):Prop:=Am p 0=⟨p.size,true,L⟩
theorem y74(p:ByteArray)(hp:p.size<=80000):AtmC p 0(Q3v(zgK p 6)p):=z8m p 6 0 hp(by omega)(fun k' e=>y2q p hp k' 1(by omega))
theorem y88(p:ByteArray)(hp:p.size<=80000):PceC p 0(Q4i(Q3v(zgK p 6)p)p):=z6t p 6 0 hp(y74 p hp)
theorem x1l(s:ByteArray):Q32 s(Pc s):=z6b s 6
theorem v1u(s:ByteArray):Q32 s(Am s):=z2p s 6
theorem x34(s s':ByteArray):Loc s s'(Pc s)(Pc s'):=z8w(z77(y79 s s' 6 6(qR _))(z2p s 6))(z2p s 6)
theorem v1t(s s':ByteArray):LocA s s'(Am s)(Am s'):=z77(y79 s s' 6 6(qR _))(z2p s 6)
theorem z6d{s:ByteArray}{a e:Nat}(he:e<=s.size){x:Int}(h0:0<=x):Q3h s(a+x)(s.extract a e)x(e-a-x.toNat):=fun j hj=>by
 rw[z03 he(by omega)(by omega)];congr 1;omega
theorem z3q{s:ByteArray}{a e:Nat}(he:e<=s.size):(s.extract a e).size=e-a:=by rw[ByteArray.size_extract];omega
theorem x9a{u:ByteArray}{i j:Nat}{A:Q04}(h:Pc u i=⟨(j:Int),true,A⟩)(hi:i<=u.size):PceIs(u.extract i j)A/\i<j/\j<=u.size:=by
 have g:=x1l u i(by omega)(by omega)(by rw[h]);rw[h]at g;dsimp only at g;have j0:=z3q(s:=u)(a:=i)(e:=j)(by omega);refine⟨?_,by omega,by omega⟩;have al:=z6d(s:=u)(a:=i)(e:=j)(by omega)(x:=0)(by omega);rw[Int.add_zero]at al;have sm:=x34 u(u.extract i j)i 0(j-i)(by omega)(by omega)(by omega)al(by rw[z19(by omega)];decide)(by rw[h])(by rw[h];dsimp only;omega);unfold PceIs;rw[z2n sm.ok,sm.next,sm.lang,h];dsimp only;congr 1;omega
theorem v0v{q:ByteArray}{n:Nat}{A:Q04}(h:Am q 0=⟨(n:Int),true,A⟩):Q9e(q.extract 0 n)A/\0<n/\n<=q.size:=by
 have g:=v1u q 0(by omega)(by omega)(by rw[h]);rw[h]at g;dsimp only at g;have j0:=z3q(s:=q)(a:=0)(e:=n)(by omega);refine⟨?_,by omega,by omega⟩;have al:=z6d(s:=q)(a:=0)(e:=n)(by omega)(x:=0)(by omega);have sm:=v1t q(q.extract 0 n)0 0(n-0)(by omega)(by omega)(by omega)al(by rw[h])(by rw[h];dsimp only;omega);unfold Q9e;rw[z2n sm.ok,sm.next,sm.lang,h];dsimp only;congr 1;omega
theorem x90{a:ByteArray}{A:Q04}(h:Q9e a A)(h40:atB a 0=40):Q9k(a.extract 1(a.size-1))A/\3<=a.size:=by
 unfold Q9e Am Q3q at h;rw[if_pos h40]at h;have h':Q6d(Q61 a 5)a 0=⟨a.size,true,A⟩:=h;unfold Q6d at h';by_cases c1:(Q61 a 5(0+1)).ok=false
 ·rw[if_pos c1]at h';injection h' with _ e;cases e
 rw[if_neg c1]at h';have j0:(Q61 a 5 1).ok=true:=by simpa using c1
 by_cases c2:atB a(Q61 a 5(0+1)).next≠41
 ·rw[if_pos c2]at h';injection h' with _ e;cases e
 rw[if_neg c2]at h';injection h' with e1 _ e3;have hn:(Q61 a 5((1:Nat):Int)).next+1=a.size:=e1;have j2:=z0q(s:=a)(i:=0)(by omega);have g:=y38 a 5((1:Nat):Int)(by omega)(by omega)j0;have j3:=z3q(s:=a)(a:=1)(e:=a.size-1)(by omega);refine⟨?_,by omega⟩;have al:=z6d(s:=a)(a:=1)(e:=a.size-1)(by omega)(x:=0)(by omega);rw[Int.add_zero]at al;have sm:=y1u a(a.extract 1(a.size-1))(show 5<=6 by omega)((1:Nat):Int)0(a.size-1-1)(by omega)(by omega)(by omega)al(by rw[z19(by omega)];decide)j0(by omega);unfold Q9k;rw[z2n sm.ok,sm.next,sm.lang];have j1:(Q61 a 5((1:Nat):Int)).lang=A:=e3;rw[j1];congr 1;omega
theorem y8i{s:ByteArray}:∀{As:List Q04}{x y:Int},Row(Pc s)x As y->0<=x->x<=s.size->x<=y/\y<=s.size
 | [],x,y,h,_,h1=>by have:x=y:=h;omega
 |A::As,x,y,⟨h1,h2,h3⟩,h0,hs=>by
  have g:=x1l s x h0 hs h1;have:=y8i h3(by omega)(by omega);omega
theorem x3f{p:ByteArray}{b x:Nat}(hx:x<=p.size):∀{As:List Q04}{y:Int},Row(Pc p)y As x->(b:Int)<=y->Row(Pc(p.extract b x))(y-b)As((x:Int)-b)
 | [],y,h,hb=>by have:y=x:=h;show y-b=(x:Int)-b;omega
 |A::As,y,⟨h1,h2,h3⟩,hb=>by
  have hy:y<p.size:=by
   have:=z0q(s:=p)(i:=y)(y5s(z22 h1));omega
  have g:=x1l p y(by omega)(by omega)h1;have j1:=y8i h3(by omega)(by omega);have j0:=z3q(s:=p)(a:=b)(e:=x)hx;have al:=z6d(s:=p)(a:=b)(e:=x)hx(x:=y-b)(by omega);rw[show(b:Int)+(y-b)=y by omega]at al;have sm:=x34 p(p.extract b x)y(y-b)(x-b-(y-b).toNat)(by omega)(by omega)(by omega)al(by rw[z19(by omega)];decide)h1(by omega);refine⟨sm.ok,by rw[sm.lang];exact h2,?_⟩;rw[sm.next,show(Pc p y).next-y+(y-(b:Int))=(Pc p y).next-b by omega];exact x3f hx h3(by omega)
theorem x6t(a:ByteArray)(A:Q04)(hs:a.size<=1000)(h:Q9e a A)(ih:∀p L,p.size+2<=a.size->Q9k p L->SetC 91 p L):SetC 130 a A:=by
 by_cases h40:atB a 0=40
 ·obtain⟨hp,h3⟩:=x90 h h40;have j1:=z3q(s:=a)(a:=1)(e:=a.size-1)(by omega);have TH:=ih _ A(by omega)hp;intro t g fs w ht hg hl;have TX:=hid(TH t g fs w ht hg hl);have j0:0<a.size:=by omega
  have b0:atB a 0=(a[0].toNat:Int):=z1z j0;have j2:a[0].toNat<256:=a[0].toNat_lt;rw[b0]at h40;have j3:((a[0].toNat:Int)==40)=true:=by simp[h40]
  have p0:(0:Int)<(a.size:Int):=by omega
  have p1:(1:Int)<=(a.size:Int)-1:=by omega
  have p2:(a.size:Int)-1<=(a.size:Int):=by omega
  have p3:((a.size:Int)-1).toNat=a.size-1:=by omega
  clear hg hl b0 h40 h hp TH ih;go_enter Tryz.func130,Tryz.ntmps130
  go_wp2_with(first
   |(go_at_call 91;refine(TX.out).mono ?_;rintro e w1⟨g',gs,rfl,q⟩;have HQ:=hid q;clear q))
  go_ret;exact⟨g',gs,rfl,HQ.out⟩
 unfold Q9e Am Q3q at h;rw[if_neg h40]at h;by_cases c:(Q2t a 0).2.2=false
 ·rw[if_pos c]at h;injection h with _ e;cases e
 rw[if_neg c]at h;injection h with e1 _ e3;have:=x2z a(by omega)h40(by simpa using c)e1;rw[e3]at this;exact this
def Q9i(fs:List Bool):Nat:=(fs.filter(fun b=>!b)).length
theorem y6n:∀{as' bs:List Bool},as'.length=bs.length->(∀j,On as' j->On bs j)->Q9i bs<=Q9i as'
 | [],[],_,_=>qR _
 |a::as',b::bs,hl,h=>by
  have hl':as'.length=bs.length:=by simpa using hl
  have ih:=y6n hl'(fun j hj=>by have:=h(j+1)(by simpa [On]using hj);simpa [On]using this);unfold Q9i at ih ⊢;rw[List.filter_cons,List.filter_cons];cases a
  ·cases b<;>simp<;>omega
  have:=h 0(by simp[On]);simp[On]at this;subst this;simpa using ih
 | [],b::bs,hl,_=>by simp at hl
 |a::as',[],hl,_=>by simp at hl
theorem x2a:∀{as' bs:List Bool},as'.length=bs.length->(∀j,On as' j->On bs j)->(∃j,On bs j/\¬On as' j)->Q9i bs<Q9i as'
 | [],[],_,_,⟨j,h,_⟩=>by simp[On]at h
 |a::as',b::bs,hl,h,hex=>by
  have hl':as'.length=bs.length:=by simpa using hl
  have hs:∀j,On as' j->On bs j:=fun j hj=>by have:=h(j+1)(by simpa [On]using hj);simpa [On]using this
  have ih:=y6n hl' hs;obtain⟨j,h1,h2⟩:=hex;unfold Q9i at ih ⊢;rw[List.filter_cons,List.filter_cons];cases j with
  |zero =>
   simp[On]at h1 h2;subst h1;have j1:a=false:=by simpa using h2
   subst j1;simp;omega
  |succ j =>
   have j0:=x2a hl' hs⟨j,by simpa [On]using h1,by simpa [On]using h2⟩;unfold Q9i at j0;cases a
   ·cases b<;>simp<;>omega
   have:=h 0(by simp[On]);simp[On]at this;subst this;simpa using j0
 | [],b::bs,hl,_,_=>by simp at hl
 |a::as',[],hl,_,_=>by simp at hl
theorem x87{xs ys:List Bool}{n:Nat}(h:moI xs ys n=true):∃j,On ys j/\¬On xs j:=by
 unfold moI at h;rw[List.any_eq_true]at h;obtain⟨j,_,hj⟩:=h;rw[Bool.and_eq_true,Bool.not_eq_true']at hj;exact⟨j,z3j.2 hj.1,fun q=>by rw[z3j,hj.2]at q;cases q⟩
theorem x5s{xs ys:List Bool}{n:Nat}(h:moI xs ys n=false)(hl:ys.length=n):∀j,On ys j->On xs j:=by
 intro j hj;cases hx:xs.getD j false
 ·exfalso;have:moI xs ys n=true:=by
   unfold moI;rw[List.any_eq_true];exact⟨j,by have:=hj.lt;simp;omega,by rw[hx,z3j.1 hj];rfl⟩
  rw[this]at h;cases h
 exact z3j.2 hx
theorem x9b(fs:List Bool):Q9i fs<=fs.length:=List.length_filter_le _ _
theorem x48{q:ByteArray}{L:Q04}(h:PceIs q L):∃(n:Nat)(A:Q04),Am q 0=⟨(n:Int),true,A⟩/\0<n/\n<=q.size/\Q9e(q.extract 0 n)A/\∀w,L w↔Q5x(Q8u q(q.size+1)n(false,false)).1(Q8u q(q.size+1)n(false,false)).2 A w:=by
 have j1:(Pc q 0).ok=true:=by rw[h]
 have ha:(Am q 0).ok=true:=y1y j1;have g:=v1u q 0(by omega)(by omega)ha;obtain⟨n,hn⟩:∃n:Nat,(Am q 0).next=n:=⟨(Am q 0).next.toNat,by omega⟩;have e:Am q 0=⟨(n:Int),true,(Am q 0).lang⟩:=by rw[← hn];exact z2n ha
 obtain⟨h1,h2,h3⟩:=v0v e;refine⟨n,(Am q 0).lang,e,h2,h3,h1,?_⟩;have h':Q2h q(q.size+5)(Am q 0)=⟨q.size,true,L⟩:=h;rw[e]at h';have j0:=y0a(s:=q)(A:=(Am q 0).lang)(q.size+5)(q.size+1)n(Am q 0).lang(false,false)(fun w=>(y7y _ w).symm)(by omega)(by omega)h3(by rw[h']);rw[h']at j0;exact j0
theorem Q6p.same{A:Q04}{t:ByteArray}{fs gs hs:List Bool}(h:Q6p A t fs gs)(hl:hs.length=t.size+1)(e:∀j,On hs j↔On gs j):Q6p A t fs hs:=⟨hl,fun j hj=>by rw[e,h.on j hj]⟩
structure Way(A:Q04)(t:ByteArray)(fs os:List Bool):Prop where
 len:os.length=t.size+1
 lo:∀j,j<=t.size->Q5o A t(On fs)j->On os j
 hi:∀j,On os j->j<=t.size->Q5o(Q5x false true A)t(On fs)j
theorem x3z{A:Q04}{t:ByteArray}{fs os:List Bool}(h:Q6p A t fs os):Way A t fs os :=
 ⟨h.len,fun j hj r=>(h.on j hj).2 r,fun j ho hj=>x7l((h.on j hj).1 ho)⟩
theorem x6m{A:Q04}{t:ByteArray}{fs os ns:List Bool}(h:Way A t fs os)(hn:Q6p A t os ns):Way A t fs(orI os ns(t.size+1)(t.size+1))/\Q9i(orI os ns(t.size+1)(t.size+1))<=Q9i os/\(moI os ns(t.size+1)=true->Q9i(orI os ns(t.size+1)(t.size+1))<Q9i os)/\(moI os ns(t.size+1)=false->Q6p(Q5x false true A)t fs(orI os ns(t.size+1)(t.size+1))):=by
 have u:=v0t(xs:=os)(ys:=ns)h.len;have j0:∀j,On os j->On(orI os ns(t.size+1)(t.size+1))j:=fun j hj=>(u.on j).2(.inl hj);have j2:os.length=(orI os ns(t.size+1)(t.size+1)).length:=u.len.symm;have hL:=h.len;refine⟨⟨by rw[z2j],fun j hj r=>j0 j(h.lo j hj r),fun j ho hj=>?_⟩,y6n j2 j0,fun hm=>?_,fun hm=>?_⟩
 ·rcases(u.on j).1 ho with q|⟨_,q⟩
  ·exact h.hi j q hj
  obtain⟨i,i1,i2,i3⟩:=(hn.on j hj).1 q;exact x3v hj⟨i,i1,h.hi i i2(by omega),i3⟩
 ·obtain⟨j,q1,q2⟩:=x87 hm;refine x2a j2 j0⟨j,(u.on j).2(.inr⟨?_,q1⟩),q2⟩;have:=q1.lt;rw[hn.len]at this;omega
 have j1:=x5s hm hn.len;have hc:=y61 h.len h.lo h.hi hn j1;refine hc.same(by rw[z2j])(fun j=>⟨fun q=>?_,j0 j⟩);rcases(u.on j).1 q with z|⟨_,z⟩
 ·exact z
 exact j1 j z
theorem x3q{A:Q04}{t:ByteArray}{fs os:List Bool}(m:Bool)(h:Q6p(Q5x false m A)t fs os)(hl:fs.length=t.size+1):Q6p(Q5x true m A)t fs(orI os fs(t.size+1)(t.size+1)):=by
 have u:=v0t(xs:=os)(ys:=fs)h.len;refine(Q6p.alt h(y8u hl)u).iff(fun w=>?_);unfold Q04.alt Q5x epsL;constructor
 ·rintro((⟨q,_⟩|q)|q)
  ·cases q
  ·exact .inr q
  exact .inl⟨rfl,q⟩
 rintro(⟨_,q⟩|q)
 ·exact .inr q
 exact .inl(.inr q)
theorem x2n(q:ByteArray)(L:Q04)(hs:q.size<=1000)(h:PceIs q L)(hone:∀a A,a.size<=q.size->Q9e a A->SetC 130 a A):SetC 125 q L:=by
 obtain⟨n,A,he,hn0,hnq,hA,hfl⟩:=x48 h;have jd:=z3q(s:=q)(a:=0)(e:=n)hnq;have ON:=hone _ A(by omega)hA;intro t g fs w ht hg hl;have AT:=hid(fun w=>y74 q(by omega)0 w(by omega));have e0:((0:Nat):Int)=0:=rfl;have j7:Q3v(zgK q 6)q 0=n:=by
  have:=z7e(p:=q)6(x:=0)(by omega);unfold Q7g at this;have e1:(Q3q(lgK q 6)q 0)=⟨(n:Int),true,A⟩:=he;rw[e1]at this;exact this
 rw[e0,j7]at AT;have j6:=hid(fun(g:Nat)(fs:List Bool)(w:World)(h1:Q13 w g fs)(h2:fs.length=t.size+1)=>ON t g fs w ht h1 h2);have HG:=hid hg;have HL:=hid hl;have j2:=hid hfl;generalize hM:Q8u q(q.size+1)n(false,false)=M at j2;have HM:=hid hM;have p1:(n:Int)<=(q.size:Int):=by omega
 clear h he hA hfl ON hg hl e0 j7 hM hone;go_enter Tryz.func125,Tryz.ntmps125
 go_wp2_with(first
  |(go_at_call 123;refine(AT.out _).mono ?_;rintro e w'⟨rfl,hw⟩;rw[hw];clear hw))
 go_loopw [8,9,10](fun x8 x9 x10 wr=>∃(i f:Nat)(b:Bool × Bool),x10=.int .i64 i/\x8=.bool b.1/\x9=.bool b.2/\wr=w/\n<=i/\i<=q.size/\q.size+1<=f+i/\Q8u q f i b=M)
   (fun _ _ x _=>1001-(intOf x).toNat)
 case atStart=>exact⟨n,q.size+1,(false,false),rfl,rfl,rfl,rfl,by omega,by omega,by omega,HM.out⟩
 obtain⟨i,f,⟨bn,bm⟩,rfl,rfl,rfl,rfl,hi1,hi2,hf,hrec⟩:=hrel;obtain⟨f,rfl⟩:∃k,f=k+1:=⟨f-1,by omega⟩;rw[x3h]at hrec;clear HM;by_cases hlt:i<q.size
 ·rw[if_pos hlt,z1z hlt]at hrec;have k1:(i:Int)<(q.size:Int):=by omega
  have jb:q[i].toNat<256:=q[i].toNat_lt;have HR:=hid hrec;clear hrec;cases bn<;>cases bm;all_goals
   go_wp2;go_roundw
   case rel=>exact⟨i+1,f,(_,_),by go_num,rfl,rfl,by first|rfl|trivial,by omega,by omega,by omega,HR.out⟩
   simp[intOf];omega
 rw[if_neg hlt]at hrec;subst hrec;have k1:¬(i:Int)<(q.size:Int):=by omega
 dsimp only at j2;obtain⟨wo,hwo⟩:∃wo,wo=wr:=⟨_,rfl⟩;subst hwo;have UN:=hid(fun(w:World)(ga gb:Nat)(xs ys:List Bool)(ha:Q13 w ga xs)(hb:Q13 w gb ys)(la:xs.length=t.size+1)(lb:ys.length=t.size+1)=>z2q w ga gb(t.size+1)xs ys ha hb la lb(by omega));have OX:=hid(j6.out g fs wo HG.out HL.out);go_wp2_with(first
  |(go_at_call 130;refine(OX.out).mono ?_;rintro e w1⟨g1,gs1,rfl,q1,q2,q3⟩;have HQ:=hid(And.intro q1(And.intro q2 q3));clear q1 q2 q3))
 go_loopg [11,12,13](2*(t.size+1)+1)(fun k x11 x12 _ wx=>∃(g2:Nat)(os:List Bool)(mo:Bool),x11=bsl g2(t.size+1)/\x12=.bool mo/\2*Q9i os+(if mo=true then 1 else 0)<=k/\Q13 wx g2 os/\Q0a wo wx/\Way A t fs os/\(mo=true->bm=true)/\(mo=false->Q6p(Q5x false bm A)t fs os))
 case atStart =>
  obtain⟨q1,q2,q3⟩:=HQ.out;refine⟨g1,gs1,bm,rfl,rfl,?_,q2,q1,x3z q3,fun e=>e,fun e=>?_⟩
  ·have:=x9b gs1;rw[q3.len]at this;split<;>omega
  rw[e];exact q3.iff(fun w=>(y7y A w).symm)
 obtain⟨g2,os,mo,rfl,rfl,hk,hB,hfr,hW,hbm,hgo⟩:=hrel;have j0:=hid hB;have j1:=hid hfr;have HW:=hid hW;have j4:=hid hgo;have j3:=hid hbm;clear hB hfr hW hgo hbm HQ OX;cases mo
 ·have j5:=hid(j4.out rfl);clear j4 j3;cases bn
  ·go_wp2;go_ret;exact⟨g2,os,rfl,j1.out,j0.out,j5.out.iff(fun w=>(j2.out w).symm)⟩
  have UX:=hid(UN.out wr g2 g os fs j0.out(HG.out.fresh j1.out)HW.out.len HL.out);go_wp2_with(first
   |(go_at_call 70;refine(UX.out).mono ?_;rintro e w3⟨rfl,hf3,hb3⟩;have HU:=hid(And.intro hf3 hb3);clear hf3 hb3))
  go_ret;exact⟨_,_,rfl,j1.out.trans HU.out.1,HU.out.2,(x3q bm j5.out HL.out).iff(fun w=>(j2.out w).symm)⟩
 have j9:=j3.out rfl;subst j9;clear j4 j3;have ja:=hid(j6.out g2 os wr j0.out HW.out.len);go_wp2_with(first
  |(go_at_call 70;have j8:=HN.out.1;refine(UN.out w1 g2 g3 os ns(j0.out.fresh HN.out.1)HN.out.2.1 HW.out.len HN.out.2.2.len).mono ?_;rintro e w3⟨rfl,hf3,hb3⟩;have HU:=hid(And.intro hf3 hb3);clear hf3 hb3)
  |(go_at_call 130;refine(ja.out).mono ?_;rintro e w1⟨g3,ns,rfl,q1,q2,q3⟩;have HN:=hid(And.intro q1(And.intro q2 q3));clear q1 q2 q3))
 obtain⟨y1,y2,y3,y4⟩:=x6m HW.out HN.out.2.2;go_roundg(2*Q9i(orI os ns(t.size+1)(t.size+1))+(if moI os ns(t.size+1)=true then 1 else 0))
 case measure =>
  have jc:2*Q9i os+1<=gk:=by simpa using hk
  split
  ·have:=y3(by assumption);omega
  omega
 exact⟨_,_,_,rfl,rfl,qR _,HU.out.2,(j1.out.trans HN.out.1).trans HU.out.1,y1,fun _=>(by first|rfl|trivial),y4⟩
end Go.Proofs.YtcpceafmlgaodaaGreat
