import Derived.Test.YtcpceafmlgaodaaGreatRh4
import Derived.Test.YtcpceafmlgaodaaGreatSg4
namespace Go.Proofs.YtcpceafmlgaodaaGreat
open Go.RowKit
set_option maxRecDepth 99999
set_option maxHeartbeats 0
set_option linter.all false
def Q81(rs:List ZLV)(s:ByteArray):Nat->Nat->Int
 |0,_=>-1
 |f+1,i=>match rs[i]? with
  |none=>-1
  |some x=>if(x.ln.name.toList==s.toList)=true then(if x.ln.skip=true then -1 else(i:Int)) else Q81 rs s f (i+1)
def Q8l(X:SP)(s:ByteArray):Int :=
 if Q1a (atB s 0)=true then(if Q1v X.heads s<0 then -1 else(X.rules.length:Int)+1+Q1v X.heads s)
 else Q81 X.rules s (X.rules.length+1) 0
theorem y6y(rs:List ZLV)(s:ByteArray)(f i:Nat):Q81 rs s (f+1) i=match rs[i]? with
  |none=>-1
  |some x=>if(x.ln.name.toList==s.toList)=true then(if x.ln.skip=true then -1 else(i:Int)) else Q81 rs s f (i+1):=rfl
theorem Q2q.rules{w:World}{b:Nat}{X:SP}{v0 v1 v2 v3 v4:Value}{sv:List Value}(h:Q2q w b X v0 v1 v2 v3 v4 sv):Q2e ZLV.cells 7 85 w v0 X.rules:=⟨z0f (h.own 0 _ rfl) (qBg _),fun x _=>rfl⟩
theorem Q2q.prods{w:World}{b:Nat}{X:SP}{v0 v1 v2 v3 v4:Value}{sv:List Value}(h:Q2q w b X v0 v1 v2 v3 v4 sv):Q2e ZLV.cells 7 85 w v1 X.prods:=⟨z0f (h.own 1 _ rfl) (qBg _),fun x _=>rfl⟩
theorem y5s(l:List ByteArray)(s:ByteArray):-1<=Q1v l s/\Q1v l s<=l.length:=by unfold Q1v;split<;>omega
theorem y0f(w:World)(b:Nat)(X:SP)(v0 v1 v2 v3 v4:Value)(sv:List Value)(s:ByteArray)(h:Q2q w b X v0 v1 v2 v3 v4 sv)(hs:0<s.size)(hr:X.rules.length<=1000)(hh:X.heads.length<=1000) :
  Calls Tryz.prog 31 #[.pointer (some ⟨b,0,none⟩),.string s] w fun e w'=>e=.returned (.int .i64 (Q8l X s))/\w'=w:=by
 have hb:=z1r hs;have j4:s[0].toNat<256:=s[0].toNat_lt;have ZG:=hid (fun w=>z7d (s[0].toNat:Int) w);have FI:=hid (fun w=>z6r X.heads s v2 w);have k0:=Q2q.cell h 0;have k2:=Q2q.cell h 2;simp at k0 k2;have j2:=z69 (h.own 2 _ rfl);have FX:=hid (z6r X.heads s v2 w j2 hh);have fb:=y5s X.heads s;unfold Q8l;have j1:atB s 0=(s[0].toNat:Int):=hb;rw[j1];generalize Q1a (s[0].toNat:Int)=cp at ZG ⊢;have j3:(0:Int)<(s.size:Int):=by omega
 obtain⟨a0,cp0,hv0⟩:=z0d (h.own 0 _ rfl);obtain⟨a2,cp2,hv2⟩:=z0d (h.own 2 _ rfl);have j0:=hid h.rules;dsimp only at hv0 hv2;subst hv0 hv2;clear hb j1 h j2 FI;cases cp
 ·rw[qAa (by simp)];generalize hV:Q81 X.rules s (X.rules.length+1) 0=V;have HV:=hid hV;clear hV FX fb;go_enter Tryz.func31,Tryz.ntmps31
  go_wp2_with (first
   |(go_at_call 64;refine csm (ZG.out _) ?_))
  go_loopw [6] (fun x6 wr=>∃(i f:Nat),x6=.int .i64 i/\wr=w/\i<=X.rules.length/\X.rules.length+1<=f+i/\Q81 X.rules s f i=V)
    (fun x _=>1001-(intOf x).toNat)
  case atStart=>exact⟨0,X.rules.length+1,rfl,rfl,by omega,by omega,HV.out⟩
  obtain⟨i,f,rfl,rfl,hi,hf,hrec⟩:=hrel;obtain⟨f,rfl⟩:∃g,f=g+1:=⟨f-1,by omega⟩;rw[y6y]at hrec;clear HV;by_cases hlt:i<X.rules.length
  ·have k1:(i:Int)<(X.rules.length:Int):=by omega
   rw[qE hlt]at hrec;obtain⟨g,cap',hv⟩:=Joins.ownsRow_form j0.own (by omega);rw[qI]at hv;obtain⟨rfl,_,rfl⟩:=hv;have c1:=j0.cell i 1 hlt (by omega);have c2:=j0.cell i 2 hlt (by omega);generalize X.rules[i]=x at hrec c1 c2;obtain⟨⟨xr,xk,xn,xp,xsy,xpl⟩,vs,vp,pl⟩:=x;simp[ZLV.cells]at c1 c2;dsimp only at hrec;cases h1:(xn.toList==s.toList)
   ·rw[h1,qAa (by simp)]at hrec;have HR:=hid hrec;clear hrec;go_wp2;go_roundw
    case rel=>exact⟨i+1,f,by go_num,by first|rfl|trivial,by omega,by omega,HR.out⟩
    simp[intOf];omega
   rw[h1,qAb rfl]at hrec;cases xk
   ·rw[qAa (by simp)]at hrec;have HR:=hid hrec;clear hrec;go_wp2;go_ret;exact⟨by rw[← HR.out];rfl,rfl⟩
   rw[qAb rfl]at hrec;have HR:=hid hrec;clear hrec;go_wp2;go_ret;exact⟨by rw[← HR.out];rfl,rfl⟩
  have k1:¬(i:Int)<(X.rules.length:Int):=by omega
  rw[qN (by omega)]at hrec;have HR:=hid hrec;clear hrec;go_wp2;go_ret;exact⟨by rw[← HR.out];rfl,rfl⟩
 rw[qAb rfl];generalize Q1v X.heads s=fd at FX fb ⊢;obtain⟨fb1,fb2⟩:=fb;by_cases hf:fd<0
 ·rw[qAb hf];go_enter Tryz.func31,Tryz.ntmps31
  go_wp2_with (first
   |(go_at_call 64;refine csm (ZG.out _) ?_)
   |(go_at_call 62;refine csm FX.out ?_))
  go_ret;exact⟨rfl,rfl⟩
 rw[qAa hf];go_enter Tryz.func31,Tryz.ntmps31
 go_wp2_with (first
  |(go_at_call 64;refine csm (ZG.out _) ?_)
  |(go_at_call 62;refine csm FX.out ?_))
 go_ret;exact⟨rfl,rfl⟩
def Q7b(X:SP)(x:ZLV):Nat->Nat->Option Int
 |0,_=>none
 |f+1,j=>match x.ln.syms[j]? with
  |none=>none
  |some n=>if Q8l X n<0 then some (x.pl+x.ln.places.getD j 0) else Q7b X x f (j+1)
theorem y2y(X:SP)(x:ZLV)(f j:Nat):Q7b X x (f+1) j=match x.ln.syms[j]? with
  |none=>none
  |some n=>if Q8l X n<0 then some (x.pl+x.ln.places.getD j 0) else Q7b X x f (j+1):=rfl
def Q3g(X:SP):List ZLV->List ByteArray->Int
 | [],_=>-1
 |x::l,ahead =>
  if x.ln.rule=true/\0<=Q1v ahead x.ln.name then x.pl
  else match Q7b X x (x.ln.syms.length+1) 0 with
   |some p=>p
   |none=>Q3g X l (if x.ln.rule=true then ahead++[x.ln.name] else ahead)
structure ZOk(x:ZLV):Prop where
 ne:∀n∈x.ln.syms,0<n.size
 len:x.ln.places.length=x.ln.syms.length
 small:x.ln.syms.length<=1000
 pl:0<=x.pl/\x.pl<=1000
 pls:∀p∈x.ln.places,0<=p/\p<=1000
theorem x04(w:World)(b B0:Nat)(X:SP)(v0 v1 v2 v3 v4 v:Value)(sv:List Value)(xs:List ZLV)(h:Q2q w b X v0 v1 v2 v3 v4 sv)(hL:Q4x B0 w v xs)(hr:X.rules.length<=1000)(hh:X.heads.length<=1000)(hn:xs.length<=1000)(hok:∀x∈xs,ZOk x) :
  Calls Tryz.prog 29 #[.pointer (some ⟨b,0,none⟩),v] w fun e w'=>e=.returned (.int .i64 (Q3g X xs []))/\Q0a w w':=by
 obtain⟨i0,hi0,hz0,hz1,hz2⟩:=Q8j;have NU:=hid (fun(w':World) (hf:Q0a w w') (s:ByteArray) (hs:0<s.size)=>y0f w' b X v0 v1 v2 v3 v4 sv s (h.fresh hf) hs hr hh);have HL:=hid (fun w' (hf:Q0a w w')=>hL.kept hf (fun _ _ x=>x));have jh:=hid hok;obtain⟨ao,cap,hv⟩:=z0d hL.own;subst hv;generalize hR:Q3g X xs []=R;have HR:=hid hR;clear hL hR h hok;go_enter Tryz.func29,Tryz.ntmps29
 go_wp2;go_loopw [5,6] (fun x5 x6 wr=>∃(i:Nat) (ah:List ByteArray),x6=.int .i64 i/\i<=xs.length/\ah.length<=i/\Q3g X (xs.drop i) ah=R/\wr.ownsRow w.heap.size 9 1 x5 ah.length (Q9t ah)/\Q0a w wr)
   (fun _ x _=>1001-(intOf x).toNat)
 case atStart=>exact⟨0,[],rfl,by omega,by simp,HR.out,World.ownsRow_nil _ _ _ _,mRf _ _⟩
 obtain⟨i,ah,rfl,hi,hal,hrec,hown,hfr⟩:=hrel;clear HR;have j6:=hid (HL.out wr hfr);have HF:=hid hfr;have HO:=hid hown;have ji:Hid (1001-(intOf (.int .i64 ((i:Int)+1))).toNat<1001-(intOf (.int .i64 (i:Int))).toNat):=by unfold Hid;simp[intOf];omega
 obtain⟨aa,ca,hva⟩:=z0d hown;subst hva;by_cases hlt:i<xs.length
 ·have jm:(i:Int)<(xs.length:Int):=by omega
  obtain⟨g,cap',hv⟩:=Joins.ownsRow_form j6.own (by omega);rw[qI]at hv;obtain⟨rfl,_,rfl⟩:=hv;rw[qC hlt,Q3g]at hrec;have j7:=j6.each xs[i] (by simp);have ja:=jh.out xs[i] (by simp);have j8:=hid (fun(W:World) (hW:Q0a w W)=>(HL.out W hW).each xs[i] (by simp));have j1:=fun(W:World) (hW:Q0a w W) j hj=>(HL.out W hW).row.cell i j hlt hj;generalize hx:xs[i]=x at hrec j7 j1 ja j8;obtain⟨⟨xr,xk,xn,xp,xsy,xpl⟩,vs,vp,pl⟩:=x;obtain⟨so,sc,hvs⟩:=z0d j7.syms;obtain⟨po,pc,hvp⟩:=z0d j7.places;dsimp only at hvs hvp;subst hvs hvp;have HC:Hid (∀W,Q0a w W->W.cell? ⟨g,i*7,none⟩=some (.bool xr)/\W.cell? ⟨g,i*7+2,none⟩=some (.string xn)/\W.cell? ⟨g,i*7+4,none⟩=some (.slice so xsy.length sc)/\W.cell? ⟨g,i*7+5,none⟩=some (.slice po xpl.length pc)/\W.cell? ⟨g,i*7+6,none⟩=some (.int .i64 pl)):=fun W hW=>by
   exact⟨j1 W hW 0 (by omega),j1 W hW 2 (by omega),j1 W hW 4 (by omega),j1 W hW 5 (by omega),j1 W hW 6 (by omega)⟩
  obtain⟨c0,c2,c4,c5,c6⟩:=HC.out wr hfr;have FI:=hid (z6r ah xn _ wr (z69 hown) (by omega));have fb:=y5s ah xn;dsimp only at hrec;have j0:=hid hrec;have HZ:=hid ja;have jl:=(j6.own.lt g rfl).2;clear hrec j7 j1 hx hfr hown ja;go_upto_if 20 with fail
  go_cut [5,7] (fun x5 _ wx=>∃ah2,ah2.length<=i+1/\(¬(xr=true/\0<=Q1v ah xn))/\ah2=(if xr=true then ah++[xn] else ah)/\wx.ownsRow w.heap.size 9 1 x5 ah2.length (Q9t ah2)/\Q0a w wx)
  case first =>
   cases xr
   ·go_wp2_with fail
    go_meet;exact⟨ah,by omega,by simp,rfl,HO.out,HF.out⟩
   generalize hfd:Q1v ah xn=fd at FI fb j0;have jg:=hid hfd;clear hfd;obtain⟨fb1,fb2⟩:=fb;by_cases hf:0<=fd
   ·have j4:Hid (pl=R):=by
     have:=j0.out;rw[qAb ⟨rfl,hf⟩]at this;exact this
    clear j0;go_wp2_with (first
     |(go_at_call 62;refine csm FI.out ?_))
    go_ret;exact⟨by rw[← j4.out];rfl,HF.out⟩
   have jk:fd=-1:=by omega
   subst jk;go_wp2_with (first
    |(go_at_call 62;refine csm FI.out ?_)
    |(at_builtin;refine z0g _ rfl _ _ 51 rfl w.heap.size 9 i0 _ 1 16 Tryz.underlying51 hi0 hz0 hz1 hz2 rfl (by decide) _ _ _ rfl (HO.alloc _) ⟨wr.heap.size,0,none⟩ 1 1 [.string xn] rfl rfl (z0l rfl) (by intro u hu;simp at hu;subst hu;rfl) (by unfold maxLen;omega) (by omega) (by have:=HF.size;simp;omega) ?_;intro v' w2 hown2 hgrow hblk;have jc:Q0a w w2:=Mod.grown (S:=fun _=>False) (HF.alloc _) hgrow (fun k hk hlt=>by have:=(HO.lt k hk).1;omega);have j9:=hid hown2;have j3:=hid jc;clear hown2 hgrow hblk jc))
   go_meet;refine⟨ah++[xn],by simp;omega,by rw[jg.out];simp,by simp,?_,j3.out⟩;rw[qP,qAf];have e1:=qBf (f:=Value.string) (l₁:=ah) (l₂:=[xn]);rw[qCf]at e1;show World.ownsRow _ _ _ _ _ _ (List.map _ _);rw[e1];exact j9.out
  obtain⟨ah2,hal2,hno,hah,hown2,hfr2⟩:=hcut;have j4:Hid ((match Q7b X ⟨⟨xr,xk,xn,xp,xsy,xpl⟩,.slice so xsy.length sc,.slice po xpl.length pc,pl⟩ (xsy.length+1) 0 with|some p=>p|none=>Q3g X (xs.drop (i+1)) ah2)=R):=by
   have:=j0.out;rw[qAa hno,← hah]at this;exact this
  have j9:=hid hown2;have j3:=hid hfr2;obtain⟨ab,cb,hvb⟩:=z0d hown2;obtain⟨d0,d2,d4,d5,d6⟩:=HC.out wc hfr2;have js:g<wc.heap.size:=((HL.out wc hfr2).own.lt g rfl).2;have j5:=hid (j8.out wc hfr2);clear j0 c0 c2 c4 c5 c6 FI fb hno hah hown2 hfr2 HO HF j6 jl HC j8;subst hvb;generalize hSZ:Q7b X ⟨⟨xr,xk,xn,xp,xsy,xpl⟩,.slice so xsy.length sc,.slice po xpl.length pc,pl⟩ (xsy.length+1) 0=SZ at j4;have jb:=hid hSZ;clear hSZ;go_wp2_with fail
  go_loopw [8] (fun x8 wr=>∃(j f:Nat),x8=.int .i64 j/\wr=wc/\j<=xsy.length/\xsy.length+1<=f+j/\Q7b X ⟨⟨xr,xk,xn,xp,xsy,xpl⟩,.slice so xsy.length sc,.slice po xpl.length pc,pl⟩ f j=SZ)
    (fun x _=>1001-(intOf x).toNat)
  case atStart=>exact⟨0,xsy.length+1,rfl,by first|rfl|trivial,by omega,by omega,jb.out⟩
  obtain⟨j,f,rfl,rfl,hj,hf,hrec⟩:=hrel;obtain⟨f,rfl⟩:∃k,f=k+1:=⟨f-1,by omega⟩;rw[y2y]at hrec;clear jb;dsimp only at hrec;have jq:=HZ.small;dsimp only at jq;by_cases hjl:j<xsy.length
  ·have k1:(j:Int)<(xsy.length:Int):=by omega
   rw[qE hjl]at hrec;dsimp only at hrec;obtain⟨gs,cs,hvs⟩:=Joins.ownsRow_form j5.syms (by dsimp only;omega);rw[qI]at hvs;obtain⟨rfl,_,rfl⟩:=hvs;have jr:wr.cell? ⟨gs,j,none⟩=some (.string xsy[j]):=by
    have:=j5.syms.cells (g:=gs) rfl j (.string xsy[j]) (by simp[hjl]);rwa [Addr.add_mid,qBi]at this
   have jp:=HZ.ne xsy[j] (by simp);have NX:=hid (NU.out wr j3.out xsy[j] jp);generalize Q8l X xsy[j]=nn at NX hrec;by_cases hn0:nn<0
   ·rw[qAb hn0]at hrec;have jf:=HZ.len;dsimp only at jf;have je:j<xpl.length:=by omega
    have k2:(j:Int)<(xpl.length:Int):=by omega
    obtain⟨gp,cp,hvp⟩:=Joins.ownsRow_form j5.places (by dsimp only;omega);rw[qI]at hvp;obtain⟨rfl,_,rfl⟩:=hvp;have jj:wr.cell? ⟨gp,j,none⟩=some (.int .i64 xpl[j]):=by
     have:=j5.places.cells (g:=gp) rfl j (.int .i64 xpl[j]) (by simp[je]);rwa [Addr.add_mid,qBi]at this
    have jn:=HZ.pl;have jo:=HZ.pls xpl[j] (by simp);dsimp only at jn;have jd:xpl.getD j 0=xpl[j]:=by simp[je]
    rw[jd]at hrec;clear jd jf;have j2:Hid (pl+xpl[j]=R):=by
     have:=j4.out;rw[← hrec]at this;exact this
    clear hrec;generalize xpl[j]=q at jj jo j2;go_wp2_with (first
     |(go_at_call 31;refine csm NX.out ?_))
    go_quiet (fail);go_wp2;go_ret;refine⟨?_,j3.trans (Q4l _ _)⟩;rw[← j2.out];rfl
   rw[qAa hn0]at hrec;have j2:=hid hrec;clear hrec;go_wp2_with (first
    |(go_at_call 31;refine csm NX.out ?_))
   go_roundw
   case rel=>exact⟨j+1,f,by go_num,by first|rfl|trivial,by omega,by omega,j2.out⟩
   simp[intOf];omega
  have k1:¬(j:Int)<(xsy.length:Int):=by omega
  rw[qN (by omega)]at hrec;have j2:Hid (Q3g X (xs.drop (i+1)) ah2=R):=by
   have:=j4.out;rw[← hrec]at this;exact this
  clear hrec;go_wp2;go_roundw
  case rel=>exact⟨i+1,ah2,by go_num,by omega,hal2,j2.out,j9.out,j3.out⟩
  exact ji.out
 have jm:¬(i:Int)<(xs.length:Int):=by omega
 rw[qAi (by omega),Q3g]at hrec;have j0:=hid hrec;clear hrec;go_wp2;go_ret;exact⟨by rw[← j0.out];rfl,HF.out⟩
structure YOk(em:ByteArray->Bool)(y:ZLn × Int):Prop where
 ne:∀n∈y.1.syms,0<n.size
 len:y.1.places.length=y.1.syms.length
 small:y.1.syms.length<=1000
 pl:0<=y.2/\y.2<=1000
 pls:∀p∈y.1.places,0<=p/\p<=1000
 pat:y.1.rule=true->∃L,Q89 y.1.pat L/\y.1.pat.size<=1000/\(em y.1.pat=true↔L [])
theorem YOk.zok{em:ByteArray->Bool}{x:ZLV}(h:YOk em x.both):ZOk x:=⟨h.ne,h.len,h.small,h.pl,h.pls⟩
def Q5h(em:ByteArray->Bool):List ZLV->Option Int
 | []=>none
 |x::l=>if em x.ln.pat=true then some x.pl else Q5h em l
theorem y8w:∀(xs:List ZLV) (X:SP) (P:ZLV->Prop),(∀x∈X.rules,P x/\x.ln.rule=true)->(∀x∈X.prods,P x)->(∀x∈xs,P x)->(∀x∈(Q1h X xs).1.rules,P x/\x.ln.rule=true)/\(∀x∈(Q1h X xs).1.prods,P x)
 | [],X,P,h1,h2,_=>⟨h1,h2⟩
 |x::xs,X,P,h1,h2,h3=>by
  have s1:(∀y∈(Q0y X x).rules,P y/\y.ln.rule=true)/\(∀y∈(Q0y X x).prods,P y):=by
   unfold Q0y;split
   ·rename_i c;refine⟨fun y hy=>?_,h2⟩;rcases qBj.1 hy with hy|hy
    ·exact h1 y hy
    simp at hy;subst hy;exact⟨h3 _ (by simp),c⟩
   refine⟨h1,fun y hy=>?_⟩;rcases qBj.1 hy with hy|hy
   ·exact h2 y hy
   simp at hy;subst hy;exact h3 _ (by simp)
  unfold Q1h;split
  ·exact s1
  exact y8w xs _ P s1.1 s1.2 (fun y hy=>h3 y (by simp[hy]))
theorem y2t:∀(xs:List ZLV) (X:SP),SPbd X->(Q1h X xs).2<0->(∀x∈xs,0<=x.pl)->SPbd (Q1h X xs).1
 | [],X,h,_,_=>h
 |x::xs,X,h,hp,hx=>by
  unfold Q1h at hp ⊢;cases ho:Q73 (Q0y X x) x
  ·rw[ho]at hp;rw[qAa (by simp)]at hp ⊢;exact y2t xs _ (x4s h ho) hp (fun y hy=>hx y (by simp[hy]))
  rw[ho,qAb rfl]at hp;have:=hx x (by simp);dsimp only at hp;omega
theorem x3m:SPbd Q2t:=⟨by simp[Q2t],by simp[Q2t],by simp[Q2t],by simp[Q2t]⟩
def Q8e(X:SP)(x:ZLV):List Int:=x.ln.syms.map (Q8l X)
structure Q6k(w:World)(b:Nat)(X:SP)(v0 v1 v2 v3 v4:Value)(sv:List Value):Prop where
 sp:Q2q w b X v0 v1 v2 v3 v4 sv
 len:sv.length<=X.prods.length
 syms:∀(i:Nat) (v:Value) (x:ZLV),sv[i]? = some v->X.prods[i]? = some x->w.ownsRow (b+1) 3 1 v x.ln.syms.length (Q9w (Q8e X x))/\∀k,v.ownBlock=some k->v4.ownBlock≠some k
theorem Q6k.fresh{w w':World}{b:Nat}{X:SP}{v0 v1 v2 v3 v4:Value}{sv:List Value}(h:Q6k w b X v0 v1 v2 v3 v4 sv)(m:Q0a w w'):Q6k w' b X v0 v1 v2 v3 v4 sv :=
 ⟨h.sp.fresh m,h.len,fun i v x h1 h2=>⟨z0c (h.syms i v x h1 h2).1 (fun g hg=>m.block g ((h.syms i v x h1 h2).1.lt g hg).2 (fun x=>x)),(h.syms i v x h1 h2).2⟩⟩
theorem Q6k.add{w wr W w1:World}{b:Nat}{X:SP}{v0 v1 v2 v3 v4 v' u:Value}{sv:List Value}{x:ZLV}(h:Q6k w b X v0 v1 v2 v3 v4 sv)(hr:Q0a w wr)(hW:Q0a wr W)(hx:X.prods[sv.length]? = some x)
  (hu:wr.ownsRow w.heap.size 3 1 u x.ln.syms.length (Q9w (Q8e X x)))
  (hown:w1.ownsRow (b+1) 22 1 v' (sv.length+1) (sv++[u])) (hg:W.grownBy w1 v4.ownBlock)
  (hb:∀k,v'.ownBlock=some k->v4.ownBlock=some k∨W.heap.size<=k) :
  Q6k (w1.setCell ⟨b,4,none⟩ v') b X v0 v1 v2 v3 v' (sv++[u])/\UpZ b w (w1.setCell ⟨b,4,none⟩ v'):=by
 obtain⟨q1,q2⟩:=Q2q.add4 (h.sp.fresh hr) hW hown hg hb;have j3:=h.sp.lt;have j4:=hr.size;have j5:=hW.size;have j0:Mod (fun k=>k=b∨v4.ownBlock=some k) wr (w1.setCell ⟨b,4,none⟩ v') :=
  ((hW.mono (T:=fun k=>k=b∨v4.ownBlock=some k) (fun _ _ x=>x.elim)).grown hg (fun k hk _=>.inr hk)).setCell (fun _=>.inl rfl) _
 have j1:=(h.sp.own_lt (i:=4) rfl);refine⟨⟨q1,?_,?_⟩,(hr.mono (fun _ _ x=>x.elim)).trans q2⟩
 ·have:=(qS hx).1;simp;omega
 intro i v y h1 h2;by_cases hi:i<sv.length
 ·rw[qAe hi]at h1;obtain⟨y1,y2⟩:=h.syms i v y h1 h2;have y3:=z0c (w':=wr) y1 (fun g hg=>hr.block g (y1.lt g hg).2 (fun x=>x));refine⟨z0c y3 (fun g hg=>j0.block g (y3.lt g hg).2 ?_),fun k hk e=>?_⟩
  ·rintro(e|e)
   ·have:=(y1.lt g hg).1;omega
   exact y2 g hg e
  rcases hb k e with z|z
  ·exact y2 k hk z
  have:=y1.lt k hk;omega
 have j2:=(qS h1).1;simp at j2;have e:i=sv.length:=by omega
 subst e;rw[qAg (qR _)]at h1;simp at h1;subst h1;rw[hx]at h2;injection h2 with h2;subst h2;have ul:=hu.lt;refine⟨z0f (z0c hu (fun g hg=>j0.block g (ul g hg).2 ?_)) (by omega),fun k hk e=>?_⟩
 ·rintro(e|e)
  ·have:=ul g hg;omega
  have:=j1 g e;have:=ul g hg;omega
 have:=ul k hk;rcases hb k e with z|z
 ·have:=j1 k z;omega
 omega
def SpecX(w:World)(b:Nat)(X:SP):Prop:=∃v0 v1 v2 v3 v4 sv,Q6k w b X v0 v1 v2 v3 v4 sv/\sv.length=X.prods.length
def tailZ(s:ByteArray)(n:Nat):Option Int->Int × Int
 |some p=>(5,p)
 |none=>if n=0 then(6,(s.size:Int)) else(0,0)
def Q51(em:ByteArray->Bool)(s:ByteArray)(xs:List ZLV)(fp:Int):Int × Int :=
 if 800<s.size then(1,0) else if 0<=fp then(2,fp) else if 0<=(Q1h Q2t xs).2 then(3,(Q1h Q2t xs).2)
 else if 0<=Q3g (Q1h Q2t xs).1 xs [] then(4,Q3g (Q1h Q2t xs).1 xs [])
 else tailZ s (Q1h Q2t xs).1.prods.length (Q5h em (Q1h Q2t xs).1.rules)
def ReadRet(em:ByteArray->Bool)(s:ByteArray)(w:World)(e:Ending)(w':World):Prop :=
 ∃(p:Value) (xs:List ZLV),(s.size<=800->xs.map ZLV.both=(Q4r s).1)/\(∀x∈xs,x.At w.heap.size w')/\e=.returned (.tuple #[p,.int .i64 (Q51 em s xs (Q4r s).2).1,.int .i64 (Q51 em s xs (Q4r s).2).2])/\Q0a w w' /\
  ((Q51 em s xs (Q4r s).2).1=0->∃b,w.heap.size<=b/\p=.pointer (some ⟨b,0,none⟩)/\SpecX w' b (Q1h Q2t xs).1)
end Go.Proofs.YtcpceafmlgaodaaGreat
