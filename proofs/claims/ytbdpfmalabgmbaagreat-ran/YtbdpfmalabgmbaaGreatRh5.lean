import Derived.Test.YtbdpfmalabgmbaaGreatRh4
import Derived.Test.YtbdpfmalabgmbaaGreatSg3
namespace Go.Proofs.YtbdpfmalabgmbaaGreat
open Go.RowKit
set_option maxRecDepth 99999
set_option maxHeartbeats 0
set_option linter.all false
def Q9i(rs:List ZLV)(s:ByteArray):Nat->Nat->Int
 |0,_=>-1
 |f+1,i=>match rs[i]? with
  |none=>-1
  |some x=>if(x.ln.name.toList==s.toList)=true then(if x.ln.skip=true then -1 else(i:Int)) else Q9i rs s f (i+1)
def Q80(X:SP)(s:ByteArray):Int :=
 if Q1a (atB s 0)=true then(if Q1y X.heads s<0 then -1 else(X.rules.length:Int)+1+Q1y X.heads s)
 else Q9i X.rules s (X.rules.length+1) 0
theorem y7g(rs:List ZLV)(s:ByteArray)(f i:Nat):Q9i rs s (f+1) i=match rs[i]? with
  |none=>-1
  |some x=>if(x.ln.name.toList==s.toList)=true then(if x.ln.skip=true then -1 else(i:Int)) else Q9i rs s f (i+1):=rfl
theorem Q2f.rules{w:World}{b:Nat}{X:SP}{v0 v1 v2 v3 v4:Value}{sv:List Value}(h:Q2f w b X v0 v1 v2 v3 v4 sv):Q18 ZLV.cells 7 113 w v0 X.rules:=⟨z0g (h.own 0 _ rfl) (qBq _),fun x _=>rfl⟩
theorem Q2f.prods{w:World}{b:Nat}{X:SP}{v0 v1 v2 v3 v4:Value}{sv:List Value}(h:Q2f w b X v0 v1 v2 v3 v4 sv):Q18 ZLV.cells 7 113 w v1 X.prods:=⟨z0g (h.own 1 _ rfl) (qBq _),fun x _=>rfl⟩
theorem y6b(l:List ByteArray)(s:ByteArray):-1<=Q1y l s/\Q1y l s<=l.length:=by unfold Q1y;split<;>omega
theorem y0u(w:World)(b:Nat)(X:SP)(v0 v1 v2 v3 v4:Value)(sv:List Value)(s:ByteArray)(h:Q2f w b X v0 v1 v2 v3 v4 sv)(hs:0<s.size)(hr:X.rules.length<=1000)(hh:X.heads.length<=1000) :
  Calls Tryz.prog 44 #[.pointer (some ⟨b,0,none⟩),.string s] w fun e w'=>e=.returned (.int .i64 (Q80 X s))/\w'=w:=by
 have hb:=z1u hs;have jd:s[0].toNat<256:=s[0].toNat_lt;have ZG:=hid (fun w=>z7m (s[0].toNat:Int) w);have FI:=hid (fun w=>z60 X.heads s v2 w);have k0:=Q2f.cell h 0;have k2:=Q2f.cell h 2;simp at k0 k2;have j4:=z7i (h.own 2 _ rfl);have FX:=hid (z60 X.heads s v2 w j4 hh);have fb:=y6b X.heads s;unfold Q80;have j3:atB s 0=(s[0].toNat:Int):=hb;rw[j3];generalize Q1a (s[0].toNat:Int)=cp at ZG ⊢;have j8:(0:Int)<(s.size:Int):=by omega
 obtain⟨a0,j9,j5⟩:=z0c (h.own 0 _ rfl);obtain⟨a2,ja,j6⟩:=z0c (h.own 2 _ rfl);have j1:=hid h.rules;dsimp only at j5 j6;subst j5 j6;clear hb j3 h j4 FI;cases cp
 ·rw[qAa (by simp)];generalize hV:Q9i X.rules s (X.rules.length+1) 0=V;have HV:=hid hV;clear hV FX fb;go_enter Tryz.func44,Tryz.ntmps44
  go_wp2_with (first
   |(go_at_call 74;refine csm (ZG.out _) ?_))
  go_loopw [6] (fun x6 wr=>∃(i f:Nat),x6=.int .i64 i/\wr=w/\i<=X.rules.length/\X.rules.length+1<=f+i/\Q9i X.rules s f i=V)
    (fun x _=>1001-(intOf x).toNat)
  case atStart=>exact⟨0,X.rules.length+1,rfl,rfl,by omega,by omega,HV.out⟩
  obtain⟨i,f,rfl,rfl,hi,hf,j0⟩:=hrel;obtain⟨f,rfl⟩:∃g,f=g+1:=⟨f-1,by omega⟩;rw[y7g]at j0;clear HV;by_cases j2:i<X.rules.length
  ·have k1:(i:Int)<(X.rules.length:Int):=by omega
   rw[qE j2]at j0;obtain⟨g,j7,hv⟩:=Joins.ownsRow_form j1.own (by omega);rw[qI]at hv;obtain⟨rfl,_,rfl⟩:=hv;have c1:=j1.cell i 1 j2 (by omega);have c2:=j1.cell i 2 j2 (by omega);generalize X.rules[i]=x at j0 c1 c2;obtain⟨⟨xr,xk,xn,xp,jf,je⟩,vs,vp,pl⟩:=x;simp[ZLV.cells]at c1 c2;dsimp only at j0;cases h1:(xn.toList==s.toList)
   ·rw[h1,qAa (by simp)]at j0;have HR:=hid j0;clear j0;go_wp2;go_roundw
    case rel=>exact⟨i+1,f,by go_num,by first|rfl|trivial,by omega,by omega,HR.out⟩
    simp[intOf];omega
   rw[h1,qAb rfl]at j0;cases xk
   ·rw[qAa (by simp)]at j0;have HR:=hid j0;clear j0;go_wp2;go_ret;exact⟨by rw[← HR.out];rfl,rfl⟩
   rw[qAb rfl]at j0;have HR:=hid j0;clear j0;go_wp2;go_ret;exact⟨by rw[← HR.out];rfl,rfl⟩
  have k1:¬(i:Int)<(X.rules.length:Int):=by omega
  rw[qN (by omega)]at j0;have HR:=hid j0;clear j0;go_wp2;go_ret;exact⟨by rw[← HR.out];rfl,rfl⟩
 rw[qAb rfl];generalize Q1y X.heads s=fd at FX fb ⊢;obtain⟨jb,jc⟩:=fb;by_cases hf:fd<0
 ·rw[qAb hf];go_enter Tryz.func44,Tryz.ntmps44
  go_wp2_with (first
   |(go_at_call 74;refine csm (ZG.out _) ?_)
   |(go_at_call 73;refine csm FX.out ?_))
  go_ret;exact⟨rfl,rfl⟩
 rw[qAa hf];go_enter Tryz.func44,Tryz.ntmps44
 go_wp2_with (first
  |(go_at_call 74;refine csm (ZG.out _) ?_)
  |(go_at_call 73;refine csm FX.out ?_))
 go_ret;exact⟨rfl,rfl⟩
def Q7q(X:SP)(x:ZLV):Nat->Nat->Option Int
 |0,_=>none
 |f+1,j=>match x.ln.syms[j]? with
  |none=>none
  |some n=>if Q80 X n<0 then some (x.pl+x.ln.places.getD j 0) else Q7q X x f (j+1)
theorem y3g(X:SP)(x:ZLV)(f j:Nat):Q7q X x (f+1) j=match x.ln.syms[j]? with
  |none=>none
  |some n=>if Q80 X n<0 then some (x.pl+x.ln.places.getD j 0) else Q7q X x f (j+1):=rfl
def Q3k(X:SP):List ZLV->List ByteArray->Int
 | [],_=>-1
 |x::l,ahead =>
  if x.ln.rule=true/\0<=Q1y ahead x.ln.name then x.pl
  else match Q7q X x (x.ln.syms.length+1) 0 with
   |some p=>p
   |none=>Q3k X l (if x.ln.rule=true then ahead++[x.ln.name] else ahead)
structure ZOk(x:ZLV):Prop where
 ne:∀n∈x.ln.syms,0<n.size
 len:x.ln.places.length=x.ln.syms.length
 small:x.ln.syms.length<=1000
 pl:0<=x.pl/\x.pl<=1000
 pls:∀p∈x.ln.places,0<=p/\p<=1000
theorem x1n(w:World)(b B0:Nat)(X:SP)(v0 v1 v2 v3 v4 v:Value)(sv:List Value)(xs:List ZLV)(h:Q2f w b X v0 v1 v2 v3 v4 sv)(hL:Q44 B0 w v xs)(hr:X.rules.length<=1000)(hh:X.heads.length<=1000)(hn:xs.length<=1000)(hok:∀x∈xs,ZOk x) :
  Calls Tryz.prog 42 #[.pointer (some ⟨b,0,none⟩),v] w fun e w'=>e=.returned (.int .i64 (Q3k X xs []))/\Q0a w w':=by
 obtain⟨i0,k7,ke,kf,kg⟩:=Q8x;have NU:=hid (fun(w':World) (hf:Q0a w w') (s:ByteArray) (hs:0<s.size)=>y0u w' b X v0 v1 v2 v3 v4 sv s (h.fresh hf) hs hr hh);have HL:=hid (fun w' (hf:Q0a w w')=>hL.kept hf (fun _ _ x=>x));have jz:=hid hok;obtain⟨ao,cap,hv⟩:=z0c hL.own;subst hv;generalize hR:Q3k X xs []=R;have HR:=hid hR;clear hL hR h hok;go_enter Tryz.func42,Tryz.ntmps42
 go_wp2;go_loopw [5,6] (fun x5 x6 wr=>∃(i:Nat) (ah:List ByteArray),x6=.int .i64 i/\i<=xs.length/\ah.length<=i/\Q3k X (xs.drop i) ah=R/\wr.ownsRow w.heap.size 9 1 x5 ah.length (Q98 ah)/\Q0a w wr)
   (fun _ x _=>1001-(intOf x).toNat)
 case atStart=>exact⟨0,[],rfl,by omega,by simp,HR.out,qAh _ _ _ _,mRf _ _⟩
 obtain⟨i,ah,rfl,hi,kk,j0,j6,jh⟩:=hrel;clear HR;have jg:=hid (HL.out wr jh);have HF:=hid jh;have HO:=hid j6;have k3:Hid (1001-(intOf (.int .i64 ((i:Int)+1))).toNat<1001-(intOf (.int .i64 (i:Int))).toNat):=by unfold Hid;simp[intOf];omega
 obtain⟨aa,ca,kc⟩:=z0c j6;subst kc;by_cases jn:i<xs.length
 ·have k8:(i:Int)<(xs.length:Int):=by omega
  obtain⟨g,k0,hv⟩:=Joins.ownsRow_form jg.own (by omega);rw[qI]at hv;obtain⟨rfl,_,rfl⟩:=hv;rw[qC jn,Q3k]at j0;have ji:=jg.each xs[i] (by simp);have jo:=jz.out xs[i] (by simp);have jj:=hid (fun(W:World) (hW:Q0a w W)=>(HL.out W hW).each xs[i] (by simp));have j9:=fun(W:World) (hW:Q0a w W) j hj=>(HL.out W hW).row.cell i j jn hj;generalize hx:xs[i]=x at j0 ji j9 jo jj;obtain⟨⟨xr,xk,xn,xp,j2,j3⟩,vs,vp,pl⟩:=x;obtain⟨so,sc,je⟩:=z0c ji.syms;obtain⟨po,pc,jd⟩:=z0c ji.places;dsimp only at je jd;subst je jd;have HC:Hid (∀W,Q0a w W->W.cell? ⟨g,i*7,none⟩=some (.bool xr)/\W.cell? ⟨g,i*7+2,none⟩=some (.string xn)/\W.cell? ⟨g,i*7+4,none⟩=some (.slice so j2.length sc)/\W.cell? ⟨g,i*7+5,none⟩=some (.slice po j3.length pc)/\W.cell? ⟨g,i*7+6,none⟩=some (.int .i64 pl)):=fun W hW=>by
   exact⟨j9 W hW 0 (by omega),j9 W hW 2 (by omega),j9 W hW 4 (by omega),j9 W hW 5 (by omega),j9 W hW 6 (by omega)⟩
  obtain⟨c0,c2,c4,c5,c6⟩:=HC.out wr jh;have FI:=hid (z60 ah xn _ wr (z7i j6) (by omega));have fb:=y6b ah xn;dsimp only at j0;have j4:=hid j0;have HZ:=hid jo;have k6:=(jg.own.lt g rfl).2;clear j0 ji j9 hx jh j6 jo;go_upto_if 20 with fail
  go_cut [5,7] (fun x5 _ wx=>∃j7,j7.length<=i+1/\(¬(xr=true/\0<=Q1y ah xn))/\j7=(if xr=true then ah++[xn] else ah)/\wx.ownsRow w.heap.size 9 1 x5 j7.length (Q98 j7)/\Q0a w wx)
  case first =>
   cases xr
   ·go_wp2_with fail
    go_meet;exact⟨ah,by omega,by simp,rfl,HO.out,HF.out⟩
   generalize hfd:Q1y ah xn=fd at FI fb j4;have jy:=hid hfd;clear hfd;obtain⟨ki,kj⟩:=fb;by_cases hf:0<=fd
   ·have jc:Hid (pl=R):=by
     have:=j4.out;rw[qAb ⟨rfl,hf⟩]at this;exact this
    clear j4;go_wp2_with (first
     |(go_at_call 73;refine csm FI.out ?_))
    go_ret;exact⟨by rw[← jc.out];rfl,HF.out⟩
   have k5:fd=-1:=by omega
   subst k5;go_wp2_with (first
    |(go_at_call 73;refine csm FI.out ?_)
    |(at_builtin;refine z0f _ rfl _ _ 108 rfl w.heap.size 9 i0 _ 1 16 Tryz.underlying108 k7 ke kf kg rfl (by decide) _ _ _ rfl (HO.alloc _) ⟨wr.heap.size,0,none⟩ 1 1 [.string xn] rfl rfl (z0m rfl) (by intro u hu;simp at hu;subst hu;rfl) (by unfold maxLen;omega) (by omega) (by have:=HF.size;simp;omega) ?_;intro v' w2 j1 j8 jm;have jq:Q0a w w2:=Mod.grown (S:=fun _=>False) (HF.alloc _) j8 (fun k hk jn=>by have:=(HO.lt k hk).1;omega);have jk:=hid j1;have jb:=hid jq;clear j1 j8 jm jq))
   go_meet;refine⟨ah++[xn],by simp;omega,by rw[jy.out];simp,by simp,?_,jb.out⟩;rw[qP,qAj];have e1:=qBp (f:=Value.string) (l₁:=ah) (l₂:=[xn]);rw[qDb]at e1;show World.ownsRow _ _ _ _ _ _ (List.map _ _);rw[e1];exact jk.out
  obtain⟨j7,jl,jx,jr,j1,j5⟩:=hcut;have jc:Hid ((match Q7q X ⟨⟨xr,xk,xn,xp,j2,j3⟩,.slice so j2.length sc,.slice po j3.length pc,pl⟩ (j2.length+1) 0 with|some p=>p|none=>Q3k X (xs.drop (i+1)) j7)=R):=by
   have:=j4.out;rw[qAa jx,← jr]at this;exact this
  have jk:=hid j1;have jb:=hid j5;obtain⟨ab,cb,kd⟩:=z0c j1;obtain⟨d0,d2,d4,d5,d6⟩:=HC.out wc j5;have km:g<wc.heap.size:=((HL.out wc j5).own.lt g rfl).2;have jf:=hid (jj.out wc j5);clear j4 c0 c2 c4 c5 c6 FI fb jx jr j1 j5 HO HF jg k6 HC jj;subst kd;generalize hSZ:Q7q X ⟨⟨xr,xk,xn,xp,j2,j3⟩,.slice so j2.length sc,.slice po j3.length pc,pl⟩ (j2.length+1) 0=SZ at jc;have jp:=hid hSZ;clear hSZ;go_wp2_with fail
  go_loopw [8] (fun x8 wr=>∃(j f:Nat),x8=.int .i64 j/\wr=wc/\j<=j2.length/\j2.length+1<=f+j/\Q7q X ⟨⟨xr,xk,xn,xp,j2,j3⟩,.slice so j2.length sc,.slice po j3.length pc,pl⟩ f j=SZ)
    (fun x _=>1001-(intOf x).toNat)
  case atStart=>exact⟨0,j2.length+1,rfl,by first|rfl|trivial,by omega,by omega,jp.out⟩
  obtain⟨j,f,rfl,rfl,hj,hf,j0⟩:=hrel;obtain⟨f,rfl⟩:∃k,f=k+1:=⟨f-1,by omega⟩;rw[y3g]at j0;clear jp;dsimp only at j0;have kh:=HZ.small;dsimp only at kh;by_cases jt:j<j2.length
  ·have k1:(j:Int)<(j2.length:Int):=by omega
   rw[qE jt]at j0;dsimp only at j0;obtain⟨gs,cs,je⟩:=Joins.ownsRow_form jf.syms (by dsimp only;omega);rw[qI]at je;obtain⟨rfl,_,rfl⟩:=je;have kl:wr.cell? ⟨gs,j,none⟩=some (.string j2[j]):=by
    have:=jf.syms.cells (g:=gs) rfl j (.string j2[j]) (by simp[jt]);rwa [qDd,qBy]at this
   have kb:=HZ.ne j2[j] (by simp);have NX:=hid (NU.out wr jb.out j2[j] kb);generalize Q80 X j2[j]=nn at NX j0;by_cases jw:nn<0
   ·rw[qAb jw]at j0;have jv:=HZ.len;dsimp only at jv;have ju:j<j3.length:=by omega
    have k2:(j:Int)<(j3.length:Int):=by omega
    obtain⟨gp,cp,jd⟩:=Joins.ownsRow_form jf.places (by dsimp only;omega);rw[qI]at jd;obtain⟨rfl,_,rfl⟩:=jd;have k4:wr.cell? ⟨gp,j,none⟩=some (.int .i64 j3[j]):=by
     have:=jf.places.cells (g:=gp) rfl j (.int .i64 j3[j]) (by simp[ju]);rwa [qDd,qBy]at this
    have k9:=HZ.pl;have ka:=HZ.pls j3[j] (by simp);dsimp only at k9;have js:j3.getD j 0=j3[j]:=by simp[ju]
    rw[js]at j0;clear js jv;have ja:Hid (pl+j3[j]=R):=by
     have:=jc.out;rw[← j0]at this;exact this
    clear j0;generalize j3[j]=q at k4 ka ja;go_wp2_with (first
     |(go_at_call 44;refine csm NX.out ?_))
    go_quiet (fail);go_wp2;go_ret;refine⟨?_,jb.trans (Q3n _ _)⟩;rw[← ja.out];rfl
   rw[qAa jw]at j0;have ja:=hid j0;clear j0;go_wp2_with (first
    |(go_at_call 44;refine csm NX.out ?_))
   go_roundw
   case rel=>exact⟨j+1,f,by go_num,by first|rfl|trivial,by omega,by omega,ja.out⟩
   simp[intOf];omega
  have k1:¬(j:Int)<(j2.length:Int):=by omega
  rw[qN (by omega)]at j0;have ja:Hid (Q3k X (xs.drop (i+1)) j7=R):=by
   have:=jc.out;rw[← j0]at this;exact this
  clear j0;go_wp2;go_roundw
  case rel=>exact⟨i+1,j7,by go_num,by omega,jl,ja.out,jk.out,jb.out⟩
  exact k3.out
 have k8:¬(i:Int)<(xs.length:Int):=by omega
 rw[qAp (by omega),Q3k]at j0;have j4:=hid j0;clear j0;go_wp2;go_ret;exact⟨by rw[← j4.out];rfl,HF.out⟩
structure YOk(em:ByteArray->Bool)(y:ZLn × Int):Prop where
 ne:∀n∈y.1.syms,0<n.size
 len:y.1.places.length=y.1.syms.length
 small:y.1.syms.length<=1000
 pl:0<=y.2/\y.2<=1000
 pls:∀p∈y.1.places,0<=p/\p<=1000
 pat:y.1.rule=true->∃L,Q8u y.1.pat L/\y.1.pat.size<=1000/\(em y.1.pat=true↔L [])
theorem YOk.zok{em:ByteArray->Bool}{x:ZLV}(h:YOk em x.both):ZOk x:=⟨h.ne,h.len,h.small,h.pl,h.pls⟩
def Q5s(em:ByteArray->Bool):List ZLV->Option Int
 | []=>none
 |x::l=>if em x.ln.pat=true then some x.pl else Q5s em l
theorem y9j:∀(xs:List ZLV) (X:SP) (P:ZLV->Prop),(∀x∈X.rules,P x/\x.ln.rule=true)->(∀x∈X.prods,P x)->(∀x∈xs,P x)->(∀x∈(Q1b X xs).1.rules,P x/\x.ln.rule=true)/\(∀x∈(Q1b X xs).1.prods,P x)
 | [],X,P,h1,h2,_=>⟨h1,h2⟩
 |x::xs,X,P,h1,h2,h3=>by
  have s1:(∀y∈(Q01 X x).rules,P y/\y.ln.rule=true)/\(∀y∈(Q01 X x).prods,P y):=by
   unfold Q01;split
   ·rename_i c;refine⟨fun y hy=>?_,h2⟩;rcases qBs.1 hy with hy|hy
    ·exact h1 y hy
    simp at hy;subst hy;exact⟨h3 _ (by simp),c⟩
   refine⟨h1,fun y hy=>?_⟩;rcases qBs.1 hy with hy|hy
   ·exact h2 y hy
   simp at hy;subst hy;exact h3 _ (by simp)
  unfold Q1b;split
  ·exact s1
  exact y9j xs _ P s1.1 s1.2 (fun y hy=>h3 y (by simp[hy]))
theorem y3b:∀(xs:List ZLV) (X:SP),SPbd X->(Q1b X xs).2<0->(∀x∈xs,0<=x.pl)->SPbd (Q1b X xs).1
 | [],X,h,_,_=>h
 |x::xs,X,h,hp,hx=>by
  unfold Q1b at hp ⊢;cases ho:Q8f (Q01 X x) x
  ·rw[ho]at hp;rw[qAa (by simp)]at hp ⊢;exact y3b xs _ (x49 h ho) hp (fun y hy=>hx y (by simp[hy]))
  rw[ho,qAb rfl]at hp;have:=hx x (by simp);dsimp only at hp;omega
theorem x33:SPbd Q2m:=⟨by simp[Q2m],by simp[Q2m],by simp[Q2m],by simp[Q2m]⟩
def Q8q(X:SP)(x:ZLV):List Int:=x.ln.syms.map (Q80 X)
structure Q6v(w:World)(b:Nat)(X:SP)(v0 v1 v2 v3 v4:Value)(sv:List Value):Prop where
 sp:Q2f w b X v0 v1 v2 v3 v4 sv
 len:sv.length<=X.prods.length
 syms:∀(i:Nat) (v:Value) (x:ZLV),sv[i]? = some v->X.prods[i]? = some x->w.ownsRow (b+1) 3 1 v x.ln.syms.length (W0b (Q8q X x))/\∀k,v.ownBlock=some k->v4.ownBlock≠some k
theorem Q6v.fresh{w w':World}{b:Nat}{X:SP}{v0 v1 v2 v3 v4:Value}{sv:List Value}(h:Q6v w b X v0 v1 v2 v3 v4 sv)(m:Q0a w w'):Q6v w' b X v0 v1 v2 v3 v4 sv :=
 ⟨h.sp.fresh m,h.len,fun i v x h1 h2=>⟨z0d (h.syms i v x h1 h2).1 (fun g hg=>m.block g ((h.syms i v x h1 h2).1.lt g hg).2 id),(h.syms i v x h1 h2).2⟩⟩
theorem Q6v.add{w wr W w1:World}{b:Nat}{X:SP}{v0 v1 v2 v3 v4 v' u:Value}{sv:List Value}{x:ZLV}(h:Q6v w b X v0 v1 v2 v3 v4 sv)(hr:Q0a w wr)(hW:Q0a wr W)(hx:X.prods[sv.length]? = some x)
  (hu:wr.ownsRow w.heap.size 3 1 u x.ln.syms.length (W0b (Q8q X x)))
  (hown:w1.ownsRow (b+1) 24 1 v' (sv.length+1) (sv++[u])) (hg:W.grownBy w1 v4.ownBlock)
  (hb:∀k,v'.ownBlock=some k->v4.ownBlock=some k∨W.heap.size<=k) :
  Q6v (w1.setCell ⟨b,4,none⟩ v') b X v0 v1 v2 v3 v' (sv++[u])/\UpZ b w (w1.setCell ⟨b,4,none⟩ v'):=by
 obtain⟨q1,q2⟩:=Q2f.add4 (h.sp.fresh hr) hW hown hg hb;have j3:=h.sp.lt;have j4:=hr.size;have j5:=hW.size;have j0:Mod (fun k=>k=b∨v4.ownBlock=some k) wr (w1.setCell ⟨b,4,none⟩ v') :=
  ((hW.mono (T:=fun k=>k=b∨v4.ownBlock=some k) (fun _ _ x=>x.elim)).grown hg (fun k hk _=>.inr hk)).setCell (fun _=>.inl rfl) _
 have j1:=(h.sp.own_lt (i:=4) rfl);refine⟨⟨q1,?_,?_⟩,(hr.mono (fun _ _ x=>x.elim)).trans q2⟩
 ·have:=(qS hx).1;simp;omega
 intro i v y h1 h2;by_cases hi:i<sv.length
 ·rw[qAl hi]at h1;obtain⟨y1,y2⟩:=h.syms i v y h1 h2;have y3:=z0d (w':=wr) y1 (fun g hg=>hr.block g (y1.lt g hg).2 id);refine⟨z0d y3 (fun g hg=>j0.block g (y3.lt g hg).2 ?_),fun k hk e=>?_⟩
  ·rintro(e|e)
   ·have:=(y1.lt g hg).1;omega
   exact y2 g hg e
  rcases hb k e with z|z
  ·exact y2 k hk z
  have:=y1.lt k hk;omega
 have j2:=(qS h1).1;simp at j2;have e:i=sv.length:=by omega
 subst e;rw[qAr (qR _)]at h1;simp at h1;subst h1;rw[hx]at h2;injection h2 with h2;subst h2;have ul:=hu.lt;refine⟨z0g (z0d hu (fun g hg=>j0.block g (ul g hg).2 ?_)) (by omega),fun k hk e=>?_⟩
 ·rintro(e|e)
  ·have:=ul g hg;omega
  have:=j1 g e;have:=ul g hg;omega
 have:=ul k hk;rcases hb k e with z|z
 ·have:=j1 k z;omega
 omega
def SpecX(w:World)(b:Nat)(X:SP):Prop:=∃v0 v1 v2 v3 v4 sv,Q6v w b X v0 v1 v2 v3 v4 sv/\sv.length=X.prods.length
def tailZ(s:ByteArray)(n:Nat):Option Int->Int × Int
 |some p=>(5,p)
 |none=>if n=0 then(6,(s.size:Int)) else(0,0)
def Q6b(em:ByteArray->Bool)(s:ByteArray)(xs:List ZLV)(fp:Int):Int × Int :=
 if 800<s.size then(1,0) else if 0<=fp then(2,fp) else if 0<=(Q1b Q2m xs).2 then(3,(Q1b Q2m xs).2)
 else if 0<=Q3k (Q1b Q2m xs).1 xs [] then(4,Q3k (Q1b Q2m xs).1 xs [])
 else tailZ s (Q1b Q2m xs).1.prods.length (Q5s em (Q1b Q2m xs).1.rules)
def ReadRet(em:ByteArray->Bool)(s:ByteArray)(w:World)(e:Ending)(w':World):Prop :=
 ∃(p:Value) (xs:List ZLV),(s.size<=800->xs.map ZLV.both=(Q4x s).1)/\(∀x∈xs,x.At w.heap.size w')/\e=.returned (.tuple #[p,.int .i64 (Q6b em s xs (Q4x s).2).1,.int .i64 (Q6b em s xs (Q4x s).2).2])/\Q0a w w' /\
  ((Q6b em s xs (Q4x s).2).1=0->∃b,w.heap.size<=b/\p=.pointer (some ⟨b,0,none⟩)/\SpecX w' b (Q1b Q2m xs).1)
end Go.Proofs.YtbdpfmalabgmbaaGreat
