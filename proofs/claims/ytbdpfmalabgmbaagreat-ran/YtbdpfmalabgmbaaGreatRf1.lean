import Derived.Test.YtbdpfmalabgmbaaGreatMu7
import Derived.Laws.Bits64
import Derived.Laws.Bits64b
import Derived.WalkSmall
namespace Go.Proofs.YtbdpfmalabgmbaaGreat
open Go.RowKit
set_option maxRecDepth 99999
set_option maxHeartbeats 0
set_option linter.all false
theorem y18(c:Int)(w:World):Calls Tryz.prog 124 #[.int .u8 c] w fun e w'=>e=.returned (.bool (Q0m c))/\w'=w:=by
 go_enter Tryz.func124,Tryz.ntmps124
 go_wp2;all_goals (go_ret;exact⟨z0w (by rw[qBc];simp[Q0m];omega),rfl⟩)
theorem z7m(c:Int)(w:World):Calls Tryz.prog 74 #[.int .u8 c] w fun e w'=>e=.returned (.bool (Q1a c))/\w'=w:=by
 go_enter Tryz.func74,Tryz.ntmps74
 go_wp2;all_goals (go_ret;exact⟨z0w (by rw[qBc];simp[Q1a];omega),rfl⟩)
theorem y74(c:Int)(w:World):Calls Tryz.prog 127 #[.int .u8 c] w fun e w'=>e=.returned (.bool (Q1t c))/\w'=w:=by
 go_enter Tryz.func127,Tryz.ntmps127
 go_wp2;all_goals (go_ret;exact⟨z0w (by rw[qBc];simp_all[Q1t]),rfl⟩)
def mkF(c:Int):Int × Bool:=if c=110 then(10,true) else if c=116 then(9,true) else(c,!(!Q4l c||Q0m c||Q1a c||Q7x c))
theorem z57(c:Nat)(w:World)(hc:c<=255):Calls Tryz.prog 133 #[.int .u8 c] w fun e w'=>e=.returned (.tuple #[.int .i64 (mkF c).1,.bool (mkF c).2])/\w'=w:=by
 by_cases h1:c=110
 ·subst h1;go_enter Tryz.func133,Tryz.ntmps133
  go_wp2;go_ret2;exact⟨rfl,rfl⟩
 by_cases h2:c=116
 ·subst h2;go_enter Tryz.func133,Tryz.ntmps133
  go_wp2;go_ret2;exact⟨rfl,rfl⟩
 have k1:((c:Int)==110)=false:=by simp;omega
 have k2:((c:Int)==116)=false:=by simp;omega
 have k3:¬(c:Int)=110:=by omega
 have k4:¬(c:Int)=116:=by omega
 have HM:Hid (mkF c=((c:Int),!(!Q4l c||Q0m c||Q1a c||Q7x c))):=by unfold Hid mkF;rw[qAa k3,qAa k4]
 rw[HM.out];clear HM;have j1:Q4l (c:Int)=(decide (32<=c)&&decide (c<=126)):=by unfold Q4l;rw[qBc];simp;omega
 have j0:Q7x (c:Int)=(decide (48<=c)&&decide (c<=57)):=by unfold Q7x;rw[qBc];simp;omega
 have j3:=hid j1;have j2:=hid j0;clear j1 j0;generalize hsm:Q0m (c:Int)=sm;generalize hgr:Q1a (c:Int)=gr;have ZS:=hid (fun w=>y18 (c:Int) w);have ZG:=hid (fun w=>z7m (c:Int) w);rw[hsm]at ZS;rw[hgr]at ZG;clear hsm hgr;go_enter Tryz.func133,Tryz.ntmps133
 go_wp2_with (first
  |(go_at_call 124;refine csm (ZS.out _) ?_)
  |(go_at_call 74;refine csm (ZG.out _) ?_))
 all_goals
  go_ret2;refine⟨?_,rfl⟩;rw[j3.out,j2.out];simp_all
 all_goals first
  |(intros;omega)
  |(rw[qBc];simp;omega)
theorem y2s{s:ByteArray}{i:Int}:Q2k s i=if(mkF (atB s i)).2=true then((mkF (atB s i)).1,i+1,true) else(0,i,false):=by
 unfold Q2k mkF;split
 ·rfl
 split
 ·rfl
 split
 ·rename_i h;rw[qAa (by rw[h];simp)]
 rename_i h;rw[qAb (by simpa using h)]
def okI(b:Bool)(x:Int):Int:=if b=true then x else -1
def okV(b:Bool)(x:Int):Int:=if b=true then x else 0
theorem y92(p:ByteArray)(i:Nat)(w:World)(hp:p.size<=100000)(hi:i<=200000) :
  Calls Tryz.prog 144 #[.string p,.int .i64 i] w fun e w'=>e=.returned (.tuple #[.int .i64 (okV (Q1s p i).2.2 (Q1s p i).1),.int .i64 (okI (Q1s p i).2.2 (Q1s p i).2.1)])/\w'=w:=by
 by_cases h1:i<p.size
 ·have hb:atB p (i:Nat)=p[i].toNat:=by unfold atB;rw[qEt ⟨by omega,by simpa using h1⟩];simp
  have j8:p[i].toNat<256:=p[i].toNat_lt;have j1:¬(p.size:Int)<=(i:Int):=by omega
  have j5:(i:Int)<(p.size:Int):=by omega
  by_cases h2:p[i].toNat=92
  ·have hE:Q1s p i=Q2k p (i+1):=by unfold Q1s;rw[hb,h2,qAb (by decide)]
   rw[hE,y2s];have j4:((p[i].toNat:Int)==92)=true:=by simp[h2]
   by_cases h3:i+1<p.size
   ·have j0:atB p ((i:Int)+1)=p[i+1].toNat:=by
     have:atB p ((i+1:Nat):Int)=p[i+1].toNat:=by unfold atB;rw[qEt ⟨by omega,by simpa using h3⟩];simp
     rw[← this];rfl
    have j3:p[i+1].toNat<256:=p[i+1].toNat_lt;have j2:¬(p.size:Int)<=(i:Int)+1:=by omega
    have j6:(i:Int)+1<(p.size:Int):=by omega
    have j7:((i:Int)+1).toNat=i+1:=by omega
    rw[j0];have ZM:=hid (fun w=>z57 p[i+1].toNat w (by omega));generalize mkF (p[i+1].toNat:Int)=m at ZM ⊢;obtain⟨v,ok⟩:=m;dsimp only at ZM ⊢;clear hE hb j0;cases ok
    ·go_enter Tryz.func144,Tryz.ntmps144
     go_wp2_with (first
      |(go_at_call 133;refine csm (ZM.out _) ?_))
     go_ret2;exact⟨rfl,rfl⟩
    go_enter Tryz.func144,Tryz.ntmps144
    go_wp2_with (first
     |(go_at_call 133;refine csm (ZM.out _) ?_))
    go_ret2;exact⟨by simp[okV,okI];omega,rfl⟩
   have j2:(p.size:Int)<=(i:Int)+1:=by omega
   have j0:atB p ((i:Int)+1)=-1:=by unfold atB;rw[qFm (by omega)]
   rw[j0,show mkF (-1)=(-1,false) from by decide];clear hE hb j0;go_enter Tryz.func144,Tryz.ntmps144
   go_wp2;go_ret2;exact⟨rfl,rfl⟩
  have j4:((p[i].toNat:Int)==92)=false:=by simp;omega
  have hE:Q1s p i=if p[i].toNat=93∨p[i].toNat=94∨p[i].toNat=45∨p[i].toNat<32∨126<p[i].toNat then(0,(i:Int),false) else((p[i].toNat:Int),(i:Int)+1,true):=by
   unfold Q1s;rw[hb,qAa (by omega)];by_cases q:p[i].toNat=93∨p[i].toNat=94∨p[i].toNat=45
   ·rw[qAb (by omega),qAb (by omega)]
   rw[qAa (by omega)];by_cases q2:Q4l (p[i].toNat:Int)=false
   ·rw[qAb q2,qAb (by unfold Q4l at q2;rw[Bool.and_eq_false_iff,qCe,qCe]at q2;omega)]
   have q3:Q4l (p[i].toNat:Int)=true:=by simpa using q2
   unfold Q4l at q3;rw[qAd,qAu,qAu]at q3;rw[qAa q2,qAa (by omega)]
  rw[hE];clear hE hb;generalize hn:p[i].toNat=n at *;have HN:=hid hn;by_cases q:n=93∨n=94∨n=45∨n<32∨126<n
  ·rw[qAb q];go_enter Tryz.func144,Tryz.ntmps144
   go_wp2;all_goals first
    |(exfalso;omega)
    |(go_ret2;exact⟨rfl,rfl⟩)
    |(exfalso;simp_all;done)
    |(exfalso;simp_all;omega)
  rw[qAa q];go_enter Tryz.func144,Tryz.ntmps144
  go_wp2;all_goals first
   |(exfalso;omega)
   |(go_ret2;exact⟨rfl,rfl⟩)
   |(exfalso;simp_all;done)
   |(exfalso;simp_all;omega)
 have j1:(p.size:Int)<=(i:Int):=by omega
 have hE:Q1s p i=(0,(i:Int),false):=by
  have hb:atB p (i:Nat)=-1:=by unfold atB;rw[qFm (by omega)]
  unfold Q1s;rw[hb,qAa (by decide),qAa (by decide),qAb (by decide)]
 rw[hE];clear hE;go_enter Tryz.func144,Tryz.ntmps144
 go_wp2;go_ret2;exact⟨rfl,rfl⟩
theorem y6a(p:ByteArray)(i:Nat)(w:World)(hp:p.size<=100000)(hi:i<=100000) :
  Calls Tryz.prog 138 #[.string p,.int .i64 i] w fun e w'=>e=.returned (.tuple #[.int .i64 (okI (Q0n p i).2.2.2 (Q0n p i).2.2.1),.int .i64 (okV (Q0n p i).2.2.2 (Q0n p i).1),.int .i64 (okV (Q0n p i).2.2.2 (Q0n p i).2.1)])/\w'=w:=by
 have Z0:=hid (fun w=>y92 p i w hp (by omega));obtain⟨b1,b2,b3,b4,b5⟩:=z4s p i (by omega);have HR:Hid (Q0n p i=if(Q1s p i).2.2=false then(0,0,(Q1s p i).2.1,false)
 else if atB p (Q1s p i).2.1≠45 then((Q1s p i).1,(Q1s p i).1,(Q1s p i).2.1,true)
 else if(Q1s p ((Q1s p i).2.1+1)).2.2=false then(0,0,(Q1s p ((Q1s p i).2.1+1)).2.1,false)
 else if(Q1s p ((Q1s p i).2.1+1)).1<(Q1s p i).1 then(0,0,(Q1s p ((Q1s p i).2.1+1)).2.1-1,false)
 else((Q1s p i).1,(Q1s p ((Q1s p i).2.1+1)).1,(Q1s p ((Q1s p i).2.1+1)).2.1,true)):=rfl
 rw[HR.out];clear HR;generalize Q1s p i=r at Z0 b1 b2 b3 b4 b5 ⊢;obtain⟨v,n,ok⟩:=r;dsimp only at Z0 b1 b2 b3 b4 b5 ⊢;cases ok
 ·rw[qAb rfl];clear b5;go_enter Tryz.func138,Tryz.ntmps138
  go_wp2_with (first
   |(go_at_call 144;refine csm (Z0.out _) ?_))
  all_goals first
   |(go_ret3;exact⟨rfl,rfl⟩)
   |(exfalso;simp_all[okI];done)
 rw[qAa (by simp)];have hn:=b5 rfl;clear b5;obtain⟨j,rfl⟩:∃j:Nat,n=j:=⟨n.toNat,by omega⟩;have e1:okV true v=v:=rfl;have e2:okI true (j:Int)=j:=rfl;rw[e1,e2]at Z0;have k0:¬(j:Int)<0:=by omega
 by_cases h1:j<p.size
 ·have hb:atB p (j:Nat)=p[j].toNat:=by unfold atB;rw[qEt ⟨by omega,by simpa using h1⟩];simp
  have j5:p[j].toNat<256:=p[j].toNat_lt;have j1:¬(p.size:Int)<=(j:Int):=by omega
  have j4:(j:Int)<(p.size:Int):=by omega
  rw[hb];by_cases h2:p[j].toNat=45
  ·have j2:((p[j].toNat:Int) != 45)=false:=by simp[h2]
   rw[qAa (by rw[h2];simp)];have Z1:=hid (fun w=>y92 p (j+1) w hp (by omega));have ej:(((j+1:Nat)):Int)=(j:Int)+1:=by omega
   rw[ej]at Z1;obtain⟨c1,c2,c3,c4,c5⟩:=z4s p ((j:Int)+1) (by omega);generalize Q1s p ((j:Int)+1)=r2 at Z1 c1 c2 c3 c4 c5 ⊢;obtain⟨v2,n2,j3⟩:=r2;dsimp only at Z1 c1 c2 c3 c4 c5 ⊢;cases j3
   ·rw[qAb rfl];have e3:okV false v2=0:=rfl;have e4:okI false n2=-1:=rfl;rw[e3,e4]at Z1;clear c5 hb;go_enter Tryz.func138,Tryz.ntmps138
    go_wp2_with (first
     |(go_at_call 144;have j0:=HS.out;refine csm (Z1.out _) ?_)
     |(go_at_call 144;refine csm (Z0.out _) ?_;have HS:Hid True:=hid trivial))
    all_goals first
     |(go_ret3;exact⟨rfl,rfl⟩)
     |(exfalso;simp_all;done)
   rw[qAa (by simp)];have j6:=c5 rfl;obtain⟨k,rfl⟩:∃k:Nat,n2=k:=⟨n2.toNat,by omega⟩;have e3:okV true v2=v2:=rfl;have e4:okI true (k:Int)=k:=rfl;rw[e3,e4]at Z1;have k1:¬(k:Int)<0:=by omega
   clear c5 hb;by_cases h3:v2<v
   ·rw[qAb h3];go_enter Tryz.func138,Tryz.ntmps138
    go_wp2_with (first
     |(go_at_call 144;have j0:=HS.out;refine csm (Z1.out _) ?_)
     |(go_at_call 144;refine csm (Z0.out _) ?_;have HS:Hid True:=hid trivial))
    all_goals first
     |(go_ret3;exact⟨rfl,rfl⟩)
     |(exfalso;simp_all;done)
   rw[qAa h3];go_enter Tryz.func138,Tryz.ntmps138
   go_wp2_with (first
    |(go_at_call 144;have j0:=HS.out;refine csm (Z1.out _) ?_)
    |(go_at_call 144;refine csm (Z0.out _) ?_;have HS:Hid True:=hid trivial))
   all_goals first
    |(go_ret3;exact⟨rfl,rfl⟩)
    |(exfalso;simp_all;done)
  have j2:((p[j].toNat:Int) != 45)=true:=by simp;omega
  rw[qAb (by omega)];clear hb;go_enter Tryz.func138,Tryz.ntmps138
  go_wp2_with (first
   |(go_at_call 144;refine csm (Z0.out _) ?_))
  all_goals first
   |(go_ret3;exact⟨rfl,rfl⟩)
   |(exfalso;simp_all;done)
 have hb:atB p (j:Nat)=-1:=by unfold atB;rw[qFm (by omega)]
 have j1:(p.size:Int)<=(j:Int):=by omega
 rw[hb,qAb (by decide)];clear hb;go_enter Tryz.func138,Tryz.ntmps138
 go_wp2_with (first
  |(go_at_call 144;refine csm (Z0.out _) ?_))
 all_goals first
  |(go_ret3;exact⟨rfl,rfl⟩)
  |(exfalso;simp_all;done)
def specB:ByteArray:=⟨#[92,91,93,40,41,124,42,43,63,46]⟩
def spK(j:Nat):Nat:=([92,91,93,40,41,124,42,43,63,46]:List Nat).getD j 0
theorem v1p:∀j:Fin 10,Q02 (spK j:Nat)=false:=by decide
theorem v2s:∀j:Fin 10,(specB[j.val]'(by have:=j.isLt;show j.val<10;omega)).toNat=spK j:=by decide
theorem v1o{c:Nat}(h:∀j,j<10->c≠spK j):Q02 (c:Int)=(decide (32<=c)&&decide (c<=126)):=by
 have h0:=h 0 (by omega);have h1:=h 1 (by omega);have h2:=h 2 (by omega);have h3:=h 3 (by omega);have h4:=h 4 (by omega);have h5:=h 5 (by omega);have h6:=h 6 (by omega);have h7:=h 7 (by omega);have h8:=h 8 (by omega);have h9:=h 9 (by omega);simp[spK]at h0 h1 h2 h3 h4 h5 h6 h7 h8 h9;unfold Q02 Q4l;rw[qBc];simp;omega
theorem x1q(c:Nat)(w:World)(hc:c<=255):Calls Tryz.prog 132 #[.int .u8 c] w fun e w'=>e=.returned (.bool (Q02 c))/\w'=w:=by
 go_enter Tryz.func132,Tryz.ntmps132
 go_wp2;go_loopw [4] (fun x4 wr=>∃(i:Nat),x4=.int .i64 i/\i<=10/\(∀j:Nat,j<i->c≠spK j)/\wr=w)
   (fun x _=>20-(intOf x).toNat)
 case atStart=>exact⟨0,rfl,by omega,fun j hj=>by omega,rfl⟩
 obtain⟨i,rfl,hi,j5,rfl⟩:=hrel;have j1:=hid j5;clear j5;by_cases j3:i<10
 ·have j4:(i:Int)<10:=by omega
  have hsz:i<(⟨#[92,91,93,40,41,124,42,43,63,46]⟩:ByteArray).size:=j3;have hk:((⟨#[92,91,93,40,41,124,42,43,63,46]⟩:ByteArray)[i]'hsz).toNat=spK i:=v2s ⟨i,j3⟩;have j2:Q02 (spK i:Nat)=false:=v1p ⟨i,j3⟩;have j0:=hid j2;clear j2;by_cases q:c=spK i
  ·have HQ:=hid q;have k1:((c:Int)==(spK i:Int))=true:=by simp[q]
   clear q j1;generalize spK i=sp at *;go_wp2;all_goals first
    |(go_ret;exact⟨by rw[HQ.out,j0.out];rfl,rfl⟩)
    |trace_state
  have j6:Hid (∀j:Nat,j<i+1->c≠spK j):=fun j hj=>by
   by_cases e:j=i
   ·subst e;exact q
   exact j1.out j (by omega)
  have k1:((c:Int)==(spK i:Int))=false:=by simp;omega
  have k2:¬(c:Int)=(spK i:Int):=by omega
  clear q j1 j0;generalize hsp:spK i=sp at *;clear hsp;go_wp2;go_roundw
  case rel=>exact⟨i+1,by go_num,by omega,j6.out,by first|rfl|trivial⟩
  simp[intOf];omega
 have j4:¬(i:Int)<10:=by omega
 have HA:Hid (Q02 (c:Int)=(decide (32<=c)&&decide (c<=126))):=v1o (fun j hj=>j1.out j (by omega));clear j1;go_wp2;all_goals
  go_ret;refine⟨?_,rfl⟩;rw[HA.out];simp_all
  all_goals first
   |(intros;omega)
   |(rw[qBc];simp;omega)
theorem x1k(p:ByteArray)(i:Nat)(w:World)(hp:p.size<=90000)(hi:i<p.size) :
  Calls Tryz.prog 134 #[.string p,.int .i64 i] w fun e w'=>e=.returned (.int .i64 (okI (rBr p (i+1)).2.2 (rBr p (i+1)).2.1))/\w'=w:=by
 have ZE:=hid (fun(x:Nat) (hx:x<=100000) (w:World)=>y6a p x w (by omega) hx);obtain⟨i0,jq,hV,jd⟩:∃i0:Nat,i0<=p.size+1/\okI (rBr p (i+1)).2.2 (rBr p (i+1)).2.1=okI (Q3f p i0).2.2 (Q3f p i0).2.1/\((i0=i+2/\∃h:i+1<p.size,p[i+1].toNat=94)∨(i0=i+1/\∀h:i+1<p.size,p[i+1].toNat≠94)):=by
  by_cases h1:i+1<p.size
  ·have hb:atB p ((i:Int)+1)=p[i+1].toNat:=by
    have:atB p ((i+1:Nat):Int)=p[i+1].toNat:=by unfold atB;rw[qEt ⟨by omega,by simpa using h1⟩];simp
    rw[← this];rfl
   by_cases h2:p[i+1].toNat=94
   ·refine⟨i+2,by omega,?_,.inl ⟨rfl,h1,h2⟩⟩;unfold rBr;rw[hb,h2,qAb (by decide)];rw[show(i:Int)+1+1=((i+2:Nat):Int) by omega]
   refine⟨i+1,by omega,?_,.inr ⟨rfl,fun _=>h2⟩⟩;unfold rBr;rw[hb,qAa (by omega),show(i:Int)+1=((i+1:Nat):Int) by omega]
  refine⟨i+1,by omega,?_,.inr ⟨rfl,fun h=>absurd h h1⟩⟩;have hb:atB p ((i:Int)+1)=-1:=by unfold atB;rw[qFm (by omega)]
  unfold rBr;rw[hb,qAa (by decide),show(i:Int)+1=((i+1:Nat):Int) by omega]
 rw[hV];unfold Q3f;generalize hVV:okI (Q06 p i0 (p.size+5) i0 zero4).2.2 (Q06 p i0 (p.size+5) i0 zero4).2.1=V;have HV:=hid hVV;clear hVV hV;rcases jd with⟨e0,h1,jb⟩|⟨e0,jb⟩
 ·have jp:((p[i+1].toNat:Int)==94)=true:=by simp[jb]
  have ji:(i:Int)+1<(p.size:Int):=by omega
  have jn:((i:Int)+1).toNat=i+1:=by omega
  go_enter Tryz.func134,Tryz.ntmps134
  go_wp2;go_loopw [1,5,6,7,8] (fun x1 x5 _ _ _ wr=>∃(x n F:Nat) (ws:List Int),x1=.int .i64 x/\x5=.int .i64 n/\i0<=x/\x<=p.size+1/\n<=x/\(n=0↔x=i0)/\p.size+5<=F+x/\okI (Q06 p i0 F x ws).2.2 (Q06 p i0 F x ws).2.1=V/\wr=w)
    (fun x _ _ _ _ _=>200000-(intOf x).toNat)
  case atStart=>exact⟨i0,0,p.size+5,zero4,by rw[e0];go_num,rfl,by omega,by omega,by omega,by omega,by omega,HV.out,rfl⟩
  clear HV;obtain⟨x,n,F,ws,rfl,rfl,jk,jl,jj,j9,hF,j0,rfl⟩:=hrel;obtain⟨F,rfl⟩:∃F',F=F'+1:=⟨F-1,by omega⟩;rw[z3k]at j0;have ZX:=hid (ZE.out x (by omega));by_cases hn:n=0
  ·have HC:(x:Int)=i0∨atB p (x:Nat)≠93:=.inl (by have:=j9.1 hn;omega);have kn:((n:Int)==0)=true:=by simp[hn]
   have jg:(n:Int)=0:=by omega
   have j3:(x:Int)=i0∨atB p (x:Nat)≠93:=HC;rw[qAb j3]at j0;have j1:=z1l p (x:Nat) (by omega);generalize Q0n p (x:Nat)=r at ZX j0 j1;obtain⟨lo,j7,nx,ok⟩:=r;dsimp only at ZX j0 j1;cases ok
   ·rw[qAb rfl]at j0;have j2:Hid (V=-1):=j0.symm;clear j0 j1 j3;go_wp2_with (first
     |(go_at_call 138;refine csm (ZX.out _) ?_))
    all_goals first
     |(go_ret;exact⟨by rw[j2.out];rfl,rfl⟩)
     |(exfalso;simp_all[okI];done)
   rw[qAa (by simp)]at j0;have jc:=j1.2.2.2.2.2.2 rfl;obtain⟨j,rfl⟩:∃j:Nat,nx=j:=⟨nx.toNat,by omega⟩;have e1:okI true (j:Int)=j:=rfl;rw[e1]at ZX;have k0:¬(j:Int)<0:=by omega
   have j4:=hid j0;clear j0 j1 j3;go_wp2_with (first
    |(go_at_call 138;refine csm (ZX.out _) ?_))
   go_roundw
   case rel=>exact⟨j,n+1,F,Q2d ws lo j7,rfl,by go_num,by omega,by omega,by omega,by omega,by omega,j4.out,by first|rfl|trivial⟩
   simp[intOf];omega
  have kn:((n:Int)==0)=false:=by simp;omega
  have jg:¬(n:Int)=0:=by omega
  have jm:¬x=i0:=fun e=>hn (j9.2 e);by_cases je:x<p.size
  ·have hb:atB p (x:Nat)=p[x].toNat:=by unfold atB;rw[qEt ⟨by omega,by simpa using je⟩];simp
   have jh:p[x].toNat<256:=p[x].toNat_lt;have j5:(x:Int)<(p.size:Int):=by omega
   by_cases j8:p[x].toNat=93
   ·have jf:((p[x].toNat:Int) != 93)=false:=by simp[j8]
    rw[qAa (by rw[hb,j8];intro q;rcases q with q|q;omega;exact q rfl)]at j0;have j2:Hid (V=(x:Int)+1):=j0.symm;have j6:¬(p.size:Int)<=(x:Int):=by omega
    clear j0 hb;go_wp2;all_goals first
     |(go_ret;exact⟨by rw[j2.out];rfl,rfl⟩)
     |(exfalso;simp_all;done)
   have jf:((p[x].toNat:Int) != 93)=true:=by simp;omega
   have HC:(x:Int)=i0∨atB p (x:Nat)≠93:=.inr (by rw[hb];omega);clear hb;have j3:(x:Int)=i0∨atB p (x:Nat)≠93:=HC;rw[qAb j3]at j0;have j1:=z1l p (x:Nat) (by omega);generalize Q0n p (x:Nat)=r at ZX j0 j1;obtain⟨lo,j7,nx,ok⟩:=r;dsimp only at ZX j0 j1;cases ok
   ·rw[qAb rfl]at j0;have j2:Hid (V=-1):=j0.symm;clear j0 j1 j3;go_wp2_with (first
     |(go_at_call 138;refine csm (ZX.out _) ?_))
    all_goals first
     |(go_ret;exact⟨by rw[j2.out];rfl,rfl⟩)
     |(exfalso;simp_all[okI];done)
   rw[qAa (by simp)]at j0;have jc:=j1.2.2.2.2.2.2 rfl;obtain⟨j,rfl⟩:∃j:Nat,nx=j:=⟨nx.toNat,by omega⟩;have e1:okI true (j:Int)=j:=rfl;rw[e1]at ZX;have k0:¬(j:Int)<0:=by omega
   have j4:=hid j0;clear j0 j1 j3;go_wp2_with (first
    |(go_at_call 138;refine csm (ZX.out _) ?_))
   go_roundw
   case rel=>exact⟨j,n+1,F,Q2d ws lo j7,rfl,by go_num,by omega,by omega,by omega,by omega,by omega,j4.out,by first|rfl|trivial⟩
   simp[intOf];omega
  have j5:¬(x:Int)<(p.size:Int):=by omega
  have j6:(p.size:Int)<=(x:Int):=by omega
  have hb:atB p (x:Nat)=-1:=by unfold atB;rw[qFm (by omega)]
  have ja:(Q0n p (x:Nat)).2.2.2=false:=by
   have:(Q1s p (x:Nat)).2.2=false:=by unfold Q1s;rw[hb,qAa (by decide),qAa (by decide),qAb (by decide)]
   unfold Q0n;rw[qAb this]
  rw[qAb (.inr (by rw[hb];decide)),qAb ja]at j0;have j2:Hid (V=-1):=j0.symm;clear j0 hb ja;go_wp2;all_goals first
   |(go_ret;exact⟨by rw[j2.out];rfl,rfl⟩)
   |(exfalso;simp_all;done)
 by_cases h1:i+1<p.size
 ·have jo:=jb h1;have jh:p[i+1].toNat<256:=p[i+1].toNat_lt;have jp:((p[i+1].toNat:Int)==94)=false:=by simp;omega
  have ji:(i:Int)+1<(p.size:Int):=by omega
  have jn:((i:Int)+1).toNat=i+1:=by omega
  clear jb;go_enter Tryz.func134,Tryz.ntmps134
  go_wp2;go_loopw [1,5,6,7,8] (fun x1 x5 _ _ _ wr=>∃(x n F:Nat) (ws:List Int),x1=.int .i64 x/\x5=.int .i64 n/\i0<=x/\x<=p.size+1/\n<=x/\(n=0↔x=i0)/\p.size+5<=F+x/\okI (Q06 p i0 F x ws).2.2 (Q06 p i0 F x ws).2.1=V/\wr=w)
    (fun x _ _ _ _ _=>200000-(intOf x).toNat)
  case atStart=>exact⟨i0,0,p.size+5,zero4,by rw[e0];go_num,rfl,by omega,by omega,by omega,by omega,by omega,HV.out,rfl⟩
  clear HV;obtain⟨x,n,F,ws,rfl,rfl,jk,jl,jj,j9,hF,j0,rfl⟩:=hrel;obtain⟨F,rfl⟩:∃F',F=F'+1:=⟨F-1,by omega⟩;rw[z3k]at j0;have ZX:=hid (ZE.out x (by omega));by_cases hn:n=0
  ·have HC:(x:Int)=i0∨atB p (x:Nat)≠93:=.inl (by have:=j9.1 hn;omega);have kn:((n:Int)==0)=true:=by simp[hn]
   have jg:(n:Int)=0:=by omega
   have j3:(x:Int)=i0∨atB p (x:Nat)≠93:=HC;rw[qAb j3]at j0;have j1:=z1l p (x:Nat) (by omega);generalize Q0n p (x:Nat)=r at ZX j0 j1;obtain⟨lo,j7,nx,ok⟩:=r;dsimp only at ZX j0 j1;cases ok
   ·rw[qAb rfl]at j0;have j2:Hid (V=-1):=j0.symm;clear j0 j1 j3;go_wp2_with (first
     |(go_at_call 138;refine csm (ZX.out _) ?_))
    all_goals first
     |(go_ret;exact⟨by rw[j2.out];rfl,rfl⟩)
     |(exfalso;simp_all[okI];done)
   rw[qAa (by simp)]at j0;have jc:=j1.2.2.2.2.2.2 rfl;obtain⟨j,rfl⟩:∃j:Nat,nx=j:=⟨nx.toNat,by omega⟩;have e1:okI true (j:Int)=j:=rfl;rw[e1]at ZX;have k0:¬(j:Int)<0:=by omega
   have j4:=hid j0;clear j0 j1 j3;go_wp2_with (first
    |(go_at_call 138;refine csm (ZX.out _) ?_))
   go_roundw
   case rel=>exact⟨j,n+1,F,Q2d ws lo j7,rfl,by go_num,by omega,by omega,by omega,by omega,by omega,j4.out,by first|rfl|trivial⟩
   simp[intOf];omega
  have kn:((n:Int)==0)=false:=by simp;omega
  have jg:¬(n:Int)=0:=by omega
  have jm:¬x=i0:=fun e=>hn (j9.2 e);by_cases je:x<p.size
  ·have hb:atB p (x:Nat)=p[x].toNat:=by unfold atB;rw[qEt ⟨by omega,by simpa using je⟩];simp
   have jh:p[x].toNat<256:=p[x].toNat_lt;have j5:(x:Int)<(p.size:Int):=by omega
   by_cases j8:p[x].toNat=93
   ·have jf:((p[x].toNat:Int) != 93)=false:=by simp[j8]
    rw[qAa (by rw[hb,j8];intro q;rcases q with q|q;omega;exact q rfl)]at j0;have j2:Hid (V=(x:Int)+1):=j0.symm;have j6:¬(p.size:Int)<=(x:Int):=by omega
    clear j0 hb;go_wp2;all_goals first
     |(go_ret;exact⟨by rw[j2.out];rfl,rfl⟩)
     |(exfalso;simp_all;done)
   have jf:((p[x].toNat:Int) != 93)=true:=by simp;omega
   have HC:(x:Int)=i0∨atB p (x:Nat)≠93:=.inr (by rw[hb];omega);clear hb;have j3:(x:Int)=i0∨atB p (x:Nat)≠93:=HC;rw[qAb j3]at j0;have j1:=z1l p (x:Nat) (by omega);generalize Q0n p (x:Nat)=r at ZX j0 j1;obtain⟨lo,j7,nx,ok⟩:=r;dsimp only at ZX j0 j1;cases ok
   ·rw[qAb rfl]at j0;have j2:Hid (V=-1):=j0.symm;clear j0 j1 j3;go_wp2_with (first
     |(go_at_call 138;refine csm (ZX.out _) ?_))
    all_goals first
     |(go_ret;exact⟨by rw[j2.out];rfl,rfl⟩)
     |(exfalso;simp_all[okI];done)
   rw[qAa (by simp)]at j0;have jc:=j1.2.2.2.2.2.2 rfl;obtain⟨j,rfl⟩:∃j:Nat,nx=j:=⟨nx.toNat,by omega⟩;have e1:okI true (j:Int)=j:=rfl;rw[e1]at ZX;have k0:¬(j:Int)<0:=by omega
   have j4:=hid j0;clear j0 j1 j3;go_wp2_with (first
    |(go_at_call 138;refine csm (ZX.out _) ?_))
   go_roundw
   case rel=>exact⟨j,n+1,F,Q2d ws lo j7,rfl,by go_num,by omega,by omega,by omega,by omega,by omega,j4.out,by first|rfl|trivial⟩
   simp[intOf];omega
  have j5:¬(x:Int)<(p.size:Int):=by omega
  have j6:(p.size:Int)<=(x:Int):=by omega
  have hb:atB p (x:Nat)=-1:=by unfold atB;rw[qFm (by omega)]
  have ja:(Q0n p (x:Nat)).2.2.2=false:=by
   have:(Q1s p (x:Nat)).2.2=false:=by unfold Q1s;rw[hb,qAa (by decide),qAa (by decide),qAb (by decide)]
   unfold Q0n;rw[qAb this]
  rw[qAb (.inr (by rw[hb];decide)),qAb ja]at j0;have j2:Hid (V=-1):=j0.symm;clear j0 hb ja;go_wp2;all_goals first
   |(go_ret;exact⟨by rw[j2.out];rfl,rfl⟩)
   |(exfalso;simp_all;done)
 have ji:¬(i:Int)+1<(p.size:Int):=by omega
 clear jb;go_enter Tryz.func134,Tryz.ntmps134
 go_wp2;go_loopw [1,5,6,7,8] (fun x1 x5 _ _ _ wr=>∃(x n F:Nat) (ws:List Int),x1=.int .i64 x/\x5=.int .i64 n/\i0<=x/\x<=p.size+1/\n<=x/\(n=0↔x=i0)/\p.size+5<=F+x/\okI (Q06 p i0 F x ws).2.2 (Q06 p i0 F x ws).2.1=V/\wr=w)
   (fun x _ _ _ _ _=>200000-(intOf x).toNat)
 case atStart=>exact⟨i0,0,p.size+5,zero4,by rw[e0];go_num,rfl,by omega,by omega,by omega,by omega,by omega,HV.out,rfl⟩
 clear HV;obtain⟨x,n,F,ws,rfl,rfl,jk,jl,jj,j9,hF,j0,rfl⟩:=hrel;obtain⟨F,rfl⟩:∃F',F=F'+1:=⟨F-1,by omega⟩;rw[z3k]at j0;have ZX:=hid (ZE.out x (by omega));by_cases hn:n=0
 ·have HC:(x:Int)=i0∨atB p (x:Nat)≠93:=.inl (by have:=j9.1 hn;omega);have kn:((n:Int)==0)=true:=by simp[hn]
  have jg:(n:Int)=0:=by omega
  have j3:(x:Int)=i0∨atB p (x:Nat)≠93:=HC;rw[qAb j3]at j0;have j1:=z1l p (x:Nat) (by omega);generalize Q0n p (x:Nat)=r at ZX j0 j1;obtain⟨lo,j7,nx,ok⟩:=r;dsimp only at ZX j0 j1;cases ok
  ·rw[qAb rfl]at j0;have j2:Hid (V=-1):=j0.symm;clear j0 j1 j3;go_wp2_with (first
    |(go_at_call 138;refine csm (ZX.out _) ?_))
   all_goals first
    |(go_ret;exact⟨by rw[j2.out];rfl,rfl⟩)
    |(exfalso;simp_all[okI];done)
  rw[qAa (by simp)]at j0;have jc:=j1.2.2.2.2.2.2 rfl;exfalso;omega
 have kn:((n:Int)==0)=false:=by simp;omega
 have jg:¬(n:Int)=0:=by omega
 have jm:¬x=i0:=fun e=>hn (j9.2 e);by_cases je:x<p.size
 ·have hb:atB p (x:Nat)=p[x].toNat:=by unfold atB;rw[qEt ⟨by omega,by simpa using je⟩];simp
  have jh:p[x].toNat<256:=p[x].toNat_lt;have j5:(x:Int)<(p.size:Int):=by omega
  by_cases j8:p[x].toNat=93
  ·have jf:((p[x].toNat:Int) != 93)=false:=by simp[j8]
   rw[qAa (by rw[hb,j8];intro q;rcases q with q|q;omega;exact q rfl)]at j0;have j2:Hid (V=(x:Int)+1):=j0.symm;have j6:¬(p.size:Int)<=(x:Int):=by omega
   clear j0 hb;go_wp2;all_goals first
    |(go_ret;exact⟨by rw[j2.out];rfl,rfl⟩)
    |(exfalso;simp_all;done)
  have jf:((p[x].toNat:Int) != 93)=true:=by simp;omega
  have HC:(x:Int)=i0∨atB p (x:Nat)≠93:=.inr (by rw[hb];omega);clear hb;have j3:(x:Int)=i0∨atB p (x:Nat)≠93:=HC;rw[qAb j3]at j0;have j1:=z1l p (x:Nat) (by omega);generalize Q0n p (x:Nat)=r at ZX j0 j1;obtain⟨lo,j7,nx,ok⟩:=r;dsimp only at ZX j0 j1;cases ok
  ·rw[qAb rfl]at j0;have j2:Hid (V=-1):=j0.symm;clear j0 j1 j3;go_wp2_with (first
    |(go_at_call 138;refine csm (ZX.out _) ?_))
   all_goals first
    |(go_ret;exact⟨by rw[j2.out];rfl,rfl⟩)
    |(exfalso;simp_all[okI];done)
  rw[qAa (by simp)]at j0;have jc:=j1.2.2.2.2.2.2 rfl;exfalso;omega
 have j5:¬(x:Int)<(p.size:Int):=by omega
 have j6:(p.size:Int)<=(x:Int):=by omega
 have hb:atB p (x:Nat)=-1:=by unfold atB;rw[qFm (by omega)]
 have ja:(Q0n p (x:Nat)).2.2.2=false:=by
  have:(Q1s p (x:Nat)).2.2=false:=by unfold Q1s;rw[hb,qAa (by decide),qAa (by decide),qAb (by decide)]
  unfold Q0n;rw[qAb this]
 rw[qAb (.inr (by rw[hb];decide)),qAb ja]at j0;have j2:Hid (V=-1):=j0.symm;clear j0 hb ja;go_wp2;all_goals first
  |(go_ret;exact⟨by rw[j2.out];rfl,rfl⟩)
  |(exfalso;simp_all;done)
def Q3w(g:Int->Int)(p:ByteArray)(i:Int):Int:=if atB p i=40 then g i else okI (Q2r p i).2.2 (Q2r p i).2.1
def Q5h(p:ByteArray):Nat->Int->Int
 |0,x=>x
 |f+1,x=>if 0<=x/\Q1t (atB p x)=true then Q5h p f (x+1) else x
def Q4i(a:Int->Int)(p:ByteArray)(i:Int):Int:=Q5h p (p.size+5) (a i)
def zJ(p:ByteArray)(x:Int):Int:=if atB p x=124 then x+1 else x
def Q9m(pc:Int->Int)(p:ByteArray):Nat->Int->Int
 |0,x=>x
 |f+1,x=>if 0<=x/\x<p.size then(if pc (zJ p x)<0 then x else Q9m pc p f (pc (zJ p x))) else x
def zPat(pc:Int->Int)(p:ByteArray)(i:Int):Int:=Q9m pc p (p.size+5) (pc i)
def zGrp(pt:Int->Int)(p:ByteArray)(i:Int):Int:=if 0<=pt (i+1)/\atB p (pt (i+1))=41 then pt (i+1)+1 else -1
def zgK(p:ByteArray):Nat->Int->Int
 |0=>fun _=>-1
 |k+1=>zGrp (zPat (Q4i (Q3w (zgK p k) p) p) p) p
def zpK(p:ByteArray)(k:Nat):Int->Int:=zPat (Q4i (Q3w (zgK p k) p) p) p
theorem y0p(pc:Int->Int)(p:ByteArray)(f:Nat)(x:Int):Q9m pc p (f+1) x=if 0<=x/\x<p.size then(if pc (zJ p x)<0 then x else Q9m pc p f (pc (zJ p x))) else x:=rfl
theorem z6x(p:ByteArray)(f:Nat)(x:Int):Q5h p (f+1) x=if 0<=x/\Q1t (atB p x)=true then Q5h p f (x+1) else x:=rfl
def Q7h(v:Int)(r:LR):Prop:=v=okI r.ok r.next
section
variable {p:ByteArray}
theorem y54{g:Int->Int}{l:Int->LR}{i:Int}(h:atB p i=40->Q7h (g i) (l i)):Q7h (Q3w g p i) (Q3m l p i):=by
 unfold Q7h Q3w Q3m;by_cases c:atB p i=40
 ·rw[qAb c,qAb c];exact h c
 rw[qAa c,qAa c];by_cases c2:(Q2r p i).2.2=false
 ·rw[qAb c2,c2]
 have c3:(Q2r p i).2.2=true:=by simpa using c2
 rw[qAa c2,c3]
theorem y0r:∀(f:Nat) (r:LR),(r.ok=true->0<=r.next)->Q7h (Q5h p f (okI r.ok r.next)) (Q2g p f r)
 |0,r,_=>rfl
 |f+1,r,h0=>by
  rw[z6x,z4a];cases hk:r.ok
  ·rw[qAa (fun q=>absurd q.1 (show ¬(0:Int)<=-1 by decide)),qAa (by simp)];unfold Q7h;rw[hk]
  have hn:=h0 hk;have e:okI true r.next=r.next:=rfl;rw[e];by_cases c:Q1t (atB p r.next)=true
  ·rw[qAb ⟨hn,c⟩,qAb (by rw[c];rfl)];exact y0r f ⟨r.next+1,true,Q03.rep (atB p r.next) r.lang⟩ (fun _=>by dsimp only;omega)
  rw[qAa (fun q=>c q.2),qAa (by simpa using c)];unfold Q7h;rw[hk];rfl
theorem y17{a:Int->Int}{l:Int->LR}{i:Int}(h:Q7h (a i) (l i))(h0:(l i).ok=true->0<=(l i).next):Q7h (Q4i a p i) (Q1u l p i):=by
 unfold Q4i Q1u;unfold Q7h at h;rw[h];exact y0r _ _ h0
structure SaysP(p:ByteArray)(v:Int)(r:LR):Prop where
 good:r.ok=true->v=r.next
 bad:r.ok=false->v<0∨(0<=v/\v<p.size/\(atB p v=124∨W0m (atB p v)=true))
theorem x2c{B:Int->LR}{f:Nat}{r r':LR}(h1:r.next=r'.next)(h2:r.ok=r'.ok):(Q04 B p f r).next=(Q04 B p f r').next/\(Q04 B p f r).ok=(Q04 B p f r').ok:=by
 obtain⟨a,b,c⟩:=r;obtain⟨a',b',c'⟩:=r';dsimp only at h1 h2;subst h1 h2;exact z8y f a b c c'
theorem x5u{pc:Int->Int}{P:Int->LR}(hP:∀x:Int,0<=x->x<=p.size->Q7h (pc x) (P x))(hg:Q3z p P)(hbeg:∀x,(P x).ok=true->W0m (atB p x)=true) :
  ∀(m:Nat) (x:Int) (L:Q03) (fb fc f:Nat),(p.size:Int)<=x+m->0<=x->x<=p.size->Q1t (atB p x)=false->(p.size:Int)+2<=fb+x->(p.size:Int)+2<=fc+x->(p.size:Int)+2<=f+x ->
   (∀y:Int,0<=y->y<=p.size->(P y).ok=true->Q1t (atB p (P y).next)=false) ->
   SaysP p (Q9m pc p f x) (Q04 (Q00 P p) p fc (Q1o P p fb ⟨x,true,L⟩)):=by
 intro m;induction m with
 |zero =>
  intro x L fb fc f hm h0 h1 j8 j6 j7 hf j2;have hx:x=p.size:=by omega
  have hb:atB p x=-1:=by unfold atB;rw[qFm (by omega)]
  obtain⟨fb,rfl⟩:∃k,fb=k+1:=⟨fb-1,by omega⟩;obtain⟨fc,rfl⟩:∃k,fc=k+1:=⟨fc-1,by omega⟩;obtain⟨f,rfl⟩:∃k,f=k+1:=⟨f-1,by omega⟩;rw[z2m,qAa (show ¬(true&&Q2v p x)=true by rw[z2j,hb];decide),z2x,qAa (show ¬(true&&(atB p x==124))=true by rw[hb];decide),y0p,qAa (by omega)];exact⟨fun _=>rfl,fun e=>by(cases e)⟩
 |succ m ih =>
  intro x L fb fc f hm h0 h1 j8 j6 j7 hf j2;by_cases j3:x<p.size
  ·obtain⟨fb,rfl⟩:∃k,fb=k+1:=⟨fb-1,by omega⟩;obtain⟨fc,rfl⟩:∃k,fc=k+1:=⟨fc-1,by omega⟩;obtain⟨f,rfl⟩:∃k,f=k+1:=⟨f-1,by omega⟩;rw[y0p,qAb ⟨h0,j3⟩];by_cases cb:W0m (atB p x)=true
   ·have j5:atB p x≠124:=fun e=>by rw[e]at cb;revert cb;decide
    have ej:zJ p x=x:=by unfold zJ;rw[qAa j5]
    rw[ej];have hs:=hP x h0 h1;unfold Q7h at hs;rw[z2m,qAb (show(true&&Q2v p x)=true by rw[z2j,cb];rfl)];cases hk:(P x).ok
    ·rw[hk]at hs;have j1:pc x<0:=by rw[hs];exact(show(-1:Int)<0 by decide)
     have q1:Q5z ⟨x,true,L⟩ (P x)=⟨(P x).next,false,noL⟩:=by unfold Q5z;rw[hk];rfl
     rw[qAb j1,q1,z1z P p _ _ rfl,z10 _ p _ _ rfl];exact⟨fun e=>by(cases e),fun _=>.inr ⟨h0,j3,.inr cb⟩⟩
    rw[hk]at hs;have g:=hg x h0 h1 hk;have e1:pc x=(P x).next:=hs;have q1:Q5z ⟨x,true,L⟩ (P x)=⟨(P x).next,true,Q03.cat L (P x).lang⟩:=by unfold Q5z;rw[qAb hk]
    rw[qAa (by omega),q1,e1];exact ih _ _ fb (fc+1) f (by omega) (by omega) (by omega) (j2 x h0 h1 hk) (by omega) (by omega) (by omega) j2
   rw[z2m,qAa (show ¬(true&&Q2v p x)=true by rw[z2j];simpa using cb),z2x];by_cases j0:atB p x=124
   ·have ej:zJ p x=x+1:=by unfold zJ;rw[qAb j0]
    rw[ej,qAb (show(true&&(atB p x==124))=true by rw[j0];rfl)];have hs:=hP (x+1) (by omega) (by omega);unfold Q7h at hs;cases hk:(P (x+1)).ok
    ·rw[hk]at hs;have j1:pc (x+1)<0:=by rw[hs];exact(show(-1:Int)<0 by decide)
     have q0:Q00 P p (x+1)=P (x+1):=by unfold Q00;exact z1z P p _ _ hk
     have q1:Q10 ⟨x,true,L⟩ (Q00 P p (x+1))=⟨(P (x+1)).next,false,noL⟩:=by rw[q0];unfold Q10;rw[hk];rfl
     rw[qAb j1,q1,z10 _ p _ _ rfl];exact⟨fun e=>by(cases e),fun _=>.inr ⟨h0,j3,.inl j0⟩⟩
    rw[hk]at hs;have g:=hg (x+1) (by omega) (by omega) hk;have e1:pc (x+1)=(P (x+1)).next:=hs;rw[qAa (by omega),e1];have j4:=ih (P (x+1)).next (P (x+1)).lang (p.size+5) fc f (by omega) (by omega) (by omega) (j2 (x+1) (by omega) (by omega) hk) (by omega) (by omega) (by omega) j2;have eb:Q00 P p (x+1)=Q1o P p (p.size+5) ⟨(P (x+1)).next,true,(P (x+1)).lang⟩:=by unfold Q00;rw[← z2r hk]
    rw[eb];generalize Q1o P p (p.size+5) ⟨(P (x+1)).next,true,(P (x+1)).lang⟩=r at j4 ⊢;have en:(Q10 ⟨x,true,L⟩ r).next=r.next/\(Q10 ⟨x,true,L⟩ r).ok=r.ok:=by
     unfold Q10;cases e:r.ok<;>simp
    obtain⟨z1,z2⟩:=x2c (B:=Q00 P p) (f:=fc) en.1 en.2;exact⟨fun e=>by rw[z1];exact j4.good (by rw[← z2];exact e),fun e=>j4.bad (by rw[← z2];exact e)⟩
   have ej:zJ p x=x:=by unfold zJ;rw[qAa j0]
   have j9:(P x).ok=false:=by
    cases e:(P x).ok
    ·rfl
    exact absurd (hbeg x e) cb
   have hs:=hP x h0 h1;unfold Q7h at hs;rw[j9]at hs;have j1:pc x<0:=by rw[hs];exact(show(-1:Int)<0 by decide)
   rw[ej,qAb j1,qAa (show ¬(true&&(atB p x==124))=true by simpa using j0)];exact⟨fun _=>rfl,fun e=>by(cases e)⟩
  have hx:x=p.size:=by omega
  have hb:atB p x=-1:=by unfold atB;rw[qFm (by omega)]
  obtain⟨fb,rfl⟩:∃k,fb=k+1:=⟨fb-1,by omega⟩;obtain⟨fc,rfl⟩:∃k,fc=k+1:=⟨fc-1,by omega⟩;obtain⟨f,rfl⟩:∃k,f=k+1:=⟨f-1,by omega⟩;rw[z2m,qAa (show ¬(true&&Q2v p x)=true by rw[z2j,hb];decide),z2x,qAa (show ¬(true&&(atB p x==124))=true by rw[hb];decide),y0p,qAa (by omega)];exact⟨fun _=>rfl,fun e=>by(cases e)⟩
theorem z9z:∀(f:Nat) (x:Int) (L:Q03),x<=p.size->(p.size:Int)+2<=f+x->Q1t (atB p (Q2g p f ⟨x,true,L⟩).next)=false
 |0,x,L,h1,h2=>by omega
 |f+1,x,L,h1,h2=>by
  rw[z4a];dsimp only;rw[qBm];by_cases c:Q1t (atB p x)=true
  ·rw[qAb c];have:=z0r (s:=p) (i:=x) (z9u c);exact z9z f _ _ (by omega) (by omega)
  rw[qAa c];simpa using c
theorem y9y{pc:Int->Int}{a:Int->LR}(hP:∀x:Int,0<=x->x<=p.size->Q7h (pc x) (Q1u a p x))(hga:Q3z p a)(hg:Q3z p (Q1u a p))(hbeg:∀x,(Q1u a p x).ok=true->W0m (atB p x)=true){i:Int}(h0:0<=i)(h1:i<=p.size) :
  SaysP p (zPat pc p i) (Q25 (Q00 (Q1u a p) p) p i):=by
 have j0:∀y:Int,0<=y->y<=p.size->(Q1u a p y).ok=true->Q1t (atB p (Q1u a p y).next)=false:=fun y y0 y1 hy=>by
  have ha:=y2v hy;have g:=hga y y0 y1 ha;unfold Q1u;rw[z2r ha];exact z9z _ _ _ (by omega) (by omega)
 have hs:=hP i h0 h1;unfold Q7h at hs;unfold zPat Q25;cases hk:(Q1u a p i).ok
 ·rw[hk]at hs;have e1:pc i=-1:=hs;have q0:Q00 (Q1u a p) p i=Q1u a p i:=by unfold Q00;exact z1z _ p _ _ hk
  rw[q0,z10 _ p _ _ hk,e1];show SaysP p (Q9m pc p (p.size+4+1) (-1)) _;rw[y0p,qAa (by omega)];exact⟨fun e=>by rw[hk]at e;(cases e),fun _=>.inl (by decide)⟩
 rw[hk]at hs;have e1:pc i=(Q1u a p i).next:=hs;have g:=hg i h0 h1 hk;have eb:Q00 (Q1u a p) p i=Q1o (Q1u a p) p (p.size+5) ⟨(Q1u a p i).next,true,(Q1u a p i).lang⟩:=by unfold Q00;rw[← z2r hk]
 rw[eb,e1];exact x5u hP hg hbeg p.size _ _ _ _ _ (by omega) (by omega) (by omega) (j0 i h0 h1 hk) (by omega) (by omega) (by omega) j0
theorem x8k{pt:Int->Int}{c:Int->LR}{i:Int}(h:SaysP p (pt (i+1)) (c (i+1)))(h0:(c (i+1)).ok=true->0<=(c (i+1)).next):Q7h (zGrp pt p i) (Q6h c p i):=by
 unfold Q7h zGrp Q6h;cases hk:(c (i+1)).ok
 ·rw[qAb rfl];rw[qAa (fun q=>by
   rcases h.bad hk with b|⟨_,_,b⟩
   ·omega
   rw[q.2]at b;revert b;decide)]
  rfl
 have e1:=h.good hk;have e2:=h0 hk;rw[e1];have e3:¬(true=false):=by simp
 rw[qAa e3];by_cases c2:atB p (c (i+1)).next=41
 ·rw[qAb ⟨e2,c2⟩,qAa (by rw[c2];simp)];rfl
 rw[qAa (fun q=>c2 q.2),qAb c2];rfl
theorem z3e{k:Nat}{x:Int}(h:(Q1u (Q3m (lgK p k) p) p x).ok=true):W0m (atB p x)=true:=y6k (y2v h)
theorem x5z:∀(k:Nat) (i:Int),0<=i->atB p i=40->Q7h (zgK p k i) (lgK p k i)
 |0,i,_,_=>rfl
 |k+1,i,h0,h40=>by
  have hi:=z0r (s:=p) (i:=i) (by omega);have ha:∀x:Int,0<=x->x<=p.size->Q7h (Q3w (zgK p k) p x) (Q3m (lgK p k) p x):=fun x x0 _=>y54 (fun h=>x5z k x x0 h);have j0:∀x:Int,0<=x->x<=p.size->Q7h (Q4i (Q3w (zgK p k) p) p x) (Q1u (Q3m (lgK p k) p) p x):=fun x x0 x1=>y17 (ha x x0 x1) (fun h=>by have:=z2y p k x x0 x1 h;omega);exact x8k (y9y j0 (z2y p k) (z6l p k) (fun x h=>z3e h) (by omega) (by omega)) (fun h=>by have:=y4t p k (i+1) (by omega) (by omega) h;show 0<=(Q61 p k (i+1)).next;omega)
theorem z7l(k:Nat){x:Int}(x0:0<=x):Q7h (Q3w (zgK p k) p x) (Q3m (lgK p k) p x):=y54 (fun h=>x5z k x x0 h)
theorem z56(k:Nat){x:Int}(x0:0<=x)(x1:x<=p.size):Q7h (Q4i (Q3w (zgK p k) p) p x) (Q1u (Q3m (lgK p k) p) p x):=y17 (z7l k x0) (fun h=>by have:=z2y p k x x0 x1 h;omega)
theorem x53(k:Nat){i:Int}(h0:0<=i)(h1:i<=p.size):SaysP p (zpK p k i) (Q61 p k i):=y9y (fun x x0 x1=>z56 k x0 x1) (z2y p k) (z6l p k) (fun x h=>z3e h) h0 h1
end
def openT:ByteArray:=⟨#[40]⟩
def closeT:ByteArray:=⟨#[41]⟩
def eitherT(p q:ByteArray):ByteArray:=openT++p++⟨#[41,124,40]⟩++q++closeT
def bothT(p q:ByteArray):ByteArray:=openT++p++⟨#[41,40]⟩++q++closeT
def markT(m:UInt8)(p:ByteArray):ByteArray:=openT++p++⟨#[41,m]⟩
section
variable {p q r:ByteArray}{L M:Q03}
end
theorem x9u{s:ByteArray}{n:Nat}(h:n<s.size):atB s (n:Nat)=s[n].toNat:=by
 unfold atB;rw[qEt ⟨by omega,by simpa using h⟩];simp
theorem z8t(s:ByteArray)(i:Nat):∀k,i+k<=s.size->Q1n s i k=(List.range k).map fun j:Nat=>(atB s (i+j:Nat)).toNat
 |0,_=>rfl
 |k+1,h=>by
  have hk:i+k<s.size:=by omega
  rw[Q1n,z8t s i k (by omega),List.range_succ,qBp,qEt hk];congr 1;have:=x9u hk;simp only[qDl,List.map_nil];rw[this];simp
def xT:ByteArray:=⟨#[120]⟩
def mF(b t:ByteArray):Bool:=(matchF (specX b) 0 (xT++t)).1
def eF(b t:ByteArray):Int:=(matchF (specX b) 0 (xT++t)).2
def splitF(p q t:ByteArray)(n:Nat):Bool:=(List.range (t.size+1)).any fun i=>decide (n<=i)&&(mF p (t.extract 0 i)&&mF q (t.extract i t.size))
section
variable {p q t:ByteArray}{L M:Q03}
structure Joins(p q t:ByteArray):Prop where
 either:mF (eitherT p q) t=(mF p t||mF q t)
 both:mF (bothT p q) t=splitF p q t 0
 many:mF (markT 42 p) t=(decide (t.size=0)||splitF p (markT 42 p) t 1)
 once:mF (markT 43 p) t=splitF p (markT 42 p) t 0
 maybe:mF (markT 63 p) t=(mF p t||decide (t.size=0))
end
structure WOk(ws:List Int):Prop where
 len:ws.length=4
 rng:∀k:Nat,0<=ws.getD k 0/\ws.getD k 0<18446744073709551616
def tb(ws:List Int)(c:Nat):Bool:=(ws.getD (c / 64) 0).toNat.testBit (c % 64)
theorem z67{ws:List Int}(h:WOk ws)(c:Nat):Q5y ws c=tb ws c:=by
 have hr:=h.rng (c / 64);unfold Q5y tb;have e:ws[c / 64]?.getD 0=ws.getD (c / 64) 0:=rfl;rw[e];generalize ws.getD (c / 64) 0=x at hr;obtain⟨n,rfl⟩:∃n:Nat,x=n:=⟨x.toNat,by omega⟩;have e2:((n:Int) / 2 ^ (c % 64))=((n / 2 ^ (c % 64):Nat):Int):=by push_cast;rfl
 have j0:n / 2 ^ (c % 64)<=n:=Nat.div_le_self _ _;rw[e2,qAo,Nat.testBit_eq_decide_div_mod_eq];generalize n / 2 ^ (c % 64)=m at j0 ⊢;rw[and_one_u64 _ (by omega) (by omega),qBc,qBi,qAu];omega
theorem z5s:WOk zero4:=⟨rfl,fun k=>by
 match k with
 |0=>decide
 |1=>decide
 |2=>decide
 |3=>decide
 |k+4=>simp[zero4]⟩
theorem y93(c:Nat):tb zero4 c=false:=by
 unfold tb;have:zero4.getD (c / 64) 0=0:=by
  match c / 64 with
  |0=>rfl
  |1=>rfl
  |2=>rfl
  |3=>rfl
  |k+4=>simp[zero4]
 rw[this];simp
theorem v2w{k:Nat}(h:k<64):2 ^ k<18446744073709551616:=by
 have:=Nat.pow_lt_pow_right (a:=2) (by omega) h;simpa using this
theorem x44{ws:List Int}(h:WOk ws){n:Nat}(hn:n<256):WOk (Q8o ws n)/\∀c,tb (Q8o ws n) c=(tb ws c||decide (c=n)):=by
 have hr:=h.rng (n / 64);have hl:=h.len;have hk:n % 64<64:=Nat.mod_lt _ (by omega);have hp:=v2w hk;have e0:Q8o ws n=ws.set (n / 64) (((ws.getD (n / 64) 0).toNat ||| 2 ^ (n % 64):Nat):Int):=by
  unfold Q8o;have e1:((n:Int) / 64).toNat=n / 64:=by omega
  have e2:((n:Int) % 64).toNat=n % 64:=by omega
  rw[e1,e2];congr 1;have e3:IntKind.u64.wrap (2 ^ (n % 64))=((2 ^ (n % 64):Nat):Int):=by
   rw[IntKind.wrap_u64];have:((2:Int) ^ (n % 64))=((2 ^ (n % 64):Nat):Int):=by push_cast;rfl
   rw[this];generalize 2 ^ (n % 64)=P at hp ⊢;omega
  have e4:ws[n / 64]?.getD 0=((ws.getD (n / 64) 0).toNat:Int):=by
   have:ws[n / 64]?.getD 0=ws.getD (n / 64) 0:=rfl;rw[this];omega
  rw[e3,e4,bits_or_u64_nat _ _ (by omega) hp]
 rw[e0];have j0:((ws.getD (n / 64) 0).toNat ||| 2 ^ (n % 64))<18446744073709551616:=by
  have:=Nat.or_lt_two_pow (n:=64) (x:=(ws.getD (n / 64) 0).toNat) (y:=2 ^ (n % 64)) (by omega) (by omega);omega
 refine⟨⟨by rw[qBr];exact hl,fun k=>?_⟩,fun c=>?_⟩
 ·by_cases q:n / 64=k
  ·rw[← q];have:(ws.set (n / 64) (((ws.getD (n / 64) 0).toNat ||| 2 ^ (n % 64):Nat):Int)).getD (n / 64) 0=(((ws.getD (n / 64) 0).toNat ||| 2 ^ (n % 64):Nat):Int):=by
    rw[List.getD,List.getElem?_set_self (by omega)];rfl
   rw[this];omega
  have:(ws.set (n / 64) (((ws.getD (n / 64) 0).toNat ||| 2 ^ (n % 64):Nat):Int)).getD k 0=ws.getD k 0:=by
   rw[List.getD,List.getElem?_set_ne q];rfl
  rw[this];exact h.rng k
 unfold tb;by_cases q:n / 64=c / 64
 ·have:(ws.set (n / 64) (((ws.getD (n / 64) 0).toNat ||| 2 ^ (n % 64):Nat):Int)).getD (c / 64) 0=(((ws.getD (c / 64) 0).toNat ||| 2 ^ (n % 64):Nat):Int):=by
   rw[← q,List.getD,List.getElem?_set_self (by omega)];rfl
  rw[this,qAo,Nat.testBit_or,Nat.testBit_two_pow];congr 1;rw[qBc,qAu,qAu];omega
 have:(ws.set (n / 64) (((ws.getD (n / 64) 0).toNat ||| 2 ^ (n % 64):Nat):Int)).getD (c / 64) 0=ws.getD (c / 64) 0:=by
  rw[List.getD,List.getElem?_set_ne q];rfl
 rw[this];have:decide (c=n)=false:=by simp;intro e;exact q (by rw[e])
 rw[this,qDk]
theorem y3l{ws:List Int}(h:WOk ws){lo:Nat}:∀n,lo+n<=256->WOk (Q7f ws lo n)/\∀c,tb (Q7f ws lo n) c=(tb ws c||decide (lo<=c/\c<lo+n))
 |0,_=>⟨h,fun c=>by
   have:decide (lo<=c/\c<lo+0)=false:=qCa (by omega);rw[this,qDk];rfl⟩
 |n+1,hn=>by
  obtain⟨h1,h2⟩:=y3l h (lo:=lo) n (by omega);have e:((lo:Int)+(n:Int))=((lo+n:Nat):Int):=by omega
  obtain⟨h3,h4⟩:=x44 h1 (n:=lo+n) (by omega);unfold Q7f;rw[e];refine⟨h3,fun c=>?_⟩;rw[h4,h2,Bool.or_assoc];congr 1;rw[qBc,qAt,qAu,qAu,qAu];omega
theorem x27{lo hi:Nat}(h1:lo<=hi)(h2:hi<256):WOk (Q2d zero4 lo hi)/\∀c,Q5y (Q2d zero4 lo hi) c=decide (lo<=c/\c<=hi):=by
 obtain⟨q1,q2⟩:=y3l z5s (lo:=lo) (hi+1-lo) (by omega);have e:Q2d zero4 lo hi=Q7f zero4 lo (hi+1-lo):=by
  unfold Q2d;congr 1;omega
 rw[e];refine⟨q1,fun c=>?_⟩;rw[z67 q1,q2,y93,qDj,qBc,qAu,qAu];omega
theorem y2f{n:Nat}(h:n<18446744073709551616):Q7v n=((18446744073709551615 ^^^ n:Nat):Int):=by
 unfold Q7v;have e:(if IntKind.u64.signed=true then(-1:Int) else IntKind.u64.max)=((18446744073709551615:Nat):Int):=by decide
 rw[e,bits_xor_u64_nat _ _ (by omega) h]
theorem x26{ws:List Int}(h:WOk ws){c:Nat}(hc:c<256):Q5y (Q85 ws 4) c=!Q5y ws c:=by
 obtain⟨a,b,d,e,rfl⟩:=four h.len;have ra:=h.rng 0;have rb:=h.rng 1;have rd:=h.rng 2;have re:=h.rng 3;simp only[qDo,qEf]at ra rb rd re;obtain⟨a,rfl⟩:∃n:Nat,a=n:=⟨a.toNat,by omega⟩;obtain⟨b,rfl⟩:∃n:Nat,b=n:=⟨b.toNat,by omega⟩;obtain⟨d,rfl⟩:∃n:Nat,d=n:=⟨d.toNat,by omega⟩;obtain⟨e,rfl⟩:∃n:Nat,e=n:=⟨e.toNat,by omega⟩;have e1:Q85 [(a:Int),(b:Int),(d:Int),(e:Int)] 4=[Q7v a,Q7v b,Q7v d,Q7v e]:=rfl;rw[e1,y2f (by omega),y2f (by omega),y2f (by omega),y2f (by omega)];have xl:∀n:Nat,n<18446744073709551616->18446744073709551615 ^^^ n<18446744073709551616:=fun n hn=>by
  have:=Nat.xor_lt_two_pow (n:=64) (x:=18446744073709551615) (y:=n) (by omega) (by omega);omega
 have la:=xl a (by omega);have lb:=xl b (by omega);have ld:=xl d (by omega);have le:=xl e (by omega);have h2:WOk [((18446744073709551615 ^^^ a:Nat):Int),((18446744073709551615 ^^^ b:Nat):Int),((18446744073709551615 ^^^ d:Nat):Int),((18446744073709551615 ^^^ e:Nat):Int)]:=⟨rfl,fun k=>by
  match k with
  |0=>simp only[qDo];omega
  |1=>simp only[qEf,qDo];omega
  |2=>simp only[qEf,qDo];omega
  |3=>simp only[qEf,qDo];omega
  |k+4=>simp⟩
 rw[z67 h,z67 h2];unfold tb;have j0:∀n:Nat,(18446744073709551615 ^^^ n).testBit (c % 64)=!n.testBit (c % 64):=fun n=>by
  have hm:(18446744073709551615:Nat).testBit (c % 64)=true:=by
   have:=Nat.testBit_two_pow_sub_one 64 (c % 64);rw[show(2:Nat) ^ 64-1=18446744073709551615 from rfl]at this;rw[this];simp;omega
  rw[Nat.testBit_xor,hm];simp
 have hq:c / 64<4:=by omega
 match hcc:c / 64,hq with
 |0,_=>simp only[qDo,qAo];exact j0 a
 |1,_=>simp only[qEf,qDo,qAo];exact j0 b
 |2,_=>simp only[qEf,qDo,qAo];exact j0 d
 |3,_=>simp only[qEf,qDo,qAo];exact j0 e
end Go.Proofs.YtbdpfmalabgmbaaGreat
