import Derived.Test.YtbdpfmalabgmbaaGreatLb1
namespace Go.Proofs.YtbdpfmalabgmbaaGreat
open Go.RowKit
set_option maxRecDepth 99999
set_option maxHeartbeats 0
set_option linter.all false
theorem y6a(p:ByteArray)(i:Nat)(w:World)(hp:p.size<=100000)(hi:i<=100000) :
  Calls Tryz.prog 138 #[.string p,.int .i64 i] w fun e w'=>e=.returned (.tuple #[.int .i64 (okI (Q0n p i).2.2.2 (Q0n p i).2.2.1),.int .i64 (okV (Q0n p i).2.2.2 (Q0n p i).1),.int .i64 (okV (Q0n p i).2.2.2 (Q0n p i).2.1)])/\w'=w:=by
 have Z0:=hid (fun w=>y92 p i w hp (by omega));obtain⟨b1,b2,b3,b4,b5⟩:=z4s p i (by omega);have HR:Hid (Q0n p i=if(Q1s p i).2.2=false then(0,0,(Q1s p i).2.1,false)
 else if atB p (Q1s p i).2.1≠45 then((Q1s p i).1,(Q1s p i).1,(Q1s p i).2.1,true)
 else if(Q1s p ((Q1s p i).2.1+1)).2.2=false then(0,0,(Q1s p ((Q1s p i).2.1+1)).2.1,false)
 else if(Q1s p ((Q1s p i).2.1+1)).1<(Q1s p i).1 then(0,0,(Q1s p ((Q1s p i).2.1+1)).2.1-1,false)
 else((Q1s p i).1,(Q1s p ((Q1s p i).2.1+1)).1,(Q1s p ((Q1s p i).2.1+1)).2.1,true)):=rfl
 rw[HR.out];clear HR;generalize Q1s p i=r at Z0 b1 b2 b3 b4 b5 ⊢;obtain⟨v,n,ok⟩:=r;dsimp only at Z0 b1 b2 b3 b4 b5 ⊢;cases ok
 ·rw[qAb rfl];clear b5;go_enter Tryz.func138,Tryz.ntmps138
  go_wp2_with (first
   |(go_at_call 144;refine csm (Z0.out _) ?_))
  all_goals first
   |(go_ret3;exact⟨rfl,rfl⟩)
   |(exfalso;simp_all[okI];done)
 rw[qAa (by simp)];have hn:=b5 rfl;clear b5;obtain⟨j,rfl⟩:∃j:Nat,n=j:=⟨n.toNat,by omega⟩;have e1:okV true v=v:=rfl;have e2:okI true (j:Int)=j:=rfl;rw[e1,e2]at Z0;have k0:¬(j:Int)<0:=by omega
 by_cases h1:j<p.size
 ·have hb:atB p (j:Nat)=p[j].toNat:=by unfold atB;rw[qEt ⟨by omega,by simpa using h1⟩];simp
  have j5:p[j].toNat<256:=p[j].toNat_lt;have j1:¬(p.size:Int)<=(j:Int):=by omega
  have j4:(j:Int)<(p.size:Int):=by omega
  rw[hb];by_cases h2:p[j].toNat=45
  ·have j2:((p[j].toNat:Int) != 45)=false:=by simp[h2]
   rw[qAa (by rw[h2];simp)];have Z1:=hid (fun w=>y92 p (j+1) w hp (by omega));have ej:(((j+1:Nat)):Int)=(j:Int)+1:=by omega
   rw[ej]at Z1;obtain⟨c1,c2,c3,c4,c5⟩:=z4s p ((j:Int)+1) (by omega);generalize Q1s p ((j:Int)+1)=r2 at Z1 c1 c2 c3 c4 c5 ⊢;obtain⟨v2,n2,j3⟩:=r2;dsimp only at Z1 c1 c2 c3 c4 c5 ⊢;cases j3
   ·rw[qAb rfl];have e3:okV false v2=0:=rfl;have e4:okI false n2=-1:=rfl;rw[e3,e4]at Z1;clear c5 hb;go_enter Tryz.func138,Tryz.ntmps138
    go_wp2_with (first
     |(go_at_call 144;have j0:=HS.out;refine csm (Z1.out _) ?_)
     |(go_at_call 144;refine csm (Z0.out _) ?_;have HS:Hid True:=hid trivial))
    all_goals first
     |(go_ret3;exact⟨rfl,rfl⟩)
     |(exfalso;simp_all;done)
   rw[qAa (by simp)];have j6:=c5 rfl;obtain⟨k,rfl⟩:∃k:Nat,n2=k:=⟨n2.toNat,by omega⟩;have e3:okV true v2=v2:=rfl;have e4:okI true (k:Int)=k:=rfl;rw[e3,e4]at Z1;have k1:¬(k:Int)<0:=by omega
   clear c5 hb;by_cases h3:v2<v
   ·rw[qAb h3];go_enter Tryz.func138,Tryz.ntmps138
    go_wp2_with (first
     |(go_at_call 144;have j0:=HS.out;refine csm (Z1.out _) ?_)
     |(go_at_call 144;refine csm (Z0.out _) ?_;have HS:Hid True:=hid trivial))
    all_goals first
     |(go_ret3;exact⟨rfl,rfl⟩)
     |(exfalso;simp_all;done)
   rw[qAa h3];go_enter Tryz.func138,Tryz.ntmps138
   go_wp2_with (first
    |(go_at_call 144;have j0:=HS.out;refine csm (Z1.out _) ?_)
    |(go_at_call 144;refine csm (Z0.out _) ?_;have HS:Hid True:=hid trivial))
   all_goals first
    |(go_ret3;exact⟨rfl,rfl⟩)
    |(exfalso;simp_all;done)
  have j2:((p[j].toNat:Int) != 45)=true:=by simp;omega
  rw[qAb (by omega)];clear hb;go_enter Tryz.func138,Tryz.ntmps138
  go_wp2_with (first
   |(go_at_call 144;refine csm (Z0.out _) ?_))
  all_goals first
   |(go_ret3;exact⟨rfl,rfl⟩)
   |(exfalso;simp_all;done)
 have hb:atB p (j:Nat)=-1:=by unfold atB;rw[qFm (by omega)]
 have j1:(p.size:Int)<=(j:Int):=by omega
 rw[hb,qAb (by decide)];clear hb;go_enter Tryz.func138,Tryz.ntmps138
 go_wp2_with (first
  |(go_at_call 144;refine csm (Z0.out _) ?_))
 all_goals first
  |(go_ret3;exact⟨rfl,rfl⟩)
  |(exfalso;simp_all;done)
def specB:ByteArray:=⟨#[92,91,93,40,41,124,42,43,63,46]⟩
def spK(j:Nat):Nat:=([92,91,93,40,41,124,42,43,63,46]:List Nat).getD j 0
theorem v1p:∀j:Fin 10,Q02 (spK j:Nat)=false:=by decide
theorem v2s:∀j:Fin 10,(specB[j.val]'(by have:=j.isLt;show j.val<10;omega)).toNat=spK j:=by decide
theorem v1o{c:Nat}(h:∀j,j<10->c≠spK j):Q02 (c:Int)=(decide (32<=c)&&decide (c<=126)):=by
 have h0:=h 0 (by omega);have h1:=h 1 (by omega);have h2:=h 2 (by omega);have h3:=h 3 (by omega);have h4:=h 4 (by omega);have h5:=h 5 (by omega);have h6:=h 6 (by omega);have h7:=h 7 (by omega);have h8:=h 8 (by omega);have h9:=h 9 (by omega);simp[spK]at h0 h1 h2 h3 h4 h5 h6 h7 h8 h9;unfold Q02 Q4l;rw[qBc];simp;omega
theorem x1q(c:Nat)(w:World)(hc:c<=255):Calls Tryz.prog 132 #[.int .u8 c] w fun e w'=>e=.returned (.bool (Q02 c))/\w'=w:=by
 go_enter Tryz.func132,Tryz.ntmps132
 go_wp2;go_loopw [4] (fun x4 wr=>∃(i:Nat),x4=.int .i64 i/\i<=10/\(∀j:Nat,j<i->c≠spK j)/\wr=w)
   (fun x _=>20-(intOf x).toNat)
 case atStart=>exact⟨0,rfl,by omega,fun j hj=>by omega,rfl⟩
 obtain⟨i,rfl,hi,j5,rfl⟩:=hrel;have j1:=hid j5;clear j5;by_cases j3:i<10
 ·have j4:(i:Int)<10:=by omega
  have j7:i<(⟨#[92,91,93,40,41,124,42,43,63,46]⟩:ByteArray).size:=j3;have hk:((⟨#[92,91,93,40,41,124,42,43,63,46]⟩:ByteArray)[i]'hsz).toNat=spK i:=v2s ⟨i,j3⟩;have j2:Q02 (spK i:Nat)=false:=v1p ⟨i,j3⟩;have j0:=hid j2;clear j2;by_cases q:c=spK i
  ·have HQ:=hid q;have k1:((c:Int)==(spK i:Int))=true:=by simp[q]
   clear q j1;generalize spK i=sp at *;go_wp2;all_goals first
    |(go_ret;exact⟨by rw[HQ.out,j0.out];rfl,rfl⟩)
    |trace_state
  have j6:Hid (∀j:Nat,j<i+1->c≠spK j):=fun j hj=>by
   by_cases e:j=i
   ·subst e;exact q
   exact j1.out j (by omega)
  have k1:((c:Int)==(spK i:Int))=false:=by simp;omega
  have k2:¬(c:Int)=(spK i:Int):=by omega
  clear q j1 j0;generalize hsp:spK i=sp at *;clear hsp;go_wp2;go_roundw
  case rel=>exact⟨i+1,by go_num,by omega,j6.out,by first|rfl|trivial⟩
  simp[intOf];omega
 have j4:¬(i:Int)<10:=by omega
 have HA:Hid (Q02 (c:Int)=(decide (32<=c)&&decide (c<=126))):=v1o (fun j hj=>j1.out j (by omega));clear j1;go_wp2;all_goals
  go_ret;refine⟨?_,rfl⟩;rw[HA.out];simp_all
  all_goals first
   |(intros;omega)
   |(rw[qBc];simp;omega)
theorem x1k(p:ByteArray)(i:Nat)(w:World)(hp:p.size<=90000)(hi:i<p.size) :
  Calls Tryz.prog 134 #[.string p,.int .i64 i] w fun e w'=>e=.returned (.int .i64 (okI (rBr p (i+1)).2.2 (rBr p (i+1)).2.1))/\w'=w:=by
 have ZE:=hid (fun(x:Nat) (hx:x<=100000) (w:World)=>y6a p x w (by omega) hx);obtain⟨i0,jq,hV,jd⟩:∃i0:Nat,i0<=p.size+1/\okI (rBr p (i+1)).2.2 (rBr p (i+1)).2.1=okI (Q3f p i0).2.2 (Q3f p i0).2.1/\((i0=i+2/\∃h:i+1<p.size,p[i+1].toNat=94)∨(i0=i+1/\∀h:i+1<p.size,p[i+1].toNat≠94)):=by
  by_cases h1:i+1<p.size
  ·have hb:atB p ((i:Int)+1)=p[i+1].toNat:=by
    have:atB p ((i+1:Nat):Int)=p[i+1].toNat:=by unfold atB;rw[qEt ⟨by omega,by simpa using h1⟩];simp
    rw[← this];rfl
   by_cases h2:p[i+1].toNat=94
   ·refine⟨i+2,by omega,?_,.inl ⟨rfl,h1,h2⟩⟩;unfold rBr;rw[hb,h2,qAb (by decide)];rw[show(i:Int)+1+1=((i+2:Nat):Int) by omega]
   refine⟨i+1,by omega,?_,.inr ⟨rfl,fun _=>h2⟩⟩;unfold rBr;rw[hb,qAa (by omega),show(i:Int)+1=((i+1:Nat):Int) by omega]
  refine⟨i+1,by omega,?_,.inr ⟨rfl,fun h=>absurd h h1⟩⟩;have hb:atB p ((i:Int)+1)=-1:=by unfold atB;rw[qFm (by omega)]
  unfold rBr;rw[hb,qAa (by decide),show(i:Int)+1=((i+1:Nat):Int) by omega]
 rw[hV];unfold Q3f;generalize hVV:okI (Q06 p i0 (p.size+5) i0 zero4).2.2 (Q06 p i0 (p.size+5) i0 zero4).2.1=V;have HV:=hid hVV;clear hVV hV;rcases jd with⟨e0,h1,jb⟩|⟨e0,jb⟩
 ·have jp:((p[i+1].toNat:Int)==94)=true:=by simp[jb]
  have ji:(i:Int)+1<(p.size:Int):=by omega
  have jn:((i:Int)+1).toNat=i+1:=by omega
  go_enter Tryz.func134,Tryz.ntmps134
  go_wp2;go_loopw [1,5,6,7,8] (fun x1 x5 _ _ _ wr=>∃(x n F:Nat) (ws:List Int),x1=.int .i64 x/\x5=.int .i64 n/\i0<=x/\x<=p.size+1/\n<=x/\(n=0↔x=i0)/\p.size+5<=F+x/\okI (Q06 p i0 F x ws).2.2 (Q06 p i0 F x ws).2.1=V/\wr=w)
    (fun x _ _ _ _ _=>200000-(intOf x).toNat)
  case atStart=>exact⟨i0,0,p.size+5,zero4,by rw[e0];go_num,rfl,by omega,by omega,by omega,by omega,by omega,HV.out,rfl⟩
  clear HV;obtain⟨x,n,F,ws,rfl,rfl,jk,jl,jj,j9,hF,j0,rfl⟩:=hrel;obtain⟨F,rfl⟩:∃F',F=F'+1:=⟨F-1,by omega⟩;rw[z3k]at j0;have ZX:=hid (ZE.out x (by omega));by_cases hn:n=0
  ·have HC:(x:Int)=i0∨atB p (x:Nat)≠93:=.inl (by have:=j9.1 hn;omega);have kn:((n:Int)==0)=true:=by simp[hn]
   have jg:(n:Int)=0:=by omega
   have j3:(x:Int)=i0∨atB p (x:Nat)≠93:=HC;rw[qAb j3]at j0;have j1:=z1l p (x:Nat) (by omega);generalize Q0n p (x:Nat)=r at ZX j0 j1;obtain⟨lo,j7,nx,ok⟩:=r;dsimp only at ZX j0 j1;cases ok
   ·rw[qAb rfl]at j0;have j2:Hid (V=-1):=j0.symm;clear j0 j1 j3;go_wp2_with (first
     |(go_at_call 138;refine csm (ZX.out _) ?_))
    all_goals first
     |(go_ret;exact⟨by rw[j2.out];rfl,rfl⟩)
     |(exfalso;simp_all[okI];done)
   rw[qAa (by simp)]at j0;have jc:=j1.2.2.2.2.2.2 rfl;obtain⟨j,rfl⟩:∃j:Nat,nx=j:=⟨nx.toNat,by omega⟩;have e1:okI true (j:Int)=j:=rfl;rw[e1]at ZX;have k0:¬(j:Int)<0:=by omega
   have j4:=hid j0;clear j0 j1 j3;go_wp2_with (first
    |(go_at_call 138;refine csm (ZX.out _) ?_))
   go_roundw
   case rel=>exact⟨j,n+1,F,Q2d ws lo j7,rfl,by go_num,by omega,by omega,by omega,by omega,by omega,j4.out,by first|rfl|trivial⟩
   simp[intOf];omega
  have kn:((n:Int)==0)=false:=by simp;omega
  have jg:¬(n:Int)=0:=by omega
  have jm:¬x=i0:=fun e=>hn (j9.2 e);by_cases je:x<p.size
  ·have hb:atB p (x:Nat)=p[x].toNat:=by unfold atB;rw[qEt ⟨by omega,by simpa using je⟩];simp
   have jh:p[x].toNat<256:=p[x].toNat_lt;have j5:(x:Int)<(p.size:Int):=by omega
   by_cases j8:p[x].toNat=93
   ·have jf:((p[x].toNat:Int) != 93)=false:=by simp[j8]
    rw[qAa (by rw[hb,j8];intro q;rcases q with q|q;omega;exact q rfl)]at j0;have j2:Hid (V=(x:Int)+1):=j0.symm;have j6:¬(p.size:Int)<=(x:Int):=by omega
    clear j0 hb;go_wp2;all_goals first
     |(go_ret;exact⟨by rw[j2.out];rfl,rfl⟩)
     |(exfalso;simp_all;done)
   have jf:((p[x].toNat:Int) != 93)=true:=by simp;omega
   have HC:(x:Int)=i0∨atB p (x:Nat)≠93:=.inr (by rw[hb];omega);clear hb;have j3:(x:Int)=i0∨atB p (x:Nat)≠93:=HC;rw[qAb j3]at j0;have j1:=z1l p (x:Nat) (by omega);generalize Q0n p (x:Nat)=r at ZX j0 j1;obtain⟨lo,j7,nx,ok⟩:=r;dsimp only at ZX j0 j1;cases ok
   ·rw[qAb rfl]at j0;have j2:Hid (V=-1):=j0.symm;clear j0 j1 j3;go_wp2_with (first
     |(go_at_call 138;refine csm (ZX.out _) ?_))
    all_goals first
     |(go_ret;exact⟨by rw[j2.out];rfl,rfl⟩)
     |(exfalso;simp_all[okI];done)
   rw[qAa (by simp)]at j0;have jc:=j1.2.2.2.2.2.2 rfl;obtain⟨j,rfl⟩:∃j:Nat,nx=j:=⟨nx.toNat,by omega⟩;have e1:okI true (j:Int)=j:=rfl;rw[e1]at ZX;have k0:¬(j:Int)<0:=by omega
   have j4:=hid j0;clear j0 j1 j3;go_wp2_with (first
    |(go_at_call 138;refine csm (ZX.out _) ?_))
   go_roundw
   case rel=>exact⟨j,n+1,F,Q2d ws lo j7,rfl,by go_num,by omega,by omega,by omega,by omega,by omega,j4.out,by first|rfl|trivial⟩
   simp[intOf];omega
  have j5:¬(x:Int)<(p.size:Int):=by omega
  have j6:(p.size:Int)<=(x:Int):=by omega
  have hb:atB p (x:Nat)=-1:=by unfold atB;rw[qFm (by omega)]
  have ja:(Q0n p (x:Nat)).2.2.2=false:=by
   have:(Q1s p (x:Nat)).2.2=false:=by unfold Q1s;rw[hb,qAa (by decide),qAa (by decide),qAb (by decide)]
   unfold Q0n;rw[qAb this]
  rw[qAb (.inr (by rw[hb];decide)),qAb ja]at j0;have j2:Hid (V=-1):=j0.symm;clear j0 hb ja;go_wp2;all_goals first
   |(go_ret;exact⟨by rw[j2.out];rfl,rfl⟩)
   |(exfalso;simp_all;done)
 by_cases h1:i+1<p.size
 ·have jo:=jb h1;have jh:p[i+1].toNat<256:=p[i+1].toNat_lt;have jp:((p[i+1].toNat:Int)==94)=false:=by simp;omega
  have ji:(i:Int)+1<(p.size:Int):=by omega
  have jn:((i:Int)+1).toNat=i+1:=by omega
  clear jb;go_enter Tryz.func134,Tryz.ntmps134
  go_wp2;go_loopw [1,5,6,7,8] (fun x1 x5 _ _ _ wr=>∃(x n F:Nat) (ws:List Int),x1=.int .i64 x/\x5=.int .i64 n/\i0<=x/\x<=p.size+1/\n<=x/\(n=0↔x=i0)/\p.size+5<=F+x/\okI (Q06 p i0 F x ws).2.2 (Q06 p i0 F x ws).2.1=V/\wr=w)
    (fun x _ _ _ _ _=>200000-(intOf x).toNat)
  case atStart=>exact⟨i0,0,p.size+5,zero4,by rw[e0];go_num,rfl,by omega,by omega,by omega,by omega,by omega,HV.out,rfl⟩
  clear HV;obtain⟨x,n,F,ws,rfl,rfl,jk,jl,jj,j9,hF,j0,rfl⟩:=hrel;obtain⟨F,rfl⟩:∃F',F=F'+1:=⟨F-1,by omega⟩;rw[z3k]at j0;have ZX:=hid (ZE.out x (by omega));by_cases hn:n=0
  ·have HC:(x:Int)=i0∨atB p (x:Nat)≠93:=.inl (by have:=j9.1 hn;omega);have kn:((n:Int)==0)=true:=by simp[hn]
   have jg:(n:Int)=0:=by omega
   have j3:(x:Int)=i0∨atB p (x:Nat)≠93:=HC;rw[qAb j3]at j0;have j1:=z1l p (x:Nat) (by omega);generalize Q0n p (x:Nat)=r at ZX j0 j1;obtain⟨lo,j7,nx,ok⟩:=r;dsimp only at ZX j0 j1;cases ok
   ·rw[qAb rfl]at j0;have j2:Hid (V=-1):=j0.symm;clear j0 j1 j3;go_wp2_with (first
     |(go_at_call 138;refine csm (ZX.out _) ?_))
    all_goals first
     |(go_ret;exact⟨by rw[j2.out];rfl,rfl⟩)
     |(exfalso;simp_all[okI];done)
   rw[qAa (by simp)]at j0;have jc:=j1.2.2.2.2.2.2 rfl;obtain⟨j,rfl⟩:∃j:Nat,nx=j:=⟨nx.toNat,by omega⟩;have e1:okI true (j:Int)=j:=rfl;rw[e1]at ZX;have k0:¬(j:Int)<0:=by omega
   have j4:=hid j0;clear j0 j1 j3;go_wp2_with (first
    |(go_at_call 138;refine csm (ZX.out _) ?_))
   go_roundw
   case rel=>exact⟨j,n+1,F,Q2d ws lo j7,rfl,by go_num,by omega,by omega,by omega,by omega,by omega,j4.out,by first|rfl|trivial⟩
   simp[intOf];omega
  have kn:((n:Int)==0)=false:=by simp;omega
  have jg:¬(n:Int)=0:=by omega
  have jm:¬x=i0:=fun e=>hn (j9.2 e);by_cases je:x<p.size
  ·have hb:atB p (x:Nat)=p[x].toNat:=by unfold atB;rw[qEt ⟨by omega,by simpa using je⟩];simp
   have jh:p[x].toNat<256:=p[x].toNat_lt;have j5:(x:Int)<(p.size:Int):=by omega
   by_cases j8:p[x].toNat=93
   ·have jf:((p[x].toNat:Int) != 93)=false:=by simp[j8]
    rw[qAa (by rw[hb,j8];intro q;rcases q with q|q;omega;exact q rfl)]at j0;have j2:Hid (V=(x:Int)+1):=j0.symm;have j6:¬(p.size:Int)<=(x:Int):=by omega
    clear j0 hb;go_wp2;all_goals first
     |(go_ret;exact⟨by rw[j2.out];rfl,rfl⟩)
     |(exfalso;simp_all;done)
   have jf:((p[x].toNat:Int) != 93)=true:=by simp;omega
   have HC:(x:Int)=i0∨atB p (x:Nat)≠93:=.inr (by rw[hb];omega);clear hb;have j3:(x:Int)=i0∨atB p (x:Nat)≠93:=HC;rw[qAb j3]at j0;have j1:=z1l p (x:Nat) (by omega);generalize Q0n p (x:Nat)=r at ZX j0 j1;obtain⟨lo,j7,nx,ok⟩:=r;dsimp only at ZX j0 j1;cases ok
   ·rw[qAb rfl]at j0;have j2:Hid (V=-1):=j0.symm;clear j0 j1 j3;go_wp2_with (first
     |(go_at_call 138;refine csm (ZX.out _) ?_))
    all_goals first
     |(go_ret;exact⟨by rw[j2.out];rfl,rfl⟩)
     |(exfalso;simp_all[okI];done)
   rw[qAa (by simp)]at j0;have jc:=j1.2.2.2.2.2.2 rfl;obtain⟨j,rfl⟩:∃j:Nat,nx=j:=⟨nx.toNat,by omega⟩;have e1:okI true (j:Int)=j:=rfl;rw[e1]at ZX;have k0:¬(j:Int)<0:=by omega
   have j4:=hid j0;clear j0 j1 j3;go_wp2_with (first
    |(go_at_call 138;refine csm (ZX.out _) ?_))
   go_roundw
   case rel=>exact⟨j,n+1,F,Q2d ws lo j7,rfl,by go_num,by omega,by omega,by omega,by omega,by omega,j4.out,by first|rfl|trivial⟩
   simp[intOf];omega
  have j5:¬(x:Int)<(p.size:Int):=by omega
  have j6:(p.size:Int)<=(x:Int):=by omega
  have hb:atB p (x:Nat)=-1:=by unfold atB;rw[qFm (by omega)]
  have ja:(Q0n p (x:Nat)).2.2.2=false:=by
   have:(Q1s p (x:Nat)).2.2=false:=by unfold Q1s;rw[hb,qAa (by decide),qAa (by decide),qAb (by decide)]
   unfold Q0n;rw[qAb this]
  rw[qAb (.inr (by rw[hb];decide)),qAb ja]at j0;have j2:Hid (V=-1):=j0.symm;clear j0 hb ja;go_wp2;all_goals first
   |(go_ret;exact⟨by rw[j2.out];rfl,rfl⟩)
   |(exfalso;simp_all;done)
 have ji:¬(i:Int)+1<(p.size:Int):=by omega
 clear jb;go_enter Tryz.func134,Tryz.ntmps134
 go_wp2;go_loopw [1,5,6,7,8] (fun x1 x5 _ _ _ wr=>∃(x n F:Nat) (ws:List Int),x1=.int .i64 x/\x5=.int .i64 n/\i0<=x/\x<=p.size+1/\n<=x/\(n=0↔x=i0)/\p.size+5<=F+x/\okI (Q06 p i0 F x ws).2.2 (Q06 p i0 F x ws).2.1=V/\wr=w)
   (fun x _ _ _ _ _=>200000-(intOf x).toNat)
 case atStart=>exact⟨i0,0,p.size+5,zero4,by rw[e0];go_num,rfl,by omega,by omega,by omega,by omega,by omega,HV.out,rfl⟩
 clear HV;obtain⟨x,n,F,ws,rfl,rfl,jk,jl,jj,j9,hF,j0,rfl⟩:=hrel;obtain⟨F,rfl⟩:∃F',F=F'+1:=⟨F-1,by omega⟩;rw[z3k]at j0;have ZX:=hid (ZE.out x (by omega));by_cases hn:n=0
 ·have HC:(x:Int)=i0∨atB p (x:Nat)≠93:=.inl (by have:=j9.1 hn;omega);have kn:((n:Int)==0)=true:=by simp[hn]
  have jg:(n:Int)=0:=by omega
  have j3:(x:Int)=i0∨atB p (x:Nat)≠93:=HC;rw[qAb j3]at j0;have j1:=z1l p (x:Nat) (by omega);generalize Q0n p (x:Nat)=r at ZX j0 j1;obtain⟨lo,j7,nx,ok⟩:=r;dsimp only at ZX j0 j1;cases ok
  ·rw[qAb rfl]at j0;have j2:Hid (V=-1):=j0.symm;clear j0 j1 j3;go_wp2_with (first
    |(go_at_call 138;refine csm (ZX.out _) ?_))
   all_goals first
    |(go_ret;exact⟨by rw[j2.out];rfl,rfl⟩)
    |(exfalso;simp_all[okI];done)
  rw[qAa (by simp)]at j0;have jc:=j1.2.2.2.2.2.2 rfl;exfalso;omega
 have kn:((n:Int)==0)=false:=by simp;omega
 have jg:¬(n:Int)=0:=by omega
 have jm:¬x=i0:=fun e=>hn (j9.2 e);by_cases je:x<p.size
 ·have hb:atB p (x:Nat)=p[x].toNat:=by unfold atB;rw[qEt ⟨by omega,by simpa using je⟩];simp
  have jh:p[x].toNat<256:=p[x].toNat_lt;have j5:(x:Int)<(p.size:Int):=by omega
  by_cases j8:p[x].toNat=93
  ·have jf:((p[x].toNat:Int) != 93)=false:=by simp[j8]
   rw[qAa (by rw[hb,j8];intro q;rcases q with q|q;omega;exact q rfl)]at j0;have j2:Hid (V=(x:Int)+1):=j0.symm;have j6:¬(p.size:Int)<=(x:Int):=by omega
   clear j0 hb;go_wp2;all_goals first
    |(go_ret;exact⟨by rw[j2.out];rfl,rfl⟩)
    |(exfalso;simp_all;done)
  have jf:((p[x].toNat:Int) != 93)=true:=by simp;omega
  have HC:(x:Int)=i0∨atB p (x:Nat)≠93:=.inr (by rw[hb];omega);clear hb;have j3:(x:Int)=i0∨atB p (x:Nat)≠93:=HC;rw[qAb j3]at j0;have j1:=z1l p (x:Nat) (by omega);generalize Q0n p (x:Nat)=r at ZX j0 j1;obtain⟨lo,j7,nx,ok⟩:=r;dsimp only at ZX j0 j1;cases ok
  ·rw[qAb rfl]at j0;have j2:Hid (V=-1):=j0.symm;clear j0 j1 j3;go_wp2_with (first
    |(go_at_call 138;refine csm (ZX.out _) ?_))
   all_goals first
    |(go_ret;exact⟨by rw[j2.out];rfl,rfl⟩)
    |(exfalso;simp_all[okI];done)
  rw[qAa (by simp)]at j0;have jc:=j1.2.2.2.2.2.2 rfl;exfalso;omega
 have j5:¬(x:Int)<(p.size:Int):=by omega
 have j6:(p.size:Int)<=(x:Int):=by omega
 have hb:atB p (x:Nat)=-1:=by unfold atB;rw[qFm (by omega)]
 have ja:(Q0n p (x:Nat)).2.2.2=false:=by
  have:(Q1s p (x:Nat)).2.2=false:=by unfold Q1s;rw[hb,qAa (by decide),qAa (by decide),qAb (by decide)]
  unfold Q0n;rw[qAb this]
 rw[qAb (.inr (by rw[hb];decide)),qAb ja]at j0;have j2:Hid (V=-1):=j0.symm;clear j0 hb ja;go_wp2;all_goals first
  |(go_ret;exact⟨by rw[j2.out];rfl,rfl⟩)
  |(exfalso;simp_all;done)
end Go.Proofs.YtbdpfmalabgmbaaGreat
