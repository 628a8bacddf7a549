import Derived.Test.YtcpceafmlgaodaaGreatLb1
namespace Go.Proofs.YtcpceafmlgaodaaGreat
open Go.RowKit
set_option maxRecDepth 99999
set_option maxHeartbeats 0
set_option linter.all false
theorem y5r(p:ByteArray)(i:Nat)(w:World)(hp:p.size<=100000)(hi:i<=100000) :
  Calls Tryz.prog 133 #[.string p,.int .i64 i] w fun e w'=>e=.returned (.tuple #[.int .i64 (okI (Q0m p i).2.2.2 (Q0m p i).2.2.1),.int .i64 (okV (Q0m p i).2.2.2 (Q0m p i).1),.int .i64 (okV (Q0m p i).2.2.2 (Q0m p i).2.1)])/\w'=w:=by
 have Z0:=hid (fun w=>y9d p i w hp (by omega));obtain⟨b1,b2,b3,b4,b5⟩:=z4r p i (by omega);have HR:Hid (Q0m p i=if(Q1p p i).2.2=false then(0,0,(Q1p p i).2.1,false)
 else if atB p (Q1p p i).2.1≠45 then((Q1p p i).1,(Q1p p i).1,(Q1p p i).2.1,true)
 else if(Q1p p ((Q1p p i).2.1+1)).2.2=false then(0,0,(Q1p p ((Q1p p i).2.1+1)).2.1,false)
 else if(Q1p p ((Q1p p i).2.1+1)).1<(Q1p p i).1 then(0,0,(Q1p p ((Q1p p i).2.1+1)).2.1-1,false)
 else((Q1p p i).1,(Q1p p ((Q1p p i).2.1+1)).1,(Q1p p ((Q1p p i).2.1+1)).2.1,true)):=rfl
 rw[HR.out];clear HR;generalize Q1p p i=r at Z0 b1 b2 b3 b4 b5 ⊢;obtain⟨v,n,ok⟩:=r;dsimp only at Z0 b1 b2 b3 b4 b5 ⊢;cases ok
 ·rw[qAb rfl];clear b5;go_enter Tryz.func133,Tryz.ntmps133
  go_wp2_with (first
   |(go_at_call 140;refine csm (Z0.out _) ?_))
  all_goals first
   |(go_ret3;exact⟨rfl,rfl⟩)
   |(exfalso;simp_all[okI];done)
 rw[qAa (by simp)];have hn:=b5 rfl;clear b5;obtain⟨j,rfl⟩:∃j:Nat,n=j:=⟨n.toNat,by omega⟩;have e1:okV true v=v:=rfl;have e2:okI true (j:Int)=j:=rfl;rw[e1,e2]at Z0;have k0:¬(j:Int)<0:=by omega
 by_cases h1:j<p.size
 ·have hb:atB p (j:Nat)=p[j].toNat:=by unfold atB;rw[qEi ⟨by omega,by simpa using h1⟩];simp
  have j4:p[j].toNat<256:=p[j].toNat_lt;have j1:¬(p.size:Int)<=(j:Int):=by omega
  have j3:(j:Int)<(p.size:Int):=by omega
  rw[hb];by_cases h2:p[j].toNat=45
  ·have j2:((p[j].toNat:Int) != 45)=false:=by simp[h2]
   rw[qAa (by rw[h2];simp)];have Z1:=hid (fun w=>y9d p (j+1) w hp (by omega));have ej:(((j+1:Nat)):Int)=(j:Int)+1:=by omega
   rw[ej]at Z1;obtain⟨c1,c2,c3,c4,c5⟩:=z4r p ((j:Int)+1) (by omega);generalize Q1p p ((j:Int)+1)=r2 at Z1 c1 c2 c3 c4 c5 ⊢;obtain⟨v2,n2,ok2⟩:=r2;dsimp only at Z1 c1 c2 c3 c4 c5 ⊢;cases ok2
   ·rw[qAb rfl];have e3:okV false v2=0:=rfl;have e4:okI false n2=-1:=rfl;rw[e3,e4]at Z1;clear c5 hb;go_enter Tryz.func133,Tryz.ntmps133
    go_wp2_with (first
     |(go_at_call 140;have j0:=HS.out;refine csm (Z1.out _) ?_)
     |(go_at_call 140;refine csm (Z0.out _) ?_;have HS:Hid True:=hid trivial))
    all_goals first
     |(go_ret3;exact⟨rfl,rfl⟩)
     |(exfalso;simp_all;done)
   rw[qAa (by simp)];have j5:=c5 rfl;obtain⟨k,rfl⟩:∃k:Nat,n2=k:=⟨n2.toNat,by omega⟩;have e3:okV true v2=v2:=rfl;have e4:okI true (k:Int)=k:=rfl;rw[e3,e4]at Z1;have k1:¬(k:Int)<0:=by omega
   clear c5 hb;by_cases h3:v2<v
   ·rw[qAb h3];go_enter Tryz.func133,Tryz.ntmps133
    go_wp2_with (first
     |(go_at_call 140;have j0:=HS.out;refine csm (Z1.out _) ?_)
     |(go_at_call 140;refine csm (Z0.out _) ?_;have HS:Hid True:=hid trivial))
    all_goals first
     |(go_ret3;exact⟨rfl,rfl⟩)
     |(exfalso;simp_all;done)
   rw[qAa h3];go_enter Tryz.func133,Tryz.ntmps133
   go_wp2_with (first
    |(go_at_call 140;have j0:=HS.out;refine csm (Z1.out _) ?_)
    |(go_at_call 140;refine csm (Z0.out _) ?_;have HS:Hid True:=hid trivial))
   all_goals first
    |(go_ret3;exact⟨rfl,rfl⟩)
    |(exfalso;simp_all;done)
  have j2:((p[j].toNat:Int) != 45)=true:=by simp;omega
  rw[qAb (by omega)];clear hb;go_enter Tryz.func133,Tryz.ntmps133
  go_wp2_with (first
   |(go_at_call 140;refine csm (Z0.out _) ?_))
  all_goals first
   |(go_ret3;exact⟨rfl,rfl⟩)
   |(exfalso;simp_all;done)
 have hb:atB p (j:Nat)=-1:=by unfold atB;rw[qEp (by omega)]
 have j1:(p.size:Int)<=(j:Int):=by omega
 rw[hb,qAb (by decide)];clear hb;go_enter Tryz.func133,Tryz.ntmps133
 go_wp2_with (first
  |(go_at_call 140;refine csm (Z0.out _) ?_))
 all_goals first
  |(go_ret3;exact⟨rfl,rfl⟩)
  |(exfalso;simp_all;done)
def specB:ByteArray:=⟨#[92,91,93,40,41,124,42,43,63,46]⟩
def spK(j:Nat):Nat:=([92,91,93,40,41,124,42,43,63,46]:List Nat).getD j 0
theorem v0u:∀j:Fin 10,Q01 (spK j:Nat)=false:=by decide
theorem v1x:∀j:Fin 10,(specB[j.val]'(by have:=j.isLt;show j.val<10;omega)).toNat=spK j:=by decide
theorem v0t{c:Nat}(h:∀j,j<10->c≠spK j):Q01 (c:Int)=(decide (32<=c)&&decide (c<=126)):=by
 have h0:=h 0 (by omega);have h1:=h 1 (by omega);have h2:=h 2 (by omega);have h3:=h 3 (by omega);have h4:=h 4 (by omega);have h5:=h 5 (by omega);have h6:=h 6 (by omega);have h7:=h 7 (by omega);have h8:=h 8 (by omega);have h9:=h 9 (by omega);simp[spK]at h0 h1 h2 h3 h4 h5 h6 h7 h8 h9;unfold Q01 Q4e;rw[qAs];simp;omega
theorem x07(c:Nat)(w:World)(hc:c<=255):Calls Tryz.prog 127 #[.int .u8 c] w fun e w'=>e=.returned (.bool (Q01 c))/\w'=w:=by
 go_enter Tryz.func127,Tryz.ntmps127
 go_wp2;go_loopw [4] (fun x4 wr=>∃(i:Nat),x4=.int .i64 i/\i<=10/\(∀j:Nat,j<i->c≠spK j)/\wr=w)
   (fun x _=>20-(intOf x).toNat)
 case atStart=>exact⟨0,rfl,by omega,fun j hj=>by omega,rfl⟩
 obtain⟨i,rfl,hi,hne,rfl⟩:=hrel;have j1:=hid hne;clear hne;by_cases hlt:i<10
 ·have j3:(i:Int)<10:=by omega
  have j5:i<(⟨#[92,91,93,40,41,124,42,43,63,46]⟩:ByteArray).size:=hlt;have hk:((⟨#[92,91,93,40,41,124,42,43,63,46]⟩:ByteArray)[i]'hsz).toNat=spK i:=v1x ⟨i,hlt⟩;have j2:Q01 (spK i:Nat)=false:=v0u ⟨i,hlt⟩;have j0:=hid j2;clear j2;by_cases q:c=spK i
  ·have HQ:=hid q;have k1:((c:Int)==(spK i:Int))=true:=by simp[q]
   clear q j1;generalize spK i=sp at *;go_wp2;all_goals first
    |(go_ret;exact⟨by rw[HQ.out,j0.out];rfl,rfl⟩)
    |trace_state
  have j4:Hid (∀j:Nat,j<i+1->c≠spK j):=fun j hj=>by
   by_cases e:j=i
   ·subst e;exact q
   exact j1.out j (by omega)
  have k1:((c:Int)==(spK i:Int))=false:=by simp;omega
  have k2:¬(c:Int)=(spK i:Int):=by omega
  clear q j1 j0;generalize hsp:spK i=sp at *;clear hsp;go_wp2;go_roundw
  case rel=>exact⟨i+1,by go_num,by omega,j4.out,by first|rfl|trivial⟩
  simp[intOf];omega
 have j3:¬(i:Int)<10:=by omega
 have HA:Hid (Q01 (c:Int)=(decide (32<=c)&&decide (c<=126))):=v0t (fun j hj=>j1.out j (by omega));clear j1;go_wp2;all_goals
  go_ret;refine⟨?_,rfl⟩;rw[HA.out];simp_all
  all_goals first
   |(intros;omega)
   |(rw[qAs];simp;omega)
theorem x01(p:ByteArray)(i:Nat)(w:World)(hp:p.size<=90000)(hi:i<p.size) :
  Calls Tryz.prog 129 #[.string p,.int .i64 i] w fun e w'=>e=.returned (.int .i64 (okI (rBr p (i+1)).2.2 (rBr p (i+1)).2.1))/\w'=w:=by
 have ZE:=hid (fun(x:Nat) (hx:x<=100000) (w:World)=>y5r p x w (by omega) hx);obtain⟨i0,hi0,hV,hcase⟩:∃i0:Nat,i0<=p.size+1/\okI (rBr p (i+1)).2.2 (rBr p (i+1)).2.1=okI (Q29 p i0).2.2 (Q29 p i0).2.1/\((i0=i+2/\∃h:i+1<p.size,p[i+1].toNat=94)∨(i0=i+1/\∀h:i+1<p.size,p[i+1].toNat≠94)):=by
  by_cases h1:i+1<p.size
  ·have hb:atB p ((i:Int)+1)=p[i+1].toNat:=by
    have:atB p ((i+1:Nat):Int)=p[i+1].toNat:=by unfold atB;rw[qEi ⟨by omega,by simpa using h1⟩];simp
    rw[← this];rfl
   by_cases h2:p[i+1].toNat=94
   ·refine⟨i+2,by omega,?_,.inl ⟨rfl,h1,h2⟩⟩;unfold rBr;rw[hb,h2,qAb (by decide)];rw[show(i:Int)+1+1=((i+2:Nat):Int) by omega]
   refine⟨i+1,by omega,?_,.inr ⟨rfl,fun _=>h2⟩⟩;unfold rBr;rw[hb,qAa (by omega),show(i:Int)+1=((i+1:Nat):Int) by omega]
  refine⟨i+1,by omega,?_,.inr ⟨rfl,fun h=>absurd h h1⟩⟩;have hb:atB p ((i:Int)+1)=-1:=by unfold atB;rw[qEp (by omega)]
  unfold rBr;rw[hb,qAa (by decide),show(i:Int)+1=((i+1:Nat):Int) by omega]
 rw[hV];unfold Q29;generalize hVV:okI (Q05 p i0 (p.size+5) i0 zero4).2.2 (Q05 p i0 (p.size+5) i0 zero4).2.1=V;have HV:=hid hVV;clear hVV hV;rcases hcase with⟨e0,h1,h94⟩|⟨e0,h94⟩
 ·have jf:((p[i+1].toNat:Int)==94)=true:=by simp[h94]
  have jb:(i:Int)+1<(p.size:Int):=by omega
  have jd:((i:Int)+1).toNat=i+1:=by omega
  go_enter Tryz.func129,Tryz.ntmps129
  go_wp2;go_loopw [1,5,6,7,8] (fun x1 x5 _ _ _ wr=>∃(x n F:Nat) (ws:List Int),x1=.int .i64 x/\x5=.int .i64 n/\i0<=x/\x<=p.size+1/\n<=x/\(n=0↔x=i0)/\p.size+5<=F+x/\okI (Q05 p i0 F x ws).2.2 (Q05 p i0 F x ws).2.1=V/\wr=w)
    (fun x _ _ _ _ _=>200000-(intOf x).toNat)
  case atStart=>exact⟨i0,0,p.size+5,zero4,by rw[e0];go_num,rfl,by omega,by omega,by omega,by omega,by omega,HV.out,rfl⟩
  clear HV;obtain⟨x,n,F,ws,rfl,rfl,hx0,hx1,hnx,hn0,hF,hrec,rfl⟩:=hrel;obtain⟨F,rfl⟩:∃F',F=F'+1:=⟨F-1,by omega⟩;rw[z3e]at hrec;have ZX:=hid (ZE.out x (by omega));by_cases hn:n=0
  ·have HC:(x:Int)=i0∨atB p (x:Nat)≠93:=.inl (by have:=hn0.1 hn;omega);have kn:((n:Int)==0)=true:=by simp[hn]
   have j9:(n:Int)=0:=by omega
   have j2:(x:Int)=i0∨atB p (x:Nat)≠93:=HC;rw[qAb j2]at hrec;have j0:=z1j p (x:Nat) (by omega);generalize Q0m p (x:Nat)=r at ZX hrec j0;obtain⟨lo,hi',nx,ok⟩:=r;dsimp only at ZX hrec j0;cases ok
   ·rw[qAb rfl]at hrec;have j1:Hid (V=-1):=hrec.symm;clear hrec j0 j2;go_wp2_with (first
     |(go_at_call 133;refine csm (ZX.out _) ?_))
    all_goals first
     |(go_ret;exact⟨by rw[j1.out];rfl,rfl⟩)
     |(exfalso;simp_all[okI];done)
   rw[qAa (by simp)]at hrec;have j7:=j0.2.2.2.2.2.2 rfl;obtain⟨j,rfl⟩:∃j:Nat,nx=j:=⟨nx.toNat,by omega⟩;have e1:okI true (j:Int)=j:=rfl;rw[e1]at ZX;have k0:¬(j:Int)<0:=by omega
   have j3:=hid hrec;clear hrec j0 j2;go_wp2_with (first
    |(go_at_call 133;refine csm (ZX.out _) ?_))
   go_roundw
   case rel=>exact⟨j,n+1,F,Q19 ws lo hi',rfl,by go_num,by omega,by omega,by omega,by omega,by omega,j3.out,by first|rfl|trivial⟩
   simp[intOf];omega
  have kn:((n:Int)==0)=false:=by simp;omega
  have j9:¬(n:Int)=0:=by omega
  have jc:¬x=i0:=fun e=>hn (hn0.2 e);by_cases hxs:x<p.size
  ·have hb:atB p (x:Nat)=p[x].toNat:=by unfold atB;rw[qEi ⟨by omega,by simpa using hxs⟩];simp
   have ja:p[x].toNat<256:=p[x].toNat_lt;have j4:(x:Int)<(p.size:Int):=by omega
   by_cases h93:p[x].toNat=93
   ·have j8:((p[x].toNat:Int) != 93)=false:=by simp[h93]
    rw[qAa (by rw[hb,h93];intro q;rcases q with q|q;omega;exact q rfl)]at hrec;have j1:Hid (V=(x:Int)+1):=hrec.symm;have j5:¬(p.size:Int)<=(x:Int):=by omega
    clear hrec hb;go_wp2;all_goals first
     |(go_ret;exact⟨by rw[j1.out];rfl,rfl⟩)
     |(exfalso;simp_all;done)
   have j8:((p[x].toNat:Int) != 93)=true:=by simp;omega
   have HC:(x:Int)=i0∨atB p (x:Nat)≠93:=.inr (by rw[hb];omega);clear hb;have j2:(x:Int)=i0∨atB p (x:Nat)≠93:=HC;rw[qAb j2]at hrec;have j0:=z1j p (x:Nat) (by omega);generalize Q0m p (x:Nat)=r at ZX hrec j0;obtain⟨lo,hi',nx,ok⟩:=r;dsimp only at ZX hrec j0;cases ok
   ·rw[qAb rfl]at hrec;have j1:Hid (V=-1):=hrec.symm;clear hrec j0 j2;go_wp2_with (first
     |(go_at_call 133;refine csm (ZX.out _) ?_))
    all_goals first
     |(go_ret;exact⟨by rw[j1.out];rfl,rfl⟩)
     |(exfalso;simp_all[okI];done)
   rw[qAa (by simp)]at hrec;have j7:=j0.2.2.2.2.2.2 rfl;obtain⟨j,rfl⟩:∃j:Nat,nx=j:=⟨nx.toNat,by omega⟩;have e1:okI true (j:Int)=j:=rfl;rw[e1]at ZX;have k0:¬(j:Int)<0:=by omega
   have j3:=hid hrec;clear hrec j0 j2;go_wp2_with (first
    |(go_at_call 133;refine csm (ZX.out _) ?_))
   go_roundw
   case rel=>exact⟨j,n+1,F,Q19 ws lo hi',rfl,by go_num,by omega,by omega,by omega,by omega,by omega,j3.out,by first|rfl|trivial⟩
   simp[intOf];omega
  have j4:¬(x:Int)<(p.size:Int):=by omega
  have j5:(p.size:Int)<=(x:Int):=by omega
  have hb:atB p (x:Nat)=-1:=by unfold atB;rw[qEp (by omega)]
  have j6:(Q0m p (x:Nat)).2.2.2=false:=by
   have:(Q1p p (x:Nat)).2.2=false:=by unfold Q1p;rw[hb,qAa (by decide),qAa (by decide),qAb (by decide)]
   unfold Q0m;rw[qAb this]
  rw[qAb (.inr (by rw[hb];decide)),qAb j6]at hrec;have j1:Hid (V=-1):=hrec.symm;clear hrec hb j6;go_wp2;all_goals first
   |(go_ret;exact⟨by rw[j1.out];rfl,rfl⟩)
   |(exfalso;simp_all;done)
 by_cases h1:i+1<p.size
 ·have je:=h94 h1;have ja:p[i+1].toNat<256:=p[i+1].toNat_lt;have jf:((p[i+1].toNat:Int)==94)=false:=by simp;omega
  have jb:(i:Int)+1<(p.size:Int):=by omega
  have jd:((i:Int)+1).toNat=i+1:=by omega
  clear h94;go_enter Tryz.func129,Tryz.ntmps129
  go_wp2;go_loopw [1,5,6,7,8] (fun x1 x5 _ _ _ wr=>∃(x n F:Nat) (ws:List Int),x1=.int .i64 x/\x5=.int .i64 n/\i0<=x/\x<=p.size+1/\n<=x/\(n=0↔x=i0)/\p.size+5<=F+x/\okI (Q05 p i0 F x ws).2.2 (Q05 p i0 F x ws).2.1=V/\wr=w)
    (fun x _ _ _ _ _=>200000-(intOf x).toNat)
  case atStart=>exact⟨i0,0,p.size+5,zero4,by rw[e0];go_num,rfl,by omega,by omega,by omega,by omega,by omega,HV.out,rfl⟩
  clear HV;obtain⟨x,n,F,ws,rfl,rfl,hx0,hx1,hnx,hn0,hF,hrec,rfl⟩:=hrel;obtain⟨F,rfl⟩:∃F',F=F'+1:=⟨F-1,by omega⟩;rw[z3e]at hrec;have ZX:=hid (ZE.out x (by omega));by_cases hn:n=0
  ·have HC:(x:Int)=i0∨atB p (x:Nat)≠93:=.inl (by have:=hn0.1 hn;omega);have kn:((n:Int)==0)=true:=by simp[hn]
   have j9:(n:Int)=0:=by omega
   have j2:(x:Int)=i0∨atB p (x:Nat)≠93:=HC;rw[qAb j2]at hrec;have j0:=z1j p (x:Nat) (by omega);generalize Q0m p (x:Nat)=r at ZX hrec j0;obtain⟨lo,hi',nx,ok⟩:=r;dsimp only at ZX hrec j0;cases ok
   ·rw[qAb rfl]at hrec;have j1:Hid (V=-1):=hrec.symm;clear hrec j0 j2;go_wp2_with (first
     |(go_at_call 133;refine csm (ZX.out _) ?_))
    all_goals first
     |(go_ret;exact⟨by rw[j1.out];rfl,rfl⟩)
     |(exfalso;simp_all[okI];done)
   rw[qAa (by simp)]at hrec;have j7:=j0.2.2.2.2.2.2 rfl;obtain⟨j,rfl⟩:∃j:Nat,nx=j:=⟨nx.toNat,by omega⟩;have e1:okI true (j:Int)=j:=rfl;rw[e1]at ZX;have k0:¬(j:Int)<0:=by omega
   have j3:=hid hrec;clear hrec j0 j2;go_wp2_with (first
    |(go_at_call 133;refine csm (ZX.out _) ?_))
   go_roundw
   case rel=>exact⟨j,n+1,F,Q19 ws lo hi',rfl,by go_num,by omega,by omega,by omega,by omega,by omega,j3.out,by first|rfl|trivial⟩
   simp[intOf];omega
  have kn:((n:Int)==0)=false:=by simp;omega
  have j9:¬(n:Int)=0:=by omega
  have jc:¬x=i0:=fun e=>hn (hn0.2 e);by_cases hxs:x<p.size
  ·have hb:atB p (x:Nat)=p[x].toNat:=by unfold atB;rw[qEi ⟨by omega,by simpa using hxs⟩];simp
   have ja:p[x].toNat<256:=p[x].toNat_lt;have j4:(x:Int)<(p.size:Int):=by omega
   by_cases h93:p[x].toNat=93
   ·have j8:((p[x].toNat:Int) != 93)=false:=by simp[h93]
    rw[qAa (by rw[hb,h93];intro q;rcases q with q|q;omega;exact q rfl)]at hrec;have j1:Hid (V=(x:Int)+1):=hrec.symm;have j5:¬(p.size:Int)<=(x:Int):=by omega
    clear hrec hb;go_wp2;all_goals first
     |(go_ret;exact⟨by rw[j1.out];rfl,rfl⟩)
     |(exfalso;simp_all;done)
   have j8:((p[x].toNat:Int) != 93)=true:=by simp;omega
   have HC:(x:Int)=i0∨atB p (x:Nat)≠93:=.inr (by rw[hb];omega);clear hb;have j2:(x:Int)=i0∨atB p (x:Nat)≠93:=HC;rw[qAb j2]at hrec;have j0:=z1j p (x:Nat) (by omega);generalize Q0m p (x:Nat)=r at ZX hrec j0;obtain⟨lo,hi',nx,ok⟩:=r;dsimp only at ZX hrec j0;cases ok
   ·rw[qAb rfl]at hrec;have j1:Hid (V=-1):=hrec.symm;clear hrec j0 j2;go_wp2_with (first
     |(go_at_call 133;refine csm (ZX.out _) ?_))
    all_goals first
     |(go_ret;exact⟨by rw[j1.out];rfl,rfl⟩)
     |(exfalso;simp_all[okI];done)
   rw[qAa (by simp)]at hrec;have j7:=j0.2.2.2.2.2.2 rfl;obtain⟨j,rfl⟩:∃j:Nat,nx=j:=⟨nx.toNat,by omega⟩;have e1:okI true (j:Int)=j:=rfl;rw[e1]at ZX;have k0:¬(j:Int)<0:=by omega
   have j3:=hid hrec;clear hrec j0 j2;go_wp2_with (first
    |(go_at_call 133;refine csm (ZX.out _) ?_))
   go_roundw
   case rel=>exact⟨j,n+1,F,Q19 ws lo hi',rfl,by go_num,by omega,by omega,by omega,by omega,by omega,j3.out,by first|rfl|trivial⟩
   simp[intOf];omega
  have j4:¬(x:Int)<(p.size:Int):=by omega
  have j5:(p.size:Int)<=(x:Int):=by omega
  have hb:atB p (x:Nat)=-1:=by unfold atB;rw[qEp (by omega)]
  have j6:(Q0m p (x:Nat)).2.2.2=false:=by
   have:(Q1p p (x:Nat)).2.2=false:=by unfold Q1p;rw[hb,qAa (by decide),qAa (by decide),qAb (by decide)]
   unfold Q0m;rw[qAb this]
  rw[qAb (.inr (by rw[hb];decide)),qAb j6]at hrec;have j1:Hid (V=-1):=hrec.symm;clear hrec hb j6;go_wp2;all_goals first
   |(go_ret;exact⟨by rw[j1.out];rfl,rfl⟩)
   |(exfalso;simp_all;done)
 have jb:¬(i:Int)+1<(p.size:Int):=by omega
 clear h94;go_enter Tryz.func129,Tryz.ntmps129
 go_wp2;go_loopw [1,5,6,7,8] (fun x1 x5 _ _ _ wr=>∃(x n F:Nat) (ws:List Int),x1=.int .i64 x/\x5=.int .i64 n/\i0<=x/\x<=p.size+1/\n<=x/\(n=0↔x=i0)/\p.size+5<=F+x/\okI (Q05 p i0 F x ws).2.2 (Q05 p i0 F x ws).2.1=V/\wr=w)
   (fun x _ _ _ _ _=>200000-(intOf x).toNat)
 case atStart=>exact⟨i0,0,p.size+5,zero4,by rw[e0];go_num,rfl,by omega,by omega,by omega,by omega,by omega,HV.out,rfl⟩
 clear HV;obtain⟨x,n,F,ws,rfl,rfl,hx0,hx1,hnx,hn0,hF,hrec,rfl⟩:=hrel;obtain⟨F,rfl⟩:∃F',F=F'+1:=⟨F-1,by omega⟩;rw[z3e]at hrec;have ZX:=hid (ZE.out x (by omega));by_cases hn:n=0
 ·have HC:(x:Int)=i0∨atB p (x:Nat)≠93:=.inl (by have:=hn0.1 hn;omega);have kn:((n:Int)==0)=true:=by simp[hn]
  have j9:(n:Int)=0:=by omega
  have j2:(x:Int)=i0∨atB p (x:Nat)≠93:=HC;rw[qAb j2]at hrec;have j0:=z1j p (x:Nat) (by omega);generalize Q0m p (x:Nat)=r at ZX hrec j0;obtain⟨lo,hi',nx,ok⟩:=r;dsimp only at ZX hrec j0;cases ok
  ·rw[qAb rfl]at hrec;have j1:Hid (V=-1):=hrec.symm;clear hrec j0 j2;go_wp2_with (first
    |(go_at_call 133;refine csm (ZX.out _) ?_))
   all_goals first
    |(go_ret;exact⟨by rw[j1.out];rfl,rfl⟩)
    |(exfalso;simp_all[okI];done)
  rw[qAa (by simp)]at hrec;have j7:=j0.2.2.2.2.2.2 rfl;exfalso;omega
 have kn:((n:Int)==0)=false:=by simp;omega
 have j9:¬(n:Int)=0:=by omega
 have jc:¬x=i0:=fun e=>hn (hn0.2 e);by_cases hxs:x<p.size
 ·have hb:atB p (x:Nat)=p[x].toNat:=by unfold atB;rw[qEi ⟨by omega,by simpa using hxs⟩];simp
  have ja:p[x].toNat<256:=p[x].toNat_lt;have j4:(x:Int)<(p.size:Int):=by omega
  by_cases h93:p[x].toNat=93
  ·have j8:((p[x].toNat:Int) != 93)=false:=by simp[h93]
   rw[qAa (by rw[hb,h93];intro q;rcases q with q|q;omega;exact q rfl)]at hrec;have j1:Hid (V=(x:Int)+1):=hrec.symm;have j5:¬(p.size:Int)<=(x:Int):=by omega
   clear hrec hb;go_wp2;all_goals first
    |(go_ret;exact⟨by rw[j1.out];rfl,rfl⟩)
    |(exfalso;simp_all;done)
  have j8:((p[x].toNat:Int) != 93)=true:=by simp;omega
  have HC:(x:Int)=i0∨atB p (x:Nat)≠93:=.inr (by rw[hb];omega);clear hb;have j2:(x:Int)=i0∨atB p (x:Nat)≠93:=HC;rw[qAb j2]at hrec;have j0:=z1j p (x:Nat) (by omega);generalize Q0m p (x:Nat)=r at ZX hrec j0;obtain⟨lo,hi',nx,ok⟩:=r;dsimp only at ZX hrec j0;cases ok
  ·rw[qAb rfl]at hrec;have j1:Hid (V=-1):=hrec.symm;clear hrec j0 j2;go_wp2_with (first
    |(go_at_call 133;refine csm (ZX.out _) ?_))
   all_goals first
    |(go_ret;exact⟨by rw[j1.out];rfl,rfl⟩)
    |(exfalso;simp_all[okI];done)
  rw[qAa (by simp)]at hrec;have j7:=j0.2.2.2.2.2.2 rfl;exfalso;omega
 have j4:¬(x:Int)<(p.size:Int):=by omega
 have j5:(p.size:Int)<=(x:Int):=by omega
 have hb:atB p (x:Nat)=-1:=by unfold atB;rw[qEp (by omega)]
 have j6:(Q0m p (x:Nat)).2.2.2=false:=by
  have:(Q1p p (x:Nat)).2.2=false:=by unfold Q1p;rw[hb,qAa (by decide),qAa (by decide),qAb (by decide)]
  unfold Q0m;rw[qAb this]
 rw[qAb (.inr (by rw[hb];decide)),qAb j6]at hrec;have j1:Hid (V=-1):=hrec.symm;clear hrec hb j6;go_wp2;all_goals first
  |(go_ret;exact⟨by rw[j1.out];rfl,rfl⟩)
  |(exfalso;simp_all;done)
end Go.Proofs.YtcpceafmlgaodaaGreat
