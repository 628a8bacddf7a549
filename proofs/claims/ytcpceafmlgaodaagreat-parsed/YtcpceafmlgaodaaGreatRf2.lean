import Derived.Test.YtcpceafmlgaodaaGreatRf1
namespace Go.Proofs.YtcpceafmlgaodaaGreat
open Go.RowKit
set_option maxRecDepth 99999
set_option maxHeartbeats 0
set_option linter.all false
theorem y5r(p:ByteArray)(i:Nat)(w:World)(hp:p.size<=100000)(hi:i<=100000) :
  Calls Tryz.prog 133 #[.string p,.int .i64 i] w fun e w'=>e=.returned (.tuple #[.int .i64 (okI (Q0m p i).2.2.2 (Q0m p i).2.2.1),.int .i64 (okV (Q0m p i).2.2.2 (Q0m p i).1),.int .i64 (okV (Q0m p i).2.2.2 (Q0m p i).2.1)])/\w'=w:=by
 have Z0:=hid (fun w=>y9d p i w hp (by omega));obtain⟨b1,b2,b3,b4,b5⟩:=z4r p i (by omega);have HR:Hid (Q0m p i=if(Q1p p i).2.2=false then(0,0,(Q1p p i).2.1,false)
 else if atB p (Q1p p i).2.1≠45 then((Q1p p i).1,(Q1p p i).1,(Q1p p i).2.1,true)
 else if(Q1p p ((Q1p p i).2.1+1)).2.2=false then(0,0,(Q1p p ((Q1p p i).2.1+1)).2.1,false)
 else if(Q1p p ((Q1p p i).2.1+1)).1<(Q1p p i).1 then(0,0,(Q1p p ((Q1p p i).2.1+1)).2.1-1,false)
 else((Q1p p i).1,(Q1p p ((Q1p p i).2.1+1)).1,(Q1p p ((Q1p p i).2.1+1)).2.1,true)):=rfl
 rw[HR.out];clear HR;generalize Q1p p i=r at Z0 b1 b2 b3 b4 b5 ⊢;obtain⟨v,n,ok⟩:=r;dsimp only at Z0 b1 b2 b3 b4 b5 ⊢;cases ok
 ·rw[qAb rfl];clear b5;go_enter Tryz.func133,Tryz.ntmps133
  go_wp2_with (first
   |(go_at_call 140;refine csm (Z0.out _) ?_))
  all_goals first
   |(go_ret3;exact⟨rfl,rfl⟩)
   |(exfalso;simp_all[okI];done)
 rw[qAa (by simp)];have hn:=b5 rfl;clear b5;obtain⟨j,rfl⟩:∃j:Nat,n=j:=⟨n.toNat,by omega⟩;have e1:okV true v=v:=rfl;have e2:okI true (j:Int)=j:=rfl;rw[e1,e2]at Z0;have k0:¬(j:Int)<0:=by omega
 by_cases h1:j<p.size
 ·have hb:atB p (j:Nat)=p[j].toNat:=by unfold atB;rw[qEi ⟨by omega,by simpa using h1⟩];simp
  have j4:p[j].toNat<256:=p[j].toNat_lt;have j1:¬(p.size:Int)<=(j:Int):=by omega
  have j3:(j:Int)<(p.size:Int):=by omega
  rw[hb];by_cases h2:p[j].toNat=45
  ·have j2:((p[j].toNat:Int) != 45)=false:=by simp[h2]
   rw[qAa (by rw[h2];simp)];have Z1:=hid (fun w=>y9d p (j+1) w hp (by omega));have ej:(((j+1:Nat)):Int)=(j:Int)+1:=by omega
   rw[ej]at Z1;obtain⟨c1,c2,c3,c4,c5⟩:=z4r p ((j:Int)+1) (by omega);generalize Q1p p ((j:Int)+1)=r2 at Z1 c1 c2 c3 c4 c5 ⊢;obtain⟨v2,n2,ok2⟩:=r2;dsimp only at Z1 c1 c2 c3 c4 c5 ⊢;cases ok2
   ·rw[qAb rfl];have e3:okV false v2=0:=rfl;have e4:okI false n2=-1:=rfl;rw[e3,e4]at Z1;clear c5 hb;go_enter Tryz.func133,Tryz.ntmps133
    go_wp2_with (first
     |(go_at_call 140;have j0:=HS.out;refine csm (Z1.out _) ?_)
     |(go_at_call 140;refine csm (Z0.out _) ?_;have HS:Hid True:=hid trivial))
    all_goals first
     |(go_ret3;exact⟨rfl,rfl⟩)
     |(exfalso;simp_all;done)
   rw[qAa (by simp)];have j5:=c5 rfl;obtain⟨k,rfl⟩:∃k:Nat,n2=k:=⟨n2.toNat,by omega⟩;have e3:okV true v2=v2:=rfl;have e4:okI true (k:Int)=k:=rfl;rw[e3,e4]at Z1;have k1:¬(k:Int)<0:=by omega
   clear c5 hb;by_cases h3:v2<v
   ·rw[qAb h3];go_enter Tryz.func133,Tryz.ntmps133
    go_wp2_with (first
     |(go_at_call 140;have j0:=HS.out;refine csm (Z1.out _) ?_)
     |(go_at_call 140;refine csm (Z0.out _) ?_;have HS:Hid True:=hid trivial))
    all_goals first
     |(go_ret3;exact⟨rfl,rfl⟩)
     |(exfalso;simp_all;done)
   rw[qAa h3];go_enter Tryz.func133,Tryz.ntmps133
   go_wp2_with (first
    |(go_at_call 140;have j0:=HS.out;refine csm (Z1.out _) ?_)
    |(go_at_call 140;refine csm (Z0.out _) ?_;have HS:Hid True:=hid trivial))
   all_goals first
    |(go_ret3;exact⟨rfl,rfl⟩)
    |(exfalso;simp_all;done)
  have j2:((p[j].toNat:Int) != 45)=true:=by simp;omega
  rw[qAb (by omega)];clear hb;go_enter Tryz.func133,Tryz.ntmps133
  go_wp2_with (first
   |(go_at_call 140;refine csm (Z0.out _) ?_))
  all_goals first
   |(go_ret3;exact⟨rfl,rfl⟩)
   |(exfalso;simp_all;done)
 have hb:atB p (j:Nat)=-1:=by unfold atB;rw[qEp (by omega)]
 have j1:(p.size:Int)<=(j:Int):=by omega
 rw[hb,qAb (by decide)];clear hb;go_enter Tryz.func133,Tryz.ntmps133
 go_wp2_with (first
  |(go_at_call 140;refine csm (Z0.out _) ?_))
 all_goals first
  |(go_ret3;exact⟨rfl,rfl⟩)
  |(exfalso;simp_all;done)
def specB:ByteArray:=⟨#[92,91,93,40,41,124,42,43,63,46]⟩
def spK(j:Nat):Nat:=([92,91,93,40,41,124,42,43,63,46]:List Nat).getD j 0
theorem v0u:∀j:Fin 10,Q01 (spK j:Nat)=false:=by decide
theorem v1x:∀j:Fin 10,(specB[j.val]'(by have:=j.isLt;show j.val<10;omega)).toNat=spK j:=by decide
theorem v0t{c:Nat}(h:∀j,j<10->c≠spK j):Q01 (c:Int)=(decide (32<=c)&&decide (c<=126)):=by
 have h0:=h 0 (by omega);have h1:=h 1 (by omega);have h2:=h 2 (by omega);have h3:=h 3 (by omega);have h4:=h 4 (by omega);have h5:=h 5 (by omega);have h6:=h 6 (by omega);have h7:=h 7 (by omega);have h8:=h 8 (by omega);have h9:=h 9 (by omega);simp[spK]at h0 h1 h2 h3 h4 h5 h6 h7 h8 h9;unfold Q01 Q4e;rw[qAs];simp;omega
theorem x07(c:Nat)(w:World)(hc:c<=255):Calls Tryz.prog 127 #[.int .u8 c] w fun e w'=>e=.returned (.bool (Q01 c))/\w'=w:=by
 go_enter Tryz.func127,Tryz.ntmps127
 go_wp2;go_loopw [4] (fun x4 wr=>∃(i:Nat),x4=.int .i64 i/\i<=10/\(∀j:Nat,j<i->c≠spK j)/\wr=w)
   (fun x _=>20-(intOf x).toNat)
 case atStart=>exact⟨0,rfl,by omega,fun j hj=>by omega,rfl⟩
 obtain⟨i,rfl,hi,hne,rfl⟩:=hrel;have j1:=hid hne;clear hne;by_cases hlt:i<10
 ·have j3:(i:Int)<10:=by omega
  have hsz:i<(⟨#[92,91,93,40,41,124,42,43,63,46]⟩:ByteArray).size:=hlt;have hk:((⟨#[92,91,93,40,41,124,42,43,63,46]⟩:ByteArray)[i]'hsz).toNat=spK i:=v1x ⟨i,hlt⟩;have j2:Q01 (spK i:Nat)=false:=v0u ⟨i,hlt⟩;have j0:=hid j2;clear j2;by_cases q:c=spK i
  ·have HQ:=hid q;have k1:((c:Int)==(spK i:Int))=true:=by simp[q]
   clear q j1;generalize spK i=sp at *;go_wp2;all_goals first
    |(go_ret;exact⟨by rw[HQ.out,j0.out];rfl,rfl⟩)
    |trace_state
  have j4:Hid (∀j:Nat,j<i+1->c≠spK j):=fun j hj=>by
   by_cases e:j=i
   ·subst e;exact q
   exact j1.out j (by omega)
  have k1:((c:Int)==(spK i:Int))=false:=by simp;omega
  have k2:¬(c:Int)=(spK i:Int):=by omega
  clear q j1 j0;generalize hsp:spK i=sp at *;clear hsp;go_wp2;go_roundw
  case rel=>exact⟨i+1,by go_num,by omega,j4.out,by first|rfl|trivial⟩
  simp[intOf];omega
 have j3:¬(i:Int)<10:=by omega
 have HA:Hid (Q01 (c:Int)=(decide (32<=c)&&decide (c<=126))):=v0t (fun j hj=>j1.out j (by omega));clear j1;go_wp2;all_goals
  go_ret;refine⟨?_,rfl⟩;rw[HA.out];simp_all
  all_goals first
   |(intros;omega)
   |(rw[qAs];simp;omega)
theorem x01(p:ByteArray)(i:Nat)(w:World)(hp:p.size<=90000)(hi:i<p.size) :
  Calls Tryz.prog 129 #[.string p,.int .i64 i] w fun e w'=>e=.returned (.int .i64 (okI (rBr p (i+1)).2.2 (rBr p (i+1)).2.1))/\w'=w:=by
 have ZE:=hid (fun(x:Nat) (hx:x<=100000) (w:World)=>y5r p x w (by omega) hx);obtain⟨i0,hi0,hV,hcase⟩:∃i0:Nat,i0<=p.size+1/\okI (rBr p (i+1)).2.2 (rBr p (i+1)).2.1=okI (Q29 p i0).2.2 (Q29 p i0).2.1/\((i0=i+2/\∃h:i+1<p.size,p[i+1].toNat=94)∨(i0=i+1/\∀h:i+1<p.size,p[i+1].toNat≠94)):=by
  by_cases h1:i+1<p.size
  ·have hb:atB p ((i:Int)+1)=p[i+1].toNat:=by
    have:atB p ((i+1:Nat):Int)=p[i+1].toNat:=by unfold atB;rw[qEi ⟨by omega,by simpa using h1⟩];simp
    rw[← this];rfl
   by_cases h2:p[i+1].toNat=94
   ·refine⟨i+2,by omega,?_,.inl ⟨rfl,h1,h2⟩⟩;unfold rBr;rw[hb,h2,qAb (by decide)];rw[show(i:Int)+1+1=((i+2:Nat):Int) by omega]
   refine⟨i+1,by omega,?_,.inr ⟨rfl,fun _=>h2⟩⟩;unfold rBr;rw[hb,qAa (by omega),show(i:Int)+1=((i+1:Nat):Int) by omega]
  refine⟨i+1,by omega,?_,.inr ⟨rfl,fun h=>absurd h h1⟩⟩;have hb:atB p ((i:Int)+1)=-1:=by unfold atB;rw[qEp (by omega)]
  unfold rBr;rw[hb,qAa (by decide),show(i:Int)+1=((i+1:Nat):Int) by omega]
 rw[hV];unfold Q29;generalize hVV:okI (Q05 p i0 (p.size+5) i0 zero4).2.2 (Q05 p i0 (p.size+5) i0 zero4).2.1=V;have HV:=hid hVV;clear hVV hV;rcases hcase with⟨e0,h1,h94⟩|⟨e0,h94⟩
 ·have jf:((p[i+1].toNat:Int)==94)=true:=by simp[h94]
  have jb:(i:Int)+1<(p.size:Int):=by omega
  have jd:((i:Int)+1).toNat=i+1:=by omega
  go_enter Tryz.func129,Tryz.ntmps129
  go_wp2;go_loopw [1,5,6,7,8] (fun x1 x5 _ _ _ wr=>∃(x n F:Nat) (ws:List Int),x1=.int .i64 x/\x5=.int .i64 n/\i0<=x/\x<=p.size+1/\n<=x/\(n=0↔x=i0)/\p.size+5<=F+x/\okI (Q05 p i0 F x ws).2.2 (Q05 p i0 F x ws).2.1=V/\wr=w)
    (fun x _ _ _ _ _=>200000-(intOf x).toNat)
  case atStart=>exact⟨i0,0,p.size+5,zero4,by rw[e0];go_num,rfl,by omega,by omega,by omega,by omega,by omega,HV.out,rfl⟩
  clear HV;obtain⟨x,n,F,ws,rfl,rfl,hx0,hx1,hnx,hn0,hF,hrec,rfl⟩:=hrel;obtain⟨F,rfl⟩:∃F',F=F'+1:=⟨F-1,by omega⟩;rw[z3e]at hrec;have ZX:=hid (ZE.out x (by omega));by_cases hn:n=0
  ·have HC:(x:Int)=i0∨atB p (x:Nat)≠93:=.inl (by have:=hn0.1 hn;omega);have kn:((n:Int)==0)=true:=by simp[hn]
   have j9:(n:Int)=0:=by omega
   have j2:(x:Int)=i0∨atB p (x:Nat)≠93:=HC;rw[qAb j2]at hrec;have j0:=z1j p (x:Nat) (by omega);generalize Q0m p (x:Nat)=r at ZX hrec j0;obtain⟨lo,hi',nx,ok⟩:=r;dsimp only at ZX hrec j0;cases ok
   ·rw[qAb rfl]at hrec;have j1:Hid (V=-1):=hrec.symm;clear hrec j0 j2;go_wp2_with (first
     |(go_at_call 133;refine csm (ZX.out _) ?_))
    all_goals first
     |(go_ret;exact⟨by rw[j1.out];rfl,rfl⟩)
     |(exfalso;simp_all[okI];done)
   rw[qAa (by simp)]at hrec;have j7:=j0.2.2.2.2.2.2 rfl;obtain⟨j,rfl⟩:∃j:Nat,nx=j:=⟨nx.toNat,by omega⟩;have e1:okI true (j:Int)=j:=rfl;rw[e1]at ZX;have k0:¬(j:Int)<0:=by omega
   have j3:=hid hrec;clear hrec j0 j2;go_wp2_with (first
    |(go_at_call 133;refine csm (ZX.out _) ?_))
   go_roundw
   case rel=>exact⟨j,n+1,F,Q19 ws lo hi',rfl,by go_num,by omega,by omega,by omega,by omega,by omega,j3.out,by first|rfl|trivial⟩
   simp[intOf];omega
  have kn:((n:Int)==0)=false:=by simp;omega
  have j9:¬(n:Int)=0:=by omega
  have jc:¬x=i0:=fun e=>hn (hn0.2 e);by_cases hxs:x<p.size
  ·have hb:atB p (x:Nat)=p[x].toNat:=by unfold atB;rw[qEi ⟨by omega,by simpa using hxs⟩];simp
   have ja:p[x].toNat<256:=p[x].toNat_lt;have j4:(x:Int)<(p.size:Int):=by omega
   by_cases h93:p[x].toNat=93
   ·have j8:((p[x].toNat:Int) != 93)=false:=by simp[h93]
    rw[qAa (by rw[hb,h93];intro q;rcases q with q|q;omega;exact q rfl)]at hrec;have j1:Hid (V=(x:Int)+1):=hrec.symm;have j5:¬(p.size:Int)<=(x:Int):=by omega
    clear hrec hb;go_wp2;all_goals first
     |(go_ret;exact⟨by rw[j1.out];rfl,rfl⟩)
     |(exfalso;simp_all;done)
   have j8:((p[x].toNat:Int) != 93)=true:=by simp;omega
   have HC:(x:Int)=i0∨atB p (x:Nat)≠93:=.inr (by rw[hb];omega);clear hb;have j2:(x:Int)=i0∨atB p (x:Nat)≠93:=HC;rw[qAb j2]at hrec;have j0:=z1j p (x:Nat) (by omega);generalize Q0m p (x:Nat)=r at ZX hrec j0;obtain⟨lo,hi',nx,ok⟩:=r;dsimp only at ZX hrec j0;cases ok
   ·rw[qAb rfl]at hrec;have j1:Hid (V=-1):=hrec.symm;clear hrec j0 j2;go_wp2_with (first
     |(go_at_call 133;refine csm (ZX.out _) ?_))
    all_goals first
     |(go_ret;exact⟨by rw[j1.out];rfl,rfl⟩)
     |(exfalso;simp_all[okI];done)
   rw[qAa (by simp)]at hrec;have j7:=j0.2.2.2.2.2.2 rfl;obtain⟨j,rfl⟩:∃j:Nat,nx=j:=⟨nx.toNat,by omega⟩;have e1:okI true (j:Int)=j:=rfl;rw[e1]at ZX;have k0:¬(j:Int)<0:=by omega
   have j3:=hid hrec;clear hrec j0 j2;go_wp2_with (first
    |(go_at_call 133;refine csm (ZX.out _) ?_))
   go_roundw
   case rel=>exact⟨j,n+1,F,Q19 ws lo hi',rfl,by go_num,by omega,by omega,by omega,by omega,by omega,j3.out,by first|rfl|trivial⟩
   simp[intOf];omega
  have j4:¬(x:Int)<(p.size:Int):=by omega
  have j5:(p.size:Int)<=(x:Int):=by omega
  have hb:atB p (x:Nat)=-1:=by unfold atB;rw[qEp (by omega)]
  have j6:(Q0m p (x:Nat)).2.2.2=false:=by
   have:(Q1p p (x:Nat)).2.2=false:=by unfold Q1p;rw[hb,qAa (by decide),qAa (by decide),qAb (by decide)]
   unfold Q0m;rw[qAb this]
  rw[qAb (.inr (by rw[hb];decide)),qAb j6]at hrec;have j1:Hid (V=-1):=hrec.symm;clear hrec hb j6;go_wp2;all_goals first
   |(go_ret;exact⟨by rw[j1.out];rfl,rfl⟩)
   |(exfalso;simp_all;done)
 by_cases h1:i+1<p.size
 ·have je:=h94 h1;have ja:p[i+1].toNat<256:=p[i+1].toNat_lt;have jf:((p[i+1].toNat:Int)==94)=false:=by simp;omega
  have jb:(i:Int)+1<(p.size:Int):=by omega
  have jd:((i:Int)+1).toNat=i+1:=by omega
  clear h94;go_enter Tryz.func129,Tryz.ntmps129
  go_wp2;go_loopw [1,5,6,7,8] (fun x1 x5 _ _ _ wr=>∃(x n F:Nat) (ws:List Int),x1=.int .i64 x/\x5=.int .i64 n/\i0<=x/\x<=p.size+1/\n<=x/\(n=0↔x=i0)/\p.size+5<=F+x/\okI (Q05 p i0 F x ws).2.2 (Q05 p i0 F x ws).2.1=V/\wr=w)
    (fun x _ _ _ _ _=>200000-(intOf x).toNat)
  case atStart=>exact⟨i0,0,p.size+5,zero4,by rw[e0];go_num,rfl,by omega,by omega,by omega,by omega,by omega,HV.out,rfl⟩
  clear HV;obtain⟨x,n,F,ws,rfl,rfl,hx0,hx1,hnx,hn0,hF,hrec,rfl⟩:=hrel;obtain⟨F,rfl⟩:∃F',F=F'+1:=⟨F-1,by omega⟩;rw[z3e]at hrec;have ZX:=hid (ZE.out x (by omega));by_cases hn:n=0
  ·have HC:(x:Int)=i0∨atB p (x:Nat)≠93:=.inl (by have:=hn0.1 hn;omega);have kn:((n:Int)==0)=true:=by simp[hn]
   have j9:(n:Int)=0:=by omega
   have j2:(x:Int)=i0∨atB p (x:Nat)≠93:=HC;rw[qAb j2]at hrec;have j0:=z1j p (x:Nat) (by omega);generalize Q0m p (x:Nat)=r at ZX hrec j0;obtain⟨lo,hi',nx,ok⟩:=r;dsimp only at ZX hrec j0;cases ok
   ·rw[qAb rfl]at hrec;have j1:Hid (V=-1):=hrec.symm;clear hrec j0 j2;go_wp2_with (first
     |(go_at_call 133;refine csm (ZX.out _) ?_))
    all_goals first
     |(go_ret;exact⟨by rw[j1.out];rfl,rfl⟩)
     |(exfalso;simp_all[okI];done)
   rw[qAa (by simp)]at hrec;have j7:=j0.2.2.2.2.2.2 rfl;obtain⟨j,rfl⟩:∃j:Nat,nx=j:=⟨nx.toNat,by omega⟩;have e1:okI true (j:Int)=j:=rfl;rw[e1]at ZX;have k0:¬(j:Int)<0:=by omega
   have j3:=hid hrec;clear hrec j0 j2;go_wp2_with (first
    |(go_at_call 133;refine csm (ZX.out _) ?_))
   go_roundw
   case rel=>exact⟨j,n+1,F,Q19 ws lo hi',rfl,by go_num,by omega,by omega,by omega,by omega,by omega,j3.out,by first|rfl|trivial⟩
   simp[intOf];omega
  have kn:((n:Int)==0)=false:=by simp;omega
  have j9:¬(n:Int)=0:=by omega
  have jc:¬x=i0:=fun e=>hn (hn0.2 e);by_cases hxs:x<p.size
  ·have hb:atB p (x:Nat)=p[x].toNat:=by unfold atB;rw[qEi ⟨by omega,by simpa using hxs⟩];simp
   have ja:p[x].toNat<256:=p[x].toNat_lt;have j4:(x:Int)<(p.size:Int):=by omega
   by_cases h93:p[x].toNat=93
   ·have j8:((p[x].toNat:Int) != 93)=false:=by simp[h93]
    rw[qAa (by rw[hb,h93];intro q;rcases q with q|q;omega;exact q rfl)]at hrec;have j1:Hid (V=(x:Int)+1):=hrec.symm;have j5:¬(p.size:Int)<=(x:Int):=by omega
    clear hrec hb;go_wp2;all_goals first
     |(go_ret;exact⟨by rw[j1.out];rfl,rfl⟩)
     |(exfalso;simp_all;done)
   have j8:((p[x].toNat:Int) != 93)=true:=by simp;omega
   have HC:(x:Int)=i0∨atB p (x:Nat)≠93:=.inr (by rw[hb];omega);clear hb;have j2:(x:Int)=i0∨atB p (x:Nat)≠93:=HC;rw[qAb j2]at hrec;have j0:=z1j p (x:Nat) (by omega);generalize Q0m p (x:Nat)=r at ZX hrec j0;obtain⟨lo,hi',nx,ok⟩:=r;dsimp only at ZX hrec j0;cases ok
   ·rw[qAb rfl]at hrec;have j1:Hid (V=-1):=hrec.symm;clear hrec j0 j2;go_wp2_with (first
     |(go_at_call 133;refine csm (ZX.out _) ?_))
    all_goals first
     |(go_ret;exact⟨by rw[j1.out];rfl,rfl⟩)
     |(exfalso;simp_all[okI];done)
   rw[qAa (by simp)]at hrec;have j7:=j0.2.2.2.2.2.2 rfl;obtain⟨j,rfl⟩:∃j:Nat,nx=j:=⟨nx.toNat,by omega⟩;have e1:okI true (j:Int)=j:=rfl;rw[e1]at ZX;have k0:¬(j:Int)<0:=by omega
   have j3:=hid hrec;clear hrec j0 j2;go_wp2_with (first
    |(go_at_call 133;refine csm (ZX.out _) ?_))
   go_roundw
   case rel=>exact⟨j,n+1,F,Q19 ws lo hi',rfl,by go_num,by omega,by omega,by omega,by omega,by omega,j3.out,by first|rfl|trivial⟩
   simp[intOf];omega
  have j4:¬(x:Int)<(p.size:Int):=by omega
  have j5:(p.size:Int)<=(x:Int):=by omega
  have hb:atB p (x:Nat)=-1:=by unfold atB;rw[qEp (by omega)]
  have j6:(Q0m p (x:Nat)).2.2.2=false:=by
   have:(Q1p p (x:Nat)).2.2=false:=by unfold Q1p;rw[hb,qAa (by decide),qAa (by decide),qAb (by decide)]
   unfold Q0m;rw[qAb this]
  rw[qAb (.inr (by rw[hb];decide)),qAb j6]at hrec;have j1:Hid (V=-1):=hrec.symm;clear hrec hb j6;go_wp2;all_goals first
   |(go_ret;exact⟨by rw[j1.out];rfl,rfl⟩)
   |(exfalso;simp_all;done)
 have jb:¬(i:Int)+1<(p.size:Int):=by omega
 clear h94;go_enter Tryz.func129,Tryz.ntmps129
 go_wp2;go_loopw [1,5,6,7,8] (fun x1 x5 _ _ _ wr=>∃(x n F:Nat) (ws:List Int),x1=.int .i64 x/\x5=.int .i64 n/\i0<=x/\x<=p.size+1/\n<=x/\(n=0↔x=i0)/\p.size+5<=F+x/\okI (Q05 p i0 F x ws).2.2 (Q05 p i0 F x ws).2.1=V/\wr=w)
   (fun x _ _ _ _ _=>200000-(intOf x).toNat)
 case atStart=>exact⟨i0,0,p.size+5,zero4,by rw[e0];go_num,rfl,by omega,by omega,by omega,by omega,by omega,HV.out,rfl⟩
 clear HV;obtain⟨x,n,F,ws,rfl,rfl,hx0,hx1,hnx,hn0,hF,hrec,rfl⟩:=hrel;obtain⟨F,rfl⟩:∃F',F=F'+1:=⟨F-1,by omega⟩;rw[z3e]at hrec;have ZX:=hid (ZE.out x (by omega));by_cases hn:n=0
 ·have HC:(x:Int)=i0∨atB p (x:Nat)≠93:=.inl (by have:=hn0.1 hn;omega);have kn:((n:Int)==0)=true:=by simp[hn]
  have j9:(n:Int)=0:=by omega
  have j2:(x:Int)=i0∨atB p (x:Nat)≠93:=HC;rw[qAb j2]at hrec;have j0:=z1j p (x:Nat) (by omega);generalize Q0m p (x:Nat)=r at ZX hrec j0;obtain⟨lo,hi',nx,ok⟩:=r;dsimp only at ZX hrec j0;cases ok
  ·rw[qAb rfl]at hrec;have j1:Hid (V=-1):=hrec.symm;clear hrec j0 j2;go_wp2_with (first
    |(go_at_call 133;refine csm (ZX.out _) ?_))
   all_goals first
    |(go_ret;exact⟨by rw[j1.out];rfl,rfl⟩)
    |(exfalso;simp_all[okI];done)
  rw[qAa (by simp)]at hrec;have j7:=j0.2.2.2.2.2.2 rfl;exfalso;omega
 have kn:((n:Int)==0)=false:=by simp;omega
 have j9:¬(n:Int)=0:=by omega
 have jc:¬x=i0:=fun e=>hn (hn0.2 e);by_cases hxs:x<p.size
 ·have hb:atB p (x:Nat)=p[x].toNat:=by unfold atB;rw[qEi ⟨by omega,by simpa using hxs⟩];simp
  have ja:p[x].toNat<256:=p[x].toNat_lt;have j4:(x:Int)<(p.size:Int):=by omega
  by_cases h93:p[x].toNat=93
  ·have j8:((p[x].toNat:Int) != 93)=false:=by simp[h93]
   rw[qAa (by rw[hb,h93];intro q;rcases q with q|q;omega;exact q rfl)]at hrec;have j1:Hid (V=(x:Int)+1):=hrec.symm;have j5:¬(p.size:Int)<=(x:Int):=by omega
   clear hrec hb;go_wp2;all_goals first
    |(go_ret;exact⟨by rw[j1.out];rfl,rfl⟩)
    |(exfalso;simp_all;done)
  have j8:((p[x].toNat:Int) != 93)=true:=by simp;omega
  have HC:(x:Int)=i0∨atB p (x:Nat)≠93:=.inr (by rw[hb];omega);clear hb;have j2:(x:Int)=i0∨atB p (x:Nat)≠93:=HC;rw[qAb j2]at hrec;have j0:=z1j p (x:Nat) (by omega);generalize Q0m p (x:Nat)=r at ZX hrec j0;obtain⟨lo,hi',nx,ok⟩:=r;dsimp only at ZX hrec j0;cases ok
  ·rw[qAb rfl]at hrec;have j1:Hid (V=-1):=hrec.symm;clear hrec j0 j2;go_wp2_with (first
    |(go_at_call 133;refine csm (ZX.out _) ?_))
   all_goals first
    |(go_ret;exact⟨by rw[j1.out];rfl,rfl⟩)
    |(exfalso;simp_all[okI];done)
  rw[qAa (by simp)]at hrec;have j7:=j0.2.2.2.2.2.2 rfl;exfalso;omega
 have j4:¬(x:Int)<(p.size:Int):=by omega
 have j5:(p.size:Int)<=(x:Int):=by omega
 have hb:atB p (x:Nat)=-1:=by unfold atB;rw[qEp (by omega)]
 have j6:(Q0m p (x:Nat)).2.2.2=false:=by
  have:(Q1p p (x:Nat)).2.2=false:=by unfold Q1p;rw[hb,qAa (by decide),qAa (by decide),qAb (by decide)]
  unfold Q0m;rw[qAb this]
 rw[qAb (.inr (by rw[hb];decide)),qAb j6]at hrec;have j1:Hid (V=-1):=hrec.symm;clear hrec hb j6;go_wp2;all_goals first
  |(go_ret;exact⟨by rw[j1.out];rfl,rfl⟩)
  |(exfalso;simp_all;done)
def Q3r(g:Int->Int)(p:ByteArray)(i:Int):Int:=if atB p i=40 then g i else okI (Q2n p i).2.2 (Q2n p i).2.1
def Q47(p:ByteArray):Nat->Int->Int
 |0,x=>x
 |f+1,x=>if 0<=x/\Q1q (atB p x)=true then Q47 p f (x+1) else x
def Q4b(a:Int->Int)(p:ByteArray)(i:Int):Int:=Q47 p (p.size+5) (a i)
def zJ(p:ByteArray)(x:Int):Int:=if atB p x=124 then x+1 else x
def Q85(pc:Int->Int)(p:ByteArray):Nat->Int->Int
 |0,x=>x
 |f+1,x=>if 0<=x/\x<p.size then(if pc (zJ p x)<0 then x else Q85 pc p f (pc (zJ p x))) else x
def zPat(pc:Int->Int)(p:ByteArray)(i:Int):Int:=Q85 pc p (p.size+5) (pc i)
def zGrp(pt:Int->Int)(p:ByteArray)(i:Int):Int:=if 0<=pt (i+1)/\atB p (pt (i+1))=41 then pt (i+1)+1 else -1
def zgK(p:ByteArray):Nat->Int->Int
 |0=>fun _=>-1
 |k+1=>zGrp (zPat (Q4b (Q3r (zgK p k) p) p) p) p
def zpK(p:ByteArray)(k:Nat):Int->Int:=zPat (Q4b (Q3r (zgK p k) p) p) p
theorem y0a(pc:Int->Int)(p:ByteArray)(f:Nat)(x:Int):Q85 pc p (f+1) x=if 0<=x/\x<p.size then(if pc (zJ p x)<0 then x else Q85 pc p f (pc (zJ p x))) else x:=rfl
theorem z6o(p:ByteArray)(f:Nat)(x:Int):Q47 p (f+1) x=if 0<=x/\Q1q (atB p x)=true then Q47 p f (x+1) else x:=rfl
def Q64(v:Int)(r:LR):Prop:=v=okI r.ok r.next
section
variable {p:ByteArray}
theorem y5m{g:Int->Int}{l:Int->LR}{i:Int}(h:atB p i=40->Q64 (g i) (l i)):Q64 (Q3r g p i) (Q3i l p i):=by
 unfold Q64 Q3r Q3i;by_cases c:atB p i=40
 ·rw[qAb c,qAb c];exact h c
 rw[qAa c,qAa c];by_cases c2:(Q2n p i).2.2=false
 ·rw[qAb c2,c2]
 have c3:(Q2n p i).2.2=true:=by simpa using c2
 rw[qAa c2,c3]
theorem y0c:∀(f:Nat) (r:LR),(r.ok=true->0<=r.next)->Q64 (Q47 p f (okI r.ok r.next)) (Q2a p f r)
 |0,r,_=>rfl
 |f+1,r,h0=>by
  rw[z6o,z37];cases hk:r.ok
  ·rw[qAa (fun q=>absurd q.1 (show ¬(0:Int)<=-1 by decide)),qAa (by simp)];unfold Q64;rw[hk]
  have hn:=h0 hk;have e:okI true r.next=r.next:=rfl;rw[e];by_cases c:Q1q (atB p r.next)=true
  ·rw[qAb ⟨hn,c⟩,qAb (by rw[c];rfl)];exact y0c f ⟨r.next+1,true,Q02.rep (atB p r.next) r.lang⟩ (fun _=>by dsimp only;omega)
  rw[qAa (fun q=>c q.2),qAa (by simpa using c)];unfold Q64;rw[hk];rfl
theorem y1p{a:Int->Int}{l:Int->LR}{i:Int}(h:Q64 (a i) (l i))(h0:(l i).ok=true->0<=(l i).next):Q64 (Q4b a p i) (Q1r l p i):=by
 unfold Q4b Q1r;unfold Q64 at h;rw[h];exact y0c _ _ h0
structure SaysP(p:ByteArray)(v:Int)(r:LR):Prop where
 good:r.ok=true->v=r.next
 bad:r.ok=false->v<0∨(0<=v/\v<p.size/\(atB p v=124∨Q97 (atB p v)=true))
theorem x1l{B:Int->LR}{f:Nat}{r r':LR}(h1:r.next=r'.next)(h2:r.ok=r'.ok):(Q03 B p f r).next=(Q03 B p f r').next/\(Q03 B p f r).ok=(Q03 B p f r').ok:=by
 obtain⟨a,b,c⟩:=r;obtain⟨a',b',c'⟩:=r';dsimp only at h1 h2;subst h1 h2;exact z8n f a b c c'
theorem x5h{pc:Int->Int}{P:Int->LR}(hP:∀x:Int,0<=x->x<=p.size->Q64 (pc x) (P x))(hg:Q3t p P)(hbeg:∀x,(P x).ok=true->Q97 (atB p x)=true) :
  ∀(m:Nat) (x:Int) (L:Q02) (fb fc f:Nat),(p.size:Int)<=x+m->0<=x->x<=p.size->Q1q (atB p x)=false->(p.size:Int)+2<=fb+x->(p.size:Int)+2<=fc+x->(p.size:Int)+2<=f+x ->
   (∀y:Int,0<=y->y<=p.size->(P y).ok=true->Q1q (atB p (P y).next)=false) ->
   SaysP p (Q85 pc p f x) (Q03 (Q0x P p) p fc (Q1m P p fb ⟨x,true,L⟩)):=by
 intro m;induction m with
 |zero =>
  intro x L fb fc f hm h0 h1 hmk hfb hfc hf hst;have hx:x=p.size:=by omega
  have hb:atB p x=-1:=by unfold atB;rw[qEp (by omega)]
  obtain⟨fb,rfl⟩:∃k,fb=k+1:=⟨fb-1,by omega⟩;obtain⟨fc,rfl⟩:∃k,fc=k+1:=⟨fc-1,by omega⟩;obtain⟨f,rfl⟩:∃k,f=k+1:=⟨f-1,by omega⟩;rw[z2f,qAa (show ¬(true&&Q2r p x)=true by rw[z2d,hb];decide),z2q,qAa (show ¬(true&&(atB p x==124))=true by rw[hb];decide),y0a,qAa (by omega)];exact⟨fun _=>rfl,fun e=>by(cases e)⟩
 |succ m ih =>
  intro x L fb fc f hm h0 h1 hmk hfb hfc hf hst;by_cases hxs:x<p.size
  ·obtain⟨fb,rfl⟩:∃k,fb=k+1:=⟨fb-1,by omega⟩;obtain⟨fc,rfl⟩:∃k,fc=k+1:=⟨fc-1,by omega⟩;obtain⟨f,rfl⟩:∃k,f=k+1:=⟨f-1,by omega⟩;rw[y0a,qAb ⟨h0,hxs⟩];by_cases cb:Q97 (atB p x)=true
   ·have j2:atB p x≠124:=fun e=>by rw[e]at cb;revert cb;decide
    have ej:zJ p x=x:=by unfold zJ;rw[qAa j2]
    rw[ej];have hs:=hP x h0 h1;unfold Q64 at hs;rw[z2f,qAb (show(true&&Q2r p x)=true by rw[z2d,cb];rfl)];cases hk:(P x).ok
    ·rw[hk]at hs;have j0:pc x<0:=by rw[hs];exact(show(-1:Int)<0 by decide)
     have q1:Q5o ⟨x,true,L⟩ (P x)=⟨(P x).next,false,noL⟩:=by unfold Q5o;rw[hk];rfl
     rw[qAb j0,q1,z1w P p _ _ rfl,z1x _ p _ _ rfl];exact⟨fun e=>by(cases e),fun _=>.inr ⟨h0,hxs,.inr cb⟩⟩
    rw[hk]at hs;have g:=hg x h0 h1 hk;have e1:pc x=(P x).next:=hs;have q1:Q5o ⟨x,true,L⟩ (P x)=⟨(P x).next,true,Q02.cat L (P x).lang⟩:=by unfold Q5o;rw[qAb hk]
    rw[qAa (by omega),q1,e1];exact ih _ _ fb (fc+1) f (by omega) (by omega) (by omega) (hst x h0 h1 hk) (by omega) (by omega) (by omega) hst
   rw[z2f,qAa (show ¬(true&&Q2r p x)=true by rw[z2d];simpa using cb),z2q];by_cases c124:atB p x=124
   ·have ej:zJ p x=x+1:=by unfold zJ;rw[qAb c124]
    rw[ej,qAb (show(true&&(atB p x==124))=true by rw[c124];rfl)];have hs:=hP (x+1) (by omega) (by omega);unfold Q64 at hs;cases hk:(P (x+1)).ok
    ·rw[hk]at hs;have j0:pc (x+1)<0:=by rw[hs];exact(show(-1:Int)<0 by decide)
     have q0:Q0x P p (x+1)=P (x+1):=by unfold Q0x;exact z1w P p _ _ hk
     have q1:Q1w ⟨x,true,L⟩ (Q0x P p (x+1))=⟨(P (x+1)).next,false,noL⟩:=by rw[q0];unfold Q1w;rw[hk];rfl
     rw[qAb j0,q1,z1x _ p _ _ rfl];exact⟨fun e=>by(cases e),fun _=>.inr ⟨h0,hxs,.inl c124⟩⟩
    rw[hk]at hs;have g:=hg (x+1) (by omega) (by omega) hk;have e1:pc (x+1)=(P (x+1)).next:=hs;rw[qAa (by omega),e1];have j1:=ih (P (x+1)).next (P (x+1)).lang (p.size+5) fc f (by omega) (by omega) (by omega) (hst (x+1) (by omega) (by omega) hk) (by omega) (by omega) (by omega) hst;have eb:Q0x P p (x+1)=Q1m P p (p.size+5) ⟨(P (x+1)).next,true,(P (x+1)).lang⟩:=by unfold Q0x;rw[← z2k hk]
    rw[eb];generalize Q1m P p (p.size+5) ⟨(P (x+1)).next,true,(P (x+1)).lang⟩=r at j1 ⊢;have en:(Q1w ⟨x,true,L⟩ r).next=r.next/\(Q1w ⟨x,true,L⟩ r).ok=r.ok:=by
     unfold Q1w;cases e:r.ok<;>simp
    obtain⟨z1,z2⟩:=x1l (B:=Q0x P p) (f:=fc) en.1 en.2;exact⟨fun e=>by rw[z1];exact j1.good (by rw[← z2];exact e),fun e=>j1.bad (by rw[← z2];exact e)⟩
   have ej:zJ p x=x:=by unfold zJ;rw[qAa c124]
   have j3:(P x).ok=false:=by
    cases e:(P x).ok
    ·rfl
    exact absurd (hbeg x e) cb
   have hs:=hP x h0 h1;unfold Q64 at hs;rw[j3]at hs;have j0:pc x<0:=by rw[hs];exact(show(-1:Int)<0 by decide)
   rw[ej,qAb j0,qAa (show ¬(true&&(atB p x==124))=true by simpa using c124)];exact⟨fun _=>rfl,fun e=>by(cases e)⟩
  have hx:x=p.size:=by omega
  have hb:atB p x=-1:=by unfold atB;rw[qEp (by omega)]
  obtain⟨fb,rfl⟩:∃k,fb=k+1:=⟨fb-1,by omega⟩;obtain⟨fc,rfl⟩:∃k,fc=k+1:=⟨fc-1,by omega⟩;obtain⟨f,rfl⟩:∃k,f=k+1:=⟨f-1,by omega⟩;rw[z2f,qAa (show ¬(true&&Q2r p x)=true by rw[z2d,hb];decide),z2q,qAa (show ¬(true&&(atB p x==124))=true by rw[hb];decide),y0a,qAa (by omega)];exact⟨fun _=>rfl,fun e=>by(cases e)⟩
theorem z9l:∀(f:Nat) (x:Int) (L:Q02),x<=p.size->(p.size:Int)+2<=f+x->Q1q (atB p (Q2a p f ⟨x,true,L⟩).next)=false
 |0,x,L,h1,h2=>by omega
 |f+1,x,L,h1,h2=>by
  rw[z37];dsimp only;rw[qBa];by_cases c:Q1q (atB p x)=true
  ·rw[qAb c];have:=z0q (s:=p) (i:=x) (z9g c);exact z9l f _ _ (by omega) (by omega)
  rw[qAa c];simpa using c
theorem y9a{pc:Int->Int}{a:Int->LR}(hP:∀x:Int,0<=x->x<=p.size->Q64 (pc x) (Q1r a p x))(hga:Q3t p a)(hg:Q3t p (Q1r a p))(hbeg:∀x,(Q1r a p x).ok=true->Q97 (atB p x)=true){i:Int}(h0:0<=i)(h1:i<=p.size) :
  SaysP p (zPat pc p i) (Q20 (Q0x (Q1r a p) p) p i):=by
 have j0:∀y:Int,0<=y->y<=p.size->(Q1r a p y).ok=true->Q1q (atB p (Q1r a p y).next)=false:=fun y y0 y1 hy=>by
  have ha:=y2d hy;have g:=hga y y0 y1 ha;unfold Q1r;rw[z2k ha];exact z9l _ _ _ (by omega) (by omega)
 have hs:=hP i h0 h1;unfold Q64 at hs;unfold zPat Q20;cases hk:(Q1r a p i).ok
 ·rw[hk]at hs;have e1:pc i=-1:=hs;have q0:Q0x (Q1r a p) p i=Q1r a p i:=by unfold Q0x;exact z1w _ p _ _ hk
  rw[q0,z1x _ p _ _ hk,e1];show SaysP p (Q85 pc p (p.size+4+1) (-1)) _;rw[y0a,qAa (by omega)];exact⟨fun e=>by rw[hk]at e;(cases e),fun _=>.inl (by decide)⟩
 rw[hk]at hs;have e1:pc i=(Q1r a p i).next:=hs;have g:=hg i h0 h1 hk;have eb:Q0x (Q1r a p) p i=Q1m (Q1r a p) p (p.size+5) ⟨(Q1r a p i).next,true,(Q1r a p i).lang⟩:=by unfold Q0x;rw[← z2k hk]
 rw[eb,e1];exact x5h hP hg hbeg p.size _ _ _ _ _ (by omega) (by omega) (by omega) (j0 i h0 h1 hk) (by omega) (by omega) (by omega) j0
theorem x7z{pt:Int->Int}{c:Int->LR}{i:Int}(h:SaysP p (pt (i+1)) (c (i+1)))(h0:(c (i+1)).ok=true->0<=(c (i+1)).next):Q64 (zGrp pt p i) (Q56 c p i):=by
 unfold Q64 zGrp Q56;cases hk:(c (i+1)).ok
 ·rw[qAb rfl];rw[qAa (fun q=>by
   rcases h.bad hk with b|⟨_,_,b⟩
   ·omega
   rw[q.2]at b;revert b;decide)]
  rfl
 have e1:=h.good hk;have e2:=h0 hk;rw[e1];have e3:¬(true=false):=by simp
 rw[qAa e3];by_cases c2:atB p (c (i+1)).next=41
 ·rw[qAb ⟨e2,c2⟩,qAa (by rw[c2];simp)];rfl
 rw[qAa (fun q=>c2 q.2),qAb c2];rfl
theorem z28{k:Nat}{x:Int}(h:(Q1r (Q3i (lgK p k) p) p x).ok=true):Q97 (atB p x)=true:=y52 (y2d h)
theorem x5l:∀(k:Nat) (i:Int),0<=i->atB p i=40->Q64 (zgK p k i) (lgK p k i)
 |0,i,_,_=>rfl
 |k+1,i,h0,h40=>by
  have hi:=z0q (s:=p) (i:=i) (by omega);have ha:∀x:Int,0<=x->x<=p.size->Q64 (Q3r (zgK p k) p x) (Q3i (lgK p k) p x):=fun x x0 _=>y5m (fun h=>x5l k x x0 h);have j0:∀x:Int,0<=x->x<=p.size->Q64 (Q4b (Q3r (zgK p k) p) p x) (Q1r (Q3i (lgK p k) p) p x):=fun x x0 x1=>y1p (ha x x0 x1) (fun h=>by have:=z2r p k x x0 x1 h;omega);exact x7z (y9a j0 (z2r p k) (z6c p k) (fun x h=>z28 h) (by omega) (by omega)) (fun h=>by have:=y4a p k (i+1) (by omega) (by omega) h;show 0<=(Q6q p k (i+1)).next;omega)
theorem z7c(k:Nat){x:Int}(x0:0<=x):Q64 (Q3r (zgK p k) p x) (Q3i (lgK p k) p x):=y5m (fun h=>x5l k x x0 h)
theorem z5y(k:Nat){x:Int}(x0:0<=x)(x1:x<=p.size):Q64 (Q4b (Q3r (zgK p k) p) p x) (Q1r (Q3i (lgK p k) p) p x):=y1p (z7c k x0) (fun h=>by have:=z2r p k x x0 x1 h;omega)
theorem x5o(k:Nat){i:Int}(h0:0<=i)(h1:i<=p.size):SaysP p (zpK p k i) (Q6q p k i):=y9a (fun x x0 x1=>z5y k x0 x1) (z2r p k) (z6c p k) (fun x h=>z28 h) h0 h1
end
end Go.Proofs.YtcpceafmlgaodaaGreat
