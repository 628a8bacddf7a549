import Derived.Test.YtbdpfmalabgmbaaGreatRf1
import Derived.Deep.DeepCutAuto
namespace Go.Proofs.YtbdpfmalabgmbaaGreat
open Go.RowKit
set_option maxRecDepth 99999
set_option maxHeartbeats 0
set_option linter.all false
theorem z1u{p:ByteArray}{i:Nat}(h:i<p.size):atB p (i:Nat)=p[i].toNat:=by unfold atB;rw[qEt ⟨by omega,by simpa using h⟩];simp
theorem z2c{p:ByteArray}{i:Int}(h:p.size<=i):atB p i=-1:=by unfold atB;rw[qFm (by omega)]
theorem v0w(x:Int):okI true x=x:=rfl
theorem x4a(x:Int):okI false x=-1:=rfl
def PatC(p:ByteArray)(d:Nat)(f:Int->Int):Prop:=∀(i:Nat) (w:World),i<=p.size+1->Calls Tryz.prog 105 #[.string p,.int .i64 i,.int .i64 d] w fun e w'=>e=.returned (.int .i64 (f i))/\w'=w
def AtmC(p:ByteArray)(d:Nat)(f:Int->Int):Prop:=∀(i:Nat) (w:World),i<=p.size+1->Calls Tryz.prog 126 #[.string p,.int .i64 i,.int .i64 d] w fun e w'=>e=.returned (.int .i64 (f i))/\w'=w
def PceC(p:ByteArray)(d:Nat)(f:Int->Int):Prop:=∀(i:Nat) (w:World),i<=p.size+1->Calls Tryz.prog 112 #[.string p,.int .i64 i,.int .i64 d] w fun e w'=>e=.returned (.int .i64 (f i))/\w'=w
theorem y0t(p:ByteArray)(k d:Nat)(hp:p.size<=80000)(hd:d+k=6)(ih:∀k',k=k'+1->PatC p (d+1) (zpK p k')):AtmC p d (Q3w (zgK p k) p):=by
 intro i w hi;by_cases h1:i<p.size
 ·have hb:=z1u h1;have jm:p[i].toNat<256:=p[i].toNat_lt;have j9:¬(p.size:Int)<=(i:Int):=by omega
  have ji:(i:Int)<(p.size:Int):=by omega
  have ZP:=hid (fun w=>x1q p[i].toNat w (by omega));unfold Q3w;unfold Q2r;rw[hb];by_cases j5:p[i].toNat=46
  ·have kk:((p[i].toNat:Int)==46)=true:=by simp[j5]
   rw[qAa (by omega),qAb (by omega)];dsimp only;rw[v0w];rw[show Q02 (p[i].toNat:Int)=false from by rw[j5];decide]at ZP;clear hb j5;go_enter Tryz.func126,Tryz.ntmps126
   go_wp2_with (first
    |(go_at_call 132;refine csm (ZP.out _) ?_))
   go_ret;exact⟨rfl,rfl⟩
  have jo:((p[i].toNat:Int)==46)=false:=by simp;omega
  by_cases j1:Q02 (p[i].toNat:Int)=true
  ·have jp:p[i].toNat≠40:=fun e=>by rw[e]at j1;revert j1;decide
   have jq:p[i].toNat≠91:=fun e=>by rw[e]at j1;revert j1;decide
   have jr:p[i].toNat≠92:=fun e=>by rw[e]at j1;revert j1;decide
   rw[qAa (by omega),qAa (by omega),qAa (by omega),qAa (by omega),qAa (by rw[j1];simp)];dsimp only;rw[v0w];rw[j1]at ZP;clear hb j1;go_enter Tryz.func126,Tryz.ntmps126
   go_wp2_with (first
    |(go_at_call 132;refine csm (ZP.out _) ?_))
   go_ret;exact⟨rfl,rfl⟩
  have j0:Q02 (p[i].toNat:Int)=false:=by simpa using j1
  rw[j0]at ZP;clear j1;by_cases j6:p[i].toNat=92
  ·have jh:((p[i].toNat:Int)==92)=true:=by simp[j6]
   rw[qAa (by omega),qAa (by omega),qAa (by omega),qAb (by omega)];dsimp only;rw[y2s];by_cases h3:i+1<p.size
   ·have j2:atB p ((i:Int)+1)=p[i+1].toNat:=by rw[← z1u h3];rfl
    have ja:p[i+1].toNat<256:=p[i+1].toNat_lt;have jk:(i:Int)+1<(p.size:Int):=by omega
    have jl:((i:Int)+1).toNat=i+1:=by omega
    rw[j2];have ZM:=hid (fun w=>z57 p[i+1].toNat w (by omega));generalize mkF (p[i+1].toNat:Int)=m at ZM ⊢;obtain⟨v,ok⟩:=m;dsimp only at ZM ⊢;clear hb j2 j0 j6;cases ok
    ·rw[qAa (by simp)];dsimp only;rw[x4a];go_enter Tryz.func126,Tryz.ntmps126
     go_wp2_with (first
      |(go_at_call 132;refine csm (ZP.out _) ?_)
      |(go_at_call 133;refine csm (ZM.out _) ?_))
     go_ret;exact⟨rfl,rfl⟩
    rw[qAb rfl];dsimp only;rw[v0w,show(i:Int)+1+1=(i:Int)+2 by omega];go_enter Tryz.func126,Tryz.ntmps126
    go_wp2_with (first
     |(go_at_call 132;refine csm (ZP.out _) ?_)
     |(go_at_call 133;refine csm (ZM.out _) ?_))
    go_ret;exact⟨rfl,rfl⟩
   have jj:¬(i:Int)+1<(p.size:Int):=by omega
   have j2:atB p ((i:Int)+1)=-1:=z2c (by omega);rw[j2,show mkF (-1)=(-1,false) from by decide];dsimp only;rw[qAa (by simp)];dsimp only;rw[x4a];clear hb j2 j0 j6;go_enter Tryz.func126,Tryz.ntmps126
   go_wp2_with (first
    |(go_at_call 132;refine csm (ZP.out _) ?_))
   go_ret;exact⟨rfl,rfl⟩
  have jh:((p[i].toNat:Int)==92)=false:=by simp;omega
  by_cases j8:p[i].toNat=91
  ·have jg:((p[i].toNat:Int)==91)=true:=by simp[j8]
   rw[qAa (by omega),qAa (by omega),qAb (by omega)];have ZC:=hid (fun w=>x1k p i w (by omega) h1);generalize okI (rBr p ((i:Int)+1)).2.2 (rBr p ((i:Int)+1)).2.1=v at ZC ⊢;clear hb j0 j8;go_enter Tryz.func126,Tryz.ntmps126
   go_wp2_with (first
    |(go_at_call 132;refine csm (ZP.out _) ?_)
    |(go_at_call 134;refine csm (ZC.out _) ?_))
   go_ret;exact⟨rfl,rfl⟩
  have jg:((p[i].toNat:Int)==91)=false:=by simp;omega
  by_cases j4:p[i].toNat=40
  ·have je:((p[i].toNat:Int)==40)=true:=by simp[j4]
   rw[qAb (by omega)];cases k with
   |zero =>
    show Calls _ _ _ _ (fun e w'=>e=.returned (.int .i64 (-1))/\w'=w);have jc:¬(d:Int)<6:=by omega
    clear hb j0 ih j4;go_enter Tryz.func126,Tryz.ntmps126
    go_wp2_with (first
     |(go_at_call 132;refine csm (ZP.out _) ?_))
    go_ret;exact⟨rfl,rfl⟩
   |succ k' =>
    have jc:(d:Int)<6:=by omega
    have jn:d<=6:=by omega
    have PT:=hid (fun w=>ih k' rfl (i+1) w (by omega));have ei:((i+1:Nat):Int)=(i:Int)+1:=by omega
    have ed:((d+1:Nat):Int)=(d:Int)+1:=by omega
    rw[ei,ed]at PT;show Calls _ _ _ _ (fun e w'=>e=.returned (.int .i64 (zGrp (zpK p k') p i))/\w'=w);unfold zGrp;generalize zpK p k' ((i:Int)+1)=v at PT ⊢;clear hb j0 ih j4;by_cases hv:0<=v
    ·obtain⟨j,rfl⟩:∃j:Nat,v=j:=⟨v.toNat,by omega⟩;by_cases hj:j<p.size
     ·have j3:=z1u hj;have jb:p[j].toNat<256:=p[j].toNat_lt;have jd:(j:Int)<(p.size:Int):=by omega
      rw[j3];by_cases j7:p[j].toNat=41
      ·have jf:((p[j].toNat:Int)==41)=true:=by simp[j7]
       rw[qAb ⟨hv,by omega⟩];clear j3 j7;go_enter Tryz.func126,Tryz.ntmps126
       go_wp2_with (first
        |(go_at_call 132;refine csm (ZP.out _) ?_)
        |(go_at_call 105;refine csm (PT.out _) ?_))
       go_ret;exact⟨rfl,rfl⟩
      have jf:((p[j].toNat:Int)==41)=false:=by simp;omega
      rw[qAa (by omega)];clear j3;go_enter Tryz.func126,Tryz.ntmps126
      go_wp2_with (first
       |(go_at_call 132;refine csm (ZP.out _) ?_)
       |(go_at_call 105;refine csm (PT.out _) ?_))
      go_ret;exact⟨rfl,rfl⟩
     have jd:¬(j:Int)<(p.size:Int):=by omega
     rw[z2c (by omega),qAa (by omega)];go_enter Tryz.func126,Tryz.ntmps126
     go_wp2_with (first
      |(go_at_call 132;refine csm (ZP.out _) ?_)
      |(go_at_call 105;refine csm (PT.out _) ?_))
     go_ret;exact⟨rfl,rfl⟩
    rw[qAa (fun e=>hv e.1)];go_enter Tryz.func126,Tryz.ntmps126
    go_wp2_with (first
     |(go_at_call 132;refine csm (ZP.out _) ?_)
     |(go_at_call 105;refine csm (PT.out _) ?_))
    go_ret;exact⟨rfl,rfl⟩
  have je:((p[i].toNat:Int)==40)=false:=by simp;omega
  rw[qAa (by omega),qAa (by omega),qAa (by omega),qAa (by omega),qAb j0];dsimp only;rw[x4a];clear hb j0 ih;go_enter Tryz.func126,Tryz.ntmps126
  go_wp2_with (first
   |(go_at_call 132;refine csm (ZP.out _) ?_))
  go_ret;exact⟨rfl,rfl⟩
 have j9:(p.size:Int)<=(i:Int):=by omega
 have hE:Q3w (zgK p k) p i=-1:=by
  have hb:atB p (i:Nat)=-1:=z2c (by omega);unfold Q3w Q2r;rw[hb,qAa (by decide),qAa (by decide),qAa (by decide),qAa (by decide),qAb (by decide)];exact x4a _
 rw[hE];clear hE ih;go_enter Tryz.func126,Tryz.ntmps126
 go_wp2;go_ret;exact⟨rfl,rfl⟩
def Fwd(p:ByteArray)(f:Int->Int):Prop:=∀x:Int,0<=x->f x=-1∨(x<f x/\f x<=p.size)
theorem y59(p:ByteArray)(k:Nat):Fwd p (Q3w (zgK p k) p):=by
 intro x h0;by_cases h1:x<=p.size
 ·have h:=z7l (p:=p) k h0;unfold Q7h at h;cases hk:(Q3m (lgK p k) p x).ok
  ·left;rw[h,hk];rfl
  right;have g:=z2y p k x h0 h1 hk;rw[h,hk];exact g
 left;have hb:atB p x=-1:=z2c (by omega);unfold Q3w Q2r;rw[hb,qAa (by decide),qAa (by decide),qAa (by decide),qAa (by decide),qAb (by decide)];exact x4a _
theorem y0q(p:ByteArray):∀(f:Nat) (x:Int),x<=p.size->x<=Q5h p f x/\Q5h p f x<=p.size
 |0,x,h=>⟨Int.le_refl _,h⟩
 |f+1,x,h=>by
  rw[z6x];split
  ·rename_i c;have:=z0r (s:=p) (i:=x) (z9u c.2);have:=y0q p f (x+1) (by omega);omega
  omega
theorem y7x(p:ByteArray)(f:Nat):Q5h p f (-1)=-1:=by
 cases f with
 |zero=>rfl
 |succ f=>rw[z6x,qAa (by omega)]
theorem x1p(p:ByteArray)(k:Nat):Fwd p (Q4i (Q3w (zgK p k) p) p):=by
 intro x h0;unfold Q4i;rcases y59 p k x h0 with h|h
 ·left;rw[h];exact y7x p _
 right;have:=y0q p (p.size+5) (Q3w (zgK p k) p x) h.2;omega
theorem z7n(p:ByteArray)(k d:Nat)(hp:p.size<=80000)(hA:AtmC p d (Q3w (zgK p k) p)):PceC p d (Q4i (Q3w (zgK p k) p) p):=by
 intro i w hi;have AT:=hid (fun w=>hA i w hi);have hf:=y59 p k i (by omega);unfold Q4i;generalize Q3w (zgK p k) p i=a at AT hf ⊢;have j1:-1<=a:=by omega
 have j2:a<=p.size:=by omega
 have ZS:=hid (fun(c:Int) (w:World)=>y74 c w);generalize hV:Q5h p (p.size+5) a=V;have HV:=hid hV;clear hV hA hf;go_enter Tryz.func112,Tryz.ntmps112
 go_wp2_with (first
  |(go_at_call 126;refine csm (AT.out _) ?_))
 go_loopw [7] (fun x7 wr=>∃(y:Int) (F:Nat),x7=.int .i64 y/\-1<=y/\y<=p.size/\(p.size:Int)+2<=F+y/\Q5h p F y=V/\wr=w)
   (fun x _=>(100000-intOf x).toNat)
 case atStart=>exact⟨a,p.size+5,rfl,j1,j2,by omega,HV.out,rfl⟩
 obtain⟨y,F,rfl,j5,j6,hF,j0,rfl⟩:=hrel;obtain⟨F,rfl⟩:∃k,F=k+1:=⟨F-1,by omega⟩;rw[z6x]at j0;clear HV;by_cases h0:0<=y
 ·obtain⟨j,rfl⟩:∃j:Nat,y=j:=⟨y.toNat,by omega⟩;by_cases hj:j<p.size
  ·have hb:=z1u hj;have j4:p[j].toNat<256:=p[j].toNat_lt;have j3:(j:Int)<(p.size:Int):=by omega
   rw[hb]at j0;have ZX:=hid (fun w=>ZS.out (p[j].toNat:Int) w);generalize Q1t (p[j].toNat:Int)=mk at ZX j0;clear hb;cases mk
   ·rw[qAa (by simp)]at j0;have HR:=hid j0;clear j0;go_wp2_with (first
     |(go_at_call 127;refine csm (ZX.out _) ?_))
    go_ret;exact⟨by rw[← HR.out];rfl,rfl⟩
   rw[qAb ⟨h0,rfl⟩]at j0;have HR:=hid j0;clear j0;go_wp2_with (first
    |(go_at_call 127;refine csm (ZX.out _) ?_))
   go_roundw
   case rel=>exact⟨(j:Int)+1,F,rfl,by omega,by omega,by omega,HR.out,by first|rfl|trivial⟩
   simp[intOf];omega
  have j3:¬(j:Int)<(p.size:Int):=by omega
  rw[z2c (by omega),qAa (by intro q;exact absurd q.2 (by decide))]at j0;have HR:=hid j0;clear j0;go_wp2;go_ret;exact⟨by rw[← HR.out];rfl,rfl⟩
 rw[qAa (fun q=>h0 q.1)]at j0;have HR:=hid j0;clear j0;go_wp2;go_ret;exact⟨by rw[← HR.out];rfl,rfl⟩
theorem z76(p:ByteArray)(k d:Nat)(hp:p.size<=80000) (hP:PceC p d (Q4i (Q3w (zgK p k) p) p)):PatC p d (zpK p k):=by
 intro i w hi;have PC:=hid hP;have FW:=hid (x1p p k);show Calls _ _ _ _ (fun e w'=>e=.returned (.int .i64 (zPat (Q4i (Q3w (zgK p k) p) p) p i))/\w'=w);generalize Q4i (Q3w (zgK p k) p) p=pc at PC FW ⊢;have PI:=hid (fun w=>PC.out i w hi);have hf:=FW.out i (by omega);unfold zPat
 generalize pc i=a at PI hf ⊢;have j2:-1<=a:=by omega
 have j3:a<=p.size:=by omega
 generalize hV:Q9m pc p (p.size+5) a=V;have HV:=hid hV;clear hV hP hf;go_enter Tryz.func105,Tryz.ntmps105
 go_wp2_with (first
  |(go_at_call 112;refine csm (PI.out _) ?_))
 go_loopw [1,7,8] (fun x1 _ _ wr=>∃(y:Int) (F:Nat),x1=.int .i64 y/\-1<=y/\y<=p.size/\(p.size:Int)+2<=F+y/\Q9m pc p F y=V/\wr=w)
   (fun x _ _ _=>(100000-intOf x).toNat)
 case atStart=>exact⟨a,p.size+5,rfl,j2,j3,by omega,HV.out,rfl⟩
 obtain⟨y,F,rfl,j5,j6,hF,j0,rfl⟩:=hrel;obtain⟨F,rfl⟩:∃k,F=k+1:=⟨F-1,by omega⟩;rw[y0p]at j0;clear HV PI;by_cases h0:0<=y
 ·obtain⟨j,rfl⟩:∃j:Nat,y=j:=⟨y.toNat,by omega⟩;by_cases hj:j<p.size
  ·have hb:=z1u hj;have j4:p[j].toNat<256:=p[j].toNat_lt;have j1:(j:Int)<(p.size:Int):=by omega
   rw[qAb ⟨h0,j1⟩]at j0;by_cases q:p[j].toNat=124
   ·have kq:((p[j].toNat:Int)==124)=true:=by simp[q]
    have ez:zJ p (j:Nat)=(j:Int)+1:=by unfold zJ;rw[hb,qAb (by omega)]
    rw[ez]at j0;have PJ:=hid (fun w=>PC.out (j+1) w (by omega));have hf:=FW.out ((j:Int)+1) (by omega);have ej:((j+1:Nat):Int)=(j:Int)+1:=by omega
    rw[ej]at PJ;generalize pc ((j:Int)+1)=v at PJ hf j0;clear hb q PC FW ez;by_cases hv:v<0
    ·rw[qAb hv]at j0;have HR:=hid j0;clear j0;go_wp2_with (first
      |(go_at_call 112;refine csm (PJ.out _) ?_))
     go_ret;exact⟨by rw[← HR.out];rfl,rfl⟩
    rw[qAa hv]at j0;have HR:=hid j0;clear j0;go_wp2_with (first
     |(go_at_call 112;refine csm (PJ.out _) ?_))
    go_roundw
    case rel=>exact⟨v,F,rfl,by omega,by omega,by omega,HR.out,by first|rfl|trivial⟩
    simp[intOf];omega
   have kq:((p[j].toNat:Int)==124)=false:=by simp;omega
   have ez:zJ p (j:Nat)=(j:Int):=by unfold zJ;rw[hb,qAa (by omega)]
   rw[ez]at j0;have PJ:=hid (fun w=>PC.out j w (by omega));have hf:=FW.out (j:Int) (by omega);generalize pc (j:Int)=v at PJ hf j0;clear hb q PC FW ez;by_cases hv:v<0
   ·rw[qAb hv]at j0;have HR:=hid j0;clear j0;go_wp2_with (first
     |(go_at_call 112;refine csm (PJ.out _) ?_))
    go_ret;exact⟨by rw[← HR.out];rfl,rfl⟩
   rw[qAa hv]at j0;have HR:=hid j0;clear j0;go_wp2_with (first
    |(go_at_call 112;refine csm (PJ.out _) ?_))
   go_roundw
   case rel=>exact⟨v,F,rfl,by omega,by omega,by omega,HR.out,by first|rfl|trivial⟩
   simp[intOf];omega
  have j1:¬(j:Int)<(p.size:Int):=by omega
  rw[qAa (fun q=>j1 q.2)]at j0;have HR:=hid j0;clear j0;go_wp2;go_ret;exact⟨by rw[← HR.out];rfl,rfl⟩
 rw[qAa (fun q=>h0 q.1)]at j0;have HR:=hid j0;clear j0;go_wp2;go_ret;exact⟨by rw[← HR.out];rfl,rfl⟩
theorem y3t(p:ByteArray)(hp:p.size<=80000):∀(k d:Nat),d+k=6->PatC p d (zpK p k)
  |0,d,h=>z76 p 0 d hp (z7n p 0 d hp (y0t p 0 d hp h (fun k' e=>by omega)))
  | k + 1,d,h=>z76 p (k+1) d hp (z7n p (k+1) d hp (y0t p (k+1) d hp h (fun k' e=>by
      have:k'=k:=by omega
      subst this;exact y3t p hp k' (d+1) (by omega))))
def Q6s(s:ByteArray):Nat->Int->Nat
 |0,_=>0
 |f+1,x=>if Q0m (atB s x)=true then Q6s s f (x+1)+1 else 0
def Q4e(s:ByteArray)(i:Int):Nat:=Q6s s (s.size+2) i
theorem y7w(s:ByteArray)(f:Nat)(x:Int):Q6s s (f+1) x=if Q0m (atB s x)=true then Q6s s f (x+1)+1 else 0:=rfl
theorem y3a{c:Int}(h:Q0m c=true):c≠-1:=by intro e;rw[e]at h;revert h;decide
theorem z8n(s:ByteArray):∀(f:Nat) (x:Int),0<=x->x<=s.size->x+Q6s s f x<=s.size
 |0,x,_,h=>by simp[Q6s];exact h
 |f+1,x,h0,h=>by
  rw[y7w];split
  ·rename_i c;have:=z0r (s:=s) (i:=x) (y3a c);have:=z8n s f (x+1) (by omega) (by omega);omega
  simp;exact h
theorem z2n(s:ByteArray)(i:Nat)(w:World)(hs:s.size<=80000)(hi:i<=s.size+1) :
  Calls Tryz.prog 104 #[.string s,.int .i64 i] w fun e w'=>e=.returned (.int .i64 (Q4e s i:Nat))/\w'=w:=by
 have ZS:=hid (fun(c:Int) (w:World)=>y18 c w);unfold Q4e;generalize hV:Q6s s (s.size+2) i=V;have HV:=hid hV;clear hV;go_enter Tryz.func104,Tryz.ntmps104
 go_wp2;go_loopw [5] (fun x5 wr=>∃(n F:Nat),x5=.int .i64 n/\i+n<=s.size+1/\s.size+2<=F+i+n/\n+Q6s s F ((i:Int)+n)=V/\wr=w)
   (fun x _=>200000-(intOf x).toNat)
 case atStart=>exact⟨0,s.size+2,rfl,by omega,by omega,by rw[← HV.out];simp,rfl⟩
 obtain⟨n,F,rfl,hn,hF,j0,rfl⟩:=hrel;obtain⟨F,rfl⟩:∃k,F=k+1:=⟨F-1,by omega⟩;rw[y7w]at j0;clear HV;by_cases hj:i+n<s.size
 ·have hb:atB s ((i:Int)+n)=s[i+n].toNat:=by rw[← z1u hj];congr 1
  have j3:s[i+n].toNat<256:=s[i+n].toNat_lt;have j1:(i:Int)+(n:Int)<(s.size:Int):=by omega
  have j2:((i:Int)+(n:Int)).toNat=i+n:=by omega
  rw[hb]at j0;have ZX:=hid (fun w=>ZS.out (s[i+n].toNat:Int) w);generalize Q0m (s[i+n].toNat:Int)=mk at ZX j0;clear hb;cases mk
  ·rw[qAa (by simp)]at j0;have HR:Hid (n=V):=by unfold Hid;omega
   clear j0;go_wp2_with (first
    |(go_at_call 124;refine csm (ZX.out _) ?_))
   go_ret;exact⟨by rw[← HR.out];rfl,rfl⟩
  rw[qAb rfl]at j0;have HR:Hid (n+1+Q6s s F ((i:Int)+((n+1:Nat):Int))=V):=by
   unfold Hid;rw[show(i:Int)+((n+1:Nat):Int)=(i:Int)+n+1 by omega];omega
  clear j0;go_wp2_with (first
   |(go_at_call 124;refine csm (ZX.out _) ?_))
  go_roundw
  case rel=>exact⟨n+1,F,by go_num,by omega,by omega,HR.out,by first|rfl|trivial⟩
  simp[intOf];omega
 have j1:¬(i:Int)+(n:Int)<(s.size:Int):=by omega
 rw[z2c (by omega),qAa (by decide)]at j0;have HR:Hid (n=V):=by unfold Hid;omega
 clear j0;go_wp2;go_ret;exact⟨by rw[← HR.out];rfl,rfl⟩
def Q5v(s:ByteArray)(i:Int):Int :=
 if(s.size:Int)<=i then -1
 else if Q1a (atB s i)=true then(if 8<1+(Q4e s (i+1):Int) then -1 else i+1+Q4e s (i+1))
 else(if(Q4e s i:Int)=0∨8<(Q4e s i:Int) then -1 else i+Q4e s i)
theorem z58(s:ByteArray)(i:Nat)(w:World)(hs:s.size<=80000)(hi:i<=100000) :
  Calls Tryz.prog 106 #[.string s,.int .i64 i] w fun e w'=>e=.returned (.int .i64 (Q5v s i))/\w'=w:=by
 unfold Q5v;by_cases h1:i<s.size
 ·have hb:=z1u h1;have j4:s[i].toNat<256:=s[i].toNat_lt;have j2:¬(s.size:Int)<=(i:Int):=by omega
  have j3:(i:Int)<(s.size:Int):=by omega
  have ZG:=hid (fun w=>z7m (s[i].toNat:Int) w);rw[qAa j2,hb];generalize Q1a (s[i].toNat:Int)=cp at ZG ⊢;clear hb;cases cp
  ·rw[qAa (by simp)];have ZL:=hid (fun w=>z2n s i w hs (by omega));have j1:=z8n s (s.size+2) i (by omega) (by omega);have j0:(i:Int)+(Q4e s i:Nat)<=s.size:=j1;clear j1;generalize Q4e s (i:Nat)=n at ZL j0 ⊢;by_cases q:n=0
   ·subst q;rw[qAb (.inl rfl)];go_enter Tryz.func106,Tryz.ntmps106
    go_wp2_with (first
     |(go_at_call 74;refine csm (ZG.out _) ?_)
     |(go_at_call 104;refine csm (ZL.out _) ?_))
    go_ret;exact⟨rfl,rfl⟩
   have k1:(((i:Int)+(n:Int))==(i:Int))=false:=by simp;omega
   have k2:¬(i:Int)+(n:Int)=(i:Int):=by omega
   have k3:(i:Int)+(n:Int)-(i:Int)=(n:Int):=by omega
   by_cases q8:8<n
   ·have k8:(8:Int)<(n:Int):=by omega
    rw[qAb (.inr k8)];go_enter Tryz.func106,Tryz.ntmps106
    go_wp2_with (first
     |(go_at_call 74;refine csm (ZG.out _) ?_)
     |(go_at_call 104;refine csm (ZL.out _) ?_))
    go_ret;exact⟨rfl,rfl⟩
   have k8:¬(8:Int)<(n:Int):=by omega
   rw[qAa (by omega)];go_enter Tryz.func106,Tryz.ntmps106
   go_wp2_with (first
    |(go_at_call 74;refine csm (ZG.out _) ?_)
    |(go_at_call 104;refine csm (ZL.out _) ?_))
   go_ret;exact⟨rfl,rfl⟩
  rw[qAb rfl];have ZL:=hid (fun w=>z2n s (i+1) w hs (by omega));have ei:((i+1:Nat):Int)=(i:Int)+1:=by omega
  rw[ei]at ZL;have j1:=z8n s (s.size+2) ((i:Int)+1) (by omega) (by omega);have j0:(i:Int)+1+(Q4e s ((i:Int)+1):Nat)<=s.size:=j1;clear j1;generalize Q4e s ((i:Int)+1)=n at ZL j0 ⊢;have k1:(((i:Int)+1+(n:Int))==(i:Int))=false:=by simp;omega
  have k2:¬(i:Int)+1+(n:Int)=(i:Int):=by omega
  have k3:(i:Int)+1+(n:Int)-(i:Int)=1+(n:Int):=by omega
  by_cases q8:8<1+n
  ·have k8:(8:Int)<1+(n:Int):=by omega
   rw[qAb k8];go_enter Tryz.func106,Tryz.ntmps106
   go_wp2_with (first
    |(go_at_call 74;refine csm (ZG.out _) ?_)
    |(go_at_call 104;refine csm (ZL.out _) ?_))
   go_ret;exact⟨rfl,rfl⟩
  have k8:¬(8:Int)<1+(n:Int):=by omega
  rw[qAa k8];go_enter Tryz.func106,Tryz.ntmps106
  go_wp2_with (first
   |(go_at_call 74;refine csm (ZG.out _) ?_)
   |(go_at_call 104;refine csm (ZL.out _) ?_))
  go_ret;exact⟨rfl,rfl⟩
 have j2:(s.size:Int)<=(i:Int):=by omega
 rw[qAb j2];go_enter Tryz.func106,Tryz.ntmps106
 go_wp2;go_ret;exact⟨rfl,rfl⟩
structure Q8v(u:ByteArray)(x:Int)(m:Nat):Prop where
 pos:1<=m
 le:m<=8
 first:Q0m (atB u x)=true∨Q1a (atB u x)=true
 rest:∀k:Nat,1<=k->k<m->Q0m (atB u (x+k))=true
 stop:Q0m (atB u (x+m))=false
theorem y5u{c:Int}(h:Q1a c=true):Q0m c=false:=by
 unfold Q1a at h;unfold Q0m;rw[qAd,qAu,qAu]at h;rw[Bool.and_eq_false_iff,qCe,qCe];omega
theorem y16(s:ByteArray):∀(f:Nat) (x:Int),(s.size:Int)+1<=f+x->(∀k:Nat,k<Q6s s f x->Q0m (atB s (x+k))=true)/\Q0m (atB s (x+Q6s s f x))=false
 |0,x,h=>by
  refine⟨fun k hk=>by simp[Q6s]at hk,?_⟩;rw[z2c (by simp[Q6s];omega)];decide
 |f+1,x,h=>by
  rw[y7w];by_cases c:Q0m (atB s x)=true
  ·rw[qAb c];obtain⟨h1,h2⟩:=y16 s f (x+1) (by omega);refine⟨fun k hk=>?_,?_⟩
   ·cases k with
    |zero=>simpa using c
    |succ k =>
     have:=h1 k (by omega);rw[show x+((k+1:Nat):Int)=x+1+k by omega];exact this
   rw[show x+((Q6s s f (x+1)+1:Nat):Int)=x+1+Q6s s f (x+1) by omega];exact h2
  rw[qAa c];refine⟨fun k hk=>by omega,by simpa using c⟩
theorem z5e(s:ByteArray){x:Int}(h0:0<=x):(∀k:Nat,k<Q4e s x->Q0m (atB s (x+k))=true)/\Q0m (atB s (x+Q4e s x))=false:=y16 s _ x (by omega)
theorem y3p{s:ByteArray}{x:Int}{m:Nat}(h0:0<=x)(h:∀k:Nat,k<m->Q0m (atB s (x+k))=true)(hs:Q0m (atB s (x+m))=false):Q4e s x=m:=by
 obtain⟨h1,h2⟩:=z5e s h0;rcases qFx (Q4e s x) m with q|q|q
 ·rw[h _ q]at h2;cases h2
 ·exact q
 rw[h1 m q]at hs;cases hs
theorem y0s{u:ByteArray}{x:Int}(h0:0<=x)(h:0<=Q5v u x):∃m,Q8v u x m/\Q5v u x=x+m:=by
 unfold Q5v at h ⊢;by_cases c0:(u.size:Int)<=x
 ·rw[qAb c0]at h;omega
 rw[qAa c0]at h ⊢;by_cases c1:Q1a (atB u x)=true
 ·rw[qAb c1]at h ⊢;obtain⟨h1,h2⟩:=z5e u (x:=x+1) (by omega);by_cases c2:8<1+(Q4e u (x+1):Int)
  ·rw[qAb c2]at h;omega
  rw[qAa c2];refine⟨Q4e u (x+1)+1,⟨by omega,by omega,.inr c1,fun k k1 k2=>?_,?_⟩,by omega⟩
  ·have:=h1 (k-1) (by omega);rw[show x+(k:Int)=x+1+((k-1:Nat):Int) by omega];exact this
  rw[show x+((Q4e u (x+1)+1:Nat):Int)=x+1+Q4e u (x+1) by omega];exact h2
 rw[qAa c1]at h ⊢;obtain⟨h1,h2⟩:=z5e u (x:=x) h0;by_cases c2:(Q4e u x:Int)=0∨8<(Q4e u x:Int)
 ·rw[qAb c2]at h;omega
 rw[qAa c2];refine⟨Q4e u x,⟨by omega,by omega,.inl ?_,fun k k1 k2=>h1 k k2,h2⟩,rfl⟩;have:=h1 0 (by omega);simpa using this
theorem x5x{u:ByteArray}{x:Int}{m:Nat}(h0:0<=x)(h:Q8v u x m):Q5v u x=x+m:=by
 have hp:=h.pos;have hl:=h.le;have j0:¬(u.size:Int)<=x:=fun q=>by
  have e:=z2c (p:=u) (i:=x) q;have:=h.first;rw[e]at this;revert this;decide
 unfold Q5v;rw[qAa j0];by_cases c1:Q1a (atB u x)=true
 ·have e:Q4e u (x+1)=m-1:=y3p (by omega) (fun k hk=>by
   have:=h.rest (k+1) (by omega) (by omega);rw[show x+1+(k:Int)=x+((k+1:Nat):Int) by omega];exact this) (by
   rw[show x+1+((m-1:Nat):Int)=x+m by omega];exact h.stop)
  rw[qAb c1,e,qAa (by omega)];omega
 have c2:Q0m (atB u x)=true:=by
  rcases h.first with q|q
  ·exact q
  exact absurd q c1
 have e:Q4e u x=m:=y3p h0 (fun k hk=>by
  by_cases k0:k=0
  ·subst k0;simpa using c2
  exact h.rest k (by omega) hk) h.stop
 rw[qAa c1,e,qAa (by omega)]
theorem z93(s:ByteArray)(i:Int):∀(f n:Nat) (ls:List Int),n<=8->9<=f+n->(Q2l s i f n ls).2=i+8∨Q0m (atB s (Q2l s i f n ls).2)=false
 |0,n,ls,h1,h2=>by omega
 |f+1,n,ls,h1,h2=>by
  unfold Q2l;split
  ·split
   ·exact z93 s i f (n+1) _ (by omega) (by omega)
   right;rename_i q;simpa using q
  left;rfl
theorem x0x{s:ByteArray}{i:Int}(h:(Q07 s i).2.2=true):(Q07 s i).2.1=i+8∨Q0m (atB s (Q07 s i).2.1)=false:=by
 unfold Q07 at h ⊢;split
 ·rename_i e;rw[qAb e]at h;cases h
 exact z93 s i 9 1 _ (by omega) (by omega)
theorem y22{s:ByteArray}{i:Int}{m:Nat}(h:Q8v s i m):(Q07 s i).2.2=true/\(Q07 s i).2.1=i+m/\WordAt s i m (Q07 s i).1:=by
 have j0:(Q07 s i).2.2=true:=by
  unfold Q07;have:(!Q0m (atB s i)&&!Q1a (atB s i))=false:=by
   rcases h.first with q|q<;>rw[q]<;>simp
  rw[qAa (by rw[this];simp)]
 obtain⟨n,hw,hn⟩:=z8k s i j0;have hp:=hw.pos;have hl:=hw.le;have j2:=h.pos;have j1:=h.le;have e:n=m:=by
  rcases qFx n m with q|q|q
  ·rcases x0x j0 with z|z
   ·omega
   rw[hn,h.rest n (by omega) q]at z;cases z
  ·exact q
  have z:=h.stop;rw[hw.rest m (by omega) q]at z;cases z
 subst e;exact⟨j0,hn,hw⟩
theorem WordAt.wordy{s:ByteArray}{i:Int}{m:Nat}{d:Wd}(h:WordAt s i m d)(hs:Q0m (atB s (i+m))=false):Q8v s i m:=⟨h.pos,h.le,h.first,h.rest,hs⟩
theorem z0z{s:ByteArray}{a e:Nat}(he:e<=s.size){k:Int}(h0:0<=k)(hk:a+k<e):atB (s.extract a e) k=atB s (a+k):=by
 obtain⟨n,rfl⟩:∃n:Nat,k=n:=⟨k.toNat,by omega⟩;exact z3x s a e n he (by omega)
theorem z08{s:ByteArray}{a e:Nat}(he:e<=s.size):(s.extract a e).size=e-a:=by rw[qBl];omega
section
variable {s:ByteArray}{a e:Nat}
theorem y9x(he:e<s.size)(h10:atB s (e:Nat)=10){x:Int}{m:Nat}(h0:0<=x)(h:Q8v (s.extract a e) x m):Q8v s (a+x) m/\a+x+m<=e:=by
 have hp:=h.pos;have j2:=z08 (s:=s) (a:=a) (e:=e) (by omega);have j0:∀k:Nat,k<m->a+x+k<e:=fun k hk=>by
  have hc:atB (s.extract a e) (x+k)≠-1:=by
   by_cases k0:k=0
   ·subst k0;intro q;have:=h.first;simp only[qEh,qDs]at q;rw[q]at this;revert this;decide
   exact y3a (h.rest k (by omega) hk)
  have:=z0r hc;omega
 have hb:∀k:Nat,k<m->atB (s.extract a e) (x+k)=atB s (a+x+k):=fun k hk=>by
  rw[z0z (by omega) (by omega) (by have:=j0 k hk;omega),Int.add_assoc]
 have j1:=j0 (m-1) (by omega);refine⟨⟨h.pos,h.le,?_,fun k k1 k2=>?_,?_⟩,by omega⟩
 ·have:=hb 0 (by omega);simp only[qEh,qDs]at this;rw[← this];exact h.first
 ·rw[← hb k k2];exact h.rest k k1 k2
 by_cases q:a+x+m<e
 ·have:=h.stop;rw[z0z (by omega) (by omega) (by omega)]at this;rw[Int.add_assoc];exact this
 rw[show(a:Int)+x+m=(e:Nat) by omega,h10];decide
theorem y13(he:e<s.size)(h10:atB s (e:Nat)=10){x:Int}{m:Nat}(h0:0<=x)(h:Q8v s (a+x) m)(hm:a+x+m<=e):Q8v (s.extract a e) x m:=by
 have hp:=h.pos;have j0:=z08 (s:=s) (a:=a) (e:=e) (by omega);have hb:∀k:Nat,k<m->atB (s.extract a e) (x+k)=atB s (a+x+k):=fun k hk=>by
  rw[z0z (by omega) (by omega) (by omega),Int.add_assoc]
 refine⟨h.pos,h.le,?_,fun k k1 k2=>?_,?_⟩
 ·have:=hb 0 (by omega);simp only[qEh,qDs]at this;rw[this];exact h.first
 ·rw[hb k k2];exact h.rest k k1 k2
 by_cases q:a+x+m<e
 ·rw[z0z (by omega) (by omega) (by omega),← Int.add_assoc];exact h.stop
 rw[z2c (by omega)];decide
end
theorem y2e(s:ByteArray)(a e b c:Nat)(he:e<=s.size)(hc:a+c<=e):(s.extract a e).extract b c=s.extract (a+b) (a+c):=by
 apply qFi;simp only[qEg,qEz];have:s.size=s.data.size:=rfl;congr 1;omega
structure ZLn where
 rule:Bool
 skip:Bool
 name:ByteArray
 pat:ByteArray
 syms:List ByteArray
 places:List Int
def Q5b(s:ByteArray):Nat->Int->List ByteArray->List Int->Option (List ByteArray × List Int)
 |0,_,_,_=>none
 |f+1,i,a,b =>
  if i<s.size then
   if atB s i=32 then
    if Q5v s (i+1)<0 then none
    else Q5b s f (Q5v s (i+1)) (a++[s.extract (i+1).toNat (Q5v s (i+1)).toNat]) (b++[i+1])
   else none
  else some (a,b)
theorem z6z(s:ByteArray)(f:Nat)(i:Int)(a:List ByteArray)(b:List Int):Q5b s (f+1) i a b=if i<s.size then
   if atB s i=32 then
    if Q5v s (i+1)<0 then none
    else Q5b s f (Q5v s (i+1)) (a++[s.extract (i+1).toNat (Q5v s (i+1)).toNat]) (b++[i+1])
   else none
  else some (a,b):=rfl
def Q5i(s:ByteArray)(n:Nat):Bool:=decide (n<=8)&&decide (n<s.size)&&(atB s n==61||atB s n==126)
def Q40(s:ByteArray):Option ZLn :=
 if 0<Q4e s 0 then
  if Q5i s (Q4e s 0)=true/\zpK s 6 ((Q4e s 0:Nat)+1)=s.size then some ⟨true,atB s (Q4e s 0)==126,s.extract 0 (Q4e s 0),s.extract (Q4e s 0+1) s.size,[],[]⟩ else none
 else if 0<=Q5v s 0/\atB s (Q5v s 0)=58 then
  (Q5b s (s.size+5) (Q5v s 0+1) [] []).map (fun l=>⟨false,false,s.extract 0 (Q5v s 0).toNat,⟨#[]⟩,l.1,l.2⟩)
 else none
def Q92(s:ByteArray)(ds:List Wd)(ns:List ByteArray):Prop :=
 ds.length=ns.length/\∀(k:Nat) (d:Wd) (n:ByteArray),ds[k]? = some d->ns[k]? = some n->∃j m:Nat,WordAt s j m d/\j+m<=s.size/\n=s.extract j (j+m)
structure ZRel(s:ByteArray)(i:Nat)(x:Ln)(z:ZLn):Prop where
 rule:z.rule=Q0x x
 skip:z.skip=x.skip
 place:x.front.place=i
 name:∃m,WordAt s i m x.front/\i+m<=s.size/\z.name=s.extract i (i+m)
 pat:z.rule=true->∃L,Q61 z.pat 6 0=⟨z.pat.size,true,L⟩/\z.pat.size<=s.size/\∀t,Q31 x t=true↔L (Q36 t)
 syms:Q92 s x.syms z.syms
 places:z.places=x.syms.map (fun d:Wd=>d.place-(i:Int))
 nos:z.rule=true->z.syms=[]
 noskip:z.rule=false->z.skip=false
section
variable {s:ByteArray}{a e:Nat}
theorem y00(he:e<=s.size){x:Nat}:Q3g s (a+x:Nat) (s.extract a e) (x:Nat) (e-a-x):=fun j hj=>by
 rw[z0z he (by omega) (by omega)];congr 1;omega
theorem y6j(he:e<=s.size){x:Nat}:Q3g (s.extract a e) (x:Nat) s (a+x:Nat) (e-a-x):=fun j hj=>by
 rw[z0z he (by omega) (by omega)];congr 1;omega
theorem x5v(he:e<s.size)(h10:atB s (e:Nat)=10):∀{p:Nat}{ds:List Wd}{ns:List ByteArray},PN s p ds ns e->a<=p->∀(f:Nat) (A:List ByteArray) (B:List Int),e+2<=f+p ->
  Q5b (s.extract a e) f ((p-a:Nat):Int) A B=some (A++ns,B++ds.map (fun d:Wd=>d.place-(a:Int))):=by
 have j8:=z08 (s:=s) (a:=a) (e:=e) (by omega);intro p ds ns h;refine PN.ind (q:=e) (M:=fun p ds ns=>a<=p->∀(f:Nat) (A:List ByteArray) (B:List Int),e+2<=f+p->Q5b (s.extract a e) f ((p-a:Nat):Int) A B=some (A++ns,B++ds.map (fun d:Wd=>d.place-(a:Int)))) ?_ ?_ ds p ns h
 ·intro hp f A B hf;obtain⟨f,rfl⟩:∃k,f=k+1:=⟨f-1,by omega⟩;rw[z6z,qAa (by omega)];simp
 intro p m d ds ns j2 hw j5 h ih hp f A B hf;have j6:=h.le;have j4:=hw.pos;obtain⟨f,rfl⟩:∃k,f=k+1:=⟨f-1,by omega⟩;have j0:Q0m (atB s (((p+1:Nat):Int)+m))=false:=by
  rcases h.next with q|q
  ·rw[show((p+1:Nat):Int)+m=(e:Nat) by omega,h10];decide
  rw[show((p+1:Nat):Int)+m=((p+1+m:Nat):Int) by omega,q];decide
 have wd:=hw.wordy j0;rw[show((p+1:Nat):Int)=a+(((p-a:Nat):Int)+1) by omega]at wd;have wu:=y13 he h10 (by omega) wd (by omega);have zs:=x5x (by omega) wu;have j1:atB (s.extract a e) ((p-a:Nat):Int)=32:=by
  rw[z0z (by omega) (by omega) (by omega),show(a:Int)+((p-a:Nat):Int)=(p:Nat) by omega];exact j2
 have j3:((p-a:Nat):Int)<((s.extract a e).size:Int):=by omega
 rw[z6z,qAb j3,qAb j1,zs,qAa (by omega)];have en:((p-a:Nat):Int)+1+m=((p+1+m-a:Nat):Int):=by omega
 rw[en,ih (by omega) f _ _ (by omega)];have ex:(s.extract a e).extract (((p-a:Nat):Int)+1).toNat (((p+1+m-a:Nat):Int)).toNat=s.extract (p+1) (p+1+m):=by
  rw[y2e s a e _ _ (by omega) (by omega)];congr 1<;>omega
 have j7:=hw.place;rw[ex];simp only[qAs,List.singleton_append,qDl,qO,Prod.mk.injEq,List.append_cancel_left_eq,qBe,and_true,true_and];omega
theorem x4q(he:e<s.size)(h10:atB s (e:Nat)=10)(d:Wd):∀(g f:Nat) (x:Nat) (A:List ByteArray) (B:List Int) (S:List Wd),a+x<=e->(s.size:Int)+2<=f+(a+x)->(Q5b (s.extract a e) g (x:Nat) A B).isSome=true ->
  (Q20 s d f ((a+x:Nat):Int) S).2.2=true:=by
 have j3:=z08 (s:=s) (a:=a) (e:=e) (by omega);intro g;induction g with
 |zero=>intro f x A B S h1 h2 h3;simp[Q5b]at h3
 |succ g ih =>
  intro f x A B S h1 h2 h3;obtain⟨f,rfl⟩:∃k,f=k+1:=⟨f-1,by omega⟩;rw[z6z]at h3;unfold Q20;by_cases c1:a+x<e
  ·have j1:((x:Nat):Int)<((s.extract a e).size:Int):=by omega
   rw[qAb j1]at h3;by_cases c2:atB (s.extract a e) (x:Nat)=32
   ·rw[qAb c2]at h3;rw[z0z (by omega) (by omega) (by omega)]at c2;have j0:atB s ((a+x:Nat):Int)=32:=by rw[← c2];congr 1
    rw[qAb j0];by_cases c3:Q5v (s.extract a e) ((x:Int)+1)<0
    ·rw[qAb c3]at h3;cases h3
    rw[qAa c3]at h3;obtain⟨m,hw,hm⟩:=y0s (by omega) (by omega:0<=Q5v (s.extract a e) ((x:Int)+1));obtain⟨wu,j2⟩:=y9x he h10 (by omega) hw;obtain⟨r1,r2,r3⟩:=y22 wu;have ex:((a+x:Nat):Int)+1=(a:Int)+((x:Int)+1):=by omega
    rw[ex,qAa (by rw[r1];simp),r2];have en:(a:Int)+((x:Int)+1)+m=((a+(x+1+m):Nat):Int):=by omega
    rw[en];rw[hm,show(x:Int)+1+m=((x+1+m:Nat):Int) by omega]at h3;exact ih f (x+1+m) _ _ _ (by omega) (by omega) h3
   rw[qAa c2]at h3;cases h3
  have hx:a+x=e:=by omega
  rw[hx,h10,qAa (by omega),qAa (by omega)]
theorem x5i{p q:Nat}{ds:List Wd}{ns:List ByteArray}(h:PN s p ds ns q):Q92 s ds ns:=by
 refine PN.ind (q:=q) (M:=fun p ds ns=>Q92 s ds ns) ?_ ?_ ds p ns h
 ·exact⟨rfl,fun k d n h1=>by simp at h1⟩
 intro p m d ds ns j1 hw j0 h ih;refine⟨by simp[ih.1],fun k d' n' h1 h2=>?_⟩;cases k with
 |zero=>simp at h1 h2;subst h1 h2;exact⟨p+1,m,hw,j0,rfl⟩
 |succ k=>simp at h1 h2;exact ih.2 k d' n' h1 h2
end
theorem x8p{s:ByteArray}{i:Nat}(h:(Q2w s i).2.2=true):∃e:Nat,e<s.size/\i<e/\atB s (e:Nat)=10/\(Q2w s i).2.1=((e+1:Nat):Int)/\Q1j s i e/\∃z,Q40 (s.extract i e)=some z/\ZRel s i (Q2w s i).1 z:=by
 obtain⟨e,he,jc,j7,j0,hL⟩:=y20 s i h;have jb:=hL.clean;refine⟨e,he,jc,j7,j0,jb,?_⟩;have jm:=z08 (s:=s) (a:=i) (e:=e) (by omega);unfold Q2w at h ⊢;cases hw:(Q07 s i).2.2
 ·rw[qAb hw]at h;cases h
 rw[qAa (by simp[hw])]at h ⊢;obtain⟨m,j2,hn⟩:=z8k s i hw;have jk:=j2.in';have jf:=j2.pos;have j9:=j2.head;have ja:=j2.place;unfold Q2w at j0;rw[qAa (by simp[hw])]at j0;generalize(Q07 s i).1=d at *;rw[hn]at h j0 ⊢;cases hh:Q16 d
 ·rw[hh]at h j0;simp only[qF,qAz]at h j0 ⊢;unfold Q6q at h j0 ⊢;by_cases c1:atB s ((i:Int)+m)≠61/\atB s ((i:Int)+m)≠126
  ·rw[qAb c1]at h;cases h
  rw[qAa c1]at h j0 ⊢;cases c2:(Q1r s ((i:Int)+m+1)).ok
  ·rw[qAb c2]at h;cases h
  rw[qAa (by simp[c2])]at h j0 ⊢;by_cases c3:atB s (Q1r s ((i:Int)+m+1)).next=10
  ·rw[qAa (by simpa using c3)]at h j0 ⊢;have j5:atB s ((i:Int)+m)=61∨atB s ((i:Int)+m)=126:=by
    by_cases q:atB s ((i:Int)+m)=61
    ·exact .inl q
    by_cases q2:atB s ((i:Int)+m)=126
    ·exact .inr q2
    exact absurd ⟨q,q2⟩ c1
   have jl:(Q1r s ((i:Int)+m+1)).next=e:=by dsimp only at j0;omega
   have ji:Q0m (atB s i)=true:=by
    rcases j2.first with h1|h1
    ·exact h1
    rw[← j9,hh]at h1;cases h1
   obtain⟨l1,l2⟩:=v1d c2;have jd:i+m<e:=by
    have:=z8q (s:=s) (i:=(i:Int)+m) (by rcases j5 with q|q<;>omega);have g:=y4t s 6 ((i:Int)+m+1) (by omega) (by omega) l1;omega
   have hb:atB (s.extract i e) (m:Nat)=atB s ((i:Int)+m):=z0z (by omega) (by omega) (by omega);have j3:Q4e (s.extract i e) 0=m:=y3p (by omega) (fun k hk=>by
    rw[z0z (by omega) (by omega) (by omega)];by_cases k0:k=0
    ·subst k0;simpa using ji
    ·have:=j2.rest k (by omega) hk;rw[show(i:Int)+(0+(k:Int))=(i:Int)+k by omega];exact this) (by
    rw[Int.zero_add,hb];rcases j5 with q|q<;>rw[q]<;>decide)
   have j4:=y2p s (s.extract i e) (qR 6) ((i:Int)+m+1) ((m:Int)+1) (e-i-(m+1)) (by omega) (by omega) (by omega)
    (by have:=y00 (s:=s) (a:=i) (e:=e) (by omega) (x:=m+1);intro j hj;have q:=this j hj;rw[show(i:Int)+m+1=((i+(m+1):Nat):Int) by omega,show(m:Int)+1=((m+1:Nat):Int) by omega];exact q)
    (by rw[z2c (by omega)];decide) l1 (by omega)
   have jj:((s.extract i e).size:Int)=e-i:=by omega
   have hz:Q61 (s.extract i e) 6 ((m:Int)+1)=⟨(s.extract i e).size,true,(Q61 s 6 ((i:Int)+m+1)).lang⟩:=by
    rw[z2r j4.ok,j4.lang,j4.next];congr 1;omega
   have j6:zpK (s.extract i e) 6 ((m:Int)+1)=(s.extract i e).size:=by
    have q:=(x53 (p:=s.extract i e) 6 (i:=(m:Int)+1) (by omega) (by omega)).good (by rw[hz]);rw[hz]at q;exact q
   have jh:Q5i (s.extract i e) m=true:=by
    unfold Q5i;have je:=j2.le;rw[qCj (by omega),qCj (by omega),hb];rcases j5 with q|q<;>rw[q]<;>decide
   refine⟨⟨true,atB (s.extract i e) m==126,(s.extract i e).extract 0 m,(s.extract i e).extract (m+1) (s.extract i e).size,[],[]⟩,?_,?_⟩
   ·unfold Q40;rw[j3,qAb (by omega),qAb ⟨jh,j6⟩]
   have ep:(s.extract i e).extract (m+1) (s.extract i e).size=s.extract (i+m+1) e:=by
    rw[y2e s i e _ _ (by omega) (by omega)];congr 1;omega
   have jn:=z08 (s:=s) (a:=i+m+1) (e:=e) (by omega);refine⟨?_,?_,ja,⟨m,j2,by omega,?_⟩,fun _=>?_,⟨rfl,fun k d' n' q=>by simp at q⟩,rfl,fun _=>rfl,fun q=>(by cases q)⟩
   ·show true=!Q16 d;rw[hh];rfl
   ·show(atB (s.extract i e) m==126)=(atB s ((i:Int)+m)==126);rw[hb]
   ·dsimp only;rw[y2e s i e _ _ (by omega) (by omega),Nat.add_zero]
   dsimp only;rw[ep];have j1:=y2p s (s.extract (i+m+1) e) (qR 6) ((i:Int)+m+1) 0 (e-(i+m+1)) (by omega) (by omega) (by omega)
    (by have:=y00 (s:=s) (a:=i+m+1) (e:=e) (by omega) (x:=0);intro j hj;have q:=this j hj;rw[show(i:Int)+m+1=((i+m+1+0:Nat):Int) by omega,show(0:Int)=((0:Nat):Int) by omega];exact q)
    (by rw[z2c (by omega)];decide) l1 (by omega)
   refine⟨(Q61 s 6 ((i:Int)+m+1)).lang,?_,by omega,fun t=>x0n c2 d _ t⟩;rw[z2r j1.ok,j1.lang,j1.next];congr 1;omega
  rw[qAb c3]at h;cases h
 rw[hh]at h j0;simp only[qBn]at h j0 ⊢;unfold Q6p at h j0 ⊢;by_cases c1:atB s ((i:Int)+m)=58
 ·rw[qAa (by simpa using c1)]at h j0 ⊢;have e1:(i:Int)+m+1=((i+m+1:Nat):Int):=by omega
  rw[e1]at h j0 ⊢;obtain⟨ds,ns,q,h1,h2,h3⟩:=z92 s d _ _ _ h;rw[h3]at j0 ⊢;have jg:q=e:=by dsimp only at j0;omega
  subst jg;have je:=h1.le;have j8:Q1a (atB s i)=true:=by rw[← j9];exact hh
  have wd:=j2.wordy (by rw[c1];decide);have wu:=y13 (a:=i) he j7 (x:=0) (by omega) (by rw[qDs];exact wd) (by omega);have zs:=x5x (by omega) wu;rw[Int.zero_add]at zs;have hb:atB (s.extract i q) (m:Nat)=58:=by rw[z0z (by omega) (by omega) (by omega)];exact c1
  have j3:Q4e (s.extract i q) 0=0:=y3p (by omega) (fun k hk=>by omega) (by
   rw[z0z (by omega) (by omega) (by omega)];simp only[qEh,qDs];exact y5u j8)
  have j6:=x5v (a:=i) he j7 h1 (by omega) ((s.extract i q).size+5) [] [] (by omega);rw[show((i+m+1-i:Nat):Int)=(m:Int)+1 by omega]at j6;refine⟨⟨false,false,(s.extract i q).extract 0 m,⟨#[]⟩,ns,ds.map (fun d:Wd=>d.place-(i:Int))⟩,?_,?_⟩
  ·unfold Q40;rw[j3,qAa (by omega),zs,qAb ⟨by omega,hb⟩,j6];rfl
  refine⟨?_,rfl,ja,⟨m,j2,by omega,?_⟩,fun q=>(by cases q),?_,?_,fun q=>(by cases q),fun _=>rfl⟩
  ·show false=!Q16 d;rw[hh];rfl
  ·dsimp only;rw[y2e s i q _ _ (by omega) (by omega),Nat.add_zero]
  ·show Q92 s ([]++ds) ns;rw[qCh];exact x5i h1
  rfl
 rw[qAb (by simpa using c1)]at h;cases h
theorem x7x{s:ByteArray}{i e:Nat}(he:e<s.size)(hie:i<=e)(h10:atB s (e:Nat)=10)(h:(Q40 (s.extract i e)).isSome=true):(Q2w s i).2.2=true:=by
 have jc:=z08 (s:=s) (a:=i) (e:=e) (by omega);unfold Q40 at h;by_cases c0:0<Q4e (s.extract i e) 0
 ·rw[qAb c0]at h;obtain⟨q1,q2⟩:=z5e (s.extract i e) (x:=0) (by omega);generalize Q4e (s.extract i e) 0=n at *;by_cases c1:Q5i (s.extract i e) n=true/\zpK (s.extract i e) 6 ((n:Nat)+1)=(s.extract i e).size
  ·obtain⟨c1,c2⟩:=c1;unfold Q5i at c1;rw[qAd,qAd,qAu,qAu,qAt]at c1;obtain⟨⟨h8,jb⟩,j3⟩:=c1;have hb:atB (s.extract i e) (n:Nat)=atB s ((i:Int)+n):=z0z (by omega) (by omega) (by omega);have j2:atB s ((i:Int)+n)=61∨atB s ((i:Int)+n)=126:=by
    rw[hb]at j3;rcases j3 with q|q
    ·left;simpa using q
    right;simpa using q
   have j0:∀k:Nat,k<n->Q0m (atB s ((i:Int)+k))=true:=fun k hk=>by
    have:=q1 k hk;rw[z0z (by omega) (by omega) (by omega)]at this;rw[show(i:Int)+(0+(k:Int))=(i:Int)+k by omega]at this;exact this
   have wd:Q8v s i n:=⟨by omega,h8,.inl (by have:=j0 0 (by omega);simpa using this),fun k k1 k2=>j0 k k2,by rcases j2 with q|q<;>rw[q]<;>decide⟩;obtain⟨r1,r2,r3⟩:=y22 wd;have hh:Q16 (Q07 s i).1=false:=by
    rw[r3.head];have:=j0 0 (by omega);simp only[qEh,qDs]at this;cases z:Q1a (atB s i)
    ·rfl
    rw[y5u z]at this;cases this
   have j4:(Q61 (s.extract i e) 6 ((n:Int)+1)).ok=true/\(Q61 (s.extract i e) 6 ((n:Int)+1)).next=(s.extract i e).size:=by
    have j5:=x53 (p:=s.extract i e) 6 (i:=(n:Int)+1) (by omega) (by omega);cases z:(Q61 (s.extract i e) 6 ((n:Int)+1)).ok
    ·rcases j5.bad z with b|⟨_,b,_⟩
     ·rw[c2]at b;omega
     rw[c2]at b;omega
    exact⟨rfl,by rw[← j5.good z];exact c2⟩
   have j1:=y2p (s.extract i e) s (qR 6) ((n:Int)+1) ((i:Int)+n+1) (e-i-(n+1)) (by omega) (by omega) (by omega)
    (by have:=y6j (s:=s) (a:=i) (e:=e) (by omega) (x:=n+1);intro j hj;have q:=this j hj;rw[show(i:Int)+n+1=((i+(n+1):Nat):Int) by omega,show(n:Int)+1=((n+1:Nat):Int) by omega];exact q)
    (by rw[show(i:Int)+n+1+((e-i-(n+1):Nat):Int)=(e:Nat) by omega,h10];decide) j4.1 (by omega)
   have lk:=y80 s 6 ((i:Int)+n+1) [];have j6:(Q1r s ((i:Int)+n+1)).ok=true:=by unfold Q1r;rw[lk.ok];exact j1.ok
   have j7:(Q1r s ((i:Int)+n+1)).next=(e:Nat):=by
    unfold Q1r;rw[lk.next,j1.next,j4.2];omega
   unfold Q2w;rw[qAa (by rw[r1];simp),hh,qAa (by simp),r2];unfold Q6q;rw[qAa (by rcases j2 with q|q<;>omega),qAa (by rw[j6];simp),j7,h10,qAa (by simp)]
  rw[qAa c1]at h;cases h
 rw[qAa c0]at h;obtain⟨q1,q2⟩:=z5e (s.extract i e) (x:=0) (by omega);have z0:Q4e (s.extract i e) 0=0:=by omega
 rw[z0]at q2;by_cases c1:0<=Q5v (s.extract i e) 0/\atB (s.extract i e) (Q5v (s.extract i e) 0)=58
 ·rw[qAb c1]at h;obtain⟨m,hw,hm⟩:=y0s (by omega) c1.1;obtain⟨wu,j8⟩:=y9x he h10 (by omega) hw;rw[qDs]at wu j8;obtain⟨r1,r2,r3⟩:=y22 wu;rw[Int.zero_add]at hm;rw[hm]at c1 h;have ja:=z8q (s:=s.extract i e) (i:=(m:Int)) (by omega);have hb:atB s ((i:Int)+m)=58:=by
   rw[← z0z (s:=s) (a:=i) (e:=e) (by omega) (by omega) (by omega)];exact c1.2
  have hh:Q16 (Q07 s i).1=true:=by
   rw[r3.head];have hf:=hw.first;simp only[qEh,qDs]at q2;rw[q2]at hf;rw[z0z (by omega) (by omega) (by omega),qDs]at hf;rcases hf with z|z
   ·cases z
   exact z
  unfold Q2w;rw[qAa (by rw[r1];simp),hh,qAb rfl,r2];unfold Q6p;rw[hb,qAa (by simp)];have j9:=x4q (a:=i) he h10 (Q07 s i).1 ((s.extract i e).size+5) (s.size+5) (m+1) [] [] [] (by omega) (by omega) (by
   rw[show((m+1:Nat):Int)=(m:Int)+1 by omega];simpa using h)
  rw[show(i:Int)+m+1=((i+(m+1):Nat):Int) by omega];exact j9
 rw[qAa c1]at h;cases h
theorem Q77{P:Program}{fn:Func}{p u:Tmp}{ty:TypeId}(h:fn.results=#[.cell p ty,.tmp u])(tmps:Array Value)(w:World)(g:Nat)(t:TypeId)(cs:Array Value)(fr:Nat × Nat)(d:TypeDesc)
  (hp:tmps.getD p undef=.pointer (some ⟨g,0,none⟩)) (hg:w.heap[g]? = some (.cells cs t fr))
  (hu:P.underlying ty=some d) (hd:(match d with | .struct _ | .array _ _=>true|_=>false)=true) (hi:(P.info? ty).map (·.size)=some cs.size) :
  (results fn tmps).run P w=.ok (.tuple #[.agg cs,tmps.getD u undef]) w:=by
 have j0:tmps[p]?.getD undef=.pointer (some ⟨g,0,none⟩):=by simpa using hp
 simp[results,h,j0,asAddr,run_loadVar_row w g t ty cs fr d hg hu hd hi]
theorem z99{P:Program}(w:World)(g:Nat)(t ty:TypeId)(old cells:Array Value)(hg:w.heap[g]? = some (.cells old t (0,0)))(hi:(P.info? ty).map (·.size)=some cells.size)(hold:old.size=cells.size)(h1:cells.all (·.oneCell')=true) :
  (Instr.storeAt ty (.pointer (some ⟨g,0,none⟩)) (.agg cells)).run P w=.ok () (w.setRow g cells):=by
 simp only[Instr.storeAt,Instr.sureAddr,Sem.run_bind,Sem.run_pure,Result.andThen_ok,run_storeVar_row w g t ty old cells hg hi hold h1]
abbrev nilS:Value:=.slice none 0 0
abbrev zlL(r k:Bool)(nm pt:ByteArray)(vs vp:Value)(a:Int):List Value:=[.bool r,.bool k,.string nm,.string pt,vs,vp,.int .i64 a]
abbrev zlA(r k:Bool)(nm pt:ByteArray)(vs vp:Value)(a:Int):Array Value:=#[.bool r,.bool k,.string nm,.string pt,vs,vp,.int .i64 a]
theorem Q6c:(Tryz.prog.info? 113).map (·.size)=some 7:=by kernel_rfl
theorem z3h{r k:Bool}{nm pt:ByteArray}{vs vp:Value}{a:Int}(h1:vs.oneCell'=true)(h2:vp.oneCell'=true):(zlA r k nm pt vs vp a).all (·.oneCell')=true:=by
 refine qCq (cs:=zlL r k nm pt vs vp a) ?_;intro v hv;simp only[qBu,qEi,or_false]at hv;rcases hv with rfl|rfl|rfl|rfl|rfl|rfl|rfl
 ·rfl
 ·rfl
 ·rfl
 ·rfl
 ·exact h1
 ·exact h2
 rfl
def stZ(p v:Value):Sem Unit:=Instr.storeAt 113 p v
theorem x75(p v:Value):Instr.storeAt 113 p v=stZ p v:=rfl
structure ZLV where
 ln:ZLn
 vs:Value
 vp:Value
 pl:Int
def ZLV.cells(x:ZLV):List Value:=zlL x.ln.rule x.ln.skip x.ln.name x.ln.pat x.vs x.vp x.pl
structure ZLV.At(b:Nat)(w:World)(x:ZLV):Prop where
 syms:w.ownsRow b 9 1 x.vs x.ln.syms.length (Q98 x.ln.syms)
 places:w.ownsRow b 3 1 x.vp x.ln.places.length (W0b x.ln.places)
def noZL:ZLn:=⟨false,false,⟨#[]⟩,⟨#[]⟩,[],[]⟩
theorem ZLV.At.fresh{b:Nat}{w w':World}{x:ZLV}(h:x.At b w)(hm:Q0a w w'):x.At b w' :=
 ⟨z0d h.syms (fun g hg=>hm.block g (h.syms.lt g hg).2 id),z0d h.places (fun g hg=>hm.block g (h.places.lt g hg).2 id)⟩
theorem ZLV.At.kept{S:Nat->Prop}{b:Nat}{w w':World}{x:ZLV}(h:x.At b w)(hm:Mod S w w')(h1:∀k,x.vs.ownBlock=some k->¬S k)(h2:∀k,x.vp.ownBlock=some k->¬S k):x.At b w' :=
 ⟨z0d h.syms (fun g hg=>hm.block g (h.syms.lt g hg).2 (h1 g hg)),z0d h.places (fun g hg=>hm.block g (h.places.lt g hg).2 (h2 g hg))⟩
theorem ZLV.At.one{b:Nat}{w:World}{x:ZLV}(h:x.At b w):x.cells.toArray.all (·.oneCell')=true:=z3h (z6s h.syms) (z6s h.places)
def ZRet(w:World)(r:Option ZLn)(e:Ending)(w':World):Prop :=
 ∃x:ZLV,e=.returned (.tuple #[.agg x.cells.toArray,.bool r.isSome])/\x.At w.heap.size w'/\Q0a w w'/\∀z,r=some z->x.ln=z
theorem y85(b:Nat)(w:World)(x:ZLV)(h1:x.ln.syms=[])(h2:x.ln.places=[])(h3:x.vs=nilS)(h4:x.vp=nilS):x.At b w:=by
 refine⟨?_,?_⟩
 ·rw[h1,h3];exact qAh _ _ _ _
 rw[h2,h4];exact qAh _ _ _ _
attribute [local go_sem ↓] x75
theorem x1m(s:ByteArray)(w:World)(hs:s.size<=70000)(n:Nat)(hn:Q4e s 0=n)(hn0:0<n)(hok:Q5i s n=true) :
  Calls Tryz.prog 71 #[.string s] w fun e w'=>e=.returned (.tuple #[.agg (zlA true (atB s n==126) (s.extract 0 n) (s.extract (n+1) s.size) (.slice none 0 0) (.slice none 0 0) 0),.bool (zpK s 6 (n+1)==(s.size:Int))])/\Q0a w w':=by
 have ZL:=hid (fun w=>z2n s 0 w (by omega) (by omega));have e0:((0:Nat):Int)=0:=rfl;rw[e0,hn]at ZL;unfold Q5i at hok;rw[qAd,qAd,qAu,qAu,qAt]at hok;obtain⟨⟨h8,j2⟩,j1⟩:=hok;have PT:=hid (fun w=>y3t s (by omega) 6 0 (by omega) (n+1) w (by omega));have en:((n+1:Nat):Int)=(n:Int)+1:=by omega
 rw[en,e0]at PT;have hb:=z1u j2;rw[hb]at j1 ⊢;have j3:s[n].toNat<256:=s[n].toNat_lt;have k1:0<(n:Int):=by omega
 have k2:¬(8:Int)<(n:Int):=by omega
 have k3:¬(s.size:Int)<=(n:Int):=by omega
 have k4:(n:Int)<(s.size:Int):=by omega
 have k5:((s[n].toNat:Int) != 61&&(s[n].toNat:Int) != 126)=false:=by
  rcases j1 with h|h
  ·have:(s[n].toNat:Int)=61:=by simpa using h
   rw[this];decide
  have:(s[n].toNat:Int)=126:=by simpa using h
  rw[this];decide
 generalize zpK s 6 ((n:Int)+1)=pk at PT ⊢;have hz:(w.alloc (.cells (zlA false false ⟨#[]⟩ ⟨#[]⟩ (.slice none 0 0) (.slice none 0 0) 0) 113 (0,0))).heap[w.heap.size]? = some (.cells (zlA false false ⟨#[]⟩ ⟨#[]⟩ (.slice none 0 0) (.slice none 0 0) 0) 113 (0,0)):=z0a _ _;clear hb hn;have s1:(stZ (.pointer (some ⟨w.heap.size,0,none⟩)) (.agg #[.bool true,.bool ((s[n].toNat:Int)==126),.string (s.extract 0 n),.string (s.extract (n+1) s.size),.slice none 0 0,.slice none 0 0,.int .i64 0])).run Tryz.prog (w.alloc (.cells #[.bool false,.bool false,.string ⟨#[]⟩,.string ⟨#[]⟩,.slice none 0 0,.slice none 0 0,.int .i64 0] 113 (0,0))).drew=.ok () ((w.alloc (.cells #[.bool false,.bool false,.string ⟨#[]⟩,.string ⟨#[]⟩,.slice none 0 0,.slice none 0 0,.int .i64 0] 113 (0,0))).drew.setRow w.heap.size #[.bool true,.bool ((s[n].toNat:Int)==126),.string (s.extract 0 n),.string (s.extract (n+1) s.size),.slice none 0 0,.slice none 0 0,.int .i64 0]) :=
  z99 (t:=113) (old :=  #[.bool false,.bool false,.string ⟨#[]⟩,.string ⟨#[]⟩,.slice none 0 0,.slice none 0 0,.int .i64 0]) _ _ _ _ hz Q6c rfl (z3h rfl rfl)
 by_cases j0:s[n].toNat=61
 ·have q1:((s[n].toNat:Int) != 61)=false:=by simp[j0]
  clear j0;go_enter Tryz.func71,Tryz.ntmps71
  go_upto_region 6 with(first
   |(go_at_call 104;refine csm (ZL.out _) ?_)
   |(go_at_call 105;refine csm (PT.out _) ?_))
  go_region;all_goals
   go_wp2_with fail
   refine qAc (Q77 rfl _ _ w.heap.size 113 _ (0,0) _ rfl (qAn _ _ _ _ _ _ hz) qCi rfl Q6c) rfl ⟨rfl,?_⟩;exact((mRf _ w).alloc _).drew.setRow (by simp) _
 have q1:((s[n].toNat:Int) != 61)=true:=by simp;omega
 have q2:((s[n].toNat:Int) != 126)=false:=by rw[q1]at k5;simpa using k5
 clear j0 k5;go_enter Tryz.func71,Tryz.ntmps71
 go_upto_region 6 with(first
  |(go_at_call 104;refine csm (ZL.out _) ?_)
  |(go_at_call 105;refine csm (PT.out _) ?_))
 go_region;all_goals
  go_wp2_with fail
  refine qAc (Q77 rfl _ _ w.heap.size 113 _ (0,0) _ rfl (qAn _ _ _ _ _ _ hz) qCi rfl Q6c) rfl ⟨rfl,?_⟩;exact((mRf _ w).alloc _).drew.setRow (by simp) _
end Go.Proofs.YtbdpfmalabgmbaaGreat
