import Derived.Test.YtcpceafmlgaodaaGreatRf2
namespace Go.Proofs.YtcpceafmlgaodaaGreat
open Go.RowKit
set_option maxRecDepth 99999
set_option maxHeartbeats 0
set_option linter.all false
theorem z1r{p:ByteArray}{i:Nat}(h:i<p.size):atB p (i:Nat)=p[i].toNat:=by unfold atB;rw[qEi ⟨by omega,by simpa using h⟩];simp
theorem z18{p:ByteArray}{i:Int}(h:p.size<=i):atB p i=-1:=by unfold atB;rw[qEp (by omega)]
theorem x95(x:Int):okI true x=x:=rfl
theorem x3r(x:Int):okI false x=-1:=rfl
def PatC(p:ByteArray)(d:Nat)(f:Int->Int):Prop:=∀(i:Nat) (w:World),i<=p.size+1->Calls Tryz.prog 88 #[.string p,.int .i64 i,.int .i64 d] w fun e w'=>e=.returned (.int .i64 (f i))/\w'=w
def AtmC(p:ByteArray)(d:Nat)(f:Int->Int):Prop:=∀(i:Nat) (w:World),i<=p.size+1->Calls Tryz.prog 123 #[.string p,.int .i64 i,.int .i64 d] w fun e w'=>e=.returned (.int .i64 (f i))/\w'=w
def PceC(p:ByteArray)(d:Nat)(f:Int->Int):Prop:=∀(i:Nat) (w:World),i<=p.size+1->Calls Tryz.prog 115 #[.string p,.int .i64 i,.int .i64 d] w fun e w'=>e=.returned (.int .i64 (f i))/\w'=w
theorem y0e(p:ByteArray)(k d:Nat)(hp:p.size<=80000)(hd:d+k=6)(ih:∀k',k=k'+1->PatC p (d+1) (zpK p k')):AtmC p d (Q3r (zgK p k) p):=by
  intro i w hi;by_cases h1:i<p.size
  · have hb:=z1r h1
    have jg:p[i].toNat<256:=p[i].toNat_lt;have j3:¬(p.size:Int)<=(i:Int):=by omega
    have jc:(i:Int)<(p.size:Int):=by omega
    have ZP:=hid (fun w=>x07 p[i].toNat w (by omega));unfold Q3r;unfold Q2n;rw[hb];by_cases q46:p[i].toNat=46
    · have kk:((p[i].toNat:Int)==46)=true:=by simp[q46]
      rw[qAa (by omega),qAb (by omega)];dsimp only;rw[x95];rw[show Q01 (p[i].toNat:Int)=false from by rw[q46];decide]at ZP;clear hb q46;go_enter Tryz.func123,Tryz.ntmps123
      go_wp2_with (first
        |(go_at_call 127;refine csm (ZP.out _) ?_))
      go_ret;exact⟨rfl,rfl⟩
    have ji:((p[i].toNat:Int)==46)=false:=by simp;omega
    by_cases qpl:Q01 (p[i].toNat:Int)=true
    · have jj:p[i].toNat≠40:=fun e=>by rw[e]at qpl;revert qpl;decide
      have jk:p[i].toNat≠91:=fun e=>by rw[e]at qpl;revert qpl;decide
      have jl:p[i].toNat≠92:=fun e=>by rw[e]at qpl;revert qpl;decide
      rw[qAa (by omega),qAa (by omega),qAa (by omega),qAa (by omega),qAa (by rw[qpl];simp)];dsimp only;rw[x95];rw[qpl]at ZP;clear hb qpl;go_enter Tryz.func123,Tryz.ntmps123
      go_wp2_with (first
        |(go_at_call 127;refine csm (ZP.out _) ?_))
      go_ret;exact⟨rfl,rfl⟩
    have j0:Q01 (p[i].toNat:Int)=false:=by simpa using qpl
    rw[j0]at ZP;clear qpl;by_cases q92:p[i].toNat=92
    · have jb:((p[i].toNat:Int)==92)=true:=by simp[q92]
      rw[qAa (by omega),qAa (by omega),qAa (by omega),qAb (by omega)];dsimp only;rw[y18];by_cases h3:i+1<p.size
      · have j1:atB p ((i:Int)+1)=p[i+1].toNat:=by rw[← z1r h3];rfl
        have j4:p[i+1].toNat<256:=p[i+1].toNat_lt;have je:(i:Int)+1<(p.size:Int):=by omega
        have jf:((i:Int)+1).toNat=i+1:=by omega
        rw[j1];have ZM:=hid (fun w=>z5z p[i+1].toNat w (by omega));generalize mkF (p[i+1].toNat:Int)=m at ZM ⊢;obtain⟨v,ok⟩:=m;dsimp only at ZM ⊢;clear hb j1 j0 q92;cases ok
        · rw[qAa (by simp)]
          dsimp only;rw[x3r];go_enter Tryz.func123,Tryz.ntmps123
          go_wp2_with (first
            |(go_at_call 127;refine csm (ZP.out _) ?_)
            |(go_at_call 128;refine csm (ZM.out _) ?_))
          go_ret;exact⟨rfl,rfl⟩
        rw[qAb rfl];dsimp only;rw[x95,show(i:Int)+1+1=(i:Int)+2 by omega];go_enter Tryz.func123,Tryz.ntmps123
        go_wp2_with (first
          |(go_at_call 127;refine csm (ZP.out _) ?_)
          |(go_at_call 128;refine csm (ZM.out _) ?_))
        go_ret;exact⟨rfl,rfl⟩
      have jd:¬(i:Int)+1<(p.size:Int):=by omega
      have j1:atB p ((i:Int)+1)=-1:=z18 (by omega);rw[j1,show mkF (-1)=(-1,false) from by decide];dsimp only;rw[qAa (by simp)];dsimp only;rw[x3r];clear hb j1 j0 q92;go_enter Tryz.func123,Tryz.ntmps123
      go_wp2_with (first
        |(go_at_call 127;refine csm (ZP.out _) ?_))
      go_ret;exact⟨rfl,rfl⟩
    have jb:((p[i].toNat:Int)==92)=false:=by simp;omega
    by_cases q91:p[i].toNat=91
    · have ja:((p[i].toNat:Int)==91)=true:=by simp[q91]
      rw[qAa (by omega),qAa (by omega),qAb (by omega)];have ZC:=hid (fun w=>x01 p i w (by omega) h1);generalize okI (rBr p ((i:Int)+1)).2.2 (rBr p ((i:Int)+1)).2.1=v at ZC ⊢;clear hb j0 q91;go_enter Tryz.func123,Tryz.ntmps123
      go_wp2_with (first
        |(go_at_call 127;refine csm (ZP.out _) ?_)
        |(go_at_call 129;refine csm (ZC.out _) ?_))
      go_ret;exact⟨rfl,rfl⟩
    have ja:((p[i].toNat:Int)==91)=false:=by simp;omega
    by_cases q40:p[i].toNat=40
    · have j8:((p[i].toNat:Int)==40)=true:=by simp[q40]
      rw[qAb (by omega)];cases k with
      |zero =>
        show Calls _ _ _ _ (fun e w'=>e=.returned (.int .i64 (-1))/\w'=w);have j6:¬(d:Int)<6:=by omega
        clear hb j0 ih q40;go_enter Tryz.func123,Tryz.ntmps123
        go_wp2_with (first
          |(go_at_call 127;refine csm (ZP.out _) ?_))
        go_ret;exact⟨rfl,rfl⟩
      |succ k' =>
        have j6:(d:Int)<6:=by omega
        have jh:d<=6:=by omega
        have PT:=hid (fun w=>ih k' rfl (i+1) w (by omega));have ei:((i+1:Nat):Int)=(i:Int)+1:=by omega
        have ed:((d+1:Nat):Int)=(d:Int)+1:=by omega
        rw[ei,ed]at PT;show Calls _ _ _ _ (fun e w'=>e=.returned (.int .i64 (zGrp (zpK p k') p i))/\w'=w);unfold zGrp;generalize zpK p k' ((i:Int)+1)=v at PT ⊢;clear hb j0 ih q40;by_cases hv:0<=v
        · obtain⟨j,rfl⟩:∃j:Nat,v=j:=⟨v.toNat,by omega⟩
          by_cases hj:j<p.size
          · have j2:=z1r hj
            have j5:p[j].toNat<256:=p[j].toNat_lt;have j7:(j:Int)<(p.size:Int):=by omega
            rw[j2];by_cases q41:p[j].toNat=41
            · have j9:((p[j].toNat:Int)==41)=true:=by simp[q41]
              rw[qAb ⟨hv,by omega⟩];clear j2 q41;go_enter Tryz.func123,Tryz.ntmps123
              go_wp2_with (first
                |(go_at_call 127;refine csm (ZP.out _) ?_)
                |(go_at_call 88;refine csm (PT.out _) ?_))
              go_ret;exact⟨rfl,rfl⟩
            have j9:((p[j].toNat:Int)==41)=false:=by simp;omega
            rw[qAa (by omega)];clear j2;go_enter Tryz.func123,Tryz.ntmps123
            go_wp2_with (first
              |(go_at_call 127;refine csm (ZP.out _) ?_)
              |(go_at_call 88;refine csm (PT.out _) ?_))
            go_ret;exact⟨rfl,rfl⟩
          have j7:¬(j:Int)<(p.size:Int):=by omega
          rw[z18 (by omega),qAa (by omega)];go_enter Tryz.func123,Tryz.ntmps123
          go_wp2_with (first
            |(go_at_call 127;refine csm (ZP.out _) ?_)
            |(go_at_call 88;refine csm (PT.out _) ?_))
          go_ret;exact⟨rfl,rfl⟩
        rw[qAa (fun e=>hv e.1)];go_enter Tryz.func123,Tryz.ntmps123
        go_wp2_with (first
          |(go_at_call 127;refine csm (ZP.out _) ?_)
          |(go_at_call 88;refine csm (PT.out _) ?_))
        go_ret;exact⟨rfl,rfl⟩
    have j8:((p[i].toNat:Int)==40)=false:=by simp;omega
    rw[qAa (by omega),qAa (by omega),qAa (by omega),qAa (by omega),qAb j0];dsimp only;rw[x3r];clear hb j0 ih;go_enter Tryz.func123,Tryz.ntmps123
    go_wp2_with (first
      |(go_at_call 127;refine csm (ZP.out _) ?_))
    go_ret;exact⟨rfl,rfl⟩
  have j3:(p.size:Int)<=(i:Int):=by omega
  have hE:Q3r (zgK p k) p i=-1:=by
    have hb:atB p (i:Nat)=-1:=z18 (by omega);unfold Q3r Q2n;rw[hb,qAa (by decide),qAa (by decide),qAa (by decide),qAa (by decide),qAb (by decide)];exact x3r _
  rw[hE];clear hE ih;go_enter Tryz.func123,Tryz.ntmps123
  go_wp2;go_ret;exact⟨rfl,rfl⟩
def Fwd(p:ByteArray)(f:Int->Int):Prop:=∀x:Int,0<=x->f x=-1∨(x<f x/\f x<=p.size)
theorem y5p(p:ByteArray)(k:Nat):Fwd p (Q3r (zgK p k) p):=by
  intro x h0;by_cases h1:x<=p.size
  · have h:=z7c (p:=p) k h0
    unfold Q64 at h;cases hk:(Q3i (lgK p k) p x).ok
    · left;rw[h,hk];rfl
    right;have g:=z2r p k x h0 h1 hk;rw[h,hk];exact g
  left;have hb:atB p x=-1:=z18 (by omega);unfold Q3r Q2n;rw[hb,qAa (by decide),qAa (by decide),qAa (by decide),qAa (by decide),qAb (by decide)];exact x3r _
theorem y0b(p:ByteArray):∀(f:Nat) (x:Int),x<=p.size->x<=Q47 p f x/\Q47 p f x<=p.size
  |0,x,h=>⟨Int.le_refl _,h⟩
  |f+1,x,h=>by
    rw[z6o];split
    · rename_i c
      have:=z0q (s:=p) (i:=x) (z9g c.2);have:=y0b p f (x+1) (by omega);omega
    omega
theorem y7g(p:ByteArray)(f:Nat):Q47 p f (-1)=-1:=by
  cases f with
  |zero=>rfl
  |succ f=>rw[z6o,qAa (by omega)]
theorem x06(p:ByteArray)(k:Nat):Fwd p (Q4b (Q3r (zgK p k) p) p):=by
  intro x h0;unfold Q4b;rcases y5p p k x h0 with h|h
  · left;rw[h];exact y7g p _
  right;have:=y0b p (p.size+5) (Q3r (zgK p k) p x) h.2;omega
theorem z7e(p:ByteArray)(k d:Nat)(hp:p.size<=80000)(hA:AtmC p d (Q3r (zgK p k) p)):PceC p d (Q4b (Q3r (zgK p k) p) p):=by
  intro i w hi;have AT:=hid (fun w=>hA i w hi);have hf:=y5p p k i (by omega);unfold Q4b;generalize Q3r (zgK p k) p i=a at AT hf ⊢;have j0:-1<=a:=by omega
  have j1:a<=p.size:=by omega
  have ZS:=hid (fun(c:Int) (w:World)=>y7m c w);generalize hV:Q47 p (p.size+5) a=V;have HV:=hid hV;clear hV hA hf;go_enter Tryz.func115,Tryz.ntmps115
  go_wp2_with (first
    |(go_at_call 123;refine csm (AT.out _) ?_))
  go_loopw [7] (fun x7 wr=>∃(y:Int) (F:Nat),x7=.int .i64 y/\-1<=y/\y<=p.size/\(p.size:Int)+2<=F+y/\Q47 p F y=V/\wr=w)
      (fun x _=>(100000-intOf x).toNat)
  case atStart=>exact⟨a,p.size+5,rfl,j0,j1,by omega,HV.out,rfl⟩
  obtain⟨y,F,rfl,hy1,hy2,hF,hrec,rfl⟩:=hrel;obtain⟨F,rfl⟩:∃k,F=k+1:=⟨F-1,by omega⟩;rw[z6o]at hrec;clear HV;by_cases h0:0<=y
  · obtain⟨j,rfl⟩:∃j:Nat,y=j:=⟨y.toNat,by omega⟩
    by_cases hj:j<p.size
    · have hb:=z1r hj
      have j3:p[j].toNat<256:=p[j].toNat_lt;have j2:(j:Int)<(p.size:Int):=by omega
      rw[hb]at hrec;have ZX:=hid (fun w=>ZS.out (p[j].toNat:Int) w);generalize Q1q (p[j].toNat:Int)=mk at ZX hrec;clear hb;cases mk
      · rw[qAa (by simp)]at hrec
        have HR:=hid hrec;clear hrec;go_wp2_with (first
          |(go_at_call 124;refine csm (ZX.out _) ?_))
        go_ret;exact⟨by rw[← HR.out];rfl,rfl⟩
      rw[qAb ⟨h0,rfl⟩]at hrec;have HR:=hid hrec;clear hrec;go_wp2_with (first
        |(go_at_call 124;refine csm (ZX.out _) ?_))
      go_roundw
      case rel=>exact⟨(j:Int)+1,F,rfl,by omega,by omega,by omega,HR.out,by first|rfl|trivial⟩
      simp[intOf];omega
    have j2:¬(j:Int)<(p.size:Int):=by omega
    rw[z18 (by omega),qAa (by intro q;exact absurd q.2 (by decide))]at hrec;have HR:=hid hrec;clear hrec;go_wp2;go_ret;exact⟨by rw[← HR.out];rfl,rfl⟩
  rw[qAa (fun q=>h0 q.1)]at hrec;have HR:=hid hrec;clear hrec;go_wp2;go_ret;exact⟨by rw[← HR.out];rfl,rfl⟩
theorem z7w(p:ByteArray)(k d:Nat)(hp:p.size<=80000) (hP:PceC p d (Q4b (Q3r (zgK p k) p) p)):PatC p d (zpK p k):=by
  intro i w hi;have PC:=hid hP;have FW:=hid (x06 p k);show Calls _ _ _ _ (fun e w'=>e=.returned (.int .i64 (zPat (Q4b (Q3r (zgK p k) p) p) p i))/\w'=w);generalize Q4b (Q3r (zgK p k) p) p=pc at PC FW ⊢;have PI:=hid (fun w=>PC.out i w hi);have hf:=FW.out i (by omega);unfold zPat
  generalize pc i=a at PI hf ⊢;have j1:-1<=a:=by omega
  have j2:a<=p.size:=by omega
  generalize hV:Q85 pc p (p.size+5) a=V;have HV:=hid hV;clear hV hP hf;go_enter Tryz.func88,Tryz.ntmps88
  go_wp2_with (first
    |(go_at_call 115;refine csm (PI.out _) ?_))
  go_loopw [1,7,8] (fun x1 _ _ wr=>∃(y:Int) (F:Nat),x1=.int .i64 y/\-1<=y/\y<=p.size/\(p.size:Int)+2<=F+y/\Q85 pc p F y=V/\wr=w)
      (fun x _ _ _=>(100000-intOf x).toNat)
  case atStart=>exact⟨a,p.size+5,rfl,j1,j2,by omega,HV.out,rfl⟩
  obtain⟨y,F,rfl,hy1,hy2,hF,hrec,rfl⟩:=hrel;obtain⟨F,rfl⟩:∃k,F=k+1:=⟨F-1,by omega⟩;rw[y0a]at hrec;clear HV PI;by_cases h0:0<=y
  · obtain⟨j,rfl⟩:∃j:Nat,y=j:=⟨y.toNat,by omega⟩
    by_cases hj:j<p.size
    · have hb:=z1r hj
      have j3:p[j].toNat<256:=p[j].toNat_lt;have j0:(j:Int)<(p.size:Int):=by omega
      rw[qAb ⟨h0,j0⟩]at hrec;by_cases q:p[j].toNat=124
      · have kq:((p[j].toNat:Int)==124)=true:=by simp[q]
        have ez:zJ p (j:Nat)=(j:Int)+1:=by unfold zJ;rw[hb,qAb (by omega)]
        rw[ez]at hrec;have PJ:=hid (fun w=>PC.out (j+1) w (by omega));have hf:=FW.out ((j:Int)+1) (by omega);have ej:((j+1:Nat):Int)=(j:Int)+1:=by omega
        rw[ej]at PJ;generalize pc ((j:Int)+1)=v at PJ hf hrec;clear hb q PC FW ez;by_cases hv:v<0
        · rw[qAb hv]at hrec
          have HR:=hid hrec;clear hrec;go_wp2_with (first
            |(go_at_call 115;refine csm (PJ.out _) ?_))
          go_ret;exact⟨by rw[← HR.out];rfl,rfl⟩
        rw[qAa hv]at hrec;have HR:=hid hrec;clear hrec;go_wp2_with (first
          |(go_at_call 115;refine csm (PJ.out _) ?_))
        go_roundw
        case rel=>exact⟨v,F,rfl,by omega,by omega,by omega,HR.out,by first|rfl|trivial⟩
        simp[intOf];omega
      have kq:((p[j].toNat:Int)==124)=false:=by simp;omega
      have ez:zJ p (j:Nat)=(j:Int):=by unfold zJ;rw[hb,qAa (by omega)]
      rw[ez]at hrec;have PJ:=hid (fun w=>PC.out j w (by omega));have hf:=FW.out (j:Int) (by omega);generalize pc (j:Int)=v at PJ hf hrec;clear hb q PC FW ez;by_cases hv:v<0
      · rw[qAb hv]at hrec
        have HR:=hid hrec;clear hrec;go_wp2_with (first
          |(go_at_call 115;refine csm (PJ.out _) ?_))
        go_ret;exact⟨by rw[← HR.out];rfl,rfl⟩
      rw[qAa hv]at hrec;have HR:=hid hrec;clear hrec;go_wp2_with (first
        |(go_at_call 115;refine csm (PJ.out _) ?_))
      go_roundw
      case rel=>exact⟨v,F,rfl,by omega,by omega,by omega,HR.out,by first|rfl|trivial⟩
      simp[intOf];omega
    have j0:¬(j:Int)<(p.size:Int):=by omega
    rw[qAa (fun q=>j0 q.2)]at hrec;have HR:=hid hrec;clear hrec;go_wp2;go_ret;exact⟨by rw[← HR.out];rfl,rfl⟩
  rw[qAa (fun q=>h0 q.1)]at hrec;have HR:=hid hrec;clear hrec;go_wp2;go_ret;exact⟨by rw[← HR.out];rfl,rfl⟩
theorem y3b(p:ByteArray)(hp:p.size<=80000):∀(k d:Nat),d+k=6->PatC p d (zpK p k)
  |0,d,h=>z7w p 0 d hp (z7e p 0 d hp (y0e p 0 d hp h (fun k' e=>by omega)))
  | k + 1,d,h=>z7w p (k+1) d hp (z7e p (k+1) d hp (y0e p (k+1) d hp h (fun k' e=>by
      have:k'=k:=by omega
      subst this;exact y3b p hp k' (d+1) (by omega))))
def Q6i(s:ByteArray):Nat->Int->Nat
  |0,_=>0
  |f+1,x=>if Q0l (atB s x)=true then Q6i s f (x+1)+1 else 0
def Q37(s:ByteArray)(i:Int):Nat:=Q6i s (s.size+2) i
theorem y7e(s:ByteArray)(f:Nat)(x:Int):Q6i s (f+1) x=if Q0l (atB s x)=true then Q6i s f (x+1)+1 else 0:=rfl
theorem y2s{c:Int}(h:Q0l c=true):c≠-1:=by intro e;rw[e]at h;revert h;decide
theorem z8d(s:ByteArray):∀(f:Nat) (x:Int),0<=x->x<=s.size->x+Q6i s f x<=s.size
  |0,x,_,h=>by simp[Q6i];exact h
  |f+1,x,h0,h=>by
    rw[y7e];split
    · rename_i c
      have:=z0q (s:=s) (i:=x) (y2s c);have:=z8d s f (x+1) (by omega) (by omega);omega
    simp;exact h
theorem z2g(s:ByteArray)(i:Nat)(w:World)(hs:s.size<=80000)(hi:i<=s.size+1) :
    Calls Tryz.prog 87 #[.string s,.int .i64 i] w fun e w'=>e=.returned (.int .i64 (Q37 s i:Nat))/\w'=w:=by
  have ZS:=hid (fun(c:Int) (w:World)=>y1q c w);unfold Q37;generalize hV:Q6i s (s.size+2) i=V;have HV:=hid hV;clear hV;go_enter Tryz.func87,Tryz.ntmps87
  go_wp2;go_loopw [5] (fun x5 wr=>∃(n F:Nat),x5=.int .i64 n/\i+n<=s.size+1/\s.size+2<=F+i+n/\n+Q6i s F ((i:Int)+n)=V/\wr=w)
      (fun x _=>200000-(intOf x).toNat)
  case atStart=>exact⟨0,s.size+2,rfl,by omega,by omega,by rw[← HV.out];simp,rfl⟩
  obtain⟨n,F,rfl,hn,hF,hrec,rfl⟩:=hrel;obtain⟨F,rfl⟩:∃k,F=k+1:=⟨F-1,by omega⟩;rw[y7e]at hrec;clear HV;by_cases hj:i+n<s.size
  · have hb:atB s ((i:Int)+n)=s[i+n].toNat:=by rw[← z1r hj];congr 1
    have j2:s[i+n].toNat<256:=s[i+n].toNat_lt;have j0:(i:Int)+(n:Int)<(s.size:Int):=by omega
    have j1:((i:Int)+(n:Int)).toNat=i+n:=by omega
    rw[hb]at hrec;have ZX:=hid (fun w=>ZS.out (s[i+n].toNat:Int) w);generalize Q0l (s[i+n].toNat:Int)=mk at ZX hrec;clear hb;cases mk
    · rw[qAa (by simp)]at hrec
      have HR:Hid (n=V):=by unfold Hid;omega
      clear hrec;go_wp2_with (first
        |(go_at_call 114;refine csm (ZX.out _) ?_))
      go_ret;exact⟨by rw[← HR.out];rfl,rfl⟩
    rw[qAb rfl]at hrec;have HR:Hid (n+1+Q6i s F ((i:Int)+((n+1:Nat):Int))=V):=by
      unfold Hid;rw[show(i:Int)+((n+1:Nat):Int)=(i:Int)+n+1 by omega];omega
    clear hrec;go_wp2_with (first
      |(go_at_call 114;refine csm (ZX.out _) ?_))
    go_roundw
    case rel=>exact⟨n+1,F,by go_num,by omega,by omega,HR.out,by first|rfl|trivial⟩
    simp[intOf];omega
  have j0:¬(i:Int)+(n:Int)<(s.size:Int):=by omega
  rw[z18 (by omega),qAa (by decide)]at hrec;have HR:Hid (n=V):=by unfold Hid;omega
  clear hrec;go_wp2;go_ret;exact⟨by rw[← HR.out];rfl,rfl⟩
def Q5k(s:ByteArray)(i:Int):Int :=
  if(s.size:Int)<=i then -1
  else if Q1a (atB s i)=true then(if 8<1+(Q37 s (i+1):Int) then -1 else i+1+Q37 s (i+1))
  else(if(Q37 s i:Int)=0∨8<(Q37 s i:Int) then -1 else i+Q37 s i)
theorem z50(s:ByteArray)(i:Nat)(w:World)(hs:s.size<=80000)(hi:i<=100000) :
    Calls Tryz.prog 89 #[.string s,.int .i64 i] w fun e w'=>e=.returned (.int .i64 (Q5k s i))/\w'=w:=by
  unfold Q5k;by_cases h1:i<s.size
  · have hb:=z1r h1
    have j4:s[i].toNat<256:=s[i].toNat_lt;have j2:¬(s.size:Int)<=(i:Int):=by omega
    have j3:(i:Int)<(s.size:Int):=by omega
    have ZG:=hid (fun w=>z7d (s[i].toNat:Int) w);rw[qAa j2,hb];generalize Q1a (s[i].toNat:Int)=cp at ZG ⊢;clear hb;cases cp
    · rw[qAa (by simp)]
      have ZL:=hid (fun w=>z2g s i w hs (by omega));have j1:=z8d s (s.size+2) i (by omega) (by omega);have j0:(i:Int)+(Q37 s i:Nat)<=s.size:=j1;clear j1;generalize Q37 s (i:Nat)=n at ZL j0 ⊢;by_cases q:n=0
      · subst q
        rw[qAb (.inl rfl)];go_enter Tryz.func89,Tryz.ntmps89
        go_wp2_with (first
          |(go_at_call 64;refine csm (ZG.out _) ?_)
          |(go_at_call 87;refine csm (ZL.out _) ?_))
        go_ret;exact⟨rfl,rfl⟩
      have k1:(((i:Int)+(n:Int))==(i:Int))=false:=by simp;omega
      have k2:¬(i:Int)+(n:Int)=(i:Int):=by omega
      have k3:(i:Int)+(n:Int)-(i:Int)=(n:Int):=by omega
      by_cases q8:8<n
      · have k8:(8:Int)<(n:Int):=by omega
        rw[qAb (.inr k8)];go_enter Tryz.func89,Tryz.ntmps89
        go_wp2_with (first
          |(go_at_call 64;refine csm (ZG.out _) ?_)
          |(go_at_call 87;refine csm (ZL.out _) ?_))
        go_ret;exact⟨rfl,rfl⟩
      have k8:¬(8:Int)<(n:Int):=by omega
      rw[qAa (by omega)];go_enter Tryz.func89,Tryz.ntmps89
      go_wp2_with (first
        |(go_at_call 64;refine csm (ZG.out _) ?_)
        |(go_at_call 87;refine csm (ZL.out _) ?_))
      go_ret;exact⟨rfl,rfl⟩
    rw[qAb rfl];have ZL:=hid (fun w=>z2g s (i+1) w hs (by omega));have ei:((i+1:Nat):Int)=(i:Int)+1:=by omega
    rw[ei]at ZL;have j1:=z8d s (s.size+2) ((i:Int)+1) (by omega) (by omega);have j0:(i:Int)+1+(Q37 s ((i:Int)+1):Nat)<=s.size:=j1;clear j1;generalize Q37 s ((i:Int)+1)=n at ZL j0 ⊢;have k1:(((i:Int)+1+(n:Int))==(i:Int))=false:=by simp;omega
    have k2:¬(i:Int)+1+(n:Int)=(i:Int):=by omega
    have k3:(i:Int)+1+(n:Int)-(i:Int)=1+(n:Int):=by omega
    by_cases q8:8<1+n
    · have k8:(8:Int)<1+(n:Int):=by omega
      rw[qAb k8];go_enter Tryz.func89,Tryz.ntmps89
      go_wp2_with (first
        |(go_at_call 64;refine csm (ZG.out _) ?_)
        |(go_at_call 87;refine csm (ZL.out _) ?_))
      go_ret;exact⟨rfl,rfl⟩
    have k8:¬(8:Int)<1+(n:Int):=by omega
    rw[qAa k8];go_enter Tryz.func89,Tryz.ntmps89
    go_wp2_with (first
      |(go_at_call 64;refine csm (ZG.out _) ?_)
      |(go_at_call 87;refine csm (ZL.out _) ?_))
    go_ret;exact⟨rfl,rfl⟩
  have j2:(s.size:Int)<=(i:Int):=by omega
  rw[qAb j2];go_enter Tryz.func89,Tryz.ntmps89
  go_wp2;go_ret;exact⟨rfl,rfl⟩
structure Q8i(u:ByteArray)(x:Int)(m:Nat):Prop where
  pos:1<=m
  le:m<=8
  first:Q0l (atB u x)=true∨Q1a (atB u x)=true
  rest:∀k:Nat,1<=k->k<m->Q0l (atB u (x+k))=true
  stop:Q0l (atB u (x+m))=false
theorem y5c{c:Int}(h:Q1a c=true):Q0l c=false:=by
  unfold Q1a at h;unfold Q0l;rw[qAc,qAm,qAm]at h;rw[Bool.and_eq_false_iff,qBr,qBr];omega
theorem y1o(s:ByteArray):∀(f:Nat) (x:Int),(s.size:Int)+1<=f+x->(∀k:Nat,k<Q6i s f x->Q0l (atB s (x+k))=true)/\Q0l (atB s (x+Q6i s f x))=false
  |0,x,h=>by
    refine⟨fun k hk=>by simp[Q6i]at hk,?_⟩;rw[z18 (by simp[Q6i];omega)];decide
  |f+1,x,h=>by
    rw[y7e];by_cases c:Q0l (atB s x)=true
    · rw[qAb c]
      obtain⟨h1,h2⟩:=y1o s f (x+1) (by omega);refine⟨fun k hk=>?_,?_⟩
      · cases k with
        |zero=>simpa using c
        |succ k =>
          have:=h1 k (by omega);rw[show x+((k+1:Nat):Int)=x+1+k by omega];exact this
      rw[show x+((Q6i s f (x+1)+1:Nat):Int)=x+1+Q6i s f (x+1) by omega];exact h2
    rw[qAa c];refine⟨fun k hk=>by omega,by simpa using c⟩
theorem z5a(s:ByteArray){x:Int}(h0:0<=x):(∀k:Nat,k<Q37 s x->Q0l (atB s (x+k))=true)/\Q0l (atB s (x+Q37 s x))=false:=y1o s _ x (by omega)
theorem y27{s:ByteArray}{x:Int}{m:Nat}(h0:0<=x)(h:∀k:Nat,k<m->Q0l (atB s (x+k))=true)(hs:Q0l (atB s (x+m))=false):Q37 s x=m:=by
  obtain⟨h1,h2⟩:=z5a s h0;rcases Nat.lt_trichotomy (Q37 s x) m with q|q|q
  · rw[h _ q]at h2;cases h2
  · exact q
  rw[h1 m q]at hs;cases hs
theorem y0d{u:ByteArray}{x:Int}(h0:0<=x)(h:0<=Q5k u x):∃m,Q8i u x m/\Q5k u x=x+m:=by
  unfold Q5k at h ⊢;by_cases c0:(u.size:Int)<=x
  · rw[qAb c0]at h;omega
  rw[qAa c0]at h ⊢;by_cases c1:Q1a (atB u x)=true
  · rw[qAb c1]at h ⊢
    obtain⟨h1,h2⟩:=z5a u (x:=x+1) (by omega);by_cases c2:8<1+(Q37 u (x+1):Int)
    · rw[qAb c2]at h;omega
    rw[qAa c2];refine⟨Q37 u (x+1)+1,⟨by omega,by omega,.inr c1,fun k k1 k2=>?_,?_⟩,by omega⟩
    · have:=h1 (k-1) (by omega)
      rw[show x+(k:Int)=x+1+((k-1:Nat):Int) by omega];exact this
    rw[show x+((Q37 u (x+1)+1:Nat):Int)=x+1+Q37 u (x+1) by omega];exact h2
  rw[qAa c1]at h ⊢;obtain⟨h1,h2⟩:=z5a u (x:=x) h0;by_cases c2:(Q37 u x:Int)=0∨8<(Q37 u x:Int)
  · rw[qAb c2]at h;omega
  rw[qAa c2];refine⟨Q37 u x,⟨by omega,by omega,.inl ?_,fun k k1 k2=>h1 k k2,h2⟩,rfl⟩;have:=h1 0 (by omega);simpa using this
theorem x5j{u:ByteArray}{x:Int}{m:Nat}(h0:0<=x)(h:Q8i u x m):Q5k u x=x+m:=by
  have hp:=h.pos;have hl:=h.le;have j0:¬(u.size:Int)<=x:=fun q=>by
    have e:=z18 (p:=u) (i:=x) q;have:=h.first;rw[e]at this;revert this;decide
  unfold Q5k;rw[qAa j0];by_cases c1:Q1a (atB u x)=true
  · have e:Q37 u (x+1)=m-1:=y27 (by omega) (fun k hk=>by
      have:=h.rest (k+1) (by omega) (by omega);rw[show x+1+(k:Int)=x+((k+1:Nat):Int) by omega];exact this) (by
      rw[show x+1+((m-1:Nat):Int)=x+m by omega];exact h.stop)
    rw[qAb c1,e,qAa (by omega)];omega
  have c2:Q0l (atB u x)=true:=by
    rcases h.first with q|q
    · exact q
    exact absurd q c1
  have e:Q37 u x=m:=y27 h0 (fun k hk=>by
    by_cases k0:k=0
    · subst k0;simpa using c2
    exact h.rest k (by omega) hk) h.stop
  rw[qAa c1,e,qAa (by omega)]
theorem z9p(s:ByteArray)(i:Int):∀(f n:Nat) (ls:List Int),n<=8->9<=f+n->(Q2h s i f n ls).2=i+8∨Q0l (atB s (Q2h s i f n ls).2)=false
  |0,n,ls,h1,h2=>by omega
  |f+1,n,ls,h1,h2=>by
    unfold Q2h;split
    · split
      · exact z9p s i f (n+1) _ (by omega) (by omega)
      right;rename_i q;simpa using q
    left;rfl
theorem x0e{s:ByteArray}{i:Int}(h:(Q06 s i).2.2=true):(Q06 s i).2.1=i+8∨Q0l (atB s (Q06 s i).2.1)=false:=by
  unfold Q06 at h ⊢;split
  · rename_i e;rw[qAb e]at h;cases h
  exact z9p s i 9 1 _ (by omega) (by omega)
theorem y2k{s:ByteArray}{i:Int}{m:Nat}(h:Q8i s i m):(Q06 s i).2.2=true/\(Q06 s i).2.1=i+m/\WordAt s i m (Q06 s i).1:=by
  have j0:(Q06 s i).2.2=true:=by
    unfold Q06;have:(!Q0l (atB s i)&&!Q1a (atB s i))=false:=by
      rcases h.first with q|q<;>rw[q]<;>simp
    rw[qAa (by rw[this];simp)]
  obtain⟨n,hw,hn⟩:=z8a s i j0;have hp:=hw.pos;have hl:=hw.le;have j2:=h.pos;have j1:=h.le;have e:n=m:=by
    rcases Nat.lt_trichotomy n m with q|q|q
    · rcases x0e j0 with z|z
      · omega
      rw[hn,h.rest n (by omega) q]at z;cases z
    · exact q
    have z:=h.stop;rw[hw.rest m (by omega) q]at z;cases z
  subst e;exact⟨j0,hn,hw⟩
theorem WordAt.wordy{s:ByteArray}{i:Int}{m:Nat}{d:Wd}(h:WordAt s i m d)(hs:Q0l (atB s (i+m))=false):Q8i s i m:=⟨h.pos,h.le,h.first,h.rest,hs⟩
theorem z02{s:ByteArray}{a e:Nat}(he:e<=s.size){k:Int}(h0:0<=k)(hk:a+k<e):atB (s.extract a e) k=atB s (a+k):=by
  obtain⟨n,rfl⟩:∃n:Nat,k=n:=⟨k.toNat,by omega⟩;exact z3u s a e n he (by omega)
theorem z10{s:ByteArray}{a e:Nat}(he:e<=s.size):(s.extract a e).size=e-a:=by rw[qAz];omega
section
variable {s:ByteArray}{a e:Nat}
theorem y89(he:e<s.size)(h10:atB s (e:Nat)=10){x:Int}{m:Nat}(h0:0<=x)(h:Q8i (s.extract a e) x m):Q8i s (a+x) m/\a+x+m<=e:=by
  have hp:=h.pos;have j2:=z10 (s:=s) (a:=a) (e:=e) (by omega);have j0:∀k:Nat,k<m->a+x+k<e:=fun k hk=>by
    have hc:atB (s.extract a e) (x+k)≠-1:=by
      by_cases k0:k=0
      · subst k0
        intro q;have:=h.first;simp only[qDj,qCs]at q;rw[q]at this;revert this;decide
      exact y2s (h.rest k (by omega) hk)
    have:=z0q hc;omega
  have hb:∀k:Nat,k<m->atB (s.extract a e) (x+k)=atB s (a+x+k):=fun k hk=>by
    rw[z02 (by omega) (by omega) (by have:=j0 k hk;omega),Int.add_assoc]
  have j1:=j0 (m-1) (by omega);refine⟨⟨h.pos,h.le,?_,fun k k1 k2=>?_,?_⟩,by omega⟩
  · have:=hb 0 (by omega)
    simp only[qDj,qCs]at this;rw[← this];exact h.first
  · rw[← hb k k2];exact h.rest k k1 k2
  by_cases q:a+x+m<e
  · have:=h.stop
    rw[z02 (by omega) (by omega) (by omega)]at this;rw[Int.add_assoc];exact this
  rw[show(a:Int)+x+m=(e:Nat) by omega,h10];decide
theorem y1l(he:e<s.size)(h10:atB s (e:Nat)=10){x:Int}{m:Nat}(h0:0<=x)(h:Q8i s (a+x) m)(hm:a+x+m<=e):Q8i (s.extract a e) x m:=by
  have hp:=h.pos;have j0:=z10 (s:=s) (a:=a) (e:=e) (by omega);have hb:∀k:Nat,k<m->atB (s.extract a e) (x+k)=atB s (a+x+k):=fun k hk=>by
    rw[z02 (by omega) (by omega) (by omega),Int.add_assoc]
  refine⟨h.pos,h.le,?_,fun k k1 k2=>?_,?_⟩
  · have:=hb 0 (by omega)
    simp only[qDj,qCs]at this;rw[this];exact h.first
  · rw[hb k k2];exact h.rest k k1 k2
  by_cases q:a+x+m<e
  · rw[z02 (by omega) (by omega) (by omega),← Int.add_assoc];exact h.stop
  rw[z18 (by omega)];decide
end
theorem y1w(s:ByteArray)(a e b c:Nat)(he:e<=s.size)(hc:a+c<=e):(s.extract a e).extract b c=s.extract (a+b) (a+c):=by
  apply qEb;simp only[qDi,qDx];have:s.size=s.data.size:=rfl;congr 1;omega
end Go.Proofs.YtcpceafmlgaodaaGreat
