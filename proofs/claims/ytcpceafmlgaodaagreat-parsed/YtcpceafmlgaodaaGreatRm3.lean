import Derived.Test.YtcpceafmlgaodaaGreatRf6
namespace Go.Proofs.YtcpceafmlgaodaaGreat
open Go.RowKit
set_option maxRecDepth 100000
set_option maxHeartbeats 16000000
set_option linter.unusedVariables false
set_option linter.unusedSimpArgs false
theorem y4u{ws:List Int}(h:WOk ws){lo hi:Nat}(h1:lo<=hi)(h2:hi<256):WOk(Q2e ws lo hi)/\∀c,Q5z(Q2e ws lo hi)c=(Q5z ws c||decide(lo<=c/\c<=hi)):=by
  obtain⟨q1,q2⟩:=y26 h(lo:=lo)(hi+1-lo)(by omega);have e:Q2e ws lo hi=Q69 ws lo(hi+1-lo):=by
    unfold Q2e;congr 1;omega
  rw[e];refine⟨q1,fun c=>?_⟩;rw[z66 q1,q2,z66 h];congr 1;rw[Bool.eq_iff_iff,decide_eq_true_eq,decide_eq_true_eq];omega
theorem y4l{a:ByteArray}{i:Int}(h0:0<=i)(h:(Q0m a i).2.2.2=true):(Q0m a i).1<=(Q0m a i).2.1:=by
  unfold Q0m at h ⊢;split
  · rename_i e;rw[if_pos e]at h;cases h
  rename_i e;rw[if_neg e]at h;split
  · exact Int.le_refl _
  rename_i e2;rw[if_neg e2]at h;split
  · rename_i e3;rw[if_pos e3]at h;cases h
  rename_i e3;rw[if_neg e3]at h;split
  · rename_i e4;rw[if_pos e4]at h;cases h
  rename_i e4;dsimp only;omega
theorem y0q{a:ByteArray}{i:Int}:∀(f:Nat)(next:Int)(ws:List Int),0<=next->(Q08 a i f next ws).2.2=true->next+1<=(Q08 a i f next ws).2.1
  |0,next,ws,_,h=>by simp[Q08]at h
  |f+1,next,ws,h0,h=>by
    rw[z3c]at h ⊢;by_cases c1:next=i∨atB a next≠93
    · rw[if_pos c1]at h ⊢
      by_cases hr:(Q0m a next).2.2.2=false
      · rw[if_pos hr]at h;cases h
      rw[if_neg hr]at h ⊢;obtain⟨b1,b2,b3,b4,b5,b6,b7⟩:=z1k a next h0
      have b8:=b7(by simpa using hr);have:=y0q f _ _(by omega)h;omega
    rw[if_neg c1];dsimp only;omega
theorem y5r{a:ByteArray}{i0:Int}{f:Nat}{next:Int}{ws:List Int}(h0:0<=next)(hw:WOk ws)(hok:(Q08 a i0 f next ws).2.2=true)(hn:(Q08 a i0 f next ws).2.1=a.size) :
    (next+1=a.size/\(Q08 a i0 f next ws).1=ws)∨(next+1<a.size/\∃lo hi nx:Nat,Q0m a next=((lo:Int),(hi:Int),(nx:Int),true)/\next<nx/\(nx:Int)+1<=a.size/\WOk(Q2e ws lo hi)/\(∀c,Q5z(Q2e ws lo hi)c=(Q5z ws c||decide(lo<=c/\c<=hi)))/\lo<=255/\hi<=255/\∃f',Q08 a i0 f' nx(Q2e ws lo hi)=Q08 a i0 f next ws):=by
  cases f with
  |zero=>simp[Q08]at hok
  |succ f =>
    rw[z3c]at hok hn ⊢;by_cases c1:next=i0∨atB a next≠93
    · rw[if_pos c1]at hok hn ⊢
      by_cases hr:(Q0m a next).2.2.2=false
      · rw[if_pos hr]at hok;cases hok
      rw[if_neg hr]at hok hn ⊢;have j1:(Q0m a next).2.2.2=true:=by simpa using hr
      obtain⟨b1,b2,b3,b4,b5,b6,b7⟩:=z1k a next h0
      have b8:=b7 j1;have j2:=y4l h0 j1;have j0:=y0q(i:=i0)f(Q0m a next).2.2.1 _(by omega)hok;rw[hn]at j0;obtain⟨lo,hlo⟩:∃n:Nat,(Q0m a next).1=n:=⟨(Q0m a next).1.toNat,by omega⟩;obtain⟨hi',hhi⟩:∃n:Nat,(Q0m a next).2.1=n:=⟨(Q0m a next).2.1.toNat,by omega⟩;obtain⟨nx,hnx⟩:∃n:Nat,(Q0m a next).2.2.1=n:=⟨(Q0m a next).2.2.1.toNat,by omega⟩;obtain⟨q1,q2⟩:=y4u hw(lo:=lo)(hi:=hi')(by omega)(by omega);refine .inr⟨by omega,lo,hi',nx,?_,by omega,by omega,q1,q2,by omega,by omega,f,?_⟩
      · rw[← hlo,← hhi,← hnx,← j1]
      rw[hlo,hhi,hnx]
    rw[if_neg c1]at hok hn ⊢;dsimp only at hn ⊢;exact .inl⟨by omega,rfl⟩
theorem x3c{a:ByteArray}{i:Int}:∀(f:Nat)(next:Int)(ws:List Int),0<=next->WOk ws->WOk(Q08 a i f next ws).1
  |0,next,ws,_,h=>h
  |f+1,next,ws,h0,h=>by
    rw[z3c];split
    · split
      · exact z5d
      rename_i hr;have hr':(Q0m a next).2.2.2=true:=by simpa using hr
      obtain⟨b1,b2,b3,b4,b5,b6,b7⟩:=z1k a next h0
      have j0:=y4l h0 hr';obtain⟨lo,hlo⟩:∃n:Nat,(Q0m a next).1=n:=⟨(Q0m a next).1.toNat,by omega⟩;obtain⟨hi',hhi⟩:∃n:Nat,(Q0m a next).2.1=n:=⟨(Q0m a next).2.1.toNat,by omega⟩;rw[hlo,hhi];exact x3c f _ _(by omega)(y4u h(lo:=lo)(hi:=hi')(by omega)(by omega)).1
    exact h
theorem x22(a:ByteArray)(c:Nat)(w:World)(hs:a.size<=80000)(h1:1<a.size)(hc:c<256)(h91:atB a 0=91)(nt:Bool)(hnt:(atB a 1==94)=nt)(i0:Nat)(hi0:i0=if nt=true then 2 else 1)(E:List Int × Int × Bool)(hE:Q3g a i0=E)(hok:E.2.2=true)(hend:E.2.1=a.size) :
    Calls Tryz.prog 134#[.string a,.int .u8 c]w fun e w'=>e=.returned(.bool(Q5z E.1 c != nt))/\w'=w:=by
  have h0:0<a.size:=by omega
  have b0:=z1z h0;have b1:=z1z h1;have z0:atB a 0=(a[0].toNat:Int):=b0;have z1:atB a 1=(a[1].toNat:Int):=b1;rw[z0]at h91;rw[z1]at hnt;have k1:((a[0].toNat:Int)==46)=false:=by simp[h91]
  have k2:((a[0].toNat:Int)==92)=false:=by simp[h91]
  have k3:((a[0].toNat:Int)==91)=true:=by simp[h91]
  have ja:a[0].toNat<256:=a[0].toNat_lt;have j9:a[1].toNat<256:=a[1].toNat_lt;have p0:(0:Int)<(a.size:Int):=by omega
  have p1:(1:Int)<(a.size:Int):=by omega
  have ZE:=hid(fun(i:Nat)(w:World)(h:i<=100000)=>y4q a i w(by omega)h);have HE:Hid(Q08 a i0(a.size+5)i0 Q07=E):=hE;have j7:=hid hok;have j4:=hid hend;have HZ:Hid(Q5z Q07 c=false):=by unfold Hid;rw[z66 z5d,y8n]
  have CC:((c:Int):Int)<256:=by omega
  clear hE hok hend b0 b1 z0 z1 h91;cases nt
  · simp only[Bool.false_eq_true,if_false]at hi0
    subst hi0;go_enter Tryz.func134,Tryz.ntmps134
    go_wp2;go_loopw [7,9](fun x7 x9 wr=>∃(f next:Nat)(ws:List Int),x7=.int .i64 next/\x9=.bool(Q5z ws c)/\wr=w/\WOk ws/\next<=a.size/\Q08 a((1:Nat):Int)f next ws=E)
        (fun x _ _=>100000-(intOf x).toNat)
    case atStart=>exact⟨a.size+5,1,Q07,rfl,by rw[HZ.out],rfl,z5d,by omega,HE.out⟩
    obtain⟨f,next,ws,rfl,rfl,rfl,hw,hnl,hrec⟩:=hrel;have j5:=y5r(a:=a)(i0:=((1:Nat):Int))(f:=f)(next:=(next:Int))(ws:=ws)(by omega)hw(by rw[hrec];exact j7.out)(by rw[hrec];exact j4.out);rw[hrec]at j5;clear HE hrec HZ;rcases j5 with⟨q1,q2⟩|⟨q1,lo,hi,nx,q2,q3,q4,q5,q6,q7,q8,f',q9⟩
    · have k4:¬(next:Int)<(a.size:Int)-1:=by omega
      have HQ:=hid q2;clear q2 q1;generalize hgb:Q5z ws c=hb;have j6:=hid hgb;clear hgb;go_wp2;go_ret;exact⟨by rw[HQ.out,j6.out];cases hb<;>rfl,rfl⟩
    have k4:(next:Int)<(a.size:Int)-1:=by omega
    have ZX:=hid(fun w=>ZE.out next w(by omega));rw[q2]at ZX;have j0:=hid(q6 c);have j2:=hid q9;have j3:=hid q5;have ZY:Hid(∀w:World,Calls Tryz.prog 133#[.string a,.int .i64 next]w fun e w'=>e=.returned(.tuple#[.int .i64 nx,.int .i64 lo,.int .i64 hi])/\w'=w):=ZX.out;have j8:(0:Int)<=(nx:Int):=by omega
    clear q2 q6 q9 q5 ZX;generalize hh2:Q5z(Q2e ws lo hi)c=hb2 at j0;have j1:=hid hh2;clear hh2;generalize Q5z ws c=hb1 at j0;cases hb1
    · by_cases c1:lo<=c
      · have d1:(lo:Int)<=(c:Int):=by omega
        by_cases c2:c<=hi
        · have d2:(c:Int)<=(hi:Int):=by omega
          have HB:Hid(hb2=true):=by unfold Hid;rw[j0.out,decide_eq_true⟨c1,c2⟩];rfl
          go_wp2_with(first
            |(go_at_call 133;refine(ZY.out _).mono ?_;rintro e w'⟨rfl,hw⟩;rw[hw];clear hw))
          go_roundw
          case rel=>exact⟨f',nx,_,rfl,by rw[j1.out,HB.out],by first|rfl|trivial,j3.out,by omega,j2.out⟩
          simp[intOf];omega
        have d2:¬(c:Int)<=(hi:Int):=by omega
        have HB:Hid(hb2=false):=by unfold Hid;rw[j0.out,decide_eq_false(fun q=>c2 q.2)];rfl
        go_wp2_with(first
          |(go_at_call 133;refine(ZY.out _).mono ?_;rintro e w'⟨rfl,hw⟩;rw[hw];clear hw))
        go_roundw
        case rel=>exact⟨f',nx,_,rfl,by rw[j1.out,HB.out],by first|rfl|trivial,j3.out,by omega,j2.out⟩
        simp[intOf];omega
      have d1:¬(lo:Int)<=(c:Int):=by omega
      have HB:Hid(hb2=false):=by unfold Hid;rw[j0.out,decide_eq_false(fun q=>c1 q.1)];rfl
      go_wp2_with(first
        |(go_at_call 133;refine(ZY.out _).mono ?_;rintro e w'⟨rfl,hw⟩;rw[hw];clear hw))
      go_roundw
      case rel=>exact⟨f',nx,_,rfl,by rw[j1.out,HB.out],by first|rfl|trivial,j3.out,by omega,j2.out⟩
      simp[intOf];omega
    have HB:Hid(hb2=true):=by unfold Hid;rw[j0.out];rfl
    go_wp2_with(first
      |(go_at_call 133;refine(ZY.out _).mono ?_;rintro e w'⟨rfl,hw⟩;rw[hw];clear hw))
    go_roundw
    case rel=>exact⟨f',nx,_,rfl,by rw[j1.out,HB.out],by first|rfl|trivial,j3.out,by omega,j2.out⟩
    simp[intOf];omega
  simp only[if_true]at hi0;subst hi0;go_enter Tryz.func134,Tryz.ntmps134
  go_wp2;go_loopw [7,9](fun x7 x9 wr=>∃(f next:Nat)(ws:List Int),x7=.int .i64 next/\x9=.bool(Q5z ws c)/\wr=w/\WOk ws/\next<=a.size/\Q08 a((2:Nat):Int)f next ws=E)
      (fun x _ _=>100000-(intOf x).toNat)
  case atStart=>exact⟨a.size+5,2,Q07,rfl,by rw[HZ.out],rfl,z5d,by omega,HE.out⟩
  obtain⟨f,next,ws,rfl,rfl,rfl,hw,hnl,hrec⟩:=hrel;have j5:=y5r(a:=a)(i0:=((2:Nat):Int))(f:=f)(next:=(next:Int))(ws:=ws)(by omega)hw(by rw[hrec];exact j7.out)(by rw[hrec];exact j4.out);rw[hrec]at j5;clear HE hrec HZ;rcases j5 with⟨q1,q2⟩|⟨q1,lo,hi,nx,q2,q3,q4,q5,q6,q7,q8,f',q9⟩
  · have k4:¬(next:Int)<(a.size:Int)-1:=by omega
    have HQ:=hid q2;clear q2 q1;generalize hgb:Q5z ws c=hb;have j6:=hid hgb;clear hgb;go_wp2;go_ret;exact⟨by rw[HQ.out,j6.out];cases hb<;>rfl,rfl⟩
  have k4:(next:Int)<(a.size:Int)-1:=by omega
  have ZX:=hid(fun w=>ZE.out next w(by omega));rw[q2]at ZX;have j0:=hid(q6 c);have j2:=hid q9;have j3:=hid q5;have ZY:Hid(∀w:World,Calls Tryz.prog 133#[.string a,.int .i64 next]w fun e w'=>e=.returned(.tuple#[.int .i64 nx,.int .i64 lo,.int .i64 hi])/\w'=w):=ZX.out;have j8:(0:Int)<=(nx:Int):=by omega
  clear q2 q6 q9 q5 ZX;generalize hh2:Q5z(Q2e ws lo hi)c=hb2 at j0;have j1:=hid hh2;clear hh2;generalize Q5z ws c=hb1 at j0;cases hb1
  · by_cases c1:lo<=c
    · have d1:(lo:Int)<=(c:Int):=by omega
      by_cases c2:c<=hi
      · have d2:(c:Int)<=(hi:Int):=by omega
        have HB:Hid(hb2=true):=by unfold Hid;rw[j0.out,decide_eq_true⟨c1,c2⟩];rfl
        go_wp2_with(first
          |(go_at_call 133;refine(ZY.out _).mono ?_;rintro e w'⟨rfl,hw⟩;rw[hw];clear hw))
        go_roundw
        case rel=>exact⟨f',nx,_,rfl,by rw[j1.out,HB.out],by first|rfl|trivial,j3.out,by omega,j2.out⟩
        simp[intOf];omega
      have d2:¬(c:Int)<=(hi:Int):=by omega
      have HB:Hid(hb2=false):=by unfold Hid;rw[j0.out,decide_eq_false(fun q=>c2 q.2)];rfl
      go_wp2_with(first
        |(go_at_call 133;refine(ZY.out _).mono ?_;rintro e w'⟨rfl,hw⟩;rw[hw];clear hw))
      go_roundw
      case rel=>exact⟨f',nx,_,rfl,by rw[j1.out,HB.out],by first|rfl|trivial,j3.out,by omega,j2.out⟩
      simp[intOf];omega
    have d1:¬(lo:Int)<=(c:Int):=by omega
    have HB:Hid(hb2=false):=by unfold Hid;rw[j0.out,decide_eq_false(fun q=>c1 q.1)];rfl
    go_wp2_with(first
      |(go_at_call 133;refine(ZY.out _).mono ?_;rintro e w'⟨rfl,hw⟩;rw[hw];clear hw))
    go_roundw
    case rel=>exact⟨f',nx,_,rfl,by rw[j1.out,HB.out],by first|rfl|trivial,j3.out,by omega,j2.out⟩
    simp[intOf];omega
  have HB:Hid(hb2=true):=by unfold Hid;rw[j0.out];rfl
  go_wp2_with(first
    |(go_at_call 133;refine(ZY.out _).mono ?_;rintro e w'⟨rfl,hw⟩;rw[hw];clear hw))
  go_roundw
  case rel=>exact⟨f',nx,_,rfl,by rw[j1.out,HB.out],by first|rfl|trivial,j3.out,by omega,j2.out⟩
  simp[intOf];omega
theorem x7x(a:ByteArray)(c:Nat)(w:World)(hs:a.size<=80000)(hc:c<256)(h40:atB a 0≠40)(hok:(Q2t a 0).2.2=true)(hend:(Q2t a 0).2.1=a.size) :
    Calls Tryz.prog 134#[.string a,.int .u8 c]w fun e w'=>e=.returned(.bool(Q5z(Q2t a 0).1 c))/\w'=w:=by
  have j0:=y1b hok;have h0:0<a.size:=by
    have hb:=y3c a 0(by omega);have j1:atB a 0≠-1:=by
      intro e;unfold Q2t at hok;rw[e,if_neg(by decide),if_neg(by decide),if_neg(by decide),if_pos(by decide)]at hok;cases hok
    have:=z0q j1;omega
  have b0:atB a 0=(a[0].toNat:Int):=z1z h0;have j3:a[0].toNat<256:=a[0].toNat_lt;have p0:(0:Int)<(a.size:Int):=by omega
  have ex:∀n:Nat,n<256->WOk(Q2e Q07 n n)/\Q5z(Q2e Q07 n n)c=((c:Int)==(n:Int)):=fun n hn=>by
    obtain⟨q1,q2⟩:=x1i(qR n)hn;refine⟨q1,?_⟩;rw[q2,Bool.eq_iff_iff,decide_eq_true_eq,beq_iff_eq];omega
  by_cases c46:atB a 0=46
  · rw[y8c c46]at hend ⊢
    obtain⟨q1,q2⟩:=ex 10(by omega);rw[show((10:Nat):Int)=10 from rfl]at q1 q2;have HV:Hid(Q5z(Q8z(Q2e Q07 10 10)4)c=((c:Int) != 10)):=by
      unfold Hid;rw[x1b q1 hc,q2];rfl
    rw[b0]at c46;have k1:((a[0].toNat:Int)==46)=true:=by simp[c46]
    clear j0 ex q1 q2 hok b0 c46 hend;dsimp only;rw[HV.out];go_enter Tryz.func134,Tryz.ntmps134
    go_wp2;go_ret;exact⟨rfl,rfl⟩
  by_cases c91:atB a 0=91
  · rw[x2v c91]at hok hend ⊢
    have h1:1<a.size:=by
      have:=x25 a 1(by omega)(by omega);have:=this.2.2 hok;omega
    unfold rBr at hok hend ⊢;by_cases c94:atB a(0+1)=94
    · rw[if_pos c94]at hok hend ⊢
      have h2:=x22 a c w hs h1 hc c91 true(by rw[show(1:Int)=0+1 from rfl,c94];rfl)2 rfl _ rfl hok hend;have hw:WOk(Q3g a((2:Nat):Int)).1:=x3c _ _ _(by omega)z5d;rw[show(0:Int)+1+1=((2:Nat):Int)from rfl];dsimp only;rw[x1b hw hc];refine h2.mono ?_;rintro e w'⟨he,hw'⟩;refine⟨?_,hw'⟩;rw[he];cases Q5z(Q3g a((2:Nat):Int)).1 c<;>rfl
    rw[if_neg c94]at hok hend ⊢;have h2:=x22 a c w hs h1 hc c91 false(by rw[show(1:Int)=0+1 from rfl];simpa using c94)1 rfl _ rfl hok hend;refine h2.mono ?_;rintro e w'⟨he,hw'⟩;refine⟨?_,hw'⟩;rw[he,show(0:Int)+1=((1:Nat):Int)from rfl];cases Q5z(Q3g a((1:Nat):Int)).1 c<;>rfl
  by_cases c92:atB a 0=92
  · rw[y46 c92]at hok hend ⊢
    dsimp only at hok hend ⊢;rw[show(0:Int)+1=1 from rfl]at hok hend ⊢;have h1:1<a.size:=by
      by_cases q:1<a.size
      · exact q
      exfalso;unfold Q2n at hok;rw[z19(by omega),if_neg(by decide),if_neg(by decide),if_pos(by decide)]at hok;cases hok
    have b1:atB a 1=(a[1].toNat:Int):=z1z h1;have j4:a[1].toNat<256:=a[1].toNat_lt;have ZM:=hid(fun w=>z50 a[1].toNat w(by omega));rw[y18,b1]at hok ⊢;have hm:(mkF(a[1].toNat:Int)).2=true:=by
      cases z:(mkF(a[1].toNat:Int)).2
      · rw[z,if_neg(by simp)]at hok;cases hok
      rfl
    rw[if_pos hm];have j2:∃n:Nat,n<256/\(mkF(a[1].toNat:Int)).1=n:=by
      unfold mkF;split
      · exact⟨10,by omega,rfl⟩
      split
      · exact⟨9,by omega,rfl⟩
      exact⟨a[1].toNat,by omega,rfl⟩
    obtain⟨n,hn,he⟩:=j2;obtain⟨q1,q2⟩:=ex n hn;dsimp only;rw[he,q2];rw[he,hm]at ZM;rw[b0]at c92;have k1:((a[0].toNat:Int)==46)=false:=by simp[c92]
    have k2:((a[0].toNat:Int)==92)=true:=by simp[c92]
    have p1:(1:Int)<(a.size:Int):=by omega
    clear j0 ex q1 q2 hok b0 b1 c92 c46 c91 hend hm he h40;go_enter Tryz.func134,Tryz.ntmps134
    go_wp2_with(first
      |(go_at_call 128;refine(ZM.out _).mono ?_;rintro e w'⟨rfl,hw⟩;rw[hw];clear hw))
    go_ret;exact⟨rfl,rfl⟩
  have hp:Q03(atB a 0)=true:=by
    cases z:Q03(atB a 0)
    · rw[x5b c46 c91 c92 z]at hok;cases hok
    rfl
  rw[y07 hp]at hend ⊢;rw[b0]at c46 c91 c92 ⊢;obtain⟨q1,q2⟩:=ex a[0].toNat j3;dsimp only;rw[q2];have k1:((a[0].toNat:Int)==46)=false:=by simpa using c46
  have k2:((a[0].toNat:Int)==92)=false:=by simpa using c92
  have k3:((a[0].toNat:Int)==91)=false:=by simpa using c91
  clear j0 ex q1 q2 hok b0 c92 c46 c91 hend h40 hp;go_enter Tryz.func134,Tryz.ntmps134
  go_wp2;go_ret;refine⟨z0s ?_,rfl⟩;rw[Bool.eq_iff_iff,beq_iff_eq,beq_iff_eq];exact eq_comm
abbrev bsl(g n:Nat):Value:=.slice(some⟨g,0,none⟩)n n
def Q13(w:World)(g:Nat)(fs:List Bool):Prop:=w.heap[g]? = some(.cells(Q38 fs).toArray 4(0,0))
theorem Q13.fresh{w w':World}{g:Nat}{fs:List Bool}(h:Q13 w g fs)(m:Q0a w w'):Q13 w' g fs:=m.at h(fun x=>x)
theorem Q13.lt{w:World}{g:Nat}{fs:List Bool}(h:Q13 w g fs):g<w.heap.size:=z0j h
theorem Q13.cell{w:World}{g:Nat}{fs:List Bool}(h:Q13 w g fs){j:Nat}(hj:j<fs.length):w.cell?⟨g,j,none⟩=some(.bool(fs.getD j false)):=by
  rw[Q0b h,List.getElem?_toArray,List.getElem?_map,qE hj];simp[hj]
theorem Q13.frozen{w:World}{g:Nat}{fs:List Bool}(h:Q13 w g fs)(j:Nat):w.frozen?⟨g,j,none⟩=false:=Q0h h j
theorem Q13.put{w:World}{g:Nat}{fs:List Bool}(h:Q13 w g fs)(j:Nat)(b:Bool):Q13(w.setCell⟨g,j,none⟩(.bool b))g(fs.set j b):=by
  unfold Q13;rw[zhs h];congr 2;apply Array.ext_getElem?;intro k;simp[Q38,List.map_set]
theorem z02(n:Nat):madeCells#[.bool false]n=(Q38(List.replicate n false)).toArray:=by
  unfold madeCells;apply Array.ext_getElem?;intro i;by_cases h:i<n<;>simp[h,Nat.mod_one]
theorem z3j{fs:List Bool}{i:Nat}:On fs i↔fs.getD i false=true:=by
  unfold On;rw[qD];cases fs[i]? with
  |none=>simp
  |some b=>simp
def orI(xs ys:List Bool)(n i:Nat):List Bool:=(List.range n).map fun j=>decide(j<i)&&(xs.getD j false||ys.getD j false)
theorem z2j(xs ys:List Bool)(n i:Nat):(orI xs ys n i).length=n:=by simp[orI]
theorem x63(xs ys:List Bool)(n:Nat):orI xs ys n 0=List.replicate n false:=by
  apply List.ext_getElem?;intro j;by_cases h:j<n
  · simp[orI,h]
  simp[orI,h]
theorem x9y(xs ys:List Bool){n i:Nat}(hi:i<n):(orI xs ys n i).set i(xs.getD i false||ys.getD i false)=orI xs ys n(i+1):=by
  apply List.ext_getElem
  · simp[orI]
  intro j h1 h2;rw[List.getElem_set];simp only[orI,List.getElem_map,List.getElem_range];by_cases e:i=j
  · subst e;simp
  rw[if_neg e];congr 1;rw[Bool.eq_iff_iff,decide_eq_true_eq,decide_eq_true_eq];omega
def moI(xs ys:List Bool)(i:Nat):Bool:=(List.range i).any fun j=>ys.getD j false&&!xs.getD j false
theorem x6x(xs ys:List Bool)(i:Nat):moI xs ys(i+1)=(moI xs ys i||(ys.getD i false&&!xs.getD i false)):=by
  unfold moI;rw[List.range_succ,List.any_append];simp
theorem v0t{xs ys:List Bool}{n:Nat}(h:xs.length=n):Un xs ys(orI xs ys n n):=by
  refine⟨by rw[z2j,h],fun j=>?_⟩;rw[z3j,z3j,z3j];by_cases hj:j<n
  · have:(orI xs ys n n).getD j false=(xs.getD j false||ys.getD j false):=by
      simp[orI,hj]
    rw[this,Bool.or_eq_true];constructor
    · rintro(q|q)
      · exact .inl q
      exact .inr⟨by omega,q⟩
    rintro(q|⟨_,q⟩)
    · exact .inl q
    exact .inr q
  have e1:(orI xs ys n n).getD j false=false:=by simp[orI,hj]
  have e2:xs.getD j false=false:=by
    rw[qD,qN(by omega)];rfl
  rw[e1,e2];constructor
  · intro q;cases q
  rintro(q|⟨q,_⟩)
  · cases q
  omega
theorem z2q(w:World)(ga gb n:Nat)(xs ys:List Bool)(ha:Q13 w ga xs)(hb:Q13 w gb ys)(la:xs.length=n)(lb:ys.length=n)(hn:n<=1000) :
    Calls Tryz.prog 70#[bsl ga n,bsl gb n]w fun e w'=>e=.returned(.tuple#[bsl w.heap.size n,.bool(moI xs ys n)])/\Q0a w w'/\Q13 w' w.heap.size(orI xs ys n n):=by
  have HA:=hid ha;have HB:=hid hb;have LA:=hid la;have LB:=hid lb;have j3:=ha.lt;have j2:=hb.lt;have mk:=fun w=>run_make_row'(P:=Tryz.prog)90 4(.bool false)1 Tryz.underlying90(by kernel_rfl)rfl .i64 .i64 n(by omega)(by omega)w;clear ha hb la lb;go_enter Tryz.func70,Tryz.ntmps70
  go_wp2;go_loopw [7,8](fun x7 x8 wr=>∃i:Nat,x8=.int .i64 i/\i<=n/\x7=.bool(moI xs ys i)/\Q13 wr w.heap.size(orI xs ys n i)/\Q0a w wr)
      (fun _ x _=>1001-(intOf x).toNat)
  case atStart =>
    refine⟨0,rfl,by omega,rfl,?_,(mRf _ w).alloc _⟩;rw[x63,z02];exact z0a _ _
  obtain⟨i,rfl,hi,rfl,hC,hfr⟩:=hrel;have j1:=hid(Q2a(B:=1001)i(by omega));have HF:=hid hfr;have HC:=hid hC;clear mk;by_cases hlt:i<n
  · have k1:(i:Int)<(n:Int):=by omega
    have c1:=(HA.out.fresh hfr).cell(j:=i)(by rw[LA.out];exact hlt);have c2:=(HB.out.fresh hfr).cell(j:=i)(by rw[LB.out];exact hlt);have c3:=hC.cell(j:=i)(by rw[z2j];exact hlt);have z3:=hC.frozen i;have HS:=hid(x9y xs ys hlt);have HM:=hid(x6x xs ys i);have n1:ga≠w.heap.size:=by omega
    have n2:gb≠w.heap.size:=by omega
    have n3:w.heap.size≠ga:=by omega
    have n4:w.heap.size≠gb:=by omega
    generalize(orI xs ys n i).getD i false=xo at c3;generalize xs.getD i false=xa at c1 HS HM;generalize ys.getD i false=yb at c2 HS HM;generalize moI xs ys i=mo at HM;clear hC hfr;cases xa<;>cases yb<;>cases mo;all_goals
      go_wp2;go_roundw
      case rel =>
        refine⟨i+1,by go_num,by omega,by rw[HM.out];rfl,?_,HF.out.setCell(by simp)_⟩;rw[← HS.out];exact HC.out.put _ _
      exact j1.out
  have k1:¬(i:Int)<(n:Int):=by omega
  have j0:i=n:=by omega
  subst j0;go_wp2;go_ret2;exact⟨rfl,HF.out,HC.out⟩
def onI(H:Nat->Bool)(fs:List Bool)(n i:Nat):List Bool:=(List.range n).map fun j=>decide(0<j/\j<=i)&&(fs.getD(j-1)false&&H(j-1))
theorem x3i(H:Nat->Bool)(fs:List Bool)(n i:Nat):(onI H fs n i).length=n:=by simp[onI]
theorem x57(H:Nat->Bool)(fs:List Bool)(n:Nat):onI H fs n 0=List.replicate n false:=by
  apply List.ext_getElem?;intro j;by_cases h:j<n
  · have:decide(0<j/\j<=0)=false:=decide_eq_false(by omega)
    simp only[onI,List.getElem?_map,List.getElem?_range h,Option.map_some,this,Bool.false_and];simp[h]
  simp[onI,h]
theorem x9u(H:Nat->Bool)(fs:List Bool){n i:Nat}(hi:i+1<n):(onI H fs n i).set(i+1)(fs.getD i false&&H i)=onI H fs n(i+1):=by
  apply List.ext_getElem
  · simp[onI]
  intro j h1 h2;rw[List.getElem_set];simp only[onI,List.getElem_map,List.getElem_range];by_cases e:i+1=j
  · subst e;simp
  rw[if_neg e];congr 1;rw[Bool.eq_iff_iff,decide_eq_true_eq,decide_eq_true_eq];omega
theorem y1e{t:ByteArray}{i:Nat}(h:i<t.size):Q16 t i 1=[t[i].toNat]:=by
  show []++(if h:i+0<t.size then [t[i+0].toNat]else [])=_;rw[dif_pos(by omega)];simp
theorem v0d{ws:List Int}{t:ByteArray}{fs:List Bool}{H:Nat->Bool}(hH:∀j(hj:j<t.size),H j=Q5z ws t[j].toNat):Q6p(Q04.byte fun c=>Q5z ws c=true)t fs(onI H fs(t.size+1)t.size):=by
  refine⟨x3i _ _ _ _,fun j hj=>?_⟩;have e:(onI H fs(t.size+1)t.size).getD j false=(decide(0<j/\j<=t.size)&&(fs.getD(j-1)false&&H(j-1))):=by
    have:j<t.size+1:=by omega
    rw[qD];simp only[onI,List.getElem?_map,List.getElem?_range this,Option.map_some,Option.getD_some]
  rw[z3j,e,Bool.and_eq_true,Bool.and_eq_true,decide_eq_true_eq];constructor
  · rintro⟨⟨h0,_⟩,h1,h2⟩
    refine⟨j-1,by omega,z3j.2 h1,t[j-1].toNat,?_,?_⟩
    · show Q5z ws t[j-1].toNat=true
      rw[← hH(j-1)(by omega)];exact h2
    rw[show j-(j-1)=1 by omega,y1e(by omega)]
  rintro⟨i,hi,hf,c,hc,he⟩;have hl:=z3g t i(j-i)(by omega);rw[he]at hl;simp at hl;have j0:j=i+1:=by omega
  subst j0;rw[show i+1-i=1 by omega,y1e(by omega)]at he;simp at he;refine⟨⟨by omega,by omega⟩,by simpa using z3j.1 hf,?_⟩;rw[show i+1-1=i by omega,hH i(by omega),he];exact hc
def SetRet(L:Q04)(t:ByteArray)(fs:List Bool)(g:Nat)(w:World)(e:Ending)(w':World):Prop :=
  ∃g' gs,e=.returned(bsl g'(t.size+1))/\Q0a w w'/\Q13 w' g' gs/\Q6p L t fs gs
def SetC(f:Nat)(p:ByteArray)(L:Q04):Prop:=∀(t:ByteArray)(g:Nat)(fs:List Bool)(w:World),t.size<=210->Q13 w g fs->fs.length=t.size+1 ->
  Calls Tryz.prog f#[.string p,.string t,bsl g(t.size+1)]w fun e w'=>SetRet L t fs g w e w'
theorem x2z(a:ByteArray)(hs:a.size<=80000)(h40:atB a 0≠40)(hok:(Q2t a 0).2.2=true)(hend:(Q2t a 0).2.1=a.size):SetC 130 a(Q04.byte fun c=>Q5z(Q2t a 0).1 c=true):=by
  intro t g fs w ht hg hl;have HG:=hid hg;have HL:=hid hl;have j5:=hg.lt;have HA:=hid(fun(c:Nat)(w:World)(hc:c<256)=>x7x a c w hs hc h40 hok hend);have h0:0<a.size:=by
    have j0:atB a 0≠-1:=by
      intro e;unfold Q2t at hok;rw[e,if_neg(by decide),if_neg(by decide),if_neg(by decide),if_pos(by decide)]at hok;cases hok
    have:=z0q j0;omega
  have b0:atB a 0=(a[0].toNat:Int):=z1z h0;have j6:a[0].toNat<256:=a[0].toNat_lt;have p0:(0:Int)<(a.size:Int):=by omega
  rw[b0]at h40;have j4:((a[0].toNat:Int)==40)=false:=by simpa using h40
  have mk:=fun w=>run_make_row'(P:=Tryz.prog)90 4(.bool false)1 Tryz.underlying90(by kernel_rfl)rfl .i64 .i64(t.size+1)(by omega)(by omega)w;simp only[Int.natCast_add,Int.cast_ofNat_Int]at mk;generalize(Q2t a 0).1=ws at HA ⊢;generalize hH:(fun j:Nat=>if h:j<t.size then Q5z ws t[j].toNat else false)=H;have HH:Hid(∀j(hj:j<t.size),H j=Q5z ws t[j].toNat):=fun j hj=>by rw[← hH];simp[hj]
  clear hg hl hok hend b0 hH h40;go_enter Tryz.func130,Tryz.ntmps130
  go_wp2;go_loopw [8](fun x8 wr=>∃i:Nat,x8=.int .i64 i/\i<=t.size/\Q13 wr w.heap.size(onI H fs(t.size+1)i)/\Q0a w wr)
      (fun x _=>1001-(intOf x).toNat)
  case atStart =>
    refine⟨0,rfl,by omega,?_,(mRf _ w).alloc _⟩;rw[x57,z02];exact z0a _ _
  obtain⟨i,rfl,hi,hC,hfr⟩:=hrel;have j3:=hid(Q2a(B:=1001)i(by omega));have HF:=hid hfr;have HC:=hid hC;clear mk;by_cases hlt:i<t.size
  · have k1:(i:Int)<(t.size:Int):=by omega
    have k2:(i:Int)<(t.size:Int)+1:=by omega
    have k3:(i:Int)+1<(t.size:Int)+1:=by omega
    have c1:=(HG.out.fresh hfr).cell(j:=i)(by rw[HL.out];omega);have c3:=hC.cell(j:=i+1)(by rw[x3i];omega);have z3:=hC.frozen(i+1);have HS:=hid(x9u H fs(n:=t.size+1)(i:=i)(by omega));have j2:t[i].toNat<256:=t[i].toNat_lt;have HX:=hid(fun w=>HA.out t[i].toNat w j2);have j1:=hid(HH.out i hlt);have n1:g≠w.heap.size:=by omega
    have n3:w.heap.size≠g:=by omega
    rw[← j1.out]at HX;generalize(onI H fs(t.size+1)i).getD(i+1)false=xo at c3;generalize fs.getD i false=xa at c1 HS;generalize H i=yb at HX HS;clear hC hfr j1;cases xa<;>cases yb;all_goals
      go_wp2_with(first
        |(go_at_call 134;refine(HX.out _).mono ?_;rintro e w'⟨rfl,hw⟩;rw[hw];clear hw))
      go_roundw
      case rel =>
        refine⟨i+1,by go_num,by omega,?_,HF.out.setCell(by simp)_⟩;rw[← HS.out];exact HC.out.put _ _
      exact j3.out
  have k1:¬(i:Int)<(t.size:Int):=by omega
  have j0:i=t.size:=by omega
  have HI:=hid j0;clear j0;go_wp2;go_ret;refine⟨w.heap.size,_,rfl,HF.out,HC.out,?_⟩;rw[HI.out];exact v0d HH.out
def cdJ(c:Nat->Bool)(x:Nat)(y:Nat->Nat):Nat->Nat->Mat->Mat
  |0,_,M=>M
  |f+1,j,M=>cdJ c x y f(j+1)(if c j=true then Q7w M x(y j)true else M)
def cdI(c:Q1->Nat->Bool)(x:Q1->Nat)(y:Q1->Nat->Nat):List Q1->Mat->Mat
  | [],M=>M
  |z::r,M=>cdI c x y r(cdJ(c z)(x z)(y z)z.2.length 0 M)
def sqF(n:Nat):Mat:=List.replicate n(List.replicate n false)
theorem y1c(n:Nat):Sq n(sqF n):=⟨by simp[sqF],fun i hi=>by rw[qD];simp[sqF,hi]⟩
theorem x4u(n i j:Nat):atM(sqF n)i j=false:=by
  unfold atM sqF;rw[qD,qD];by_cases hi:i<n
  · by_cases hj:j<n
    · simp[hi,hj]
    simp[hi,hj]
  simp[hi]
section
variable{n:Nat}
theorem x8g{c:Nat->Bool}{x:Nat}{y:Nat->Nat}(hx:x<n):∀(f j:Nat)(M:Mat),Sq n M->(∀k,j<=k->k<j+f->c k=true->y k<n) ->
    Sq n(cdJ c x y f j M)/\∀a b,atM(cdJ c x y f j M)a b=true↔atM M a b=true∨∃k,j<=k/\k<j+f/\c k=true/\a=x/\b=y k
  |0,j,M,hs,hy=>⟨hs,fun a b=>⟨.inl,fun h=>by
      rcases h with h|⟨k,h1,h2,_⟩
      · exact h
      omega⟩⟩
  |f+1,j,M,hs,hy=>by
    unfold cdJ;have hs':Sq n(if c j=true then Q7w M x(y j)true else M):=by
      split
      · exact z9b hs hx _
      exact hs
    obtain⟨r1,r2⟩:=x8g hx f(j+1)_ hs'(fun k h1 h2 h3=>hy k(by omega)(by omega)h3);refine⟨r1,fun a b=>?_⟩;rw[r2];by_cases hc:c j=true
    · rw[if_pos hc,x1r hs hx(hy j(by omega)(by omega)hc)]
      constructor
      · rintro(h|⟨k,h1,h2,h3⟩)
        · split at h
          · rename_i q;exact .inr⟨j,by omega,by omega,hc,q⟩
          exact .inl h
        exact .inr⟨k,by omega,by omega,h3⟩
      rintro(h|⟨k,h1,h2,h3,h4⟩)
      · left;split
        · rfl
        exact h
      by_cases e:k=j
      · subst e;left;rw[if_pos h4]
      exact .inr⟨k,by omega,by omega,h3,h4⟩
    rw[if_neg hc];constructor
    · rintro(h|⟨k,h1,h2,h3⟩)
      · exact .inl h
      exact .inr⟨k,by omega,by omega,h3⟩
    rintro(h|⟨k,h1,h2,h3,h4⟩)
    · exact .inl h
    by_cases e:k=j
    · subst e;exact absurd h3 hc
    exact .inr⟨k,by omega,by omega,h3,h4⟩
theorem y7t{c:Q1->Nat->Bool}{x:Q1->Nat}{y:Q1->Nat->Nat}:∀(q:List Q1)(M:Mat),Sq n M->(∀z∈q,x z<n/\∀k,k<z.2.length->c z k=true->y z k<n) ->
    Sq n(cdI c x y q M)/\∀a b,atM(cdI c x y q M)a b=true↔atM M a b=true∨∃z∈q,∃k,k<z.2.length/\c z k=true/\a=x z/\b=y z k
  | [],M,hs,hy=>⟨hs,fun a b=>⟨.inl,fun h=>by
      rcases h with h|⟨z,h1,_⟩
      · exact h
      cases h1⟩⟩
  |z::r,M,hs,hy=>by
    have hz:=hy z(by simp);obtain⟨q1,q2⟩:=x8g(c:=c z)(x:=x z)(y:=y z)hz.1 z.2.length 0 M hs(fun k h1 h2 h3=>hz.2 k(by omega)h3);obtain⟨r1,r2⟩:=y7t(c:=c)(x:=x)(y:=y)r _ q1(fun w hw=>hy w(by simp[hw]));unfold cdI;refine⟨r1,fun a b=>?_⟩;rw[r2,q2];constructor
    · rintro((h|⟨k,h1,h2,h3⟩)|⟨w,hw,h⟩)
      · exact .inl h
      · exact .inr⟨z,by simp,k,by omega,h3⟩
      exact .inr⟨w,by simp[hw],h⟩
    rintro(h|⟨w,hw,k,h1,h2⟩)
    · exact .inl(.inl h)
    rw[List.mem_cons]at hw;rcases hw with rfl|hw
    · exact .inl(.inr⟨k,by omega,by omega,h2⟩)
    exact .inr⟨w,hw,k,h1,h2⟩
end
def orJ(n:Nat)(c:Nat->Bool)(g:Nat->List Bool):Nat->Nat->List Bool->List Bool
  |0,_,out=>out
  |f+1,j,out=>orJ n c g f(j+1)(if c j=true then orI out(g j)n n else out)
theorem z9y{xs ys:List Bool}{n t:Nat}(ht:t<n):(orI xs ys n n).getD t false=(xs.getD t false||ys.getD t false):=by simp[orI,ht]
theorem y81{n:Nat}{c:Nat->Bool}{g:Nat->List Bool}:∀(f j:Nat)(out:List Bool),out.length=n ->
    (orJ n c g f j out).length=n/\∀t,t<n->((orJ n c g f j out).getD t false=true↔out.getD t false=true∨∃k,j<=k/\k<j+f/\c k=true/\(g k).getD t false=true)
  |0,j,out,hl=>⟨hl,fun t ht=>⟨.inl,fun h=>by
      rcases h with h|⟨k,h1,h2,_⟩
      · exact h
      omega⟩⟩
  |f+1,j,out,hl=>by
    unfold orJ;obtain⟨r1,r2⟩:=y81(n:=n)(c:=c)(g:=g)f(j+1)(if c j=true then orI out(g j)n n else out)(by split<;>first|exact z2j _ _ _ _|exact hl);refine⟨r1,fun t ht=>?_⟩;rw[r2 t ht];by_cases hc:c j=true
    · rw[if_pos hc,z9y ht,Bool.or_eq_true]
      constructor
      · rintro((h|h)|⟨k,h1,h2,h3⟩)
        · exact .inl h
        · exact .inr⟨j,by omega,by omega,hc,h⟩
        exact .inr⟨k,by omega,by omega,h3⟩
      rintro(h|⟨k,h1,h2,h3,h4⟩)
      · exact .inl(.inl h)
      by_cases e:k=j
      · subst e;exact .inl(.inr h4)
      exact .inr⟨k,by omega,by omega,h3,h4⟩
    rw[if_neg hc];constructor
    · rintro(h|⟨k,h1,h2,h3⟩)
      · exact .inl h
      exact .inr⟨k,by omega,by omega,h3⟩
    rintro(h|⟨k,h1,h2,h3,h4⟩)
    · exact .inl h
    by_cases e:k=j
    · subst e;exact absurd h3 hc
    exact .inr⟨k,by omega,by omega,h3,h4⟩
def orQ(n:Nat)(c:Q1->Nat->Bool)(g:Q1->Nat->List Bool):List Q1->List Bool->List Bool
  | [],out=>out
  |z::r,out=>orQ n c g r(orJ n(c z)(g z)z.2.length 0 out)
theorem x5a{n:Nat}{c:Q1->Nat->Bool}{g:Q1->Nat->List Bool}:∀(q:List Q1)(out:List Bool),out.length=n ->
    (orQ n c g q out).length=n/\∀t,t<n->((orQ n c g q out).getD t false=true↔out.getD t false=true∨∃z∈q,∃k,k<z.2.length/\c z k=true/\(g z k).getD t false=true)
  | [],out,hl=>⟨hl,fun t ht=>⟨.inl,fun h=>by
      rcases h with h|⟨k,h1,_⟩
      · exact h
      cases h1⟩⟩
  |z::r,out,hl=>by
    obtain⟨q1,q2⟩:=y81(n:=n)(c:=c z)(g:=g z)z.2.length 0 out hl;obtain⟨r1,r2⟩:=x5a(n:=n)(c:=c)(g:=g)r _ q1;unfold orQ;refine⟨r1,fun t ht=>?_⟩;rw[r2 t ht,q2 t ht];constructor
    · rintro((h|⟨k,h1,h2,h3⟩)|⟨w,hw,h⟩)
      · exact .inl h
      · exact .inr⟨z,by simp,k,by omega,h3⟩
      exact .inr⟨w,by simp[hw],h⟩
    rintro(h|⟨w,hw,k,h1,h2⟩)
    · exact .inl(.inl h)
    rw[List.mem_cons]at hw;rcases hw with rfl|hw
    · exact .inl(.inr⟨k,by omega,by omega,h2⟩)
    exact .inr⟨w,hw,k,h1,h2⟩
def fiT(L:Mat)(c:Int):Nat->Nat->List Bool->List Bool
  |0,_,out=>out
  |f+1,t,out=>fiT L c f(t+1)(out.set t((out.getD t false||c==(t:Int))||atM L c.toNat t))
def fiI(base:Int)(null:List Bool)(L:Mat)(R:Nat)(l:List Int):Nat->Nat->List Bool->List Bool
  |0,_,out=>out
  |f+1,i,out=>fiI base null L R l f(i+1)(if Q4e base null(l.take i)=true then fiT L(l.getD i 0)R 0 out else out)
def firF(base:Int)(null:List Bool)(L:Mat)(R:Nat)(l:List Int):List Bool:=fiI base null L R l l.length 0(List.replicate(R+1)false)
theorem x8r{L:Mat}{c:Int}:∀(f t:Nat)(out:List Bool),t+f<=out.length->(fiT L c f t out).length=out.length/\∀u,((fiT L c f t out).getD u false=true↔out.getD u false=true∨(t<=u/\u<t+f/\(c=u∨atM L c.toNat u=true)))
  |0,t,out,h=>⟨rfl,fun u=>⟨.inl,fun q=>by
      rcases q with q|⟨h1,h2,_⟩
      · exact q
      omega⟩⟩
  |f+1,t,out,h=>by
    unfold fiT;obtain⟨r1,r2⟩:=x8r(L:=L)(c:=c)f(t+1)(out.set t((out.getD t false||c==(t:Int))||atM L c.toNat t))(by rw[List.length_set];omega);refine⟨by rw[r1,List.length_set],fun u=>?_⟩;rw[r2,z13 _ _ _ _ _(by omega)];by_cases e:u=t
    · subst e
      rw[if_pos rfl,Bool.or_eq_true,Bool.or_eq_true,beq_iff_eq];constructor
      · rintro(((h1|h1)|h1)|h1)
        · exact .inl h1
        · exact .inr⟨by omega,by omega,.inl h1⟩
        · exact .inr⟨by omega,by omega,.inr h1⟩
        omega
      rintro(h1|⟨_,_,h1|h1⟩)
      · exact .inl(.inl(.inl h1))
      · exact .inl(.inl(.inr h1))
      exact .inl(.inr h1)
    rw[if_neg e];constructor
    · rintro(h1|⟨h1,h2,h3⟩)
      · exact .inl h1
      exact .inr⟨by omega,by omega,h3⟩
    rintro(h1|⟨h1,h2,h3⟩)
    · exact .inl h1
    exact .inr⟨by omega,by omega,h3⟩
theorem x8o{base:Int}{null:List Bool}{L:Mat}{R:Nat}{l:List Int}:∀(f i:Nat)(out:List Bool),out.length=R+1->(fiI base null L R l f i out).length=R+1 /\
    ∀u,((fiI base null L R l f i out).getD u false=true↔out.getD u false=true∨(u<R/\∃k,i<=k/\k<i+f/\Q4e base null(l.take k)=true/\(l.getD k 0=u∨atM L(l.getD k 0).toNat u=true)))
  |0,i,out,h=>⟨h,fun u=>⟨.inl,fun q=>by
      rcases q with q|⟨_,k,h1,h2,_⟩
      · exact q
      omega⟩⟩
  |f+1,i,out,h=>by
    unfold fiI;obtain⟨t1,t2⟩:=x8r(L:=L)(c:=l.getD i 0)R 0 out(by omega);obtain⟨r1,r2⟩:=x8o(base:=base)(null:=null)(L:=L)(R:=R)(l:=l)f(i+1)(if Q4e base null(l.take i)=true then fiT L(l.getD i 0)R 0 out else out)(by split<;>first|(rw[t1];exact h)|exact h);refine⟨r1,fun u=>?_⟩;rw[r2];by_cases hc:Q4e base null(l.take i)=true
    · rw[if_pos hc,t2]
      constructor
      · rintro((h1|⟨h1,h2,h3⟩)|⟨h0,k,h1,h2,h3⟩)
        · exact .inl h1
        · exact .inr⟨by omega,i,by omega,by omega,hc,h3⟩
        exact .inr⟨h0,k,by omega,by omega,h3⟩
      rintro(h1|⟨h0,k,h1,h2,h3,h4⟩)
      · exact .inl(.inl h1)
      by_cases e:k=i
      · subst e;exact .inl(.inr⟨by omega,by omega,h4⟩)
      exact .inr⟨h0,k,by omega,by omega,h3,h4⟩
    rw[if_neg hc];constructor
    · rintro(h1|⟨h0,k,h1,h2,h3⟩)
      · exact .inl h1
      exact .inr⟨h0,k,by omega,by omega,h3⟩
    rintro(h1|⟨h0,k,h1,h2,h3,h4⟩)
    · exact .inl h1
    by_cases e:k=i
    · subst e;exact absurd h3 hc
    exact .inr⟨h0,k,by omega,by omega,h3,h4⟩
end Go.Proofs.YtcpceafmlgaodaaGreat
