import Derived.Test.YtcpceafmlgaodaaGreatMu7
import Derived.Laws.Bits64
import Derived.Laws.Bits64b
import Derived.WalkSmall
namespace Go.Proofs.YtcpceafmlgaodaaGreat
open Go.RowKit
set_option maxRecDepth 99999
set_option maxHeartbeats 0
set_option linter.all false
theorem y1q(c:Int)(w:World):Calls Tryz.prog 114 #[.int .u8 c] w fun e w'=>e=.returned (.bool (Q0l c))/\w'=w:=by
 go_enter Tryz.func114,Tryz.ntmps114
 go_wp2;all_goals (go_ret;exact⟨z0s (by rw[qAs];simp[Q0l];omega),rfl⟩)
theorem z7d(c:Int)(w:World):Calls Tryz.prog 64 #[.int .u8 c] w fun e w'=>e=.returned (.bool (Q1a c))/\w'=w:=by
 go_enter Tryz.func64,Tryz.ntmps64
 go_wp2;all_goals (go_ret;exact⟨z0s (by rw[qAs];simp[Q1a];omega),rfl⟩)
theorem y7m(c:Int)(w:World):Calls Tryz.prog 124 #[.int .u8 c] w fun e w'=>e=.returned (.bool (Q1q c))/\w'=w:=by
 go_enter Tryz.func124,Tryz.ntmps124
 go_wp2;all_goals (go_ret;exact⟨z0s (by rw[qAs];simp_all[Q1q]),rfl⟩)
def mkF(c:Int):Int × Bool:=if c=110 then(10,true) else if c=116 then(9,true) else(c,!(!Q4e c||Q0l c||Q1a c||Q7i c))
theorem z5z(c:Nat)(w:World)(hc:c<=255):Calls Tryz.prog 128 #[.int .u8 c] w fun e w'=>e=.returned (.tuple #[.int .i64 (mkF c).1,.bool (mkF c).2])/\w'=w:=by
 by_cases h1:c=110
 ·subst h1;go_enter Tryz.func128,Tryz.ntmps128
  go_wp2;go_ret2;exact⟨rfl,rfl⟩
 by_cases h2:c=116
 ·subst h2;go_enter Tryz.func128,Tryz.ntmps128
  go_wp2;go_ret2;exact⟨rfl,rfl⟩
 have k1:((c:Int)==110)=false:=by simp;omega
 have k2:((c:Int)==116)=false:=by simp;omega
 have k3:¬(c:Int)=110:=by omega
 have k4:¬(c:Int)=116:=by omega
 have HM:Hid (mkF c=((c:Int),!(!Q4e c||Q0l c||Q1a c||Q7i c))):=by unfold Hid mkF;rw[qAa k3,qAa k4]
 rw[HM.out];clear HM;have j1:Q4e (c:Int)=(decide (32<=c)&&decide (c<=126)):=by unfold Q4e;rw[qAs];simp;omega
 have j0:Q7i (c:Int)=(decide (48<=c)&&decide (c<=57)):=by unfold Q7i;rw[qAs];simp;omega
 have j3:=hid j1;have j2:=hid j0;clear j1 j0;generalize hsm:Q0l (c:Int)=sm;generalize hgr:Q1a (c:Int)=gr;have ZS:=hid (fun w=>y1q (c:Int) w);have ZG:=hid (fun w=>z7d (c:Int) w);rw[hsm]at ZS;rw[hgr]at ZG;clear hsm hgr;go_enter Tryz.func128,Tryz.ntmps128
 go_wp2_with (first
  |(go_at_call 114;refine csm (ZS.out _) ?_)
  |(go_at_call 64;refine csm (ZG.out _) ?_))
 all_goals
  go_ret2;refine⟨?_,rfl⟩;rw[j3.out,j2.out];simp_all
 all_goals first
  |(intros;omega)
  |(rw[qAs];simp;omega)
theorem y18{s:ByteArray}{i:Int}:Q2g s i=if(mkF (atB s i)).2=true then((mkF (atB s i)).1,i+1,true) else(0,i,false):=by
 unfold Q2g mkF;split
 ·rfl
 split
 ·rfl
 split
 ·rename_i h;rw[qAa (by rw[h];simp)]
 rename_i h;rw[qAb (by simpa using h)]
def okI(b:Bool)(x:Int):Int:=if b=true then x else -1
def okV(b:Bool)(x:Int):Int:=if b=true then x else 0
theorem y9d(p:ByteArray)(i:Nat)(w:World)(hp:p.size<=100000)(hi:i<=200000) :
  Calls Tryz.prog 140 #[.string p,.int .i64 i] w fun e w'=>e=.returned (.tuple #[.int .i64 (okV (Q1p p i).2.2 (Q1p p i).1),.int .i64 (okI (Q1p p i).2.2 (Q1p p i).2.1)])/\w'=w:=by
 by_cases h1:i<p.size
 ·have hb:atB p (i:Nat)=p[i].toNat:=by unfold atB;rw[qEi ⟨by omega,by simpa using h1⟩];simp
  have j8:p[i].toNat<256:=p[i].toNat_lt;have j1:¬(p.size:Int)<=(i:Int):=by omega
  have j5:(i:Int)<(p.size:Int):=by omega
  by_cases h2:p[i].toNat=92
  ·have hE:Q1p p i=Q2g p (i+1):=by unfold Q1p;rw[hb,h2,qAb (by decide)]
   rw[hE,y18];have j4:((p[i].toNat:Int)==92)=true:=by simp[h2]
   by_cases h3:i+1<p.size
   ·have j0:atB p ((i:Int)+1)=p[i+1].toNat:=by
     have:atB p ((i+1:Nat):Int)=p[i+1].toNat:=by unfold atB;rw[qEi ⟨by omega,by simpa using h3⟩];simp
     rw[← this];rfl
    have j3:p[i+1].toNat<256:=p[i+1].toNat_lt;have j2:¬(p.size:Int)<=(i:Int)+1:=by omega
    have j6:(i:Int)+1<(p.size:Int):=by omega
    have j7:((i:Int)+1).toNat=i+1:=by omega
    rw[j0];have ZM:=hid (fun w=>z5z p[i+1].toNat w (by omega));generalize mkF (p[i+1].toNat:Int)=m at ZM ⊢;obtain⟨v,ok⟩:=m;dsimp only at ZM ⊢;clear hE hb j0;cases ok
    ·go_enter Tryz.func140,Tryz.ntmps140
     go_wp2_with (first
      |(go_at_call 128;refine csm (ZM.out _) ?_))
     go_ret2;exact⟨rfl,rfl⟩
    go_enter Tryz.func140,Tryz.ntmps140
    go_wp2_with (first
     |(go_at_call 128;refine csm (ZM.out _) ?_))
    go_ret2;exact⟨by simp[okV,okI];omega,rfl⟩
   have j2:(p.size:Int)<=(i:Int)+1:=by omega
   have j0:atB p ((i:Int)+1)=-1:=by unfold atB;rw[qEp (by omega)]
   rw[j0,show mkF (-1)=(-1,false) from by decide];clear hE hb j0;go_enter Tryz.func140,Tryz.ntmps140
   go_wp2;go_ret2;exact⟨rfl,rfl⟩
  have j4:((p[i].toNat:Int)==92)=false:=by simp;omega
  have hE:Q1p p i=if p[i].toNat=93∨p[i].toNat=94∨p[i].toNat=45∨p[i].toNat<32∨126<p[i].toNat then(0,(i:Int),false) else((p[i].toNat:Int),(i:Int)+1,true):=by
   unfold Q1p;rw[hb,qAa (by omega)];by_cases q:p[i].toNat=93∨p[i].toNat=94∨p[i].toNat=45
   ·rw[qAb (by omega),qAb (by omega)]
   rw[qAa (by omega)];by_cases q2:Q4e (p[i].toNat:Int)=false
   ·rw[qAb q2,qAb (by unfold Q4e at q2;rw[Bool.and_eq_false_iff,qBr,qBr]at q2;omega)]
   have q3:Q4e (p[i].toNat:Int)=true:=by simpa using q2
   unfold Q4e at q3;rw[qAc,qAm,qAm]at q3;rw[qAa q2,qAa (by omega)]
  rw[hE];clear hE hb;generalize hn:p[i].toNat=n at *;have HN:=hid hn;by_cases q:n=93∨n=94∨n=45∨n<32∨126<n
  ·rw[qAb q];go_enter Tryz.func140,Tryz.ntmps140
   go_wp2;all_goals first
    |(exfalso;omega)
    |(go_ret2;exact⟨rfl,rfl⟩)
    |(exfalso;simp_all;done)
    |(exfalso;simp_all;omega)
  rw[qAa q];go_enter Tryz.func140,Tryz.ntmps140
  go_wp2;all_goals first
   |(exfalso;omega)
   |(go_ret2;exact⟨rfl,rfl⟩)
   |(exfalso;simp_all;done)
   |(exfalso;simp_all;omega)
 have j1:(p.size:Int)<=(i:Int):=by omega
 have hE:Q1p p i=(0,(i:Int),false):=by
  have hb:atB p (i:Nat)=-1:=by unfold atB;rw[qEp (by omega)]
  unfold Q1p;rw[hb,qAa (by decide),qAa (by decide),qAb (by decide)]
 rw[hE];clear hE;go_enter Tryz.func140,Tryz.ntmps140
 go_wp2;go_ret2;exact⟨rfl,rfl⟩
def openT:ByteArray:=⟨#[40]⟩
def closeT:ByteArray:=⟨#[41]⟩
def eitherT(p q:ByteArray):ByteArray:=openT++p++⟨#[41,124,40]⟩++q++closeT
def bothT(p q:ByteArray):ByteArray:=openT++p++⟨#[41,40]⟩++q++closeT
def markT(m:UInt8)(p:ByteArray):ByteArray:=openT++p++⟨#[41,m]⟩
section
variable {p q r:ByteArray}{L M:Q02}
end
def xT:ByteArray:=⟨#[120]⟩
def mF(b t:ByteArray):Bool:=(matchF (specX b) 0 (xT++t)).1
def eF(b t:ByteArray):Int:=(matchF (specX b) 0 (xT++t)).2
def splitF(p q t:ByteArray)(n:Nat):Bool:=(List.range (t.size+1)).any fun i=>decide (n<=i)&&(mF p (t.extract 0 i)&&mF q (t.extract i t.size))
section
variable {p q t:ByteArray}{L M:Q02}
structure Joins(p q t:ByteArray):Prop where
 either:mF (eitherT p q) t=(mF p t||mF q t)
 both:mF (bothT p q) t=splitF p q t 0
 many:mF (markT 42 p) t=(decide (t.size=0)||splitF p (markT 42 p) t 1)
 once:mF (markT 43 p) t=splitF p (markT 42 p) t 0
 maybe:mF (markT 63 p) t=(mF p t||decide (t.size=0))
end
structure WOk(ws:List Int):Prop where
 len:ws.length=4
 rng:∀k:Nat,0<=ws.getD k 0/\ws.getD k 0<18446744073709551616
def tb(ws:List Int)(c:Nat):Bool:=(ws.getD (c / 64) 0).toNat.testBit (c % 64)
theorem z6z{ws:List Int}(h:WOk ws)(c:Nat):Q5n ws c=tb ws c:=by
 have hr:=h.rng (c / 64);unfold Q5n tb;have e:ws[c / 64]?.getD 0=ws.getD (c / 64) 0:=rfl;rw[e];generalize ws.getD (c / 64) 0=x at hr;obtain⟨n,rfl⟩:∃n:Nat,x=n:=⟨x.toNat,by omega⟩;have e2:((n:Int) / 2 ^ (c % 64))=((n / 2 ^ (c % 64):Nat):Int):=by push_cast;rfl
 have j0:n / 2 ^ (c % 64)<=n:=Nat.div_le_self _ _;rw[e2,qAl,Nat.testBit_eq_decide_div_mod_eq];generalize n / 2 ^ (c % 64)=m at j0 ⊢;rw[and_one_u64 _ (by omega) (by omega),qAs,qAx,qAm];omega
theorem z5m:WOk zero4:=⟨rfl,fun k=>by
 match k with
 |0=>decide
 |1=>decide
 |2=>decide
 |3=>decide
 |k+4=>simp[zero4]⟩
theorem y9e(c:Nat):tb zero4 c=false:=by
 unfold tb;have:zero4.getD (c / 64) 0=0:=by
  match c / 64 with
  |0=>rfl
  |1=>rfl
  |2=>rfl
  |3=>rfl
  |k+4=>simp[zero4]
 rw[this];simp
theorem v11{k:Nat}(h:k<64):2 ^ k<18446744073709551616:=by
 have:=Nat.pow_lt_pow_right (a:=2) (by omega) h;simpa using this
theorem x4o{ws:List Int}(h:WOk ws){n:Nat}(hn:n<256):WOk (Q8c ws n)/\∀c,tb (Q8c ws n) c=(tb ws c||decide (c=n)):=by
 have hr:=h.rng (n / 64);have hl:=h.len;have hk:n % 64<64:=Nat.mod_lt _ (by omega);have hp:=v11 hk;have e0:Q8c ws n=ws.set (n / 64) (((ws.getD (n / 64) 0).toNat ||| 2 ^ (n % 64):Nat):Int):=by
  unfold Q8c;have e1:((n:Int) / 64).toNat=n / 64:=by omega
  have e2:((n:Int) % 64).toNat=n % 64:=by omega
  rw[e1,e2];congr 1;have e3:IntKind.u64.wrap (2 ^ (n % 64))=((2 ^ (n % 64):Nat):Int):=by
   rw[IntKind.wrap_u64];have:((2:Int) ^ (n % 64))=((2 ^ (n % 64):Nat):Int):=by push_cast;rfl
   rw[this];generalize 2 ^ (n % 64)=P at hp ⊢;omega
  have e4:ws[n / 64]?.getD 0=((ws.getD (n / 64) 0).toNat:Int):=by
   have:ws[n / 64]?.getD 0=ws.getD (n / 64) 0:=rfl;rw[this];omega
  rw[e3,e4,bits_or_u64_nat _ _ (by omega) hp]
 rw[e0];have j0:((ws.getD (n / 64) 0).toNat ||| 2 ^ (n % 64))<18446744073709551616:=by
  have:=Nat.or_lt_two_pow (n:=64) (x:=(ws.getD (n / 64) 0).toNat) (y:=2 ^ (n % 64)) (by omega) (by omega);omega
 refine⟨⟨by rw[qBd];exact hl,fun k=>?_⟩,fun c=>?_⟩
 ·by_cases q:n / 64=k
  ·rw[← q];have:(ws.set (n / 64) (((ws.getD (n / 64) 0).toNat ||| 2 ^ (n % 64):Nat):Int)).getD (n / 64) 0=(((ws.getD (n / 64) 0).toNat ||| 2 ^ (n % 64):Nat):Int):=by
    rw[List.getD,List.getElem?_set_self (by omega)];rfl
   rw[this];omega
  have:(ws.set (n / 64) (((ws.getD (n / 64) 0).toNat ||| 2 ^ (n % 64):Nat):Int)).getD k 0=ws.getD k 0:=by
   rw[List.getD,List.getElem?_set_ne q];rfl
  rw[this];exact h.rng k
 unfold tb;by_cases q:n / 64=c / 64
 ·have:(ws.set (n / 64) (((ws.getD (n / 64) 0).toNat ||| 2 ^ (n % 64):Nat):Int)).getD (c / 64) 0=(((ws.getD (c / 64) 0).toNat ||| 2 ^ (n % 64):Nat):Int):=by
   rw[← q,List.getD,List.getElem?_set_self (by omega)];rfl
  rw[this,qAl,Nat.testBit_or,Nat.testBit_two_pow];congr 1;rw[qAs,qAm,qAm];omega
 have:(ws.set (n / 64) (((ws.getD (n / 64) 0).toNat ||| 2 ^ (n % 64):Nat):Int)).getD (c / 64) 0=ws.getD (c / 64) 0:=by
  rw[List.getD,List.getElem?_set_ne q];rfl
 rw[this];have:decide (c=n)=false:=by simp;intro e;exact q (by rw[e])
 rw[this,qCk]
theorem y23{ws:List Int}(h:WOk ws){lo:Nat}:∀n,lo+n<=256->WOk (Q62 ws lo n)/\∀c,tb (Q62 ws lo n) c=(tb ws c||decide (lo<=c/\c<lo+n))
 |0,_=>⟨h,fun c=>by
   have:decide (lo<=c/\c<lo+0)=false:=qBh (by omega);rw[this,qCk];rfl⟩
 |n+1,hn=>by
  obtain⟨h1,h2⟩:=y23 h (lo:=lo) n (by omega);have e:((lo:Int)+(n:Int))=((lo+n:Nat):Int):=by omega
  obtain⟨h3,h4⟩:=x4o h1 (n:=lo+n) (by omega);unfold Q62;rw[e];refine⟨h3,fun c=>?_⟩;rw[h4,h2,Bool.or_assoc];congr 1;rw[qAs,qAk,qAm,qAm,qAm];omega
theorem x2p{lo hi:Nat}(h1:lo<=hi)(h2:hi<256):WOk (Q19 zero4 lo hi)/\∀c,Q5n (Q19 zero4 lo hi) c=decide (lo<=c/\c<=hi):=by
 obtain⟨q1,q2⟩:=y23 z5m (lo:=lo) (hi+1-lo) (by omega);have e:Q19 zero4 lo hi=Q62 zero4 lo (hi+1-lo):=by
  unfold Q19;congr 1;omega
 rw[e];refine⟨q1,fun c=>?_⟩;rw[z6z q1,q2,y9e,qCj,qAs,qAm,qAm];omega
theorem y1x{n:Nat}(h:n<18446744073709551616):Q7g n=((18446744073709551615 ^^^ n:Nat):Int):=by
 unfold Q7g;have e:(if IntKind.u64.signed=true then(-1:Int) else IntKind.u64.max)=((18446744073709551615:Nat):Int):=by decide
 rw[e,bits_xor_u64_nat _ _ (by omega) h]
theorem x2o{ws:List Int}(h:WOk ws){c:Nat}(hc:c<256):Q5n (Q8p ws 4) c=!Q5n ws c:=by
 obtain⟨a,b,d,e,rfl⟩:=four h.len;have ra:=h.rng 0;have rb:=h.rng 1;have rd:=h.rng 2;have re:=h.rng 3;simp only[qCo,qDh]at ra rb rd re;obtain⟨a,rfl⟩:∃n:Nat,a=n:=⟨a.toNat,by omega⟩;obtain⟨b,rfl⟩:∃n:Nat,b=n:=⟨b.toNat,by omega⟩;obtain⟨d,rfl⟩:∃n:Nat,d=n:=⟨d.toNat,by omega⟩;obtain⟨e,rfl⟩:∃n:Nat,e=n:=⟨e.toNat,by omega⟩;have e1:Q8p [(a:Int),(b:Int),(d:Int),(e:Int)] 4=[Q7g a,Q7g b,Q7g d,Q7g e]:=rfl;rw[e1,y1x (by omega),y1x (by omega),y1x (by omega),y1x (by omega)];have xl:∀n:Nat,n<18446744073709551616->18446744073709551615 ^^^ n<18446744073709551616:=fun n hn=>by
  have:=Nat.xor_lt_two_pow (n:=64) (x:=18446744073709551615) (y:=n) (by omega) (by omega);omega
 have la:=xl a (by omega);have lb:=xl b (by omega);have ld:=xl d (by omega);have le:=xl e (by omega);have h2:WOk [((18446744073709551615 ^^^ a:Nat):Int),((18446744073709551615 ^^^ b:Nat):Int),((18446744073709551615 ^^^ d:Nat):Int),((18446744073709551615 ^^^ e:Nat):Int)]:=⟨rfl,fun k=>by
  match k with
  |0=>simp only[qCo];omega
  |1=>simp only[qDh,qCo];omega
  |2=>simp only[qDh,qCo];omega
  |3=>simp only[qDh,qCo];omega
  |k+4=>simp⟩
 rw[z6z h,z6z h2];unfold tb;have j0:∀n:Nat,(18446744073709551615 ^^^ n).testBit (c % 64)=!n.testBit (c % 64):=fun n=>by
  have hm:(18446744073709551615:Nat).testBit (c % 64)=true:=by
   have:=Nat.testBit_two_pow_sub_one 64 (c % 64);rw[show(2:Nat) ^ 64-1=18446744073709551615 from rfl]at this;rw[this];simp;omega
  rw[Nat.testBit_xor,hm];simp
 have hq:c / 64<4:=by omega
 match hcc:c / 64,hq with
 |0,_=>simp only[qCo,qAl];exact j0 a
 |1,_=>simp only[qDh,qCo,qAl];exact j0 b
 |2,_=>simp only[qDh,qCo,qAl];exact j0 d
 |3,_=>simp only[qDh,qCo,qAl];exact j0 e
end Go.Proofs.YtcpceafmlgaodaaGreat
