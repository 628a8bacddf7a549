import Derived.Test.YtcpceafmlgaodaaGreatRf8
namespace Go.Proofs.YtcpceafmlgaodaaGreat
open Go.RowKit
set_option maxRecDepth 99999
set_option maxHeartbeats 0
set_option linter.all false
def ways:List ByteArray:=[⟨#[]⟩,⟨#[97]⟩,⟨#[97,61,97]⟩,⟨#[61,97]⟩,⟨#[58]⟩,⟨#[93]⟩,⟨#[97,93]⟩,⟨#[126,93]⟩,⟨#[126]⟩]
def Q4k(t:ByteArray):Nat->ByteArray
 |0=>t
 |k+1=>Q4k t k++⟨#[41]⟩
theorem z8q(t:ByteArray):∀k,(Q4k t k).size=t.size+k
 |0=>rfl
 |k+1=>by rw[Q4k,ByteArray.size_append,z8q t k];rfl
def Q8x(s:ByteArray):Bool:=ways.any fun v=>(List.range 7).any fun k=>(Q4u (Q4k (s++v) k)).isSome
theorem x5d:∀v∈ways,v.size<=3:=by decide
theorem v0z{j:Nat}(hj:j<9):(ways[j]'hj).size<=3:=x5d _ (qG _)
theorem x56(s:ByteArray)(w:World)(hs:s.size<=1000):Calls Tryz.prog 90 #[.string s] w fun e w'=>e=.returned (.bool (Q8x s))/\Q0a w w':=by
 have ZL:=hid (fun(t:ByteArray) (w:World) (h:t.size<=70000)=>y5u t w h);go_enter Tryz.func90,Tryz.ntmps90
 go_wp2;go_loopw [4] (fun x4 wr=>∃i:Nat,x4=.int .i64 i/\i<=9/\wr.heap[w.heap.size]? = some (.cells (Q9t ways).toArray 9 (0,0))/\Q0a w wr/\∀(j:Nat) (hj:j<9),j<i->∀k:Nat,k<7->(Q4u (Q4k (s++ways[j]'hj) k)).isSome=false)
   (fun x _=>10-(intOf x).toNat)
 case atStart=>exact⟨0,rfl,by omega,z0a _ _,(mRf _ w).alloc _,fun j _ h=>by omega⟩
 obtain⟨i,rfl,hi,hblk,hfr,hall⟩:=hrel;have HB:=hid hblk;have HF:=hid hfr;have HA:=hid hall;have j0:=fun o=>Q0b hblk o;clear hblk hfr hall;by_cases hi9:i<9
 ·have k1:(i:Int)<9:=by omega
  have hc:wr.cell? ⟨w.heap.size,i,none⟩=some (.string (ways[i]'hi9)):=by
   rw[j0 i];have:i<(Q9t ways).length:=by simp[ways];omega
   rw[qCb,qBe,qE (show i<ways.length from hi9)];rfl
  have hv:=v0z hi9;generalize hvv:ways[i]'hi9=v at hc hv;have HV:=hid hvv;clear hvv j0;generalize hw0:wr=w0 at HB HF hc;go_wp2;go_loopw [5,6] (fun x5 x6 wr=>∃k:Nat,x6=.int .i64 k/\k<=7/\x5=.string (Q4k (s++v) k)/\wr.heap[w.heap.size]? = some (.cells (Q9t ways).toArray 9 (0,0))/\Q0a w wr/\∀k':Nat,k'<k->(Q4u (Q4k (s++v) k')).isSome=false)
    (fun _ x _=>8-(intOf x).toNat)
  case atStart=>exact⟨0,rfl,by omega,rfl,HB.out,HF.out,fun k' h=>by omega⟩
  obtain⟨k,rfl,hk,rfl,hblk,hfr,hno⟩:=hrel;have HB:=hid hblk;have HF:=hid hfr;have HN:=hid hno;clear hblk hfr hno;by_cases hk7:k<7
  ·have k2:(k:Int)<=6:=by omega
   have j4:(Q4k (s++v) k).size<=70000:=by rw[z8q,ByteArray.size_append];omega
   have ZX:=hid (fun w=>ZL.out (Q4k (s++v) k) w j4);have HC:Hid (Q4k (s++v) (k+1)=Q4k (s++v) k++⟨#[41]⟩):=rfl;have HG:Hid ((Q4u (Q4k (s++v) k)).isSome=true->Q8x s=true):=fun h=>by
    unfold Q8x;rw[qAq];refine⟨v,by rw[← HV.out];exact qG _,?_⟩;rw[qAq];exact⟨k,by simpa using hk7,h⟩
   have j3:Hid ((Q4u (Q4k (s++v) k)).isSome=false->∀k':Nat,k'<k+1->(Q4u (Q4k (s++v) k')).isSome=false):=fun h k' hk'=>by
    by_cases q:k'=k
    ·rw[q];exact h
    exact HN.out k' (by omega)
   generalize Q4k (s++v) k=tk at ZX HC HG j3 j4;generalize Q4u tk=zt at ZX HG j3;cases hz:zt with
   |some z =>
    subst hz;go_wp2_with (first
     |(go_at_call 60;refine(ZX.out _).mono ?_;rintro e w1⟨x,he,hA,hf1,hx⟩;rw[Option.isSome_some]at he;subst he;have j1:=hid hf1;have j2:=hid hA;clear hf1 hA hx)
     |(refine z0e rfl 85 _ _ rfl w1 _ _ _ rfl rfl rfl Q52 rfl j2.one ?_))
    go_ret;exact⟨by rw[HG.out rfl];rfl,(HF.trans j1.out).alloc _⟩
   |none =>
    subst hz;go_wp2_with (first
     |(go_at_call 60;refine(ZX.out _).mono ?_;rintro e w1⟨x,he,hA,hf1,hx⟩;rw[Option.isSome_none]at he;subst he;have j1:=hid hf1;have j2:=hid hA;clear hf1 hA hx)
     |(refine z0e rfl 85 _ _ rfl w1 _ _ _ rfl rfl rfl Q52 rfl j2.one ?_))
    go_roundw
    case rel =>
     refine⟨k+1,by go_num,by omega,by rw[HC.out],?_,(HF.trans j1.out).alloc _,j3.out rfl⟩;have h1:=j1.at HB.out (fun x=>x);rw[z0w (z0j h1)];exact h1
    simp[intOf];omega
  have k2:¬(k:Int)<=6:=by omega
  go_wp2;go_roundw
  case rel =>
   refine⟨i+1,by go_num,by omega,HB.out,HF.out,fun j hj hji k' hk'=>?_⟩;by_cases q:j=i
   ·subst q;rw[HV.out];exact HN.out k' (by omega)
   exact HA.out j hj (by omega) k' hk'
  simp[intOf];omega
 have k1:¬(i:Int)<9:=by omega
 go_wp2;go_ret;refine⟨z0s ?_,HF.out⟩;symm;cases hg:Q8x s
 ·rfl
 exfalso;unfold Q8x at hg;rw[qAq]at hg;obtain⟨v,hv,hg⟩:=hg;rw[qAq]at hg;obtain⟨k,hk,hg⟩:=hg;obtain⟨j,hj,rfl⟩:=qAv hv;have h9:j<9:=hj;have:=HA.out j h9 (by omega) k (by simpa using hk);have q:=this.symm.trans hg;cases q
def Q6z(s:ByteArray)(a n:Nat):Nat->Nat->Nat
 |0,k=>k
 |f+1,k=>if k<n then(if Q8x (s.extract a (k+1))=true then Q6z s a n f (k+1) else k) else n
def Q5e(s:ByteArray)(a n:Nat):Nat:=Q6z s a n (n+1) a
theorem x4x(s:ByteArray)(a n f k:Nat):Q6z s a n (f+1) k=if k<n then(if Q8x (s.extract a (k+1))=true then Q6z s a n f (k+1) else k) else n:=rfl
theorem x0q(s:ByteArray)(a n:Nat)(w:World)(hs:s.size<=1000)(ha:a<=n)(hn:n<=s.size):Calls Tryz.prog 61 #[.string s,.int .i64 a,.int .i64 n] w fun e w'=>e=.returned (.int .i64 (Q5e s a n:Nat))/\Q0a w w':=by
 generalize hV:Q5e s a n=V;have HV:Hid (Q6z s a n (n+1) a=V):=hV;have GO:=hid (fun(t:ByteArray) (w:World) (h:t.size<=1000)=>x56 t w h);clear hV;go_enter Tryz.func61,Tryz.ntmps61
 go_wp2;go_loopw [7] (fun x7 wr=>∃(k f:Nat),x7=.int .i64 k/\a<=k/\k<=n/\n+1<=f+k/\Q6z s a n f k=V/\Q0a w wr)
   (fun x _=>2000-(intOf x).toNat)
 case atStart=>exact⟨a,n+1,rfl,by omega,ha,by omega,HV.out,mRf _ _⟩
 obtain⟨k,f,rfl,hak,hkn,hf,hrec,hfr⟩:=hrel;obtain⟨f,rfl⟩:∃g,f=g+1:=⟨f-1,by omega⟩;rw[x4x]at hrec;have HF:=hid hfr;clear HV hfr;by_cases hk:k<n
 ·rw[qAb hk]at hrec;have k1:(k:Int)<(n:Int):=by omega
  have GX:=hid (fun w=>GO.out (s.extract a (k+1)) w (by rw[qAz];omega));generalize Q8x (s.extract a (k+1))=g at GX hrec;have b1:(a:Int)<=(k:Int)+1:=by omega
  have b2:(k:Int)+1<=(s.size:Int):=by omega
  cases g
  ·rw[qAa (by simp)]at hrec;have HR:=hid hrec;clear hrec;go_wp2_with (first
    |(go_at_call 90;refine(GX.out _).mono ?_;rintro e w1⟨rfl,hf1⟩))
   go_ret;exact⟨by rw[← HR.out];rfl,HF.trans hf1⟩
  rw[qAb rfl]at hrec;have HR:=hid hrec;clear hrec;go_wp2_with (first
   |(go_at_call 90;refine(GX.out _).mono ?_;rintro e w1⟨rfl,hf1⟩))
  go_roundw
  case rel=>exact⟨k+1,f,by go_num,by omega,by omega,by omega,HR.out,HF.trans hf1⟩
  simp[intOf];omega
 rw[qAa hk]at hrec;have k1:¬(k:Int)<(n:Int):=by omega
 have HR:=hid hrec;clear hrec;go_wp2;go_ret;exact⟨by rw[← HR.out];rfl,HF.out⟩
theorem infoZL:(Tryz.prog.info? 85).map (fun i=>(i.zero,i.size,i.bytes))=some (some (.agg (zlA false false ⟨#[]⟩ ⟨#[]⟩ (.slice none 0 0) (.slice none 0 0) 0)),7,96):=by kernel_rfl
theorem infoZL':∃i,Tryz.prog.info? 85=some i/\i.zero=some (.agg (zlA false false ⟨#[]⟩ ⟨#[]⟩ (.slice none 0 0) (.slice none 0 0) 0))/\i.size=7/\i.bytes=96:=nfoE infoZL
structure Q4x(b:Nat)(w:World)(v:Value)(xs:List ZLV):Prop where
 own:w.ownsRow b 85 7 v xs.length (Q00 ZLV.cells xs)
 each:∀x∈xs,x.At b w
structure ZLRel(w wr:World)(v:Value)(xs:List ZLV):Prop where
 own:wr.ownsRow w.heap.size 85 7 v xs.length (Q00 ZLV.cells xs)
 each:∀x∈xs,x.At w.heap.size wr
 dis:∀x∈xs,∀k,v.ownBlock=some k->x.vs.ownBlock≠some k/\x.vp.ownBlock≠some k
 fresh:Q0a w wr
theorem ZLV.At.lt{b:Nat}{w:World}{x:ZLV}(h:x.At b w):(∀k,x.vs.ownBlock=some k->b<=k/\k<w.heap.size)/\(∀k,x.vp.ownBlock=some k->b<=k/\k<w.heap.size):=⟨h.syms.lt,h.places.lt⟩
theorem ZLV.At.base{b b':Nat}{w:World}{x:ZLV}(h:x.At b w)(hb:b'<=b):x.At b' w:=⟨z0f h.syms hb,z0f h.places hb⟩
theorem ZLV.At.put{b:Nat}{w:World}{x:ZLV}(h:x.At b w)(a:Int):ZLV.At b w {x with pl:=a}:=⟨h.syms,h.places⟩
theorem ZLRel.next{w wr w1 W w2:World}{v v':Value}{xs:List ZLV}{x:ZLV}(h:ZLRel w wr v xs)(hf:Q0a wr w1)(hx:x.At wr.heap.size w1)(m1:Q0a w1 W)
  (hown:w2.ownsRow w.heap.size 85 7 v' (xs.length+1) (Q00 ZLV.cells xs++x.cells)) (hg:W.grownBy w2 v.ownBlock)
  (hb:∀k,v'.ownBlock=some k->v.ownBlock=some k∨W.heap.size<=k):ZLRel w w2 v' (xs++[x]):=by
 have m2:Mod (fun k=>v.ownBlock=some k) W w2:=Mod.grown (S:=fun k=>v.ownBlock=some k) (mRf _ _) hg (fun k hk _=>hk);have j1:∀k,v.ownBlock=some k->w.heap.size<=k/\k<wr.heap.size:=h.own.lt;have j2:=h.fresh.size;have j3:=hf.size;have j4:=m1.size;have j0:=hx.lt;refine⟨?_,?_,?_,?_⟩
 ·rw[z0y,qP,qAf];exact hown
 ·intro y hy;rcases qBj.1 hy with hy|hy
  ·exact(((h.each y hy).fresh hf).fresh m1).kept m2 (fun k hk e=>(h.dis y hy k e).1 hk) (fun k hk e=>(h.dis y hy k e).2 hk)
  simp at hy;subst hy;exact((hx.fresh m1).kept m2 (fun k hk e=>by have:=j0.1 k hk;have:=j1 k e;omega) (fun k hk e=>by have:=j0.2 k hk;have:=j1 k e;omega)).base j2
 ·intro y hy k hk;rcases qBj.1 hy with hy|hy
  ·rcases hb k hk with h1|h1
   ·exact h.dis y hy k h1
   have:=((h.each y hy).fresh hf).lt;exact⟨fun e=>by have:=this.1 k e;omega,fun e=>by have:=this.2 k e;omega⟩
  simp at hy;subst hy;rcases hb k hk with h1|h1
  ·have h3:=j1 k h1;exact⟨fun e=>by have:=j0.1 k e;omega,fun e=>by have:=j0.2 k e;omega⟩
  exact⟨fun e=>by have:=j0.1 k e;omega,fun e=>by have:=j0.2 k e;omega⟩
 exact Mod.trans' (S:=fun _=>False) ((h.fresh.trans hf).trans m1) m2 (fun i hi e=>by have:=j1 i e;omega)
def nlL(s:ByteArray):Nat->Nat->Nat
 |0,n=>n
 |f+1,n=>if n<s.size/\atB s n≠10 then nlL s f (n+1) else n
def nlF(s:ByteArray)(a:Nat):Nat:=nlL s (s.size+1) a
theorem v1n(s:ByteArray)(f n:Nat):nlL s (f+1) n=if n<s.size/\atB s n≠10 then nlL s f (n+1) else n:=rfl
theorem y8j(s:ByteArray):∀(f n:Nat),n<=s.size->s.size+1<=f+n->n<=nlL s f n/\nlL s f n<=s.size/\(nlL s f n=s.size∨atB s (nlL s f n)=10)/\∀k,n<=k->k<nlL s f n->atB s (k:Nat)≠10
 |0,n,h1,h2=>by omega
 |f+1,n,h1,h2=>by
  rw[v1n];by_cases c:n<s.size/\atB s n≠10
  ·rw[qAb c];obtain⟨q1,q2,q3,q4⟩:=y8j s f (n+1) (by omega) (by omega);refine⟨by omega,q2,q3,fun k k1 k2=>?_⟩;by_cases e:k=n
   ·subst e;exact c.2
   exact q4 k (by omega) k2
  rw[qAa c];refine⟨qR _,h1,?_,fun k k1 k2=>by omega⟩;by_cases q:n<s.size
  ·right;by_cases q2:atB s n=10
   ·exact q2
   exact absurd ⟨q,q2⟩ c
  left;omega
theorem z78(s:ByteArray){a:Nat}(h:a<=s.size):a<=nlF s a/\nlF s a<=s.size/\(nlF s a=s.size∨atB s (nlF s a)=10)/\∀k,a<=k->k<nlF s a->atB s (k:Nat)≠10:=y8j s _ a h (by omega)
def Q3v(s:ByteArray):Nat->Nat->List (ZLn × Int)->List (ZLn × Int) × Int
 |0,_,acc=>(acc,-1)
 |f+1,a,acc =>
  if a<s.size then
   match Q4u (s.extract a (nlF s a))with
   |some z=>if nlF s a=s.size then([],(Q5e s a (nlF s a):Int)) else Q3v s f (nlF s a+1) (acc++[(z,(a:Int))])
   |none=>([],(Q5e s a (nlF s a):Int))
  else(acc,-1)
def Q4r(s:ByteArray):List (ZLn × Int) × Int:=Q3v s (s.size+1) 0 []
theorem z6n(s:ByteArray)(f a:Nat)(acc:List (ZLn × Int)):Q3v s (f+1) a acc=if a<s.size then
   match Q4u (s.extract a (nlF s a))with
   |some z=>if nlF s a=s.size then([],(Q5e s a (nlF s a):Int)) else Q3v s f (nlF s a+1) (acc++[(z,(a:Int))])
   |none=>([],(Q5e s a (nlF s a):Int))
  else(acc,-1):=rfl
def ZLV.both(x:ZLV):ZLn × Int:=(x.ln,x.pl)
theorem x5k(s:ByteArray)(w:World)(hs:s.size<=900) :
  Calls Tryz.prog 27 #[.string s] w fun e w'=>∃(v:Value) (xs:List ZLV),xs.map ZLV.both=(Q4r s).1/\e=.returned (.tuple #[v,.int .i64 (Q4r s).2])/\Q0a w w'/\Q4x w.heap.size w' v xs:=by
 generalize hR:Q4r s=R;have HR:Hid (Q3v s (s.size+1) 0 []=R):=hR;obtain⟨i0,hi,hz0,hz1,hz2⟩:=infoZL';have ZL:=hid (fun(t:ByteArray) (w:World) (h:t.size<=70000)=>y5u t w h);have ST:=hid (fun(a n:Nat) (w:World) (h1:a<=n) (h2:n<=s.size)=>x0q s a n w (by omega) h1 h2);clear hR;go_enter Tryz.func27,Tryz.ntmps27
 go_wp2;go_loopw [4,5] (fun x4 x5 wr=>∃(f a:Nat) (xs:List ZLV),x5=.int .i64 a/\Q3v s f a (xs.map ZLV.both)=R/\a<=s.size/\s.size+1<=f+a/\xs.length<=a/\ZLRel w wr x4 xs)
   (fun _ x _=>2001-(intOf x).toNat)
 case atStart=>exact⟨s.size+1,0,[],rfl,HR.out,by omega,by omega,by simp,⟨World.ownsRow_nil _ _ _ _,(fun _ h=>by cases h),(fun _ h=>by cases h),mRf _ _⟩⟩
 obtain⟨f,a,xs,rfl,hR,ha,hfu,hcnt,hL⟩:=hrel;obtain⟨f,rfl⟩:∃g,f=g+1:=⟨f-1,by omega⟩;rw[z6n]at hR;have HL:=hid hL;obtain⟨ao,cap,hv⟩:=z0d hL.own;clear hL HR;subst hv;by_cases hlt:a<s.size
 ·rw[qAb hlt]at hR;obtain⟨n1,n2,n3,n4⟩:=z78 s (a:=a) (by omega);generalize hn:nlF s a=n at n1 n2 n3 n4 hR;have HN:Hid (nlL s (s.size+1) a=n):=hn;have j0:=hid hR;have ja:(a:Int)<(s.size:Int):=by omega
  clear hn hR n4 n3;generalize hw0:wr=w0 at HL;go_wp2;go_loopw [6] (fun x6 wr=>∃(g m:Nat),x6=.int .i64 m/\wr=w0/\a<=m/\m<=s.size/\s.size+1<=g+m/\nlL s g m=n)
    (fun x _=>2001-(intOf x).toNat)
  case atStart=>exact⟨s.size+1,a,rfl,by first|rfl|trivial,by omega,by omega,by omega,HN.out⟩
  obtain⟨g,m,rfl,rfl,hm1,hm2,hg,hrec⟩:=hrel;obtain⟨g,rfl⟩:∃k,g=k+1:=⟨g-1,by omega⟩;rw[v1n]at hrec;clear HN;by_cases hm:m<s.size
  ·have hb:=z1r hm;have j9:s[m].toNat<256:=s[m].toNat_lt;have k1:(m:Int)<(s.size:Int):=by omega
   rw[hb]at hrec;clear hb;by_cases c10:(s[m].toNat:Int)=10
   ·rw[qAa (fun q=>q.2 c10)]at hrec;have q1:((s[m].toNat:Int) != 10)=false:=by simp[c10]
    subst hrec;clear c10; -- the line ends here
    have j4:(s.extract a m).size<=70000:=by rw[qAz];omega
    have ZX:=hid (fun w=>ZL.out (s.extract a m) w j4);have SX:=hid (fun w=>ST.out a m w (by omega) (by omega));have b1:(a:Int)<=(m:Int):=by omega
    have b2:(m:Int)<=(s.size:Int):=by omega
    have k2:((m:Int)==(s.size:Int))=false:=by simp;omega
    have k3:¬(m:Int)=(s.size:Int):=by omega
    have HM:Hid (¬m=s.size):=by unfold Hid;omega
    generalize Q4u (s.extract a m)=zt at ZX j0;cases zt with
    |none =>
     have j1:Hid (R=([],(Q5e s a m:Int))):=j0.symm;clear j0;go_wp2_with (first
      |(go_at_call 60;refine(ZX.out _).mono ?_;rintro e w1⟨x,he,hA,hf1,hx⟩;rw[Option.isSome_none]at he;subst he;have j3:=hid hf1;have j2:=hid hA;clear hf1 hA hx)
      |(refine z0e rfl 85 _ _ rfl w1 _ _ _ rfl rfl rfl Q52 rfl j2.one ?_)
      |(go_at_call 61;refine(SX.out _).mono ?_;rintro e w2⟨rfl,hf2⟩))
     refine bodyPost_ret (results_tmp2 rfl _ _ _) rfl ⟨.slice none 0 0,[],by rw[j1.out];rfl,by rw[j1.out];rfl,((HL.fresh.trans j3.out).alloc _).trans hf2,⟨World.ownsRow_nil _ _ _ _,fun _ h=>by cases h⟩⟩
    |some z =>
     have j1:Hid (Q3v s f (m+1) (xs.map ZLV.both++[(z,(a:Int))])=R):=by
      have:=j0.out;dsimp only at this;rw[qAa HM.out]at this;exact this
     clear j0;go_wp2_with (first
      |(go_at_call 60;refine(ZX.out _).mono ?_;rintro e w1⟨x,he,hA,hf1,hx⟩;rw[Option.isSome_some]at he;subst he;have j3:=hid hf1;have j2:=hid hA;have HX:=hid (hx z rfl);have jb:=hf1.size;clear hf1 hA hx;obtain⟨⟨xr,xk,xn,xp,xs_,xpl⟩,vs,vp,pl⟩:=x;obtain⟨so,sc,hvs⟩:=z0d j2.syms;obtain⟨po,pc,hvp⟩:=z0d j2.places;dsimp only at hvs hvp;subst hvs;subst hvp)
      |(refine z0e rfl 85 _ _ rfl w1 _ (zlA xr xk xn xp (.slice so xs_.length sc) (.slice po xpl.length pc) pl) _ rfl rfl rfl Q52 rfl (z3b rfl rfl) ?_)
      |(refine wpList_load_row rfl 85 _ rfl w1.heap.size rfl (zlA xr xk xn xp (.slice so xs_.length sc) (.slice po xpl.length pc) (a:Int)) _ _ _ (by rw[zhs (z0a _ _)];rfl) Tryz.underlying85 rfl Q52 ?_)
      |(at_builtin;refine z0g _ rfl _ _ 50 rfl w.heap.size 85 i0 _ 7 96 Tryz.underlying50 hi hz0 hz1 hz2 rfl (by decide) _ _ _ rfl (((z0c HL.own (fun g hg=>j3.block g (HL.own.lt g hg).2 (fun x=>x))).alloc _).alloc _) ⟨w1.heap.size+1,0,none⟩ 1 1 (zlL xr xk xn xp (.slice so xs_.length sc) (.slice po xpl.length pc) (a:Int)) rfl rfl ?c1 ?c2 ?c3 ?c4 ?c5 ?_))
     case c1=>exact z2s rfl
     case c2=>intro u hu;exact(qCa.1 (z3b (r:=xr) (k:=xk) (nm:=xn) (pt:=xp) (vs:=.slice so xs_.length sc) (vp:=.slice po xpl.length pc) (a:=(a:Int)) rfl rfl)) u (by simpa using hu)
     case c3=>unfold maxLen;omega
     case c4=>omega
     case c5=>have:=HL.fresh.size;simp;omega
     intro v' w2 hown2 hgrow hblk;have j5:=HL.next j3.out (j2.put (a:Int)) (((mRf _ w1).alloc _).alloc _) hown2 hgrow (by simpa using hblk);have j7:=hid j5;clear hown2 hgrow hblk j5;go_wp2;go_roundw
     case rel =>
      refine⟨f,m+1,_,by go_num,?_,by omega,by omega,?_,j7.out⟩
      ·rw[qBf,qCf];have hx:=HX.out;unfold ZLV.both;dsimp only;rw[hx];exact j1.out
      simp;omega
     simp[intOf];omega
   rw[qAb ⟨hm,c10⟩]at hrec;have q1:((s[m].toNat:Int) != 10)=true:=by simpa using c10
   have j8:=hid hrec;clear hrec c10;go_wp2;go_roundw
   case rel=>exact⟨g,m+1,by go_num,by first|rfl|trivial,by omega,by omega,by omega,j8.out⟩
   simp[intOf];omega
  rw[qAa (fun q=>hm q.1)]at hrec;have j6:m=s.size:=by omega
  have k1:¬(m:Int)<(s.size:Int):=by omega
  subst hrec;have j4:(s.extract a m).size<=70000:=by rw[qAz];omega
  have ZX:=hid (fun w=>ZL.out (s.extract a m) w j4);have SX:=hid (fun w=>ST.out a m w (by omega) (by omega));have b1:(a:Int)<=(m:Int):=by omega
  have b2:(m:Int)<=(s.size:Int):=by omega
  have k2:((m:Int)==(s.size:Int))=true:=by simp;omega
  have HM:=hid j6;clear j6;generalize Q4u (s.extract a m)=zt at ZX j0;cases zt with
  |none =>
   have j1:Hid (R=([],(Q5e s a m:Int))):=j0.symm;clear j0;go_wp2_with (first
    |(go_at_call 60;refine(ZX.out _).mono ?_;rintro e w1⟨x,he,hA,hf1,hx⟩;rw[Option.isSome_none]at he;subst he;have j3:=hid hf1;have j2:=hid hA;clear hf1 hA hx)
    |(refine z0e rfl 85 _ _ rfl w1 _ _ _ rfl rfl rfl Q52 rfl j2.one ?_)
    |(go_at_call 61;refine(SX.out _).mono ?_;rintro e w2⟨rfl,hf2⟩))
   refine bodyPost_ret (results_tmp2 rfl _ _ _) rfl ⟨.slice none 0 0,[],by rw[j1.out];rfl,by rw[j1.out];rfl,((HL.fresh.trans j3.out).alloc _).trans hf2,⟨World.ownsRow_nil _ _ _ _,fun _ h=>by cases h⟩⟩
  |some z =>
   have j1:Hid (R=([],(Q5e s a m:Int))):=by
    have:=j0.out;dsimp only at this;rw[qAb HM.out]at this;exact this.symm
   clear j0;go_wp2_with (first
    |(go_at_call 60;refine(ZX.out _).mono ?_;rintro e w1⟨x,he,hA,hf1,hx⟩;rw[Option.isSome_some]at he;subst he;have j3:=hid hf1;have j2:=hid hA;clear hf1 hA hx)
    |(refine z0e rfl 85 _ _ rfl w1 _ _ _ rfl rfl rfl Q52 rfl j2.one ?_)
    |(go_at_call 61;refine(SX.out _).mono ?_;rintro e w2⟨rfl,hf2⟩))
   refine bodyPost_ret (results_tmp2 rfl _ _ _) rfl ⟨.slice none 0 0,[],by rw[j1.out];rfl,by rw[j1.out];rfl,((HL.fresh.trans j3.out).alloc _).trans hf2,⟨World.ownsRow_nil _ _ _ _,fun _ h=>by cases h⟩⟩
 rw[qAa hlt]at hR;have j0:=hid hR;have k1:¬(a:Int)<(s.size:Int):=by omega
 clear hR;go_wp2;refine bodyPost_ret (results_tmp2 rfl _ _ _) rfl ⟨.slice ao xs.length cap,xs,by rw[← j0.out],by rw[← j0.out];rfl,HL.fresh,⟨HL.own,HL.each⟩⟩
theorem z6r(l:List ByteArray)(s:ByteArray)(v:Value)(w:World)(hl:StrsAt w v l)(hn:l.length<=1000) :
  Calls Tryz.prog 62 #[v,.string s] w fun e w'=>e=.returned (.int .i64 (Q1v l s))/\w'=w:=by
 obtain⟨a,c,rfl,hc⟩:=hl;have HC:=hid hc;clear hc;go_enter Tryz.func62,Tryz.ntmps62
 go_wp2;go_loop [5] (fun x=>∃n:Nat,x=.int .i64 n/\n<=l.length/\∀j (hj:j<l.length),j<n->(l[j].toList==s.toList)=false)
  (fun x=>1001-(intOf x).toNat)
 case atStart=>exact⟨0,rfl,by omega,fun j _ h=>by omega⟩
 obtain⟨n,rfl,hn1,hall⟩:=hrel;have j0:=hid (Q15 (B:=1001) n (by omega));have HA:=hid hall;clear hall;by_cases hlt:n<l.length
 ·obtain⟨g,o,hao,hcell⟩:=HC.out n hlt;subst hao;cases h1:(l[n].toList==s.toList)
  ·go_wp2;go_round
   case rel =>
    refine⟨n+1,by go_num,by omega,?_⟩;intro j hj hjn;by_cases e:j=n
    ·subst e;exact h1
    exact HA.out j hj (by omega)
   exact j0.out
  go_wp2;go_ret;refine⟨z1h ?_,rfl⟩;have:l.findIdx (fun x=>x.toList==s.toList)=n:=by
   rw[List.findIdx_eq hlt];exact⟨h1,fun j hj=>HA.out j (by omega) hj⟩
  unfold Q1v;rw[this,qAb hlt]
 go_wp2;go_ret;refine⟨z1h ?_,rfl⟩;have:l.findIdx (fun x=>x.toList==s.toList)=l.length:=by
  apply qCv;intro x hx;obtain⟨j,hj,rfl⟩:=qAv hx;exact HA.out j hj (by omega)
 unfold Q1v;rw[this,qAa (by omega)]
structure Rz where
 v:Value
 ty:TypeId
 k:Nat
 n:Nat
 cs:List Value
structure OAt(w:World)(b:Nat)(ty:TypeId)(rs:List Rz):Prop where
 blk:w.heap[b]? = some (.cells (rs.map Rz.v).toArray ty (0,0))
 own:∀(i:Nat) (r:Rz),rs[i]? = some r->w.ownsRow (b+1) r.ty r.k r.v r.n r.cs
 apart:∀(i j:Nat) (r r':Rz) (k:Nat),rs[i]? = some r->rs[j]? = some r'->r.v.ownBlock=some k->r'.v.ownBlock=some k->i=j
section
variable {w w' W w1:World}{b:Nat}{ty:TypeId}{rs:List Rz}
theorem OAt.lt(h:OAt w b ty rs):b<w.heap.size:=z0j h.blk
theorem OAt.own_lt(h:OAt w b ty rs){i:Nat}{r:Rz}(hr:rs[i]? = some r):∀k,r.v.ownBlock=some k->b<k/\k<w.heap.size:=fun k hk=>by
 have:=(h.own i r hr).lt k hk;omega
theorem OAt.kept{S:Nat->Prop}(h:OAt w b ty rs)(m:Mod S w w')(hs:∀k,b<=k->k<w.heap.size->¬S k):OAt w' b ty rs :=
 ⟨m.at h.blk (hs b (qR _) h.lt),fun i r hr=>z0c (h.own i r hr) (fun g hg=>m.block g (h.own_lt hr g hg).2 (hs g (by have:=h.own_lt hr g hg;omega) (h.own_lt hr g hg).2)),h.apart⟩
theorem OAt.fresh(h:OAt w b ty rs)(m:Q0a w w'):OAt w' b ty rs:=h.kept m (fun _ _ _ x=>x)
theorem OAt.blk_grown(h:OAt w b ty rs)(hW:Q0a w W){i:Nat}{r:Rz}(hi:rs[i]? = some r)(hg:W.grownBy w1 r.v.ownBlock):w1.heap[b]? = some (.cells (rs.map Rz.v).toArray ty (0,0)):=by
 have j0:=hW.at h.blk (fun x=>x);rw[hg.block b (z0j j0) (fun e=>by have:=h.own_lt hi b e.symm;omega)];exact j0
theorem oadd{i:Nat}{v v':Value}{e:TypeId}{k n:Nat}{xs x:List Value}(h:OAt w b ty rs)(hW:Q0a w W)(hi:rs[i]? = some ⟨v,e,k,n,xs⟩)
  (hown:w1.ownsRow (b+1) e k v' (n+1) (xs++x)) (hg:W.grownBy w1 v.ownBlock)
  (hb:∀j,v'.ownBlock=some j->v.ownBlock=some j∨W.heap.size<=j) :
  OAt (w1.setCell ⟨b,i,none⟩ v') b ty (rs.set i ⟨v',e,k,n+1,xs++x⟩)/\Mod (fun j=>b<=j) w (w1.setCell ⟨b,i,none⟩ v'):=by
 have j2:=(qS hi).1;have h1:=h.blk_grown hW hi hg;have j3:=hown.lt;have j0:∀(j:Nat) (r:Rz),(rs.set i ⟨v',e,k,n+1,xs++x⟩)[j]? = some r->(j=i/\r=⟨v',e,k,n+1,xs++x⟩)∨(j≠i/\rs[j]? = some r):=by
  intro j r hj;by_cases e:i=j
  ·subst e;rw[List.getElem?_set_self j2]at hj;left;exact⟨rfl,by simpa using hj.symm⟩
  rw[List.getElem?_set_ne e]at hj;right;exact⟨fun h=>e h.symm,hj⟩
 have j1:∀(j:Nat) (r:Rz) (q:Nat),j≠i->rs[j]? = some r->r.v.ownBlock=some q->v'.ownBlock=some q->False:=by
  intro j r q hne hj hk hk';rcases hb q hk' with h2|h2
  ·exact hne (h.apart j i r _ q hj hi hk h2)
  have:=h.own_lt hj q hk;have:=hW.size;omega
 refine⟨⟨?_,?_,?_⟩,?_⟩
 ·have:=zhs h1 i v';rw[this,qDy];simp
 ·intro j r hj;rcases j0 j r hj with⟨rfl,rfl⟩|⟨hne,hj⟩
  ·exact z0c hown (fun g hg'=>by rw[Proofs.YtcpceafmlgaodaaGreat.heap_setCell_other _ (by have:=j3 g hg';simp;omega)])
  refine z0c ((h.own j r hj)) (fun g hg'=>?_);have hl:=h.own_lt hj g hg';rw[Proofs.YtcpceafmlgaodaaGreat.heap_setCell_other _ (by simp;omega),hg.block g (by have:=hW.size;omega) (fun e=>hne (h.apart j i r _ g hj hi hg' e.symm)),hW.block g hl.2 (fun x=>x)]
 ·intro j j' r r' q hj hj' hk hk';rcases j0 j r hj with⟨e1,e2⟩|⟨hne,hj2⟩
  ·rcases j0 j' r' hj' with⟨e3,e4⟩|⟨hne',hj2'⟩
   ·rw[e1,e3]
   subst e2;exact(j1 j' r' q hne' hj2' hk' hk).elim
  rcases j0 j' r' hj' with⟨e3,e4⟩|⟨hne',hj2'⟩
  ·subst e4;exact(j1 j r q hne hj2 hk hk').elim
  exact h.apart j j' r r' q hj2 hj2' hk hk'
 have m1:Mod (fun j=>b<=j) w W:=hW.mono (fun _ _ x=>x.elim);exact(m1.grown hg (fun q hk _=>by have:=h.own_lt hi q hk;omega)).setCell (fun _=>qR _) _
end
structure SP where
 rules:List ZLV
 prods:List ZLV
 heads:List ByteArray
 head:List Int
abbrev Q5q(X:SP)(v0 v1 v2 v3 v4:Value)(sv:List Value):List Rz :=
 [⟨v0,85,7,X.rules.length,Q00 ZLV.cells X.rules⟩,⟨v1,85,7,X.prods.length,Q00 ZLV.cells X.prods⟩,⟨v2,9,1,X.heads.length,Q9t X.heads⟩,⟨v3,3,1,X.head.length,Q9w X.head⟩,⟨v4,22,1,sv.length,sv⟩]
abbrev Q2q(w:World)(b:Nat)(X:SP)(v0 v1 v2 v3 v4:Value)(sv:List Value):Prop:=OAt w b 54 (Q5q X v0 v1 v2 v3 v4 sv)
section
variable {w W w1:World}{b:Nat}{X:SP}{v0 v1 v2 v3 v4 v':Value}{sv:List Value}
abbrev UpZ(b:Nat):World->World->Prop:=Mod (fun k=>b<=k)
theorem Q2q.cell(h:Q2q w b X v0 v1 v2 v3 v4 sv)(o:Nat):w.cell? ⟨b,o,none⟩=#[v0,v1,v2,v3,v4][o]? := by
 have:=Q0b h.blk o;simpa using this
theorem Q2q.frozen(h:Q2q w b X v0 v1 v2 v3 v4 sv)(o:Nat):w.frozen? ⟨b,o,none⟩=false:=Q0g h.blk o
theorem Q2q.add0{x:ZLV}(h:Q2q w b X v0 v1 v2 v3 v4 sv)(hW:Q0a w W)(hown:w1.ownsRow (b+1) 85 7 v' (X.rules.length+1) (Q00 ZLV.cells X.rules++x.cells))(hg:W.grownBy w1 v0.ownBlock)
  (hb:∀k,v'.ownBlock=some k->v0.ownBlock=some k∨W.heap.size<=k) :
  Q2q (w1.setCell ⟨b,0,none⟩ v') b {X with rules:=X.rules++[x]} v' v1 v2 v3 v4 sv/\UpZ b w (w1.setCell ⟨b,0,none⟩ v'):=by
 obtain⟨a1,m⟩:=oadd (i:=0) h hW rfl hown hg hb;refine⟨?_,m⟩;have e:(Q5q X v0 v1 v2 v3 v4 sv).set 0 ⟨v',85,7,X.rules.length+1,Q00 ZLV.cells X.rules++x.cells⟩=Q5q {X with rules:=X.rules++[x]} v' v1 v2 v3 v4 sv:=by simp[Q5q,z0y]
 rw[e]at a1;exact a1
theorem Q2q.add1{x:ZLV}(h:Q2q w b X v0 v1 v2 v3 v4 sv)(hW:Q0a w W)(hown:w1.ownsRow (b+1) 85 7 v' (X.prods.length+1) (Q00 ZLV.cells X.prods++x.cells))(hg:W.grownBy w1 v1.ownBlock)
  (hb:∀k,v'.ownBlock=some k->v1.ownBlock=some k∨W.heap.size<=k) :
  Q2q (w1.setCell ⟨b,1,none⟩ v') b {X with prods:=X.prods++[x]} v0 v' v2 v3 v4 sv/\UpZ b w (w1.setCell ⟨b,1,none⟩ v'):=by
 obtain⟨a1,m⟩:=oadd (i:=1) h hW rfl hown hg hb;refine⟨?_,m⟩;have e:(Q5q X v0 v1 v2 v3 v4 sv).set 1 ⟨v',85,7,X.prods.length+1,Q00 ZLV.cells X.prods++x.cells⟩=Q5q {X with prods:=X.prods++[x]} v0 v' v2 v3 v4 sv:=by simp[Q5q,z0y]
 rw[e]at a1;exact a1
theorem Q2q.add2{x:ByteArray}(h:Q2q w b X v0 v1 v2 v3 v4 sv)(hW:Q0a w W)(hown:w1.ownsRow (b+1) 9 1 v' (X.heads.length+1) (Q9t X.heads++[.string x]))(hg:W.grownBy w1 v2.ownBlock)
  (hb:∀k,v'.ownBlock=some k->v2.ownBlock=some k∨W.heap.size<=k) :
  Q2q (w1.setCell ⟨b,2,none⟩ v') b {X with heads:=X.heads++[x]} v0 v1 v' v3 v4 sv/\UpZ b w (w1.setCell ⟨b,2,none⟩ v'):=by
 obtain⟨a1,m⟩:=oadd (i:=2) h hW rfl hown hg hb;refine⟨?_,m⟩;have e:(Q5q X v0 v1 v2 v3 v4 sv).set 2 ⟨v',9,1,X.heads.length+1,Q9t X.heads++[.string x]⟩=Q5q {X with heads:=X.heads++[x]} v0 v1 v' v3 v4 sv:=by simp[Q5q]
 rw[e]at a1;exact a1
theorem Q2q.add3{x:Int}(h:Q2q w b X v0 v1 v2 v3 v4 sv)(hW:Q0a w W)(hown:w1.ownsRow (b+1) 3 1 v' (X.head.length+1) (Q9w X.head++[.int .i64 x]))(hg:W.grownBy w1 v3.ownBlock)
  (hb:∀k,v'.ownBlock=some k->v3.ownBlock=some k∨W.heap.size<=k) :
  Q2q (w1.setCell ⟨b,3,none⟩ v') b {X with head:=X.head++[x]} v0 v1 v2 v' v4 sv/\UpZ b w (w1.setCell ⟨b,3,none⟩ v'):=by
 obtain⟨a1,m⟩:=oadd (i:=3) h hW rfl hown hg hb;refine⟨?_,m⟩;have e:(Q5q X v0 v1 v2 v3 v4 sv).set 3 ⟨v',3,1,X.head.length+1,Q9w X.head++[.int .i64 x]⟩=Q5q {X with head:=X.head++[x]} v0 v1 v2 v' v4 sv:=by simp[Q5q]
 rw[e]at a1;exact a1
theorem Q2q.add4{u:Value}(h:Q2q w b X v0 v1 v2 v3 v4 sv)(hW:Q0a w W)(hown:w1.ownsRow (b+1) 22 1 v' (sv.length+1) (sv++[u]))(hg:W.grownBy w1 v4.ownBlock)
  (hb:∀k,v'.ownBlock=some k->v4.ownBlock=some k∨W.heap.size<=k) :
  Q2q (w1.setCell ⟨b,4,none⟩ v') b X v0 v1 v2 v3 v' (sv++[u])/\UpZ b w (w1.setCell ⟨b,4,none⟩ v'):=by
 obtain⟨a1,m⟩:=oadd (i:=4) h hW rfl hown hg hb;refine⟨?_,m⟩;have e:(Q5q X v0 v1 v2 v3 v4 sv).set 4 ⟨v',22,1,sv.length+1,sv++[u]⟩=Q5q X v0 v1 v2 v3 v' (sv++[u]):=by simp[Q5q]
 rw[e]at a1;exact a1
end
theorem Q4x.kept{S:Nat->Prop}{b:Nat}{w w':World}{v:Value}{xs:List ZLV}(h:Q4x b w v xs)(m:Mod S w w')(hs:∀k,k<w.heap.size->¬S k):Q4x b w' v xs :=
 ⟨z0c h.own (fun g hg=>m.block g (h.own.lt g hg).2 (hs g (h.own.lt g hg).2)),fun x hx=>(h.each x hx).kept m (fun k hk=>hs k ((h.each x hx).syms.lt k hk).2) (fun k hk=>hs k ((h.each x hx).places.lt k hk).2)⟩
theorem Q4x.row{b:Nat}{w:World}{v:Value}{xs:List ZLV}(h:Q4x b w v xs):Q2e ZLV.cells 7 85 w v xs:=⟨z0f h.own (qBg _),fun x _=>rfl⟩
end Go.Proofs.YtcpceafmlgaodaaGreat
