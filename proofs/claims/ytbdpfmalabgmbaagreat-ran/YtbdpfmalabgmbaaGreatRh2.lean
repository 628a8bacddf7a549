import Derived.Test.YtbdpfmalabgmbaaGreatRf7
namespace Go.Proofs.YtbdpfmalabgmbaaGreat
open Go.RowKit
set_option maxRecDepth 99999
set_option maxHeartbeats 0
set_option linter.all false
theorem infoZL:(Tryz.prog.info? 113).map (fun i=>(i.zero,i.size,i.bytes))=some (some (.agg (zlA false false ⟨#[]⟩ ⟨#[]⟩ (.slice none 0 0) (.slice none 0 0) 0)),7,96):=by kernel_rfl
theorem infoZL':∃i,Tryz.prog.info? 113=some i/\i.zero=some (.agg (zlA false false ⟨#[]⟩ ⟨#[]⟩ (.slice none 0 0) (.slice none 0 0) 0))/\i.size=7/\i.bytes=96:=nfoE infoZL
structure Q44(b:Nat)(w:World)(v:Value)(xs:List ZLV):Prop where
 own:w.ownsRow b 113 7 v xs.length (Q0y ZLV.cells xs)
 each:∀x∈xs,x.At b w
structure ZLRel(w wr:World)(v:Value)(xs:List ZLV):Prop where
 own:wr.ownsRow w.heap.size 113 7 v xs.length (Q0y ZLV.cells xs)
 each:∀x∈xs,x.At w.heap.size wr
 dis:∀x∈xs,∀k,v.ownBlock=some k->x.vs.ownBlock≠some k/\x.vp.ownBlock≠some k
 fresh:Q0a w wr
theorem ZLV.At.lt{b:Nat}{w:World}{x:ZLV}(h:x.At b w):(∀k,x.vs.ownBlock=some k->b<=k/\k<w.heap.size)/\(∀k,x.vp.ownBlock=some k->b<=k/\k<w.heap.size):=⟨h.syms.lt,h.places.lt⟩
theorem ZLV.At.base{b b':Nat}{w:World}{x:ZLV}(h:x.At b w)(hb:b'<=b):x.At b' w:=⟨z0g h.syms hb,z0g h.places hb⟩
theorem ZLV.At.put{b:Nat}{w:World}{x:ZLV}(h:x.At b w)(a:Int):ZLV.At b w {x with pl:=a}:=⟨h.syms,h.places⟩
theorem ZLRel.next{w wr w1 W w2:World}{v v':Value}{xs:List ZLV}{x:ZLV}(h:ZLRel w wr v xs)(hf:Q0a wr w1)(hx:x.At wr.heap.size w1)(m1:Q0a w1 W)
  (hown:w2.ownsRow w.heap.size 113 7 v' (xs.length+1) (Q0y ZLV.cells xs++x.cells)) (hg:W.grownBy w2 v.ownBlock)
  (hb:∀k,v'.ownBlock=some k->v.ownBlock=some k∨W.heap.size<=k):ZLRel w w2 v' (xs++[x]):=by
 have m2:Mod (fun k=>v.ownBlock=some k) W w2:=Mod.grown (S:=fun k=>v.ownBlock=some k) (mRf _ _) hg (fun k hk _=>hk);have j1:∀k,v.ownBlock=some k->w.heap.size<=k/\k<wr.heap.size:=h.own.lt;have j2:=h.fresh.size;have j3:=hf.size;have j4:=m1.size;have j0:=hx.lt;refine⟨?_,?_,?_,?_⟩
 ·rw[z0v,qP,qAj];exact hown
 ·intro y hy;rcases qBs.1 hy with hy|hy
  ·exact(((h.each y hy).fresh hf).fresh m1).kept m2 (fun k hk e=>(h.dis y hy k e).1 hk) (fun k hk e=>(h.dis y hy k e).2 hk)
  simp at hy;subst hy;exact((hx.fresh m1).kept m2 (fun k hk e=>by have:=j0.1 k hk;have:=j1 k e;omega) (fun k hk e=>by have:=j0.2 k hk;have:=j1 k e;omega)).base j2
 ·intro y hy k hk;rcases qBs.1 hy with hy|hy
  ·rcases hb k hk with h1|h1
   ·exact h.dis y hy k h1
   have:=((h.each y hy).fresh hf).lt;exact⟨fun e=>by have:=this.1 k e;omega,fun e=>by have:=this.2 k e;omega⟩
  simp at hy;subst hy;rcases hb k hk with h1|h1
  ·have h3:=j1 k h1;exact⟨fun e=>by have:=j0.1 k e;omega,fun e=>by have:=j0.2 k e;omega⟩
  exact⟨fun e=>by have:=j0.1 k e;omega,fun e=>by have:=j0.2 k e;omega⟩
 exact Mod.trans' (S:=fun _=>False) ((h.fresh.trans hf).trans m1) m2 (fun i hi e=>by have:=j1 i e;omega)
def nlL(s:ByteArray):Nat->Nat->Nat
 |0,n=>n
 |f+1,n=>if n<s.size/\atB s n≠10 then nlL s f (n+1) else n
def nlF(s:ByteArray)(a:Nat):Nat:=nlL s (s.size+1) a
theorem v2h(s:ByteArray)(f n:Nat):nlL s (f+1) n=if n<s.size/\atB s n≠10 then nlL s f (n+1) else n:=rfl
theorem y86(s:ByteArray):∀(f n:Nat),n<=s.size->s.size+1<=f+n->n<=nlL s f n/\nlL s f n<=s.size/\(nlL s f n=s.size∨atB s (nlL s f n)=10)/\∀k,n<=k->k<nlL s f n->atB s (k:Nat)≠10
 |0,n,h1,h2=>by omega
 |f+1,n,h1,h2=>by
  rw[v2h];by_cases c:n<s.size/\atB s n≠10
  ·rw[qAb c];obtain⟨q1,q2,q3,q4⟩:=y86 s f (n+1) (by omega) (by omega);refine⟨by omega,q2,q3,fun k k1 k2=>?_⟩;by_cases e:k=n
   ·subst e;exact c.2
   exact q4 k (by omega) k2
  rw[qAa c];refine⟨qR _,h1,?_,fun k k1 k2=>by omega⟩;by_cases q:n<s.size
  ·right;by_cases q2:atB s n=10
   ·exact q2
   exact absurd ⟨q,q2⟩ c
  left;omega
theorem z8i(s:ByteArray){a:Nat}(h:a<=s.size):a<=nlF s a/\nlF s a<=s.size/\(nlF s a=s.size∨atB s (nlF s a)=10)/\∀k,a<=k->k<nlF s a->atB s (k:Nat)≠10:=y86 s _ a h (by omega)
def Q32(s:ByteArray):Nat->Nat->List (ZLn × Int)->List (ZLn × Int) × Int
 |0,_,acc=>(acc,-1)
 |f+1,a,acc =>
  if a<s.size then
   match Q40 (s.extract a (nlF s a))with
   |some z=>if nlF s a=s.size then([],(Q5p s a (nlF s a):Int)) else Q32 s f (nlF s a+1) (acc++[(z,(a:Int))])
   |none=>([],(Q5p s a (nlF s a):Int))
  else(acc,-1)
def Q4x(s:ByteArray):List (ZLn × Int) × Int:=Q32 s (s.size+1) 0 []
theorem z6w(s:ByteArray)(f a:Nat)(acc:List (ZLn × Int)):Q32 s (f+1) a acc=if a<s.size then
   match Q40 (s.extract a (nlF s a))with
   |some z=>if nlF s a=s.size then([],(Q5p s a (nlF s a):Int)) else Q32 s f (nlF s a+1) (acc++[(z,(a:Int))])
   |none=>([],(Q5p s a (nlF s a):Int))
  else(acc,-1):=rfl
def ZLV.both(x:ZLV):ZLn × Int:=(x.ln,x.pl)
theorem x5y(s:ByteArray)(w:World)(hs:s.size<=900) :
  Calls Tryz.prog 40 #[.string s] w fun e w'=>∃(v:Value) (xs:List ZLV),xs.map ZLV.both=(Q4x s).1/\e=.returned (.tuple #[v,.int .i64 (Q4x s).2])/\Q0a w w'/\Q44 w.heap.size w' v xs:=by
 generalize hR:Q4x s=R;have HR:Hid (Q32 s (s.size+1) 0 []=R):=hR;obtain⟨i0,hi,jm,jn,jo⟩:=infoZL';have ZL:=hid (fun(t:ByteArray) (w:World) (h:t.size<=70000)=>y6c t w h);have ST:=hid (fun(a n:Nat) (w:World) (h1:a<=n) (h2:n<=s.size)=>x1a s a n w (by omega) h1 h2);clear hR;go_enter Tryz.func40,Tryz.ntmps40
 go_wp2;go_loopw [4,5] (fun x4 x5 wr=>∃(f a:Nat) (xs:List ZLV),x5=.int .i64 a/\Q32 s f a (xs.map ZLV.both)=R/\a<=s.size/\s.size+1<=f+a/\xs.length<=a/\ZLRel w wr x4 xs)
   (fun _ x _=>2001-(intOf x).toNat)
 case atStart=>exact⟨s.size+1,0,[],rfl,HR.out,by omega,by omega,by simp,⟨qAh _ _ _ _,(fun _ h=>by cases h),(fun _ h=>by cases h),mRf _ _⟩⟩
 obtain⟨f,a,xs,rfl,hR,ha,jq,jl,hL⟩:=hrel;obtain⟨f,rfl⟩:∃g,f=g+1:=⟨f-1,by omega⟩;rw[z6w]at hR;have HL:=hid hL;obtain⟨ao,cap,hv⟩:=z0c hL.own;clear hL HR;subst hv;by_cases jf:a<s.size
 ·rw[qAb jf]at hR;obtain⟨n1,n2,n3,n4⟩:=z8i s (a:=a) (by omega);generalize hn:nlF s a=n at n1 n2 n3 n4 hR;have HN:Hid (nlL s (s.size+1) a=n):=hn;have j1:=hid hR;have jr:(a:Int)<(s.size:Int):=by omega
  clear hn hR n4 n3;generalize hw0:wr=w0 at HL;go_wp2;go_loopw [6] (fun x6 wr=>∃(g m:Nat),x6=.int .i64 m/\wr=w0/\a<=m/\m<=s.size/\s.size+1<=g+m/\nlL s g m=n)
    (fun x _=>2001-(intOf x).toNat)
  case atStart=>exact⟨s.size+1,a,rfl,by first|rfl|trivial,by omega,by omega,by omega,HN.out⟩
  obtain⟨g,m,rfl,rfl,js,jt,hg,j0⟩:=hrel;obtain⟨g,rfl⟩:∃k,g=k+1:=⟨g-1,by omega⟩;rw[v2h]at j0;clear HN;by_cases hm:m<s.size
  ·have hb:=z1u hm;have jp:s[m].toNat<256:=s[m].toNat_lt;have k1:(m:Int)<(s.size:Int):=by omega
   rw[hb]at j0;clear hb;by_cases j8:(s[m].toNat:Int)=10
   ·rw[qAa (fun q=>q.2 j8)]at j0;have q1:((s[m].toNat:Int) != 10)=false:=by simp[j8]
    subst j0;clear j8;-- the line ends here
    have jd:(s.extract a m).size<=70000:=by rw[qBl];omega
    have ZX:=hid (fun w=>ZL.out (s.extract a m) w jd);have SX:=hid (fun w=>ST.out a m w (by omega) (by omega));have b1:(a:Int)<=(m:Int):=by omega
    have b2:(m:Int)<=(s.size:Int):=by omega
    have k2:((m:Int)==(s.size:Int))=false:=by simp;omega
    have k3:¬(m:Int)=(s.size:Int):=by omega
    have HM:Hid (¬m=s.size):=by unfold Hid;omega
    generalize Q40 (s.extract a m)=zt at ZX j1;cases zt with
    |none =>
     have j3:Hid (R=([],(Q5p s a m:Int))):=j1.symm;clear j1;go_wp2_with (first
      |(go_at_call 71;refine(ZX.out _).mono ?_;rintro e w1⟨x,he,hA,j2,hx⟩;rw[Option.isSome_none]at he;subst he;have j5:=hid j2;have j4:=hid hA;clear j2 hA hx)
      |(refine z0e rfl 113 _ _ rfl w1 _ _ _ rfl rfl rfl Q6c rfl j4.one ?_)
      |(go_at_call 72;refine(SX.out _).mono ?_;rintro e w2⟨rfl,ja⟩))
     refine qAc (qEo rfl _ _ _) rfl ⟨.slice none 0 0,[],by rw[j3.out];rfl,by rw[j3.out];rfl,((HL.fresh.trans j5.out).alloc _).trans ja,⟨qAh _ _ _ _,fun _ h=>by cases h⟩⟩
    |some z =>
     have j3:Hid (Q32 s f (m+1) (xs.map ZLV.both++[(z,(a:Int))])=R):=by
      have:=j1.out;dsimp only at this;rw[qAa HM.out]at this;exact this
     clear j1;go_wp2_with (first
      |(go_at_call 71;refine(ZX.out _).mono ?_;rintro e w1⟨x,he,hA,j2,hx⟩;rw[Option.isSome_some]at he;subst he;have j5:=hid j2;have j4:=hid hA;have HX:=hid (hx z rfl);have ju:=j2.size;clear j2 hA hx;obtain⟨⟨xr,xk,xn,xp,jc,jb⟩,vs,vp,pl⟩:=x;obtain⟨so,sc,ji⟩:=z0c j4.syms;obtain⟨po,pc,jh⟩:=z0c j4.places;dsimp only at ji jh;subst ji;subst jh)
      |(refine z0e rfl 113 _ _ rfl w1 _ (zlA xr xk xn xp (.slice so jc.length sc) (.slice po jb.length pc) pl) _ rfl rfl rfl Q6c rfl (z3h rfl rfl) ?_)
      |(refine qAf rfl 113 _ rfl w1.heap.size rfl (zlA xr xk xn xp (.slice so jc.length sc) (.slice po jb.length pc) (a:Int)) _ _ _ (by rw[zhs (z0a _ _)];rfl) qCi rfl Q6c ?_)
      |(at_builtin;refine z0f _ rfl _ _ 102 rfl w.heap.size 113 i0 _ 7 96 Tryz.underlying102 hi jm jn jo rfl (by decide) _ _ _ rfl (((z0d HL.own (fun g hg=>j5.block g (HL.own.lt g hg).2 id)).alloc _).alloc _) ⟨w1.heap.size+1,0,none⟩ 1 1 (zlL xr xk xn xp (.slice so jc.length sc) (.slice po jb.length pc) (a:Int)) rfl rfl ?c1 ?c2 ?c3 ?c4 ?c5 ?_))
     case c1=>exact z13 rfl
     case c2=>intro u hu;exact(qCn.1 (z3h (r:=xr) (k:=xk) (nm:=xn) (pt:=xp) (vs:=.slice so jc.length sc) (vp:=.slice po jb.length pc) (a:=(a:Int)) rfl rfl)) u (by simpa using hu)
     case c3=>unfold maxLen;omega
     case c4=>omega
     case c5=>have:=HL.fresh.size;simp;omega
     intro v' w2 j7 j6 j9;have je:=HL.next j5.out (j4.put (a:Int)) (((mRf _ w1).alloc _).alloc _) j7 j6 (by simpa using j9);have jj:=hid je;clear j7 j6 j9 je;go_wp2;go_roundw
     case rel =>
      refine⟨f,m+1,_,by go_num,?_,by omega,by omega,?_,jj.out⟩
      ·rw[qBp,qDb];have hx:=HX.out;unfold ZLV.both;dsimp only;rw[hx];exact j3.out
      simp;omega
     simp[intOf];omega
   rw[qAb ⟨hm,j8⟩]at j0;have q1:((s[m].toNat:Int) != 10)=true:=by simpa using j8
   have jk:=hid j0;clear j0 j8;go_wp2;go_roundw
   case rel=>exact⟨g,m+1,by go_num,by first|rfl|trivial,by omega,by omega,by omega,jk.out⟩
   simp[intOf];omega
  rw[qAa (fun q=>hm q.1)]at j0;have jg:m=s.size:=by omega
  have k1:¬(m:Int)<(s.size:Int):=by omega
  subst j0;have jd:(s.extract a m).size<=70000:=by rw[qBl];omega
  have ZX:=hid (fun w=>ZL.out (s.extract a m) w jd);have SX:=hid (fun w=>ST.out a m w (by omega) (by omega));have b1:(a:Int)<=(m:Int):=by omega
  have b2:(m:Int)<=(s.size:Int):=by omega
  have k2:((m:Int)==(s.size:Int))=true:=by simp;omega
  have HM:=hid jg;clear jg;generalize Q40 (s.extract a m)=zt at ZX j1;cases zt with
  |none =>
   have j3:Hid (R=([],(Q5p s a m:Int))):=j1.symm;clear j1;go_wp2_with (first
    |(go_at_call 71;refine(ZX.out _).mono ?_;rintro e w1⟨x,he,hA,j2,hx⟩;rw[Option.isSome_none]at he;subst he;have j5:=hid j2;have j4:=hid hA;clear j2 hA hx)
    |(refine z0e rfl 113 _ _ rfl w1 _ _ _ rfl rfl rfl Q6c rfl j4.one ?_)
    |(go_at_call 72;refine(SX.out _).mono ?_;rintro e w2⟨rfl,ja⟩))
   refine qAc (qEo rfl _ _ _) rfl ⟨.slice none 0 0,[],by rw[j3.out];rfl,by rw[j3.out];rfl,((HL.fresh.trans j5.out).alloc _).trans ja,⟨qAh _ _ _ _,fun _ h=>by cases h⟩⟩
  |some z =>
   have j3:Hid (R=([],(Q5p s a m:Int))):=by
    have:=j1.out;dsimp only at this;rw[qAb HM.out]at this;exact this.symm
   clear j1;go_wp2_with (first
    |(go_at_call 71;refine(ZX.out _).mono ?_;rintro e w1⟨x,he,hA,j2,hx⟩;rw[Option.isSome_some]at he;subst he;have j5:=hid j2;have j4:=hid hA;clear j2 hA hx)
    |(refine z0e rfl 113 _ _ rfl w1 _ _ _ rfl rfl rfl Q6c rfl j4.one ?_)
    |(go_at_call 72;refine(SX.out _).mono ?_;rintro e w2⟨rfl,ja⟩))
   refine qAc (qEo rfl _ _ _) rfl ⟨.slice none 0 0,[],by rw[j3.out];rfl,by rw[j3.out];rfl,((HL.fresh.trans j5.out).alloc _).trans ja,⟨qAh _ _ _ _,fun _ h=>by cases h⟩⟩
 rw[qAa jf]at hR;have j1:=hid hR;have k1:¬(a:Int)<(s.size:Int):=by omega
 clear hR;go_wp2;refine qAc (qEo rfl _ _ _) rfl ⟨.slice ao xs.length cap,xs,by rw[← j1.out],by rw[← j1.out];rfl,HL.fresh,⟨HL.own,HL.each⟩⟩
theorem z60(l:List ByteArray)(s:ByteArray)(v:Value)(w:World)(hl:StrsAt w v l)(hn:l.length<=1000) :
  Calls Tryz.prog 73 #[v,.string s] w fun e w'=>e=.returned (.int .i64 (Q1y l s))/\w'=w:=by
 obtain⟨a,c,rfl,hc⟩:=hl;have HC:=hid hc;clear hc;go_enter Tryz.func73,Tryz.ntmps73
 go_wp2;go_loop [5] (fun x=>∃n:Nat,x=.int .i64 n/\n<=l.length/\∀j (hj:j<l.length),j<n->(l[j].toList==s.toList)=false)
  (fun x=>1001-(intOf x).toNat)
 case atStart=>exact⟨0,rfl,by omega,fun j _ h=>by omega⟩
 obtain⟨n,rfl,j6,j0⟩:=hrel;have j3:=hid (Q19 (B:=1001) n (by omega));have HA:=hid j0;clear j0;by_cases j1:n<l.length
 ·obtain⟨g,o,j4,j2⟩:=HC.out n j1;subst j4;cases h1:(l[n].toList==s.toList)
  ·go_wp2;go_round
   case rel =>
    refine⟨n+1,by go_num,by omega,?_⟩;intro j hj j5;by_cases e:j=n
    ·subst e;exact h1
    exact HA.out j hj (by omega)
   exact j3.out
  go_wp2;go_ret;refine⟨z1i ?_,rfl⟩;have:l.findIdx (fun x=>x.toList==s.toList)=n:=by
   rw[List.findIdx_eq j1];exact⟨h1,fun j hj=>HA.out j (by omega) hj⟩
  unfold Q1y;rw[this,qAb j1]
 go_wp2;go_ret;refine⟨z1i ?_,rfl⟩;have:l.findIdx (fun x=>x.toList==s.toList)=l.length:=by
  apply qDt;intro x hx;obtain⟨j,hj,rfl⟩:=qBf hx;exact HA.out j hj (by omega)
 unfold Q1y;rw[this,qAa (by omega)]
structure Rz where
 v:Value
 ty:TypeId
 k:Nat
 n:Nat
 cs:List Value
structure OAt(w:World)(b:Nat)(ty:TypeId)(rs:List Rz):Prop where
 blk:w.heap[b]? = some (.cells (rs.map Rz.v).toArray ty (0,0))
 own:∀(i:Nat) (r:Rz),rs[i]? = some r->w.ownsRow (b+1) r.ty r.k r.v r.n r.cs
 apart:∀(i j:Nat) (r r':Rz) (k:Nat),rs[i]? = some r->rs[j]? = some r'->r.v.ownBlock=some k->r'.v.ownBlock=some k->i=j
section
variable {w w' W w1:World}{b:Nat}{ty:TypeId}{rs:List Rz}
theorem OAt.lt(h:OAt w b ty rs):b<w.heap.size:=z0j h.blk
theorem OAt.own_lt(h:OAt w b ty rs){i:Nat}{r:Rz}(hr:rs[i]? = some r):∀k,r.v.ownBlock=some k->b<k/\k<w.heap.size:=fun k hk=>by
 have:=(h.own i r hr).lt k hk;omega
theorem OAt.kept{S:Nat->Prop}(h:OAt w b ty rs)(m:Mod S w w')(hs:∀k,b<=k->k<w.heap.size->¬S k):OAt w' b ty rs :=
 ⟨m.at h.blk (hs b (qR _) h.lt),fun i r hr=>z0d (h.own i r hr) (fun g hg=>m.block g (h.own_lt hr g hg).2 (hs g (by have:=h.own_lt hr g hg;omega) (h.own_lt hr g hg).2)),h.apart⟩
theorem OAt.fresh(h:OAt w b ty rs)(m:Q0a w w'):OAt w' b ty rs:=h.kept m (fun _ _ _ x=>x)
theorem OAt.blk_grown(h:OAt w b ty rs)(hW:Q0a w W){i:Nat}{r:Rz}(hi:rs[i]? = some r)(hg:W.grownBy w1 r.v.ownBlock):w1.heap[b]? = some (.cells (rs.map Rz.v).toArray ty (0,0)):=by
 have j0:=hW.at h.blk id;rw[hg.block b (z0j j0) (fun e=>by have:=h.own_lt hi b e.symm;omega)];exact j0
theorem oadd{i:Nat}{v v':Value}{e:TypeId}{k n:Nat}{xs x:List Value}(h:OAt w b ty rs)(hW:Q0a w W)(hi:rs[i]? = some ⟨v,e,k,n,xs⟩)
  (hown:w1.ownsRow (b+1) e k v' (n+1) (xs++x)) (hg:W.grownBy w1 v.ownBlock)
  (hb:∀j,v'.ownBlock=some j->v.ownBlock=some j∨W.heap.size<=j) :
  OAt (w1.setCell ⟨b,i,none⟩ v') b ty (rs.set i ⟨v',e,k,n+1,xs++x⟩)/\Mod (fun j=>b<=j) w (w1.setCell ⟨b,i,none⟩ v'):=by
 have j8:=(qS hi).1;have h1:=h.blk_grown hW hi hg;have j9:=hown.lt;have j0:∀(j:Nat) (r:Rz),(rs.set i ⟨v',e,k,n+1,xs++x⟩)[j]? = some r->(j=i/\r=⟨v',e,k,n+1,xs++x⟩)∨(j≠i/\rs[j]? = some r):=by
  intro j r hj;by_cases e:i=j
  ·subst e;rw[List.getElem?_set_self j8]at hj;left;exact⟨rfl,by simpa using hj.symm⟩
  rw[List.getElem?_set_ne e]at hj;right;exact⟨fun h=>e h.symm,hj⟩
 have j5:∀(j:Nat) (r:Rz) (q:Nat),j≠i->rs[j]? = some r->r.v.ownBlock=some q->v'.ownBlock=some q->False:=by
  intro j r q j3 hj hk j2;rcases hb q j2 with h2|h2
  ·exact j3 (h.apart j i r _ q hj hi hk h2)
  have:=h.own_lt hj q hk;have:=hW.size;omega
 refine⟨⟨?_,?_,?_⟩,?_⟩
 ·have:=zhs h1 i v';rw[this,qFr];simp
 ·intro j r hj;rcases j0 j r hj with⟨rfl,rfl⟩|⟨j3,hj⟩
  ·exact z0d hown (fun g hg'=>by rw[Proofs.YtbdpfmalabgmbaaGreat.heap_setCell_other _ (by have:=j9 g hg';simp;omega)])
  refine z0d ((h.own j r hj)) (fun g hg'=>?_);have hl:=h.own_lt hj g hg';rw[Proofs.YtbdpfmalabgmbaaGreat.heap_setCell_other _ (by simp;omega),hg.block g (by have:=hW.size;omega) (fun e=>j3 (h.apart j i r _ g hj hi hg' e.symm)),hW.block g hl.2 id]
 ·intro j j' r r' q hj j6 hk j2;rcases j0 j r hj with⟨e1,e2⟩|⟨j3,j7⟩
  ·rcases j0 j' r' j6 with⟨e3,e4⟩|⟨j4,j1⟩
   ·rw[e1,e3]
   subst e2;exact(j5 j' r' q j4 j1 j2 hk).elim
  rcases j0 j' r' j6 with⟨e3,e4⟩|⟨j4,j1⟩
  ·subst e4;exact(j5 j r q j3 j7 hk j2).elim
  exact h.apart j j' r r' q j7 j1 hk j2
 have m1:Mod (fun j=>b<=j) w W:=hW.mono (fun _ _ x=>x.elim);exact(m1.grown hg (fun q hk _=>by have:=h.own_lt hi q hk;omega)).setCell (fun _=>qR _) _
end
structure SP where
 rules:List ZLV
 prods:List ZLV
 heads:List ByteArray
 head:List Int
abbrev Q51(X:SP)(v0 v1 v2 v3 v4:Value)(sv:List Value):List Rz :=
 [⟨v0,113,7,X.rules.length,Q0y ZLV.cells X.rules⟩,⟨v1,113,7,X.prods.length,Q0y ZLV.cells X.prods⟩,⟨v2,9,1,X.heads.length,Q98 X.heads⟩,⟨v3,3,1,X.head.length,W0b X.head⟩,⟨v4,24,1,sv.length,sv⟩]
abbrev Q2f(w:World)(b:Nat)(X:SP)(v0 v1 v2 v3 v4:Value)(sv:List Value):Prop:=OAt w b 111 (Q51 X v0 v1 v2 v3 v4 sv)
section
variable {w W w1:World}{b:Nat}{X:SP}{v0 v1 v2 v3 v4 v':Value}{sv:List Value}
abbrev UpZ(b:Nat):World->World->Prop:=Mod (fun k=>b<=k)
theorem Q2f.cell(h:Q2f w b X v0 v1 v2 v3 v4 sv)(o:Nat):w.cell? ⟨b,o,none⟩=#[v0,v1,v2,v3,v4][o]? := by
 have:=Q0b h.blk o;simpa using this
theorem Q2f.frozen(h:Q2f w b X v0 v1 v2 v3 v4 sv)(o:Nat):w.frozen? ⟨b,o,none⟩=false:=Q0f h.blk o
theorem Q2f.add0{x:ZLV}(h:Q2f w b X v0 v1 v2 v3 v4 sv)(hW:Q0a w W)(hown:w1.ownsRow (b+1) 113 7 v' (X.rules.length+1) (Q0y ZLV.cells X.rules++x.cells))(hg:W.grownBy w1 v0.ownBlock)
  (hb:∀k,v'.ownBlock=some k->v0.ownBlock=some k∨W.heap.size<=k) :
  Q2f (w1.setCell ⟨b,0,none⟩ v') b {X with rules:=X.rules++[x]} v' v1 v2 v3 v4 sv/\UpZ b w (w1.setCell ⟨b,0,none⟩ v'):=by
 obtain⟨a1,m⟩:=oadd (i:=0) h hW rfl hown hg hb;refine⟨?_,m⟩;have e:(Q51 X v0 v1 v2 v3 v4 sv).set 0 ⟨v',113,7,X.rules.length+1,Q0y ZLV.cells X.rules++x.cells⟩=Q51 {X with rules:=X.rules++[x]} v' v1 v2 v3 v4 sv:=by simp[Q51,z0v]
 rw[e]at a1;exact a1
theorem Q2f.add1{x:ZLV}(h:Q2f w b X v0 v1 v2 v3 v4 sv)(hW:Q0a w W)(hown:w1.ownsRow (b+1) 113 7 v' (X.prods.length+1) (Q0y ZLV.cells X.prods++x.cells))(hg:W.grownBy w1 v1.ownBlock)
  (hb:∀k,v'.ownBlock=some k->v1.ownBlock=some k∨W.heap.size<=k) :
  Q2f (w1.setCell ⟨b,1,none⟩ v') b {X with prods:=X.prods++[x]} v0 v' v2 v3 v4 sv/\UpZ b w (w1.setCell ⟨b,1,none⟩ v'):=by
 obtain⟨a1,m⟩:=oadd (i:=1) h hW rfl hown hg hb;refine⟨?_,m⟩;have e:(Q51 X v0 v1 v2 v3 v4 sv).set 1 ⟨v',113,7,X.prods.length+1,Q0y ZLV.cells X.prods++x.cells⟩=Q51 {X with prods:=X.prods++[x]} v0 v' v2 v3 v4 sv:=by simp[Q51,z0v]
 rw[e]at a1;exact a1
theorem Q2f.add2{x:ByteArray}(h:Q2f w b X v0 v1 v2 v3 v4 sv)(hW:Q0a w W)(hown:w1.ownsRow (b+1) 9 1 v' (X.heads.length+1) (Q98 X.heads++[.string x]))(hg:W.grownBy w1 v2.ownBlock)
  (hb:∀k,v'.ownBlock=some k->v2.ownBlock=some k∨W.heap.size<=k) :
  Q2f (w1.setCell ⟨b,2,none⟩ v') b {X with heads:=X.heads++[x]} v0 v1 v' v3 v4 sv/\UpZ b w (w1.setCell ⟨b,2,none⟩ v'):=by
 obtain⟨a1,m⟩:=oadd (i:=2) h hW rfl hown hg hb;refine⟨?_,m⟩;have e:(Q51 X v0 v1 v2 v3 v4 sv).set 2 ⟨v',9,1,X.heads.length+1,Q98 X.heads++[.string x]⟩=Q51 {X with heads:=X.heads++[x]} v0 v1 v' v3 v4 sv:=by simp[Q51]
 rw[e]at a1;exact a1
theorem Q2f.add3{x:Int}(h:Q2f w b X v0 v1 v2 v3 v4 sv)(hW:Q0a w W)(hown:w1.ownsRow (b+1) 3 1 v' (X.head.length+1) (W0b X.head++[.int .i64 x]))(hg:W.grownBy w1 v3.ownBlock)
  (hb:∀k,v'.ownBlock=some k->v3.ownBlock=some k∨W.heap.size<=k) :
  Q2f (w1.setCell ⟨b,3,none⟩ v') b {X with head:=X.head++[x]} v0 v1 v2 v' v4 sv/\UpZ b w (w1.setCell ⟨b,3,none⟩ v'):=by
 obtain⟨a1,m⟩:=oadd (i:=3) h hW rfl hown hg hb;refine⟨?_,m⟩;have e:(Q51 X v0 v1 v2 v3 v4 sv).set 3 ⟨v',3,1,X.head.length+1,W0b X.head++[.int .i64 x]⟩=Q51 {X with head:=X.head++[x]} v0 v1 v2 v' v4 sv:=by simp[Q51]
 rw[e]at a1;exact a1
theorem Q2f.add4{u:Value}(h:Q2f w b X v0 v1 v2 v3 v4 sv)(hW:Q0a w W)(hown:w1.ownsRow (b+1) 24 1 v' (sv.length+1) (sv++[u]))(hg:W.grownBy w1 v4.ownBlock)
  (hb:∀k,v'.ownBlock=some k->v4.ownBlock=some k∨W.heap.size<=k) :
  Q2f (w1.setCell ⟨b,4,none⟩ v') b X v0 v1 v2 v3 v' (sv++[u])/\UpZ b w (w1.setCell ⟨b,4,none⟩ v'):=by
 obtain⟨a1,m⟩:=oadd (i:=4) h hW rfl hown hg hb;refine⟨?_,m⟩;have e:(Q51 X v0 v1 v2 v3 v4 sv).set 4 ⟨v',24,1,sv.length+1,sv++[u]⟩=Q51 X v0 v1 v2 v3 v' (sv++[u]):=by simp[Q51]
 rw[e]at a1;exact a1
end
theorem Q44.kept{S:Nat->Prop}{b:Nat}{w w':World}{v:Value}{xs:List ZLV}(h:Q44 b w v xs)(m:Mod S w w')(hs:∀k,k<w.heap.size->¬S k):Q44 b w' v xs :=
 ⟨z0d h.own (fun g hg=>m.block g (h.own.lt g hg).2 (hs g (h.own.lt g hg).2)),fun x hx=>(h.each x hx).kept m (fun k hk=>hs k ((h.each x hx).syms.lt k hk).2) (fun k hk=>hs k ((h.each x hx).places.lt k hk).2)⟩
theorem Q44.row{b:Nat}{w:World}{v:Value}{xs:List ZLV}(h:Q44 b w v xs):Q18 ZLV.cells 7 113 w v xs:=⟨z0g h.own (qBq _),fun x _=>rfl⟩
end Go.Proofs.YtbdpfmalabgmbaaGreat
