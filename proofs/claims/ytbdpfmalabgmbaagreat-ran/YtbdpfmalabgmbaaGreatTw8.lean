import Derived.Laws.MakeOwn
import Derived.Test.YtbdpfmalabgmbaaGreatTw6
namespace Go.Proofs.YtbdpfmalabgmbaaGreat
open Go.RowKit
set_option maxRecDepth 99999
set_option maxHeartbeats 0
set_option linter.all false
section
variable {α:Type}{cells:α->List Value}{k:Nat}
theorem y4f{l:List α}(hw:∀x,(cells x).length=k)(hk0:0<k){x:α}{i:Nat}(hi:i<l.length)(j:Nat) :
  (Q0y cells (l.set i x))[j]? = if i*k<=j/\j<i*k+k then(cells x)[j-i*k]? else(Q0y cells l)[j]? := by
 have l1:=z25 cells k (xs:=l) (fun x _=>hw x);have l2:=z25 cells k (xs:=l.set i x) (fun x _=>hw x);rw[qBr]at l2;have j2:i*k+k<=l.length*k:=by
  have:(i+1)*k<=l.length*k:=qCr k hi;rw[qFc,Nat.one_mul]at this;exact this
 by_cases hj:j<l.length*k
 ·have hq:j / k<l.length:=Nat.div_lt_of_lt_mul (by rw[Nat.mul_comm];exact hj);have hr:j % k<k:=Nat.mod_lt _ hk0;have e:j / k*k+j % k=j:=by rw[Nat.mul_comm];exact Nat.div_add_mod j k
  have a1:=z5w cells k (xs:=l) (fun x _=>hw x) (j / k) (j % k) hq hr;have a2:=z5w cells k (xs:=l.set i x) (fun x _=>hw x) (j / k) (j % k) (by simpa using hq) hr;rw[e]at a1 a2;rw[a1,a2,List.getElem_set];by_cases j0:i=j / k
  ·rw[qAb j0,qAb ⟨by rw[j0];omega,by rw[j0];omega⟩];congr 1;rw[j0];omega
  rw[qAa j0,qAa];rintro⟨h1,h2⟩;apply j0;have hd:j=k*i+(j-i*k):=by rw[Nat.mul_comm k i];omega
  have j1:j-i*k<k:=by omega
  rw[hd,Nat.mul_add_div hk0,Nat.div_eq_of_lt j1];omega
 rw[qN (by omega),qAa (by omega),qN (by omega)]
theorem v03{w:World}{B g n cap:Nat}{e:TypeId}{l:List α}(hw:∀x,(cells x).length=k)(hk0:0<k)(h:w.ownsRow B e k (.slice (some ⟨g,0,none⟩) n cap) l.length (Q0y cells l)){i:Nat}(hi:i<l.length)(x:α) :
  (w.setCells g (i*k) (cells x)).ownsRow B e k (.slice (some ⟨g,0,none⟩) n cap) (l.set i x).length (Q0y cells (l.set i x)):=by
 have l2:=z25 cells k (xs:=l.set i x) (fun x _=>hw x);have j4:i*k+k<=l.length*k:=by
  have:(i+1)*k<=l.length*k:=qCr k hi;rw[qFc,Nat.one_mul]at this;exact this
 obtain⟨h1,h2⟩:=h;refine⟨l2,?_⟩;rcases h2 with⟨h2,_⟩|⟨g',j0,j1,e1,e2,e3,e4,e5,e6,e7⟩
 ·cases h2
 rw[qI]at e1;obtain⟨eg,rfl,rfl⟩:=e1;have j2:g=g':=by simpa using eg
 subst j2;have j3:l.length*k<=cap*k:=qCr _ e4;refine .inr ⟨g,cap,Q5a j1 (i*k) (cells x),by rw[qBr],e2,z0q _ _ _ _ _ _ _ e3,by rw[qBr];exact e4,e5,by rw[z55];exact e6,?_⟩;apply qEd;intro j;rw[y4f hw hk0 hi,← e7,qBr];by_cases hj:j<l.length*k
 ·rw[qDc hj,qDc hj,qEk,qEk,y0a _ _ _ _ (by rw[hw];omega),hw];simp
 rw[qN (by simp;omega),qAa (by omega),qN (by simp;omega)]
theorem x7g{w:World}{B g n cap:Nat}{e:TypeId}{l:List α}(hw:∀x,(cells x).length=k)(hk0:0<k)(h:w.ownsRow B e k (.slice (some ⟨g,0,none⟩) n cap) l.length (Q0y cells l)){i o:Nat}(hi:i<l.length)(ho:o<k)(v:Value)(x:α)
  (hx:cells x=(cells l[i]).set o v) :
  (w.setCell ⟨g,i*k+o,none⟩ v).ownsRow B e k (.slice (some ⟨g,0,none⟩) n cap) (l.set i x).length (Q0y cells (l.set i x)):=by
 have l2:=z25 cells k (xs:=l.set i x) (fun x _=>hw x);have j7:i*k+k<=l.length*k:=by
  have:(i+1)*k<=l.length*k:=qCr k hi;rw[qFc,Nat.one_mul]at this;exact this
 obtain⟨h1,h2⟩:=h;refine⟨l2,?_⟩;rcases h2 with⟨h2,_⟩|⟨g',j4,j0,e1,e2,e3,e4,e5,e6,e7⟩
 ·cases h2
 rw[qI]at e1;obtain⟨eg,rfl,rfl⟩:=e1;have j5:g=g':=by simpa using eg
 subst j5;have j6:l.length*k<=cap*k:=qCr _ e4;refine .inr ⟨g,cap,j0.setIfInBounds (i*k+o) v,by rw[qBr],e2,zhs e3 _ _,by rw[qBr];exact e4,e5,by simpa using e6,?_⟩;apply qEd;intro j;rw[y4f hw hk0 hi,qBr,hx];by_cases hj:j<l.length*k
 ·have hc:j0.toList[j]? = (Q0y cells l)[j]? := by rw[← e7,qDc hj]
  rw[qDc hj,qEk,qEx,← qEk,hc];by_cases j2:i*k<=j/\j<i*k+k
  ·rw[qAb j2,qCs];have j1:=z5w cells k (xs:=l) (fun x _=>hw x) i (j-i*k) hi (by omega);rw[show i*k+(j-i*k)=j by omega]at j1;by_cases j3:o=j-i*k
   ·rw[qAb (by omega),qAb j3,qAb (by omega),qAb (by rw[hw];omega)]
   rw[qAa (by omega),qAa j3,j1]
  rw[qAa j2,qAa (by omega)]
 rw[qN (by simp;omega),qAa (by omega),qN];rw[z25 cells k (xs:=l) (fun x _=>hw x)];omega
end
theorem Nd.cells_len(n:Nd):n.cells.length=4:=rfl
theorem y0w(w:World)(R H:Int)(vp vn:Value)(ps:List PV)(l:List Nd)(i:Nat)(hp:Q2e w w.heap.size vp ps)(hn:NdsAt w vn l)(hi:i<l.length)(hps:ps.length<=1000) :
  Calls Tryz.prog 103 #[.agg #[.int .i64 R,.int .i64 H,vp],vn,.int .i64 i] w fun e w'=>e=.returned (.int .i64 (arF (Q0k ps) l[i]))/\Q0a w w':=by
 obtain⟨pa,pc,j5⟩:=z0c hp.row.own;subst j5;obtain⟨na,nc,j4⟩:=z0c hn.own;subst j4;obtain⟨g,c',hg⟩:=Joins.ownsRow_form hn.own (by omega);rw[qI]at hg;obtain⟨rfl,_,rfl⟩:=hg;have j6:=(hn.own.lt g rfl).2;have c0:w.cell? ⟨g,i*4,none⟩=some (.int .i64 l[i].prod):=hn.cell i 0 hi (by omega);have j7:(i:Int)<(l.length:Int):=by omega
 have j8:¬(l.length<=i):=by omega
 have HP:=hid hp;generalize hX:arF (Q0k ps) l[i]=X;unfold arF at hX;generalize l[i].prod=pr at c0 hX;clear hn hp;by_cases h0:pr<0
 ·rw[qAb h0]at hX;subst hX;go_enter Tryz.func103,Tryz.ntmps103
  go_wp2;go_ret;exact⟨rfl,(mRf _ w).alloc _⟩
 rw[qAa h0]at hX;obtain⟨q,rfl⟩:∃q:Nat,pr=q:=⟨pr.toNat,by omega⟩;rw[qAo]at hX;by_cases hq:q<ps.length
 ·have j2:(q:Int)<(ps.length:Int):=by omega
  have j3:¬(ps.length<=q):=by omega
  have e:(Q0k ps)[q]? = some ps[q].pr:=by simp[Q0k,hq]
  rw[e]at hX;simp only[]at hX;subst hX;obtain⟨gp,c2,j0⟩:=Joins.ownsRow_form HP.row.own (by omega);rw[qI]at j0;obtain⟨rfl,_,rfl⟩:=j0;have j9:=(HP.row.own.lt gp rfl).2;have c1:w.cell? ⟨gp,q*2+1,none⟩=some ps[q].vs:=HP.row.cell q 1 hq (by omega);obtain⟨sa,sc,j1,_⟩:=HP.syms ps[q] (by simp);rw[j1]at c1;clear j1 e;generalize ps[q].pr.syms.length=N at c1;go_enter Tryz.func103,Tryz.ntmps103
  go_wp2;go_ret;exact⟨rfl,(mRf _ w).alloc _⟩
 have j2:¬(q:Int)<(ps.length:Int):=by omega
 have j3:ps.length<=q:=by omega
 have e:(Q0k ps)[q]? = none:=by simp[Q0k];omega
 rw[e]at hX;simp only[]at hX;subst hX;clear e;go_enter Tryz.func103,Tryz.ntmps103
 go_wp2;go_ret;exact⟨rfl,(mRf _ w).alloc _⟩
theorem x08(w:World)(R H:Int)(vp vn:Value)(ps:List PV)(l:List Nd)(i:Nat)(S:List Nat)(hp:Q2e w w.heap.size vp ps)(hn:NdsAt w vn l)(hi:i<l.length)(hps:ps.length<=1000)(hll:l.length<=1000000000000)
  (hS:S.length+i+1=l.length) (hz:∀(j d:Nat),S[j]? = some d->∃x:Nd,l[i+1+j]? = some x/\x.size=(d:Int)) (hb:∀(j d:Nat),S[j]? = some d->1<=d/\j+d<=S.length) (har:arF (Q0k ps) l[i]<=1000) :
  Calls Tryz.prog 70 #[.agg #[.int .i64 R,.int .i64 H,vp],vn,.int .i64 i] w fun e w'=>e=.returned (.int .i64 (szL S (arF (Q0k ps) l[i]) 1))/\Q0a w w':=by
 have CO:=hid (fun W (hW:Q0a w W)=>y0w W R H vp vn ps l i ((hp.kept (qR _) hW (fun _ _ x=>x)).up hW.size) (hn.fresh hW) hi hps);obtain⟨pa,pc,jh⟩:=z0c hp.row.own;subst jh;obtain⟨na,nc,jg⟩:=z0c hn.own;subst jg;obtain⟨g,c',hg⟩:=Joins.ownsRow_form hn.own (by omega);rw[qI]at hg;obtain⟨rfl,_,rfl⟩:=hg;have HN:=hid hn;have HZ:=hid hz;have ja:=hid hb;have jd:=hid hS;generalize arF (Q0k ps) l[i]=A at CO har;generalize hRES:szL S A 1=RES;have j4:=hid hRES;have hT:(w.alloc (.cells #[.int .i64 R,.int .i64 H,.slice pa ps.length pc] 42 (0,0))).heap[w.heap.size]? = _:=z0a _ _;have t0:=Q0b hT 0;have t1:=Q0b hT 1;have t2:=Q0b hT 2;simp at t0 t1 t2;clear hp hn hz hb hS hRES hT;go_enter Tryz.func70,Tryz.ntmps70
 go_wp2_with (first
  |(go_at_call 103;refine(CO.out _ ((mRf _ w).alloc _)).mono ?_;rintro e w1⟨rfl,j1⟩))
 have j3:Hid (Q0a w w1):=Mod.trans ((mRf _ w).alloc _) j1;clear j1 t0 t1 t2;go_loopw [7,8] (fun x7 x8 wr=>∃(z f:Nat),x7=.int .i64 z/\x8=.int .i64 f/\szL S f z=RES/\1<=z/\z<=S.length+1/\f<=1000/\wr=w1)
   (fun _ x _=>(intOf x).toNat)
 case atStart=>exact⟨1,A,rfl,rfl,j4.out,by omega,by omega,har,rfl⟩
 obtain⟨z,f,rfl,rfl,j0,jm,jn,hf,ji⟩:=hrel;subst ji;have j5:=jd.out;have jj:S.length+i<=1000000000000:=by omega
 by_cases jf:f=0
 ·subst jf;have hr:z=RES:=j0;have HR:=hid hr;clear j0 hr j5;go_wp2;go_ret;exact⟨by rw[HR.out];rfl,j3.out⟩
 obtain⟨f',rfl⟩:∃f',f=f'+1:=⟨f-1,by omega⟩;unfold szL at j0;by_cases jl:z<=S.length
 ·have j6:z-1<S.length:=by omega
  rw[qE j6]at j0;simp only[]at j0;have je:=ja.out (z-1) S[z-1] (qE j6);obtain⟨x,j2,j9⟩:=HZ.out (z-1) S[z-1] (qE j6);rw[show i+1+(z-1)=i+z by omega]at j2;have j7:i+z<l.length:=by omega
  have c3:wr.cell? ⟨g,(i+z)*4+3,none⟩=some (.int .i64 (l[i+z]'hl1).size):=(HN.fresh j3.out).cell (i+z) 3 j7 (by omega);rw[qE j7,qO]at j2;rw[j2,j9]at c3;have j8:(i:Int)+(z:Int)<(l.length:Int):=by omega
  generalize S[z-1]=d at j0 je c3;have j1:(0:Int)<(f':Int)+1:=by omega
  have jc:=hid j0;have jb:Hid ((intOf (Value.int .i64 (f':Int))).toNat<(intOf (Value.int .i64 ((f'+1:Nat):Int))).toNat):=by unfold Hid;simp[intOf]
  clear j0 j2 j9 j5;go_wp2;go_roundw
  case rel=>exact⟨z+d,f',by go_num,by go_num,jc.out,by omega,by omega,by omega,by first|rfl|trivial⟩
  exact jb.out
 have hn:S[z-1]? = none:=qN (by omega);rw[hn]at j0;have hr:z=RES:=j0;have HR:=hid hr;have j8:¬((i:Int)+(z:Int)<(l.length:Int)):=by omega
 have jk:decide ((i:Int)+(z:Int)<(l.length:Int))=false:=by simpa using j8
 have j1:(0:Int)<(f':Int)+1:=by omega
 clear j0 hr j5 hn;go_wp2;go_ret;exact⟨by rw[HR.out];rfl,j3.out⟩
def Q21:Nd:=⟨0,0,0,0⟩
def Q4s{α:Type}(z:α)(D:List α)(n i:Nat):List α:=D.take i++List.replicate (n-i) z
theorem x2t{α:Type}(z:α){D:List α}{n i:Nat}(h:D.length=n)(hi:i<=n):(Q4s z D n i).length=n:=by simp[Q4s];omega
theorem x2u{α:Type}(z:α){D:List α}{n i:Nat}(h:D.length=n)(hi:i<D.length):(Q4s z D n i).set i D[i]=Q4s z D n (i+1):=by
 unfold Q4s;rw[qFa _ _ (by simp;omega)];rw[show i-(D.take i).length=0 by simp;omega,show n-i=(n-(i+1))+1 by omega,List.replicate_succ,List.set_cons_zero,Q6e hi,qAs];rfl
def Q4m{α:Type}(D E:List α)(m:Nat):List α:=D.take m++E.drop m
theorem x3i{α:Type}{D E:List α}{n m:Nat}(h:D.length=n)(h2:E.length=n)(hm:m<=n):(Q4m D E m).length=n:=by simp[Q4m];omega
theorem x3j{α:Type}{D E:List α}{n m:Nat}(h:D.length=n)(h2:E.length=n)(hm:m<E.length):(Q4m D E (m+1)).set m E[m]=Q4m D E m:=by
 unfold Q4m;rw[Q6e (by omega),qAs,qFa _ _ (by simp;omega)];rw[show m-(D.take m).length=0 by simp;omega,List.singleton_append,List.set_cons_zero,← qC hm]
theorem x6r{α:Type}{D E:List α}{n m:Nat}(h:D.length=n)(h2:E.length=n)(hm:m<D.length):(Q4m D E (m+1))[m]? = some D[m]:=by
 unfold Q4m;rw[qAl (by simp;omega),qDc (by omega),qE hm]
theorem y62{α:Type}{D E:List α}{n m j:Nat}(h:D.length=n)(h2:E.length=n)(hm:m<=n):(Q4m D E m)[m+j]? = E[m+j]? := by
 unfold Q4m;rw[qAr (by simp;omega),qDx];congr 1;simp;omega
theorem x34(ps:List Pr)(st:List St){j:Nat}(hj:j<st.length){d:Nat}(hd:(Q08 ps (ndL st 0))[j]? = some d):∃x,(ndL st 0)[j]? = some x/\(Q1p ps st)[j]? = some (Q8g x d):=by
 have h1:j<(ndL st 0).length:=by rw[z69];exact hj
 refine⟨(ndL st 0)[j],qE h1,?_⟩;unfold Q1p;rw[List.getElem?_zipWith,qE h1,hd]
section
variable {α:Type}{cells:α->List Value}{k:Nat}
theorem z46{w:World}{B g n cap:Nat}{e:TypeId}{l:List α}(hw:∀x,(cells x).length=k)(h:w.ownsRow B e k (.slice (some ⟨g,0,none⟩) n cap) l.length (Q0y cells l)){i:Nat}(hi:i<l.length):w.there g (i*k) k:=by
 intro j hj;have hr:Q18 cells k e w (.slice (some ⟨g,0,none⟩) n cap) l:=⟨z0g h (qBq _),fun x _=>hw x⟩;have hc:=hr.cell i j hi hj;refine⟨by rw[hc];simp[hw,hj],?_⟩;obtain⟨_,h2⟩:=h;rcases h2 with⟨h2,_⟩|⟨g',j0,j2,e1,e2,e3,_⟩
 ·cases h2
 rw[qI]at e1;obtain⟨eg,_,_⟩:=e1;have j1:g=g':=by simpa using eg
 subst j1;exact Q0f e3 _
end
theorem infoNd:(Tryz.prog.info? 67).map (fun i=>(i.zero,i.size,i.bytes))=some (some (.agg #[.int .i64 0,.int .i64 0,.int .i64 0,.int .i64 0]),4,32):=by kernel_rfl
theorem Q9s:∃i,Tryz.prog.info? 67=some i/\i.zero=some (.agg #[.int .i64 0,.int .i64 0,.int .i64 0,.int .i64 0])/\i.size=4/\i.bytes=32:=nfoE infoNd
theorem x0l(n:Nat):(madeCells #[Value.int .i64 0,.int .i64 0,.int .i64 0,.int .i64 0] (n*4)).toList=Q0y Nd.cells (List.replicate n Q21):=by
 apply qEd;intro j;have hl:=z25 Nd.cells 4 (xs:=List.replicate n Q21) (fun x _=>rfl);rw[List.length_replicate]at hl;have hz:∀r,r<4->(#[Value.int .i64 0,.int .i64 0,.int .i64 0,.int .i64 0]:Array Value)[r]! = .int .i64 0:=by
  intro r hr;rcases r with _|_|_|_|r;all_goals first|rfl|omega
 by_cases hj:j<n*4
 ·have hq:j / 4<n:=by omega
  have hr:j % 4<4:=Nat.mod_lt _ (by omega);have a1:=z5w Nd.cells 4 (xs:=List.replicate n Q21) (fun x _=>rfl) (j / 4) (j % 4) (by simpa using hq) hr;rw[show j / 4*4+j % 4=j by omega]at a1;rw[a1,List.getElem_replicate];unfold madeCells;simp only[Array.toList_map,qBt,Array.toList_range,qFp hj,qDw];have e:(#[Value.int .i64 0,.int .i64 0,.int .i64 0,.int .i64 0]:Array Value).size=4:=rfl;rw[e,hz _ hr];generalize j % 4=r at hr;rcases r with _|_|_|_|r;all_goals first|rfl|omega
 rw[qN (by simp[madeCells];omega),qN (by omega)]
def stN(p v:Value):Sem Unit:=Instr.storeAt 67 p v
theorem x74(p v:Value):Instr.storeAt 67 p v=stN p v:=rfl
theorem x85(a b c d:Int):(#[Value.int .i64 a,.int .i64 b,.int .i64 c,.int .i64 d]:Array Value).all (·.oneCell')=true :=
 qCq (cs:=[.int .i64 a,.int .i64 b,.int .i64 c,.int .i64 d]) (by intro v hv;simp only[qBu,qEi,or_false]at hv;rcases hv with rfl|rfl|rfl|rfl<;>rfl)
theorem szStp:(Tryz.prog.info? 158).map (·.size)=some 2:=by kernel_rfl
attribute [local go_sem ↓] x74
theorem y3o(w:World)(R H:Int)(vp vs:Value)(ps:List PV)(st:List St)(hp:Q2e w w.heap.size vp ps)(hst:Q18 St.cells 2 158 w vs st)(hnum:∀s∈st,0<=s.num/\s.num<=127)(hl:st.length<=1000000000000)
  (hps:ps.length<=1000) (har:∀p∈ps,p.pr.syms.length<=1000) :
  Calls Tryz.prog 39 #[.agg #[.int .i64 R,.int .i64 H,vp],vs] w fun e w'=>∃v,e=.returned v/\Q0a w w'/\Q2x w' w.heap.size v (Q1p (Q0k ps) st):=by
 obtain⟨i0,ks,x4,x5,x7⟩:=Q9s;obtain⟨pa,pc,x0⟩:=z0c hp.row.own;subst x0;obtain⟨sa,sc,x1⟩:=z0c hst.own;subst x1;have HP:=hid hp;have kd:=hid hst;have ko:=hid hnum;have kk:Hid (∀x:Nd,arF (Q0k ps) x<=1000):=fun x=>by
  unfold arF;split
  ·omega
  split
  ·rename_i p hq;obtain⟨y,hy,rfl⟩:=qBj.1 (qAi hq);exact har y hy
  omega
 have mk:∀w:World,(Instr.makeSlice 23 (.int .i64 st.length) (.int .i64 st.length)).run Tryz.prog w=.ok (.slice (some ⟨w.heap.size,0,none⟩) st.length st.length) (w.alloc (.cells (madeCells #[.int .i64 0,.int .i64 0,.int .i64 0,.int .i64 0] (st.length*4)) 67)):=fun w=>by
  have h:=run_make (P:=Tryz.prog) w 23 67 i0 _ Tryz.underlying23 ks x4 .i64 .i64 (st.length:Int) (st.length:Int) (by omega) (Int.le_refl _) (by rw[x7];omega) (by omega);rw[x5,qAo]at h;exact h
 have jq:=hid (x0l st.length);generalize madeCells #[Value.int .i64 0,.int .i64 0,.int .i64 0,.int .i64 0] (st.length*4)=MC at mk jq;clear hp hst hnum har;go_enter Tryz.func39,Tryz.ntmps39
 go_wp2;have j0:(ndL st 0).length=st.length:=z69 st 0;have js:=hid (fun(j d:Nat) (h:(Q08 (Q0k ps) (ndL st 0))[j]? = some d)=>y0d (Q0k ps) (ndL st 0) j d h);have k0:=hid (x48 (Q0k ps) (ndL st 0));have jm:=hid (z21 (Q0k ps) (ndL st 0));have jj:=hid (fun(j:Nat) (hj:j<st.length) (d:Nat)=>x34 (Q0k ps) st hj (d:=d));have jd:=z7b (Q0k ps) st;have jx:Hid (ndL (st.drop 0) 0=(ndL st 0).drop 0):=rfl;generalize ndL st 0=ND at j0 js k0 jm jj jx;generalize hSZ:Q08 (Q0k ps) ND=SZ at js k0 jm jj;generalize hNF:Q1p (Q0k ps) st=NF at jd jj;have kn:=hid hNF;clear hSZ hNF;have j9:=hid j0;have j2:=hid jd;have kf:Hid (Q0a w ((w.alloc (.cells #[.int .i64 R,.int .i64 H,.slice pa ps.length pc] 42 (0,0))).alloc (.cells MC 67 (0,0)))):=((mRf _ w).alloc _).alloc _;have ke:Hid (((w.alloc (.cells #[.int .i64 R,.int .i64 H,.slice pa ps.length pc] 42 (0,0))).alloc (.cells MC 67 (0,0))).heap[w.heap.size]? = some (.cells #[.int .i64 R,.int .i64 H,.slice pa ps.length pc] 42 (0,0))):=z0b (z0a _ _);have kb:Hid (Q2x ((w.alloc (.cells #[.int .i64 R,.int .i64 H,.slice pa ps.length pc] 42 (0,0))).alloc (.cells MC 67 (0,0))) w.heap.size (.slice (some ⟨w.heap.size+1,0,none⟩) st.length st.length) (Q4s Q21 ND st.length 0)):=by
  have hf:Q4s Q21 ND st.length 0=List.replicate st.length Q21:=by simp[Q4s]
  have jb:=z25 Nd.cells 4 (xs:=List.replicate st.length Q21) (fun x _=>rfl);rw[hf];refine⟨by rw[jb],.inr ⟨w.heap.size+1,st.length,MC,by simp,by omega,?_,by simp,by unfold maxLen;omega,?_,?_⟩⟩
  ·have:=z0a (w.alloc (.cells #[.int .i64 R,.int .i64 H,.slice pa ps.length pc] 42 (0,0))) (.cells MC 67 (0,0));simpa using this
  ·have:=qEn List.length jq.out;rw[jb]at this;simpa using this
  rw[jq.out,qDg (by rw[jb];exact qR _)]
 clear j0 jd;go_loopw [6,16] (fun x6 x16 wr=>∃(i c:Nat),x16=.int .i64 i/\x6=.int .i64 c/\i<=st.length/\c<=i/\ndL (st.drop i) c=ND.drop i/\Q0a w wr/\wr.heap[w.heap.size]? = some (.cells #[.int .i64 R,.int .i64 H,.slice pa ps.length pc] 42 (0,0))/\Q2x wr w.heap.size (.slice (some ⟨w.heap.size+1,0,none⟩) st.length st.length) (Q4s Q21 ND st.length i))
   (fun _ x _=>1000000000001-(intOf x).toNat)
 case atStart=>exact⟨0,0,rfl,rfl,by omega,by omega,jx.out,kf.out,ke.out,kb.out⟩
 clear mk jx kf ke kb jq;obtain⟨i,c,rfl,rfl,hi,hc,ja,jn,j8,j3⟩:=hrel;have k9:=hid (Q19 (B:=1000000000001) i (by omega));have jp:=hid jn;have k2:=hid j8;have jr:=hid j3;have xd:=z0j j8;have j0:=j9.out;have x9:=(j3.lt (w.heap.size+1) rfl).2;clear jn j8 j3;by_cases jh:i<st.length
 ·have xa:(i:Int)<(st.length:Int):=by omega
  obtain⟨g,c',hg⟩:=Joins.ownsRow_form kd.own (by omega);rw[qI]at hg;obtain⟨rfl,_,rfl⟩:=hg;have RG:=hid ((kd.fresh jp.out).range i jh);have ki:=ko.out st[i] (by simp);have k5:i<ND.length:=by omega
  rw[qC jh,qC k5]at ja;have jb:(Q4s Q21 ND st.length i).length=st.length:=x2t _ j0 hi;have x8:Hid (wr.there (w.heap.size+1) (i*4) 4):=z46 Nd.cells_len jr.out (by rw[jb];exact jh);have ka:=hid (fun(W:World) (h:Q2x W w.heap.size (.slice (some ⟨w.heap.size+1,0,none⟩) st.length st.length) (Q4s Q21 ND st.length i)) (x:Nd)=>v03 (k:=4) Nd.cells_len (by omega) h (i:=i) (by rw[jb];exact jh) x);have jy:Hid ((Q4s Q21 ND st.length i).set i ND[i]=Q4s Q21 ND st.length (i+1)):=x2u _ j0 k5;generalize ND[i]=nd at ja jy;generalize st[i]=s at ja RG ki;obtain⟨sl,sn⟩:=s;obtain⟨kv,kw⟩:=ki;dsimp only at kv kw;unfold ndL at ja;have ji:=hid jb;clear jb k5 j0;cases sl
  ·simp only[qF,qAz,qBe]at ja;obtain⟨j5,j6⟩:=ja;have jz:=hid j6;have jl:Hid (Q2x (wr.alloc (.cells #[.bool false,.int .i8 sn] 158 (0,0))) w.heap.size (.slice (some ⟨w.heap.size+1,0,none⟩) st.length st.length) (Q4s Q21 ND st.length i)):=jr.alloc _;have jc:Hid ((wr.alloc (.cells #[.bool false,.int .i8 sn] 158 (0,0))).there (w.heap.size+1) (i*4) 4):=z46 Nd.cells_len jl.out (by rw[ji.out];exact jh);have j1:=hid (ka.out _ jl.out ⟨sn,-1,c,0⟩);have j7:(Q4s Q21 ND st.length i).set i (⟨sn,-1,c,0⟩:Nd)=Q4s Q21 ND st.length (i+1):=by rw[j5];exact jy.out
   rw[j7]at j1;clear j7;obtain⟨Wx,j4⟩:∃Wx,Wx=(wr.alloc (.cells #[.bool false,.int .i8 sn] 158 (0,0))).setCells (w.heap.size+1) (i*4) (#[.int .i64 sn,.int .i64 (-1),.int .i64 c,.int .i64 0]:Array Value).toList:=⟨_,rfl⟩;have je:Hid (Q0a w Wx):=by rw[j4];exact Mod.setCells (fun h=>by omega) _ _ _ (jp.alloc _)
   have k1:Hid (Wx.heap[w.heap.size]? = some (.cells #[.int .i64 R,.int .i64 H,.slice pa ps.length pc] 42 (0,0))):=by
    rw[j4];exact(Mod.setCells (S:=fun k=>k=w.heap.size+1) (a:=wr) (fun _=>rfl) _ _ _ ((mRf _ wr).alloc _)).at k2.out (by omega)
   have jk:Hid (Q2x Wx w.heap.size (.slice (some ⟨w.heap.size+1,0,none⟩) st.length st.length) (Q4s Q21 ND st.length (i+1))):=by
    rw[j4];exact j1.out
   have s1:(stN (.pointer (some ⟨w.heap.size+1,i*4,none⟩)) (.agg #[.int .i64 sn,.int .i64 (-1),.int .i64 c,.int .i64 0])).run Tryz.prog (wr.alloc (.cells #[.bool false,.int .i8 sn] 158 (0,0)))=.ok () Wx:=by
    rw[j4];exact run_storeAt_mid _ (w.heap.size+1) (i*4) _ _ jc.out szNd (x85 sn (-1) c 0)
   clear j4;clear j1;clear j5 j6;go_wp2_with (first
    |(refine qAe rfl 158 _ rfl g (i*2) rfl [.bool false,.int .i8 sn] _ RG.out Tryz.underlying158 rfl szStp ?_))
   go_roundw
   case rel =>
    refine⟨i+1,c,by go_num,by go_num,by omega,by omega,jz.out,je.out,k1.out,jk.out⟩
   exact k9.out
  simp only[qBn,qBe]at ja;obtain⟨j5,j6⟩:=ja;have jz:=hid j6;have jl:Hid (Q2x (wr.alloc (.cells #[.bool true,.int .i8 sn] 158 (0,0))) w.heap.size (.slice (some ⟨w.heap.size+1,0,none⟩) st.length st.length) (Q4s Q21 ND st.length i)):=jr.alloc _;have jc:Hid ((wr.alloc (.cells #[.bool true,.int .i8 sn] 158 (0,0))).there (w.heap.size+1) (i*4) 4):=z46 Nd.cells_len jl.out (by rw[ji.out];exact jh);have j1:=hid (ka.out _ jl.out ⟨-1,sn,c,0⟩);have j7:(Q4s Q21 ND st.length i).set i (⟨-1,sn,c,0⟩:Nd)=Q4s Q21 ND st.length (i+1):=by rw[j5];exact jy.out
  rw[j7]at j1;clear j7;obtain⟨Wx,j4⟩:∃Wx,Wx=(wr.alloc (.cells #[.bool true,.int .i8 sn] 158 (0,0))).setCells (w.heap.size+1) (i*4) (#[.int .i64 (-1),.int .i64 sn,.int .i64 c,.int .i64 0]:Array Value).toList:=⟨_,rfl⟩;have je:Hid (Q0a w Wx):=by rw[j4];exact Mod.setCells (fun h=>by omega) _ _ _ (jp.alloc _)
  have k1:Hid (Wx.heap[w.heap.size]? = some (.cells #[.int .i64 R,.int .i64 H,.slice pa ps.length pc] 42 (0,0))):=by
   rw[j4];exact(Mod.setCells (S:=fun k=>k=w.heap.size+1) (a:=wr) (fun _=>rfl) _ _ _ ((mRf _ wr).alloc _)).at k2.out (by omega)
  have jk:Hid (Q2x Wx w.heap.size (.slice (some ⟨w.heap.size+1,0,none⟩) st.length st.length) (Q4s Q21 ND st.length (i+1))):=by
   rw[j4];exact j1.out
  have s1:(stN (.pointer (some ⟨w.heap.size+1,i*4,none⟩)) (.agg #[.int .i64 (-1),.int .i64 sn,.int .i64 c,.int .i64 0])).run Tryz.prog (wr.alloc (.cells #[.bool true,.int .i8 sn] 158 (0,0)))=.ok () Wx:=by
   rw[j4];exact run_storeAt_mid _ (w.heap.size+1) (i*4) _ _ jc.out szNd (x85 (-1) sn c 0)
  clear j4;clear j1;clear j5 j6;go_wp2_with (first
   |(refine qAe rfl 158 _ rfl g (i*2) rfl [.bool true,.int .i8 sn] _ RG.out Tryz.underlying158 rfl szStp ?_))
  go_roundw
  case rel =>
   refine⟨i+1,c+1,by go_num,by go_num,by omega,by omega,jz.out,je.out,k1.out,jk.out⟩
  exact k9.out
 have kg:i=st.length:=by omega
 have xb:¬(i:Int)<(st.length:Int):=by omega
 have kp:Hid (Q2x wr w.heap.size (.slice (some ⟨w.heap.size+1,0,none⟩) st.length st.length) (Q4m ND NF st.length)):=by
  have e:Q4s Q21 ND st.length i=Q4m ND NF st.length:=by
   unfold Q4s Q4m;rw[kg,qEm,List.replicate_zero,qAp (by rw[j2.out];exact qR _)]
  rw[← e];exact jr.out
 obtain⟨wa,x2⟩:∃wa,wa=wr:=⟨_,rfl⟩;subst x2;clear ja j0 kg;go_wp2;go_loopw [10] (fun x10 wr=>∃(m:Nat) (q:Int),x10=.int .i64 q/\q=(m:Int)-1/\m<=st.length/\Q0a w wr/\wr.heap[w.heap.size]? = some (.cells #[.int .i64 R,.int .i64 H,.slice pa ps.length pc] 42 (0,0))/\Q2x wr w.heap.size (.slice (some ⟨w.heap.size+1,0,none⟩) st.length st.length) (Q4m ND NF m))
   (fun x _=>(intOf x+1).toNat)
 case atStart=>exact⟨st.length,_,rfl,rfl,qR _,jp.out,k2.out,kp.out⟩
 obtain⟨m,q,rfl,hq,hm,jn,j8,j3⟩:=hrel;have jo:=hid jn;have kq:=hid j8;have jf:=hid j3;have kz:=z0j j8;have t0:=Q0b j8 0;have t1:=Q0b j8 1;have t2:=Q0b j8 2;simp at t0 t1 t2;clear jn j8 j3;by_cases ku:m=0
 ·have kx:q=-1:=by omega
  subst kx;subst ku;clear hq;go_wp2;go_ret;refine⟨_,rfl,jo.out,?_⟩;have e:Q4m ND NF 0=NF:=by simp[Q4m]
  have h:=jf.out;rw[e]at h;rw[kn.out];exact h
 obtain⟨m',rfl⟩:∃m',m=m'+1:=⟨m-1,by omega⟩;have ky:q=(m':Int):=by omega
 clear hq;subst ky;have ju:m'<st.length:=by omega
 have xc:(m':Int)<(st.length:Int):=by omega
 have km:Hid (((m':Int)-1+1).toNat<((m':Int)+1).toNat):=by unfold Hid;omega
 have k6:m'<ND.length:=by rw[j9.out];exact ju
 have kh:m'<NF.length:=by rw[j2.out];exact ju
 have k3:(Q4m ND NF (m'+1)).length=st.length:=x3i j9.out j2.out hm;have jg:m'<(Q4m ND NF (m'+1)).length:=by rw[k3];exact ju
 have jt:(Q4m ND NF (m'+1))[m']=ND[m']:=by
  have:=x6r j9.out j2.out k6 (E:=NF);rw[qE jg]at this;simpa using this
 have jv:=k0.out m' k6;obtain⟨x,k7,jw⟩:=jj.out m' ju _ jv;rw[qE k6,qO]at k7;have SO:Hid (∀W:World,Q0a wr W->Calls Tryz.prog 70 #[.agg #[.int .i64 R,.int .i64 H,.slice pa ps.length pc],.slice (some ⟨w.heap.size+1,0,none⟩) st.length st.length,.int .i64 m'] W fun e w'=>e=.returned (.int .i64 (szL (SZ.drop (m'+1)) (arF (Q0k ps) ND[m']) 1))/\Q0a W w'):=fun W hW=>by
  have h:=x08 W R H (.slice pa ps.length pc) (.slice (some ⟨w.heap.size+1,0,none⟩) st.length st.length) ps (Q4m ND NF (m'+1)) m' (SZ.drop (m'+1)) ((HP.kept (qR _) (jo.trans hW) (fun _ _ x=>x)).up (jo.trans hW).size) ⟨z0g (z0d jf.out (fun g hg=>hW.block g (jf.lt g hg).2 id)) (qBq _),fun _ _=>rfl⟩ jg hps (by rw[k3];exact hl)
   (by rw[k3,qCt,jm.out,j9.out];omega)
   (fun j d hd=>by
    rw[qDx]at hd;have kt:m'+1+j<st.length:=by
     have:=(qS hd).1;rw[jm.out,j9.out]at this;exact this
    obtain⟨y,xe,x3⟩:=jj.out (m'+1+j) kt d hd;refine⟨Q8g y d,?_,rfl⟩;rw[y62 j9.out j2.out hm,x3])
   (fun j d hd=>by
    rw[qDx]at hd;have:=js.out _ _ hd;rw[qCt,jm.out];omega)
   (by rw[jt];exact kk.out _)
  rw[jt]at h;exact h
 generalize szL (SZ.drop (m'+1)) (arF (Q0k ps) ND[m']) 1=z at SO jw jv;have xf:z<=1000000000000:=by
  have h1:=js.out _ _ jv;have h2:=j9.out;omega
 have kr:=z46 Nd.cells_len jf.out jg;have kc:=hid (fun(W:World) (h:Q2x W w.heap.size (.slice (some ⟨w.heap.size+1,0,none⟩) st.length st.length) (Q4m ND NF (m'+1)))=>x7g (k:=4) Nd.cells_len (by omega) h (i:=m') (o:=3) jg (by omega) (.int .i64 z) (Q8g ND[m'] z) (by rw[jt];rfl));have k8:Hid ((Q4m ND NF (m'+1)).set m' (Q8g ND[m'] z)=Q4m ND NF m'):=by
  have h:=x3j j9.out j2.out kh (D:=ND);have h2:NF[m']=Q8g ND[m'] z:=by
   rw[qE kh,qO]at jw;rw[jw,← k7]
  rw[h2]at h;exact h
 generalize Q8g ND[m'] z=nd at kc k8;clear k7 jw jv jt kr;have kl:Hid (∀W:World,Q0a wr W->Q2x W w.heap.size (.slice (some ⟨w.heap.size+1,0,none⟩) st.length st.length) (Q4m ND NF (m'+1))/\(∃V,W.cell? ⟨w.heap.size+1,m'*4+3,none⟩=some V)/\W.frozen? ⟨w.heap.size+1,m'*4+3,none⟩=false):=fun W hW=>by
  have h:=z0d jf.out (fun g hg=>hW.block g (jf.lt g hg).2 id);have hr:NdsAt W (.slice (some ⟨w.heap.size+1,0,none⟩) st.length st.length) (Q4m ND NF (m'+1)):=⟨z0g h (qBq _),fun x _=>rfl⟩;exact⟨h,⟨_,hr.cell m' 3 jg (by omega)⟩,(z46 Nd.cells_len h jg 3 (by omega)).2⟩
 go_wp2_with (first
  |(go_at_call 70;refine(SO.out _ (mRf _ wr)).mono ?_;rintro e w3⟨rfl,k4⟩;obtain⟨kj,⟨V3,c3⟩,z3⟩:=kl.out w3 k4;have jk:=hid kj;have je:=hid k4;clear kj k4))
 go_roundw
 case rel =>
  refine⟨m',(m':Int)-1,rfl,rfl,by omega,(jo.trans je.out).setCell (fun h=>by simp at h;omega) _,?_,?_⟩
  ·exact z0h (je.at kq.out id) (by simp)
  have h:=kc.out w3 jk.out;rw[k8.out]at h;exact h
 exact km.out
theorem z3a{ps:List Pr}{R H:Int}{t:Nat}{ch ch':Int->Nat->Int}(h:∀X,0<=X->X<H->ch X t=ch' X t)(hps:∀p∈ps,Q3d R H p.syms):∀(f:Nat) (k:List Sy) (st:List St),Q3d R H k->gTo ps ch t f k st=gTo ps ch' t f k st
 |0,_,_,_=>rfl
 |f+1,[],_,_=>rfl
 |f+1,s::k,st,hk=>by
  have hs:=hk s (by simp);unfold gTo;cases hq:s.isH
  ·simp
  rw[hq]at hs;simp only[qBn]at hs;rw[h s.num hs.1 hs.2];simp only[qDf,qAz];split
  ·cases hp:ps[(ch' s.num t).toNat]? with
   |none=>rfl
   |some p =>
    simp only[];refine z3a h hps f _ _ (fun x hx=>?_);rcases qBs.1 hx with hx|hx
    ·exact hps p (qAi hp) x hx
    exact hk x (by simp[hx])
  rfl
theorem x8x{ps:List Pr}{R H:Int}{t:Nat}{ch:Int->Nat->Int}(hps:∀p∈ps,Q3d R H p.syms)(hR:R<=100)(hl:ps.length<=100):∀(f:Nat) (k:List Sy) (st:List St) (r:List Sy × List St),gTo ps ch t f k st=some r->Q3d R H k->(∀s∈st,0<=s.num/\s.num<=127) ->
  Q3d R H r.1/\∀s∈r.2,0<=s.num/\s.num<=127
 |0,_,_,_,h,_,_=>by cases h
 |f+1,[],st,r,h,hk,hs=>by cases h;exact⟨hk,hs⟩
 |f+1,s::k,st,r,h,hk,hs=>by
  have h1:=hk s (by simp);unfold gTo at h;split at h
  ·rename_i hq;rw[hq]at h1;simp only[qF,qAz]at h1;cases h;refine⟨fun x hx=>hk x (by simp[hx]),fun x hx=>?_⟩;rcases qBs.1 hx with hx|hx
   ·exact hs x hx
   simp only[qM]at hx;subst hx;exact⟨h1.1,by dsimp only;omega⟩
  split at h
  ·rename_i h0;cases hp:ps[(ch s.num t).toNat]? with
   |none=>rw[hp]at h;cases h
   |some p =>
    rw[hp]at h;have j0:=(qS hp).1;refine x8x hps hR hl f _ _ r h (fun x hx=>?_) (fun x hx=>?_)
    ·rcases qBs.1 hx with hx|hx
     ·exact hps p (qAi hp) x hx
     exact hk x (by simp[hx])
    rcases qBs.1 hx with hx|hx
    ·exact hs x hx
    simp only[qM]at hx;subst hx;exact⟨h0,by dsimp only;omega⟩
  cases h
theorem x9d(B:Nat):∀n,szF B n=n*(1+6*B)
 |0=>by simp[szF]
 |n+1=>by rw[szF,x9d B n,qFc,Nat.one_mul];omega
theorem x2o{H n:Nat}(hH:H<=8):Q2y H n<=n*335923+16124313:=by
 have h1:szN H<=335923:=v2u hH;unfold Q2y;rw[x9d];have h2:n*szN H<=n*335923:=Nat.mul_le_mul_left _ h1;have h3:H*(1+6*szN H)<=8*(1+6*335923):=Nat.mul_le_mul hH (by omega);omega
theorem z8u{hs:List Hd}{ps:List Pr}{X:Int}{t:Nat}(h0:0<=X)(h8:X<8)(ht:t<9):chL (Q6d (ps.zip (Q0r hs ps)) 72) X t=chF hs ps X t:=by
 unfold chL;rw[qAb ⟨h0,h8,ht⟩,v1q _ (by omega) ht,show((X.toNat:Nat):Int)=X by omega];rfl
structure Tab(ps:List Pr)(R H:Nat)(hs:List Hd):Prop where
 g:LLG ps R H (hN hs) (hF hs) (hO hs) (chF hs ps)
 ok:∀x∈hs,x.ok
 hR:R<=8
 hH:H<=8
 h0:0<H
 hl:ps.length<=20
variable {ps:List Pr}{R H:Nat}{hs:List Hd}
theorem Tab.syms(h:Tab ps R H hs):∀p∈ps,p.syms.length<=6/\Q3d R H p.syms:=fun p hp=>⟨h.g.mx p hp,h.g.tab.sy p hp⟩
theorem Tab.step(h:Tab ps R H hs){k:List Sy}{st:List St}{t:Nat}(ht:t<=R)(hk:Q4z (hN hs) (hF hs) (hO hs) R k)(hi:Q3d R H k)(hs1:∀s∈st,0<=s.num/\s.num<=127)(hw:(Q57 hs R k).getD t false=true) :
  gTo ps (chL (Q6d (ps.zip (Q0r hs ps)) 72)) t (Q2y H k.length) k st=some (Q7w ps hs H t k st)/\(Q7w ps hs H t k st).1.length<=k.length+48/\(Q7w ps hs H t k st).2.length<=st.length+(k.length*335923+16124313) /\
   Q4z (hN hs) (hF hs) (hO hs) R (Q7w ps hs H t k st).1/\Q3d R H (Q7w ps hs H t k st).1/\(∀s∈(Q7w ps hs H t k st).2,0<=s.num/\s.num<=127)/\st.length<=(Q7w ps hs H t k st).2.length:=by
 rw[z30 h.ok h.hR k hi t]at hw;obtain⟨r,h1,h2,h3⟩:=h.g.grows ht k hk hw st;have e:Q7w ps hs H t k st=r:=by unfold Q7w;rw[h1];rfl
 rw[e];have hR:=h.hR;have hH:=h.hH;have hl:=h.hl;have j0:=x8x (R:=R) (H:=H) (fun p hp=>(h.syms p hp).2) (by omega) (by omega) _ _ _ _ h1 hi hs1;have hc:=z3a (R:=R) (H:=H) (t:=t) (ch:=chL (Q6d (ps.zip (Q0r hs ps)) 72)) (ch':=chF hs ps) (fun X x0 x1=>z8u x0 (by omega) (by omega)) (fun p hp=>(h.syms p hp).2) (Q2y H k.length) k st hi;have he:=x2o (n:=k.length) hH;exact⟨by rw[hc];exact h1,by omega,by omega,h.g.stkTo _ _ _ _ h1 hk,j0.1,j0.2,y2g _ _ _ _ h1⟩
theorem Tab.start(h:Tab ps R H hs):Q4z (hN hs) (hF hs) (hO hs) R [⟨true,0⟩]/\Q3d R H [⟨true,0⟩]:=by
 refine⟨h.g.stk0,fun s hs=>?_⟩;simp only[qM]at hs;subst hs;have:=h.h0;simp;omega
end Go.Proofs.YtbdpfmalabgmbaaGreat
