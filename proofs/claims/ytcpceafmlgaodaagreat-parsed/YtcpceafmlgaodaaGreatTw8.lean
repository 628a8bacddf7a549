import Derived.Test.YtcpceafmlgaodaaGreatTw2
import Derived.Laws.MakeOwn
namespace Go.Proofs.YtcpceafmlgaodaaGreat
open Go.RowKit
set_option maxRecDepth 99999
set_option maxHeartbeats 0
set_option linter.all false
section
variable {α:Type}{cells:α->List Value}{k:Nat}
theorem y3x{l:List α}(hw:∀x,(cells x).length=k)(hk0:0<k){x:α}{i:Nat}(hi:i<l.length)(j:Nat) :
  (Q00 cells (l.set i x))[j]? = if i*k<=j/\j<i*k+k then(cells x)[j-i*k]? else(Q00 cells l)[j]? := by
 have l1:=z2z cells k (xs:=l) (fun x _=>hw x);have l2:=z2z cells k (xs:=l.set i x) (fun x _=>hw x);rw[qBd]at l2;have j1:i*k+k<=l.length*k:=by
  have:(i+1)*k<=l.length*k:=qBv k hi;rw[qDt,Nat.one_mul]at this;exact this
 by_cases hj:j<l.length*k
 ·have hq:j / k<l.length:=Nat.div_lt_of_lt_mul (by rw[Nat.mul_comm];exact hj);have hr:j % k<k:=Nat.mod_lt _ hk0;have e:j / k*k+j % k=j:=by rw[Nat.mul_comm];exact Nat.div_add_mod j k
  have a1:=z5r cells k (xs:=l) (fun x _=>hw x) (j / k) (j % k) hq hr;have a2:=z5r cells k (xs:=l.set i x) (fun x _=>hw x) (j / k) (j % k) (by simpa using hq) hr;rw[e]at a1 a2;rw[a1,a2,List.getElem_set];by_cases hk2:i=j / k
  ·rw[qAb hk2,qAb ⟨by rw[hk2];omega,by rw[hk2];omega⟩];congr 1;rw[hk2];omega
  rw[qAa hk2,qAa];rintro⟨h1,h2⟩;apply hk2;have hd:j=k*i+(j-i*k):=by rw[Nat.mul_comm k i];omega
  have j0:j-i*k<k:=by omega
  rw[hd,Nat.mul_add_div hk0,Nat.div_eq_of_lt j0];omega
 rw[qN (by omega),qAa (by omega),qN (by omega)]
theorem v0d{w:World}{B g n cap:Nat}{e:TypeId}{l:List α}(hw:∀x,(cells x).length=k)(hk0:0<k)(h:w.ownsRow B e k (.slice (some ⟨g,0,none⟩) n cap) l.length (Q00 cells l)){i:Nat}(hi:i<l.length)(x:α) :
  (w.setCells g (i*k) (cells x)).ownsRow B e k (.slice (some ⟨g,0,none⟩) n cap) (l.set i x).length (Q00 cells (l.set i x)):=by
 have l2:=z2z cells k (xs:=l.set i x) (fun x _=>hw x);have j2:i*k+k<=l.length*k:=by
  have:(i+1)*k<=l.length*k:=qBv k hi;rw[qDt,Nat.one_mul]at this;exact this
 obtain⟨h1,h2⟩:=h;refine⟨l2,?_⟩;rcases h2 with⟨h2,_⟩|⟨g',cap',cur,e1,e2,e3,e4,e5,e6,e7⟩
 ·cases h2
 rw[qI]at e1;obtain⟨eg,rfl,rfl⟩:=e1;have j0:g=g':=by simpa using eg
 subst j0;have j1:l.length*k<=cap*k:=qBv _ e4;refine .inr ⟨g,cap,Q42 cur (i*k) (cells x),by rw[qBd],e2,z0p _ _ _ _ _ _ _ e3,by rw[qBd];exact e4,e5,by rw[z5x];exact e6,?_⟩;apply qDf;intro j;rw[y3x hw hk0 hi,← e7,qBd];by_cases hj:j<l.length*k
 ·rw[qCg hj,qCg hj,qDl,qDl,z9w _ _ _ _ (by rw[hw];omega),hw];simp
 rw[qN (by simp;omega),qAa (by omega),qN (by simp;omega)]
theorem x60{w:World}{B g n cap:Nat}{e:TypeId}{l:List α}(hw:∀x,(cells x).length=k)(hk0:0<k)(h:w.ownsRow B e k (.slice (some ⟨g,0,none⟩) n cap) l.length (Q00 cells l)){i o:Nat}(hi:i<l.length)(ho:o<k)(v:Value)(x:α)
  (hx:cells x=(cells l[i]).set o v) :
  (w.setCell ⟨g,i*k+o,none⟩ v).ownsRow B e k (.slice (some ⟨g,0,none⟩) n cap) (l.set i x).length (Q00 cells (l.set i x)):=by
 have l2:=z2z cells k (xs:=l.set i x) (fun x _=>hw x);have j3:i*k+k<=l.length*k:=by
  have:(i+1)*k<=l.length*k:=qBv k hi;rw[qDt,Nat.one_mul]at this;exact this
 obtain⟨h1,h2⟩:=h;refine⟨l2,?_⟩;rcases h2 with⟨h2,_⟩|⟨g',cap',cur,e1,e2,e3,e4,e5,e6,e7⟩
 ·cases h2
 rw[qI]at e1;obtain⟨eg,rfl,rfl⟩:=e1;have j1:g=g':=by simpa using eg
 subst j1;have j2:l.length*k<=cap*k:=qBv _ e4;refine .inr ⟨g,cap,cur.setIfInBounds (i*k+o) v,by rw[qBd],e2,zhs e3 _ _,by rw[qBd];exact e4,e5,by simpa using e6,?_⟩;apply qDf;intro j;rw[y3x hw hk0 hi,qBd,hx];by_cases hj:j<l.length*k
 ·have hc:cur.toList[j]? = (Q00 cells l)[j]? := by rw[← e7,qCg hj]
  rw[qCg hj,qDl,qDv,← qDl,hc];by_cases hin:i*k<=j/\j<i*k+k
  ·rw[qAb hin,qBy];have j0:=z5r cells k (xs:=l) (fun x _=>hw x) i (j-i*k) hi (by omega);rw[show i*k+(j-i*k)=j by omega]at j0;by_cases ho2:o=j-i*k
   ·rw[qAb (by omega),qAb ho2,qAb (by omega),qAb (by rw[hw];omega)]
   rw[qAa (by omega),qAa ho2,j0]
  rw[qAa hin,qAa (by omega)]
 rw[qN (by simp;omega),qAa (by omega),qN];rw[z2z cells k (xs:=l) (fun x _=>hw x)];omega
end
theorem Nd.cells_len(n:Nd):n.cells.length=4:=rfl
theorem y0g(w:World)(R H:Int)(vp vn:Value)(ps:List PV)(l:List Nd)(i:Nat)(hp:Q3c w w.heap.size vp ps)(hn:NdsAt w vn l)(hi:i<l.length)(hps:ps.length<=1000) :
  Calls Tryz.prog 86 #[.agg #[.int .i64 R,.int .i64 H,vp],vn,.int .i64 i] w fun e w'=>e=.returned (.int .i64 (arF (Q0j ps) l[i]))/\Q0a w w':=by
 obtain⟨pa,pc,hvp⟩:=z0d hp.row.own;subst hvp;obtain⟨na,nc,hvn⟩:=z0d hn.own;subst hvn;obtain⟨g,c',hg⟩:=Joins.ownsRow_form hn.own (by omega);rw[qI]at hg;obtain⟨rfl,_,rfl⟩:=hg;have j2:=(hn.own.lt g rfl).2;have c0:w.cell? ⟨g,i*4,none⟩=some (.int .i64 l[i].prod):=hn.cell i 0 hi (by omega);have j3:(i:Int)<(l.length:Int):=by omega
 have j4:¬(l.length<=i):=by omega
 have HP:=hid hp;generalize hX:arF (Q0j ps) l[i]=X;unfold arF at hX;generalize l[i].prod=pr at c0 hX;clear hn hp;by_cases h0:pr<0
 ·rw[qAb h0]at hX;subst hX;go_enter Tryz.func86,Tryz.ntmps86
  go_wp2;go_ret;exact⟨rfl,(mRf _ w).alloc _⟩
 rw[qAa h0]at hX;obtain⟨q,rfl⟩:∃q:Nat,pr=q:=⟨pr.toNat,by omega⟩;rw[qAl]at hX;by_cases hq:q<ps.length
 ·have j0:(q:Int)<(ps.length:Int):=by omega
  have j1:¬(ps.length<=q):=by omega
  have e:(Q0j ps)[q]? = some ps[q].pr:=by simp[Q0j,hq]
  rw[e]at hX;simp only[]at hX;subst hX;obtain⟨gp,c2,hg2⟩:=Joins.ownsRow_form HP.row.own (by omega);rw[qI]at hg2;obtain⟨rfl,_,rfl⟩:=hg2;have j5:=(HP.row.own.lt gp rfl).2;have c1:w.cell? ⟨gp,q*2+1,none⟩=some ps[q].vs:=HP.row.cell q 1 hq (by omega);obtain⟨sa,sc,hsv,_⟩:=HP.syms ps[q] (by simp);rw[hsv]at c1;clear hsv e;generalize ps[q].pr.syms.length=N at c1;go_enter Tryz.func86,Tryz.ntmps86
  go_wp2;go_ret;exact⟨rfl,(mRf _ w).alloc _⟩
 have j0:¬(q:Int)<(ps.length:Int):=by omega
 have j1:ps.length<=q:=by omega
 have e:(Q0j ps)[q]? = none:=by simp[Q0j];omega
 rw[e]at hX;simp only[]at hX;subst hX;clear e;go_enter Tryz.func86,Tryz.ntmps86
 go_wp2;go_ret;exact⟨rfl,(mRf _ w).alloc _⟩
theorem x0o(w:World)(R H:Int)(vp vn:Value)(ps:List PV)(l:List Nd)(i:Nat)(S:List Nat)(hp:Q3c w w.heap.size vp ps)(hn:NdsAt w vn l)(hi:i<l.length)(hps:ps.length<=1000)(hll:l.length<=1000000000000)
  (hS:S.length+i+1=l.length) (hz:∀(j d:Nat),S[j]? = some d->∃x:Nd,l[i+1+j]? = some x/\x.size=(d:Int)) (hb:∀(j d:Nat),S[j]? = some d->1<=d/\j+d<=S.length) (har:arF (Q0j ps) l[i]<=1000) :
  Calls Tryz.prog 59 #[.agg #[.int .i64 R,.int .i64 H,vp],vn,.int .i64 i] w fun e w'=>e=.returned (.int .i64 (szL S (arF (Q0j ps) l[i]) 1))/\Q0a w w':=by
 have CO:=hid (fun W (hW:Q0a w W)=>y0g W R H vp vn ps l i ((hp.kept (qR _) hW (fun _ _ x=>x)).up hW.size) (hn.fresh hW) hi hps);obtain⟨pa,pc,hvp⟩:=z0d hp.row.own;subst hvp;obtain⟨na,nc,hvn⟩:=z0d hn.own;subst hvn;obtain⟨g,c',hg⟩:=Joins.ownsRow_form hn.own (by omega);rw[qI]at hg;obtain⟨rfl,_,rfl⟩:=hg;have HN:=hid hn;have HZ:=hid hz;have j6:=hid hb;have j9:=hid hS;generalize arF (Q0j ps) l[i]=A at CO har;generalize hRES:szL S A 1=RES;have j2:=hid hRES;have hT:(w.alloc (.cells #[.int .i64 R,.int .i64 H,.slice pa ps.length pc] 41 (0,0))).heap[w.heap.size]? = _:=z0a _ _;have t0:=Q0b hT 0;have t1:=Q0b hT 1;have t2:=Q0b hT 2;simp at t0 t1 t2;clear hp hn hz hb hS hRES hT;go_enter Tryz.func59,Tryz.ntmps59
 go_wp2_with (first
  |(go_at_call 86;refine(CO.out _ ((mRf _ w).alloc _)).mono ?_;rintro e w1⟨rfl,j0⟩))
 have j1:Hid (Q0a w w1):=Mod.trans ((mRf _ w).alloc _) j0;clear j0 t0 t1 t2;go_loopw [7,8] (fun x7 x8 wr=>∃(z f:Nat),x7=.int .i64 z/\x8=.int .i64 f/\szL S f z=RES/\1<=z/\z<=S.length+1/\f<=1000/\wr=w1)
   (fun _ x _=>(intOf x).toNat)
 case atStart=>exact⟨1,A,rfl,rfl,j2.out,by omega,by omega,har,rfl⟩
 obtain⟨z,f,rfl,rfl,hres,hz1,hz2,hf,hwr⟩:=hrel;subst hwr;have j3:=j9.out;have jb:S.length+i<=1000000000000:=by omega
 by_cases hf0:f=0
 ·subst hf0;have hr:z=RES:=hres;have HR:=hid hr;clear hres hr j3;go_wp2;go_ret;exact⟨by rw[HR.out];rfl,j1.out⟩
 obtain⟨f',rfl⟩:∃f',f=f'+1:=⟨f-1,by omega⟩;unfold szL at hres;by_cases hlt:z<=S.length
 ·have j4:z-1<S.length:=by omega
  rw[qE j4]at hres;simp only[]at hres;have ja:=j6.out (z-1) S[z-1] (qE j4);obtain⟨x,hx1,hx2⟩:=HZ.out (z-1) S[z-1] (qE j4);rw[show i+1+(z-1)=i+z by omega]at hx1;have hl1:i+z<l.length:=by omega
  have c3:wr.cell? ⟨g,(i+z)*4+3,none⟩=some (.int .i64 (l[i+z]'hl1).size):=(HN.fresh j1.out).cell (i+z) 3 hl1 (by omega);rw[qE hl1,qO]at hx1;rw[hx1,hx2]at c3;have j5:(i:Int)+(z:Int)<(l.length:Int):=by omega
  generalize S[z-1]=d at hres ja c3;have j0:(0:Int)<(f':Int)+1:=by omega
  have j8:=hid hres;have j7:Hid ((intOf (Value.int .i64 (f':Int))).toNat<(intOf (Value.int .i64 ((f'+1:Nat):Int))).toNat):=by unfold Hid;simp[intOf]
  clear hres hx1 hx2 j3;go_wp2;go_roundw
  case rel=>exact⟨z+d,f',by go_num,by go_num,j8.out,by omega,by omega,by omega,by first|rfl|trivial⟩
  exact j7.out
 have hn:S[z-1]? = none:=qN (by omega);rw[hn]at hres;have hr:z=RES:=hres;have HR:=hid hr;have j5:¬((i:Int)+(z:Int)<(l.length:Int)):=by omega
 have jc:decide ((i:Int)+(z:Int)<(l.length:Int))=false:=by simpa using j5
 have j0:(0:Int)<(f':Int)+1:=by omega
 clear hres hr j3 hn;go_wp2;go_ret;exact⟨by rw[HR.out];rfl,j1.out⟩
def Q2x:Nd:=⟨0,0,0,0⟩
def Q4m{α:Type}(z:α)(D:List α)(n i:Nat):List α:=D.take i++List.replicate (n-i) z
theorem x2a{α:Type}(z:α){D:List α}{n i:Nat}(h:D.length=n)(hi:i<=n):(Q4m z D n i).length=n:=by simp[Q4m];omega
theorem x2b{α:Type}(z:α){D:List α}{n i:Nat}(h:D.length=n)(hi:i<D.length):(Q4m z D n i).set i D[i]=Q4m z D n (i+1):=by
 unfold Q4m;rw[qCy _ _ (by simp;omega)];rw[show i-(D.take i).length=0 by simp;omega,show n-i=(n-(i+1))+1 by omega,List.replicate_succ,qEn,Q6g hi,qAh];rfl
def Q4f{α:Type}(D E:List α)(m:Nat):List α:=D.take m++E.drop m
theorem x20{α:Type}{D E:List α}{n m:Nat}(h:D.length=n)(h2:E.length=n)(hm:m<=n):(Q4f D E m).length=n:=by simp[Q4f];omega
theorem x21{α:Type}{D E:List α}{n m:Nat}(h:D.length=n)(h2:E.length=n)(hm:m<E.length):(Q4f D E (m+1)).set m E[m]=Q4f D E m:=by
 unfold Q4f;rw[Q6g (by omega),qAh,qCy _ _ (by simp;omega)];rw[show m-(D.take m).length=0 by simp;omega,List.singleton_append,qEn,← qC hm]
theorem x6b{α:Type}{D E:List α}{n m:Nat}(h:D.length=n)(h2:E.length=n)(hm:m<D.length):(Q4f D E (m+1))[m]? = some D[m]:=by
 unfold Q4f;rw[qAe (by simp;omega),qCg (by omega),qE hm]
theorem y6k{α:Type}{D E:List α}{n m j:Nat}(h:D.length=n)(h2:E.length=n)(hm:m<=n):(Q4f D E m)[m+j]? = E[m+j]? := by
 unfold Q4f;rw[qAg (by simp;omega),qCq];congr 1;simp;omega
theorem x3n(ps:List Pr)(st:List St){j:Nat}(hj:j<st.length){d:Nat}(hd:(Q08 ps (ndL st 0))[j]? = some d):∃x,(ndL st 0)[j]? = some x/\(Q17 ps st)[j]? = some (Q74 x d):=by
 have h1:j<(ndL st 0).length:=by rw[z60];exact hj
 refine⟨(ndL st 0)[j],qE h1,?_⟩;unfold Q17;rw[List.getElem?_zipWith,qE h1,hd]
section
variable {α:Type}{cells:α->List Value}{k:Nat}
theorem z44{w:World}{B g n cap:Nat}{e:TypeId}{l:List α}(hw:∀x,(cells x).length=k)(h:w.ownsRow B e k (.slice (some ⟨g,0,none⟩) n cap) l.length (Q00 cells l)){i:Nat}(hi:i<l.length):w.there g (i*k) k:=by
 intro j hj;have hr:Q2e cells k e w (.slice (some ⟨g,0,none⟩) n cap) l:=⟨z0f h (qBg _),fun x _=>hw x⟩;have hc:=hr.cell i j hi hj;refine⟨by rw[hc];simp[hw,hj],?_⟩;obtain⟨_,h2⟩:=h;rcases h2 with⟨h2,_⟩|⟨g',cap',cur,e1,e2,e3,_⟩
 ·cases h2
 rw[qI]at e1;obtain⟨eg,_,_⟩:=e1;have j0:g=g':=by simpa using eg
 subst j0;exact Q0g e3 _
end
theorem infoNd:(Tryz.prog.info? 59).map (fun i=>(i.zero,i.size,i.bytes))=some (some (.agg #[.int .i64 0,.int .i64 0,.int .i64 0,.int .i64 0]),4,32):=by kernel_rfl
theorem Q9c:∃i,Tryz.prog.info? 59=some i/\i.zero=some (.agg #[.int .i64 0,.int .i64 0,.int .i64 0,.int .i64 0])/\i.size=4/\i.bytes=32:=nfoE infoNd
theorem y9z(n:Nat):(madeCells #[Value.int .i64 0,.int .i64 0,.int .i64 0,.int .i64 0] (n*4)).toList=Q00 Nd.cells (List.replicate n Q2x):=by
 apply qDf;intro j;have hl:=z2z Nd.cells 4 (xs:=List.replicate n Q2x) (fun x _=>rfl);rw[List.length_replicate]at hl;have hz:∀r,r<4->(#[Value.int .i64 0,.int .i64 0,.int .i64 0,.int .i64 0]:Array Value)[r]! = .int .i64 0:=by
  intro r hr;rcases r with _|_|_|_|r;all_goals first|rfl|omega
 by_cases hj:j<n*4
 ·have hq:j / 4<n:=by omega
  have hr:j % 4<4:=Nat.mod_lt _ (by omega);have a1:=z5r Nd.cells 4 (xs:=List.replicate n Q2x) (fun x _=>rfl) (j / 4) (j % 4) (by simpa using hq) hr;rw[show j / 4*4+j % 4=j by omega]at a1;rw[a1,List.getElem_replicate];unfold madeCells;simp only[Array.toList_map,qBe,Array.toList_range,qEg hj,qCz];have e:(#[Value.int .i64 0,.int .i64 0,.int .i64 0,.int .i64 0]:Array Value).size=4:=rfl;rw[e,hz _ hr];generalize j % 4=r at hr;rcases r with _|_|_|_|r;all_goals first|rfl|omega
 rw[qN (by simp[madeCells];omega),qN (by omega)]
def stN(p v:Value):Sem Unit:=Instr.storeAt 59 p v
theorem x7k(p v:Value):Instr.storeAt 59 p v=stN p v:=rfl
theorem x8h(a b c d:Int):(#[Value.int .i64 a,.int .i64 b,.int .i64 c,.int .i64 d]:Array Value).all (·.oneCell')=true :=
 all_oneCell_toArray (cs:=[.int .i64 a,.int .i64 b,.int .i64 c,.int .i64 d]) (by intro v hv;simp only[qBc,qCt,or_false]at hv;rcases hv with rfl|rfl|rfl|rfl<;>rfl)
theorem szStp:(Tryz.prog.info? 141).map (·.size)=some 2:=by kernel_rfl
attribute [local go_sem ↓] x7k
theorem y26(w:World)(R H:Int)(vp vs:Value)(ps:List PV)(st:List St)(hp:Q3c w w.heap.size vp ps)(hst:Q2e St.cells 2 141 w vs st)(hnum:∀s∈st,0<=s.num/\s.num<=127)(hl:st.length<=1000000000000)
  (hps:ps.length<=1000) (har:∀p∈ps,p.pr.syms.length<=1000) :
  Calls Tryz.prog 26 #[.agg #[.int .i64 R,.int .i64 H,vp],vs] w fun e w'=>∃v,e=.returned v/\Q0a w w'/\Q3l w' w.heap.size v (Q17 (Q0j ps) st):=by
 obtain⟨i0,hi0,iz0,iz1,iz2⟩:=Q9c;obtain⟨pa,pc,hvp⟩:=z0d hp.row.own;subst hvp;obtain⟨sa,sc,hvs⟩:=z0d hst.own;subst hvs;have HP:=hid hp;have k2:=hid hst;have kc:=hid hnum;have k8:Hid (∀x:Nd,arF (Q0j ps) x<=1000):=fun x=>by
  unfold arF;split
  ·omega
  split
  ·rename_i p hq;obtain⟨y,hy,rfl⟩:=qBp.1 (qAd hq);exact har y hy
  omega
 have mk:∀w:World,(Instr.makeSlice 23 (.int .i64 st.length) (.int .i64 st.length)).run Tryz.prog w=.ok (.slice (some ⟨w.heap.size,0,none⟩) st.length st.length) (w.alloc (.cells (madeCells #[.int .i64 0,.int .i64 0,.int .i64 0,.int .i64 0] (st.length*4)) 59)):=fun w=>by
  have h:=run_make (P:=Tryz.prog) w 23 59 i0 _ Tryz.underlying23 hi0 iz0 .i64 .i64 (st.length:Int) (st.length:Int) (by omega) (Int.le_refl _) (by rw[iz2];omega) (by omega);rw[iz1,qAl]at h;exact h
 have ji:=hid (y9z st.length);generalize madeCells #[Value.int .i64 0,.int .i64 0,.int .i64 0,.int .i64 0] (st.length*4)=MC at mk ji;clear hp hst hnum har;go_enter Tryz.func26,Tryz.ntmps26
 go_wp2;have j0:(ndL st 0).length=st.length:=z60 st 0;have jk:=hid (fun(j d:Nat) (h:(Q08 (Q0j ps) (ndL st 0))[j]? = some d)=>z9y (Q0j ps) (ndL st 0) j d h);have jr:=hid (x4r (Q0j ps) (ndL st 0));have jf:=hid (z2u (Q0j ps) (ndL st 0));have jc:=hid (fun(j:Nat) (hj:j<st.length) (d:Nat)=>x3n (Q0j ps) st hj (d:=d));have j7:=z62 (Q0j ps) st;have jo:Hid (ndL (st.drop 0) 0=(ndL st 0).drop 0):=rfl;generalize ndL st 0=ND at j0 jk jr jf jc jo;generalize hSZ:Q08 (Q0j ps) ND=SZ at jk jr jf jc;generalize hNF:Q17 (Q0j ps) st=NF at j7 jc;have kb:=hid hNF;clear hSZ hNF;have j4:=hid j0;have j2:=hid j7;have k4:Hid (Q0a w ((w.alloc (.cells #[.int .i64 R,.int .i64 H,.slice pa ps.length pc] 41 (0,0))).alloc (.cells MC 59 (0,0)))):=((mRf _ w).alloc _).alloc _;have k3:Hid (((w.alloc (.cells #[.int .i64 R,.int .i64 H,.slice pa ps.length pc] 41 (0,0))).alloc (.cells MC 59 (0,0))).heap[w.heap.size]? = some (.cells #[.int .i64 R,.int .i64 H,.slice pa ps.length pc] 41 (0,0))):=z0b (z0a _ _);have k0:Hid (Q3l ((w.alloc (.cells #[.int .i64 R,.int .i64 H,.slice pa ps.length pc] 41 (0,0))).alloc (.cells MC 59 (0,0))) w.heap.size (.slice (some ⟨w.heap.size+1,0,none⟩) st.length st.length) (Q4m Q2x ND st.length 0)):=by
  have hf:Q4m Q2x ND st.length 0=List.replicate st.length Q2x:=by simp[Q4m]
  have j5:=z2z Nd.cells 4 (xs:=List.replicate st.length Q2x) (fun x _=>rfl);rw[hf];refine⟨by rw[j5],.inr ⟨w.heap.size+1,st.length,MC,by simp,by omega,?_,by simp,by unfold maxLen;omega,?_,?_⟩⟩
  ·have:=z0a (w.alloc (.cells #[.int .i64 R,.int .i64 H,.slice pa ps.length pc] 41 (0,0))) (.cells MC 59 (0,0));simpa using this
  ·have:=qDn List.length ji.out;rw[j5]at this;simpa using this
  rw[ji.out,qCh (by rw[j5];exact qR _)]
 clear j0 j7;go_loopw [6,16] (fun x6 x16 wr=>∃(i c:Nat),x16=.int .i64 i/\x6=.int .i64 c/\i<=st.length/\c<=i/\ndL (st.drop i) c=ND.drop i/\Q0a w wr/\wr.heap[w.heap.size]? = some (.cells #[.int .i64 R,.int .i64 H,.slice pa ps.length pc] 41 (0,0))/\Q3l wr w.heap.size (.slice (some ⟨w.heap.size+1,0,none⟩) st.length st.length) (Q4m Q2x ND st.length i))
   (fun _ x _=>1000000000001-(intOf x).toNat)
 case atStart=>exact⟨0,0,rfl,rfl,by omega,by omega,jo.out,k4.out,k3.out,k0.out⟩
 clear mk jo k4 k3 k0 ji;obtain⟨i,c,rfl,rfl,hi,hc,hnd,hfr,htb,hown⟩:=hrel;have jy:=hid (Q15 (B:=1000000000001) i (by omega));have jh:=hid hfr;have jt:=hid htb;have jj:=hid hown;have kp:=z0j htb;have j0:=j4.out;have kl:=(hown.lt (w.heap.size+1) rfl).2;clear hfr htb hown;by_cases hlt:i<st.length
 ·have km:(i:Int)<(st.length:Int):=by omega
  obtain⟨g,c',hg⟩:=Joins.ownsRow_form k2.own (by omega);rw[qI]at hg;obtain⟨rfl,_,rfl⟩:=hg;have RG:=hid ((k2.fresh jh.out).range i hlt);have k7:=kc.out st[i] (by simp);have jv:i<ND.length:=by omega
  rw[qC hlt,qC jv]at hnd;have j5:(Q4m Q2x ND st.length i).length=st.length:=x2a _ j0 hi;have kk:Hid (wr.there (w.heap.size+1) (i*4) 4):=z44 Nd.cells_len jj.out (by rw[j5];exact hlt);have jz:=hid (fun(W:World) (h:Q3l W w.heap.size (.slice (some ⟨w.heap.size+1,0,none⟩) st.length st.length) (Q4m Q2x ND st.length i)) (x:Nd)=>v0d (k:=4) Nd.cells_len (by omega) h (i:=i) (by rw[j5];exact hlt) x);have jp:Hid ((Q4m Q2x ND st.length i).set i ND[i]=Q4m Q2x ND st.length (i+1)):=x2b _ j0 jv;generalize ND[i]=nd at hnd jp;generalize st[i]=s at hnd RG k7;obtain⟨sl,sn⟩:=s;obtain⟨hn0,hn1⟩:=k7;dsimp only at hn0 hn1;unfold ndL at hnd;have jb:=hid j5;clear j5 jv j0;cases sl
  ·simp only[qF,qAp,qAu]at hnd;obtain⟨hnd1,hnd2⟩:=hnd;have jq:=hid hnd2;have je:Hid (Q3l (wr.alloc (.cells #[.bool false,.int .i8 sn] 141 (0,0))) w.heap.size (.slice (some ⟨w.heap.size+1,0,none⟩) st.length st.length) (Q4m Q2x ND st.length i)):=jj.alloc _;have j6:Hid ((wr.alloc (.cells #[.bool false,.int .i8 sn] 141 (0,0))).there (w.heap.size+1) (i*4) 4):=z44 Nd.cells_len je.out (by rw[jb.out];exact hlt);have j1:=hid (jz.out _ je.out ⟨sn,-1,c,0⟩);have j3:(Q4m Q2x ND st.length i).set i (⟨sn,-1,c,0⟩:Nd)=Q4m Q2x ND st.length (i+1):=by rw[hnd1];exact jp.out
   rw[j3]at j1;clear j3;obtain⟨Wx,hWx⟩:∃Wx,Wx=(wr.alloc (.cells #[.bool false,.int .i8 sn] 141 (0,0))).setCells (w.heap.size+1) (i*4) (#[.int .i64 sn,.int .i64 (-1),.int .i64 c,.int .i64 0]:Array Value).toList:=⟨_,rfl⟩;have j8:Hid (Q0a w Wx):=by rw[hWx];exact Mod.setCells (fun h=>by omega) _ _ _ (jh.alloc _)
   have js:Hid (Wx.heap[w.heap.size]? = some (.cells #[.int .i64 R,.int .i64 H,.slice pa ps.length pc] 41 (0,0))):=by
    rw[hWx];exact(Mod.setCells (S:=fun k=>k=w.heap.size+1) (a:=wr) (fun _=>rfl) _ _ _ ((mRf _ wr).alloc _)).at jt.out (by omega)
   have jd:Hid (Q3l Wx w.heap.size (.slice (some ⟨w.heap.size+1,0,none⟩) st.length st.length) (Q4m Q2x ND st.length (i+1))):=by
    rw[hWx];exact j1.out
   have s1:(stN (.pointer (some ⟨w.heap.size+1,i*4,none⟩)) (.agg #[.int .i64 sn,.int .i64 (-1),.int .i64 c,.int .i64 0])).run Tryz.prog (wr.alloc (.cells #[.bool false,.int .i8 sn] 141 (0,0)))=.ok () Wx:=by
    rw[hWx];exact run_storeAt_mid _ (w.heap.size+1) (i*4) _ _ j6.out szNd (x8h sn (-1) c 0)
   clear hWx;clear j1;clear hnd1 hnd2;go_wp2_with (first
    |(refine wpList_load_mid rfl 141 _ rfl g (i*2) rfl [.bool false,.int .i8 sn] _ RG.out Tryz.underlying141 rfl szStp ?_))
   go_roundw
   case rel =>
    refine⟨i+1,c,by go_num,by go_num,by omega,by omega,jq.out,j8.out,js.out,jd.out⟩
   exact jy.out
  simp only[qBb,qAu]at hnd;obtain⟨hnd1,hnd2⟩:=hnd;have jq:=hid hnd2;have je:Hid (Q3l (wr.alloc (.cells #[.bool true,.int .i8 sn] 141 (0,0))) w.heap.size (.slice (some ⟨w.heap.size+1,0,none⟩) st.length st.length) (Q4m Q2x ND st.length i)):=jj.alloc _;have j6:Hid ((wr.alloc (.cells #[.bool true,.int .i8 sn] 141 (0,0))).there (w.heap.size+1) (i*4) 4):=z44 Nd.cells_len je.out (by rw[jb.out];exact hlt);have j1:=hid (jz.out _ je.out ⟨-1,sn,c,0⟩);have j3:(Q4m Q2x ND st.length i).set i (⟨-1,sn,c,0⟩:Nd)=Q4m Q2x ND st.length (i+1):=by rw[hnd1];exact jp.out
  rw[j3]at j1;clear j3;obtain⟨Wx,hWx⟩:∃Wx,Wx=(wr.alloc (.cells #[.bool true,.int .i8 sn] 141 (0,0))).setCells (w.heap.size+1) (i*4) (#[.int .i64 (-1),.int .i64 sn,.int .i64 c,.int .i64 0]:Array Value).toList:=⟨_,rfl⟩;have j8:Hid (Q0a w Wx):=by rw[hWx];exact Mod.setCells (fun h=>by omega) _ _ _ (jh.alloc _)
  have js:Hid (Wx.heap[w.heap.size]? = some (.cells #[.int .i64 R,.int .i64 H,.slice pa ps.length pc] 41 (0,0))):=by
   rw[hWx];exact(Mod.setCells (S:=fun k=>k=w.heap.size+1) (a:=wr) (fun _=>rfl) _ _ _ ((mRf _ wr).alloc _)).at jt.out (by omega)
  have jd:Hid (Q3l Wx w.heap.size (.slice (some ⟨w.heap.size+1,0,none⟩) st.length st.length) (Q4m Q2x ND st.length (i+1))):=by
   rw[hWx];exact j1.out
  have s1:(stN (.pointer (some ⟨w.heap.size+1,i*4,none⟩)) (.agg #[.int .i64 (-1),.int .i64 sn,.int .i64 c,.int .i64 0])).run Tryz.prog (wr.alloc (.cells #[.bool true,.int .i8 sn] 141 (0,0)))=.ok () Wx:=by
   rw[hWx];exact run_storeAt_mid _ (w.heap.size+1) (i*4) _ _ j6.out szNd (x8h (-1) sn c 0)
  clear hWx;clear j1;clear hnd1 hnd2;go_wp2_with (first
   |(refine wpList_load_mid rfl 141 _ rfl g (i*2) rfl [.bool true,.int .i8 sn] _ RG.out Tryz.underlying141 rfl szStp ?_))
  go_roundw
  case rel =>
   refine⟨i+1,c+1,by go_num,by go_num,by omega,by omega,jq.out,j8.out,js.out,jd.out⟩
  exact jy.out
 have k5:i=st.length:=by omega
 have kn:¬(i:Int)<(st.length:Int):=by omega
 have kd:Hid (Q3l wr w.heap.size (.slice (some ⟨w.heap.size+1,0,none⟩) st.length st.length) (Q4f ND NF st.length)):=by
  have e:Q4m Q2x ND st.length i=Q4f ND NF st.length:=by
   unfold Q4m Q4f;rw[k5,qCu,List.replicate_zero,qAi (by rw[j2.out];exact qR _)]
  rw[← e];exact jj.out
 obtain⟨wa,hwa⟩:∃wa,wa=wr:=⟨_,rfl⟩;subst hwa;clear hnd j0 k5;go_wp2;go_loopw [10] (fun x10 wr=>∃(m:Nat) (q:Int),x10=.int .i64 q/\q=(m:Int)-1/\m<=st.length/\Q0a w wr/\wr.heap[w.heap.size]? = some (.cells #[.int .i64 R,.int .i64 H,.slice pa ps.length pc] 41 (0,0))/\Q3l wr w.heap.size (.slice (some ⟨w.heap.size+1,0,none⟩) st.length st.length) (Q4f ND NF m))
   (fun x _=>(intOf x+1).toNat)
 case atStart=>exact⟨st.length,_,rfl,rfl,qR _,jh.out,jt.out,kd.out⟩
 obtain⟨m,q,rfl,hq,hm,hfr,htb,hown⟩:=hrel;have jg:=hid hfr;have ke:=hid htb;have j9:=hid hown;have kj:=z0j htb;have t0:=Q0b htb 0;have t1:=Q0b htb 1;have t2:=Q0b htb 2;simp at t0 t1 t2;clear hfr htb hown;by_cases hm0:m=0
 ·have kh:q=-1:=by omega
  subst kh;subst hm0;clear hq;go_wp2;go_ret;refine⟨_,rfl,jg.out,?_⟩;have e:Q4f ND NF 0=NF:=by simp[Q4f]
  have h:=j9.out;rw[e]at h;rw[kb.out];exact h
 obtain⟨m',rfl⟩:∃m',m=m'+1:=⟨m-1,by omega⟩;have ki:q=(m':Int):=by omega
 clear hq;subst ki;have jm:m'<st.length:=by omega
 have ko:(m':Int)<(st.length:Int):=by omega
 have ka:Hid (((m':Int)-1+1).toNat<((m':Int)+1).toNat):=by unfold Hid;omega
 have jw:m'<ND.length:=by rw[j4.out];exact jm
 have k6:m'<NF.length:=by rw[j2.out];exact jm
 have ju:(Q4f ND NF (m'+1)).length=st.length:=x20 j4.out j2.out hm;have ja:m'<(Q4f ND NF (m'+1)).length:=by rw[ju];exact jm
 have jl:(Q4f ND NF (m'+1))[m']=ND[m']:=by
  have:=x6b j4.out j2.out jw (E:=NF);rw[qE ja]at this;simpa using this
 have jn:=jr.out m' jw;obtain⟨x,hx1,hx2⟩:=jc.out m' jm _ jn;rw[qE jw,qO]at hx1;have SO:Hid (∀W:World,Q0a wr W->Calls Tryz.prog 59 #[.agg #[.int .i64 R,.int .i64 H,.slice pa ps.length pc],.slice (some ⟨w.heap.size+1,0,none⟩) st.length st.length,.int .i64 m'] W fun e w'=>e=.returned (.int .i64 (szL (SZ.drop (m'+1)) (arF (Q0j ps) ND[m']) 1))/\Q0a W w'):=fun W hW=>by
  have h:=x0o W R H (.slice pa ps.length pc) (.slice (some ⟨w.heap.size+1,0,none⟩) st.length st.length) ps (Q4f ND NF (m'+1)) m' (SZ.drop (m'+1)) ((HP.kept (qR _) (jg.trans hW) (fun _ _ x=>x)).up (jg.trans hW).size) ⟨z0f (z0c j9.out (fun g hg=>hW.block g (j9.lt g hg).2 (fun x=>x))) (qBg _),fun _ _=>rfl⟩ ja hps (by rw[ju];exact hl)
   (by rw[ju,qBx,jf.out,j4.out];omega)
   (fun j d hd=>by
    rw[qCq]at hd;have kg:m'+1+j<st.length:=by
     have:=(qS hd).1;rw[jf.out,j4.out]at this;exact this
    obtain⟨y,hy1,hy2⟩:=jc.out (m'+1+j) kg d hd;refine⟨Q74 y d,?_,rfl⟩;rw[y6k j4.out j2.out hm,hy2])
   (fun j d hd=>by
    rw[qCq]at hd;have:=jk.out _ _ hd;rw[qBx,jf.out];omega)
   (by rw[jl];exact k8.out _)
  rw[jl]at h;exact h
 generalize szL (SZ.drop (m'+1)) (arF (Q0j ps) ND[m']) 1=z at SO hx2 jn;have kq:z<=1000000000000:=by
  have h1:=jk.out _ _ jn;have h2:=j4.out;omega
 have kf:=z44 Nd.cells_len j9.out ja;have k1:=hid (fun(W:World) (h:Q3l W w.heap.size (.slice (some ⟨w.heap.size+1,0,none⟩) st.length st.length) (Q4f ND NF (m'+1)))=>x60 (k:=4) Nd.cells_len (by omega) h (i:=m') (o:=3) ja (by omega) (.int .i64 z) (Q74 ND[m'] z) (by rw[jl];rfl));have jx:Hid ((Q4f ND NF (m'+1)).set m' (Q74 ND[m'] z)=Q4f ND NF m'):=by
  have h:=x21 j4.out j2.out k6 (D:=ND);have h2:NF[m']=Q74 ND[m'] z:=by
   rw[qE k6,qO]at hx2;rw[hx2,← hx1]
  rw[h2]at h;exact h
 generalize Q74 ND[m'] z=nd at k1 jx;clear hx1 hx2 jn jl kf;have k9:Hid (∀W:World,Q0a wr W->Q3l W w.heap.size (.slice (some ⟨w.heap.size+1,0,none⟩) st.length st.length) (Q4f ND NF (m'+1))/\(∃V,W.cell? ⟨w.heap.size+1,m'*4+3,none⟩=some V)/\W.frozen? ⟨w.heap.size+1,m'*4+3,none⟩=false):=fun W hW=>by
  have h:=z0c j9.out (fun g hg=>hW.block g (j9.lt g hg).2 (fun x=>x));have hr:NdsAt W (.slice (some ⟨w.heap.size+1,0,none⟩) st.length st.length) (Q4f ND NF (m'+1)):=⟨z0f h (qBg _),fun x _=>rfl⟩;exact⟨h,⟨_,hr.cell m' 3 ja (by omega)⟩,(z44 Nd.cells_len h ja 3 (by omega)).2⟩
 go_wp2_with (first
  |(go_at_call 59;refine(SO.out _ (mRf _ wr)).mono ?_;rintro e w3⟨rfl,hf3⟩;obtain⟨ho3,⟨V3,c3⟩,z3⟩:=k9.out w3 hf3;have jd:=hid ho3;have j8:=hid hf3;clear ho3 hf3))
 go_roundw
 case rel =>
  refine⟨m',(m':Int)-1,rfl,rfl,by omega,(jg.trans j8.out).setCell (fun h=>by simp at h;omega) _,?_,?_⟩
  ·exact z0i (j8.at ke.out (fun x=>x)) (by simp)
  have h:=k1.out w3 jd.out;rw[jx.out]at h;exact h
 exact ka.out
end Go.Proofs.YtcpceafmlgaodaaGreat
