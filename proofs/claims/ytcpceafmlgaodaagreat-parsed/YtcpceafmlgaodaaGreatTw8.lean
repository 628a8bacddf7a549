import Derived.Laws.MakeOwn
import Derived.Test.YtcpceafmlgaodaaGreatTw4
namespace Go.Proofs.YtcpceafmlgaodaaGreat
open Go.RowKit
set_option maxRecDepth 99999
set_option maxHeartbeats 0
set_option linter.all false
section
variable {α:Type}{cells:α->List Value}{k:Nat}
theorem y4h{l:List α}(hw:∀x,(cells x).length=k)(hk0:0<k){x:α}{i:Nat}(hi:i<l.length)(j:Nat) :
  (Q0z cells (l.set i x))[j]? = if i*k<=j/\j<i*k+k then(cells x)[j-i*k]? else(Q0z cells l)[j]? := by
 have l1:=z2z cells k (xs:=l) (fun x _=>hw x);have l2:=z2z cells k (xs:=l.set i x) (fun x _=>hw x);rw[List.length_set]at l2;have j1:i*k+k<=l.length*k:=by
  have:(i+1)*k<=l.length*k:=Nat.mul_le_mul_right k hi;rw[Nat.add_mul,Nat.one_mul]at this;exact this
 by_cases hj:j<l.length*k
 ·have hq:j / k<l.length:=Nat.div_lt_of_lt_mul (by rw[Nat.mul_comm];exact hj);have hr:j % k<k:=Nat.mod_lt _ hk0;have e:j / k*k+j % k=j:=by rw[Nat.mul_comm];exact Nat.div_add_mod j k
  have a1:=z5y cells k (xs:=l) (fun x _=>hw x) (j / k) (j % k) hq hr;have a2:=z5y cells k (xs:=l.set i x) (fun x _=>hw x) (j / k) (j % k) (by simpa using hq) hr;rw[e]at a1 a2;rw[a1,a2,List.getElem_set];by_cases hk2:i=j / k
  ·rw[if_pos hk2,if_pos ⟨by rw[hk2];omega,by rw[hk2];omega⟩];congr 1;rw[hk2];omega
  rw[if_neg hk2,if_neg];rintro⟨h1,h2⟩;apply hk2;have hd:j=k*i+(j-i*k):=by rw[Nat.mul_comm k i];omega
  have j0:j-i*k<k:=by omega
  rw[hd,Nat.mul_add_div hk0,Nat.div_eq_of_lt j0];omega
 rw[qN (by omega),if_neg (by omega),qN (by omega)]
theorem v0r{w:World}{B g n cap:Nat}{e:TypeId}{l:List α}(hw:∀x,(cells x).length=k)(hk0:0<k)(h:w.ownsRow B e k (.slice (some ⟨g,0,none⟩) n cap) l.length (Q0z cells l)){i:Nat}(hi:i<l.length)(x:α) :
  (w.setCells g (i*k) (cells x)).ownsRow B e k (.slice (some ⟨g,0,none⟩) n cap) (l.set i x).length (Q0z cells (l.set i x)):=by
 have l2:=z2z cells k (xs:=l.set i x) (fun x _=>hw x);have j2:i*k+k<=l.length*k:=by
  have:(i+1)*k<=l.length*k:=Nat.mul_le_mul_right k hi;rw[Nat.add_mul,Nat.one_mul]at this;exact this
 obtain⟨h1,h2⟩:=h;refine⟨l2,?_⟩;rcases h2 with⟨h2,_⟩|⟨g',cap',cur,e1,e2,e3,e4,e5,e6,e7⟩
 ·cases h2
 rw[qI]at e1;obtain⟨eg,rfl,rfl⟩:=e1;have j0:g=g':=by simpa using eg
 subst j0;have j1:l.length*k<=cap*k:=Nat.mul_le_mul_right _ e4;refine .inr ⟨g,cap,Q4w cur (i*k) (cells x),by rw[List.length_set],e2,z0p _ _ _ _ _ _ _ e3,by rw[List.length_set];exact e4,e5,by rw[z50];exact e6,?_⟩;apply List.ext_getElem?;intro j;rw[y4h hw hk0 hi,← e7,List.length_set];by_cases hj:j<l.length*k
 ·rw[List.getElem?_take_of_lt hj,List.getElem?_take_of_lt hj,Array.getElem?_toList,Array.getElem?_toList,z94 _ _ _ _ (by rw[hw];omega),hw];simp
 rw[qN (by simp;omega),if_neg (by omega),qN (by simp;omega)]
theorem x51{w:World}{B g n cap:Nat}{e:TypeId}{l:List α}(hw:∀x,(cells x).length=k)(hk0:0<k)(h:w.ownsRow B e k (.slice (some ⟨g,0,none⟩) n cap) l.length (Q0z cells l)){i o:Nat}(hi:i<l.length)(ho:o<k)(v:Value)(x:α)
  (hx:cells x=(cells l[i]).set o v) :
  (w.setCell ⟨g,i*k+o,none⟩ v).ownsRow B e k (.slice (some ⟨g,0,none⟩) n cap) (l.set i x).length (Q0z cells (l.set i x)):=by
 have l2:=z2z cells k (xs:=l.set i x) (fun x _=>hw x);have j3:i*k+k<=l.length*k:=by
  have:(i+1)*k<=l.length*k:=Nat.mul_le_mul_right k hi;rw[Nat.add_mul,Nat.one_mul]at this;exact this
 obtain⟨h1,h2⟩:=h;refine⟨l2,?_⟩;rcases h2 with⟨h2,_⟩|⟨g',cap',cur,e1,e2,e3,e4,e5,e6,e7⟩
 ·cases h2
 rw[qI]at e1;obtain⟨eg,rfl,rfl⟩:=e1;have j2:g=g':=by simpa using eg
 subst j2;have j1:l.length*k<=cap*k:=Nat.mul_le_mul_right _ e4;refine .inr ⟨g,cap,cur.setIfInBounds (i*k+o) v,by rw[List.length_set],e2,zhs e3 _ _,by rw[List.length_set];exact e4,e5,by simpa using e6,?_⟩;apply List.ext_getElem?;intro j;rw[y4h hw hk0 hi,List.length_set,hx];by_cases hj:j<l.length*k
 ·have hc:cur.toList[j]? = (Q0z cells l)[j]? := by rw[← e7,List.getElem?_take_of_lt hj]
  rw[List.getElem?_take_of_lt hj,Array.getElem?_toList,Array.getElem?_setIfInBounds,← Array.getElem?_toList,hc];by_cases hin:i*k<=j/\j<i*k+k
  ·rw[if_pos hin,List.getElem?_set];have j0:=z5y cells k (xs:=l) (fun x _=>hw x) i (j-i*k) hi (by omega);rw[show i*k+(j-i*k)=j by omega]at j0;by_cases ho2:o=j-i*k
   ·rw[if_pos (by omega),if_pos ho2,if_pos (by omega),if_pos (by rw[hw];omega)]
   rw[if_neg (by omega),if_neg ho2,j0]
  rw[if_neg hin,if_neg (by omega)]
 rw[qN (by simp;omega),if_neg (by omega),qN];rw[z2z cells k (xs:=l) (fun x _=>hw x)];omega
end
theorem Nd.cells_len(n:Nd):n.cells.length=4:=rfl
theorem y0i(w:World)(R H:Int)(vp vn:Value)(ps:List PV)(l:List Nd)(i:Nat)(hp:Q3f w w.heap.size vp ps)(hn:NdsAt w vn l)(hi:i<l.length)(hps:ps.length<=1000) :
  Calls Tryz.prog 86 #[.agg #[.int .i64 R,.int .i64 H,vp],vn,.int .i64 i] w fun e w'=>e=.returned (.int .i64 (arF (Q0j ps) l[i]))/\Q0a w w':=by
 obtain⟨pa,pc,hvp⟩:=z0d hp.row.own;subst hvp;obtain⟨na,nc,hvn⟩:=z0d hn.own;subst hvn;obtain⟨g,c',hg⟩:=Joins.ownsRow_form hn.own (by omega);rw[qI]at hg;obtain⟨rfl,_,rfl⟩:=hg;have j4:=(hn.own.lt g rfl).2;have c0:w.cell? ⟨g,i*4,none⟩=some (.int .i64 l[i].prod):=hn.cell i 0 hi (by omega);have j5:(i:Int)<(l.length:Int):=by omega
 have j2:¬(l.length<=i):=by omega
 have HP:=hid hp;generalize hX:arF (Q0j ps) l[i]=X;unfold arF at hX;generalize l[i].prod=pr at c0 hX;clear hn hp;by_cases h0:pr<0
 ·rw[if_pos h0]at hX;subst hX;go_enter Tryz.func86,Tryz.ntmps86
  go_wp2;go_ret;exact⟨rfl,(mRf _ w).alloc _⟩
 rw[if_neg h0]at hX;obtain⟨q,rfl⟩:∃q:Nat,pr=q:=⟨pr.toNat,by omega⟩;rw[Int.toNat_natCast]at hX;by_cases hq:q<ps.length
 ·have j0:(q:Int)<(ps.length:Int):=by omega
  have j1:¬(ps.length<=q):=by omega
  have e:(Q0j ps)[q]? = some ps[q].pr:=by simp[Q0j,hq]
  rw[e]at hX;simp only[]at hX;subst hX;obtain⟨gp,c2,hg2⟩:=Joins.ownsRow_form HP.row.own (by omega);rw[qI]at hg2;obtain⟨rfl,_,rfl⟩:=hg2;have j3:=(HP.row.own.lt gp rfl).2;have c1:w.cell? ⟨gp,q*2+1,none⟩=some ps[q].vs:=HP.row.cell q 1 hq (by omega);obtain⟨sa,sc,hsv,_⟩:=HP.syms ps[q] (by simp);rw[hsv]at c1;clear hsv e;generalize ps[q].pr.syms.length=N at c1;go_enter Tryz.func86,Tryz.ntmps86
  go_wp2;go_ret;exact⟨rfl,(mRf _ w).alloc _⟩
 have j0:¬(q:Int)<(ps.length:Int):=by omega
 have j1:ps.length<=q:=by omega
 have e:(Q0j ps)[q]? = none:=by simp[Q0j];omega
 rw[e]at hX;simp only[]at hX;subst hX;clear e;go_enter Tryz.func86,Tryz.ntmps86
 go_wp2;go_ret;exact⟨rfl,(mRf _ w).alloc _⟩
theorem y9i(w:World)(R H:Int)(vp vn:Value)(ps:List PV)(l:List Nd)(i:Nat)(S:List Nat)(hp:Q3f w w.heap.size vp ps)(hn:NdsAt w vn l)(hi:i<l.length)(hps:ps.length<=1000)(hll:l.length<=1000000000000)
  (hS:S.length+i+1=l.length) (hz:∀(j d:Nat),S[j]? = some d->∃x:Nd,l[i+1+j]? = some x/\x.size=(d:Int)) (hb:∀(j d:Nat),S[j]? = some d->1<=d/\j+d<=S.length) (har:arF (Q0j ps) l[i]<=1000) :
  Calls Tryz.prog 59 #[.agg #[.int .i64 R,.int .i64 H,vp],vn,.int .i64 i] w fun e w'=>e=.returned (.int .i64 (szL S (arF (Q0j ps) l[i]) 1))/\Q0a w w':=by
 have CO:=hid (fun W (hW:Q0a w W)=>y0i W R H vp vn ps l i ((hp.kept (qR _) hW (fun _ _ x=>x)).up hW.size) (hn.fresh hW) hi hps);obtain⟨pa,pc,hvp⟩:=z0d hp.row.own;subst hvp;obtain⟨na,nc,hvn⟩:=z0d hn.own;subst hvn;obtain⟨g,c',hg⟩:=Joins.ownsRow_form hn.own (by omega);rw[qI]at hg;obtain⟨rfl,_,rfl⟩:=hg;have HN:=hid hn;have HZ:=hid hz;have j8:=hid hb;have j9:=hid hS;generalize arF (Q0j ps) l[i]=A at CO har;generalize hRES:szL S A 1=RES;have j4:=hid hRES;have hT:(w.alloc (.cells #[.int .i64 R,.int .i64 H,.slice pa ps.length pc] 41 (0,0))).heap[w.heap.size]? = _:=z0a _ _;have t0:=Q0b hT 0;have t1:=Q0b hT 1;have t2:=Q0b hT 2;simp at t0 t1 t2;clear hp hn hz hb hS hRES hT;go_enter Tryz.func59,Tryz.ntmps59
 go_wp2_with (first
  |(go_at_call 86;refine(CO.out _ ((mRf _ w).alloc _)).mono ?_;rintro e w1⟨rfl,j0⟩))
 have j1:Hid (Q0a w w1):=Mod.trans ((mRf _ w).alloc _) j0;clear j0 t0 t1 t2;go_loopw [7,8] (fun x7 x8 wr=>∃(z f:Nat),x7=.int .i64 z/\x8=.int .i64 f/\szL S f z=RES/\1<=z/\z<=S.length+1/\f<=1000/\wr=w1)
   (fun _ x _=>(intOf x).toNat)
 case atStart=>exact⟨1,A,rfl,rfl,j4,by omega,by omega,har,rfl⟩
 obtain⟨z,f,rfl,rfl,hres,hz1,hz2,hf,hwr⟩:=hrel;subst hwr;have j3:=j9.out;have jc:S.length+i<=1000000000000:=by omega
 by_cases hf0:f=0
 ·subst hf0;have hr:z=RES:=hres;have HR:=hid hr;clear hres hr j3;go_wp2;go_ret;exact⟨by rw[HR.out];rfl,j1⟩
 obtain⟨f',rfl⟩:∃f',f=f'+1:=⟨f-1,by omega⟩;unfold szL at hres;by_cases hlt:z<=S.length
 ·have j2:z-1<S.length:=by omega
  rw[qE j2]at hres;simp only[]at hres;have jb:=j8.out (z-1) S[z-1] (qE j2);obtain⟨x,hx1,hx2⟩:=HZ.out (z-1) S[z-1] (qE j2);rw[show i+1+(z-1)=i+z by omega]at hx1;have j5:i+z<l.length:=by omega
  have c3:wr.cell? ⟨g,(i+z)*4+3,none⟩=some (.int .i64 (l[i+z]'hl1).size):=(HN.fresh j1.out).cell (i+z) 3 j5 (by omega);rw[qE j5,qO]at hx1;rw[hx1,hx2]at c3;have j6:(i:Int)+(z:Int)<(l.length:Int):=by omega
  generalize S[z-1]=d at hres jb c3;have j0:(0:Int)<(f':Int)+1:=by omega
  have ja:=hid hres;have j7:Hid ((intOf (Value.int .i64 (f':Int))).toNat<(intOf (Value.int .i64 ((f'+1:Nat):Int))).toNat):=by unfold Hid;simp[intOf]
  clear hres hx1 hx2 j3;go_wp2;go_roundw
  case rel=>exact⟨z+d,f',by go_num,by go_num,ja,by omega,by omega,by omega,by first|rfl|trivial⟩
  exact j7
 have hn:S[z-1]? = none:=qN (by omega);rw[hn]at hres;have hr:z=RES:=hres;have HR:=hid hr;have j6:¬((i:Int)+(z:Int)<(l.length:Int)):=by omega
 have jd:decide ((i:Int)+(z:Int)<(l.length:Int))=false:=by simpa using j6
 have j0:(0:Int)<(f':Int)+1:=by omega
 clear hres hr j3 hn;go_wp2;go_ret;exact⟨by rw[HR.out];rfl,j1⟩
def Q2v:Nd:=⟨0,0,0,0⟩
def Q4p{α:Type}(z:α)(D:List α)(n i:Nat):List α:=D.take i++List.replicate (n-i) z
theorem x3p{α:Type}(z:α){D:List α}{n i:Nat}(h:D.length=n)(hi:i<=n):(Q4p z D n i).length=n:=by simp[Q4p];omega
theorem x3h{α:Type}(z:α){D:List α}{n i:Nat}(h:D.length=n)(hi:i<D.length):(Q4p z D n i).set i D[i]=Q4p z D n (i+1):=by
 unfold Q4p;rw[List.set_append_right _ _ (by simp;omega)];rw[show i-(D.take i).length=0 by simp;omega,show n-i=(n-(i+1))+1 by omega,List.replicate_succ,List.set_cons_zero,Q6h hi,List.append_assoc];rfl
def Q4d{α:Type}(D E:List α)(m:Nat):List α:=D.take m++E.drop m
theorem x49{α:Type}{D E:List α}{n m:Nat}(h:D.length=n)(h2:E.length=n)(hm:m<=n):(Q4d D E m).length=n:=by simp[Q4d];omega
theorem x1j{α:Type}{D E:List α}{n m:Nat}(h:D.length=n)(h2:E.length=n)(hm:m<E.length):(Q4d D E (m+1)).set m E[m]=Q4d D E m:=by
 unfold Q4d;rw[Q6h (by omega),List.append_assoc,List.set_append_right _ _ (by simp;omega)];rw[show m-(D.take m).length=0 by simp;omega,List.singleton_append,List.set_cons_zero,← qC hm]
theorem x66{α:Type}{D E:List α}{n m:Nat}(h:D.length=n)(h2:E.length=n)(hm:m<D.length):(Q4d D E (m+1))[m]? = some D[m]:=by
 unfold Q4d;rw[List.getElem?_append_left (by simp;omega),List.getElem?_take_of_lt (by omega),qE hm]
theorem y68{α:Type}{D E:List α}{n m j:Nat}(h:D.length=n)(h2:E.length=n)(hm:m<=n):(Q4d D E m)[m+j]? = E[m+j]? := by
 unfold Q4d;rw[List.getElem?_append_right (by simp;omega),List.getElem?_drop];congr 1;simp;omega
theorem x2d(ps:List Pr)(st:List St){j:Nat}(hj:j<st.length){d:Nat}(hd:(Q08 ps (ndL st 0))[j]? = some d):∃x,(ndL st 0)[j]? = some x/\(Q17 ps st)[j]? = some (Q74 x d):=by
 have h1:j<(ndL st 0).length:=by rw[z6w];exact hj
 refine⟨(ndL st 0)[j],qE h1,?_⟩;unfold Q17;rw[List.getElem?_zipWith,qE h1,hd]
section
variable {α:Type}{cells:α->List Value}{k:Nat}
theorem z45{w:World}{B g n cap:Nat}{e:TypeId}{l:List α}(hw:∀x,(cells x).length=k)(h:w.ownsRow B e k (.slice (some ⟨g,0,none⟩) n cap) l.length (Q0z cells l)){i:Nat}(hi:i<l.length):w.there g (i*k) k:=by
 intro j hj;have hr:Q2e cells k e w (.slice (some ⟨g,0,none⟩) n cap) l:=⟨z0f h (Nat.zero_le _),fun x _=>hw x⟩;have hc:=hr.cell i j hi hj;refine⟨by rw[hc];simp[hw,hj],?_⟩;obtain⟨_,h2⟩:=h;rcases h2 with⟨h2,_⟩|⟨g',cap',cur,e1,e2,e3,_⟩
 ·cases h2
 rw[qI]at e1;obtain⟨eg,_,_⟩:=e1;have j0:g=g':=by simpa using eg
 subst j0;exact Q0g e3 _
end
theorem infoNd:(Tryz.prog.info? 59).map (fun i=>(i.zero,i.size,i.bytes))=some (some (.agg #[.int .i64 0,.int .i64 0,.int .i64 0,.int .i64 0]),4,32):=by kernel_rfl
theorem Q9b:∃i,Tryz.prog.info? 59=some i/\i.zero=some (.agg #[.int .i64 0,.int .i64 0,.int .i64 0,.int .i64 0])/\i.size=4/\i.bytes=32:=nfoE infoNd
theorem y9s(n:Nat):(madeCells #[Value.int .i64 0,.int .i64 0,.int .i64 0,.int .i64 0] (n*4)).toList=Q0z Nd.cells (List.replicate n Q2v):=by
 apply List.ext_getElem?;intro j;have hl:=z2z Nd.cells 4 (xs:=List.replicate n Q2v) (fun x _=>rfl);rw[List.length_replicate]at hl;have hz:∀r,r<4->(#[Value.int .i64 0,.int .i64 0,.int .i64 0,.int .i64 0]:Array Value)[r]! = .int .i64 0:=by
  intro r hr;rcases r with _|_|_|_|r;all_goals first|rfl|omega
 by_cases hj:j<n*4
 ·have hq:j / 4<n:=by omega
  have hr:j % 4<4:=Nat.mod_lt _ (by omega);have a1:=z5y Nd.cells 4 (xs:=List.replicate n Q2v) (fun x _=>rfl) (j / 4) (j % 4) (by simpa using hq) hr;rw[show j / 4*4+j % 4=j by omega]at a1;rw[a1,List.getElem_replicate];unfold madeCells;simp only[Array.toList_map,List.getElem?_map,Array.toList_range,List.getElem?_range hj,Option.map_some];have e:(#[Value.int .i64 0,.int .i64 0,.int .i64 0,.int .i64 0]:Array Value).size=4:=rfl;rw[e,hz _ hr];generalize j % 4=r at hr;rcases r with _|_|_|_|r;all_goals first|rfl|omega
 rw[qN (by simp[madeCells];omega),qN (by omega)]
def stN(p v:Value):Sem Unit:=Instr.storeAt 59 p v
theorem x7d(p v:Value):Instr.storeAt 59 p v=stN p v:=rfl
theorem x8r(a b c d:Int):(#[Value.int .i64 a,.int .i64 b,.int .i64 c,.int .i64 d]:Array Value).all (·.oneCell')=true :=
 all_oneCell_toArray (cs:=[.int .i64 a,.int .i64 b,.int .i64 c,.int .i64 d]) (by intro v hv;simp only[List.mem_cons,List.not_mem_nil,or_false]at hv;rcases hv with rfl|rfl|rfl|rfl<;>rfl)
theorem szStp:(Tryz.prog.info? 141).map (·.size)=some 2:=by kernel_rfl
attribute [local go_sem ↓] x7d
theorem y3c(w:World)(R H:Int)(vp vs:Value)(ps:List PV)(st:List St)(hp:Q3f w w.heap.size vp ps)(hst:Q2e St.cells 2 141 w vs st)(hnum:∀s∈st,0<=s.num/\s.num<=127)(hl:st.length<=1000000000000)
  (hps:ps.length<=1000) (har:∀p∈ps,p.pr.syms.length<=1000) :
  Calls Tryz.prog 26 #[.agg #[.int .i64 R,.int .i64 H,vp],vs] w fun e w'=>∃v,e=.returned v/\Q0a w w'/\Q3p w' w.heap.size v (Q17 (Q0j ps) st):=by
 obtain⟨i0,hi0,iz0,iz1,iz2⟩:=Q9b;obtain⟨pa,pc,hvp⟩:=z0d hp.row.own;subst hvp;obtain⟨sa,sc,hvs⟩:=z0d hst.own;subst hvs;have HP:=hid hp;have k0:=hid hst;have ke:=hid hnum;have ki:Hid (∀x:Nd,arF (Q0j ps) x<=1000):=fun x=>by
  unfold arF;split
  ·omega
  split
  ·rename_i p hq;obtain⟨y,hy,rfl⟩:=List.mem_map.1 (List.mem_of_getElem? hq);exact har y hy
  omega
 have mk:∀w:World,(Instr.makeSlice 23 (.int .i64 st.length) (.int .i64 st.length)).run Tryz.prog w=.ok (.slice (some ⟨w.heap.size,0,none⟩) st.length st.length) (w.alloc (.cells (madeCells #[.int .i64 0,.int .i64 0,.int .i64 0,.int .i64 0] (st.length*4)) 59)):=fun w=>by
  have h:=run_make (P:=Tryz.prog) w 23 59 i0 _ Tryz.underlying23 hi0 iz0 .i64 .i64 (st.length:Int) (st.length:Int) (by omega) (Int.le_refl _) (by rw[iz2];omega) (by omega);rw[iz1,Int.toNat_natCast]at h;exact h
 have jn:=hid (y9s st.length);generalize madeCells #[Value.int .i64 0,.int .i64 0,.int .i64 0,.int .i64 0] (st.length*4)=MC at mk jn;clear hp hst hnum har;go_enter Tryz.func26,Tryz.ntmps26
 go_wp2;have j0:(ndL st 0).length=st.length:=z6w st 0;have jj:=hid (fun(j d:Nat) (h:(Q08 (Q0j ps) (ndL st 0))[j]? = some d)=>z9x (Q0j ps) (ndL st 0) j d h);have jr:=hid (x2u (Q0j ps) (ndL st 0));have jb:=hid (z2w (Q0j ps) (ndL st 0));have jf:=hid (fun(j:Nat) (hj:j<st.length) (d:Nat)=>x2d (Q0j ps) st hj (d:=d));have j7:=z6z (Q0j ps) st;have jw:Hid (ndL (st.drop 0) 0=(ndL st 0).drop 0):=rfl;generalize ndL st 0=ND at j0 jj jr jb jf jw;generalize hSZ:Q08 (Q0j ps) ND=SZ at jj jr jb jf;generalize hNF:Q17 (Q0j ps) st=NF at j7 jf;have k9:=hid hNF;clear hSZ hNF;have j4:=hid j0;have j2:=hid j7;have jy:Hid (Q0a w ((w.alloc (.cells #[.int .i64 R,.int .i64 H,.slice pa ps.length pc] 41 (0,0))).alloc (.cells MC 59 (0,0)))):=((mRf _ w).alloc _).alloc _;have jx:Hid (((w.alloc (.cells #[.int .i64 R,.int .i64 H,.slice pa ps.length pc] 41 (0,0))).alloc (.cells MC 59 (0,0))).heap[w.heap.size]? = some (.cells #[.int .i64 R,.int .i64 H,.slice pa ps.length pc] 41 (0,0))):=z0b (z0a _ _);have k3:Hid (Q3p ((w.alloc (.cells #[.int .i64 R,.int .i64 H,.slice pa ps.length pc] 41 (0,0))).alloc (.cells MC 59 (0,0))) w.heap.size (.slice (some ⟨w.heap.size+1,0,none⟩) st.length st.length) (Q4p Q2v ND st.length 0)):=by
  have hf:Q4p Q2v ND st.length 0=List.replicate st.length Q2v:=by simp[Q4p]
  have j5:=z2z Nd.cells 4 (xs:=List.replicate st.length Q2v) (fun x _=>rfl);rw[hf];refine⟨by rw[j5],.inr ⟨w.heap.size+1,st.length,MC,by simp,by omega,?_,by simp,by unfold maxLen;omega,?_,?_⟩⟩
  ·have:=z0a (w.alloc (.cells #[.int .i64 R,.int .i64 H,.slice pa ps.length pc] 41 (0,0))) (.cells MC 59 (0,0));simpa using this
  ·have:=congrArg List.length jn.out;rw[j5]at this;simpa using this
  rw[jn.out,List.take_of_length_le (by rw[j5];exact qR _)]
 clear j0 j7;go_loopw [6,16] (fun x6 x16 wr=>∃(i c:Nat),x16=.int .i64 i/\x6=.int .i64 c/\i<=st.length/\c<=i/\ndL (st.drop i) c=ND.drop i/\Q0a w wr/\wr.heap[w.heap.size]? = some (.cells #[.int .i64 R,.int .i64 H,.slice pa ps.length pc] 41 (0,0))/\Q3p wr w.heap.size (.slice (some ⟨w.heap.size+1,0,none⟩) st.length st.length) (Q4p Q2v ND st.length i))
   (fun _ x _=>1000000000001-(intOf x).toNat)
 case atStart=>exact⟨0,0,rfl,rfl,by omega,by omega,jw,jy,jx,k3⟩
 clear mk jw jy jx k3 jn;obtain⟨i,c,rfl,rfl,hi,hc,hnd,hfr,htb,hown⟩:=hrel;have k7:=hid (Q15 (B:=1000000000001) i (by omega));have jh:=hid hfr;have js:=hid htb;have jm:=hid hown;have kl:=z0j htb;have j0:=j4.out;have kp:=(hown.lt (w.heap.size+1) rfl).2;clear hfr htb hown;by_cases hlt:i<st.length
 ·have kn:(i:Int)<(st.length:Int):=by omega
  obtain⟨g,c',hg⟩:=Joins.ownsRow_form k0.own (by omega);rw[qI]at hg;obtain⟨rfl,_,rfl⟩:=hg;have RG:=hid ((k0.fresh jh.out).range i hlt);have k1:=ke.out st[i] (by simp);have jq:i<ND.length:=by omega
  rw[qC hlt,qC jq]at hnd;have j5:(Q4p Q2v ND st.length i).length=st.length:=x3p _ j0 hi;have km:Hid (wr.there (w.heap.size+1) (i*4) 4):=z45 Nd.cells_len jm.out (by rw[j5];exact hlt);have k6:=hid (fun(W:World) (h:Q3p W w.heap.size (.slice (some ⟨w.heap.size+1,0,none⟩) st.length st.length) (Q4p Q2v ND st.length i)) (x:Nd)=>v0r (k:=4) Nd.cells_len (by omega) h (i:=i) (by rw[j5];exact hlt) x);have jv:Hid ((Q4p Q2v ND st.length i).set i ND[i]=Q4p Q2v ND st.length (i+1)):=x3h _ j0 jq;generalize ND[i]=nd at hnd jv;generalize st[i]=s at hnd RG k1;obtain⟨sl,sn⟩:=s;obtain⟨hn0,hn1⟩:=k1;dsimp only at hn0 hn1;unfold ndL at hnd;have jc:=hid j5;clear j5 jq j0;cases sl
  ·simp only[qF,if_false,List.cons.injEq]at hnd;obtain⟨hnd1,hnd2⟩:=hnd;have jo:=hid hnd2;have jd:Hid (Q3p (wr.alloc (.cells #[.bool false,.int .i8 sn] 141 (0,0))) w.heap.size (.slice (some ⟨w.heap.size+1,0,none⟩) st.length st.length) (Q4p Q2v ND st.length i)):=jm.alloc _;have j6:Hid ((wr.alloc (.cells #[.bool false,.int .i8 sn] 141 (0,0))).there (w.heap.size+1) (i*4) 4):=z45 Nd.cells_len jd.out (by rw[jc.out];exact hlt);have j1:=hid (k6.out _ jd.out ⟨sn,-1,c,0⟩);have j3:(Q4p Q2v ND st.length i).set i (⟨sn,-1,c,0⟩:Nd)=Q4p Q2v ND st.length (i+1):=by rw[hnd1];exact jv
   rw[j3]at j1;clear j3;obtain⟨Wx,hWx⟩:∃Wx,Wx=(wr.alloc (.cells #[.bool false,.int .i8 sn] 141 (0,0))).setCells (w.heap.size+1) (i*4) (#[.int .i64 sn,.int .i64 (-1),.int .i64 c,.int .i64 0]:Array Value).toList:=⟨_,rfl⟩;have j9:Hid (Q0a w Wx):=by rw[hWx];exact Mod.setCells (fun h=>by omega) _ _ _ (jh.alloc _)
   have ju:Hid (Wx.heap[w.heap.size]? = some (.cells #[.int .i64 R,.int .i64 H,.slice pa ps.length pc] 41 (0,0))):=by
    rw[hWx];exact(Mod.setCells (S:=fun k=>k=w.heap.size+1) (a:=wr) (fun _=>rfl) _ _ _ ((mRf _ wr).alloc _)).at js.out (by omega)
   have je:Hid (Q3p Wx w.heap.size (.slice (some ⟨w.heap.size+1,0,none⟩) st.length st.length) (Q4p Q2v ND st.length (i+1))):=by
    rw[hWx];exact j1
   have s1:(stN (.pointer (some ⟨w.heap.size+1,i*4,none⟩)) (.agg #[.int .i64 sn,.int .i64 (-1),.int .i64 c,.int .i64 0])).run Tryz.prog (wr.alloc (.cells #[.bool false,.int .i8 sn] 141 (0,0)))=.ok () Wx:=by
    rw[hWx];exact run_storeAt_mid _ (w.heap.size+1) (i*4) _ _ j6.out szNd (x8r sn (-1) c 0)
   clear hWx;clear j1;clear hnd1 hnd2;go_wp2_with (first
    |(refine wpList_load_mid rfl 141 _ rfl g (i*2) rfl [.bool false,.int .i8 sn] _ RG.out Tryz.underlying141 rfl szStp ?_))
   go_roundw
   case rel =>
    refine⟨i+1,c,by go_num,by go_num,by omega,by omega,jo,j9,ju,je⟩
   exact k7
  simp only[if_true,List.cons.injEq]at hnd;obtain⟨hnd1,hnd2⟩:=hnd;have jo:=hid hnd2;have jd:Hid (Q3p (wr.alloc (.cells #[.bool true,.int .i8 sn] 141 (0,0))) w.heap.size (.slice (some ⟨w.heap.size+1,0,none⟩) st.length st.length) (Q4p Q2v ND st.length i)):=jm.alloc _;have j6:Hid ((wr.alloc (.cells #[.bool true,.int .i8 sn] 141 (0,0))).there (w.heap.size+1) (i*4) 4):=z45 Nd.cells_len jd.out (by rw[jc.out];exact hlt);have j1:=hid (k6.out _ jd.out ⟨-1,sn,c,0⟩);have j3:(Q4p Q2v ND st.length i).set i (⟨-1,sn,c,0⟩:Nd)=Q4p Q2v ND st.length (i+1):=by rw[hnd1];exact jv
  rw[j3]at j1;clear j3;obtain⟨Wx,hWx⟩:∃Wx,Wx=(wr.alloc (.cells #[.bool true,.int .i8 sn] 141 (0,0))).setCells (w.heap.size+1) (i*4) (#[.int .i64 (-1),.int .i64 sn,.int .i64 c,.int .i64 0]:Array Value).toList:=⟨_,rfl⟩;have j9:Hid (Q0a w Wx):=by rw[hWx];exact Mod.setCells (fun h=>by omega) _ _ _ (jh.alloc _)
  have ju:Hid (Wx.heap[w.heap.size]? = some (.cells #[.int .i64 R,.int .i64 H,.slice pa ps.length pc] 41 (0,0))):=by
   rw[hWx];exact(Mod.setCells (S:=fun k=>k=w.heap.size+1) (a:=wr) (fun _=>rfl) _ _ _ ((mRf _ wr).alloc _)).at js.out (by omega)
  have je:Hid (Q3p Wx w.heap.size (.slice (some ⟨w.heap.size+1,0,none⟩) st.length st.length) (Q4p Q2v ND st.length (i+1))):=by
   rw[hWx];exact j1
  have s1:(stN (.pointer (some ⟨w.heap.size+1,i*4,none⟩)) (.agg #[.int .i64 (-1),.int .i64 sn,.int .i64 c,.int .i64 0])).run Tryz.prog (wr.alloc (.cells #[.bool true,.int .i8 sn] 141 (0,0)))=.ok () Wx:=by
   rw[hWx];exact run_storeAt_mid _ (w.heap.size+1) (i*4) _ _ j6.out szNd (x8r (-1) sn c 0)
  clear hWx;clear j1;clear hnd1 hnd2;go_wp2_with (first
   |(refine wpList_load_mid rfl 141 _ rfl g (i*2) rfl [.bool true,.int .i8 sn] _ RG.out Tryz.underlying141 rfl szStp ?_))
  go_roundw
  case rel =>
   refine⟨i+1,c+1,by go_num,by go_num,by omega,by omega,jo,j9,ju,je⟩
  exact k7
 have k2:i=st.length:=by omega
 have kq:¬(i:Int)<(st.length:Int):=by omega
 have kh:Hid (Q3p wr w.heap.size (.slice (some ⟨w.heap.size+1,0,none⟩) st.length st.length) (Q4d ND NF st.length)):=by
  have e:Q4p Q2v ND st.length i=Q4d ND NF st.length:=by
   unfold Q4p Q4d;rw[k2,Nat.sub_self,List.replicate_zero,List.drop_eq_nil_of_le (by rw[j2.out];exact qR _)]
  rw[← e];exact jm
 obtain⟨wa,hwa⟩:∃wa,wa=wr:=⟨_,rfl⟩;subst hwa;clear hnd j0 k2;go_wp2;go_loopw [10] (fun x10 wr=>∃(m:Nat) (q:Int),x10=.int .i64 q/\q=(m:Int)-1/\m<=st.length/\Q0a w wr/\wr.heap[w.heap.size]? = some (.cells #[.int .i64 R,.int .i64 H,.slice pa ps.length pc] 41 (0,0))/\Q3p wr w.heap.size (.slice (some ⟨w.heap.size+1,0,none⟩) st.length st.length) (Q4d ND NF m))
   (fun x _=>(intOf x+1).toNat)
 case atStart=>exact⟨st.length,_,rfl,rfl,qR _,jh,js,kh⟩
 obtain⟨m,q,rfl,hq,hm,hfr,htb,hown⟩:=hrel;have jl:=hid hfr;have kg:=hid htb;have ja:=hid hown;have ka:=z0j htb;have t0:=Q0b htb 0;have t1:=Q0b htb 1;have t2:=Q0b htb 2;simp at t0 t1 t2;clear hfr htb hown;by_cases hm0:m=0
 ·have kj:q=-1:=by omega
  subst kj;subst hm0;clear hq;go_wp2;go_ret;refine⟨_,rfl,jl,?_⟩;have e:Q4d ND NF 0=NF:=by simp[Q4d]
  have h:=ja.out;rw[e]at h;rw[k9.out];exact h
 obtain⟨m',rfl⟩:∃m',m=m'+1:=⟨m-1,by omega⟩;have kd:q=(m':Int):=by omega
 clear hq;subst kd;have ji:m'<st.length:=by omega
 have kk:(m':Int)<(st.length:Int):=by omega
 have k8:Hid (((m':Int)-1+1).toNat<((m':Int)+1).toNat):=by unfold Hid;omega
 have jt:m'<ND.length:=by rw[j4.out];exact ji
 have jz:m'<NF.length:=by rw[j2.out];exact ji
 have jp:(Q4d ND NF (m'+1)).length=st.length:=x49 j4.out j2.out hm;have j8:m'<(Q4d ND NF (m'+1)).length:=by rw[jp];exact ji
 have jk:(Q4d ND NF (m'+1))[m']=ND[m']:=by
  have:=x66 j4.out j2.out jt (E:=NF);rw[qE j8]at this;simpa using this
 have jg:=jr.out m' jt;obtain⟨x,hx1,hx2⟩:=jf.out m' ji _ jg;rw[qE jt,qO]at hx1;have SO:Hid (∀W:World,Q0a wr W->Calls Tryz.prog 59 #[.agg #[.int .i64 R,.int .i64 H,.slice pa ps.length pc],.slice (some ⟨w.heap.size+1,0,none⟩) st.length st.length,.int .i64 m'] W fun e w'=>e=.returned (.int .i64 (szL (SZ.drop (m'+1)) (arF (Q0j ps) ND[m']) 1))/\Q0a W w'):=fun W hW=>by
  have h:=y9i W R H (.slice pa ps.length pc) (.slice (some ⟨w.heap.size+1,0,none⟩) st.length st.length) ps (Q4d ND NF (m'+1)) m' (SZ.drop (m'+1)) ((HP.kept (qR _) (jl.trans hW) (fun _ _ x=>x)).up (jl.trans hW).size) ⟨z0f (z0c ja.out (fun g hg=>hW.block g (ja.lt g hg).2 (fun x=>x))) (Nat.zero_le _),fun _ _=>rfl⟩ j8 hps (by rw[jp];exact hl)
   (by rw[jp,List.length_drop,jb.out,j4.out];omega)
   (fun j d hd=>by
    rw[List.getElem?_drop]at hd;have kc:m'+1+j<st.length:=by
     have:=(qS hd).1;rw[jb.out,j4.out]at this;exact this
    obtain⟨y,hy1,hy2⟩:=jf.out (m'+1+j) kc d hd;refine⟨Q74 y d,?_,rfl⟩;rw[y68 j4.out j2.out hm,hy2])
   (fun j d hd=>by
    rw[List.getElem?_drop]at hd;have:=jj.out _ _ hd;rw[List.length_drop,jb.out];omega)
   (by rw[jk];exact ki.out _)
  rw[jk]at h;exact h
 generalize szL (SZ.drop (m'+1)) (arF (Q0j ps) ND[m']) 1=z at SO hx2 jg;have ko:z<=1000000000000:=by
  have h1:=jj.out _ _ jg;have h2:=j4.out;omega
 have kf:=z45 Nd.cells_len ja.out j8;have k5:=hid (fun(W:World) (h:Q3p W w.heap.size (.slice (some ⟨w.heap.size+1,0,none⟩) st.length st.length) (Q4d ND NF (m'+1)))=>x51 (k:=4) Nd.cells_len (by omega) h (i:=m') (o:=3) j8 (by omega) (.int .i64 z) (Q74 ND[m'] z) (by rw[jk];rfl));have k4:Hid ((Q4d ND NF (m'+1)).set m' (Q74 ND[m'] z)=Q4d ND NF m'):=by
  have h:=x1j j4.out j2.out jz (D:=ND);have h2:NF[m']=Q74 ND[m'] z:=by
   rw[qE jz,qO]at hx2;rw[hx2,← hx1]
  rw[h2]at h;exact h
 generalize Q74 ND[m'] z=nd at k5 k4;clear hx1 hx2 jg jk kf;have kb:Hid (∀W:World,Q0a wr W->Q3p W w.heap.size (.slice (some ⟨w.heap.size+1,0,none⟩) st.length st.length) (Q4d ND NF (m'+1))/\(∃V,W.cell? ⟨w.heap.size+1,m'*4+3,none⟩=some V)/\W.frozen? ⟨w.heap.size+1,m'*4+3,none⟩=false):=fun W hW=>by
  have h:=z0c ja.out (fun g hg=>hW.block g (ja.lt g hg).2 (fun x=>x));have hr:NdsAt W (.slice (some ⟨w.heap.size+1,0,none⟩) st.length st.length) (Q4d ND NF (m'+1)):=⟨z0f h (Nat.zero_le _),fun x _=>rfl⟩;exact⟨h,⟨_,hr.cell m' 3 j8 (by omega)⟩,(z45 Nd.cells_len h j8 3 (by omega)).2⟩
 go_wp2_with (first
  |(go_at_call 59;refine(SO.out _ (mRf _ wr)).mono ?_;rintro e w3⟨rfl,hf3⟩;obtain⟨ho3,⟨V3,c3⟩,z3⟩:=kb.out w3 hf3;have je:=hid ho3;have j9:=hid hf3;clear ho3 hf3))
 go_roundw
 case rel =>
  refine⟨m',(m':Int)-1,rfl,rfl,by omega,(jl.trans j9.out).setCell (fun h=>by simp at h;omega) _,?_,?_⟩
  ·exact z0i (j9.at kg.out (fun x=>x)) (by simp)
  have h:=k5.out w3 je.out;rw[k4.out]at h;exact h
 exact k8
theorem z24{ps:List Pr}{R H:Int}{t:Nat}{ch ch':Int->Nat->Int}(h:∀X,0<=X->X<H->ch X t=ch' X t)(hps:∀p∈ps,Q29 R H p.syms):∀(f:Nat) (k:List Sy) (st:List St),Q29 R H k->gTo ps ch t f k st=gTo ps ch' t f k st
 |0,_,_,_=>rfl
 |f+1,[],_,_=>rfl
 |f+1,s::k,st,hk=>by
  have hs:=hk s (by simp);unfold gTo;cases hq:s.isH
  ·simp
  rw[hq]at hs;simp only[if_true]at hs;rw[h s.num hs.1 hs.2];simp only[Bool.true_eq_false,if_false];split
  ·cases hp:ps[(ch' s.num t).toNat]? with
   |none=>rfl
   |some p =>
    simp only[];refine z24 h hps f _ _ (fun x hx=>?_);rcases List.mem_append.1 hx with hx|hx
    ·exact hps p (List.mem_of_getElem? hp) x hx
    exact hk x (by simp[hx])
  rfl
theorem x8n{ps:List Pr}{R H:Int}{t:Nat}{ch:Int->Nat->Int}(hps:∀p∈ps,Q29 R H p.syms)(hR:R<=100)(hl:ps.length<=100):∀(f:Nat) (k:List Sy) (st:List St) (r:List Sy × List St),gTo ps ch t f k st=some r->Q29 R H k->(∀s∈st,0<=s.num/\s.num<=127) ->
  Q29 R H r.1/\∀s∈r.2,0<=s.num/\s.num<=127
 |0,_,_,_,h,_,_=>by cases h
 |f+1,[],st,r,h,hk,hs=>by cases h;exact⟨hk,hs⟩
 |f+1,s::k,st,r,h,hk,hs=>by
  have h1:=hk s (by simp);unfold gTo at h;split at h
  ·rename_i hq;rw[hq]at h1;simp only[qF,if_false]at h1;cases h;refine⟨fun x hx=>hk x (by simp[hx]),fun x hx=>?_⟩;rcases List.mem_append.1 hx with hx|hx
   ·exact hs x hx
   simp only[qM]at hx;subst hx;exact⟨h1.1,by dsimp only;omega⟩
  split at h
  ·rename_i h0;cases hp:ps[(ch s.num t).toNat]? with
   |none=>rw[hp]at h;cases h
   |some p =>
    rw[hp]at h;have j0:=(qS hp).1;refine x8n hps hR hl f _ _ r h (fun x hx=>?_) (fun x hx=>?_)
    ·rcases List.mem_append.1 hx with hx|hx
     ·exact hps p (List.mem_of_getElem? hp) x hx
     exact hk x (by simp[hx])
    rcases List.mem_append.1 hx with hx|hx
    ·exact hs x hx
    simp only[qM]at hx;subst hx;exact⟨h0,by dsimp only;omega⟩
  cases h
theorem x8z(B:Nat):∀n,szF B n=n*(1+6*B)
 |0=>by simp[szF]
 |n+1=>by rw[szF,x8z B n,Nat.add_mul,Nat.one_mul];omega
theorem x1a{H n:Nat}(hH:H<=8):Q2u H n<=n*335923+16124313:=by
 have h1:szN H<=335923:=v1x hH;unfold Q2u;rw[x8z];have h2:n*szN H<=n*335923:=Nat.mul_le_mul_left _ h1;have h3:H*(1+6*szN H)<=8*(1+6*335923):=Nat.mul_le_mul hH (by omega);omega
theorem z96{hs:List Hd}{ps:List Pr}{X:Int}{t:Nat}(h0:0<=X)(h8:X<8)(ht:t<9):chL (Q51 (ps.zip (Q0p hs ps)) 72) X t=chF hs ps X t:=by
 unfold chL;rw[if_pos ⟨h0,h8,ht⟩,x9f _ (by omega) ht,show((X.toNat:Nat):Int)=X by omega];rfl
structure Tab(ps:List Pr)(R H:Nat)(hs:List Hd):Prop where
 g:LLG ps R H (hN hs) (hF hs) (hO hs) (chF hs ps)
 ok:∀x∈hs,x.ok
 hR:R<=8
 hH:H<=8
 h0:0<H
 hl:ps.length<=20
variable {ps:List Pr}{R H:Nat}{hs:List Hd}
theorem Tab.syms(h:Tab ps R H hs):∀p∈ps,p.syms.length<=6/\Q29 R H p.syms:=fun p hp=>⟨h.g.mx p hp,h.g.tab.sy p hp⟩
theorem Tab.step(h:Tab ps R H hs){k:List Sy}{st:List St}{t:Nat}(ht:t<=R)(hk:Q4u (hN hs) (hF hs) (hO hs) R k)(hi:Q29 R H k)(hs1:∀s∈st,0<=s.num/\s.num<=127)(hw:(Q5w hs R k).getD t false=true) :
  gTo ps (chL (Q51 (ps.zip (Q0p hs ps)) 72)) t (Q2u H k.length) k st=some (Q7t ps hs H t k st)/\(Q7t ps hs H t k st).1.length<=k.length+48/\(Q7t ps hs H t k st).2.length<=st.length+(k.length*335923+16124313) /\
   Q4u (hN hs) (hF hs) (hO hs) R (Q7t ps hs H t k st).1/\Q29 R H (Q7t ps hs H t k st).1/\(∀s∈(Q7t ps hs H t k st).2,0<=s.num/\s.num<=127)/\st.length<=(Q7t ps hs H t k st).2.length:=by
 rw[z3v h.ok h.hR k hi t]at hw;obtain⟨r,h1,h2,h3⟩:=h.g.grows ht k hk hw st;have e:Q7t ps hs H t k st=r:=by unfold Q7t;rw[h1];rfl
 rw[e];have hR:=h.hR;have hH:=h.hH;have hl:=h.hl;have j0:=x8n (R:=R) (H:=H) (fun p hp=>(h.syms p hp).2) (by omega) (by omega) _ _ _ _ h1 hi hs1;have hc:=z24 (R:=R) (H:=H) (t:=t) (ch:=chL (Q51 (ps.zip (Q0p hs ps)) 72)) (ch':=chF hs ps) (fun X x0 x1=>z96 x0 (by omega) (by omega)) (fun p hp=>(h.syms p hp).2) (Q2u H k.length) k st hi;have he:=x1a (n:=k.length) hH;exact⟨by rw[hc];exact h1,by omega,by omega,h.g.stkTo _ _ _ _ h1 hk,j0.1,j0.2,y2y _ _ _ _ h1⟩
theorem Tab.start(h:Tab ps R H hs):Q4u (hN hs) (hF hs) (hO hs) R [⟨true,0⟩]/\Q29 R H [⟨true,0⟩]:=by
 refine⟨h.g.stk0,fun s hs=>?_⟩;simp only[qM]at hs;subst hs;have:=h.h0;simp;omega
end Go.Proofs.YtcpceafmlgaodaaGreat
