import Derived.Test.YtcpceafmlgaodaaGreatCrw1
import Derived.ChangeKeysEq
namespace Go.Proofs.YtcpceafmlgaodaaGreat
open Go.RowKit
set_option maxRecDepth 99999
set_option maxHeartbeats 0
set_option linter.all false
def bls(l:List Bool):List Value:=l.map Value.bool
def tkA(l:List Bool):Array Value:=(bls l).toArray
def zero9:List Bool:=[false,false,false,false,false,false,false,false,false]
def orL(a b:List Bool):List Bool:=List.zipWith (fun x y=>x||y) a b
theorem z04{a b:List Bool}(ha:a.length=9)(hb:b.length=9):(orL a b).length=9:=by simp[orL,ha,hb]
def Q2b(a:List Bool)(n:Int):List Bool:=if 0<=n/\n<9 then a.set n.toNat true else a
theorem z2m{a:List Bool}{n:Int}(ha:a.length=9):(Q2b a n).length=9:=by unfold Q2b;split<;>simpa using ha
def Q8y(a:List Bool)(n:Int):Bool:=if 0<=n then a.getD n.toNat false else false
def Q3m(a:List Bool):Nat->List Int
 |0=>[]
 |k+1=>if a.getD k false then Q3m a k++[(k:Int)] else Q3m a k
def Q28(a:List Bool):List Int:=Q3m a 9
theorem Q7s:(Tryz.prog.info? 130).map (·.size)=some 9:=by kernel_rfl
theorem Q0s{l:List Bool}(h:l.length=9):(Tryz.prog.info? 130).map (·.size)=some (tkA l).size:=by rw[Q7s];simp[tkA,bls,h]
theorem Q5j{l:List Bool}(h:l.length=9):(Tryz.prog.info? 130).map (·.size)=some (bls l).length:=by rw[Q7s];simp[tkA,bls,h]
theorem z0u{l:List Bool}(h:l.length=9):(tkA l).size=9:=by simp[tkA,bls,h]
theorem z1g(l:List Bool):(tkA l).all (·.oneCell')=true:=by
 unfold tkA;apply all_oneCell_toArray;intro v hv;simp[bls]at hv;rcases hv with⟨_,rfl⟩|⟨_,rfl⟩<;>rfl
theorem y5f(l:List Bool)(i:Nat)(c:Bool):(tkA l).setIfInBounds i (.bool c)=tkA (l.set i c):=by simp[tkA,bls,qDy]
def orK(k:Nat)(a b:List Bool):List Bool:=(orL a b).take k++a.drop k
theorem x3u{k:Nat}{a b:List Bool}(ha:a.length=9)(hb:b.length=9)(hk:k<=9):(orK k a b).length=9:=by simp[orK,orL,ha,hb];omega
theorem x6w(a b:List Bool):orK 0 a b=a:=by simp[orK]
theorem x6v{a b:List Bool}(ha:a.length=9)(hb:b.length=9):orK 9 a b=orL a b:=by
 unfold orK;rw[qCh (by rw[z04 ha hb];omega),qAi (by omega)];simp
theorem Q7a{α:Type}{l:List α}(h:l.length=9):∃a0 a1 a2 a3 a4 a5 a6 a7 a8,l=[a0,a1,a2,a3,a4,a5,a6,a7,a8]:=by
 rcases l with _|⟨a0,_|⟨a1,_|⟨a2,_|⟨a3,_|⟨a4,_|⟨a5,_|⟨a6,_|⟨a7,_|⟨a8,_|⟨a9,l⟩⟩⟩⟩⟩⟩⟩⟩⟩⟩<;>simp at h;exact⟨a0,a1,a2,a3,a4,a5,a6,a7,a8,rfl⟩
theorem v1q{k:Nat}{a b:List Bool}(ha:a.length=9)(hb:b.length=9)(hk:k<9):(orK k a b)[k]? = a[k]? := by
 obtain⟨a0,a1,a2,a3,a4,a5,a6,a7,a8,rfl⟩:=Q7a ha;obtain⟨b0,b1,b2,b3,b4,b5,b6,b7,b8,rfl⟩:=Q7a hb;rcases k with _|_|_|_|_|_|_|_|_|k;all_goals first|rfl|omega
theorem v0a{k:Nat}{a b:List Bool}(ha:a.length=9)(hb:b.length=9)(hk:k<9):(orK k a b).set k (a.getD k false||b.getD k false)=orK (k+1) a b:=by
 obtain⟨a0,a1,a2,a3,a4,a5,a6,a7,a8,rfl⟩:=Q7a ha;obtain⟨b0,b1,b2,b3,b4,b5,b6,b7,b8,rfl⟩:=Q7a hb;rcases k with _|_|_|_|_|_|_|_|_|k;all_goals first|rfl|omega
theorem z94{l:List Bool}{i:Nat}(h:i<l.length):(tkA l)[i]? = some (.bool (l.getD i false)):=by simp[tkA,bls,h]
theorem x99{k:Nat}{a b:List Bool}(ha:a.length=9)(hb:b.length=9)(hk:k<9):(orK k a b).getD k false=a.getD k false:=by
 simp only[qD,v1q ha hb hk]
theorem z1b(w:World)(a b:List Bool)(ha:a.length=9)(hb:b.length=9) :
  Calls Tryz.prog 54 #[.agg (tkA a),.agg (tkA b)] w fun e w'=>e=.returned (.agg (tkA (orL a b)))/\Q0a w w':=by
 have HA:=hid ha;have HB:=hid hb;clear ha hb;go_enter Tryz.func54,Tryz.ntmps54
 go_wp2;go_loopw [5,6] (fun x5 x6 wr=>∃(k:Nat),x6=.int .i64 k/\k<=9/\Q0a w wr/\wr.heap[w.heap.size]? = some (.cells (tkA (orK k a b)) 130 (0,0))/\wr.heap[w.heap.size+1]? = some (.cells (tkA b) 130 (0,0))/\wr.heap[w.heap.size+2]? = some (.cells (tkA zero9) 130 (0,0)))
   (fun _ x _=>10-(intOf x).toNat)
 case atStart =>
  refine⟨0,rfl,by omega,(((mRf _ w).alloc _).alloc _).alloc _,?_,?_,?_⟩
  ·rw[x6w];exact z1e _ _ _ _
  ·exact z06 _ _ _ _
  exact z00 _ _ _ _
 obtain⟨k,rfl,hk,hfr,hb0,hb1,hb2⟩:=hrel;have j0:=hid hb0;have j2:=hid hb1;have j1:=hid hb2;have j4:=hid (Q15 (B:=10) k (by omega));clear hb0 hb1 hb2;by_cases hlt:k<9
 ·have j6:k<a.length:=by rw[HA.out];exact hlt
  have j3:k<b.length:=by rw[HB.out];exact hlt
  have c0:wr.cell? ⟨w.heap.size,k,none⟩=some (.bool (a.getD k false)):=by
   rw[Q0b j0.out,z94 (by rw[x3u HA.out HB.out hk];exact hlt),x99 HA.out HB.out hlt]
  have c1:wr.cell? ⟨w.heap.size+1,k,none⟩=some (.bool (b.getD k false)):=by rw[Q0b j2.out,z94 j3]
  have z0:=Q0g j0.out;have HS:=hid (v0a HA.out HB.out hlt);generalize a.getD k false=ak at c0 HS;generalize b.getD k false=bk at c1 HS;clear j6 j3;cases ak;all_goals
   go_wp2;go_roundw
   case rel =>
    refine⟨k+1,by go_num,by omega,hfr.setCell (by simp) _,?_,?_,?_⟩
    ·rw[zhs j0.out,y5f];rw[← HS.out];rfl
    ·exact z0i j2.out (by simp)
    exact z0i j1.out (by simp)
   exact j4.out
 have j5:k=9:=by omega
 subst j5;have HL:Hid ((orK 9 a b).length=9):=hid (x3u HA.out HB.out hk);go_wp2_with (first
  |(refine wpList_load_row rfl 130 _ rfl w.heap.size rfl _ _ _ _ j0.out Tryz.underlying130 rfl (Q0s HL.out) ?_)
  |(refine wpList_store_row rfl 130 _ _ rfl (w.heap.size+2) _ rfl rfl _ _ j1.out (Q0s HL.out) (Q0k rfl (z0u HL.out)) (z1g _) ?_))
 refine bodyPost_ret (results_cell_row rfl _ _ (w.heap.size+2) 130 _ (0,0) _ rfl (setRow_heap _ _ _ _ _ _ j1.out) Tryz.underlying130 rfl (Q0s HL.out)) rfl ⟨?_,hfr.setRow (by simp) _⟩;rw[x6v HA.out HB.out]
abbrev Q5w(l:List Int):List Value:=l.map (Value.int .i64)
theorem infoI:(Tryz.prog.info? 3).map (fun i=>(i.zero,i.size,i.bytes))=some (some (.int .i64 0),1,8):=by kernel_rfl
theorem infoI':∃i,Tryz.prog.info? 3=some i/\i.zero=some (.int .i64 0)/\i.size=1/\i.bytes=8:=nfoE infoI
theorem x7o(w:World)(a:List Bool)(n:Int)(ha:a.length=9) :
  Calls Tryz.prog 85 #[.agg (tkA a),.int .i64 n] w fun e w'=>e=.returned (.bool (Q8y a n))/\Q0a w w':=by
 have HA:=hid ha;have HC:Hid (∀k:Nat,(w.alloc (.cells (tkA a) 130 (0,0))).cell? ⟨w.heap.size,k,none⟩=(tkA a)[k]?):=fun k=>Q0b (z0a _ _) k;generalize hv:Q8y a n=V;unfold Q8y at hv;by_cases h0:0<=n
 ·rw[qAb h0]at hv;obtain⟨k,rfl⟩:∃k:Nat,n=k:=⟨n.toNat,by omega⟩;rw[qAl]at hv;by_cases h9:k<9
  ·have c0:=HC.out k;rw[z94 (by omega),hv]at c0;clear hv ha;clear HC HA;have b1:decide ((0:Int)<=(k:Int))=true:=by simp
   have b2:decide ((k:Int)<9)=true:=by simp;omega
   have b3:decide (k<9)=true:=by simpa using h9
   have b4:(k:Int)<9:=by omega
   go_enter Tryz.func85,Tryz.ntmps85
   go_wp2;go_ret;exact⟨rfl,(mRf _ w).alloc _⟩
  have hV:V=false:=by rw[← hv];simp[qN (show a.length<=k by omega)]
  subst hV;clear hv ha HC;clear HA;have j0:¬((k:Int)<9):=by omega
  go_enter Tryz.func85,Tryz.ntmps85
  go_wp2;go_ret;exact⟨rfl,(mRf _ w).alloc _⟩
 rw[qAa h0]at hv;subst hv;clear ha HC;clear HA;go_enter Tryz.func85,Tryz.ntmps85
 go_wp2;go_ret;exact⟨rfl,(mRf _ w).alloc _⟩
theorem z95(w:World)(a:List Bool)(n:Int)(ha:a.length=9) :
  Calls Tryz.prog 56 #[.agg (tkA a),.int .i64 n] w fun e w'=>e=.returned (.agg (tkA (Q2b a n)))/\Q0a w w':=by
 have HA:=hid ha;have j4:Hid (((w.alloc (.cells (tkA a) 130 (0,0))).alloc (.cells (tkA zero9) 130 (0,0))).heap[w.heap.size]? = some (.cells (tkA a) 130 (0,0))):=heap_alloc2_old _ _ _;have j3:Hid (((w.alloc (.cells (tkA a) 130 (0,0))).alloc (.cells (tkA zero9) 130 (0,0))).heap[w.heap.size+1]? = some (.cells (tkA zero9) 130 (0,0))):=heap_alloc2_new _ _ _;by_cases h0:0<=n/\n<9
 ·have HW:Hid (Q2b a n=a.set n.toNat true):=by unfold Hid Q2b;rw[qAb h0]
  obtain⟨h0,h9⟩:=h0;obtain⟨k,rfl⟩:∃k:Nat,n=k:=⟨n.toNat,by omega⟩;have j5:k<9:=by omega
  rw[HW.out,qAl,← y5f a k true];have j0:Hid ((Tryz.prog.info? 130).map (·.size)=some ((tkA a).setIfInBounds k (.bool true)).size):=by unfold Hid;rw[y5f];exact Q0s (by simpa using ha)
  have j2:Hid (((tkA a).setIfInBounds k (.bool true)).size=9):=by unfold Hid;rw[y5f];exact z0u (by simpa using ha)
  have j1:Hid (((tkA a).setIfInBounds k (.bool true)).all (·.oneCell')=true):=by unfold Hid;rw[y5f];exact z1g _
  have c0:((w.alloc (.cells (tkA a) 130 (0,0))).alloc (.cells #[.bool false,.bool false,.bool false,.bool false,.bool false,.bool false,.bool false,.bool false,.bool false] 130 (0,0))).cell? ⟨w.heap.size,k,none⟩=some (.bool (a.getD k false)):=by
   rw[Q0b (heap_alloc2_old _ _ _) k,z94 (by omega)]
  have z0:((w.alloc (.cells (tkA a) 130 (0,0))).alloc (.cells #[.bool false,.bool false,.bool false,.bool false,.bool false,.bool false,.bool false,.bool false,.bool false] 130 (0,0))).frozen? ⟨w.heap.size,k,none⟩=false:=Q0g (heap_alloc2_old _ _ _) k;generalize a.getD k false=ak at c0;clear ha;go_enter Tryz.func56,Tryz.ntmps56
  go_wp2_with (first
   |(refine wpList_load_row rfl 130 _ rfl w.heap.size rfl _ _ _ _ (heap_alloc2_old _ _ _) Tryz.underlying130 rfl j0.out ?_)
   |(refine wpList_store_row rfl 130 _ _ rfl (w.heap.size+1) _ rfl rfl _ _ (heap_alloc2_new _ _ _) j0.out (Q0k rfl j2.out) j1.out ?_))
  refine bodyPost_ret (results_cell_row rfl _ _ (w.heap.size+1) 130 _ (0,0) _ rfl (setRow_heap _ _ _ _ _ _ (heap_alloc2_new _ _ _)) Tryz.underlying130 rfl j0.out) rfl ⟨rfl,?_⟩;exact(((mRf _ w).alloc _).alloc _).setRow (by simp) _
 have HW:Hid (Q2b a n=a):=by unfold Hid Q2b;rw[qAa h0]
 rw[HW.out];by_cases h00:0<=n
 ·have h9:9<=n:=by omega
  clear h0;have j0:Hid ((Tryz.prog.info? 130).map (·.size)=some (tkA a).size):=Q0s ha;have j2:Hid ((tkA a).size=9):=z0u ha;have j1:Hid ((tkA a).all (·.oneCell')=true):=z1g _;clear ha;go_enter Tryz.func56,Tryz.ntmps56
  go_wp2_with (first
   |(refine wpList_load_row rfl 130 _ rfl w.heap.size rfl _ _ _ _ j4.out Tryz.underlying130 rfl j0.out ?_)
   |(refine wpList_store_row rfl 130 _ _ rfl (w.heap.size+1) _ rfl rfl _ _ j3.out j0.out (Q0k rfl j2.out) j1.out ?_))
  refine bodyPost_ret (results_cell_row rfl _ _ (w.heap.size+1) 130 _ (0,0) _ rfl (setRow_heap _ _ _ _ _ _ j3.out) Tryz.underlying130 rfl j0.out) rfl ⟨rfl,?_⟩;exact(((mRf _ w).alloc _).alloc _).setRow (by simp) _
 clear h0;have j0:Hid ((Tryz.prog.info? 130).map (·.size)=some (tkA a).size):=Q0s ha;have j2:Hid ((tkA a).size=9):=z0u ha;have j1:Hid ((tkA a).all (·.oneCell')=true):=z1g _;clear ha;go_enter Tryz.func56,Tryz.ntmps56
 go_wp2_with (first
  |(refine wpList_load_row rfl 130 _ rfl w.heap.size rfl _ _ _ _ j4.out Tryz.underlying130 rfl j0.out ?_)
  |(refine wpList_store_row rfl 130 _ _ rfl (w.heap.size+1) _ rfl rfl _ _ j3.out j0.out (Q0k rfl j2.out) j1.out ?_))
 refine bodyPost_ret (results_cell_row rfl _ _ (w.heap.size+1) 130 _ (0,0) _ rfl (setRow_heap _ _ _ _ _ _ j3.out) Tryz.underlying130 rfl j0.out) rfl ⟨rfl,?_⟩;exact(((mRf _ w).alloc _).alloc _).setRow (by simp) _
theorem z9a(a:List Bool):∀k,(Q3m a k).length<=k
 |0=>by simp[Q3m]
 |k+1=>by unfold Q3m;have:=z9a a k;split<;>simp<;>omega
theorem y5g(w:World)(a:List Bool)(ha:a.length=9) :
  Calls Tryz.prog 55 #[.agg (tkA a)] w fun e w'=>∃v,e=.returned v/\Q0a w w'/\w'.ownsRow w.heap.size 3 1 v (Q28 a).length (Q5w (Q28 a)):=by
 obtain⟨i0,hi0,hz0,hz1,hz2⟩:=infoI';have HA:=hid ha;clear ha;go_enter Tryz.func55,Tryz.ntmps55
 go_wp2;go_loopw [3,4,5] (fun x3 x4 x5 wr=>∃(k:Nat),x5=.int .i64 k/\k<=9/\Q0a w wr/\wr.ownsRow w.heap.size 3 1 x3 (Q3m a k).length (Q5w (Q3m a k))/\wr.heap[w.heap.size]? = some (.cells (tkA a) 130 (0,0))/\(∀g,x3.ownBlock=some g->w.heap.size+1<=g))
   (fun _ _ x _=>10-(intOf x).toNat)
 case atStart =>
  refine⟨0,rfl,by omega,(mRf _ w).alloc _,World.ownsRow_nil _ _ _ _,?_,by simp[Value.ownBlock]⟩;exact z0a _ _
 obtain⟨k,rfl,hk,hfr,hown,hb0,hob⟩:=hrel;have j1:=hid hb0;have HO:=hid hown;have j0:=hid hob;have j9:=z9a a k;have ja:w.heap.size+1<=wr.heap.size:=by have:=z0j hb0;omega
 have j2:=hid (Q15 (B:=10) k (by omega));clear hb0 hob;by_cases hlt:k<9
 ·have j3:k<a.length:=by rw[HA.out];exact hlt
  have c0:wr.cell? ⟨w.heap.size,k,none⟩=some (.bool (a.getD k false)):=by rw[Q0b j1.out,z94 j3]
  have HS:Hid (Q3m a (k+1)=if a.getD k false then Q3m a k++[(k:Int)] else Q3m a k):=by unfold Hid;rw[Q3m]
  generalize a.getD k false=ak at c0 HS;obtain⟨a3,c3,hv3⟩:=z0d hown;subst hv3;clear hown j3;cases ak
  ·go_wp2;go_roundw
   case rel =>
    refine⟨k+1,by go_num,by omega,hfr,?_,j1.out,j0.out⟩;rw[HS.out];exact HO.out
   exact j2.out
  go_wp2_with (first
   |(at_builtin;refine z0g _ rfl _ _ 22 rfl w.heap.size 3 i0 _ 1 8 Tryz.underlying22 hi0 hz0 hz1 hz2 rfl (by decide) _ _ _ rfl (HO.alloc _) ⟨wr.heap.size,0,none⟩ 1 1 [.int .i64 k] rfl rfl (z0l rfl) (by intro u hu;simp at hu;subst hu;rfl) (by unfold maxLen;omega) (by omega) (by simp;omega) ?_))
  intro v' w2 hown2 hgrow hblk;have j5:Q0a w w2:=Mod.grown (S:=fun _=>False) (hfr.alloc _) hgrow (fun k hk hlt=>by have:=j0.out k hk;omega);have j6:Hid (w2.heap[w.heap.size]? = some (.cells (tkA a) 130 (0,0))):=by
   unfold Hid;rw[hgrow.block w.heap.size (by simp;omega) (fun e=>by have:=j0.out _ e.symm;omega)];exact z0b j1.out
  have j7:Hid (∀g,v'.ownBlock=some g->w.heap.size+1<=g):=fun g hg=>by
   rcases hblk g hg with h|h
   ·exact j0.out g h
   first|omega|(simp at h;omega)
  have j4:=hid hown2;clear hown2 hgrow hblk;go_wp2;go_roundw
  case rel =>
   refine⟨k+1,by go_num,by omega,j5,?_,j6.out,j7.out⟩;rw[HS.out];simp only[qBb];rw[qP,qAf,show Q5w (Q3m a k++[(k:Int)])=Q5w (Q3m a k)++[.int .i64 k] from by simp];exact j4.out
  exact j2.out
 have j8:k=9:=by omega
 subst j8;clear hown;go_wp2;go_ret;exact⟨_,rfl,hfr,HO.out⟩
theorem isAggB(w:World):(isAgg 4).run Tryz.prog w=.ok false w:=by
 unfold isAgg;rw[Sem.run_bind,run_underlying Tryz.underlying4];rfl
theorem isAggT(w:World):(isAgg 130).run Tryz.prog w=.ok true w:=by
 unfold isAgg;rw[Sem.run_bind,run_underlying Tryz.underlying130];rfl
theorem cellsB:Tryz.prog.cellsOf 4=1:=by kernel_rfl
theorem sizeOfTk(w:World):(sizeOf 130).run Tryz.prog w=.ok 9 w:=by
 have h:=Q7s;cases hq:Tryz.prog.info? 130 with
 |none=>simp[hq]at h
 |some i=>simp[hq]at h;simp[sizeOf,typeInfo,hq,h]
theorem Q80(xs:Array Value)(i:Nat)(v:Value)(h:xs[i]? = some v)(w:World):(part 4 xs i).run Tryz.prog w=.ok v w:=by
 simp[part,isAggB,h]
theorem Q9p(d:Nat)(a b:List Bool)(ha:a.length=9)(hb:b.length=9)(w:World):∀is:List Nat,(∀i∈is,i<9) ->
  (Op.eqItems (d+1) 4 1 (tkA a) (tkA b) is).run Tryz.prog w=.ok (is.all fun i=>a.getD i false==b.getD i false) w
 | [],_=>by simp[Op.eqItems]
 |i::is,h=>by
  have h1:=h i (by simp);have ih:=Q9p d a b ha hb w is (fun j hj=>h j (by simp[hj]));simp only[Op.eqItems,Sem.run_bind,Nat.mul_one,Q80 _ _ _ (z94 (show i<a.length by omega)),Q80 _ _ _ (z94 (show i<b.length by omega)),Result.andThen_ok,run_equalIn_bool w d 4 _ _ Tryz.underlying4];cases hq:(a.getD i false==b.getD i false)
  ·simp only[Bool.not_false,qBb,Sem.run_pure,qCp,hq,qCi]
  simp only[Bool.not_true,qF,qAp,ih,qCp,hq,qBa]
theorem all9{a b:List Bool}(ha:a.length=9)(hb:b.length=9):((List.range 9).all fun i=>a.getD i false==b.getD i false)=(a==b):=by
 obtain⟨a0,a1,a2,a3,a4,a5,a6,a7,a8,rfl⟩:=Q7a ha;obtain⟨b0,b1,b2,b3,b4,b5,b6,b7,b8,rfl⟩:=Q7a hb;rfl
theorem eqTok(d:Nat)(a b:List Bool)(ha:a.length=9)(hb:b.length=9)(w:World):(Op.equalIn (d+2) 130 (.agg (tkA a)) (.agg (tkA b))).run Tryz.prog w=.ok (a==b) w:=by
 have h:=Q7s;obtain⟨i,hi⟩:∃i,Tryz.prog.info? 4=some i:=by
  cases hq:Tryz.prog.info? 4 with
  |none =>
   have:(Tryz.prog.info? 4).isSome=true:=by kernel_rfl
   rw[hq]at this;cases this
  |some i=>exact⟨i,rfl⟩
 rw[run_equalIn_array w (d+1) _ _ Tryz.underlying130 hi,cellsB,Q9p d a b ha hb w _ (fun i hi=>by simpa using hi),all9 ha hb]
structure Hd where
 nul:Bool
 rch:Bool
 fru:Bool
 fi:List Bool
 fo:List Bool
structure Hd.ok(h:Hd):Prop where
 fi:h.fi.length=9
 fo:h.fo.length=9
def Hd.cells(h:Hd):List Value:=.bool h.nul::.bool h.rch::.bool h.fru::(bls h.fi++bls h.fo)
def hdA(h:Hd):Array Value:=h.cells.toArray
def zeroHd:Hd:=⟨false,false,false,zero9,zero9⟩
def hdEq(a b:Hd):Bool:=a.nul==b.nul&&(a.rch==b.rch&&(a.fru==b.fru&&(a.fi==b.fi&&a.fo==b.fo)))
theorem z72{a b:Hd}:hdEq a b=true↔a=b:=by
 obtain⟨a1,a2,a3,a4,a5⟩:=a;obtain⟨b1,b2,b3,b4,b5⟩:=b;simp[hdEq]
theorem Hd.cells_len{h:Hd}(k:h.ok):h.cells.length=21:=by simp[Hd.cells,bls,k.fi,k.fo]
theorem z07{h:Hd}(k:h.ok):(hdA h).size=21:=by simp[hdA,Hd.cells_len k]
theorem szHd:(Tryz.prog.info? 179).map (·.size)=some 21:=by kernel_rfl
theorem Q1n{h:Hd}(k:h.ok):(Tryz.prog.info? 179).map (·.size)=some (hdA h).size:=by rw[z07 k];exact szHd
theorem szHdL{h:Hd}(k:h.ok):(Tryz.prog.info? 179).map (·.size)=some h.cells.length:=by rw[Hd.cells_len k];exact szHd
theorem z1t(h:Hd):(hdA h).all (·.oneCell')=true:=by
 unfold hdA;apply all_oneCell_toArray;intro v hv;simp[Hd.cells,bls]at hv;rcases hv with rfl|rfl|rfl|(⟨_,rfl⟩|⟨_,rfl⟩)|(⟨_,rfl⟩|⟨_,rfl⟩)<;>rfl
theorem y0v(h:Hd):(hdA h)[0]? = some (.bool h.nul):=by simp[hdA,Hd.cells]
theorem y31(h:Hd):(hdA h)[1]? = some (.bool h.rch):=by simp[hdA,Hd.cells]
theorem y32(h:Hd):(hdA h)[2]? = some (.bool h.fru):=by simp[hdA,Hd.cells]
theorem v1e{h:Hd}(k:h.ok):(hdA h).extract 3 12=tkA h.fi:=by
 obtain⟨n,r,f,fi,fo⟩:=h;obtain⟨a0,a1,a2,a3,a4,a5,a6,a7,a8,e⟩:=Q7a k.fi;obtain⟨b0,b1,b2,b3,b4,b5,b6,b7,b8,e2⟩:=Q7a k.fo;dsimp only at e e2;subst e;subst e2;rfl
theorem v1f{h:Hd}(k:h.ok):(hdA h).extract 12 21=tkA h.fo:=by
 obtain⟨n,r,f,fi,fo⟩:=h;obtain⟨a0,a1,a2,a3,a4,a5,a6,a7,a8,e⟩:=Q7a k.fi;obtain⟨b0,b1,b2,b3,b4,b5,b6,b7,b8,e2⟩:=Q7a k.fo;dsimp only at e e2;subst e;subst e2;rfl
theorem partT(h:Hd)(o:Nat)(l:List Bool)(k:h.ok)(hx:(hdA h).extract o (o+9)=tkA l)(ho:o+9<=21)(w:World):(part 130 (hdA h) o).run Tryz.prog w=.ok (.agg (tkA l)) w:=by
 simp[part,isAggT,sizeOfTk,hx,z07 k,ho]
theorem stood154:Tryz.prog.stoodInHeld 179=false:=by kernel_rfl
theorem guardHd:Tryz.prog.eqGuardType Tryz.prog.depth 179=false:=by kernel_rfl
theorem eqHd(d:Nat)(a b:Hd)(ha:a.ok)(hb:b.ok)(w:World):(Op.equalIn (d+4) 179 (.agg (hdA a)) (.agg (hdA b))).run Tryz.prog w=.ok (hdEq a b) w:=by
 rw[run_equalIn_struct w (d+3) _ _ _ (by kernel_rfl) stood154];have hf : ((Tryz.prog.fieldsOf 179).toList.map fun f => (f.name, f.type, f.offset)) = [("nullable", 4, 0), ("reached", 4, 1), ("fruitful", 4, 2), ("first", 130, 3), ("follow", 130, 12)] := by kernel_rfl
 generalize(Tryz.prog.fieldsOf 179).toList=fs at hf;rcases fs with _|⟨f0,_|⟨f1,_|⟨f2,_|⟨f3,_|⟨f4,_|⟨f5,fs⟩⟩⟩⟩⟩⟩<;>simp at hf;obtain⟨⟨n0,t0,o0⟩,⟨n1,t1,o1⟩,⟨n2,t2,o2⟩,⟨n3,t3,o3⟩,⟨n4,t4,o4⟩⟩:=hf;simp only[Op.eqFields,n0,t0,o0,n1,t1,o1,n2,t2,o2,n3,t3,o3,n4,t4,o4];simp only[Sem.run_bind,Sem.run_ite,Q80 _ _ _ (y0v a),Q80 _ _ _ (y0v b),Q80 _ _ _ (y31 a),Q80 _ _ _ (y31 b),Q80 _ _ _ (y32 a),Q80 _ _ _ (y32 b),
  partT a 3 _ ha (v1e ha) (by omega),partT b 3 _ hb (v1e hb) (by omega),partT a 12 _ ha (v1f ha) (by omega),partT b 12 _ hb (v1f hb) (by omega),Result.andThen_ok,
  run_equalIn_bool w (d+2) 4 _ _ Tryz.underlying4,eqTok (d+1) a.fi b.fi ha.fi hb.fi,eqTok (d+1) a.fo b.fo ha.fo hb.fo,Sem.run_pure]
 unfold hdEq;cases a.nul==b.nul<;>cases a.rch==b.rch<;>cases a.fru==b.fru<;>cases a.fi==b.fi<;>cases a.fo==b.fo<;>simp
structure Sy where
 isH:Bool
 num:Int
def Sy.cells(s:Sy):List Value:=[.bool s.isH,.int .i64 s.num]
structure Pr where
 head:Int
 syms:List Sy
structure PV where
 pr:Pr
 vs:Value
def PV.cells(p:PV):List Value:=[.int .i64 p.pr.head,p.vs]
def Q5z(w:World)(B:Nat)(v:Value)(l:List Sy):Prop :=
 ∃ao cap,v=.slice ao l.length cap/\l.length<=cap/\cap<=maxLen/\∀i (h:i<l.length),∃g o,ao=some ⟨g,o,none⟩/\g<B/\w.rangeAt g (o+i*2) (l[i]).cells
theorem z0t{w w':World}{g o:Nat}{cs:List Value}(h:w.rangeAt g o cs)(hb:w'.heap[g]? = w.heap[g]?):w'.rangeAt g o cs:=fun j v hj=>by
 have:=h j v hj;simpa [World.cell?,hb]using this
theorem Q5z.kept{S:Nat->Prop}{w w':World}{B:Nat}{v:Value}{l:List Sy}(h:Q5z w B v l)(hB:B<=w.heap.size)(hm:Mod S w w')(hs:∀k,k<B->¬S k):Q5z w' B v l:=by
 obtain⟨ao,cap,h1,h2,h3,h4⟩:=h;refine⟨ao,cap,h1,h2,h3,fun i hi=>?_⟩;obtain⟨g,o,h5,h6,h7⟩:=h4 i hi;exact⟨g,o,h5,h6,z0t h7 (hm.block g (by omega) (hs g h6))⟩
structure Q3c(w:World)(B:Nat)(v:Value)(ps:List PV):Prop where
 row:Q2e PV.cells 2 118 w v ps
 lt:∀g,v.ownBlock=some g->g<B
 syms:∀p∈ps,Q5z w B p.vs p.pr.syms
theorem Q3c.kept{S:Nat->Prop}{w w':World}{B:Nat}{v:Value}{l:List PV}(h:Q3c w B v l)(hB:B<=w.heap.size)(hm:Mod S w w')(hs:∀k,k<B->¬S k):Q3c w' B v l :=
 ⟨h.row.kept hm (fun b hb=>hs b (h.lt b hb)),h.lt,fun p hp=>(h.syms p hp).kept hB hm hs⟩
structure FA(w:World)(b:Nat)(R H:Int)(vp vh:Value)(ps:List PV)(hs:List Hd):Prop where
 blk:w.heap[b]? = some (.cells #[.int .i64 R,.int .i64 H,vp,vh] 138 (0,0))
 prs:Q3c w b vp ps
 own:w.ownsRow (b+1) 179 21 vh hs.length (Q00 Hd.cells hs)
 ok:∀h∈hs,h.ok
variable {w w':World}{b:Nat}{R H:Int}{vp vh:Value}{ps:List PV}{hs:List Hd}
theorem FA.fresh(h:FA w b R H vp vh ps hs)(hm:Q0a w w'):FA w' b R H vp vh ps hs :=
 ⟨hm.at h.blk (fun x=>x),h.prs.kept (qEa (z0j h.blk)) hm (fun _ _ x=>x),z0c h.own (fun g hg=>hm.block g (h.own.lt g hg).2 (fun x=>x)),h.ok⟩
theorem FA.cell(h:FA w b R H vp vh ps hs)(o:Nat):w.cell? ⟨b,o,none⟩=#[.int .i64 R,.int .i64 H,vp,vh][o]? := Q0b h.blk o
theorem FA.row(h:FA w b R H vp vh ps hs):Q2e Hd.cells 21 179 w vh hs:=⟨z0f h.own (qBg _),fun x hx=>Hd.cells_len (h.ok x hx)⟩
def Q1i(hs:List Hd)(n:Int):Hd:=if 0<=n then(hs[n.toNat]?).getD zeroHd else zeroHd
theorem z2n:zeroHd.ok:=⟨rfl,rfl⟩
theorem z0k{hs:List Hd}(h:∀x∈hs,x.ok)(n:Int):(Q1i hs n).ok:=by
 unfold Q1i;split
 ·cases hq:hs[n.toNat]? with
  |none=>exact z2n
  |some x=>exact h x (qAd hq)
 exact z2n
def Q7m(hs:List Hd)(n:Int)(h:Hd):List Hd:=if 0<=n then hs.set n.toNat h else hs
def Q6v(hs:List Hd)(n:Int)(h:Hd):Bool:=if 0<=n then(match hs[n.toNat]? with|some x=>!hdEq x h|none=>false) else false
theorem z4i(w:World)(b:Nat)(R H:Int)(vp vh:Value)(ps:List PV)(hs:List Hd)(n:Int)(h:FA w b R H vp vh ps hs) :
  Calls Tryz.prog 84 #[Q25 b,.int .i64 n] w fun e w'=>e=.returned (.agg (hdA (Q1i hs n)))/\Q0a w w':=by
 have k3:=h.cell 3;simp at k3;have HF:=hid h;have zb:Hid ((w.alloc (.cells (hdA zeroHd) 179 (0,0))).heap[w.heap.size]? = some (.cells (hdA zeroHd) 179 (0,0))):=z0a _ _;have hb:=z0j h.blk;have j1:(w.alloc (.cells #[.bool false,.bool false,.bool false,.bool false,.bool false,.bool false,.bool false,.bool false,.bool false,.bool false,.bool false,.bool false,.bool false,.bool false,.bool false,.bool false,.bool false,.bool false,.bool false,.bool false,.bool false] 179 (0,0))).cell? ⟨b,3,none⟩=some vh:=by
  rw[Q0b (z0b h.blk) 3];rfl
 obtain⟨ao,cap,hv⟩:=z0d h.own;subst hv;by_cases h0:0<=n
 ·obtain⟨k,rfl⟩:∃k:Nat,n=k:=⟨n.toNat,by omega⟩;by_cases hk:k<hs.length
  ·have e1:Hid (Q1i hs k=hs[k]):=by unfold Hid Q1i;rw[qAb h0];simp[hk]
   obtain⟨g,cap',hv'⟩:=Joins.ownsRow_form h.own (by omega);rw[qI]at hv';obtain⟨rfl,_,rfl⟩:=hv';have RG:=hid ((h.fresh ((mRf _ w).alloc (.cells (hdA zeroHd) 179 (0,0)))).row.range k hk);have j0:=hid (h.ok hs[k] (by simp));rw[e1.out];have b1:decide ((k:Int)<0)=false:=by simp
   have b2:decide ((hs.length:Int)<=(k:Int))=false:=by simp;omega
   have b3:decide (hs.length<=k)=false:=by simp;omega
   have b4:(k:Int)<(hs.length:Int):=by omega
   clear h e1;go_enter Tryz.func84,Tryz.ntmps84
   go_wp2_with (first
    |(refine wpList_load_mid rfl 179 _ rfl g (k*21) rfl hs[k].cells _ RG.out Tryz.underlying179 rfl (szHdL j0.out) ?_)
    |(refine wpList_store_row rfl 179 _ _ rfl w.heap.size (hdA hs[k]) rfl rfl _ _ zb.out (Q1n j0.out) (Q0k rfl (z07 j0.out)) (z1t _) ?_))
   refine bodyPost_ret (results_cell_row rfl _ _ w.heap.size 179 _ (0,0) _ rfl (setRow_heap _ _ _ _ _ _ zb.out) Tryz.underlying179 rfl (Q1n j0.out)) rfl ⟨rfl,?_⟩;exact((mRf _ w).alloc _).setRow (by simp) _
  have e1:Q1i hs k=zeroHd:=by unfold Q1i;rw[qAb h0];simp[hk]
  rw[e1];have b1:decide ((k:Int)<0)=false:=by simp
  have b2:decide ((hs.length:Int)<=(k:Int))=true:=by simp;omega
  have b3:decide (hs.length<=k)=true:=by simp;omega
  have b4:¬(k:Int)<(hs.length:Int):=by omega
  clear h e1;go_enter Tryz.func84,Tryz.ntmps84
  go_wp2_with (first
   |(refine wpList_store_row rfl 179 _ _ rfl w.heap.size (hdA zeroHd) rfl rfl _ _ zb.out (Q1n z2n) rfl (z1t _) ?_))
  refine bodyPost_ret (results_cell_row rfl _ _ w.heap.size 179 _ (0,0) _ rfl (setRow_heap _ _ _ _ _ _ zb.out) Tryz.underlying179 rfl (Q1n z2n)) rfl ⟨rfl,?_⟩;exact((mRf _ w).alloc _).setRow (by simp) _
 have e1:Q1i hs n=zeroHd:=by unfold Q1i;rw[qAa h0]
 rw[e1];have b1:decide (n<0)=true:=by simp;omega
 clear h e1;go_enter Tryz.func84,Tryz.ntmps84
 go_wp2_with (first
  |(refine wpList_store_row rfl 179 _ _ rfl w.heap.size (hdA zeroHd) rfl rfl _ _ zb.out (Q1n z2n) rfl (z1t _) ?_))
 refine bodyPost_ret (results_cell_row rfl _ _ w.heap.size 179 _ (0,0) _ rfl (setRow_heap _ _ _ _ _ _ zb.out) Tryz.underlying179 rfl (Q1n z2n)) rfl ⟨rfl,?_⟩;exact((mRf _ w).alloc _).setRow (by simp) _
def ldH(v:Value):Sem Value:=Instr.loadAt 179 v
theorem y8a(v:Value):Instr.loadAt 179 v=ldH v:=rfl
def stH(p v:Value):Sem Unit:=Instr.storeAt 179 p v
theorem x7j(p v:Value):Instr.storeAt 179 p v=stH p v:=rfl
def Q42:Array Value->Nat->List Value->Array Value
 |cur,_,[]=>cur
 |cur,o,v::vs=>Q42 (cur.setIfInBounds o v) (o+1) vs
theorem z5x:∀(vs:List Value) (cur:Array Value) (o:Nat),(Q42 cur o vs).size=cur.size
 | [],_,_=>rfl
 |v::vs,cur,o=>by rw[Q42,z5x vs];simp
theorem z9w:∀(vs:List Value) (cur:Array Value) (o j:Nat),o+vs.length<=cur.size->(Q42 cur o vs)[j]? = if o<=j/\j<o+vs.length then vs[j-o]? else cur[j]?
 | [],cur,o,j,h=>by rw[Q42,qAa (by simp only[qDp];omega)]
 |v::vs,cur,o,j,h=>by
  simp only[qAy]at h;rw[Q42,z9w vs _ _ _ (by simp;omega)];by_cases h1:o+1<=j/\j<o+1+vs.length
  ·rw[qAb h1,qAb (by simp;omega)];have:j-o=(j-(o+1))+1:=by omega
   rw[this];simp
  rw[qAa h1,qDv];by_cases h2:o=j
  ·subst h2;rw[qAb rfl,qAb (by omega),qAb (by simp)];simp
  rw[qAa h2,qAa (by simp;omega)]
theorem z0p:∀(vs:List Value) (w:World) (g o:Nat) (c:Array Value) (e:TypeId) (f:Nat × Nat),w.heap[g]? = some (.cells c e f)->(w.setCells g o vs).heap[g]? = some (.cells (Q42 c o vs) e f)
 | [],_,_,_,_,_,_,h=>h
 |v::vs,w,g,o,c,e,f,h=>by
  rw[World.setCells,Q42];exact z0p vs _ g (o+1) _ e f (zhs h o v)
theorem Mod.setCells{S:Nat->Prop}{a:World}{g:Nat}(hp:g<a.heap.size->S g):∀(vs:List Value) (w:World) (o:Nat),Mod S a w->Mod S a (w.setCells g o vs)
 | [],_,_,h=>h
 |v::vs,w,o,h=>Mod.setCells hp vs _ (o+1) (h.setCell (p:=⟨g,o,none⟩) hp v)
theorem x53{hs:List Hd}{h:Hd}{k:Nat}(hok:∀x∈hs,x.ok)(hh:h.ok)(hk:k<hs.length)(j:Nat) :
  (Q00 Hd.cells (hs.set k h))[j]? = if k*21<=j/\j<k*21+21 then h.cells[j-k*21]? else(Q00 Hd.cells hs)[j]? := by
 have hw:∀x∈hs,x.cells.length=21:=fun x hx=>Hd.cells_len (hok x hx);have j0:∀x∈hs.set k h,x.cells.length=21:=fun x hx=>by
  rcases qEe hx with h1|h1
  ·exact hw x h1
  rw[h1];exact Hd.cells_len hh
 have l1:=z2z Hd.cells 21 hw;have l2:=z2z Hd.cells 21 j0;rw[qBd]at l2;by_cases hj:j<hs.length*21
 ·have hq:j / 21<hs.length:=by omega
  have hr:j % 21<21:=Nat.mod_lt _ (by omega);have e:j=j / 21*21+j % 21:=by omega
  have a1:=z5r Hd.cells 21 hw (j / 21) (j % 21) hq hr;have a2:=z5r Hd.cells 21 j0 (j / 21) (j % 21) (by simpa using hq) hr;rw[← e]at a1 a2;rw[a1,a2,List.getElem_set];by_cases hk2:k=j / 21
  ·rw[qAb hk2,qAb (by omega)];congr 1;omega
  rw[qAa hk2,qAa (by omega)]
 rw[qN (by omega),qAa (by omega),qN (by omega)]
variable {w w':World}{b:Nat}{R H:Int}{vp vh:Value}{ps:List PV}{hs:List Hd}
theorem FA.put(h:FA w b R H vp vh ps hs){g n cap:Nat}(hv:vh=.slice (some ⟨g,0,none⟩) n cap){k:Nat}(hk:k<hs.length){x:Hd}(hx:x.ok) :
  FA (w.setCells g (k*21) x.cells) b R H vp vh ps (hs.set k x)/\Mod (fun k=>vh.ownBlock=some k) w (w.setCells g (k*21) x.cells):=by
 have hm:Mod (fun k=>vh.ownBlock=some k) w (w.setCells g (k*21) x.cells):=Mod.setCells (fun _=>by rw[hv];rfl) _ w _ (mRf _ _);have j5:=(h.own.lt g (by rw[hv];rfl));refine⟨⟨?_,?_,?_,?_⟩,hm⟩
 ·refine hm.at h.blk ?_;rw[hv];simp[Value.ownBlock];omega
 ·refine h.prs.kept (qEa (z0j h.blk)) hm ?_;intro k hk;rw[hv];simp[Value.ownBlock];omega
 ·obtain⟨h1,h2⟩:=h.own;rcases h2 with⟨h2,_⟩|⟨g',cap',cur,e1,e2,e3,e4,e5,e6,e7⟩
  ·rw[hv]at h2;cases h2
  have j0:=hv.symm.trans e1;rw[qI]at j0;obtain⟨eg,rfl,rfl⟩:=j0;have j1:g=g':=by simpa using eg
  subst j1;have j3:∀y∈hs.set k x,y.cells.length=21:=fun y hy=>by
   rcases qEe hy with h1|h1
   ·exact Hd.cells_len (h.ok y h1)
   rw[h1];exact Hd.cells_len hx
  have l2:=z2z Hd.cells 21 j3;have j4:=Hd.cells_len hx;rw[qBd]at l2 ⊢;refine⟨l2,.inr ⟨g,cap,Q42 cur (k*21) x.cells,e1,e2,z0p _ _ _ _ _ _ _ e3,e4,e5,by rw[z5x];exact e6,?_⟩⟩;apply qDf;intro j;rw[x53 h.ok hx hk,← e7];have j2:hs.length*21<=cap*21:=qBv _ e4;by_cases hj:j<hs.length*21
  ·rw[qCg hj,qCg hj,qDl,qDl,z9w _ _ _ _ (by omega),j4];simp
  rw[qN (by simp;omega),qAa (by omega),qN (by simp;omega)]
 intro y hy;rcases qEe hy with h1|h1
 ·exact h.ok y h1
 rw[h1];exact hx
theorem FA.there(h:FA w b R H vp vh ps hs){g n cap:Nat}(hv:vh=.slice (some ⟨g,0,none⟩) n cap){k:Nat}(hk:k<hs.length):w.there g (k*21) 21:=by
 intro j hj;have hr:=h.row;subst hv;have hc:=hr.cell k j hk hj;have j0:=Hd.cells_len (h.ok hs[k] (by simp));refine⟨by rw[hc];simp[j0,hj],?_⟩;obtain⟨_,h2⟩:=h.own;rcases h2 with⟨h2,_⟩|⟨g',cap',cur,e1,e2,e3,_⟩
 ·cases h2
 rw[qI]at e1;obtain⟨eg,_,_⟩:=e1;have j1:g=g':=by simpa using eg
 subst j1;exact Q0g e3 _
theorem z88{w:World}{g o:Nat}{h:Hd}(k:h.ok)(hr:w.rangeAt g o h.cells):(ldH (.pointer (some ⟨g,o,none⟩))).run Tryz.prog w=.ok (.agg (hdA h)) w :=
 run_loadAt_mid w g o _ _ _ hr Tryz.underlying179 rfl (szHdL k)
theorem z5w(w:World)(h:Hd)(t:TypeId):(w.alloc (.cells (hdA h) t (0,0))).rangeAt w.heap.size 0 h.cells:=fun j v hj=>by
 rw[Q0b (z0a _ _),qBi];simpa [hdA]using hj
theorem Q32(w:World)(n:Nat):Q0a w (w.drewN n):=⟨rfl,rfl,rfl,qR _,fun _ _ _=>rfl⟩
attribute [local go_sem ↓] y8a x7j
theorem v1t(w:World)(b:Nat)(R H:Int)(vp vh:Value)(ps:List PV)(hs:List Hd)(k:Nat)(x:Hd)(hx:x.ok)(h:FA w b R H vp vh ps hs)(hk:k<hs.length) :
  Calls Tryz.prog 121 #[Q25 b,.int .i64 k,.agg (hdA x)] w fun e w'=>e=.returned (.bool (!hdEq hs[k] x))/\FA w' b R H vp vh ps (hs.set k x)/\Mod (fun k=>vh.ownBlock=some k) w w':=by
 have hb:=z0j h.blk;obtain⟨g,cap,hv⟩:=Joins.ownsRow_form h.own (by omega);have k3:=h.cell 3;simp at k3;have j0:=h.fresh ((mRf _ w).alloc (.cells (hdA x) 179 (0,0)));subst hv;have j7:(w.alloc (.cells (hdA x) 179 (0,0))).cell? ⟨b,3,none⟩=some (.slice (some ⟨g,0,none⟩) hs.length cap):=by
  rw[Q0b j0.blk 3];rfl
 have l1:∀n,(ldH (.pointer (some ⟨g,k*21,none⟩))).run Tryz.prog ((w.alloc (.cells (hdA x) 179 (0,0))).drewN n)=.ok (.agg (hdA hs[k])) ((w.alloc (.cells (hdA x) 179 (0,0))).drewN n):=fun n =>
  z88 (h.ok hs[k] (by simp)) (z0t (j0.row.range k hk) rfl)
 have l2:∀n,(ldH (.pointer (some ⟨w.heap.size,0,none⟩))).run Tryz.prog ((w.alloc (.cells (hdA x) 179 (0,0))).drewN n)=.ok (.agg (hdA x)) ((w.alloc (.cells (hdA x) 179 (0,0))).drewN n):=fun n =>
  z88 hx (z0t (z5w w x _) rfl)
 have q1:∀w,(Op.equalIn 10000 179 (.agg (hdA hs[k])) (.agg (hdA x))).run Tryz.prog w=.ok (hdEq hs[k] x) w:=fun w=>eqHd 9996 hs[k] x (h.ok hs[k] (by simp)) hx w;have g1:=guardHd;have b1:decide ((k:Int)<0)=false:=by simp
 have b2:decide ((hs.length:Int)<=(k:Int))=false:=by simp;omega
 have b3:decide (hs.length<=k)=false:=by simp;omega
 have b4:(k:Int)<(hs.length:Int):=by omega
 have HF:=hid h;have j2:=hid j0;have HX:=hid hx;have j4:Hid (hdEq hs[k] x=true->hs[k]=x):=hid z72.1;clear h j0 hx;generalize hdEq hs[k] x=qq at q1 j4;go_enter Tryz.func121,Tryz.ntmps121
 go_wp2_with fail
 go_quiet (fail);cases qq
 ·generalize hW:World.drewN _ _=W;have j5:Q0a w W:=by rw[← hW];exact(mRf _ w).alloc _ |>.trans (Q32 _ _)
  have j1:FA W b R H vp (.slice (some ⟨g,0,none⟩) hs.length cap) ps hs:=by rw[← hW];exact j2.fresh (Q32 _ _)
  have k4:=j1.cell 3;simp at k4;have l3:(ldH (.pointer (some ⟨w.heap.size,0,none⟩))).run Tryz.prog W.drew=.ok (.agg (hdA x)) W.drew:=by
   refine z88 HX.out ?_;rw[← hW];exact z0t (z5w w x _) rfl
  have s1:(stH (.pointer (some ⟨g,k*21,none⟩)) (.agg (hdA x))).run Tryz.prog W.drew=.ok () (W.drew.setCells g (k*21) x.cells) :=
   run_storeAt_mid W.drew g (k*21) _ _ (by rw[z07 HX.out];exact(j1.fresh (Mod.drew (mRf _ W))).there rfl hk) (Q1n HX.out) (z1t x)
  have j3:=hid ((j1.fresh (Mod.drew (mRf _ W))).put rfl hk HX.out);have j6:=hid j5;clear j1 j5 l1 l2 k3 j7 hW;go_wp2;go_region;all_goals
   go_wp2;go_ret;refine⟨rfl,j3.1,?_⟩;exact Mod.trans (j6.mono (fun _ _ x=>x.elim)) (Mod.trans (Mod.drew (mRf _ W)) j3.2)
 go_wp2;go_ret;refine⟨rfl,?_,?_⟩
 ·have e:=j4.out trivial;have e2:hs.set k x=hs:=by rw[← e,List.set_getElem_self]
  rw[e2];exact j2.fresh (Q32 _ _)
 exact((mRf _ w).alloc _).trans (Mod.mono (Q32 _ _) (fun _ _ x=>x.elim))
theorem x39(w:World)(b:Nat)(R H:Int)(vp vh:Value)(ps:List PV)(hs:List Hd)(n:Int)(x:Hd)(h:FA w b R H vp vh ps hs)(hn:n<0∨(hs.length:Int)<=n) :
  Calls Tryz.prog 121 #[Q25 b,.int .i64 n,.agg (hdA x)] w fun e w'=>e=.returned (.bool false)/\FA w' b R H vp vh ps hs/\Mod (fun k=>vh.ownBlock=some k) w w':=by
 have hb:=z0j h.blk;have j0:=h.fresh ((mRf _ w).alloc (.cells (hdA x) 179 (0,0)));obtain⟨ao,cap,hv⟩:=z0d h.own;subst hv;have k3:=h.cell 3;simp at k3;have j2:(w.alloc (.cells (hdA x) 179 (0,0))).cell? ⟨b,3,none⟩=some (.slice ao hs.length cap):=by
  rw[Q0b j0.blk 3];rfl
 have j1:=hid j0;clear h j0;by_cases h0:n<0
 ·have b1:decide (n<0)=true:=by simpa using h0
  clear hn;go_enter Tryz.func121,Tryz.ntmps121
  go_wp2_with fail
  go_quiet (fail);go_wp2;go_ret;exact⟨rfl,j1.fresh (Q32 _ _),((mRf _ w).alloc _).trans (Mod.mono (Q32 _ _) (fun _ _ x=>x.elim))⟩
 have h1:(hs.length:Int)<=n:=by omega
 have b1:decide (n<0)=false:=by simp;omega
 have b2:decide ((hs.length:Int)<=n)=true:=by simpa using h1
 clear hn;go_enter Tryz.func121,Tryz.ntmps121
 go_wp2_with fail
 go_quiet (fail);go_wp2;go_ret;exact⟨rfl,j1.fresh (Q32 _ _),((mRf _ w).alloc _).trans (Mod.mono (Q32 _ _) (fun _ _ x=>x.elim))⟩
theorem y2f(w:World)(b:Nat)(R H:Int)(vp vh:Value)(ps:List PV)(hs:List Hd)(n:Int)(x:Hd)(hx:x.ok)(h:FA w b R H vp vh ps hs) :
  Calls Tryz.prog 121 #[Q25 b,.int .i64 n,.agg (hdA x)] w fun e w'=>e=.returned (.bool (Q6v hs n x))/\FA w' b R H vp vh ps (Q7m hs n x)/\Mod (fun k=>vh.ownBlock=some k) w w':=by
 unfold Q6v Q7m;by_cases h0:0<=n
 ·rw[qAb h0,qAb h0];obtain⟨k,rfl⟩:∃k:Nat,n=k:=⟨n.toNat,by omega⟩;rw[qAl];by_cases hk:k<hs.length
  ·rw[qE hk];exact v1t w b R H vp vh ps hs k x hx h hk
  rw[qN (by omega),qEj (by omega)];exact x39 w b R H vp vh ps hs k x h (.inr (by omega))
 rw[qAa h0,qAa h0];exact x39 w b R H vp vh ps hs n x h (.inl (by omega))
end Go.Proofs.YtcpceafmlgaodaaGreat
