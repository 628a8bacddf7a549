import Derived.Test.YtcpceafmlgaodaaGreatCrw2
import Derived.ChangeKeysEq
namespace Go.Proofs.YtcpceafmlgaodaaGreat
open Go.RowKit
set_option maxRecDepth 100000
set_option maxHeartbeats 16000000
set_option linter.unusedVariables false
set_option linter.unusedSimpArgs false
section
variable{α:Type}(cells:α->List Value)(k:Nat)
def Q01(xs:List α):List Value:=xs.flatMap cells
theorem z2y{xs:List α}(h:∀x∈xs,(cells x).length=k):(Q01 cells xs).length=xs.length*k:=by
 induction xs with
 |nil=>simp[Q01]
 |cons n ns ih =>
  have h1:=h n(by simp);have h2:=ih(fun m hm=>h m(by simp[hm]));simp only[Q01,List.flatMap_cons,List.length_append,List.length_cons]at h2 ⊢;rw[h2,h1,Nat.add_mul];omega
theorem z5y{xs:List α}(h:∀x∈xs,(cells x).length=k)(i j:Nat)(hi:i<xs.length)(hj:j<k):(Q01 cells xs)[i*k+j]? = (cells xs[i])[j]? := by
 induction xs generalizing i with
 |nil=>simp at hi
 |cons n ns ih =>
  have h1:=h n(by simp);simp only[Q01,List.flatMap_cons];cases i with
  |zero=>rw[List.getElem?_append_left(by simp;omega)];simp
  |succ i =>
   have e0:(i+1)*k=i*k+k:=Nat.succ_mul i k;rw[List.getElem?_append_right(by omega),h1];have e:(i+1)*k+j-k=i*k+j:=by omega
   rw[e];exact ih(fun m hm=>h m(by simp[hm]))i(by simpa using hi)
end
structure Q2k{α:Type}(cells:α->List Value)(k:Nat)(T:TypeId)(w:World)(v:Value)(xs:List α):Prop where
 own:w.ownsRow 0 T k v xs.length(Q01 cells xs)
 wf:∀x∈xs,(cells x).length=k
theorem Q2k.kept{α:Type}{cells:α->List Value}{k:Nat}{T:TypeId}{S:Nat->Prop}{w w':World}{v:Value}{xs:List α}(h:Q2k cells k T w v xs)(hm:Mod S w w')(hs:∀b,v.ownBlock=some b->¬S b):Q2k cells k T w' v xs :=
 ⟨z0c h.own(fun g hg=>hm.block g(h.own.lt g hg).2(hs g hg)),h.wf⟩
theorem Q2k.fresh{α:Type}{cells:α->List Value}{k:Nat}{T:TypeId}{w w':World}{v:Value}{xs:List α}(h:Q2k cells k T w v xs)(hm:Q0a w w'):Q2k cells k T w' v xs:=h.kept hm(fun _ _ x=>x)
theorem Q18.fresh{w w':World}{v:Value}{ns:List Q0p}(h:Q18 w v ns)(hm:Q0a w w'):Q18 w' v ns:=h.kept hm(fun _ _ x=>x)
theorem Q2k.range{α:Type}{cells:α->List Value}{k:Nat}{T:TypeId}{w:World}{g n cap:Nat}{xs:List α}(h:Q2k cells k T w(.slice(some⟨g,0,none⟩)n cap)xs)(i:Nat)(hi:i<xs.length):w.rangeAt g(i*k)(cells xs[i]):=by
 intro j v hj;have j0:j<k:=by have:=(qS hj).1;rw[h.wf _(by simp)]at this;exact this
 have:=h.own.cells(g:=g)rfl(i*k+j)v(by rw[z5y cells k h.wf i j hi j0];exact hj);rwa [Addr.add_mid,Nat.zero_add]at this
theorem Q2k.cell{α:Type}{cells:α->List Value}{k:Nat}{T:TypeId}{w:World}{g n cap:Nat}{xs:List α}(h:Q2k cells k T w(.slice(some⟨g,0,none⟩)n cap)xs)(i j:Nat)(hi:i<xs.length)(hj:j<k):w.cell?⟨g,i*k+j,none⟩=(cells xs[i])[j]? := by
 have j0:j<(cells xs[i]).length:=by rw[h.wf _(by simp)];exact hj
 rw[h.range i hi j _(qE j0)];simp
theorem Q2k.nil{α:Type}(cells:α->List Value)(k:Nat)(T:TypeId)(w:World):Q2k cells k T w(.slice none 0 0) []:=⟨World.ownsRow_nil _ _ _ _,fun _ h=>by cases h⟩
structure Wd where
 place:Int
 ls:List Int
def Wd.cells(d:Wd):List Value:=.int .i64 d.place::d.ls.map(Value.int .u8)
def Q5l:List Int:=[0,0,0,0,0,0,0,0]
def Q2l(s:ByteArray)(i:Int):Nat->Nat->List Int->List Int × Int
 |0,n,ls=>(ls,i+n)
 |f+1,n,ls =>
  if n<8 then
   if Q0n(atB s(i+n))then Q2l s i f(n+1)(ls.set n(atB s(i+n)))else(ls,i+n)
  else(ls,i+8)
def Q09(s:ByteArray)(i:Int):Wd × Int × Bool :=
 if(!isSmallB(atB s i)&&!isCapB(atB s i))=true then(⟨0,Q5l⟩,i,false)
 else(⟨i,(Q2l s i 9 1(Q5l.set 0(atB s i))).1⟩,(Q2l s i 9 1(Q5l.set 0(atB s i))).2,true)
theorem z64(s:ByteArray)(i:Int):∀(f n:Nat)(ls:List Int),ls.length=8->(Q2l s i f n ls).1.length=8
 |0,_,_,h=>h
 |f+1,n,ls,h=>by
  unfold Q2l;split
  ·split
   ·exact z64 s i f _ _(by simpa using h)
   exact h
  exact h
theorem y3n(s:ByteArray)(i:Int)(h0:0<=i):∀(f n:Nat)(ls:List Int),n<=8->i+n<=s.size->i+n<=(Q2l s i f n ls).2/\(Q2l s i f n ls).2<=i+8/\(Q2l s i f n ls).2<=s.size
 |0,n,_,hn,hs=>by unfold Q2l;simp;omega
 |f+1,n,ls,hn,hs=>by
  unfold Q2l;split
  ·split
   ·rename_i h1 h2;have:=z0q(s:=s)(i:=i+n)(by intro e;rw[e]at h2;simp[Q0n]at h2);have:=y3n s i h0 f(n+1)(ls.set n(atB s(i+n)))(by omega)(by omega);omega
   simp;omega
  simp;omega
theorem y3d(s:ByteArray)(i:Int):(Q09 s i).1.ls.length=8:=by
 unfold Q09;split
 ·rfl
 exact z64 _ _ _ _ _ rfl
theorem z5c(s:ByteArray)(i:Int)(h0:0<=i):i<=(Q09 s i).2.1/\(Q09 s i).2.1<=i+8/\((Q09 s i).2.2=true->i<(Q09 s i).2.1/\(Q09 s i).2.1<=s.size):=by
 unfold Q09;split
 ·simp;omega
 rename_i h1;have h2:atB s i≠-1:=by intro e;rw[e]at h1;simp[Q0n,Q1n]at h1
 have:=z0q h2;have:=y3n s i h0 9 1(Q5l.set 0(atB s i))(by omega)(by omega);exact⟨by dsimp only;omega,by dsimp only;omega,fun _=>by dsimp only;omega⟩
theorem Wd.cells_len{d:Wd}(h:d.ls.length=8):d.cells.length=9:=by simp[Wd.cells,h]
theorem Q2v:(Tryz.prog.info? 111).map(·.size)=some 9:=by kernel_rfl
theorem Q1w{d:Wd}(h:d.ls.length=8):(Tryz.prog.info? 111).map(·.size)=some d.cells.toArray.size:=by rw[List.size_toArray,Wd.cells_len h];exact Q2v
theorem Wd.one(d:Wd):d.cells.toArray.all(·.oneCell')=true:=by
 apply all_oneCell_toArray;intro v hv;simp[Wd.cells]at hv;rcases hv with rfl|⟨a,_,rfl⟩<;>rfl
theorem Wd.size{d:Wd}(h:d.ls.length=8):d.cells.toArray.size=9:=by rw[List.size_toArray,Wd.cells_len h]
theorem Q0l{a b:Array Value}{n:Nat}(ha:a.size=n)(hb:b.size=n):a.size=b.size:=ha.trans hb.symm
structure Itm where
 p:Nat
 d:Nat
 f:Nat
def apS(ts:Array TypeId)(ty:TypeId)(args:Array Value):Sem Value:=Builtin.append_ ts ty args
theorem z16(ts:Array TypeId)(ty:TypeId)(args:Array Value):Builtin.append_ ts ty args=apS ts ty args:=rfl
theorem z2z{P:Program}(w:World)(base:Nat)(t ty e:TypeId)(i:TypeInfo)(z:Value)(size bytes:Nat)(ht:P.underlying t=some(.slice e))(hi:P.info? e=some i)(hz:i.zero=some z)
  (hsize:i.size=size)(hby:i.bytes=bytes)(hzs:z.cells.size=size)(hsz:0<size)
  (v:Value)(n:Nat)(xs:List Value)(hown:w.ownsRow base e size v n xs)
  (a:Addr)(m c:Nat)(news:List Value)(hl:news.length=m*size)(hnews:∀j u,news[j]? = some u->w.cell?(a.add j)=some u)(h1:∀u∈news,u.oneCell'=true)
  (h63:n+m<=maxLen)(hbytes:(n+m)*bytes<=140737488355328)(hbase:base<=w.heap.size) :
  ∃v' w',(apS#[t,t]ty#[v,.slice(some a)m c]).run P w=.ok v' w'/\w'.ownsRow base e size v'(n+m)(xs++news)/\w.grownBy w' v.ownBlock /\
   (∀k,v'.ownBlock=some k->v.ownBlock=some k∨w.heap.size<=k) :=
 z44(P:=P)w base t ty e i z size bytes ht hi hz hsize hby hzs hsz v n xs hown a m c news hl hnews h1 h63 hbytes hbase
def bls(l:List Bool):List Value:=l.map Value.bool
def tkA(l:List Bool):Array Value:=(bls l).toArray
def Q0w:List Bool:=[false,false,false,false,false,false,false,false,false]
def orL(a b:List Bool):List Bool:=List.zipWith(fun x y=>x||y)a b
theorem z04{a b:List Bool}(ha:a.length=9)(hb:b.length=9):(orL a b).length=9:=by simp[orL,ha,hb]
def Q2g(a:List Bool)(n:Int):List Bool:=if 0<=n/\n<9 then a.set n.toNat true else a
theorem z2i{a:List Bool}{n:Int}(ha:a.length=9):(Q2g a n).length=9:=by unfold Q2g;split<;>simpa using ha
def Q9d(a:List Bool)(n:Int):Bool:=if 0<=n then a.getD n.toNat false else false
def Q3t(a:List Bool):Nat->List Int
 |0=>[]
 |k+1=>if a.getD k false then Q3t a k++[(k:Int)]else Q3t a k
def Q3e(a:List Bool):List Int:=Q3t a 9
theorem Q7s:(Tryz.prog.info? 130).map(·.size)=some 9:=by kernel_rfl
theorem Q0t{l:List Bool}(h:l.length=9):(Tryz.prog.info? 130).map(·.size)=some(tkA l).size:=by rw[Q7s];simp[tkA,bls,h]
theorem Q5p{l:List Bool}(h:l.length=9):(Tryz.prog.info? 130).map(·.size)=some(bls l).length:=by rw[Q7s];simp[tkA,bls,h]
theorem z0u{l:List Bool}(h:l.length=9):(tkA l).size=9:=by simp[tkA,bls,h]
theorem z1e(l:List Bool):(tkA l).all(·.oneCell')=true:=by
 unfold tkA;apply all_oneCell_toArray;intro v hv;simp[bls]at hv;rcases hv with⟨_,rfl⟩|⟨_,rfl⟩<;>rfl
theorem y3k(l:List Bool)(i:Nat)(c:Bool):(tkA l).setIfInBounds i(.bool c)=tkA(l.set i c):=by simp[tkA,bls,List.map_set]
def orK(k:Nat)(a b:List Bool):List Bool:=(orL a b).take k++a.drop k
theorem x1d{k:Nat}{a b:List Bool}(ha:a.length=9)(hb:b.length=9)(hk:k<=9):(orK k a b).length=9:=by simp[orK,orL,ha,hb];omega
theorem x59(a b:List Bool):orK 0 a b=a:=by simp[orK]
theorem x6v{a b:List Bool}(ha:a.length=9)(hb:b.length=9):orK 9 a b=orL a b:=by
 unfold orK;rw[List.take_of_length_le(by rw[z04 ha hb];omega),List.drop_eq_nil_of_le(by omega)];simp
theorem Q7i{α:Type}{l:List α}(h:l.length=9):∃a0 a1 a2 a3 a4 a5 a6 a7 a8,l=[a0,a1,a2,a3,a4,a5,a6,a7,a8]:=by
 rcases l with _|⟨a0,_|⟨a1,_|⟨a2,_|⟨a3,_|⟨a4,_|⟨a5,_|⟨a6,_|⟨a7,_|⟨a8,_|⟨a9,l⟩⟩⟩⟩⟩⟩⟩⟩⟩⟩<;>simp at h;exact⟨a0,a1,a2,a3,a4,a5,a6,a7,a8,rfl⟩
theorem v02{k:Nat}{a b:List Bool}(ha:a.length=9)(hb:b.length=9)(hk:k<9):(orK k a b)[k]? = a[k]? := by
 obtain⟨a0,a1,a2,a3,a4,a5,a6,a7,a8,rfl⟩:=Q7i ha;obtain⟨b0,b1,b2,b3,b4,b5,b6,b7,b8,rfl⟩:=Q7i hb;rcases k with _|_|_|_|_|_|_|_|_|k;all_goals first|rfl|omega
theorem x93{k:Nat}{a b:List Bool}(ha:a.length=9)(hb:b.length=9)(hk:k<9):(orK k a b).set k(a.getD k false||b.getD k false)=orK(k+1)a b:=by
 obtain⟨a0,a1,a2,a3,a4,a5,a6,a7,a8,rfl⟩:=Q7i ha;obtain⟨b0,b1,b2,b3,b4,b5,b6,b7,b8,rfl⟩:=Q7i hb;rcases k with _|_|_|_|_|_|_|_|_|k;all_goals first|rfl|omega
theorem z9t{l:List Bool}{i:Nat}(h:i<l.length):(tkA l)[i]? = some(.bool(l.getD i false)):=by simp[tkA,bls,h]
theorem x9q{k:Nat}{a b:List Bool}(ha:a.length=9)(hb:b.length=9)(hk:k<9):(orK k a b).getD k false=a.getD k false:=by
 simp only[qD,v02 ha hb hk]
theorem z1b(w:World)(a b:List Bool)(ha:a.length=9)(hb:b.length=9) :
  Calls Tryz.prog 54#[.agg(tkA a),.agg(tkA b)]w fun e w'=>e=.returned(.agg(tkA(orL a b)))/\Q0a w w':=by
 have HA:=hid ha;have HB:=hid hb;clear ha hb;go_enter Tryz.func54,Tryz.ntmps54
 go_wp2;go_loopw [5,6](fun x5 x6 wr=>∃(k:Nat),x6=.int .i64 k/\k<=9/\Q0a w wr/\wr.heap[w.heap.size]? = some(.cells(tkA(orK k a b))130(0,0))/\wr.heap[w.heap.size+1]? = some(.cells(tkA b)130(0,0))/\wr.heap[w.heap.size+2]? = some(.cells(tkA Q0w)130(0,0)))
   (fun _ x _=>10-(intOf x).toNat)
 case atStart =>
  refine⟨0,rfl,by omega,(((mRf _ w).alloc _).alloc _).alloc _,?_,?_,?_⟩
  ·rw[x59];exact z1g _ _ _ _
  ·exact z06 _ _ _ _
  exact z00 _ _ _ _
 obtain⟨k,rfl,hk,hfr,hb0,hb1,hb2⟩:=hrel;have j0:=hid hb0;have j2:=hid hb1;have j1:=hid hb2;have j5:=hid(Q2a(B:=10)k(by omega));clear hb0 hb1 hb2;by_cases hlt:k<9
 ·have j4:k<a.length:=by rw[HA.out];exact hlt
  have j3:k<b.length:=by rw[HB.out];exact hlt
  have c0:wr.cell?⟨w.heap.size,k,none⟩=some(.bool(a.getD k false)):=by
   rw[Q0b j0.out,z9t(by rw[x1d HA.out HB.out hk];exact hlt),x9q HA.out HB.out hlt]
  have c1:wr.cell?⟨w.heap.size+1,k,none⟩=some(.bool(b.getD k false)):=by rw[Q0b j2.out,z9t j3]
  have z0:=Q0h j0.out;have HS:=hid(x93 HA.out HB.out hlt);generalize a.getD k false=ak at c0 HS;generalize b.getD k false=bk at c1 HS;clear j4 j3;cases ak;all_goals
   go_wp2;go_roundw
   case rel =>
    refine⟨k+1,by go_num,by omega,hfr.setCell(by simp)_,?_,?_,?_⟩
    ·rw[zhs j0.out,y3k];rw[← HS.out];rfl
    ·exact z0i j2.out(by simp)
    exact z0i j1.out(by simp)
   exact j5.out
 have j6:k=9:=by omega
 subst j6;have HL:Hid((orK 9 a b).length=9):=hid(x1d HA.out HB.out hk);go_wp2_with(first
  |(refine wpList_load_row rfl 130 _ rfl w.heap.size rfl _ _ _ _ j0.out Tryz.underlying130 rfl(Q0t HL.out)?_)
  |(refine wpList_store_row rfl 130 _ _ rfl(w.heap.size+2)_ rfl rfl _ _ j1.out(Q0t HL.out)(Q0l rfl(z0u HL.out))(z1e _)?_))
 refine bodyPost_ret(results_cell_row rfl _ _(w.heap.size+2)130 _(0,0)_ rfl(setRow_heap _ _ _ _ _ _ j1.out)Tryz.underlying130 rfl(Q0t HL.out))rfl⟨?_,hfr.setRow(by simp)_⟩;rw[x6v HA.out HB.out]
abbrev Q56(l:List Int):List Value:=l.map(Value.int .i64)
theorem infoI:(Tryz.prog.info? 3).map(fun i=>(i.zero,i.size,i.bytes))=some(some(.int .i64 0),1,8):=by kernel_rfl
theorem infoI':∃i,Tryz.prog.info? 3=some i/\i.zero=some(.int .i64 0)/\i.size=1/\i.bytes=8:=by
 have h:=infoI;cases hq:Tryz.prog.info? 3 with
 |none=>simp[hq]at h
 |some i=>simp[hq]at h;exact⟨i,rfl,h.1,h.2.1,h.2.2⟩
theorem x6w(w:World)(a:List Bool)(n:Int)(ha:a.length=9) :
  Calls Tryz.prog 85#[.agg(tkA a),.int .i64 n]w fun e w'=>e=.returned(.bool(Q9d a n))/\Q0a w w':=by
 have HA:=hid ha;have HC:Hid(∀k:Nat,(w.alloc(.cells(tkA a)130(0,0))).cell?⟨w.heap.size,k,none⟩=(tkA a)[k]?):=fun k=>Q0b(z0a _ _)k;generalize hv:Q9d a n=V;unfold Q9d at hv;by_cases h0:0<=n
 ·rw[if_pos h0]at hv;obtain⟨k,rfl⟩:∃k:Nat,n=k:=⟨n.toNat,by omega⟩;rw[Int.toNat_natCast]at hv;by_cases h9:k<9
  ·have c0:=HC.out k;rw[z9t(by omega),hv]at c0;clear hv ha;clear HC HA;have b1:decide((0:Int)<=(k:Int))=true:=by simp
   have b2:decide((k:Int)<9)=true:=by simp;omega
   have b3:decide(k<9)=true:=by simpa using h9
   have b4:(k:Int)<9:=by omega
   go_enter Tryz.func85,Tryz.ntmps85
   go_wp2;go_ret;exact⟨rfl,(mRf _ w).alloc _⟩
  have hV:V=false:=by rw[← hv];simp[qN(show a.length<=k by omega)]
  subst hV;clear hv ha HC;clear HA;have j0:¬((k:Int)<9):=by omega
  go_enter Tryz.func85,Tryz.ntmps85
  go_wp2;go_ret;exact⟨rfl,(mRf _ w).alloc _⟩
 rw[if_neg h0]at hv;subst hv;clear ha HC;clear HA;go_enter Tryz.func85,Tryz.ntmps85
 go_wp2;go_ret;exact⟨rfl,(mRf _ w).alloc _⟩
theorem z8l(w:World)(a:List Bool)(n:Int)(ha:a.length=9) :
  Calls Tryz.prog 56#[.agg(tkA a),.int .i64 n]w fun e w'=>e=.returned(.agg(tkA(Q2g a n)))/\Q0a w w':=by
 have HA:=hid ha;have j4:Hid(((w.alloc(.cells(tkA a)130(0,0))).alloc(.cells(tkA Q0w)130(0,0))).heap[w.heap.size]? = some(.cells(tkA a)130(0,0))):=heap_alloc2_old _ _ _;have j3:Hid(((w.alloc(.cells(tkA a)130(0,0))).alloc(.cells(tkA Q0w)130(0,0))).heap[w.heap.size+1]? = some(.cells(tkA Q0w)130(0,0))):=heap_alloc2_new _ _ _;by_cases h0:0<=n/\n<9
 ·have HW:Hid(Q2g a n=a.set n.toNat true):=by unfold Hid Q2g;rw[if_pos h0]
  obtain⟨h0,h9⟩:=h0;obtain⟨k,rfl⟩:∃k:Nat,n=k:=⟨n.toNat,by omega⟩;have j5:k<9:=by omega
  rw[HW.out,Int.toNat_natCast,← y3k a k true];have j0:Hid((Tryz.prog.info? 130).map(·.size)=some((tkA a).setIfInBounds k(.bool true)).size):=by unfold Hid;rw[y3k];exact Q0t(by simpa using ha)
  have j1:Hid(((tkA a).setIfInBounds k(.bool true)).size=9):=by unfold Hid;rw[y3k];exact z0u(by simpa using ha)
  have j2:Hid(((tkA a).setIfInBounds k(.bool true)).all(·.oneCell')=true):=by unfold Hid;rw[y3k];exact z1e _
  have c0:((w.alloc(.cells(tkA a)130(0,0))).alloc(.cells#[.bool false,.bool false,.bool false,.bool false,.bool false,.bool false,.bool false,.bool false,.bool false]130(0,0))).cell?⟨w.heap.size,k,none⟩=some(.bool(a.getD k false)):=by
   rw[Q0b(heap_alloc2_old _ _ _)k,z9t(by omega)]
  have z0:((w.alloc(.cells(tkA a)130(0,0))).alloc(.cells#[.bool false,.bool false,.bool false,.bool false,.bool false,.bool false,.bool false,.bool false,.bool false]130(0,0))).frozen?⟨w.heap.size,k,none⟩=false:=Q0h(heap_alloc2_old _ _ _)k;generalize a.getD k false=ak at c0;clear ha;go_enter Tryz.func56,Tryz.ntmps56
  go_wp2_with(first
   |(refine wpList_load_row rfl 130 _ rfl w.heap.size rfl _ _ _ _(heap_alloc2_old _ _ _)Tryz.underlying130 rfl j0.out ?_)
   |(refine wpList_store_row rfl 130 _ _ rfl(w.heap.size+1)_ rfl rfl _ _(heap_alloc2_new _ _ _)j0.out(Q0l rfl j1.out)j2.out ?_))
  refine bodyPost_ret(results_cell_row rfl _ _(w.heap.size+1)130 _(0,0)_ rfl(setRow_heap _ _ _ _ _ _(heap_alloc2_new _ _ _))Tryz.underlying130 rfl j0.out)rfl⟨rfl,?_⟩;exact(((mRf _ w).alloc _).alloc _).setRow(by simp)_
 have HW:Hid(Q2g a n=a):=by unfold Hid Q2g;rw[if_neg h0]
 rw[HW.out];by_cases h00:0<=n
 ·have h9:9<=n:=by omega
  clear h0;have j0:Hid((Tryz.prog.info? 130).map(·.size)=some(tkA a).size):=Q0t ha;have j1:Hid((tkA a).size=9):=z0u ha;have j2:Hid((tkA a).all(·.oneCell')=true):=z1e _;clear ha;go_enter Tryz.func56,Tryz.ntmps56
  go_wp2_with(first
   |(refine wpList_load_row rfl 130 _ rfl w.heap.size rfl _ _ _ _ j4.out Tryz.underlying130 rfl j0.out ?_)
   |(refine wpList_store_row rfl 130 _ _ rfl(w.heap.size+1)_ rfl rfl _ _ j3.out j0.out(Q0l rfl j1.out)j2.out ?_))
  refine bodyPost_ret(results_cell_row rfl _ _(w.heap.size+1)130 _(0,0)_ rfl(setRow_heap _ _ _ _ _ _ j3.out)Tryz.underlying130 rfl j0.out)rfl⟨rfl,?_⟩;exact(((mRf _ w).alloc _).alloc _).setRow(by simp)_
 clear h0;have j0:Hid((Tryz.prog.info? 130).map(·.size)=some(tkA a).size):=Q0t ha;have j1:Hid((tkA a).size=9):=z0u ha;have j2:Hid((tkA a).all(·.oneCell')=true):=z1e _;clear ha;go_enter Tryz.func56,Tryz.ntmps56
 go_wp2_with(first
  |(refine wpList_load_row rfl 130 _ rfl w.heap.size rfl _ _ _ _ j4.out Tryz.underlying130 rfl j0.out ?_)
  |(refine wpList_store_row rfl 130 _ _ rfl(w.heap.size+1)_ rfl rfl _ _ j3.out j0.out(Q0l rfl j1.out)j2.out ?_))
 refine bodyPost_ret(results_cell_row rfl _ _(w.heap.size+1)130 _(0,0)_ rfl(setRow_heap _ _ _ _ _ _ j3.out)Tryz.underlying130 rfl j0.out)rfl⟨rfl,?_⟩;exact(((mRf _ w).alloc _).alloc _).setRow(by simp)_
theorem y0f(a:List Bool):∀k,(Q3t a k).length<=k
 |0=>by simp[Q3t]
 |k+1=>by unfold Q3t;have:=y0f a k;split<;>simp<;>omega
theorem y41(w:World)(a:List Bool)(ha:a.length=9) :
  Calls Tryz.prog 55#[.agg(tkA a)]w fun e w'=>∃v,e=.returned v/\Q0a w w'/\w'.ownsRow w.heap.size 3 1 v(Q3e a).length(Q56(Q3e a)):=by
 obtain⟨i0,hi0,hz0,hz1,hz2⟩:=infoI';have HA:=hid ha;clear ha;go_enter Tryz.func55,Tryz.ntmps55
 go_wp2;go_loopw [3,4,5](fun x3 x4 x5 wr=>∃(k:Nat),x5=.int .i64 k/\k<=9/\Q0a w wr/\wr.ownsRow w.heap.size 3 1 x3(Q3t a k).length(Q56(Q3t a k))/\wr.heap[w.heap.size]? = some(.cells(tkA a)130(0,0))/\(∀g,x3.ownBlock=some g->w.heap.size+1<=g))
   (fun _ _ x _=>10-(intOf x).toNat)
 case atStart =>
  refine⟨0,rfl,by omega,(mRf _ w).alloc _,World.ownsRow_nil _ _ _ _,?_,by simp[Value.ownBlock]⟩;exact z0a _ _
 obtain⟨k,rfl,hk,hfr,hown,hb0,hob⟩:=hrel;have j1:=hid hb0;have HO:=hid hown;have j0:=hid hob;have ja:=y0f a k;have j9:w.heap.size+1<=wr.heap.size:=by have:=z0j hb0;omega
 have j3:=hid(Q2a(B:=10)k(by omega));clear hb0 hob;by_cases hlt:k<9
 ·have j2:k<a.length:=by rw[HA.out];exact hlt
  have c0:wr.cell?⟨w.heap.size,k,none⟩=some(.bool(a.getD k false)):=by rw[Q0b j1.out,z9t j2]
  have HS:Hid(Q3t a(k+1)=if a.getD k false then Q3t a k++[(k:Int)]else Q3t a k):=by unfold Hid;rw[Q3t]
  generalize a.getD k false=ak at c0 HS;obtain⟨a3,c3,hv3⟩:=z0d hown;subst hv3;clear hown j2;cases ak
  ·go_wp2;go_roundw
   case rel =>
    refine⟨k+1,by go_num,by omega,hfr,?_,j1.out,j0.out⟩;rw[HS.out];exact HO.out
   exact j3.out
  go_wp2_with(first
   |(at_builtin;refine z0g _ rfl _ _ 22 rfl w.heap.size 3 i0 _ 1 8 Tryz.underlying22 hi0 hz0 hz1 hz2 rfl(by decide)_ _ _ rfl(HO.out.alloc _)⟨wr.heap.size,0,none⟩1 1 [.int .i64 k]rfl rfl(z0l rfl)(by intro u hu;simp at hu;subst hu;rfl)(by unfold maxLen;omega)(by omega)(by simp;omega)?_))
  intro v' w2 hown2 hgrow hblk;have j5:Q0a w w2:=Mod.grown(S:=fun _=>False)(hfr.alloc _)hgrow(fun k hk hlt=>by have:=j0.out k hk;omega);have j4:Hid(w2.heap[w.heap.size]? = some(.cells(tkA a)130(0,0))):=by
   unfold Hid;rw[hgrow.block w.heap.size(by simp;omega)(fun e=>by have:=j0.out _ e.symm;omega)];exact z0b j1.out
  have j6:Hid(∀g,v'.ownBlock=some g->w.heap.size+1<=g):=fun g hg=>by
   rcases hblk g hg with h|h
   ·exact j0.out g h
   first|omega|(simp at h;omega)
  have j7:=hid hown2;clear hown2 hgrow hblk;go_wp2;go_roundw
  case rel =>
   refine⟨k+1,by go_num,by omega,j5,?_,j4.out,j6.out⟩;rw[HS.out];simp only[if_true];rw[List.length_append,List.length_singleton,show Q56(Q3t a k++[(k:Int)])=Q56(Q3t a k)++[.int .i64 k]from by simp];exact j7.out
  exact j3.out
 have j8:k=9:=by omega
 subst j8;clear hown;go_wp2;go_ret;exact⟨_,rfl,hfr,HO.out⟩
theorem isAggB(w:World):(isAgg 4).run Tryz.prog w=.ok false w:=by
 unfold isAgg;rw[Sem.run_bind,run_underlying Tryz.underlying4];rfl
theorem isAggT(w:World):(isAgg 130).run Tryz.prog w=.ok true w:=by
 unfold isAgg;rw[Sem.run_bind,run_underlying Tryz.underlying130];rfl
theorem cellsB:Tryz.prog.cellsOf 4=1:=by kernel_rfl
theorem sizeOfTk(w:World):(sizeOf 130).run Tryz.prog w=.ok 9 w:=by
 have h:=Q7s;cases hq:Tryz.prog.info? 130 with
 |none=>simp[hq]at h
 |some i=>simp[hq]at h;simp[sizeOf,typeInfo,hq,h]
theorem Q9c(xs:Array Value)(i:Nat)(v:Value)(h:xs[i]? = some v)(w:World):(part 4 xs i).run Tryz.prog w=.ok v w:=by
 simp[part,isAggB,h]
theorem Q9y(d:Nat)(a b:List Bool)(ha:a.length=9)(hb:b.length=9)(w:World):∀is:List Nat,(∀i∈is,i<9) ->
  (Op.eqItems(d+1)4 1(tkA a)(tkA b)is).run Tryz.prog w=.ok(is.all fun i=>a.getD i false==b.getD i false)w
 | [],_=>by simp[Op.eqItems]
 |i::is,h=>by
  have h1:=h i(by simp);have ih:=Q9y d a b ha hb w is(fun j hj=>h j(by simp[hj]));simp only[Op.eqItems,Sem.run_bind,Nat.mul_one,Q9c _ _ _(z9t(show i<a.length by omega)),Q9c _ _ _(z9t(show i<b.length by omega)),Result.andThen_ok,run_equalIn_bool w d 4 _ _ Tryz.underlying4];cases hq:(a.getD i false==b.getD i false)
  ·simp only[Bool.not_false,if_true,Sem.run_pure,List.all_cons,hq,Bool.false_and]
  simp only[Bool.not_true,Bool.false_eq_true,if_false,ih,List.all_cons,hq,Bool.true_and]
theorem all9{a b:List Bool}(ha:a.length=9)(hb:b.length=9):((List.range 9).all fun i=>a.getD i false==b.getD i false)=(a==b):=by
 obtain⟨a0,a1,a2,a3,a4,a5,a6,a7,a8,rfl⟩:=Q7i ha;obtain⟨b0,b1,b2,b3,b4,b5,b6,b7,b8,rfl⟩:=Q7i hb;rfl
theorem eqTok(d:Nat)(a b:List Bool)(ha:a.length=9)(hb:b.length=9)(w:World):(Op.equalIn(d+2)130(.agg(tkA a))(.agg(tkA b))).run Tryz.prog w=.ok(a==b)w:=by
 have h:=Q7s;obtain⟨i,hi⟩:∃i,Tryz.prog.info? 4=some i:=by
  cases hq:Tryz.prog.info? 4 with
  |none =>
   have:(Tryz.prog.info? 4).isSome=true:=by kernel_rfl
   rw[hq]at this;cases this
  |some i=>exact⟨i,rfl⟩
 rw[run_equalIn_array w(d+1)_ _ Tryz.underlying130 hi,cellsB,Q9y d a b ha hb w _(fun i hi=>by simpa using hi),all9 ha hb]
structure Hd where
 nul:Bool
 rch:Bool
 fru:Bool
 fi:List Bool
 fo:List Bool
structure Hd.ok(h:Hd):Prop where
 fi:h.fi.length=9
 fo:h.fo.length=9
def Hd.cells(h:Hd):List Value:=.bool h.nul::.bool h.rch::.bool h.fru::(bls h.fi++bls h.fo)
def hdA(h:Hd):Array Value:=h.cells.toArray
def Q15:Hd:=⟨false,false,false,Q0w,Q0w⟩
def hdEq(a b:Hd):Bool:=a.nul==b.nul&&(a.rch==b.rch&&(a.fru==b.fru&&(a.fi==b.fi&&a.fo==b.fo)))
theorem z8c{a b:Hd}:hdEq a b=true↔a=b:=by
 obtain⟨a1,a2,a3,a4,a5⟩:=a;obtain⟨b1,b2,b3,b4,b5⟩:=b;simp[hdEq]
theorem Hd.cells_len{h:Hd}(k:h.ok):h.cells.length=21:=by simp[Hd.cells,bls,k.fi,k.fo]
theorem z07{h:Hd}(k:h.ok):(hdA h).size=21:=by simp[hdA,Hd.cells_len k]
theorem szHd:(Tryz.prog.info? 179).map(·.size)=some 21:=by kernel_rfl
theorem Q1q{h:Hd}(k:h.ok):(Tryz.prog.info? 179).map(·.size)=some(hdA h).size:=by rw[z07 k];exact szHd
theorem szHdL{h:Hd}(k:h.ok):(Tryz.prog.info? 179).map(·.size)=some h.cells.length:=by rw[Hd.cells_len k];exact szHd
theorem z1x(h:Hd):(hdA h).all(·.oneCell')=true:=by
 unfold hdA;apply all_oneCell_toArray;intro v hv;simp[Hd.cells,bls]at hv;rcases hv with rfl|rfl|rfl|(⟨_,rfl⟩|⟨_,rfl⟩)|(⟨_,rfl⟩|⟨_,rfl⟩)<;>rfl
theorem y0s(h:Hd):(hdA h)[0]? = some(.bool h.nul):=by simp[hdA,Hd.cells]
theorem y5i(h:Hd):(hdA h)[1]? = some(.bool h.rch):=by simp[hdA,Hd.cells]
theorem y3v(h:Hd):(hdA h)[2]? = some(.bool h.fru):=by simp[hdA,Hd.cells]
theorem v12{h:Hd}(k:h.ok):(hdA h).extract 3 12=tkA h.fi:=by
 obtain⟨n,r,f,fi,fo⟩:=h;obtain⟨a0,a1,a2,a3,a4,a5,a6,a7,a8,e⟩:=Q7i k.fi;obtain⟨b0,b1,b2,b3,b4,b5,b6,b7,b8,e2⟩:=Q7i k.fo;dsimp only at e e2;subst e;subst e2;rfl
theorem v11{h:Hd}(k:h.ok):(hdA h).extract 12 21=tkA h.fo:=by
 obtain⟨n,r,f,fi,fo⟩:=h;obtain⟨a0,a1,a2,a3,a4,a5,a6,a7,a8,e⟩:=Q7i k.fi;obtain⟨b0,b1,b2,b3,b4,b5,b6,b7,b8,e2⟩:=Q7i k.fo;dsimp only at e e2;subst e;subst e2;rfl
theorem partT(h:Hd)(o:Nat)(l:List Bool)(k:h.ok)(hx:(hdA h).extract o(o+9)=tkA l)(ho:o+9<=21)(w:World):(part 130(hdA h)o).run Tryz.prog w=.ok(.agg(tkA l))w:=by
 simp[part,isAggT,sizeOfTk,hx,z07 k,ho]
theorem stood154:Tryz.prog.stoodInHeld 179=false:=by kernel_rfl
theorem guardHd:Tryz.prog.eqGuardType Tryz.prog.depth 179=false:=by kernel_rfl
theorem eqHd(d:Nat)(a b:Hd)(ha:a.ok)(hb:b.ok)(w:World):(Op.equalIn(d+4)179(.agg(hdA a))(.agg(hdA b))).run Tryz.prog w=.ok(hdEq a b)w:=by
 rw[run_equalIn_struct w(d+3)_ _ _(by kernel_rfl)stood154];have hf : ((Tryz.prog.fieldsOf 179).toList.map fun f => (f.name, f.type, f.offset)) = [("nullable", 4, 0), ("reached", 4, 1), ("fruitful", 4, 2), ("first", 130, 3), ("follow", 130, 12)] := by kernel_rfl
 generalize(Tryz.prog.fieldsOf 179).toList=fs at hf;rcases fs with _|⟨f0,_|⟨f1,_|⟨f2,_|⟨f3,_|⟨f4,_|⟨f5,fs⟩⟩⟩⟩⟩⟩<;>simp at hf;obtain⟨⟨n0,t0,o0⟩,⟨n1,t1,o1⟩,⟨n2,t2,o2⟩,⟨n3,t3,o3⟩,⟨n4,t4,o4⟩⟩:=hf;simp only[Op.eqFields,n0,t0,o0,n1,t1,o1,n2,t2,o2,n3,t3,o3,n4,t4,o4];simp only[Sem.run_bind,Sem.run_ite,Q9c _ _ _(y0s a),Q9c _ _ _(y0s b),Q9c _ _ _(y5i a),Q9c _ _ _(y5i b),Q9c _ _ _(y3v a),Q9c _ _ _(y3v b),
  partT a 3 _ ha(v12 ha)(by omega),partT b 3 _ hb(v12 hb)(by omega),partT a 12 _ ha(v11 ha)(by omega),partT b 12 _ hb(v11 hb)(by omega),Result.andThen_ok,
  run_equalIn_bool w(d+2)4 _ _ Tryz.underlying4,eqTok(d+1)a.fi b.fi ha.fi hb.fi,eqTok(d+1)a.fo b.fo ha.fo hb.fo,Sem.run_pure]
 unfold hdEq;cases a.nul==b.nul<;>cases a.rch==b.rch<;>cases a.fru==b.fru<;>cases a.fi==b.fi<;>cases a.fo==b.fo<;>simp
structure Sy where
 isH:Bool
 num:Int
def Sy.cells(s:Sy):List Value:=[.bool s.isH,.int .i64 s.num]
structure Pr where
 head:Int
 syms:List Sy
structure PV where
 pr:Pr
 vs:Value
def PV.cells(p:PV):List Value:=[.int .i64 p.pr.head,p.vs]
def Q59(w:World)(B:Nat)(v:Value)(l:List Sy):Prop :=
 ∃ao cap,v=.slice ao l.length cap/\l.length<=cap/\cap<=maxLen/\∀i(h:i<l.length),∃g o,ao=some⟨g,o,none⟩/\g<B/\w.rangeAt g(o+i*2)(l[i]).cells
theorem z0t{w w':World}{g o:Nat}{cs:List Value}(h:w.rangeAt g o cs)(hb:w'.heap[g]? = w.heap[g]?):w'.rangeAt g o cs:=fun j v hj=>by
 have:=h j v hj;simpa [World.cell?,hb]using this
theorem Q59.kept{S:Nat->Prop}{w w':World}{B:Nat}{v:Value}{l:List Sy}(h:Q59 w B v l)(hB:B<=w.heap.size)(hm:Mod S w w')(hs:∀k,k<B->¬S k):Q59 w' B v l:=by
 obtain⟨ao,cap,h1,h2,h3,h4⟩:=h;refine⟨ao,cap,h1,h2,h3,fun i hi=>?_⟩;obtain⟨g,o,h5,h6,h7⟩:=h4 i hi;exact⟨g,o,h5,h6,z0t h7(hm.block g(by omega)(hs g h6))⟩
structure Q3p(w:World)(B:Nat)(v:Value)(ps:List PV):Prop where
 row:Q2k PV.cells 2 118 w v ps
 lt:∀g,v.ownBlock=some g->g<B
 syms:∀p∈ps,Q59 w B p.vs p.pr.syms
theorem Q3p.kept{S:Nat->Prop}{w w':World}{B:Nat}{v:Value}{l:List PV}(h:Q3p w B v l)(hB:B<=w.heap.size)(hm:Mod S w w')(hs:∀k,k<B->¬S k):Q3p w' B v l :=
 ⟨h.row.kept hm(fun b hb=>hs b(h.lt b hb)),h.lt,fun p hp=>(h.syms p hp).kept hB hm hs⟩
structure FA(w:World)(b:Nat)(R H:Int)(vp vh:Value)(ps:List PV)(hs:List Hd):Prop where
 blk:w.heap[b]? = some(.cells#[.int .i64 R,.int .i64 H,vp,vh]138(0,0))
 prs:Q3p w b vp ps
 own:w.ownsRow(b+1)179 21 vh hs.length(Q01 Hd.cells hs)
 ok:∀h∈hs,h.ok
variable{w w':World}{b:Nat}{R H:Int}{vp vh:Value}{ps:List PV}{hs:List Hd}
theorem FA.fresh(h:FA w b R H vp vh ps hs)(hm:Q0a w w'):FA w' b R H vp vh ps hs :=
 ⟨hm.at h.blk(fun x=>x),h.prs.kept(Nat.le_of_lt(z0j h.blk))hm(fun _ _ x=>x),z0c h.own(fun g hg=>hm.block g(h.own.lt g hg).2(fun x=>x)),h.ok⟩
theorem FA.cell(h:FA w b R H vp vh ps hs)(o:Nat):w.cell?⟨b,o,none⟩=#[.int .i64 R,.int .i64 H,vp,vh][o]? := Q0b h.blk o
theorem FA.row(h:FA w b R H vp vh ps hs):Q2k Hd.cells 21 179 w vh hs:=⟨z0f h.own(Nat.zero_le _),fun x hx=>Hd.cells_len(h.ok x hx)⟩
def Q1l(hs:List Hd)(n:Int):Hd:=if 0<=n then(hs[n.toNat]?).getD Q15 else Q15
theorem z2k:Q15.ok:=⟨rfl,rfl⟩
theorem z0k{hs:List Hd}(h:∀x∈hs,x.ok)(n:Int):(Q1l hs n).ok:=by
 unfold Q1l;split
 ·cases hq:hs[n.toNat]? with
  |none=>exact z2k
  |some x=>exact h x(List.mem_of_getElem? hq)
 exact z2k
def Q7o(hs:List Hd)(n:Int)(h:Hd):List Hd:=if 0<=n then hs.set n.toNat h else hs
def Q65(hs:List Hd)(n:Int)(h:Hd):Bool:=if 0<=n then(match hs[n.toNat]? with|some x=>!hdEq x h|none=>false)else false
theorem z4s(w:World)(b:Nat)(R H:Int)(vp vh:Value)(ps:List PV)(hs:List Hd)(n:Int)(h:FA w b R H vp vh ps hs) :
  Calls Tryz.prog 84#[Q3b b,.int .i64 n]w fun e w'=>e=.returned(.agg(hdA(Q1l hs n)))/\Q0a w w':=by
 have k3:=h.cell 3;simp at k3;have HF:=hid h;have zb:Hid((w.alloc(.cells(hdA Q15)179(0,0))).heap[w.heap.size]? = some(.cells(hdA Q15)179(0,0))):=z0a _ _;have hb:=z0j h.blk;have j1:(w.alloc(.cells#[.bool false,.bool false,.bool false,.bool false,.bool false,.bool false,.bool false,.bool false,.bool false,.bool false,.bool false,.bool false,.bool false,.bool false,.bool false,.bool false,.bool false,.bool false,.bool false,.bool false,.bool false]179(0,0))).cell?⟨b,3,none⟩=some vh:=by
  rw[Q0b(z0b h.blk)3];rfl
 obtain⟨ao,cap,hv⟩:=z0d h.own;subst hv;by_cases h0:0<=n
 ·obtain⟨k,rfl⟩:∃k:Nat,n=k:=⟨n.toNat,by omega⟩;by_cases hk:k<hs.length
  ·have e1:Hid(Q1l hs k=hs[k]):=by unfold Hid Q1l;rw[if_pos h0];simp[hk]
   obtain⟨g,cap',hv'⟩:=Q1d.ownsRow_form h.own(by omega);rw[qI]at hv';obtain⟨rfl,_,rfl⟩:=hv';have RG:=hid((h.fresh((mRf _ w).alloc(.cells(hdA Q15)179(0,0)))).row.range k hk);have j0:=hid(h.ok hs[k](by simp));rw[e1.out];have b1:decide((k:Int)<0)=false:=by simp
   have b2:decide((hs.length:Int)<=(k:Int))=false:=by simp;omega
   have b3:decide(hs.length<=k)=false:=by simp;omega
   have b4:(k:Int)<(hs.length:Int):=by omega
   clear h e1;go_enter Tryz.func84,Tryz.ntmps84
   go_wp2_with(first
    |(refine wpList_load_mid rfl 179 _ rfl g(k*21)rfl hs[k].cells _ RG.out Tryz.underlying179 rfl(szHdL j0.out)?_)
    |(refine wpList_store_row rfl 179 _ _ rfl w.heap.size(hdA hs[k])rfl rfl _ _ zb.out(Q1q j0.out)(Q0l rfl(z07 j0.out))(z1x _)?_))
   refine bodyPost_ret(results_cell_row rfl _ _ w.heap.size 179 _(0,0)_ rfl(setRow_heap _ _ _ _ _ _ zb.out)Tryz.underlying179 rfl(Q1q j0.out))rfl⟨rfl,?_⟩;exact((mRf _ w).alloc _).setRow(by simp)_
  have e1:Q1l hs k=Q15:=by unfold Q1l;rw[if_pos h0];simp[hk]
  rw[e1];have b1:decide((k:Int)<0)=false:=by simp
  have b2:decide((hs.length:Int)<=(k:Int))=true:=by simp;omega
  have b3:decide(hs.length<=k)=true:=by simp;omega
  have b4:¬(k:Int)<(hs.length:Int):=by omega
  clear h e1;go_enter Tryz.func84,Tryz.ntmps84
  go_wp2_with(first
   |(refine wpList_store_row rfl 179 _ _ rfl w.heap.size(hdA Q15)rfl rfl _ _ zb.out(Q1q z2k)rfl(z1x _)?_))
  refine bodyPost_ret(results_cell_row rfl _ _ w.heap.size 179 _(0,0)_ rfl(setRow_heap _ _ _ _ _ _ zb.out)Tryz.underlying179 rfl(Q1q z2k))rfl⟨rfl,?_⟩;exact((mRf _ w).alloc _).setRow(by simp)_
 have e1:Q1l hs n=Q15:=by unfold Q1l;rw[if_neg h0]
 rw[e1];have b1:decide(n<0)=true:=by simp;omega
 clear h e1;go_enter Tryz.func84,Tryz.ntmps84
 go_wp2_with(first
  |(refine wpList_store_row rfl 179 _ _ rfl w.heap.size(hdA Q15)rfl rfl _ _ zb.out(Q1q z2k)rfl(z1x _)?_))
 refine bodyPost_ret(results_cell_row rfl _ _ w.heap.size 179 _(0,0)_ rfl(setRow_heap _ _ _ _ _ _ zb.out)Tryz.underlying179 rfl(Q1q z2k))rfl⟨rfl,?_⟩;exact((mRf _ w).alloc _).setRow(by simp)_
end Go.Proofs.YtcpceafmlgaodaaGreat
