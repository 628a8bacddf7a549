import Derived.Test.YtcpceafmlgaodaaGreatPat5
namespace Go.Proofs.YtcpceafmlgaodaaGreat
open Go.RowKit
set_option maxRecDepth 100000
set_option maxHeartbeats 16000000
set_option linter.unusedVariables false
set_option linter.unusedSimpArgs false
abbrev Q77(a b:Int):Value:=.agg#[.int .i64 a,.int .i64 b]
theorem BAt.not_foot{w:World}{bb:Nat}{v:Value}{ns:List Q0p}(h:BAt w bb v ns){k:Nat}(hk:w.heap.size<=k):¬Q86 bb v k:=by
 rintro(rfl|h1)
 ·have:=h.lt;omega
 have:=h.own_lt k h1;omega
theorem BAt.fresh{w w':World}{bb:Nat}{v:Value}{ns:List Q0p}(h:BAt w bb v ns)(hm:Q0a w w'):BAt w' bb v ns:=h.kept hm(fun _ _ x=>x)
theorem Q1i.nf{w w':World}{bb:Nat}{v v':Value}{ns':List Q0p}(h:Q1i w w' bb v v' ns'){k:Nat}(hk:k<w.heap.size)(hn:¬Q86 bb v k):¬Q86 bb v' k:=by
 rintro(rfl|h1)
 ·exact hn(.inl rfl)
 rcases h.foot' k h1 with h2|h2
 ·exact hn(.inr h2)
 omega
theorem Q1i.put{a b:World}{bb:Nat}{v v':Value}{ns':List Q0p}(h:Q1i a b bb v v' ns'){p:Addr}(hk:a.heap.size<=p.block)(hf:¬Q86 bb v' p.block)(u:Value):Q1i a(b.setCell p u)bb v v' ns' :=
 h.behind(S:=fun i=>i=p.block)(Mod.setCell(S:=fun i=>i=p.block)(mRf _ _)(fun _=>rfl)u)(fun i hi=>by rw[hi];exact hk)(fun i hi e=>hf(by rw[← e];exact hi))
theorem Q1i.alloc{a b:World}{bb:Nat}{v v':Value}{ns':List Q0p}(h:Q1i a b bb v v' ns')(o:Obj):Q1i a(b.alloc o)bb v v' ns' :=
 h.behind(S:=fun _=>False)((mRf _ _).alloc o)(fun _ x=>x.elim)(fun _ _ x=>x)
theorem Q1i.loc{W w':World}{bb:Nat}{v v':Value}{ns':List Q0p}(g:Q1i W w' bb v v' ns'){k:Nat}{cs:Array Value}{e:TypeId}{f:Nat × Nat}(hb:W.heap[k]? = some(.cells cs e f))(hn:¬Q86 bb v k)(o:Nat) :
  w'.cell?⟨k,o,none⟩=cs[o]? := Q0b(g.mod.at hb hn)o
theorem z1g(w:World)(A B C:Obj):(((w.alloc A).alloc B).alloc C).heap[w.heap.size]? = some A:=z0b(z0b(z0a _ _))
theorem z06(w:World)(A B C:Obj):(((w.alloc A).alloc B).alloc C).heap[w.heap.size+1]? = some B:=z0b(heap_alloc2_new _ _ _)
theorem z00(w:World)(A B C:Obj):(((w.alloc A).alloc B).alloc C).heap[w.heap.size+2]? = some C:=by
 have:=z0a((w.alloc A).alloc B)C;simpa using this
theorem Q3n:(Tryz.prog.info? 213).map(·.size)=some 2:=by kernel_rfl
theorem x71(w:World)(bb:Nat)(v:Value)(ns:List Q0p)(a b c d:Int)(h:BAt w bb v ns)(hn:ns.length<=100000) :
  Calls Tryz.prog 137#[Q3b bb,Q77 a b,Q77 c d]w fun e w'=>e=.returned(Q77 a d)/\∃v',Q1i w w' bb v v'(Q1h ns b c):=by
 have H:Hid _:=h;have hN:=fun k(hk:w.heap.size<=k)=>h.not_foot hk;have HN:Hid _:=hN;clear h hN;go_enter Tryz.func137,Tryz.ntmps137
 go_wp2_with(go_at_call 139;refine(z1l _ bb v ns _ _(H.out.fresh(((((mRf _ w).alloc _).alloc _).alloc _)))(by omega)).mono ?_;rintro e w1⟨rfl,v1,h1⟩;have k1:=Q0b(h1.mod.at(z1g _ _ _ _)(HN.out _(by omega)));have k2:=Q0b(h1.mod.at(z06 _ _ _ _)(HN.out _(by omega)));have k3:=Q0b(h1.mod.at(z00 _ _ _ _)(HN.out _(by omega)));have k4:=Q0h(h1.mod.at(z00 _ _ _ _)(HN.out _(by omega))))
 refine bodyPost_ret(results_cell_row rfl _ _(w.heap.size+2)213#[.int .i64 a,.int .i64 d](0,0)_ rfl ?_ Tryz.underlying213 rfl Q3n)rfl⟨rfl,v1,?_⟩
 ·rw[zhs(zhs(h1.mod.at(z00 _ _ _ _)(HN.out _(by omega)))0 _)1 _];rfl
 have hf:=h1.nf(k:=w.heap.size+2)(by simp)(HN.out _(by omega));exact((Q1i.ahead((((mRf _ w).alloc _).alloc _).alloc _)h1).put(by simp;omega)hf _).put(by simp;omega)hf _
def Q37(ns:List Q0p)(a b c d:Int):List Q0p :=
 Q1h(Q1h(Q1h(Q1h(ns++[Q0f]++[Q0f])ns.length a)ns.length c)b(ns.length+1))d(ns.length+1)
theorem x0u(w:World)(bb:Nat)(v:Value)(ns:List Q0p)(a b c d:Int)(h:BAt w bb v ns)(hn:ns.length<=50000) :
  Calls Tryz.prog 132#[Q3b bb,Q77 a b,Q77 c d]w fun e w'=>e=.returned(Q77 ns.length(ns.length+1))/\∃v',Q1i w w' bb v v'(Q37 ns a b c d):=by
 have H:Hid _:=h;have hN:=fun k(hk:w.heap.size<=k)=>h.not_foot hk;have HN:Hid _:=hN;clear h hN;go_enter Tryz.func132,Tryz.ntmps132
 go_wp2_with(go_at_call 138;refine(z1o _ bb v ns(H.out.fresh(((((mRf _ w).alloc _).alloc _).alloc _)))(by omega)).mono ?_;rintro e w1⟨rfl,v1,h1⟩)
 go_wp2_with(go_at_call 138;refine(z1o _ bb v1 _ h1.at'(by simp;omega)).mono ?_;rintro e w2⟨rfl,v2,h2⟩;have g2:=h1.trans h2;have k1:=g2.loc(z1g _ _ _ _)(HN.out _(by omega));have k2:=g2.loc(z06 _ _ _ _)(HN.out _(by omega));clear h1 h2)
 clear k1 k2;go_wp2_with(go_at_call 139;refine(z1l _ bb v2 _ _ _ g2.at'(by simp;omega)).mono ?_;rintro e w3⟨rfl,v3,h3⟩;have g3:=g2.trans h3;have k1:=g3.loc(z1g _ _ _ _)(HN.out _(by omega));have k2:=g3.loc(z06 _ _ _ _)(HN.out _(by omega));clear g2 h3)
 clear k1 k2;go_wp2_with(go_at_call 139;refine(z1l _ bb v3 _ _ _ g3.at'(by rw[z0n];simp;omega)).mono ?_;rintro e w4⟨rfl,v4,h4⟩;have g4:=g3.trans h4;have k1:=g4.loc(z1g _ _ _ _)(HN.out _(by omega));have k2:=g4.loc(z06 _ _ _ _)(HN.out _(by omega));clear g3 h4)
 clear k1 k2;go_wp2_with(go_at_call 139;refine(z1l _ bb v4 _ _ _ g4.at'(by rw[z0n,z0n];simp;omega)).mono ?_;rintro e w5⟨rfl,v5,h5⟩;have g5:=g4.trans h5;have k1:=g5.loc(z1g _ _ _ _)(HN.out _(by omega));have k2:=g5.loc(z06 _ _ _ _)(HN.out _(by omega));clear g4 h5)
 clear k1 k2;go_wp2_with(go_at_call 139;refine(z1l _ bb v5 _ _ _ g5.at'(by rw[z0n,z0n,z0n];simp;omega)).mono ?_;rintro e w6⟨rfl,v6,h6⟩;have g6:=g5.trans h6;have k3:=g6.loc(z00 _ _ _ _)(HN.out _(by omega));have k4:=Q0h(g6.mod.at(z00 _ _ _ _)(HN.out _(by omega)));clear g5 h6)
 refine bodyPost_ret(results_cell_row rfl _ _(w.heap.size+2)213#[.int .i64 ns.length,.int .i64(ns.length+1)](0,0)_ rfl ?_ Tryz.underlying213 rfl Q3n)rfl⟨rfl,v6,?_⟩
 ·rw[zhs(zhs(g6.mod.at(z00 _ _ _ _)(HN.out _(by omega)))0 _)1 _];rfl
 have hf:=g6.nf(k:=w.heap.size+2)(by simp)(HN.out _(by omega));have:=((Q1i.ahead((((mRf _ w).alloc _).alloc _).alloc _)g6).put(p:=⟨w.heap.size+2,0,none⟩)(by simp)hf(.int .i64 ns.length)).put(p:=⟨w.heap.size+2,1,none⟩)(by simp)hf(.int .i64(ns.length+1));exact this
def Q19(ns:List Q0p)(a b m:Int):List Q0p :=
 let n1:=Q1h(Q1h(ns++[Q0f]++[Q0f])ns.length a)b(ns.length+1)
 let n2:=if m=43 then n1 else Q1h n1 ns.length(ns.length+1)
 if m=63 then n2 else Q1h n2 b a
theorem y6x(w:World)(bb:Nat)(v:Value)(ns:List Q0p)(a b m:Int)(h:BAt w bb v ns)(hn:ns.length<=50000)(hm:m=43) :
  Calls Tryz.prog 142#[Q3b bb,Q77 a b,.int .i64 m]w fun e w'=>e=.returned(Q77 ns.length(ns.length+1))/\∃v',Q1i w w' bb v v'(Q19 ns a b m):=by
 have H:Hid _:=h;have hN:=fun k(hk:w.heap.size<=k)=>h.not_foot hk;have HN:Hid _:=hN;have E:Hid(Q19 ns a b m=Q1h(Q1h(Q1h(ns++[Q0f]++[Q0f])ns.length a)b(ns.length+1))b a):=by unfold Hid Q19;simp[hm]
 have m1:(m != 43)=false:=by simp[hm]
 have m2:(m != 63)=true:=by simp[hm]
 clear hm;clear h hN;go_enter Tryz.func142,Tryz.ntmps142
 go_wp2_with(go_at_call 138;refine(z1o _ bb v ns(H.out.fresh((((mRf _ w).alloc _).alloc _)))(by omega)).mono ?_;rintro e w1⟨rfl,v1,h1⟩)
 go_wp2_with(go_at_call 138;refine(z1o _ bb v1 _ h1.at'(by simp;omega)).mono ?_;rintro e w2⟨rfl,v2,h2⟩;have g2:=h1.trans h2;have k1:=g2.loc(heap_alloc2_old _ _ _)(HN.out _(by omega));clear h1 h2)
 clear k1;go_wp2_with(go_at_call 139;refine(z1l _ bb v2 _ _ _ g2.at'(by simp;omega)).mono ?_;rintro e w3⟨rfl,v3,h3⟩;have g3:=g2.trans h3;have k1:=g3.loc(heap_alloc2_old _ _ _)(HN.out _(by omega));clear g2 h3)
 clear k1;go_wp2_with(go_at_call 139;refine(z1l _ bb v3 _ _ _ g3.at'(by rw[z0n];simp;omega)).mono ?_;rintro e w4⟨rfl,v4,h4⟩;have g4:=g3.trans h4;have k1:=g4.loc(heap_alloc2_old _ _ _)(HN.out _(by omega));clear g3 h4)
 clear k1;go_wp2_with(go_at_call 139;refine(z1l _ bb v4 _ _ _ g4.at'(by rw[z0n,z0n];simp;omega)).mono ?_;rintro e w5⟨rfl,v5,h5⟩;have g5:=g4.trans h5;have k3:=g5.loc(heap_alloc2_new _ _ _)(HN.out _(by omega));have k4:=Q0h(g5.mod.at(heap_alloc2_new _ _ _)(HN.out _(by omega)));clear g4 h5)
 refine bodyPost_ret(results_cell_row rfl _ _(w.heap.size+1)213#[.int .i64 ns.length,.int .i64(ns.length+1)](0,0)_ rfl ?_ Tryz.underlying213 rfl Q3n)rfl⟨rfl,v5,?_⟩
 ·rw[zhs(zhs(g5.mod.at(heap_alloc2_new _ _ _)(HN.out _(by omega)))0 _)1 _];rfl
 have hf:=g5.nf(k:=w.heap.size+1)(by simp)(HN.out _(by omega));have:=((Q1i.ahead(((mRf _ w).alloc _).alloc _)g5).put(p:=⟨w.heap.size+1,0,none⟩)(by simp)hf(.int .i64 ns.length)).put(p:=⟨w.heap.size+1,1,none⟩)(by simp)hf(.int .i64(ns.length+1));rw[E.out];exact this
theorem x0g(w:World)(bb:Nat)(v:Value)(ns:List Q0p)(a b m:Int)(h:BAt w bb v ns)(hn:ns.length<=50000)(hm:m=63) :
  Calls Tryz.prog 142#[Q3b bb,Q77 a b,.int .i64 m]w fun e w'=>e=.returned(Q77 ns.length(ns.length+1))/\∃v',Q1i w w' bb v v'(Q19 ns a b m):=by
 have H:Hid _:=h;have hN:=fun k(hk:w.heap.size<=k)=>h.not_foot hk;have HN:Hid _:=hN;have E:Hid(Q19 ns a b m=Q1h(Q1h(Q1h(ns++[Q0f]++[Q0f])ns.length a)b(ns.length+1))ns.length(ns.length+1)):=by unfold Hid Q19;simp[hm]
 have m1:(m != 43)=true:=by simp[hm]
 have m2:(m != 63)=false:=by simp[hm]
 clear hm;clear h hN;go_enter Tryz.func142,Tryz.ntmps142
 go_wp2_with(go_at_call 138;refine(z1o _ bb v ns(H.out.fresh((((mRf _ w).alloc _).alloc _)))(by omega)).mono ?_;rintro e w1⟨rfl,v1,h1⟩)
 go_wp2_with(go_at_call 138;refine(z1o _ bb v1 _ h1.at'(by simp;omega)).mono ?_;rintro e w2⟨rfl,v2,h2⟩;have g2:=h1.trans h2;have k1:=g2.loc(heap_alloc2_old _ _ _)(HN.out _(by omega));clear h1 h2)
 clear k1;go_wp2_with(go_at_call 139;refine(z1l _ bb v2 _ _ _ g2.at'(by simp;omega)).mono ?_;rintro e w3⟨rfl,v3,h3⟩;have g3:=g2.trans h3;have k1:=g3.loc(heap_alloc2_old _ _ _)(HN.out _(by omega));clear g2 h3)
 clear k1;go_wp2_with(go_at_call 139;refine(z1l _ bb v3 _ _ _ g3.at'(by rw[z0n];simp;omega)).mono ?_;rintro e w4⟨rfl,v4,h4⟩;have g4:=g3.trans h4;have k1:=g4.loc(heap_alloc2_old _ _ _)(HN.out _(by omega));clear g3 h4)
 clear k1;go_wp2_with(go_at_call 139;refine(z1l _ bb v4 _ _ _ g4.at'(by rw[z0n,z0n];simp;omega)).mono ?_;rintro e w5⟨rfl,v5,h5⟩;have g5:=g4.trans h5;have k3:=g5.loc(heap_alloc2_new _ _ _)(HN.out _(by omega));have k4:=Q0h(g5.mod.at(heap_alloc2_new _ _ _)(HN.out _(by omega)));clear g4 h5)
 refine bodyPost_ret(results_cell_row rfl _ _(w.heap.size+1)213#[.int .i64 ns.length,.int .i64(ns.length+1)](0,0)_ rfl ?_ Tryz.underlying213 rfl Q3n)rfl⟨rfl,v5,?_⟩
 ·rw[zhs(zhs(g5.mod.at(heap_alloc2_new _ _ _)(HN.out _(by omega)))0 _)1 _];rfl
 have hf:=g5.nf(k:=w.heap.size+1)(by simp)(HN.out _(by omega));have:=((Q1i.ahead(((mRf _ w).alloc _).alloc _)g5).put(p:=⟨w.heap.size+1,0,none⟩)(by simp)hf(.int .i64 ns.length)).put(p:=⟨w.heap.size+1,1,none⟩)(by simp)hf(.int .i64(ns.length+1));rw[E.out];exact this
theorem y7a(w:World)(bb:Nat)(v:Value)(ns:List Q0p)(a b m:Int)(h:BAt w bb v ns)(hn:ns.length<=50000)(hm:m≠43)(hm2:m≠63) :
  Calls Tryz.prog 142#[Q3b bb,Q77 a b,.int .i64 m]w fun e w'=>e=.returned(Q77 ns.length(ns.length+1))/\∃v',Q1i w w' bb v v'(Q19 ns a b m):=by
 have H:Hid _:=h;have hN:=fun k(hk:w.heap.size<=k)=>h.not_foot hk;have HN:Hid _:=hN;have E:Hid(Q19 ns a b m=Q1h(Q1h(Q1h(Q1h(ns++[Q0f]++[Q0f])ns.length a)b(ns.length+1))ns.length(ns.length+1))b a):=by unfold Hid Q19;simp[hm,hm2]
 have m1:(m != 43)=true:=by simpa using hm
 have m2:(m != 63)=true:=by simpa using hm2
 clear hm hm2;clear h hN;go_enter Tryz.func142,Tryz.ntmps142
 go_wp2_with(go_at_call 138;refine(z1o _ bb v ns(H.out.fresh((((mRf _ w).alloc _).alloc _)))(by omega)).mono ?_;rintro e w1⟨rfl,v1,h1⟩)
 go_wp2_with(go_at_call 138;refine(z1o _ bb v1 _ h1.at'(by simp;omega)).mono ?_;rintro e w2⟨rfl,v2,h2⟩;have g2:=h1.trans h2;have k1:=g2.loc(heap_alloc2_old _ _ _)(HN.out _(by omega));clear h1 h2)
 clear k1;go_wp2_with(go_at_call 139;refine(z1l _ bb v2 _ _ _ g2.at'(by simp;omega)).mono ?_;rintro e w3⟨rfl,v3,h3⟩;have g3:=g2.trans h3;have k1:=g3.loc(heap_alloc2_old _ _ _)(HN.out _(by omega));clear g2 h3)
 clear k1;go_wp2_with(go_at_call 139;refine(z1l _ bb v3 _ _ _ g3.at'(by rw[z0n];simp;omega)).mono ?_;rintro e w4⟨rfl,v4,h4⟩;have g4:=g3.trans h4;have k1:=g4.loc(heap_alloc2_old _ _ _)(HN.out _(by omega));clear g3 h4)
 clear k1;go_wp2_with(go_at_call 139;refine(z1l _ bb v4 _ _ _ g4.at'(by rw[z0n,z0n];simp;omega)).mono ?_;rintro e w5⟨rfl,v5,h5⟩;have g5:=g4.trans h5;have k1:=g5.loc(heap_alloc2_old _ _ _)(HN.out _(by omega));clear g4 h5)
 clear k1;go_wp2_with(go_at_call 139;refine(z1l _ bb v5 _ _ _ g5.at'(by rw[z0n,z0n,z0n];simp;omega)).mono ?_;rintro e w6⟨rfl,v6,h6⟩;have g6:=g5.trans h6;have k3:=g6.loc(heap_alloc2_new _ _ _)(HN.out _(by omega));have k4:=Q0h(g6.mod.at(heap_alloc2_new _ _ _)(HN.out _(by omega)));clear g5 h6)
 refine bodyPost_ret(results_cell_row rfl _ _(w.heap.size+1)213#[.int .i64 ns.length,.int .i64(ns.length+1)](0,0)_ rfl ?_ Tryz.underlying213 rfl Q3n)rfl⟨rfl,v6,?_⟩
 ·rw[zhs(zhs(g6.mod.at(heap_alloc2_new _ _ _)(HN.out _(by omega)))0 _)1 _];rfl
 have hf:=g6.nf(k:=w.heap.size+1)(by simp)(HN.out _(by omega));have:=((Q1i.ahead(((mRf _ w).alloc _).alloc _)g6).put(p:=⟨w.heap.size+1,0,none⟩)(by simp)hf(.int .i64 ns.length)).put(p:=⟨w.heap.size+1,1,none⟩)(by simp)hf(.int .i64(ns.length+1));rw[E.out];exact this
theorem y99(w:World)(bb:Nat)(v:Value)(ns:List Q0p)(a b m:Int)(h:BAt w bb v ns)(hn:ns.length<=50000) :
  Calls Tryz.prog 142#[Q3b bb,Q77 a b,.int .i64 m]w fun e w'=>e=.returned(Q77 ns.length(ns.length+1))/\∃v',Q1i w w' bb v v'(Q19 ns a b m):=by
 by_cases h1:m=43
 ·exact y6x w bb v ns a b m h hn h1
 by_cases h2:m=63
 ·exact x0g w bb v ns a b m h hn h2
 exact y7a w bb v ns a b m h hn h1 h2
theorem z82(ns:List Q0p)(a b m:Int):(Q19 ns a b m).length=ns.length+2:=by
 unfold Q19;dsimp only;split<;>split<;>simp[z0n]
theorem y7n(ns:List Q0p)(a b c d:Int):(Q37 ns a b c d).length=ns.length+2:=by
 unfold Q37;simp[z0n]
def Q4n(ws:List Int)(e:Int):Q0p:=⟨true,ws,e,-1⟩
def Q8y(ns:List Q0p)(ws:List Int):List Q0p:=ns++[Q0f]++[Q4n ws ns.length]
theorem y6m(w:World)(bb:Nat)(v:Value)(ns:List Q0p)(ws:List Int)(h:BAt w bb v ns)(hn:ns.length<=50000)(hl:ws.length=4) :
  Calls Tryz.prog 146#[Q3b bb,.agg(Q51 ws)]w fun e w'=>e=.returned(Q77(ns.length+1)ns.length)/\∃v',Q1i w w' bb v v'(Q8y ns ws):=by
 obtain⟨i0,hi,hz0,hz1,j4⟩:=Q9f;obtain⟨a,b,c,d,hws⟩:=four hl;have HW:Hid(ws=[a,b,c,d]):=hws;have e1:Q51 ws=#[.int .u64 a,.int .u64 b,.int .u64 c,.int .u64 d]:=by rw[hws];rfl
 rw[e1];have H:Hid _:=h;have hN:=fun k(hk:w.heap.size<=k)=>h.not_foot hk;have HN:Hid _:=hN;clear hws e1 h hN hl;go_enter Tryz.func146,Tryz.ntmps146
 go_wp2_with(go_at_call 138;refine(z1o _ bb v ns(H.out.fresh((((mRf _ w).alloc _).alloc _)))(by omega)).mono ?_;rintro e w1⟨rfl,v1,h1⟩)
 have k1:=h1.loc(heap_alloc2_old _ _ _)(HN.out _(by omega));obtain⟨ao,cap,hv⟩:=z0d h1.at'.own;have k2:=Q0b h1.at'.blk 0;have k3:=Q0h h1.at'.blk 0;have H1:Hid _:=h1;clear h1;subst hv;simp at k2;have HO:Hid(∀o:Obj,(w1.alloc o).drew.ownsRow(bb+1)206 7(.slice ao(ns++[Q0f]).length cap)(ns++[Q0f]).length(Q4w(ns++[Q0f]))):=fun o=>H1.out.at'.own.alloc o;have HB:Hid(∀(o:Obj)(v':Value)(w2:World),(w1.alloc o).drew.grownBy w2(Value.ownBlock(.slice ao(ns++[Q0f]).length cap))->w2.heap[bb]? = some(.cells#[.slice ao(ns++[Q0f]).length cap]211(0,0))):=by
  intro o v' w2 hg;have hl:=H1.out.at'.lt;rw[hg.block bb(by simp[World.drew];omega)(fun e=>by have:=H1.out.at'.own_lt bb e.symm;omega)];show(w1.alloc o).heap[bb]? = _;rw[z0w hl];exact H1.out.at'.blk
 have j7:w.heap.size+1<w1.heap.size:=by have:=H1.out.mod.size;simp at this;omega
 have jc:bb<w1.heap.size:=H1.out.at'.lt;go_region_law(refine z7y _ rfl(.tmp 12)(.tmp 16)112 rfl(bb+1)206 i0 _ 7 56 Tryz.underlying112 hi hz0 hz1 j4 rfl(by decide)(.slice ao(ns++[Q0f]).length cap)_ _(by simp[Act.eval,Act.put])(HO.out _)⟨w1.heap.size,0,none⟩1 1 [.bool true,.int .u64 a,.int .u64 b,.int .u64 c,.int .u64 d,.int .i64 ns.length,.int .i64(-1)](by simp[Act.eval,Act.put])rfl(z0l rfl)(by intro u hu;simp at hu;rcases hu with rfl|rfl|rfl|rfl|rfl|rfl|rfl<;>rfl)(by unfold maxLen;simp;omega)(by simp;omega)(by simp[World.drew];omega)?_;intro v' w2 hown hgrow hblk;obtain⟨a',cap',hv'⟩:=z0d hown;have ja:=Q0b(HB.out _ v' w2 hgrow)0;have j4:=Q0h(HB.out _ v' w2 hgrow)0;have j8:Hid _:=hown;have j5:Hid _:=hgrow;clear hown hgrow;subst hv')
 all_goals
  have j2:=H1.out.nf(k:=w.heap.size+1)(by simp)(HN.out _(by omega));have j0:w2.heap[w.heap.size+1]? = some(.cells#[.int .i64 0,.int .i64 0]213(0,0)):=by
   rw[j5.out.block _(by simp[World.drew];omega)(fun e=>j2(.inr e.symm))];exact z0b(H1.out.mod.at(heap_alloc2_new _ _ _)(HN.out _(by omega)))
  have j6:w.heap.size+1≠bb:=by have:=H.out.lt;omega
  have jb:=Q0b j0;have jd:=Q0h j0;have HR:Hid _:=j0;have j9:Hid _:=j2;have HE:Hid _:=j6;clear j0 j2 k1;go_wp2;have fin:=badd(n:=Q4n ws ns.length)H1.out.at'(((mRf _ w1).alloc _).drew)(by rw[HW.out];rfl)(by rw[HW.out];exact j8.out)j5.out(by simpa [World.drew]using hblk);have j3:=H1.out.trans fin;have j1:=fin.nf(k:=w.heap.size+1)(by omega)j9.out;refine bodyPost_ret(results_cell_row rfl _ _(w.heap.size+1)213#[.int .i64(ns.length+1),.int .i64 ns.length](0,0)_ rfl ?_ Tryz.underlying213 rfl Q3n)rfl⟨rfl,.slice a'((ns++[Q0f]).length+1)cap',?_⟩
  ·rw[zhs(zhs(z0i HR.out HE.out)0 _)1 _];rfl
  have:=((Q1i.ahead(((mRf _ w).alloc _).alloc _)j3).put(p:=⟨w.heap.size+1,0,none⟩)(by simp)j1(.int .i64(ns.length+1))).put(p:=⟨w.heap.size+1,1,none⟩)(by simp)j1(.int .i64 ns.length);simpa [Q8y]using this
theorem x6p(ns:List Q0p)(ws:List Int):(Q8y ns ws).length=ns.length+2:=by simp[Q8y]
structure PR where
 st:Int
 en:Int
 next:Int
 ok:Bool
 ns:List Q0p
def Q5w(g:Int->List Q0p->PR)(s:ByteArray)(i:Int)(ns:List Q0p):PR :=
 if atB s i=40 then g i ns
 else if(Q2t s i).2.2=false then⟨0,0,(Q2t s i).2.1,false,ns⟩
 else⟨ns.length+1,ns.length,(Q2t s i).2.1,true,Q8y ns(Q2t s i).1⟩
def Q1y(c:Int):Bool:=c==42||c==43||c==63
def Q3w(s:ByteArray):Nat->PR->PR
 |0,r=>r
 |f+1,r =>
  if(r.ok&&Q1y(atB s r.next))=true then Q3w s f⟨r.ns.length,r.ns.length+1,r.next+1,true,Q19 r.ns r.st r.en(atB s r.next)⟩
  else r
def Q70(a:Int->List Q0p->PR)(s:ByteArray)(i:Int)(ns:List Q0p):PR:=Q3w s(s.size+5)(a i ns)
def Q7j(r p:PR):PR:=if p.ok then⟨r.st,p.en,p.next,true,Q1h p.ns r.en p.st⟩else⟨r.st,r.en,p.next,false,p.ns⟩
def Q2q(p:Int->List Q0p->PR)(s:ByteArray):Nat->PR->PR
 |0,r=>r
 |f+1,r=>if(r.ok&&Q2w s r.next)=true then Q2q p s f(Q7j r(p r.next r.ns))else r
def Q6i(p:Int->List Q0p->PR)(s:ByteArray)(i:Int)(ns:List Q0p):PR:=Q2q p s(s.size+5)(p i ns)
def Q39(r p:PR):PR:=if p.ok then⟨p.ns.length,p.ns.length+1,p.next,true,Q37 p.ns r.st r.en p.st p.en⟩else⟨r.st,r.en,p.next,false,p.ns⟩
def Q2r(p:Int->List Q0p->PR)(s:ByteArray):Nat->PR->PR
 |0,r=>r
 |f+1,r=>if(r.ok&&(atB s r.next==124))=true then Q2r p s f(Q39 r(p(r.next+1)r.ns))else r
def Q6o(p:Int->List Q0p->PR)(s:ByteArray)(i:Int)(ns:List Q0p):PR:=Q2r p s(s.size+5)(p i ns)
def Q52(c:Int->List Q0p->PR)(s:ByteArray)(i:Int)(ns:List Q0p):PR :=
 if(c(i+1)ns).ok=false then⟨0,0,(c(i+1)ns).next,false,(c(i+1)ns).ns⟩
 else if atB s(c(i+1)ns).next≠41 then⟨0,0,(c(i+1)ns).next,false,(c(i+1)ns).ns⟩
 else⟨(c(i+1)ns).st,(c(i+1)ns).en,(c(i+1)ns).next+1,true,(c(i+1)ns).ns⟩
def gK(s:ByteArray):Nat->Int->List Q0p->PR
 |0=>fun i ns=>⟨0,0,i,false,ns⟩
 |k+1=>Q52(Q6o(Q6i(Q70(Q5w(gK s k)s)s)s)s)s
def chK(s:ByteArray)(k:Nat):Int->List Q0p->PR:=Q6o(Q6i(Q70(Q5w(gK s k)s)s)s)s
structure Q8s(s:ByteArray)(i:Int)(n0:Nat)(r:PR):Prop where
 lo:i<=r.next
 hi:r.next<=2*s.size+20
 good:r.ok=true->i<r.next/\r.next<=s.size
 cnt:(r.ns.length:Int)<=n0+2*(r.next-i)
def Q5u(s:ByteArray)(f:Int->List Q0p->PR):Prop:=∀(i:Int)(ns:List Q0p),0<=i->i<=s.size->Q8s s i ns.length(f i ns)
theorem x2f{g:Int->List Q0p->PR}{s:ByteArray}(hg:Q5u s g):Q5u s(Q5w g s):=by
 intro i ns h0 h1;have hb:=y3c s i h0;unfold Q5w;split
 ·exact hg i ns h0 h1
 split
 ·exact⟨hb.1,by dsimp only;omega,by simp,by dsimp only;omega⟩
 rename_i h3;have h4:=hb.2.2(by simpa using h3);exact⟨hb.1,by dsimp only;omega,fun _=>h4,by dsimp only;rw[x6p];omega⟩
theorem z95(s:ByteArray)(i:Int)(n0:Nat)(hi:0<=i):∀(f:Nat)(r:PR),Q8s s i n0 r->Q8s s i n0(Q3w s f r)
 |0,r,h=>h
 |f+1,r,h=>by
  unfold Q3w;split
  ·rename_i h3;simp only[Bool.and_eq_true]at h3;have h4:=h.good h3.1;have h5:atB s r.next≠-1:=by intro e;rw[e]at h3;simp[Q1y]at h3
   have h6:=z0q h5;exact z95 s i n0 hi f _⟨by dsimp only;omega,by dsimp only;omega,fun _=>by dsimp only;omega,by dsimp only;rw[z82];have:=h.cnt;omega⟩
  exact h
theorem z3z{a:Int->List Q0p->PR}{s:ByteArray}(ha:Q5u s a):Q5u s(Q70 a s):=by
 intro i ns h0 h1;exact z95 s i _ h0 _ _(ha i ns h0 h1)
theorem y0t{s:ByteArray}{i:Int}{n0:Nat}{r p:PR}(h0:0<=i)(h:Q8s s i n0 r)(hok:r.ok=true)(hp:Q8s s r.next r.ns.length p):Q8s s i n0(Q7j r p):=by
 have h4:=h.good hok;have h7:=hp.cnt;have h8:=h.cnt;unfold Q7j;split
 ·rename_i h5;have h6:=hp.good h5;exact⟨by dsimp only;omega,by dsimp only;omega,fun _=>by dsimp only;omega,by dsimp only;rw[z0n];omega⟩
 exact⟨by have:=hp.lo;dsimp only;omega,hp.hi,by simp,by dsimp only;omega⟩
theorem z7n{s:ByteArray}{i:Int}{n0:Nat}{r p:PR}(h0:0<=i)(h:Q8s s i n0 r)(hok:r.ok=true)(hp:Q8s s(r.next+1)r.ns.length p):Q8s s i n0(Q39 r p):=by
 have h4:=h.good hok;have h7:=hp.cnt;have h8:=h.cnt;unfold Q39;split
 ·rename_i h5;have h6:=hp.good h5;exact⟨by dsimp only;omega,by dsimp only;omega,fun _=>by dsimp only;omega,by dsimp only;rw[y7n];omega⟩
 exact⟨by have:=hp.lo;dsimp only;omega,hp.hi,by simp,by dsimp only;omega⟩
theorem z7j{p:Int->List Q0p->PR}{s:ByteArray}(hp:Q5u s p)(i:Int)(n0:Nat)(hi:0<=i):∀(f:Nat)(r:PR),Q8s s i n0 r->Q8s s i n0(Q2q p s f r)
 |0,r,h=>h
 |f+1,r,h=>by
  unfold Q2q;split
  ·rename_i h3;simp only[Bool.and_eq_true]at h3;have h4:=h.good h3.1;exact z7j hp i n0 hi f _(y0t hi h h3.1(hp r.next r.ns(by omega)(by omega)))
  exact h
theorem z4o{p:Int->List Q0p->PR}{s:ByteArray}(hp:Q5u s p):Q5u s(Q6i p s):=by
 intro i ns h0 h1;exact z7j hp i _ h0 _ _(hp i ns h0 h1)
theorem z7k{p:Int->List Q0p->PR}{s:ByteArray}(hp:Q5u s p)(i:Int)(n0:Nat)(hi:0<=i):∀(f:Nat)(r:PR),Q8s s i n0 r->Q8s s i n0(Q2r p s f r)
 |0,r,h=>h
 |f+1,r,h=>by
  unfold Q2r;split
  ·rename_i h3;simp only[Bool.and_eq_true,beq_iff_eq]at h3;have h4:=h.good h3.1;have h6:=z0q(s:=s)(i:=r.next)(by omega);exact z7k hp i n0 hi f _(z7n hi h h3.1(hp(r.next+1)r.ns(by omega)(by omega)))
  exact h
theorem z93{p:Int->List Q0p->PR}{s:ByteArray}(hp:Q5u s p):Q5u s(Q6o p s):=by
 intro i ns h0 h1;exact z7k hp i _ h0 _ _(hp i ns h0 h1)
theorem x0p{c:Int->List Q0p->PR}{s:ByteArray}(hc:Q5u s c)(i:Int)(ns:List Q0p)(h0:0<=i)(h1:i<s.size):Q8s s i ns.length(Q52 c s i ns):=by
 have h:=hc(i+1)ns(by omega)(by omega);have hl:=h.lo;have hk:=h.cnt;have hh:=h.hi;unfold Q52;split
 ·exact⟨by dsimp only;omega,h.hi,by simp,by dsimp only;omega⟩
 rename_i h3;have h4:=h.good(by simpa using h3);split
 ·exact⟨by dsimp only;omega,h.hi,by simp,by dsimp only;omega⟩
 rename_i h5;have h6:=z0q(s:=s)(i:=(c(i+1)ns).next)(by omega);exact⟨by dsimp only;omega,by dsimp only;omega,fun _=>by dsimp only;omega,by dsimp only;omega⟩
def GoodG(s:ByteArray)(f:Int->List Q0p->PR):Prop:=∀(i:Int)(ns:List Q0p),0<=i->i<s.size->Q8s s i ns.length(f i ns)
theorem z3h{g:Int->List Q0p->PR}{s:ByteArray}(hg:GoodG s g):Q5u s(Q5w g s):=by
 intro i ns h0 h1;by_cases hc:atB s i=40
 ·have h6:=z0q(s:=s)(i:=i)(by omega);unfold Q5w;rw[if_pos hc];exact hg i ns h0 h6.2
 have:=x2f(g:=fun i ns=>⟨0,0,i,false,ns⟩)(s:=s)(fun i ns h0 h1=>⟨by simp,by dsimp only;omega,by simp,by simp⟩)i ns h0 h1;unfold Q5w at this ⊢;rw[if_neg hc]at this ⊢;exact this
theorem z6x(s:ByteArray):∀k,GoodG s(gK s k)
 |0=>fun i ns h0 h1=>⟨by simp[gK],by simp[gK];omega,by simp[gK],by simp[gK]⟩
 |k+1=>fun i ns h0 h1=>x0p(z93(z4o(z3z(z3h(z6x s k)))))i ns h0 h1
theorem z5e(s:ByteArray)(k:Nat):Q5u s(chK s k):=z93(z4o(z3z(z3h(z6x s k))))
abbrev Q7a(r:PR):Value:=.tuple#[Q77 r.st r.en,.int .i64 r.next,.bool r.ok]
def Con(fid:FuncId)(s:ByteArray)(d:Int)(f:Int->List Q0p->PR):Prop :=
 ∀(i:Int)(ns:List Q0p)(w:World)(bb:Nat)(v:Value),0<=i->i<=s.size->(ns.length:Int)<=2*i->BAt w bb v ns ->
  Calls Tryz.prog fid#[Q3b bb,.string s,.int .i64 i,.int .i64 d]w fun e w'=>e=.returned(Q7a(f i ns))/\∃v',Q1i w w' bb v v'(f i ns).ns
def ConG(fid:FuncId)(s:ByteArray)(d:Int)(f:Int->List Q0p->PR):Prop :=
 ∀(i:Int)(ns:List Q0p)(w:World)(bb:Nat)(v:Value),0<=i->i<s.size->(ns.length:Int)<=2*i->BAt w bb v ns ->
  Calls Tryz.prog fid#[Q3b bb,.string s,.int .i64 i,.int .i64 d]w fun e w'=>e=.returned(Q7a(f i ns))/\∃v',Q1i w w' bb v v'(f i ns).ns
theorem y53(s:ByteArray)(d:Int)(g:Int->List Q0p->PR)(hs:s.size<=1000)(hd0:0<=d)(hd1:d<=100)(hg:ConG 144 s d g) :
  Con 141 s d(Q5w g s):=by
 intro i ns w bb v h0 h1 hn h;have H:Hid _:=h;have hN:=fun k(hk:w.heap.size<=k)=>h.not_foot hk;have HN:Hid _:=hN;clear h hN;by_cases hc:atB s i=40
 ·have j1:=z0q(s:=s)(i:=i)(by omega);have e1:Q5w g s i ns=g i ns:=by unfold Q5w;rw[if_pos hc]
  rw[e1];have c1:(atB s i==40)=true:=by simpa using hc
  clear e1 hc;go_enter Tryz.func141,Tryz.ntmps141
  go_wp2_with(first
   |(go_at_call 107;refine(z0v _ _ _(by unfold maxLen;omega)).mono ?_;rintro e w'⟨rfl,hw⟩;rw[hw];clear hw)
   |(go_at_call 144;refine(hg i ns _ bb v(by omega)(by omega)hn(H.out.fresh((mRf _ w).alloc _))).mono ?_;rintro e w1⟨rfl,v1,h1⟩;have k3:=h1.loc(z0a _ _)(HN.out _(by omega));have k4:=Q0h(h1.mod.at(z0a _ _)(HN.out _(by omega)))))
  have hf:=h1.nf(k:=w.heap.size)(by simp)(HN.out _(by omega));refine bodyPost_ret(z0h rfl _ _ w.heap.size 213#[.int .i64(g i ns).st,.int .i64(g i ns).en](0,0)_ rfl ?_ Tryz.underlying213 rfl Q3n)rfl⟨rfl,v1,?_⟩
  ·rw[zhs(zhs(h1.mod.at(z0a _ _)(HN.out _(by omega)))0 _)1 _];rfl
  exact((Q1i.ahead((mRf _ w).alloc _)h1).put(by simp)hf _).put(by simp)hf _
 have c1:(atB s i==40)=false:=by simpa using hc
 have hl:=x55 s i;obtain⟨b1,b2,b3⟩:=y3c s i h0;by_cases hok:(Q2t s i).2.2=false
 ·have e1:Q5w g s i ns=⟨0,0,(Q2t s i).2.1,false,ns⟩:=by unfold Q5w;rw[if_neg hc,if_pos hok]
  rw[e1];have c2:(!(Q2t s i).2.2)=true:=by simp[hok]
  have HL:Hid _:=hl;clear e1 hc hok hg b3 hl;go_enter Tryz.func141,Tryz.ntmps141
  go_wp2_with(first
   |(go_at_call 107;refine(z0v _ _ _(by unfold maxLen;omega)).mono ?_;rintro e w'⟨rfl,hw⟩;rw[hw];clear hw)
   |(go_at_call 145;refine(z80 _ _ _(by omega)(by omega)(by omega)).mono ?_;rintro e w1⟨rfl,hf1⟩;have hz:w.heap.size<w1.heap.size:=(by have:=hf1.size;simp at this;omega);have k3:=Q0b(hf1.at(z0a _ _)(fun x=>x));have k4:=Q0h(hf1.at(z0a _ _)(fun x=>x)))
   |(refine z0e rfl 204 _ _ rfl w1 _ _ _ rfl rfl rfl(Q64 _ HL.out)(eq4 rfl(u4 HL.out))(z09 _)?_))
  have hb:=hf1.at(z0a _ _)(fun x=>x);refine bodyPost_ret(z0h rfl _ _ w.heap.size 213#[.int .i64 0,.int .i64 0](0,0)_ rfl ?_ Tryz.underlying213 rfl Q3n)rfl⟨rfl,v,?_⟩
  ·refine z0b ?_;rw[zhs(zhs hb 0 _)1 _];rfl
  have m1:Q0a w w1:=((mRf _ w).alloc _).trans hf1;exact((((Q1i.ahead m1(Q1i.refl(H.out.fresh m1))).put(p:=⟨w.heap.size,0,none⟩)(by simp)(HN.out _(by simp))_).put(p:=⟨w.heap.size,1,none⟩)(by simp)(HN.out _(by simp))_).alloc _)
 have e1:Q5w g s i ns=⟨ns.length+1,ns.length,(Q2t s i).2.1,true,Q8y ns(Q2t s i).1⟩:=by unfold Q5w;rw[if_neg hc,if_neg hok]
 rw[e1];have c2:(!(Q2t s i).2.2)=false:=by simpa using hok
 have HL:Hid _:=hl;clear e1 hc hok hg b3 hl;go_enter Tryz.func141,Tryz.ntmps141
 go_wp2_with(first
  |(go_at_call 107;refine(z0v _ _ _(by unfold maxLen;omega)).mono ?_;rintro e w'⟨rfl,hw⟩;rw[hw];clear hw)
  |(go_at_call 145;refine(z80 _ _ _(by omega)(by omega)(by omega)).mono ?_;rintro e w1⟨rfl,hf1⟩;have hz:w.heap.size<w1.heap.size:=(by have:=hf1.size;simp at this;omega))
  |(go_at_call 146;refine(y6m _ bb v ns _(H.out.fresh(((((mRf _ w).alloc _).trans hf1).alloc _)))(by omega)HL.out).mono ?_;rintro e w2⟨rfl,v2,h2⟩;have hb:=h2.mod.at(z0b(hf1.at(z0a _ _)(fun x=>x)))(HN.out _(by omega));have k3:=Q0b hb;have k4:=Q0h hb)
  |(refine z0e rfl 204 _ _ rfl w1 _ _ _ rfl rfl rfl(Q64 _ HL.out)(eq4 rfl(u4 HL.out))(z09 _)?_)
  |(refine wpList_load_row rfl 204 _ rfl w1.heap.size rfl _ _ _ _(z0a _ _)Tryz.underlying204 rfl(Q64 _ HL.out)?_))
 have j0:=h2.nf(k:=w.heap.size)(by simp;omega)(HN.out _(by simp));refine bodyPost_ret(z0h rfl _ _ w.heap.size 213#[.int .i64(ns.length+1),.int .i64 ns.length](0,0)_ rfl ?_ Tryz.underlying213 rfl Q3n)rfl⟨rfl,v2,?_⟩
 ·rw[zhs(zhs hb 0 _)1 _];rfl
 exact((h2.ahead((((mRf _ w).alloc _).trans hf1).alloc _)).put(by simp)j0 _).put(by simp)j0 _
abbrev Q54(a b:Int):Obj:=.cells#[.int .i64 a,.int .i64 b]213(0,0)
theorem x07{c:Int}(h:Q1y c=true):((c != 42)=false)∨((c != 42)=true/\(c != 43)=false)∨((c != 42)=true/\(c != 43)=true/\(c != 63)=false):=by
 simp[Q1y]at h;rcases h with(rfl|rfl)|rfl<;>simp
theorem x7y{c:Int}(h:Q1y c=false):(c != 42)=true/\(c != 43)=true/\(c != 63)=true:=by
 simp[Q1y]at h;simp;omega
theorem y5j(s:ByteArray)(d:Int)(a:Int->List Q0p->PR)(hs:s.size<=1000)(hd0:0<=d)(hd1:d<=100)(hg:Q5u s a)(ha:Con 141 s d a) :
  Con 135 s d(Q70 a s):=by
 intro i ns w bb v h0 h1 hn h;have H:Hid _:=h;have hN:=fun k(hk:w.heap.size<=k)=>h.not_foot hk;have HN:Hid _:=hN;have G0:Hid _:=hg i ns h0 h1;clear h hN hg;generalize hR:Q70 a s i ns=R;have HR:Hid(Q3w s(s.size+5)(a i ns)=R):=hR;clear hR;go_enter Tryz.func135,Tryz.ntmps135
 go_wp2_with(first
  |(go_at_call 141;refine(ha i ns _ bb v(by omega)(by omega)hn(H.out.fresh((mRf _ w).alloc _))).mono ?_;rintro e w1⟨rfl,v1,h1⟩;have hz:w.heap.size<w1.heap.size:=(by have:=h1.mod.size;simp at this;omega)))
 have H1:Hid _:=h1;clear h1 ha;go_loopw [12](fun x wr=>∃(f:Nat)(r:PR)(vr:Value),x=.int .i64 r.next/\(a i ns).ok=r.ok/\Q3w s f r=R/\Q8s s i ns.length r/\(s.size:Int)+5<=f+r.next+(if r.ok then 0 else s.size+20) /\
   wr.heap[w.heap.size]? = some(Q54 0 0)/\wr.heap[w1.heap.size]? = some(Q54 r.st r.en)/\Q1i w wr bb v vr r.ns/\¬Q86 bb vr w.heap.size/\¬Q86 bb vr w1.heap.size)
   (fun x _=>3000-(intOf x).toNat)
 case atStart =>
  refine⟨s.size+5,a i ns,v1,rfl,rfl,HR.out,G0.out,by have:=G0.out.lo;split<;>omega,z0b(H1.out.mod.at(z0a _ _)(HN.out _(by simp))),z0a _ _,(Q1i.ahead((mRf _ w).alloc _)H1.out).alloc _,H1.out.nf(by simp)(HN.out _(by simp)),?_⟩;exact H1.out.at'.not_foot(qR _)
 obtain⟨f,r,vr,rfl,hok,hR,hG,hfu,hb0,hb1,hB,hn0,hn1⟩:=hrel;obtain⟨g1,g2,g3,g4⟩:=hG;have HB:Hid _:=hB;have j0:Hid _:=hb0;have j2:Hid _:=hb1;have k1:=Q0b hb1;clear hB hb0 hb1;simp only[hok];have j5:Hid _:=hok;clear hok;cases hro:r.ok
 ·-- no more
  have j3:r=R:=by
   rw[← hR];cases f with
   |zero=>rfl
   |succ f=>unfold Q3w;rw[if_neg(by simp[hro])]
  have k2:=Q0b j0.out;have k3:=Q0h j0.out;have j1:Hid _:=j3;clear hR hfu g3 j3;go_wp2;refine bodyPost_ret(z0h rfl _ _ w.heap.size 213#[.int .i64 r.st,.int .i64 r.en](0,0)_ rfl ?_ Tryz.underlying213 rfl Q3n)rfl⟨?_,vr,?_⟩
  ·rw[zhs(zhs j0.out 0 _)1 _];rfl
  ·rw[← j1.out];simp[Q7a,Q77,hro]
  rw[← j1.out];exact(HB.out.put(p:=⟨w.heap.size,0,none⟩)(by simp)hn0 _).put(p:=⟨w.heap.size,1,none⟩)(by simp)hn0 _
 have j6:=g3 hro;obtain⟨f,rfl⟩:∃g,f=g+1:=⟨f-1,by rw[hro]at hfu;simp at hfu;omega⟩;unfold Q3w at hR;cases hmk:Q1y(atB s r.next)
 ·rw[if_neg(by simp[hmk])]at hR;obtain⟨m1,m2,m3⟩:=x7y hmk;have k2:=Q0b j0.out;have k3:=Q0h j0.out;have j1:Hid _:=hR;clear hR hfu g3 hmk;go_wp2_with(first
   |(go_at_call 107;refine(z0v _ _ _(by unfold maxLen;omega)).mono ?_;rintro e w'⟨rfl,hw⟩;rw[hw];clear hw))
  refine bodyPost_ret(z0h rfl _ _ w.heap.size 213#[.int .i64 r.st,.int .i64 r.en](0,0)_ rfl ?_ Tryz.underlying213 rfl Q3n)rfl⟨?_,vr,?_⟩
  ·rw[zhs(zhs j0.out 0 _)1 _];rfl
  ·rw[← j1.out];simp[Q7a,Q77,hro]
  rw[← j1.out];exact(HB.out.put(p:=⟨w.heap.size,0,none⟩)(by simp)hn0 _).put(p:=⟨w.heap.size,1,none⟩)(by simp)hn0 _
 rw[if_pos(by simp[hmk,hro])]at hR;have j7:=z0q(s:=s)(i:=r.next)(by intro e;rw[e]at hmk;simp[Q1y]at hmk);have mc:=x07 hmk;have j1:Hid _:=hR;have j4:Hid _:=hfu;clear hR hfu g3 hmk;rcases mc with m1|⟨m1,m2⟩|⟨m1,m2,m3⟩;all_goals
  go_wp2_with(first
   |(go_at_call 107;refine(z0v _ _ _(by unfold maxLen;omega)).mono ?_;rintro e w'⟨rfl,hw⟩;rw[hw];clear hw)
   |(go_at_call 142;refine(y99 _ bb vr r.ns _ _ _ HB.out.at'(by omega)).mono ?_;rintro e w2⟨rfl,v2,h2⟩;have k2:=Q0b(h2.mod.at j2.out hn1);have k3:=Q0h(h2.mod.at j2.out hn1)))
  go_roundw
  case rel =>
   have q1:=z0j j2.out;have q0:=z0j j0.out;have n1:=h2.nf(k:=w1.heap.size)q1 hn1;have n0:=h2.nf(k:=w.heap.size)q0 hn0;refine⟨f,⟨r.ns.length,r.ns.length+1,r.next+1,true,Q19 r.ns r.st r.en(atB s r.next)⟩,v2,rfl,rfl,j1.out,⟨by dsimp only;omega,by dsimp only;omega,fun _=>by dsimp only;omega,by dsimp only;rw[z82];omega⟩,by have:=j4.out;simp[hro]at this;simp;omega,?_,?_,?_,n0,n1⟩
   ·exact z0i(z0i(h2.mod.at j0.out hn0)(by simp;omega))(by simp;omega)
   ·rw[zhs(zhs(h2.mod.at j2.out hn1)0 _)1 _];rfl
   exact((HB.out.trans h2).put(p:=⟨w1.heap.size,0,none⟩)(by simp;omega)n1 _).put(p:=⟨w1.heap.size,1,none⟩)(by simp;omega)n1 _
  simp[intOf];omega
end Go.Proofs.YtcpceafmlgaodaaGreat
