import Derived.Test.YtcpceafmlgaodaaGreatChars
import Derived.Lib.SmallJoins
import Derived.ArgAppend
import Derived.Deep.RegionLawGrows
namespace Go.Proofs.YtcpceafmlgaodaaGreat
open Go.RowKit
set_option maxRecDepth 100000
set_option maxHeartbeats 16000000
set_option linter.unusedVariables false
set_option linter.unusedSimpArgs false
theorem y8c{s:ByteArray}{i:Int}(h:atB s i=46):Q2t s i=(Q8z(Q2e Q07 10 10)4,i+1,true):=by unfold Q2t;rw[if_pos h]
theorem x2v{s:ByteArray}{i:Int}(h:atB s i=91):Q2t s i=rBr s(i+1):=by unfold Q2t;rw[if_neg(by omega),if_pos h]
theorem y46{s:ByteArray}{i:Int}(h:atB s i=92):Q2t s i=(Q2e Q07(Q2n s(i+1)).1(Q2n s(i+1)).1,(Q2n s(i+1)).2.1,(Q2n s(i+1)).2.2):=by
  unfold Q2t;rw[if_neg(by omega),if_neg(by omega),if_pos h]
theorem y8b{c:Int}(h:Q03 c=true):c≠46/\c≠91/\c≠92/\c≠40/\32<=c:=by
  unfold Q03 Q5g at h;simp at h;omega
theorem y07{s:ByteArray}{i:Int}(h:Q03(atB s i)=true):Q2t s i=(Q2e Q07(atB s i)(atB s i),i+1,true):=by
  obtain⟨h1,h2,h3,_⟩:=y8b h;unfold Q2t;rw[if_neg h1,if_neg h2,if_neg h3,if_neg(by simp[h])]
theorem x5b{s:ByteArray}{i:Int}(h1:atB s i≠46)(h2:atB s i≠91)(h3:atB s i≠92)(h:Q03(atB s i)=false):Q2t s i=(Q07,i,false):=by
  unfold Q2t;rw[if_neg h1,if_neg h2,if_neg h3,if_pos h]
abbrev Q8l(r:List Int × Int × Bool):Value:=.tuple#[.agg(Q51 r.1),.int .i64 r.2.1,.bool r.2.2]
theorem y7f(s:ByteArray)(i:Int)(w:World)(hs:s.size<=1000)(h0:0<=i)(h1:i<=2000)(hc:atB s i=46) :
    Calls Tryz.prog 145#[.string s,.int .i64 i]w fun e w'=>e=.returned(Q8l(Q2t s i))/\Q0a w w':=by
  rw[y8c hc];have c1:(atB s i==46)=true:=by simpa using hc
  have j0:Hid((Q2e Q07 10 10).length=4):=z1j _ _ _;have HL:Hid((Q8z(Q2e Q07 10 10)4).length=4):=z53 _(z1j _ _ _);clear hc;go_enter Tryz.func145,Tryz.ntmps145
  go_wp2_with(first
    |(go_at_call 107;refine(z0v _ _ _(by unfold maxLen;omega)).mono ?_;rintro e w'⟨rfl,rfl⟩)
    |(go_at_call 148;refine(z6s _ _(by omega)(by omega)).mono ?_;rintro e w1⟨rfl,hf1⟩;have hz:w.heap.size<w1.heap.size:=(by have:=hf1.size;simp at this;omega))
    |(go_at_call 149;refine(x4n _ _ j0.out).mono ?_;rintro e w2⟨rfl,hf2⟩)
    |(refine z0e rfl _ _ _ rfl w1 _ _ _ rfl rfl rfl(Q64 _ j0.out)(eq4 rfl(u4 j0.out))(z09 _)?_)
    |(refine wpList_load_row rfl _ _ rfl w1.heap.size rfl _ _ _ _(z0a _ _)Tryz.underlying204 rfl(Q64 _ j0.out)?_)
    |(refine wpList_store_row rfl _ _ _ rfl w.heap.size _ rfl rfl _ _(hf2.at(z0b(hf1.at(z0a _ _)(fun x=>x)))(fun x=>x))(Q64 _ HL.out)(eq4 rfl(u4 HL.out))(z09 _)?_))
  refine bodyPost_ret(z0h rfl _ _ w.heap.size 204 _(0,0)_ rfl(setRow_heap _ _ _ _ _ _(hf2.at(z0b(hf1.at(z0a _ _)(fun x=>x)))(fun x=>x)))Tryz.underlying204 rfl(Q64 _ HL.out))rfl⟨rfl,?_⟩;exact((((((mRf _ w).alloc _).trans hf1).alloc _).trans hf2).setRow(by simp)_)
theorem x0t(s:ByteArray)(i:Int)(w:World)(hs:s.size<=1000)(h0:0<=i)(h1:i<=2000)(hc:atB s i=91) :
    Calls Tryz.prog 145#[.string s,.int .i64 i]w fun e w'=>e=.returned(Q8l(Q2t s i))/\Q0a w w':=by
  rw[x2v hc];have j0:=z0q(s:=s)(i:=i)(by omega);have c0:(atB s i==46)=false:=by simp[hc]
  have c1:(atB s i==91)=true:=by simpa using hc
  have HL:Hid((rBr s(i+1)).1.length=4):=x4f _ _;clear hc;go_enter Tryz.func145,Tryz.ntmps145
  go_wp2_with(first
    |(go_at_call 107;refine(z0v _ _ _(by unfold maxLen;omega)).mono ?_;rintro e w'⟨rfl,rfl⟩)
    |(go_at_call 150;refine(x0n _ _ _(by omega)(by omega)(by omega)).mono ?_;rintro e w1⟨rfl,hf1⟩)
    |(refine wpList_store_row rfl _ _ _ rfl w.heap.size _ rfl rfl _ _(hf1.at(z0a _ _)(fun x=>x))(Q64 _ HL.out)(eq4 rfl(u4 HL.out))(z09 _)?_))
  refine bodyPost_ret(z0h rfl _ _ w.heap.size 204 _(0,0)_ rfl(setRow_heap _ _ _ _ _ _(hf1.at(z0a _ _)(fun x=>x)))Tryz.underlying204 rfl(Q64 _ HL.out))rfl⟨rfl,?_⟩;exact((((mRf _ w).alloc _).trans hf1).setRow(by simp)_)
theorem y5n(s:ByteArray)(i:Int)(w:World)(hs:s.size<=1000)(h0:0<=i)(h1:i<=2000)(hc:atB s i=92) :
    Calls Tryz.prog 145#[.string s,.int .i64 i]w fun e w'=>e=.returned(Q8l(Q2t s i))/\Q0a w w':=by
  rw[y46 hc];obtain⟨m1,m2,m3,m4,m5⟩:=z73 s(i+1)(by omega);have c0:(atB s i==46)=false:=by simp[hc]
  have c2:(atB s i==91)=false:=by simp[hc]
  have c1:(atB s i==92)=true:=by simpa using hc
  have HL:Hid((Q2e Q07(Q2n s(i+1)).1(Q2n s(i+1)).1).length=4):=z1j _ _ _;clear hc m5;go_enter Tryz.func145,Tryz.ntmps145
  go_wp2_with(first
    |(go_at_call 107;refine(z0v _ _ _(by unfold maxLen;omega)).mono ?_;rintro e w'⟨rfl,rfl⟩)
    |(go_at_call 151;refine(z7i _ _ _(by omega)(by omega)(by omega)).mono ?_;rintro e w'⟨rfl,rfl⟩)
    |(go_at_call 148;refine(z6s _ _(by omega)(by omega)).mono ?_;rintro e w1⟨rfl,hf1⟩)
    |(refine wpList_store_row rfl _ _ _ rfl w.heap.size _ rfl rfl _ _(hf1.at(z0a _ _)(fun x=>x))(Q64 _ HL.out)(eq4 rfl(u4 HL.out))(z09 _)?_))
  refine bodyPost_ret(z0h rfl _ _ w.heap.size 204 _(0,0)_ rfl(setRow_heap _ _ _ _ _ _(hf1.at(z0a _ _)(fun x=>x)))Tryz.underlying204 rfl(Q64 _ HL.out))rfl⟨rfl,?_⟩;exact((((mRf _ w).alloc _).trans hf1).setRow(by simp)_)
theorem y2k(s:ByteArray)(i:Int)(w:World)(hs:s.size<=1000)(h0:0<=i)(h1:i<=2000)(hc:Q03(atB s i)=true) :
    Calls Tryz.prog 145#[.string s,.int .i64 i]w fun e w'=>e=.returned(Q8l(Q2t s i))/\Q0a w w':=by
  rw[y07 hc];obtain⟨p1,p2,p3,p4,p5⟩:=y8b hc;obtain⟨b1,b2⟩:=z8f s i;have c0:(atB s i==46)=false:=by simpa using p1
  have c2:(atB s i==91)=false:=by simpa using p2
  have c1:(atB s i==92)=false:=by simpa using p3
  have HL:Hid((Q2e Q07(atB s i)(atB s i)).length=4):=z1j _ _ _;clear p1 p2 p3 p4;go_enter Tryz.func145,Tryz.ntmps145
  go_wp2_with(first
    |(go_at_call 107;refine(z0v _ _ _(by unfold maxLen;omega)).mono ?_;rintro e w'⟨rfl,rfl⟩)
    |(go_at_call 143;refine(z5r _ _).mono ?_;rintro e w'⟨rfl,rfl⟩)
    |(go_at_call 148;refine(z6s _ _(by omega)(by omega)).mono ?_;rintro e w1⟨rfl,hf1⟩)
    |(refine wpList_store_row rfl _ _ _ rfl w.heap.size _ rfl rfl _ _(hf1.at(z0a _ _)(fun x=>x))(Q64 _ HL.out)(eq4 rfl(u4 HL.out))(z09 _)?_))
  refine bodyPost_ret(z0h rfl _ _ w.heap.size 204 _(0,0)_ rfl(setRow_heap _ _ _ _ _ _(hf1.at(z0a _ _)(fun x=>x)))Tryz.underlying204 rfl(Q64 _ HL.out))rfl⟨rfl,?_⟩;exact((((mRf _ w).alloc _).trans hf1).setRow(by simp)_)
theorem x0v(s:ByteArray)(i:Int)(w:World)(hs:s.size<=1000)(h0:0<=i)(h1:i<=2000)(p1:atB s i≠46)(p2:atB s i≠91)(p3:atB s i≠92)(hc:Q03(atB s i)=false) :
    Calls Tryz.prog 145#[.string s,.int .i64 i]w fun e w'=>e=.returned(Q8l(Q2t s i))/\Q0a w w':=by
  rw[x5b p1 p2 p3 hc];have c0:(atB s i==46)=false:=by simpa using p1
  have c2:(atB s i==91)=false:=by simpa using p2
  have c1:(atB s i==92)=false:=by simpa using p3
  clear p1 p2 p3;go_enter Tryz.func145,Tryz.ntmps145
  go_wp2_with(first
    |(go_at_call 107;refine(z0v _ _ _(by unfold maxLen;omega)).mono ?_;rintro e w'⟨rfl,rfl⟩)
    |(go_at_call 143;refine(z5r _ _).mono ?_;rintro e w'⟨rfl,rfl⟩)
    |(refine wpList_store_row rfl _ _ _ rfl _(Q51 Q07)rfl rfl _ _(z0a _ _)Q80 rfl(z09 _)?_))
  refine bodyPost_ret(z0h rfl _ _ _ 204(Q51 Q07)(0,0)_ rfl(setRow_heap _ _ _ _ _ _(z0a _ _))Tryz.underlying204 rfl Q80)rfl⟨rfl,?_⟩;exact((mRf _ _).alloc _).setRow(by simp)_
theorem z80(s:ByteArray)(i:Int)(w:World)(hs:s.size<=1000)(h0:0<=i)(h1:i<=2000) :
    Calls Tryz.prog 145#[.string s,.int .i64 i]w fun e w'=>e=.returned(Q8l(Q2t s i))/\Q0a w w':=by
  by_cases a1:atB s i=46
  · exact y7f s i w hs h0 h1 a1
  by_cases a2:atB s i=91
  · exact x0t s i w hs h0 h1 a2
  by_cases a3:atB s i=92
  · exact y5n s i w hs h0 h1 a3
  cases a4:Q03(atB s i)
  · exact x0v s i w hs h0 h1 a1 a2 a3 a4
  exact y2k s i w hs h0 h1 a4
def Q5z(ws:List Int)(c:Nat):Bool:=bits BinOp.and IntKind.u64(ws[c / 64]?.getD 0 / 2 ^ (c % 64))1==1
theorem x4k(ws:List Int)(c:Nat)(w:World)(hl:ws.length=4)(h1:c<=255) :
    Calls Tryz.prog 120#[.agg(Q51 ws),.int .u8 c]w fun e w'=>e=.returned(.bool(Q5z ws c))/\Q0a w w':=by
  obtain⟨a,b,c1,d,hws⟩:=four hl;have HW:Hid(ws=[a,b,c1,d]):=hws;have e1:Q51 ws=#[.int .u64 a,.int .u64 b,.int .u64 c1,.int .u64 d]:=by rw[hws];rfl
  have j0:[Value.int .u64 a,.int .u64 b,.int .u64 c1,.int .u64 d][c / 64]? = some(.int .u64(ws.getD(c / 64)0)):=by
    have:=y6e ws(c / 64)(by omega);rw[e1]at this;simpa using this
  rw[e1];clear hws e1 hl;go_enter Tryz.func120,Tryz.ntmps120
  go_wp2;go_ret;exact⟨rfl,(mRf _ _).alloc _⟩
structure Q0p where
  reads:Bool
  set:List Int
  next:Int
  other:Int
def Q0p.wf(n:Q0p):Prop:=n.set.length=4
def Q0p.cells(n:Q0p):List Value:=.bool n.reads::(n.set.map(Value.int .u64)++[.int .i64 n.next,.int .i64 n.other])
def Q4w(ns:List Q0p):List Value:=ns.flatMap Q0p.cells
def Nwf(ns:List Q0p):Prop:=∀n∈ns,n.wf
def Q0f:Q0p:=⟨false,Q07,-1,-1⟩
theorem Q0p.cells_len{n:Q0p}(h:n.wf):n.cells.length=7:=by
  unfold Q0p.wf at h;simp[Q0p.cells,h]
theorem y9o{ns:List Q0p}(h:Nwf ns):(Q4w ns).length=ns.length*7:=by
  induction ns with
  |nil=>rfl
  |cons n ns ih =>
    have h1:=Q0p.cells_len(h n(by simp));have h2:=ih(fun m hm=>h m(by simp[hm]));simp only[Q4w,List.flatMap_cons,List.length_append,List.length_cons]at h2 ⊢;omega
theorem y9w{a b:List Q0p}(ha:Nwf a)(hb:Nwf b):Nwf(a++b):=by
  intro n hn;rcases List.mem_append.1 hn with h|h
  · exact ha n h
  exact hb n h
theorem x6g:Q0f.wf:=rfl
theorem Q0p.cells_at{n:Q0p}(h:n.wf)(j:Nat):n.cells[j]? = if j=0 then some(.bool n.reads)else if j<5 then some(.int .u64(n.set.getD(j-1)0))else if j=5 then some(.int .i64 n.next)else if j=6 then some(.int .i64 n.other)else none:=by
  obtain⟨a,b,c,d,e⟩:=four h;unfold Q0p.cells;rw[e];rcases j with _|_|_|_|_|_|_|j<;>simp
theorem z9a{ns:List Q0p}(h:Nwf ns)(i j:Nat)(hi:i<ns.length)(hj:j<7):(Q4w ns)[i*7+j]? = (ns[i]).cells[j]? := by
  induction ns generalizing i with
  |nil=>simp at hi
  |cons n ns ih =>
    have h1:=Q0p.cells_len(h n(by simp));simp only[Q4w,List.flatMap_cons];cases i with
    |zero=>rw[List.getElem?_append_left(by omega)];simp
    |succ i =>
      rw[List.getElem?_append_right(by omega),h1];have e:(i+1)*7+j-7=i*7+j:=by omega
      rw[e];exact ih(fun m hm=>h m(by simp[hm]))i(by simpa using hi)
theorem y9i{ns:List Q0p}(h:Nwf ns)(i j:Nat)(hi:i<ns.length)(hj:j<7)(u:Value)(f:Q0p->Q0p)(hf:∀n,n.wf->(f n).cells=n.cells.set j u) :
    (Q4w ns).set(i*7+j)u=Q4w(ns.modify i f):=by
  induction ns generalizing i with
  |nil=>simp at hi
  |cons n ns ih =>
    have h1:=Q0p.cells_len(h n(by simp));cases i with
    |zero =>
      simp only[Q4w,List.flatMap_cons,Nat.zero_mul,Nat.zero_add,List.modify_zero_cons];rw[List.set_append_left _ _(by omega),hf n(h n(by simp))]
    |succ i =>
      simp only[List.modify_succ_cons];have e:(i+1)*7+j=7+(i*7+j):=by omega
      have:=ih(fun m hm=>h m(by simp[hm]))i(by simpa using hi);simp only[Q4w,List.flatMap_cons]at this ⊢;rw[List.set_append_right _ _(by omega),h1,e,Nat.add_sub_cancel_left,this]
theorem y9v{ns:List Q0p}(h:Nwf ns)(i:Nat)(f:Q0p->Q0p)(hf:∀n,n.wf->(f n).wf):Nwf(ns.modify i f):=by
  induction ns generalizing i with
  |nil=>simpa using h
  |cons n ns ih =>
    have h2:Nwf ns:=fun m hm=>h m(by simp[hm]);cases i with
    |zero =>
      intro m hm;simp at hm;rcases hm with rfl|hm
      · exact hf n(h n(by simp))
      exact h2 m hm
    |succ i =>
      intro m hm;simp at hm;rcases hm with rfl|hm
      · exact h m(by simp)
      exact ih h2 i m hm
def Q1h(ns:List Q0p)(a b:Int):List Q0p :=
  if a<0∨(ns.length:Int)<=a then ns
  else ns.modify a.toNat fun n=>if n.next=-1 then{n with next:=b}else{n with other:=b}
theorem z0n(ns:List Q0p)(a b:Int):(Q1h ns a b).length=ns.length:=by unfold Q1h;split<;>simp
theorem z4t{w:World}{base:Nat}{e:TypeId}{size:Nat}{v:Value}{n:Nat}{xs:List Value}(h:w.ownsRow base e size v n xs){g:Nat}(hg:v.ownBlock=some g)(j:Nat)(u:Value)(hj:j<xs.length) :
    (w.setCell⟨g,j,none⟩u).ownsRow base e size v n(xs.set j u):=by
  obtain⟨h1,h2⟩:=h;refine⟨by simpa using h1,?_⟩;rcases h2 with⟨rfl,_⟩|⟨g',cap,cur,rfl,hb,hgg,hn,hc,hs,ht⟩
  · simp[Value.ownBlock]at hg
  simp only[Value.ownBlock,Option.some.injEq]at hg;subst hg;refine .inr⟨g',cap,cur.setIfInBounds j u,rfl,hb,zhs hgg j u,hn,hc,by simpa using hs,?_⟩;rw[Array.toList_setIfInBounds,← ht,List.take_set]
theorem z0c{w w':World}{base:Nat}{e:TypeId}{size:Nat}{v:Value}{n:Nat}{xs:List Value}(h:w.ownsRow base e size v n xs)(hk:∀g,v.ownBlock=some g->w'.heap[g]? = w.heap[g]?) :
    w'.ownsRow base e size v n xs:=by
  obtain⟨h1,h2⟩:=h;refine⟨h1,?_⟩;rcases h2 with h2|⟨g',cap,cur,rfl,hb,hgg,r⟩
  · exact .inl h2
  exact .inr⟨g',cap,cur,rfl,hb,(hk g' rfl).trans hgg,r⟩
structure BAt(w:World)(bb:Nat)(v:Value)(ns:List Q0p):Prop where
  blk:w.heap[bb]? = some(.cells#[v]211(0,0))
  own:w.ownsRow(bb+1)206 7 v ns.length(Q4w ns)
  wf:Nwf ns
def Q86(bb:Nat)(v:Value)(k:Nat):Prop:=k=bb∨v.ownBlock=some k
structure Q1i(w w':World)(bb:Nat)(v v':Value)(ns':List Q0p):Prop where
  at':BAt w' bb v' ns'
  mod:Mod(Q86 bb v)w w'
  foot':∀k,v'.ownBlock=some k->v.ownBlock=some k∨w.heap.size<=k
theorem BAt.lt{w:World}{bb:Nat}{v:Value}{ns:List Q0p}(h:BAt w bb v ns):bb<w.heap.size:=z0j h.blk
theorem BAt.own_lt{w:World}{bb:Nat}{v:Value}{ns:List Q0p}(h:BAt w bb v ns):∀k,v.ownBlock=some k->bb<k/\k<w.heap.size:=fun k hk=>by
  have:=h.own.lt k hk;omega
theorem BAt.kept{S:Nat->Prop}{w w':World}{bb:Nat}{v:Value}{ns:List Q0p}(h:BAt w bb v ns)(hm:Mod S w w')(hs:∀k,Q86 bb v k->¬S k):BAt w' bb v ns :=
  ⟨hm.at h.blk(hs bb(.inl rfl)),z0c h.own(fun g hg=>hm.block g(h.own_lt g hg).2(hs g(.inr hg))),h.wf⟩
theorem Q1i.trans{a b c:World}{bb:Nat}{v v' v'':Value}{ns' ns'':List Q0p}(h:Q1i a b bb v v' ns')(k:Q1i b c bb v' v'' ns''):Q1i a c bb v v'' ns'' :=
  ⟨k.at',h.mod.trans' k.mod(fun i hi hf=>by
      rcases hf with rfl|hf
      · exact .inl rfl
      rcases h.foot' i hf with h1|h1
      · exact .inr h1
      omega),
   fun i hi=>by
      rcases k.foot' i hi with h1|h1
      · exact h.foot' i h1
      right;have:=h.mod.size;omega⟩
theorem Q1i.ahead{a b c:World}{bb:Nat}{v v':Value}{ns':List Q0p}(h:Q0a a b)(k:Q1i b c bb v v' ns'):Q1i a c bb v v' ns' :=
  ⟨k.at',⟨k.mod.os.trans h.os,k.mod.tape.trans h.tape,k.mod.output.trans h.output,Nat.le_trans h.size k.mod.size,fun i hi hs=>(k.mod.block i(Nat.lt_of_lt_of_le hi h.size)hs).trans(h.block i hi(fun x=>x))⟩,
   fun i hi=>by
      rcases k.foot' i hi with h1|h1
      · exact .inl h1
      right;have:=h.size;omega⟩
theorem Q1i.behind{a b c:World}{bb:Nat}{v v':Value}{ns':List Q0p}(h:Q1i a b bb v v' ns'){S:Nat->Prop}(k:Mod S b c)(hS:∀i,S i->a.heap.size<=i)(hv:∀i,Q86 bb v' i->¬S i):Q1i a c bb v v' ns' :=
  ⟨h.at'.kept k hv,h.mod.trans' k(fun i hi hs=>by have:=hS i hs;omega),h.foot'⟩
theorem Q1i.refl{w:World}{bb:Nat}{v:Value}{ns:List Q0p}(h:BAt w bb v ns):Q1i w w bb v v ns:=⟨h,mRf _ _,fun _ h=>.inl h⟩
theorem infoNode:(Tryz.prog.info? 206).map(fun i=>(i.zero,i.size,i.bytes))=some(some(.agg#[.bool false,.int .u64 0,.int .u64 0,.int .u64 0,.int .u64 0,.int .i64 0,.int .i64 0]),7,56):=by kernel_rfl
theorem Q9f:∃i,Tryz.prog.info? 206=some i/\i.zero=some(.agg#[.bool false,.int .u64 0,.int .u64 0,.int .u64 0,.int .u64 0,.int .i64 0,.int .i64 0])/\i.size=7/\i.bytes=56:=by
  have h:=infoNode;cases hq:Tryz.prog.info? 206 with
  |none=>simp[hq]at h
  |some i=>simp[hq]at h;exact⟨i,rfl,h.1,h.2.1,h.2.2⟩
section
variable{P:Program}(w:World)
theorem z7r{w w':World}(h:w.grownBy w' none)(row:Option Nat):w.grownBy w' row :=
  ⟨h.os,h.tape,h.output,h.size,fun k hk _=>h.block k hk(by simp)⟩
theorem z0f{w:World}{b b':Nat}{e:TypeId}{size:Nat}{v:Value}{n:Nat}{xs:List Value}(h:w.ownsRow b e size v n xs)(hb:b'<=b):w.ownsRow b' e size v n xs:=by
  refine⟨h.1,?_⟩;rcases h.2 with h2|⟨g,cap,cur,h1,h2,r⟩
  · exact .inl h2
  exact .inr⟨g,cap,cur,h1,by omega,r⟩
theorem z44(base:Nat)(t ty e:TypeId)(i:TypeInfo)(z:Value)(size bytes:Nat)(ht:P.underlying t=some(.slice e))(hi:P.info? e=some i)(hz:i.zero=some z)
    (hsize:i.size=size)(hby:i.bytes=bytes)(hzs:z.cells.size=size)(hsz:0<size)
    (v:Value)(n:Nat)(xs:List Value)(hown:w.ownsRow base e size v n xs)
    (a:Addr)(m c:Nat)(news:List Value)(hl:news.length=m*size)(hnews:∀j u,news[j]? = some u->w.cell?(a.add j)=some u)(h1:∀u∈news,u.oneCell'=true)
    (h63:n+m<=maxLen)(hbytes:(n+m)*bytes<=140737488355328)(hbase:base<=w.heap.size) :
    ∃v' w',(Builtin.append_#[t,t]ty#[v,.slice(some a)m c]).run P w=.ok v' w'/\w'.ownsRow base e size v'(n+m)(xs++news)/\w.grownBy w' v.ownBlock /\
      (∀k,v'.ownBlock=some k->v.ownBlock=some k∨w.heap.size<=k):=by
  rcases hown.2 with⟨rfl,rfl⟩|⟨g,cap,cur,rfl,hbg,hg,hnc,hcm,hcs,htake⟩
  · have hx:xs=[]:=List.eq_nil_of_length_eq_zero(by simpa using hown.1)
    subst hx;obtain⟨v',w',hr,h2,h3,_⟩:=run_append_own(P:=P)w w.heap.size t ty e i z size bytes ht hi hz hsize hby hzs hsz _ 0 [](World.ownsRow_nil w _ e size)a m c news hl hnews h1 h63 hbytes(qR _);exact⟨v',w',hr,z0f h2 hbase,h3,fun k hk=>.inr(h2.lt k hk).1⟩
  by_cases hroom:n+m<=cap
  · obtain⟨v',w',hr,h2,h3,_⟩:=run_append_own(P:=P)w base t ty e i z size bytes ht hi hz hsize hby hzs hsz _ n xs hown a m c news hl hnews h1 h63 hbytes hbase
    subst hsize;have j1:n*i.size+news.length<=cur.size:=by rw[hl,hcs,← Nat.add_mul];exact Nat.mul_le_mul_right _ hroom
    have j2:=run_append_room(P:=P)w t ty e i ht hi g n cap cur hg a m c news hl hnews h1 hroom j1;rw[hr]at j2;injection j2 with e1 e2;exact⟨v',w',hr,h2,h3,fun k hk=>by rw[e1]at hk;exact .inl hk⟩
  have j0:∀j u,xs[j]? = some u->w.cell?((⟨g,0,none⟩:Addr).add j)=some u:=hown.cells(g:=g)rfl;obtain⟨v',w',hr,h2,h3⟩:=run_append_arg_grows(P:=P)w t ty e i z size bytes ht hi hz hsize hby hzs hsz⟨g,0,none⟩n cap xs hown.1 j0 a m c news hl hnews(by omega)h63 hbytes;exact⟨v',w',hr,z0f h2 hbase,z7r h3 _,fun k hk=>.inr(h2.lt k hk).1⟩
theorem z5n{o:Oper}{a:Act}{K:Act->World->Prop}{Q:Exit->Act->World->Prop}(s x:Operand)(t:TypeId)
    (ho:o.op=.call{callee:=.builtin .append,args:=#[s,x],argTypes:=#[t,t]})
    (base:Nat)(e:TypeId)(i:TypeInfo)(z:Value)(size bytes:Nat)(ht:P.underlying t=some(.slice e))(hi:P.info? e=some i)(hz:i.zero=some z)
    (hsize:i.size=size)(hby:i.bytes=bytes)(hzs:z.cells.size=size)(hsz:0<size)
    (v:Value)(n:Nat)(xs:List Value)(hs:a.eval s=v)(hown:w.ownsRow base e size v n xs)
    (ad:Addr)(m c:Nat)(news:List Value)(hx:a.eval x=.slice(some ad)m c)(hl:news.length=m*size)(hnews:∀j u,news[j]? = some u->w.cell?(ad.add j)=some u)(h1:∀u∈news,u.oneCell'=true)
    (h63:n+m<=maxLen)(hbytes:(n+m)*bytes<=140737488355328)(hbase:base<=w.heap.size)
    (h:∀v' w',w'.ownsRow base e size v'(n+m)(xs++news)->w.grownBy w' v.ownBlock->(∀k,v'.ownBlock=some k->v.ownBlock=some k∨w.heap.size<=k)->K(a.put o.dst v')w'):o.wp P a w K Q:=by
  obtain⟨v',w',hr,h2,h3,h4⟩:=z44(P:=P)w base t o.type e i z size bytes ht hi hz hsize hby hzs hsz v n xs hown ad m c news hl hnews h1 h63 hbytes hbase;unfold Oper.wp execOp;simp only[ho,resolve,invoke,builtin,Sem.run_bind,Sem.run_pure,Result.andThen_ok,List.map_toArray,List.map_cons,List.map_nil,hs,hx,hr];exact h v' w' h2 h3 h4
theorem z0g{ops:Array Oper}{rest:List Oper}{o:Oper}{a:Act}{Q:Exit->Act->World->Prop}(hgd:o.guard=none)(s x:Operand)(t:TypeId)
    (ho:o.op=.call{callee:=.builtin .append,args:=#[s,x],argTypes:=#[t,t]})
    (base:Nat)(e:TypeId)(i:TypeInfo)(z:Value)(size bytes:Nat)(ht:P.underlying t=some(.slice e))(hi:P.info? e=some i)(hz:i.zero=some z)
    (hsize:i.size=size)(hby:i.bytes=bytes)(hzs:z.cells.size=size)(hsz:0<size)
    (v:Value)(n:Nat)(xs:List Value)(hs:a.eval s=v)(hown:w.ownsRow base e size v n xs)
    (ad:Addr)(m c:Nat)(news:List Value)(hx:a.eval x=.slice(some ad)m c)(hl:news.length=m*size)(hnews:∀j u,news[j]? = some u->w.cell?(ad.add j)=some u)(h1:∀u∈news,u.oneCell'=true)
    (h63:n+m<=maxLen)(hbytes:(n+m)*bytes<=140737488355328)(hbase:base<=w.heap.size)
    (h:∀v' w',w'.ownsRow base e size v'(n+m)(xs++news)->w.grownBy w' v.ownBlock->(∀k,v'.ownBlock=some k->v.ownBlock=some k∨w.heap.size<=k)->wpList P ops Q rest(a.put o.dst v')w'):wpList P ops Q(o::rest)a w :=
  wpList_plain hgd fun _ hK=>z5n w s x t ho base e i z size bytes ht hi hz hsize hby hzs hsz v n xs hs hown ad m c news hx hl hnews h1 h63 hbytes hbase fun v' w' h2 h3 h4=>hK _ _(h v' w' h2 h3 h4)
theorem z7y{ops:Array Oper}{o:Oper}{a:Act}{K:Act->World->Prop}{Q:Exit->Act->World->Prop}{E:Prop}(hgd:o.guard=none)(s x:Operand)(t:TypeId)
    (ho:o.op=.call{callee:=.builtin .append,args:=#[s,x],argTypes:=#[t,t]})
    (base:Nat)(e:TypeId)(i:TypeInfo)(z:Value)(size bytes:Nat)(ht:P.underlying t=some(.slice e))(hi:P.info? e=some i)(hz:i.zero=some z)
    (hsize:i.size=size)(hby:i.bytes=bytes)(hzs:z.cells.size=size)(hsz:0<size)
    (v:Value)(n:Nat)(xs:List Value)(hs:a.eval s=v)(hown:w.ownsRow base e size v n xs)
    (ad:Addr)(m c:Nat)(news:List Value)(hx:a.eval x=.slice(some ad)m c)(hl:news.length=m*size)(hnews:∀j u,news[j]? = some u->w.cell?(ad.add j)=some u)(h1:∀u∈news,u.oneCell'=true)
    (h63:n+m<=maxLen)(hbytes:(n+m)*bytes<=140737488355328)(hbase:base<=w.heap.size)
    (h:∀v' w',w'.ownsRow base e size v'(n+m)(xs++news)->w.grownBy w' v.ownBlock->(∀k,v'.ownBlock=some k->v.ownBlock=some k∨w.heap.size<=k)->K(a.put o.dst v')w') :
    if Region.wanted o(yielded ops a.tmps)=true then Oper.wp P o a w K Q else E:=by
  have hw:Region.wanted o(yielded ops a.tmps)=true:=by simp[Region.wanted,hgd]
  rw[if_pos hw];exact z5n w s x t ho base e i z size bytes ht hi hz hsize hby hzs hsz v n xs hs hown ad m c news hx hl hnews h1 h63 hbytes hbase h
end
abbrev Q3b(bb:Nat):Value:=.pointer(some⟨bb,0,none⟩)
theorem z0d{w:World}{base size n:Nat}{e:TypeId}{v:Value}{xs:List Value}(h:w.ownsRow base e size v n xs):∃a cap,v=.slice a n cap:=by
  rcases h.2 with⟨rfl,rfl⟩|⟨g,cap,cur,rfl,_⟩
  · exact⟨none,0,rfl⟩
  exact⟨some⟨g,0,none⟩,cap,rfl⟩
theorem z0l{w:World}{cs:Array Value}{l:List Value}{e:TypeId}(h:cs.toList=l):∀(j:Nat)(u:Value),l[j]? = some u->(w.alloc(.cells cs e)).cell?((⟨w.heap.size,0,none⟩:Addr).add j)=some u:=by
  intro j u hj;rw[Addr.add_mid,Nat.zero_add,Q0b(z0a _ _)];subst h;simpa using hj
theorem x9p{ws:List Int}{u:Value}(h:u∈ws.map(Value.int .u64)):u.oneCell'=true:=by
  simp at h;obtain⟨a,_,rfl⟩:=h;rfl
theorem Q0p.one(n:Q0p):∀u∈n.cells,u.oneCell'=true:=by
  intro u hu;simp only[Q0p.cells,List.mem_cons,List.mem_append,List.not_mem_nil,or_false]at hu;rcases hu with rfl|hu|rfl|rfl
  · rfl
  · exact x9p hu
  · rfl
  rfl
theorem badd{w W w1:World}{bb:Nat}{v v':Value}{ns:List Q0p}{n:Q0p}(h:BAt w bb v ns)(hW:Q0a w W)(hn:n.wf)
    (hown:w1.ownsRow(bb+1)206 7 v'(ns.length+1)(Q4w ns++n.cells))(hg:W.grownBy w1 v.ownBlock)
    (hb:∀k,v'.ownBlock=some k->v.ownBlock=some k∨W.heap.size<=k) :
    Q1i w(w1.setCell⟨bb,0,none⟩v')bb v v'(ns++[n]):=by
  have j0:W.heap[bb]? = some(.cells#[v]211(0,0)):=hW.at h.blk(fun x=>x);have h1:w1.heap[bb]? = some(.cells#[v]211(0,0)):=by
    rw[hg.block bb(z0j j0)(fun e=>by have:=h.own_lt bb e.symm;omega)];exact j0
  have j1:=hown.lt;refine⟨⟨?_,?_,y9w h.wf(fun m hm=>by simp at hm;subst hm;exact hn)⟩,?_,?_⟩
  · have:=zhs h1 0 v';simpa using this
  · have:Q4w(ns++[n])=Q4w ns++n.cells:=by simp[Q4w]
    rw[this];have e2:(ns++[n]).length=ns.length+1:=by simp
    rw[e2];exact z0c hown(fun g hg'=>by rw[Proofs.YtcpceafmlgaodaaGreat.heap_setCell_other _(by have:=j1 g hg';simp;omega)])
  · have m1:Mod(Q86 bb v)w W:=hW.mono(fun _ _ x=>x.elim)
    exact(m1.grown hg(fun k hk _=>.inr hk)).setCell(fun _=>.inl rfl)_
  intro k hk;rcases hb k hk with h2|h2
  · exact .inl h2
  right;have:=hW.size;omega
theorem z1o(w:World)(bb:Nat)(v:Value)(ns:List Q0p)(h:BAt w bb v ns)(hn:ns.length<=100000) :
    Calls Tryz.prog 138#[Q3b bb]w fun e w'=>e=.returned(.int .i64 ns.length)/\∃v',Q1i w w' bb v v'(ns++[Q0f]):=by
  obtain⟨i0,hi,hz0,j1,hz2⟩:=Q9f;obtain⟨ao,cap,hv⟩:=z0d h.own;have hc:=Q0b h.blk 0;have j0:=h.lt;have H:Hid _:=h;clear h;subst hv;simp at hc;go_enter Tryz.func138,Tryz.ntmps138
  go_wp2_with(at_builtin;refine z0g _ rfl _ _ 112 rfl(bb+1)206 i0 _ 7 56 Tryz.underlying112 hi hz0 j1 hz2 rfl(by decide)_ _ _ rfl(H.out.own.alloc _)⟨w.heap.size,0,none⟩1 1 Q0f.cells rfl rfl ?c1 ?c2 ?c3 ?c4 ?c5 ?_)
  case c1=>exact z0l rfl
  case c2=>exact Q0p.one _
  case c3=>unfold maxLen;omega
  case c4=>omega
  case c5=>simp;omega
  intro v' w1 hown hgrow hblk;obtain⟨a',cap',hv'⟩:=z0d hown;have j2:w1.cell?⟨bb,0,none⟩=some(.slice ao ns.length cap):=by
    rw[Q0b(b:=bb)(c:=#[.slice ao ns.length cap])(e:=211)(f:=(0,0))]
    · rfl
    rw[hgrow.block bb(by simp;omega)(fun e=>by have:=H.out.own_lt bb e.symm;omega),z0w j0];exact H.out.blk
  have j1:w1.frozen?⟨bb,0,none⟩=false:=by
    rw[Q0h(b:=bb)(c:=#[.slice ao ns.length cap])(e:=211)];rw[hgrow.block bb(by simp;omega)(fun e=>by have:=H.out.own_lt bb e.symm;omega),z0w j0];exact H.out.blk
  have HO:Hid _:=hown;have HG:Hid _:=hgrow;clear hown hgrow;subst hv';go_wp2;go_ret;refine⟨z1h(by simp),_,badd H.out((mRf _ w).alloc _)x6g HO.out HG.out(by simpa using hblk)⟩
theorem v0c(w:World)(bb:Nat)(v:Value)(ns:List Q0p)(a b:Int)(h:BAt w bb v ns)(hn:ns.length<=100000)(ha:a<0∨(ns.length:Int)<=a) :
    Calls Tryz.prog 139#[Q3b bb,.int .i64 a,.int .i64 b]w fun e w'=>e=.returned(.tuple#[])/\∃v',Q1i w w' bb v v'(Q1h ns a b):=by
  have e1:Q1h ns a b=ns:=by unfold Q1h;rw[if_pos ha]
  rw[e1];obtain⟨ao,cap,hv⟩:=z0d h.own;have hc:=Q0b h.blk 0;have H:Hid _:=h;clear h e1;subst hv;simp at hc;rcases ha with ha|ha
  · go_enter Tryz.func139,Tryz.ntmps139
    go_wp2;refine bodyPost_ret(results_none rfl _ _ _)rfl ?_;exact⟨rfl,_,Q1i.refl H.out⟩
  go_enter Tryz.func139,Tryz.ntmps139
  go_wp2;refine bodyPost_ret(results_none rfl _ _ _)rfl ?_;exact⟨rfl,_,Q1i.refl H.out⟩
theorem blink{w:World}{bb g n cap:Nat}{ns:List Q0p}(h:BAt w bb(.slice(some⟨g,0,none⟩)n cap)ns)(a j:Nat)(u:Value)(f:Q0p->Q0p)(ha:a<ns.length)(hj:j<7)
    (hf:∀n,n.wf->(f n).cells=n.cells.set j u)(hw:∀n,n.wf->(f n).wf) :
    Q1i w(w.setCell⟨g,a*7+j,none⟩u)bb(.slice(some⟨g,0,none⟩)n cap)(.slice(some⟨g,0,none⟩)n cap)(ns.modify a f):=by
  have hl:=h.own_lt g rfl;refine⟨⟨?_,?_,y9v h.wf _ _ hw⟩,?_,fun k hk=>.inl hk⟩
  · exact z0i h.blk(by simp;omega)
  · rw[List.length_modify,← y9i h.wf a j ha hj u f hf]
    exact z4t h.own rfl _ _(by rw[y9o h.wf];omega)
  exact(mRf _ _).setCell(fun _=>.inr rfl)_
theorem z7v{ns:List Q0p}{a:Nat}(ha:a<ns.length){f g:Q0p->Q0p}(h:f ns[a]=g ns[a]):ns.modify a f=ns.modify a g:=by
  induction ns generalizing a with
  |nil=>simp at ha
  |cons n ns ih =>
    cases a with
    |zero=>simp at h ⊢;exact h
    |succ a=>simp at h ⊢;exact ih(by simpa using ha)h
theorem x94(w:World)(bb:Nat)(v:Value)(ns:List Q0p)(a:Nat)(b:Int)(h:BAt w bb v ns)(hn:ns.length<=100000)(ha:a<ns.length) :
    Calls Tryz.prog 139#[Q3b bb,.int .i64 a,.int .i64 b]w fun e w'=>e=.returned(.tuple#[])/\∃v',Q1i w w' bb v v'(Q1h ns a b):=by
  obtain⟨g,cap,hv⟩:=Q1d.ownsRow_form h.own(by omega);have hc:=Q0b h.blk 0;subst hv;have j1:w.cell?⟨g,a*7+5,none⟩=some(.int .i64(ns[a]).next):=by
    have:=h.own.cells(g:=g)rfl(a*7+5)(.int .i64(ns[a]).next)(by rw[z9a h.wf a 5 ha(by omega),Q0p.cells_at(h.wf _(by simp))];rfl);rwa [Addr.add_mid,Nat.zero_add]at this
  have j0:w.cell?⟨g,a*7+6,none⟩=some(.int .i64(ns[a]).other):=by
    have:=h.own.cells(g:=g)rfl(a*7+6)(.int .i64(ns[a]).other)(by rw[z9a h.wf a 6 ha(by omega),Q0p.cells_at(h.wf _(by simp))];rfl);rwa [Addr.add_mid,Nat.zero_add]at this
  have hz:∀o,w.frozen?⟨g,o,none⟩=false:=by
    rcases h.own.2 with⟨h1,_⟩|⟨g',cap',cur,h1,_,hgg,_⟩
    · cases h1
    simp at h1;obtain⟨rfl,_⟩:=h1;exact Q0h hgg
  have H:Hid _:=h;clear h;simp at hc;go_enter Tryz.func139,Tryz.ntmps139
  go_wp2
  · have h5:(ns[a]).next=-1:=by simpa using ‹((ns[a]).next==-1)=true›
    refine bodyPost_ret(results_none rfl _ _ _)rfl⟨rfl,.slice(some⟨g,0,none⟩)ns.length cap,?_⟩;have e1:Q1h ns a b=ns.modify a(fun n=>{n with next:=b}):=by
      unfold Q1h;rw[if_neg(by omega),Int.toNat_natCast];exact z7v ha(by simp[h5])
    rw[e1];exact blink H.out a 5 _ _ ha(by omega)(fun n hn=>by obtain⟨a,b,c,d,e⟩:=four hn;simp[Q0p.cells,e])(fun n hn=>hn)
  have h5:(ns[a]).next≠-1:=by simpa using ‹((ns[a]).next==-1)=false›
  refine bodyPost_end(results_none rfl _ _ _)rfl⟨rfl,.slice(some⟨g,0,none⟩)ns.length cap,?_⟩;have e1:Q1h ns a b=ns.modify a(fun n=>{n with other:=b}):=by
    unfold Q1h;rw[if_neg(by omega),Int.toNat_natCast];exact z7v ha(by simp[h5])
  rw[e1];exact blink H.out a 6 _ _ ha(by omega)(fun n hn=>by obtain⟨a,b,c,d,e⟩:=four hn;simp[Q0p.cells,e])(fun n hn=>hn)
theorem z1l(w:World)(bb:Nat)(v:Value)(ns:List Q0p)(a b:Int)(h:BAt w bb v ns)(hn:ns.length<=100000) :
    Calls Tryz.prog 139#[Q3b bb,.int .i64 a,.int .i64 b]w fun e w'=>e=.returned(.tuple#[])/\∃v',Q1i w w' bb v v'(Q1h ns a b):=by
  by_cases ha:a<0∨(ns.length:Int)<=a
  · exact v0c w bb v ns a b h hn ha
  obtain⟨k,rfl⟩:∃k:Nat,a=k:=⟨a.toNat,by omega⟩;exact x94 w bb v ns k b h hn(by omega)
end Go.Proofs.YtcpceafmlgaodaaGreat
