import Derived.Test.YtbdpfmalabgmbaaGreatChars
import Derived.Lib.SmallJoins
import Derived.ArgAppend
import Derived.Deep.RegionLawGrows
namespace Go.Proofs.YtbdpfmalabgmbaaGreat
open Go.RowKit
set_option maxRecDepth 99999
set_option maxHeartbeats 0
set_option linter.all false
structure Q0q where
  reads:Bool
  set:List Int
  next:Int
  other:Int
def Q0q.wf(n:Q0q):Prop:=n.set.length=4
def Q0q.cells(n:Q0q):List Value:=.bool n.reads::(n.set.map (Value.int .u64)++[.int .i64 n.next,.int .i64 n.other])
def Q4v(ns:List Q0q):List Value:=ns.flatMap Q0q.cells
def Nwf(ns:List Q0q):Prop:=∀n∈ns,n.wf
def plainNode:Q0q:=⟨false,zero4,-1,-1⟩
theorem Q0q.cells_len{n:Q0q}(h:n.wf):n.cells.length=7:=by
  unfold Q0q.wf at h;simp[Q0q.cells,h]
theorem x0p{ns:List Q0q}(h:Nwf ns):(Q4v ns).length=ns.length*7:=by
  induction ns with
  |nil=>rfl
  |cons n ns ih =>
    have h1:=Q0q.cells_len (h n (by simp));have h2:=ih (fun m hm=>h m (by simp[hm]));simp only[Q4v,qEp,qP,qBk]at h2 ⊢;omega
theorem y96{a b:List Q0q}(ha:Nwf a)(hb:Nwf b):Nwf (a++b):=by
  intro n hn;rcases qBs.1 hn with h|h
  · exact ha n h
  exact hb n h
theorem x7j:plainNode.wf:=rfl
theorem Q0q.cells_at{n:Q0q}(h:n.wf)(j:Nat):n.cells[j]? = if j=0 then some (.bool n.reads) else if j<5 then some (.int .u64 (n.set.getD (j-1) 0)) else if j=5 then some (.int .i64 n.next) else if j=6 then some (.int .i64 n.other) else none:=by
  obtain⟨a,b,c,d,e⟩:=four h;unfold Q0q.cells;rw[e];rcases j with _|_|_|_|_|_|_|j<;>simp
theorem z9w{ns:List Q0q}(h:Nwf ns)(i j:Nat)(hi:i<ns.length)(hj:j<7):(Q4v ns)[i*7+j]? = (ns[i]).cells[j]? := by
  induction ns generalizing i with
  |nil=>simp at hi
  |cons n ns ih =>
    have h1:=Q0q.cells_len (h n (by simp));simp only[Q4v,qEp];cases i with
    |zero=>rw[qAl (by omega)];simp
    |succ i =>
      rw[qAr (by omega),h1];have e:(i+1)*7+j-7=i*7+j:=by omega
      rw[e];exact ih (fun m hm=>h m (by simp[hm])) i (by simpa using hi)
theorem x0q{ns:List Q0q}(h:Nwf ns)(i j:Nat)(hi:i<ns.length)(hj:j<7)(u:Value)(f:Q0q->Q0q)(hf:∀n,n.wf->(f n).cells=n.cells.set j u) :
    (Q4v ns).set (i*7+j) u=Q4v (ns.modify i f):=by
  induction ns generalizing i with
  |nil=>simp at hi
  |cons n ns ih =>
    have h1:=Q0q.cells_len (h n (by simp));cases i with
    |zero =>
      simp only[Q4v,qEp,Nat.zero_mul,qBy,List.modify_zero_cons];rw[List.set_append_left _ _ (by omega),hf n (h n (by simp))]
    |succ i =>
      simp only[List.modify_succ_cons];have e:(i+1)*7+j=7+(i*7+j):=by omega
      have:=ih (fun m hm=>h m (by simp[hm])) i (by simpa using hi);simp only[Q4v,qEp]at this ⊢;rw[qFa _ _ (by omega),h1,e,Nat.add_sub_cancel_left,this]
theorem y97{ns:List Q0q}(h:Nwf ns)(i:Nat)(f:Q0q->Q0q)(hf:∀n,n.wf->(f n).wf):Nwf (ns.modify i f):=by
  induction ns generalizing i with
  |nil=>simpa using h
  |cons n ns ih =>
    have h2:Nwf ns:=fun m hm=>h m (by simp[hm]);cases i with
    |zero =>
      intro m hm;simp at hm;rcases hm with rfl|hm
      · exact hf n (h n (by simp))
      exact h2 m hm
    |succ i =>
      intro m hm;simp at hm;rcases hm with rfl|hm
      · exact h m (by simp)
      exact ih h2 i m hm
def Q1h(ns:List Q0q)(a b:Int):List Q0q :=
  if a<0∨(ns.length:Int)<=a then ns
  else ns.modify a.toNat fun n=>if n.next=-1 then {n with next:=b} else {n with other:=b}
theorem z0n(ns:List Q0q)(a b:Int):(Q1h ns a b).length=ns.length:=by unfold Q1h;split<;>simp
theorem z52{w:World}{base:Nat}{e:TypeId}{size:Nat}{v:Value}{n:Nat}{xs:List Value}(h:w.ownsRow base e size v n xs){g:Nat}(hg:v.ownBlock=some g)(j:Nat)(u:Value)(hj:j<xs.length) :
    (w.setCell ⟨g,j,none⟩ u).ownsRow base e size v n (xs.set j u):=by
  obtain⟨h1,h2⟩:=h;refine⟨by simpa using h1,?_⟩;rcases h2 with⟨rfl,_⟩|⟨g',cap,j0,rfl,hb,j1,hn,hc,hs,ht⟩
  · simp[Value.ownBlock]at hg
  simp only[Value.ownBlock,qO]at hg;subst hg;refine .inr ⟨g',cap,j0.setIfInBounds j u,rfl,hb,zhs j1 j u,hn,hc,by simpa using hs,?_⟩;rw[Array.toList_setIfInBounds,← ht,List.take_set]
theorem z0d{w w':World}{base:Nat}{e:TypeId}{size:Nat}{v:Value}{n:Nat}{xs:List Value}(h:w.ownsRow base e size v n xs)(hk:∀g,v.ownBlock=some g->w'.heap[g]? = w.heap[g]?) :
    w'.ownsRow base e size v n xs:=by
  obtain⟨h1,h2⟩:=h;refine⟨h1,?_⟩;rcases h2 with h2|⟨g',cap,j0,rfl,hb,j1,r⟩
  · exact .inl h2
  exact .inr ⟨g',cap,j0,rfl,hb,(hk g' rfl).trans j1,r⟩
structure BAt(w:World)(bb:Nat)(v:Value)(ns:List Q0q):Prop where
  blk:w.heap[bb]? = some (.cells #[v] 219 (0,0))
  own:w.ownsRow (bb+1) 216 7 v ns.length (Q4v ns)
  wf:Nwf ns
def Q9c(bb:Nat)(v:Value)(k:Nat):Prop:=k=bb∨v.ownBlock=some k
structure Q1g(w w':World)(bb:Nat)(v v':Value)(ns':List Q0q):Prop where
  at':BAt w' bb v' ns'
  mod:Mod (Q9c bb v) w w'
  foot':∀k,v'.ownBlock=some k->v.ownBlock=some k∨w.heap.size<=k
theorem BAt.lt{w:World}{bb:Nat}{v:Value}{ns:List Q0q}(h:BAt w bb v ns):bb<w.heap.size:=z0j h.blk
theorem BAt.own_lt{w:World}{bb:Nat}{v:Value}{ns:List Q0q}(h:BAt w bb v ns):∀k,v.ownBlock=some k->bb<k/\k<w.heap.size:=fun k hk=>by
  have:=h.own.lt k hk;omega
theorem BAt.kept{S:Nat->Prop}{w w':World}{bb:Nat}{v:Value}{ns:List Q0q}(h:BAt w bb v ns)(hm:Mod S w w')(hs:∀k,Q9c bb v k->¬S k):BAt w' bb v ns :=
  ⟨hm.at h.blk (hs bb (.inl rfl)),z0d h.own (fun g hg=>hm.block g (h.own_lt g hg).2 (hs g (.inr hg))),h.wf⟩
theorem Q1g.trans{a b c:World}{bb:Nat}{v v' v'':Value}{ns' ns'':List Q0q}(h:Q1g a b bb v v' ns')(k:Q1g b c bb v' v'' ns''):Q1g a c bb v v'' ns'' :=
  ⟨k.at',h.mod.trans' k.mod (fun i hi hf=>by
      rcases hf with rfl|hf
      · exact .inl rfl
      rcases h.foot' i hf with h1|h1
      · exact .inr h1
      omega),
   fun i hi=>by
      rcases k.foot' i hi with h1|h1
      · exact h.foot' i h1
      right;have:=h.mod.size;omega⟩
theorem Q1g.ahead{a b c:World}{bb:Nat}{v v':Value}{ns':List Q0q}(h:Q0a a b)(k:Q1g b c bb v v' ns'):Q1g a c bb v v' ns' :=
  ⟨k.at',⟨k.mod.os.trans h.os,k.mod.tape.trans h.tape,k.mod.output.trans h.output,qDa h.size k.mod.size,fun i hi hs=>(k.mod.block i (qDr hi h.size) hs).trans (h.block i hi id)⟩,
   fun i hi=>by
      rcases k.foot' i hi with h1|h1
      · exact .inl h1
      right;have:=h.size;omega⟩
theorem Q1g.behind{a b c:World}{bb:Nat}{v v':Value}{ns':List Q0q}(h:Q1g a b bb v v' ns'){S:Nat->Prop}(k:Mod S b c)(hS:∀i,S i->a.heap.size<=i)(hv:∀i,Q9c bb v' i->¬S i):Q1g a c bb v v' ns' :=
  ⟨h.at'.kept k hv,h.mod.trans' k (fun i hi hs=>by have:=hS i hs;omega),h.foot'⟩
theorem Q1g.refl{w:World}{bb:Nat}{v:Value}{ns:List Q0q}(h:BAt w bb v ns):Q1g w w bb v v ns:=⟨h,mRf _ _,fun _ h=>.inl h⟩
theorem infoNode:(Tryz.prog.info? 216).map (fun i=>(i.zero,i.size,i.bytes))=some (some (.agg #[.bool false,.int .u64 0,.int .u64 0,.int .u64 0,.int .u64 0,.int .i64 0,.int .i64 0]),7,56):=by kernel_rfl
theorem Q9g:∃i,Tryz.prog.info? 216=some i/\i.zero=some (.agg #[.bool false,.int .u64 0,.int .u64 0,.int .u64 0,.int .u64 0,.int .i64 0,.int .i64 0])/\i.size=7/\i.bytes=56:=nfoE infoNode
section
variable {P:Program}(w:World)
theorem y4j{w w':World}(h:w.grownBy w' none)(row:Option Nat):w.grownBy w' row :=
  ⟨h.os,h.tape,h.output,h.size,fun k hk _=>h.block k hk (by simp)⟩
theorem z0g{w:World}{b b':Nat}{e:TypeId}{size:Nat}{v:Value}{n:Nat}{xs:List Value}(h:w.ownsRow b e size v n xs)(hb:b'<=b):w.ownsRow b' e size v n xs:=by
  refine⟨h.1,?_⟩;rcases h.2 with h2|⟨g,cap,j0,h1,h2,r⟩
  · exact .inl h2
  exact .inr ⟨g,cap,j0,h1,by omega,r⟩
theorem z5c(base:Nat)(t ty e:TypeId)(i:TypeInfo)(z:Value)(size bytes:Nat)(ht:P.underlying t=some (.slice e))(hi:P.info? e=some i)(hz:i.zero=some z)
    (hsize:i.size=size) (hby:i.bytes=bytes) (hzs:z.cells.size=size) (hsz:0<size)
    (v:Value) (n:Nat) (xs:List Value) (hown:w.ownsRow base e size v n xs)
    (a:Addr) (m c:Nat) (news:List Value) (hl:news.length=m*size) (hnews:∀j u,news[j]? = some u->w.cell? (a.add j)=some u) (h1:∀u∈news,u.oneCell'=true)
    (h63:n+m<=maxLen) (hbytes:(n+m)*bytes<=140737488355328) (hbase:base<=w.heap.size) :
    ∃v' w',(Builtin.append_ #[t,t] ty #[v,.slice (some a) m c]).run P w=.ok v' w'/\w'.ownsRow base e size v' (n+m) (xs++news)/\w.grownBy w' v.ownBlock /\
      (∀k,v'.ownBlock=some k->v.ownBlock=some k∨w.heap.size<=k):=by
  rcases hown.2 with⟨rfl,rfl⟩|⟨g,cap,j3,rfl,j7,hg,j9,j8,j6,j5⟩
  · have hx:xs=[]:=qCm (by simpa using hown.1)
    subst hx;obtain⟨v',w',hr,h2,h3,_⟩:=run_append_own (P:=P) w w.heap.size t ty e i z size bytes ht hi hz hsize hby hzs hsz _ 0 [] (qAh w _ e size) a m c news hl hnews h1 h63 hbytes (qR _);exact⟨v',w',hr,z0g h2 hbase,h3,fun k hk=>.inr (h2.lt k hk).1⟩
  by_cases j0:n+m<=cap
  · obtain⟨v',w',hr,h2,h3,_⟩:=run_append_own (P:=P) w base t ty e i z size bytes ht hi hz hsize hby hzs hsz _ n xs hown a m c news hl hnews h1 h63 hbytes hbase
    subst hsize;have j2:n*i.size+news.length<=j3.size:=by rw[hl,j6,← qFc];exact qCr _ j0
    have j4:=run_append_room (P:=P) w t ty e i ht hi g n cap j3 hg a m c news hl hnews h1 j0 j2;rw[hr]at j4;injection j4 with e1 e2;exact⟨v',w',hr,h2,h3,fun k hk=>by rw[e1]at hk;exact .inl hk⟩
  have j1:∀j u,xs[j]? = some u->w.cell? ((⟨g,0,none⟩:Addr).add j)=some u:=hown.cells (g:=g) rfl;obtain⟨v',w',hr,h2,h3⟩:=run_append_arg_grows (P:=P) w t ty e i z size bytes ht hi hz hsize hby hzs hsz ⟨g,0,none⟩ n cap xs hown.1 j1 a m c news hl hnews (by omega) h63 hbytes;exact⟨v',w',hr,z0g h2 hbase,y4j h3 _,fun k hk=>.inr (h2.lt k hk).1⟩
theorem z5u{o:Oper}{a:Act}{K:Act->World->Prop}{Q:Exit->Act->World->Prop}(s x:Operand)(t:TypeId)
    (ho:o.op=.call {callee:=.builtin .append,args:=#[s,x],argTypes:=#[t,t]})
    (base:Nat) (e:TypeId) (i:TypeInfo) (z:Value) (size bytes:Nat) (ht:P.underlying t=some (.slice e)) (hi:P.info? e=some i) (hz:i.zero=some z)
    (hsize:i.size=size) (hby:i.bytes=bytes) (hzs:z.cells.size=size) (hsz:0<size)
    (v:Value) (n:Nat) (xs:List Value) (hs:a.eval s=v) (hown:w.ownsRow base e size v n xs)
    (ad:Addr) (m c:Nat) (news:List Value) (hx:a.eval x=.slice (some ad) m c) (hl:news.length=m*size) (hnews:∀j u,news[j]? = some u->w.cell? (ad.add j)=some u) (h1:∀u∈news,u.oneCell'=true)
    (h63:n+m<=maxLen) (hbytes:(n+m)*bytes<=140737488355328) (hbase:base<=w.heap.size)
    (h:∀v' w',w'.ownsRow base e size v' (n+m) (xs++news)->w.grownBy w' v.ownBlock->(∀k,v'.ownBlock=some k->v.ownBlock=some k∨w.heap.size<=k)->K (a.put o.dst v') w'):o.wp P a w K Q:=by
  obtain⟨v',w',hr,h2,h3,h4⟩:=z5c (P:=P) w base t o.type e i z size bytes ht hi hz hsize hby hzs hsz v n xs hown ad m c news hl hnews h1 h63 hbytes hbase;unfold Oper.wp execOp;simp only[ho,resolve,invoke,builtin,Sem.run_bind,Sem.run_pure,Result.andThen_ok,List.map_toArray,qDl,List.map_nil,hs,hx,hr];exact h v' w' h2 h3 h4
theorem z0f{ops:Array Oper}{rest:List Oper}{o:Oper}{a:Act}{Q:Exit->Act->World->Prop}(hgd:o.guard=none)(s x:Operand)(t:TypeId)
    (ho:o.op=.call {callee:=.builtin .append,args:=#[s,x],argTypes:=#[t,t]})
    (base:Nat) (e:TypeId) (i:TypeInfo) (z:Value) (size bytes:Nat) (ht:P.underlying t=some (.slice e)) (hi:P.info? e=some i) (hz:i.zero=some z)
    (hsize:i.size=size) (hby:i.bytes=bytes) (hzs:z.cells.size=size) (hsz:0<size)
    (v:Value) (n:Nat) (xs:List Value) (hs:a.eval s=v) (hown:w.ownsRow base e size v n xs)
    (ad:Addr) (m c:Nat) (news:List Value) (hx:a.eval x=.slice (some ad) m c) (hl:news.length=m*size) (hnews:∀j u,news[j]? = some u->w.cell? (ad.add j)=some u) (h1:∀u∈news,u.oneCell'=true)
    (h63:n+m<=maxLen) (hbytes:(n+m)*bytes<=140737488355328) (hbase:base<=w.heap.size)
    (h:∀v' w',w'.ownsRow base e size v' (n+m) (xs++news)->w.grownBy w' v.ownBlock->(∀k,v'.ownBlock=some k->v.ownBlock=some k∨w.heap.size<=k)->wpList P ops Q rest (a.put o.dst v') w'):wpList P ops Q (o::rest) a w :=
  wpList_plain hgd fun _ hK=>z5u w s x t ho base e i z size bytes ht hi hz hsize hby hzs hsz v n xs hs hown ad m c news hx hl hnews h1 h63 hbytes hbase fun v' w' h2 h3 h4=>hK _ _ (h v' w' h2 h3 h4)
theorem z78{ops:Array Oper}{o:Oper}{a:Act}{K:Act->World->Prop}{Q:Exit->Act->World->Prop}{E:Prop}(hgd:o.guard=none)(s x:Operand)(t:TypeId)
    (ho:o.op=.call {callee:=.builtin .append,args:=#[s,x],argTypes:=#[t,t]})
    (base:Nat) (e:TypeId) (i:TypeInfo) (z:Value) (size bytes:Nat) (ht:P.underlying t=some (.slice e)) (hi:P.info? e=some i) (hz:i.zero=some z)
    (hsize:i.size=size) (hby:i.bytes=bytes) (hzs:z.cells.size=size) (hsz:0<size)
    (v:Value) (n:Nat) (xs:List Value) (hs:a.eval s=v) (hown:w.ownsRow base e size v n xs)
    (ad:Addr) (m c:Nat) (news:List Value) (hx:a.eval x=.slice (some ad) m c) (hl:news.length=m*size) (hnews:∀j u,news[j]? = some u->w.cell? (ad.add j)=some u) (h1:∀u∈news,u.oneCell'=true)
    (h63:n+m<=maxLen) (hbytes:(n+m)*bytes<=140737488355328) (hbase:base<=w.heap.size)
    (h:∀v' w',w'.ownsRow base e size v' (n+m) (xs++news)->w.grownBy w' v.ownBlock->(∀k,v'.ownBlock=some k->v.ownBlock=some k∨w.heap.size<=k)->K (a.put o.dst v') w') :
    if Region.wanted o (yielded ops a.tmps)=true then Oper.wp P o a w K Q else E:=by
  have hw:Region.wanted o (yielded ops a.tmps)=true:=by simp[Region.wanted,hgd]
  rw[qAb hw];exact z5u w s x t ho base e i z size bytes ht hi hz hsize hby hzs hsz v n xs hs hown ad m c news hx hl hnews h1 h63 hbytes hbase h
end
abbrev Q3c(bb:Nat):Value:=.pointer (some ⟨bb,0,none⟩)
theorem z0c{w:World}{base size n:Nat}{e:TypeId}{v:Value}{xs:List Value}(h:w.ownsRow base e size v n xs):∃a cap,v=.slice a n cap:=by
  rcases h.2 with⟨rfl,rfl⟩|⟨g,cap,j0,rfl,_⟩
  · exact⟨none,0,rfl⟩
  exact⟨some ⟨g,0,none⟩,cap,rfl⟩
theorem z0m{w:World}{cs:Array Value}{l:List Value}{e:TypeId}(h:cs.toList=l):∀(j:Nat) (u:Value),l[j]? = some u->(w.alloc (.cells cs e)).cell? ((⟨w.heap.size,0,none⟩:Addr).add j)=some u:=by
  intro j u hj;rw[qDd,qBy,Q0b (z0a _ _)];subst h;simpa using hj
theorem v1s{ws:List Int}{u:Value}(h:u∈ws.map (Value.int .u64)):u.oneCell'=true:=by
  simp at h;obtain⟨a,_,rfl⟩:=h;rfl
theorem Q0q.one(n:Q0q):∀u∈n.cells,u.oneCell'=true:=by
  intro u hu;simp only[Q0q.cells,qBu,qU,qEi,or_false]at hu;rcases hu with rfl|hu|rfl|rfl
  · rfl
  · exact v1s hu
  · rfl
  rfl
theorem badd{w W w1:World}{bb:Nat}{v v':Value}{ns:List Q0q}{n:Q0q}(h:BAt w bb v ns)(hW:Q0a w W)(hn:n.wf)
    (hown:w1.ownsRow (bb+1) 216 7 v' (ns.length+1) (Q4v ns++n.cells)) (hg:W.grownBy w1 v.ownBlock)
    (hb:∀k,v'.ownBlock=some k->v.ownBlock=some k∨W.heap.size<=k) :
    Q1g w (w1.setCell ⟨bb,0,none⟩ v') bb v v' (ns++[n]):=by
  have j0:W.heap[bb]? = some (.cells #[v] 219 (0,0)):=hW.at h.blk id;have h1:w1.heap[bb]? = some (.cells #[v] 219 (0,0)):=by
    rw[hg.block bb (z0j j0) (fun e=>by have:=h.own_lt bb e.symm;omega)];exact j0
  have j1:=hown.lt;refine⟨⟨?_,?_,y96 h.wf (fun m hm=>by simp at hm;subst hm;exact hn)⟩,?_,?_⟩
  · have:=zhs h1 0 v';simpa using this
  · have:Q4v (ns++[n])=Q4v ns++n.cells:=by simp[Q4v]
    rw[this];have e2:(ns++[n]).length=ns.length+1:=by simp
    rw[e2];exact z0d hown (fun g hg'=>by rw[Proofs.YtbdpfmalabgmbaaGreat.heap_setCell_other _ (by have:=j1 g hg';simp;omega)])
  · have m1:Mod (Q9c bb v) w W:=hW.mono (fun _ _ x=>x.elim)
    exact(m1.grown hg (fun k hk _=>.inr hk)).setCell (fun _=>.inl rfl) _
  intro k hk;rcases hb k hk with h2|h2
  · exact .inl h2
  right;have:=hW.size;omega
theorem z1n(w:World)(bb:Nat)(v:Value)(ns:List Q0q)(h:BAt w bb v ns)(hn:ns.length<=100000) :
    Calls Tryz.prog 142 #[Q3c bb] w fun e w'=>e=.returned (.int .i64 ns.length)/\∃v',Q1g w w' bb v v' (ns++[plainNode]):=by
  obtain⟨i0,hi,j7,j4,j8⟩:=Q9g;obtain⟨ao,cap,hv⟩:=z0c h.own;have hc:=Q0b h.blk 0;have j3:=h.lt;have H:Hid _:=h;clear h;subst hv;simp at hc;go_enter Tryz.func142,Tryz.ntmps142
  go_wp2_with (at_builtin;refine z0f _ rfl _ _ 77 rfl (bb+1) 216 i0 _ 7 56 Tryz.underlying77 hi j7 j4 j8 rfl (by decide) _ _ _ rfl (H.own.alloc _) ⟨w.heap.size,0,none⟩ 1 1 plainNode.cells rfl rfl ?c1 ?c2 ?c3 ?c4 ?c5 ?_)
  case c1=>exact z0m rfl
  case c2=>exact Q0q.one _
  case c3=>unfold maxLen;omega
  case c4=>omega
  case c5=>simp;omega
  intro v' w1 j1 j0 j2;obtain⟨a',j5,j6⟩:=z0c j1;have j9:w1.cell? ⟨bb,0,none⟩=some (.slice ao ns.length cap):=by
    rw[Q0b (b:=bb) (c:=#[.slice ao ns.length cap]) (e:=219) (f:=(0,0))]
    · rfl
    rw[j0.block bb (by simp;omega) (fun e=>by have:=H.own_lt bb e.symm;omega),z0s j3];exact H.blk
  have j4:w1.frozen? ⟨bb,0,none⟩=false:=by
    rw[Q0f (b:=bb) (c:=#[.slice ao ns.length cap]) (e:=219)];rw[j0.block bb (by simp;omega) (fun e=>by have:=H.own_lt bb e.symm;omega),z0s j3];exact H.blk
  have HO:Hid _:=j1;have HG:Hid _:=j0;clear j1 j0;subst j6;go_wp2;go_ret;refine⟨z1i (by simp),_,badd H.out ((mRf _ w).alloc _) x7j HO.out HG.out (by simpa using j2)⟩
theorem v0n(w:World)(bb:Nat)(v:Value)(ns:List Q0q)(a b:Int)(h:BAt w bb v ns)(hn:ns.length<=100000)(ha:a<0∨(ns.length:Int)<=a) :
    Calls Tryz.prog 143 #[Q3c bb,.int .i64 a,.int .i64 b] w fun e w'=>e=.returned (.tuple #[])/\∃v',Q1g w w' bb v v' (Q1h ns a b):=by
  have e1:Q1h ns a b=ns:=by unfold Q1h;rw[qAb ha]
  rw[e1];obtain⟨ao,cap,hv⟩:=z0c h.own;have hc:=Q0b h.blk 0;have H:Hid _:=h;clear h e1;subst hv;simp at hc;rcases ha with ha|ha
  · go_enter Tryz.func143,Tryz.ntmps143
    go_wp2;refine qAc (qDe rfl _ _ _) rfl ?_;exact⟨rfl,_,Q1g.refl H.out⟩
  go_enter Tryz.func143,Tryz.ntmps143
  go_wp2;refine qAc (qDe rfl _ _ _) rfl ?_;exact⟨rfl,_,Q1g.refl H.out⟩
theorem blink{w:World}{bb g n cap:Nat}{ns:List Q0q}(h:BAt w bb (.slice (some ⟨g,0,none⟩) n cap) ns)(a j:Nat)(u:Value)(f:Q0q->Q0q)(ha:a<ns.length)(hj:j<7)
    (hf:∀n,n.wf->(f n).cells=n.cells.set j u) (hw:∀n,n.wf->(f n).wf) :
    Q1g w (w.setCell ⟨g,a*7+j,none⟩ u) bb (.slice (some ⟨g,0,none⟩) n cap) (.slice (some ⟨g,0,none⟩) n cap) (ns.modify a f):=by
  have hl:=h.own_lt g rfl;refine⟨⟨?_,?_,y97 h.wf _ _ hw⟩,?_,fun k hk=>.inl hk⟩
  · exact z0h h.blk (by simp;omega)
  · rw[List.length_modify,← x0q h.wf a j ha hj u f hf]
    exact z52 h.own rfl _ _ (by rw[x0p h.wf];omega)
  exact(mRf _ _).setCell (fun _=>.inr rfl) _
theorem z7w{ns:List Q0q}{a:Nat}(ha:a<ns.length){f g:Q0q->Q0q}(h:f ns[a]=g ns[a]):ns.modify a f=ns.modify a g:=by
  induction ns generalizing a with
  |nil=>simp at ha
  |cons n ns ih =>
    cases a with
    |zero=>simp at h ⊢;exact h
    |succ a=>simp at h ⊢;exact ih (by simpa using ha) h
theorem v0m(w:World)(bb:Nat)(v:Value)(ns:List Q0q)(a:Nat)(b:Int)(h:BAt w bb v ns)(hn:ns.length<=100000)(ha:a<ns.length) :
    Calls Tryz.prog 143 #[Q3c bb,.int .i64 a,.int .i64 b] w fun e w'=>e=.returned (.tuple #[])/\∃v',Q1g w w' bb v v' (Q1h ns a b):=by
  obtain⟨g,cap,hv⟩:=Joins.ownsRow_form h.own (by omega);have hc:=Q0b h.blk 0;subst hv;have j3:w.cell? ⟨g,a*7+5,none⟩=some (.int .i64 (ns[a]).next):=by
    have:=h.own.cells (g:=g) rfl (a*7+5) (.int .i64 (ns[a]).next) (by rw[z9w h.wf a 5 ha (by omega),Q0q.cells_at (h.wf _ (by simp))];rfl);rwa [qDd,qBy]at this
  have j4:w.cell? ⟨g,a*7+6,none⟩=some (.int .i64 (ns[a]).other):=by
    have:=h.own.cells (g:=g) rfl (a*7+6) (.int .i64 (ns[a]).other) (by rw[z9w h.wf a 6 ha (by omega),Q0q.cells_at (h.wf _ (by simp))];rfl);rwa [qDd,qBy]at this
  have hz:∀o,w.frozen? ⟨g,o,none⟩=false:=by
    rcases h.own.2 with⟨h1,_⟩|⟨g',j0,j2,h1,_,j1,_⟩
    · cases h1
    simp at h1;obtain⟨rfl,_⟩:=h1;exact Q0f j1
  have H:Hid _:=h;clear h;simp at hc;go_enter Tryz.func143,Tryz.ntmps143
  go_wp2
  · have h5:(ns[a]).next=-1:=by simpa using ‹((ns[a]).next==-1)=true›
    refine qAc (qDe rfl _ _ _) rfl ⟨rfl,.slice (some ⟨g,0,none⟩) ns.length cap,?_⟩;have e1:Q1h ns a b=ns.modify a (fun n=>{n with next:=b}):=by
      unfold Q1h;rw[qAa (by omega),qAo];exact z7w ha (by simp[h5])
    rw[e1];exact blink H.out a 5 _ _ ha (by omega) (fun n hn=>by obtain⟨a,b,c,d,e⟩:=four hn;simp[Q0q.cells,e]) (fun n hn=>hn)
  have h5:(ns[a]).next≠-1:=by simpa using ‹((ns[a]).next==-1)=false›
  refine qFf (qDe rfl _ _ _) rfl ⟨rfl,.slice (some ⟨g,0,none⟩) ns.length cap,?_⟩;have e1:Q1h ns a b=ns.modify a (fun n=>{n with other:=b}):=by
    unfold Q1h;rw[qAa (by omega),qAo];exact z7w ha (by simp[h5])
  rw[e1];exact blink H.out a 6 _ _ ha (by omega) (fun n hn=>by obtain⟨a,b,c,d,e⟩:=four hn;simp[Q0q.cells,e]) (fun n hn=>hn)
theorem z1q(w:World)(bb:Nat)(v:Value)(ns:List Q0q)(a b:Int)(h:BAt w bb v ns)(hn:ns.length<=100000) :
    Calls Tryz.prog 143 #[Q3c bb,.int .i64 a,.int .i64 b] w fun e w'=>e=.returned (.tuple #[])/\∃v',Q1g w w' bb v v' (Q1h ns a b):=by
  by_cases ha:a<0∨(ns.length:Int)<=a
  · exact v0n w bb v ns a b h hn ha
  obtain⟨k,rfl⟩:∃k:Nat,a=k:=⟨a.toNat,by omega⟩;exact v0m w bb v ns k b h hn (by omega)
abbrev Q79(a b:Int):Value:=.agg #[.int .i64 a,.int .i64 b]
theorem BAt.not_foot{w:World}{bb:Nat}{v:Value}{ns:List Q0q}(h:BAt w bb v ns){k:Nat}(hk:w.heap.size<=k):¬Q9c bb v k:=by
  rintro(rfl|h1)
  · have:=h.lt;omega
  have:=h.own_lt k h1;omega
theorem BAt.fresh{w w':World}{bb:Nat}{v:Value}{ns:List Q0q}(h:BAt w bb v ns)(hm:Q0a w w'):BAt w' bb v ns:=h.kept hm (fun _ _ x=>x)
theorem Q1g.nf{w w':World}{bb:Nat}{v v':Value}{ns':List Q0q}(h:Q1g w w' bb v v' ns'){k:Nat}(hk:k<w.heap.size)(hn:¬Q9c bb v k):¬Q9c bb v' k:=by
  rintro(rfl|h1)
  · exact hn (.inl rfl)
  rcases h.foot' k h1 with h2|h2
  · exact hn (.inr h2)
  omega
theorem Q1g.put{a b:World}{bb:Nat}{v v':Value}{ns':List Q0q}(h:Q1g a b bb v v' ns'){p:Addr}(hk:a.heap.size<=p.block)(hf:¬Q9c bb v' p.block)(u:Value):Q1g a (b.setCell p u) bb v v' ns' :=
  h.behind (S:=fun i=>i=p.block) (Mod.setCell (S:=fun i=>i=p.block) (mRf _ _) (fun _=>rfl) u) (fun i hi=>by rw[hi];exact hk) (fun i hi e=>hf (by rw[← e];exact hi))
theorem Q1g.alloc{a b:World}{bb:Nat}{v v':Value}{ns':List Q0q}(h:Q1g a b bb v v' ns')(o:Obj):Q1g a (b.alloc o) bb v v' ns' :=
  h.behind (S:=fun _=>False) ((mRf _ _).alloc o) (fun _ x=>x.elim) (fun _ _ x=>x)
theorem Q1g.loc{W w':World}{bb:Nat}{v v':Value}{ns':List Q0q}(g:Q1g W w' bb v v' ns'){k:Nat}{cs:Array Value}{e:TypeId}{f:Nat × Nat}(hb:W.heap[k]? = some (.cells cs e f))(hn:¬Q9c bb v k)(o:Nat) :
    w'.cell? ⟨k,o,none⟩=cs[o]? := Q0b (g.mod.at hb hn) o
theorem z1f(w:World)(A B C:Obj):(((w.alloc A).alloc B).alloc C).heap[w.heap.size]? = some A:=z0b (z0b (z0a _ _))
theorem z06(w:World)(A B C:Obj):(((w.alloc A).alloc B).alloc C).heap[w.heap.size+1]? = some B:=z0b (qBa _ _ _)
theorem z01(w:World)(A B C:Obj):(((w.alloc A).alloc B).alloc C).heap[w.heap.size+2]? = some C:=by
  have:=z0a ((w.alloc A).alloc B) C;simpa using this
theorem Q3l:(Tryz.prog.info? 221).map (·.size)=some 2:=by kernel_rfl
theorem x6s(w:World)(bb:Nat)(v:Value)(ns:List Q0q)(a b c d:Int)(h:BAt w bb v ns)(hn:ns.length<=100000) :
    Calls Tryz.prog 141 #[Q3c bb,Q79 a b,Q79 c d] w fun e w'=>e=.returned (Q79 a d)/\∃v',Q1g w w' bb v v' (Q1h ns b c):=by
  have H:Hid _:=h;have hN:=fun k (hk:w.heap.size<=k)=>h.not_foot hk;have HN:Hid _:=hN;clear h hN;go_enter Tryz.func141,Tryz.ntmps141
  go_wp2_with (go_at_call 143;refine(z1q _ bb v ns _ _ (H.fresh (((((mRf _ w).alloc _).alloc _).alloc _))) (by omega)).mono ?_;rintro e w1⟨rfl,v1,h1⟩;have k1:=Q0b (h1.mod.at (z1f _ _ _ _) (HN.out _ (by omega)));have k2:=Q0b (h1.mod.at (z06 _ _ _ _) (HN.out _ (by omega)));have k3:=Q0b (h1.mod.at (z01 _ _ _ _) (HN.out _ (by omega)));have k4:=Q0f (h1.mod.at (z01 _ _ _ _) (HN.out _ (by omega))))
  refine qAc (qCg rfl _ _ (w.heap.size+2) 221 #[.int .i64 a,.int .i64 d] (0,0) _ rfl ?_ qBz rfl Q3l) rfl ⟨rfl,v1,?_⟩
  · rw[zhs (zhs (h1.mod.at (z01 _ _ _ _) (HN.out _ (by omega))) 0 _) 1 _];rfl
  have hf:=h1.nf (k:=w.heap.size+2) (by simp) (HN.out _ (by omega));exact((Q1g.ahead ((((mRf _ w).alloc _).alloc _).alloc _) h1).put (by simp;omega) hf _).put (by simp;omega) hf _
def Q37(ns:List Q0q)(a b c d:Int):List Q0q :=
  Q1h (Q1h (Q1h (Q1h (ns++[plainNode]++[plainNode]) ns.length a) ns.length c) b (ns.length+1)) d (ns.length+1)
theorem x0e(w:World)(bb:Nat)(v:Value)(ns:List Q0q)(a b c d:Int)(h:BAt w bb v ns)(hn:ns.length<=50000) :
    Calls Tryz.prog 136 #[Q3c bb,Q79 a b,Q79 c d] w fun e w'=>e=.returned (Q79 ns.length (ns.length+1))/\∃v',Q1g w w' bb v v' (Q37 ns a b c d):=by
  have H:Hid _:=h;have hN:=fun k (hk:w.heap.size<=k)=>h.not_foot hk;have HN:Hid _:=hN;clear h hN;go_enter Tryz.func136,Tryz.ntmps136
  go_wp2_with (go_at_call 142;refine(z1n _ bb v ns (H.fresh (((((mRf _ w).alloc _).alloc _).alloc _))) (by omega)).mono ?_;rintro e w1⟨rfl,v1,h1⟩)
  go_wp2_with (go_at_call 142;refine(z1n _ bb v1 _ h1.at' (by simp;omega)).mono ?_;rintro e w2⟨rfl,v2,h2⟩;have g2:=h1.trans h2;have k1:=g2.loc (z1f _ _ _ _) (HN.out _ (by omega));have k2:=g2.loc (z06 _ _ _ _) (HN.out _ (by omega));clear h1 h2)
  clear k1 k2;go_wp2_with (go_at_call 143;refine(z1q _ bb v2 _ _ _ g2.at' (by simp;omega)).mono ?_;rintro e w3⟨rfl,v3,h3⟩;have g3:=g2.trans h3;have k1:=g3.loc (z1f _ _ _ _) (HN.out _ (by omega));have k2:=g3.loc (z06 _ _ _ _) (HN.out _ (by omega));clear g2 h3)
  clear k1 k2;go_wp2_with (go_at_call 143;refine(z1q _ bb v3 _ _ _ g3.at' (by rw[z0n];simp;omega)).mono ?_;rintro e w4⟨rfl,v4,h4⟩;have g4:=g3.trans h4;have k1:=g4.loc (z1f _ _ _ _) (HN.out _ (by omega));have k2:=g4.loc (z06 _ _ _ _) (HN.out _ (by omega));clear g3 h4)
  clear k1 k2;go_wp2_with (go_at_call 143;refine(z1q _ bb v4 _ _ _ g4.at' (by rw[z0n,z0n];simp;omega)).mono ?_;rintro e w5⟨rfl,v5,h5⟩;have g5:=g4.trans h5;have k1:=g5.loc (z1f _ _ _ _) (HN.out _ (by omega));have k2:=g5.loc (z06 _ _ _ _) (HN.out _ (by omega));clear g4 h5)
  clear k1 k2;go_wp2_with (go_at_call 143;refine(z1q _ bb v5 _ _ _ g5.at' (by rw[z0n,z0n,z0n];simp;omega)).mono ?_;rintro e w6⟨rfl,v6,h6⟩;have g6:=g5.trans h6;have k3:=g6.loc (z01 _ _ _ _) (HN.out _ (by omega));have k4:=Q0f (g6.mod.at (z01 _ _ _ _) (HN.out _ (by omega)));clear g5 h6)
  refine qAc (qCg rfl _ _ (w.heap.size+2) 221 #[.int .i64 ns.length,.int .i64 (ns.length+1)] (0,0) _ rfl ?_ qBz rfl Q3l) rfl ⟨rfl,v6,?_⟩
  · rw[zhs (zhs (g6.mod.at (z01 _ _ _ _) (HN.out _ (by omega))) 0 _) 1 _];rfl
  have hf:=g6.nf (k:=w.heap.size+2) (by simp) (HN.out _ (by omega));have:=((Q1g.ahead ((((mRf _ w).alloc _).alloc _).alloc _) g6).put (p:=⟨w.heap.size+2,0,none⟩) (by simp) hf (.int .i64 ns.length)).put (p:=⟨w.heap.size+2,1,none⟩) (by simp) hf (.int .i64 (ns.length+1));exact this
def Q17(ns:List Q0q)(a b m:Int):List Q0q :=
  let n1:=Q1h (Q1h (ns++[plainNode]++[plainNode]) ns.length a) b (ns.length+1)
  let n2:=if m=43 then n1 else Q1h n1 ns.length (ns.length+1)
  if m=63 then n2 else Q1h n2 b a
theorem y7n(w:World)(bb:Nat)(v:Value)(ns:List Q0q)(a b m:Int)(h:BAt w bb v ns)(hn:ns.length<=50000)(hm:m=43) :
    Calls Tryz.prog 146 #[Q3c bb,Q79 a b,.int .i64 m] w fun e w'=>e=.returned (Q79 ns.length (ns.length+1))/\∃v',Q1g w w' bb v v' (Q17 ns a b m):=by
  have H:Hid _:=h;have hN:=fun k (hk:w.heap.size<=k)=>h.not_foot hk;have HN:Hid _:=hN;have E:Hid (Q17 ns a b m=Q1h (Q1h (Q1h (ns++[plainNode]++[plainNode]) ns.length a) b (ns.length+1)) b a):=by unfold Hid Q17;simp[hm]
  have m1:(m != 43)=false:=by simp[hm]
  have m2:(m != 63)=true:=by simp[hm]
  clear hm;clear h hN;go_enter Tryz.func146,Tryz.ntmps146
  go_wp2_with (go_at_call 142;refine(z1n _ bb v ns (H.fresh ((((mRf _ w).alloc _).alloc _))) (by omega)).mono ?_;rintro e w1⟨rfl,v1,h1⟩)
  go_wp2_with (go_at_call 142;refine(z1n _ bb v1 _ h1.at' (by simp;omega)).mono ?_;rintro e w2⟨rfl,v2,h2⟩;have g2:=h1.trans h2;have k1:=g2.loc (qBg _ _ _) (HN.out _ (by omega));clear h1 h2)
  clear k1;go_wp2_with (go_at_call 143;refine(z1q _ bb v2 _ _ _ g2.at' (by simp;omega)).mono ?_;rintro e w3⟨rfl,v3,h3⟩;have g3:=g2.trans h3;have k1:=g3.loc (qBg _ _ _) (HN.out _ (by omega));clear g2 h3)
  clear k1;go_wp2_with (go_at_call 143;refine(z1q _ bb v3 _ _ _ g3.at' (by rw[z0n];simp;omega)).mono ?_;rintro e w4⟨rfl,v4,h4⟩;have g4:=g3.trans h4;have k1:=g4.loc (qBg _ _ _) (HN.out _ (by omega));clear g3 h4)
  clear k1;go_wp2_with (go_at_call 143;refine(z1q _ bb v4 _ _ _ g4.at' (by rw[z0n,z0n];simp;omega)).mono ?_;rintro e w5⟨rfl,v5,h5⟩;have g5:=g4.trans h5;have k3:=g5.loc (qBa _ _ _) (HN.out _ (by omega));have k4:=Q0f (g5.mod.at (qBa _ _ _) (HN.out _ (by omega)));clear g4 h5)
  refine qAc (qCg rfl _ _ (w.heap.size+1) 221 #[.int .i64 ns.length,.int .i64 (ns.length+1)] (0,0) _ rfl ?_ qBz rfl Q3l) rfl ⟨rfl,v5,?_⟩
  · rw[zhs (zhs (g5.mod.at (qBa _ _ _) (HN.out _ (by omega))) 0 _) 1 _];rfl
  have hf:=g5.nf (k:=w.heap.size+1) (by simp) (HN.out _ (by omega));have:=((Q1g.ahead (((mRf _ w).alloc _).alloc _) g5).put (p:=⟨w.heap.size+1,0,none⟩) (by simp) hf (.int .i64 ns.length)).put (p:=⟨w.heap.size+1,1,none⟩) (by simp) hf (.int .i64 (ns.length+1));rw[E.out];exact this
theorem x05(w:World)(bb:Nat)(v:Value)(ns:List Q0q)(a b m:Int)(h:BAt w bb v ns)(hn:ns.length<=50000)(hm:m=63) :
    Calls Tryz.prog 146 #[Q3c bb,Q79 a b,.int .i64 m] w fun e w'=>e=.returned (Q79 ns.length (ns.length+1))/\∃v',Q1g w w' bb v v' (Q17 ns a b m):=by
  have H:Hid _:=h;have hN:=fun k (hk:w.heap.size<=k)=>h.not_foot hk;have HN:Hid _:=hN;have E:Hid (Q17 ns a b m=Q1h (Q1h (Q1h (ns++[plainNode]++[plainNode]) ns.length a) b (ns.length+1)) ns.length (ns.length+1)):=by unfold Hid Q17;simp[hm]
  have m1:(m != 43)=true:=by simp[hm]
  have m2:(m != 63)=false:=by simp[hm]
  clear hm;clear h hN;go_enter Tryz.func146,Tryz.ntmps146
  go_wp2_with (go_at_call 142;refine(z1n _ bb v ns (H.fresh ((((mRf _ w).alloc _).alloc _))) (by omega)).mono ?_;rintro e w1⟨rfl,v1,h1⟩)
  go_wp2_with (go_at_call 142;refine(z1n _ bb v1 _ h1.at' (by simp;omega)).mono ?_;rintro e w2⟨rfl,v2,h2⟩;have g2:=h1.trans h2;have k1:=g2.loc (qBg _ _ _) (HN.out _ (by omega));clear h1 h2)
  clear k1;go_wp2_with (go_at_call 143;refine(z1q _ bb v2 _ _ _ g2.at' (by simp;omega)).mono ?_;rintro e w3⟨rfl,v3,h3⟩;have g3:=g2.trans h3;have k1:=g3.loc (qBg _ _ _) (HN.out _ (by omega));clear g2 h3)
  clear k1;go_wp2_with (go_at_call 143;refine(z1q _ bb v3 _ _ _ g3.at' (by rw[z0n];simp;omega)).mono ?_;rintro e w4⟨rfl,v4,h4⟩;have g4:=g3.trans h4;have k1:=g4.loc (qBg _ _ _) (HN.out _ (by omega));clear g3 h4)
  clear k1;go_wp2_with (go_at_call 143;refine(z1q _ bb v4 _ _ _ g4.at' (by rw[z0n,z0n];simp;omega)).mono ?_;rintro e w5⟨rfl,v5,h5⟩;have g5:=g4.trans h5;have k3:=g5.loc (qBa _ _ _) (HN.out _ (by omega));have k4:=Q0f (g5.mod.at (qBa _ _ _) (HN.out _ (by omega)));clear g4 h5)
  refine qAc (qCg rfl _ _ (w.heap.size+1) 221 #[.int .i64 ns.length,.int .i64 (ns.length+1)] (0,0) _ rfl ?_ qBz rfl Q3l) rfl ⟨rfl,v5,?_⟩
  · rw[zhs (zhs (g5.mod.at (qBa _ _ _) (HN.out _ (by omega))) 0 _) 1 _];rfl
  have hf:=g5.nf (k:=w.heap.size+1) (by simp) (HN.out _ (by omega));have:=((Q1g.ahead (((mRf _ w).alloc _).alloc _) g5).put (p:=⟨w.heap.size+1,0,none⟩) (by simp) hf (.int .i64 ns.length)).put (p:=⟨w.heap.size+1,1,none⟩) (by simp) hf (.int .i64 (ns.length+1));rw[E.out];exact this
theorem y7o(w:World)(bb:Nat)(v:Value)(ns:List Q0q)(a b m:Int)(h:BAt w bb v ns)(hn:ns.length<=50000)(hm:m≠43)(hm2:m≠63) :
    Calls Tryz.prog 146 #[Q3c bb,Q79 a b,.int .i64 m] w fun e w'=>e=.returned (Q79 ns.length (ns.length+1))/\∃v',Q1g w w' bb v v' (Q17 ns a b m):=by
  have H:Hid _:=h;have hN:=fun k (hk:w.heap.size<=k)=>h.not_foot hk;have HN:Hid _:=hN;have E:Hid (Q17 ns a b m=Q1h (Q1h (Q1h (Q1h (ns++[plainNode]++[plainNode]) ns.length a) b (ns.length+1)) ns.length (ns.length+1)) b a):=by unfold Hid Q17;simp[hm,hm2]
  have m1:(m != 43)=true:=by simpa using hm
  have m2:(m != 63)=true:=by simpa using hm2
  clear hm hm2;clear h hN;go_enter Tryz.func146,Tryz.ntmps146
  go_wp2_with (go_at_call 142;refine(z1n _ bb v ns (H.fresh ((((mRf _ w).alloc _).alloc _))) (by omega)).mono ?_;rintro e w1⟨rfl,v1,h1⟩)
  go_wp2_with (go_at_call 142;refine(z1n _ bb v1 _ h1.at' (by simp;omega)).mono ?_;rintro e w2⟨rfl,v2,h2⟩;have g2:=h1.trans h2;have k1:=g2.loc (qBg _ _ _) (HN.out _ (by omega));clear h1 h2)
  clear k1;go_wp2_with (go_at_call 143;refine(z1q _ bb v2 _ _ _ g2.at' (by simp;omega)).mono ?_;rintro e w3⟨rfl,v3,h3⟩;have g3:=g2.trans h3;have k1:=g3.loc (qBg _ _ _) (HN.out _ (by omega));clear g2 h3)
  clear k1;go_wp2_with (go_at_call 143;refine(z1q _ bb v3 _ _ _ g3.at' (by rw[z0n];simp;omega)).mono ?_;rintro e w4⟨rfl,v4,h4⟩;have g4:=g3.trans h4;have k1:=g4.loc (qBg _ _ _) (HN.out _ (by omega));clear g3 h4)
  clear k1;go_wp2_with (go_at_call 143;refine(z1q _ bb v4 _ _ _ g4.at' (by rw[z0n,z0n];simp;omega)).mono ?_;rintro e w5⟨rfl,v5,h5⟩;have g5:=g4.trans h5;have k1:=g5.loc (qBg _ _ _) (HN.out _ (by omega));clear g4 h5)
  clear k1;go_wp2_with (go_at_call 143;refine(z1q _ bb v5 _ _ _ g5.at' (by rw[z0n,z0n,z0n];simp;omega)).mono ?_;rintro e w6⟨rfl,v6,h6⟩;have g6:=g5.trans h6;have k3:=g6.loc (qBa _ _ _) (HN.out _ (by omega));have k4:=Q0f (g6.mod.at (qBa _ _ _) (HN.out _ (by omega)));clear g5 h6)
  refine qAc (qCg rfl _ _ (w.heap.size+1) 221 #[.int .i64 ns.length,.int .i64 (ns.length+1)] (0,0) _ rfl ?_ qBz rfl Q3l) rfl ⟨rfl,v6,?_⟩
  · rw[zhs (zhs (g6.mod.at (qBa _ _ _) (HN.out _ (by omega))) 0 _) 1 _];rfl
  have hf:=g6.nf (k:=w.heap.size+1) (by simp) (HN.out _ (by omega));have:=((Q1g.ahead (((mRf _ w).alloc _).alloc _) g6).put (p:=⟨w.heap.size+1,0,none⟩) (by simp) hf (.int .i64 ns.length)).put (p:=⟨w.heap.size+1,1,none⟩) (by simp) hf (.int .i64 (ns.length+1));rw[E.out];exact this
theorem x04(w:World)(bb:Nat)(v:Value)(ns:List Q0q)(a b m:Int)(h:BAt w bb v ns)(hn:ns.length<=50000) :
    Calls Tryz.prog 146 #[Q3c bb,Q79 a b,.int .i64 m] w fun e w'=>e=.returned (Q79 ns.length (ns.length+1))/\∃v',Q1g w w' bb v v' (Q17 ns a b m):=by
  by_cases h1:m=43
  · exact y7n w bb v ns a b m h hn h1
  by_cases h2:m=63
  · exact x05 w bb v ns a b m h hn h2
  exact y7o w bb v ns a b m h hn h1 h2
theorem z97(ns:List Q0q)(a b m:Int):(Q17 ns a b m).length=ns.length+2:=by
  unfold Q17;dsimp only;split<;>split<;>simp[z0n]
theorem y6v(ns:List Q0q)(a b c d:Int):(Q37 ns a b c d).length=ns.length+2:=by
  unfold Q37;simp[z0n]
def Q4o(ws:List Int)(e:Int):Q0q:=⟨true,ws,e,-1⟩
def Q84(ns:List Q0q)(ws:List Int):List Q0q:=ns++[plainNode]++[Q4o ws ns.length]
theorem y7k(w:World)(bb:Nat)(v:Value)(ns:List Q0q)(ws:List Int)(h:BAt w bb v ns)(hn:ns.length<=50000)(hl:ws.length=4) :
    Calls Tryz.prog 150 #[Q3c bb,.agg (Q54 ws)] w fun e w'=>e=.returned (Q79 (ns.length+1) ns.length)/\∃v',Q1g w w' bb v v' (Q84 ns ws):=by
  obtain⟨i0,hi,jg,jh,ja⟩:=Q9g;obtain⟨a,b,c,d,j8⟩:=four hl;have HW:Hid (ws=[a,b,c,d]):=j8;have e1:Q54 ws=#[.int .u64 a,.int .u64 b,.int .u64 c,.int .u64 d]:=by rw[j8];rfl
  rw[e1];have H:Hid _:=h;have hN:=fun k (hk:w.heap.size<=k)=>h.not_foot hk;have HN:Hid _:=hN;clear j8 e1 h hN hl;go_enter Tryz.func150,Tryz.ntmps150
  go_wp2_with (go_at_call 142;refine(z1n _ bb v ns (H.fresh ((((mRf _ w).alloc _).alloc _))) (by omega)).mono ?_;rintro e w1⟨rfl,v1,h1⟩)
  have k1:=h1.loc (qBg _ _ _) (HN.out _ (by omega));obtain⟨ao,cap,hv⟩:=z0c h1.at'.own;have k2:=Q0b h1.at'.blk 0;have k3:=Q0f h1.at'.blk 0;have H1:Hid _:=h1;clear h1;subst hv;simp at k2;have HO:Hid (∀o:Obj,(w1.alloc o).drew.ownsRow (bb+1) 216 7 (.slice ao (ns++[plainNode]).length cap) (ns++[plainNode]).length (Q4v (ns++[plainNode]))):=fun o=>H1.at'.own.alloc o;have HB:Hid (∀(o:Obj) (v':Value) (w2:World),(w1.alloc o).drew.grownBy w2 (Value.ownBlock (.slice ao (ns++[plainNode]).length cap))->w2.heap[bb]? = some (.cells #[.slice ao (ns++[plainNode]).length cap] 219 (0,0))):=by
    intro o v' w2 hg;have hl:=H1.at'.lt;rw[hg.block bb (by simp[World.drew];omega) (fun e=>by have:=H1.at'.own_lt bb e.symm;omega)];show(w1.alloc o).heap[bb]? = _;rw[z0s hl];exact H1.at'.blk
  have jd:w.heap.size+1<w1.heap.size:=by have:=H1.mod.size;simp at this;omega
  have ji:bb<w1.heap.size:=H1.at'.lt;go_region_law (refine z78 _ rfl (.tmp 12) (.tmp 16) 77 rfl (bb+1) 216 i0 _ 7 56 Tryz.underlying77 hi jg jh ja rfl (by decide) (.slice ao (ns++[plainNode]).length cap) _ _ (by simp[Act.eval,Act.put]) (HO.out _) ⟨w1.heap.size,0,none⟩ 1 1 [.bool true,.int .u64 a,.int .u64 b,.int .u64 c,.int .u64 d,.int .i64 ns.length,.int .i64 (-1)] (by simp[Act.eval,Act.put]) rfl (z0m rfl) (by intro u hu;simp at hu;rcases hu with rfl|rfl|rfl|rfl|rfl|rfl|rfl<;>rfl) (by unfold maxLen;simp;omega) (by simp;omega) (by simp[World.drew];omega) ?_;intro v' w2 j2 j0 j6;obtain⟨a',j4,jf⟩:=z0c j2;have jj:=Q0b (HB.out _ v' w2 j0) 0;have ja:=Q0f (HB.out _ v' w2 j0) 0;have jc:Hid _:=j2;have j9:Hid _:=j0;clear j2 j0;subst jf)
  all_goals
    have j7:=H1.nf (k:=w.heap.size+1) (by simp) (HN.out _ (by omega));have j1:w2.heap[w.heap.size+1]? = some (.cells #[.int .i64 0,.int .i64 0] 221 (0,0)):=by
      rw[j9.block _ (by simp[World.drew];omega) (fun e=>j7 (.inr e.symm))];exact z0b (H1.mod.at (qBa _ _ _) (HN.out _ (by omega)))
    have je:w.heap.size+1≠bb:=by have:=H.lt;omega
    have jk:=Q0b j1;have jl:=Q0f j1;have HR:Hid _:=j1;have jb:Hid _:=j7;have HE:Hid _:=je;clear j1 j7 k1;go_wp2;have fin:=badd (n:=Q4o ws ns.length) H1.at' (((mRf _ w1).alloc _).drew) (by rw[HW.out];rfl) (by rw[HW.out];exact jc.out) j9.out (by simpa [World.drew]using j6);have j5:=H1.trans fin;have j3:=fin.nf (k:=w.heap.size+1) (by omega) jb.out;refine qAc (qCg rfl _ _ (w.heap.size+1) 221 #[.int .i64 (ns.length+1),.int .i64 ns.length] (0,0) _ rfl ?_ qBz rfl Q3l) rfl ⟨rfl,.slice a' ((ns++[plainNode]).length+1) j4,?_⟩
    · rw[zhs (zhs (z0h HR.out HE.out) 0 _) 1 _];rfl
    have:=((Q1g.ahead (((mRf _ w).alloc _).alloc _) j5).put (p:=⟨w.heap.size+1,0,none⟩) (by simp) j3 (.int .i64 (ns.length+1))).put (p:=⟨w.heap.size+1,1,none⟩) (by simp) j3 (.int .i64 ns.length);simpa [Q84]using this
theorem x67(ns:List Q0q)(ws:List Int):(Q84 ns ws).length=ns.length+2:=by simp[Q84]
structure PR where
  st:Int
  en:Int
  next:Int
  ok:Bool
  ns:List Q0q
def Q50(g:Int->List Q0q->PR)(s:ByteArray)(i:Int)(ns:List Q0q):PR :=
  if atB s i=40 then g i ns
  else if(Q2r s i).2.2=false then⟨0,0,(Q2r s i).2.1,false,ns⟩
  else⟨ns.length+1,ns.length,(Q2r s i).2.1,true,Q84 ns (Q2r s i).1⟩
def Q1t(c:Int):Bool:=c==42||c==43||c==63
def Q3t(s:ByteArray):Nat->PR->PR
  |0,r=>r
  |f+1,r =>
    if(r.ok&&Q1t (atB s r.next))=true then Q3t s f ⟨r.ns.length,r.ns.length+1,r.next+1,true,Q17 r.ns r.st r.en (atB s r.next)⟩
    else r
def Q71(a:Int->List Q0q->PR)(s:ByteArray)(i:Int)(ns:List Q0q):PR:=Q3t s (s.size+5) (a i ns)
def Q7m(r p:PR):PR:=if p.ok then⟨r.st,p.en,p.next,true,Q1h p.ns r.en p.st⟩ else⟨r.st,r.en,p.next,false,p.ns⟩
def Q2o(p:Int->List Q0q->PR)(s:ByteArray):Nat->PR->PR
  |0,r=>r
  |f+1,r=>if(r.ok&&Q2v s r.next)=true then Q2o p s f (Q7m r (p r.next r.ns)) else r
def Q6n(p:Int->List Q0q->PR)(s:ByteArray)(i:Int)(ns:List Q0q):PR:=Q2o p s (s.size+5) (p i ns)
def Q38(r p:PR):PR:=if p.ok then⟨p.ns.length,p.ns.length+1,p.next,true,Q37 p.ns r.st r.en p.st p.en⟩ else⟨r.st,r.en,p.next,false,p.ns⟩
def Q2p(p:Int->List Q0q->PR)(s:ByteArray):Nat->PR->PR
  |0,r=>r
  |f+1,r=>if(r.ok&&(atB s r.next==124))=true then Q2p p s f (Q38 r (p (r.next+1) r.ns)) else r
def Q6o(p:Int->List Q0q->PR)(s:ByteArray)(i:Int)(ns:List Q0q):PR:=Q2p p s (s.size+5) (p i ns)
def Q53(c:Int->List Q0q->PR)(s:ByteArray)(i:Int)(ns:List Q0q):PR :=
  if(c (i+1) ns).ok=false then⟨0,0,(c (i+1) ns).next,false,(c (i+1) ns).ns⟩
  else if atB s (c (i+1) ns).next≠41 then⟨0,0,(c (i+1) ns).next,false,(c (i+1) ns).ns⟩
  else⟨(c (i+1) ns).st,(c (i+1) ns).en,(c (i+1) ns).next+1,true,(c (i+1) ns).ns⟩
def gK(s:ByteArray):Nat->Int->List Q0q->PR
  |0=>fun i ns=>⟨0,0,i,false,ns⟩
  |k+1=>Q53 (Q6o (Q6n (Q71 (Q50 (gK s k) s) s) s) s) s
def chK(s:ByteArray)(k:Nat):Int->List Q0q->PR:=Q6o (Q6n (Q71 (Q50 (gK s k) s) s) s) s
structure Q8t(s:ByteArray)(i:Int)(n0:Nat)(r:PR):Prop where
  lo:i<=r.next
  hi:r.next<=2*s.size+20
  good:r.ok=true->i<r.next/\r.next<=s.size
  cnt:(r.ns.length:Int)<=n0+2*(r.next-i)
def Q5w(s:ByteArray)(f:Int->List Q0q->PR):Prop:=∀(i:Int) (ns:List Q0q),0<=i->i<=s.size->Q8t s i ns.length (f i ns)
theorem x2x{g:Int->List Q0q->PR}{s:ByteArray}(hg:Q5w s g):Q5w s (Q50 g s):=by
  intro i ns h0 h1;have hb:=y21 s i h0;unfold Q50;split
  · exact hg i ns h0 h1
  split
  · exact⟨hb.1,by dsimp only;omega,by simp,by dsimp only;omega⟩
  rename_i h3;have h4:=hb.2.2 (by simpa using h3);exact⟨hb.1,by dsimp only;omega,fun _=>h4,by dsimp only;rw[x67];omega⟩
theorem z9b(s:ByteArray)(i:Int)(n0:Nat)(hi:0<=i):∀(f:Nat) (r:PR),Q8t s i n0 r->Q8t s i n0 (Q3t s f r)
  |0,r,h=>h
  |f+1,r,h=>by
    unfold Q3t;split
    · rename_i h3
      simp only[qAd]at h3;have h4:=h.good h3.1;have h5:atB s r.next≠-1:=by intro e;rw[e]at h3;simp[Q1t]at h3
      have h6:=z0r h5;exact z9b s i n0 hi f _ ⟨by dsimp only;omega,by dsimp only;omega,fun _=>by dsimp only;omega,by dsimp only;rw[z97];have:=h.cnt;omega⟩
    exact h
theorem z38{a:Int->List Q0q->PR}{s:ByteArray}(ha:Q5w s a):Q5w s (Q71 a s):=by
  intro i ns h0 h1;exact z9b s i _ h0 _ _ (ha i ns h0 h1)
theorem y1c{s:ByteArray}{i:Int}{n0:Nat}{r p:PR}(h0:0<=i)(h:Q8t s i n0 r)(hok:r.ok=true)(hp:Q8t s r.next r.ns.length p):Q8t s i n0 (Q7m r p):=by
  have h4:=h.good hok;have h7:=hp.cnt;have h8:=h.cnt;unfold Q7m;split
  · rename_i h5;have h6:=hp.good h5
    exact⟨by dsimp only;omega,by dsimp only;omega,fun _=>by dsimp only;omega,by dsimp only;rw[z0n];omega⟩
  exact⟨by have:=hp.lo;dsimp only;omega,hp.hi,by simp,by dsimp only;omega⟩
theorem z7v{s:ByteArray}{i:Int}{n0:Nat}{r p:PR}(h0:0<=i)(h:Q8t s i n0 r)(hok:r.ok=true)(hp:Q8t s (r.next+1) r.ns.length p):Q8t s i n0 (Q38 r p):=by
  have h4:=h.good hok;have h7:=hp.cnt;have h8:=h.cnt;unfold Q38;split
  · rename_i h5;have h6:=hp.good h5
    exact⟨by dsimp only;omega,by dsimp only;omega,fun _=>by dsimp only;omega,by dsimp only;rw[y6v];omega⟩
  exact⟨by have:=hp.lo;dsimp only;omega,hp.hi,by simp,by dsimp only;omega⟩
theorem z7t{p:Int->List Q0q->PR}{s:ByteArray}(hp:Q5w s p)(i:Int)(n0:Nat)(hi:0<=i):∀(f:Nat) (r:PR),Q8t s i n0 r->Q8t s i n0 (Q2o p s f r)
  |0,r,h=>h
  |f+1,r,h=>by
    unfold Q2o;split
    · rename_i h3
      simp only[qAd]at h3;have h4:=h.good h3.1;exact z7t hp i n0 hi f _ (y1c hi h h3.1 (hp r.next r.ns (by omega) (by omega)))
    exact h
theorem z4m{p:Int->List Q0q->PR}{s:ByteArray}(hp:Q5w s p):Q5w s (Q6n p s):=by
  intro i ns h0 h1;exact z7t hp i _ h0 _ _ (hp i ns h0 h1)
theorem z7u{p:Int->List Q0q->PR}{s:ByteArray}(hp:Q5w s p)(i:Int)(n0:Nat)(hi:0<=i):∀(f:Nat) (r:PR),Q8t s i n0 r->Q8t s i n0 (Q2p p s f r)
  |0,r,h=>h
  |f+1,r,h=>by
    unfold Q2p;split
    · rename_i h3
      simp only[qAd,qBi]at h3;have h4:=h.good h3.1;have h6:=z0r (s:=s) (i:=r.next) (by omega);exact z7u hp i n0 hi f _ (z7v hi h h3.1 (hp (r.next+1) r.ns (by omega) (by omega)))
    exact h
theorem z9a{p:Int->List Q0q->PR}{s:ByteArray}(hp:Q5w s p):Q5w s (Q6o p s):=by
  intro i ns h0 h1;exact z7u hp i _ h0 _ _ (hp i ns h0 h1)
theorem x0i{c:Int->List Q0q->PR}{s:ByteArray}(hc:Q5w s c)(i:Int)(ns:List Q0q)(h0:0<=i)(h1:i<s.size):Q8t s i ns.length (Q53 c s i ns):=by
  have h:=hc (i+1) ns (by omega) (by omega);have hl:=h.lo;have hk:=h.cnt;have hh:=h.hi;unfold Q53;split
  · exact⟨by dsimp only;omega,h.hi,by simp,by dsimp only;omega⟩
  rename_i h3;have h4:=h.good (by simpa using h3);split
  · exact⟨by dsimp only;omega,h.hi,by simp,by dsimp only;omega⟩
  rename_i h5;have h6:=z0r (s:=s) (i:=(c (i+1) ns).next) (by omega);exact⟨by dsimp only;omega,by dsimp only;omega,fun _=>by dsimp only;omega,by dsimp only;omega⟩
def GoodG(s:ByteArray)(f:Int->List Q0q->PR):Prop:=∀(i:Int) (ns:List Q0q),0<=i->i<s.size->Q8t s i ns.length (f i ns)
theorem z3n{g:Int->List Q0q->PR}{s:ByteArray}(hg:GoodG s g):Q5w s (Q50 g s):=by
  intro i ns h0 h1;by_cases hc:atB s i=40
  · have h6:=z0r (s:=s) (i:=i) (by omega)
    unfold Q50;rw[qAb hc];exact hg i ns h0 h6.2
  have:=x2x (g:=fun i ns=>⟨0,0,i,false,ns⟩) (s:=s) (fun i ns h0 h1=>⟨by simp,by dsimp only;omega,by simp,by simp⟩) i ns h0 h1;unfold Q50 at this ⊢;rw[qAa hc]at this ⊢;exact this
theorem z66(s:ByteArray):∀k,GoodG s (gK s k)
  |0=>fun i ns h0 h1=>⟨by simp[gK],by simp[gK];omega,by simp[gK],by simp[gK]⟩
  |k+1=>fun i ns h0 h1=>x0i (z9a (z4m (z38 (z3n (z66 s k))))) i ns h0 h1
theorem z5k(s:ByteArray)(k:Nat):Q5w s (chK s k):=z9a (z4m (z38 (z3n (z66 s k))))
abbrev Q7a(r:PR):Value:=.tuple #[Q79 r.st r.en,.int .i64 r.next,.bool r.ok]
def Con(fid:FuncId)(s:ByteArray)(d:Int)(f:Int->List Q0q->PR):Prop :=
  ∀(i:Int) (ns:List Q0q) (w:World) (bb:Nat) (v:Value),0<=i->i<=s.size->(ns.length:Int)<=2*i->BAt w bb v ns ->
    Calls Tryz.prog fid #[Q3c bb,.string s,.int .i64 i,.int .i64 d] w fun e w'=>e=.returned (Q7a (f i ns))/\∃v',Q1g w w' bb v v' (f i ns).ns
def ConG(fid:FuncId)(s:ByteArray)(d:Int)(f:Int->List Q0q->PR):Prop :=
  ∀(i:Int) (ns:List Q0q) (w:World) (bb:Nat) (v:Value),0<=i->i<s.size->(ns.length:Int)<=2*i->BAt w bb v ns ->
    Calls Tryz.prog fid #[Q3c bb,.string s,.int .i64 i,.int .i64 d] w fun e w'=>e=.returned (Q7a (f i ns))/\∃v',Q1g w w' bb v v' (f i ns).ns
end Go.Proofs.YtbdpfmalabgmbaaGreat
