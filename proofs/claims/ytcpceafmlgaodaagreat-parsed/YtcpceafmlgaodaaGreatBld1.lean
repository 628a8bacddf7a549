import Derived.Test.YtcpceafmlgaodaaGreatChars
import Derived.Lib.SmallJoins
import Derived.ArgAppend
import Derived.Deep.RegionLawGrows
namespace Go.Proofs.YtcpceafmlgaodaaGreat
open Go.RowKit
set_option maxRecDepth 99999
set_option maxHeartbeats 0
set_option linter.all false
structure Q0o where
  reads:Bool
  set:List Int
  next:Int
  other:Int
def Q0o.wf(n:Q0o):Prop:=n.set.length=4
def Q0o.cells(n:Q0o):List Value:=.bool n.reads::(n.set.map (Value.int .u64)++[.int .i64 n.next,.int .i64 n.other])
def Q4p(ns:List Q0o):List Value:=ns.flatMap Q0o.cells
def Nwf(ns:List Q0o):Prop:=∀n∈ns,n.wf
def plainNode:Q0o:=⟨false,zero4,-1,-1⟩
theorem Q0o.cells_len{n:Q0o}(h:n.wf):n.cells.length=7:=by
  unfold Q0o.wf at h;simp[Q0o.cells,h]
theorem y93{ns:List Q0o}(h:Nwf ns):(Q4p ns).length=ns.length*7:=by
  induction ns with
  |nil=>rfl
  |cons n ns ih =>
    have h1:=Q0o.cells_len (h n (by simp));have h2:=ih (fun m hm=>h m (by simp[hm]));simp only[Q4p,qDo,qP,qAy]at h2 ⊢;omega
theorem y9h{a b:List Q0o}(ha:Nwf a)(hb:Nwf b):Nwf (a++b):=by
  intro n hn;rcases qBj.1 hn with h|h
  · exact ha n h
  exact hb n h
theorem x62:plainNode.wf:=rfl
theorem Q0o.cells_at{n:Q0o}(h:n.wf)(j:Nat):n.cells[j]? = if j=0 then some (.bool n.reads) else if j<5 then some (.int .u64 (n.set.getD (j-1) 0)) else if j=5 then some (.int .i64 n.next) else if j=6 then some (.int .i64 n.other) else none:=by
  obtain⟨a,b,c,d,e⟩:=four h;unfold Q0o.cells;rw[e];rcases j with _|_|_|_|_|_|_|j<;>simp
theorem z9i{ns:List Q0o}(h:Nwf ns)(i j:Nat)(hi:i<ns.length)(hj:j<7):(Q4p ns)[i*7+j]? = (ns[i]).cells[j]? := by
  induction ns generalizing i with
  |nil=>simp at hi
  |cons n ns ih =>
    have h1:=Q0o.cells_len (h n (by simp));simp only[Q4p,qDo];cases i with
    |zero=>rw[qAe (by omega)];simp
    |succ i =>
      rw[qAg (by omega),h1];have e:(i+1)*7+j-7=i*7+j:=by omega
      rw[e];exact ih (fun m hm=>h m (by simp[hm])) i (by simpa using hi)
theorem y94{ns:List Q0o}(h:Nwf ns)(i j:Nat)(hi:i<ns.length)(hj:j<7)(u:Value)(f:Q0o->Q0o)(hf:∀n,n.wf->(f n).cells=n.cells.set j u) :
    (Q4p ns).set (i*7+j) u=Q4p (ns.modify i f):=by
  induction ns generalizing i with
  |nil=>simp at hi
  |cons n ns ih =>
    have h1:=Q0o.cells_len (h n (by simp));cases i with
    |zero =>
      simp only[Q4p,qDo,Nat.zero_mul,qBi,List.modify_zero_cons];rw[List.set_append_left _ _ (by omega),hf n (h n (by simp))]
    |succ i =>
      simp only[List.modify_succ_cons];have e:(i+1)*7+j=7+(i*7+j):=by omega
      have:=ih (fun m hm=>h m (by simp[hm])) i (by simpa using hi);simp only[Q4p,qDo]at this ⊢;rw[qCy _ _ (by omega),h1,e,Nat.add_sub_cancel_left,this]
theorem y9i{ns:List Q0o}(h:Nwf ns)(i:Nat)(f:Q0o->Q0o)(hf:∀n,n.wf->(f n).wf):Nwf (ns.modify i f):=by
  induction ns generalizing i with
  |nil=>simpa using h
  |cons n ns ih =>
    have h2:Nwf ns:=fun m hm=>h m (by simp[hm]);cases i with
    |zero =>
      intro m hm;simp at hm;rcases hm with rfl|hm
      · exact hf n (h n (by simp))
      exact h2 m hm
    |succ i =>
      intro m hm;simp at hm;rcases hm with rfl|hm
      · exact h m (by simp)
      exact ih h2 i m hm
def Q1e(ns:List Q0o)(a b:Int):List Q0o :=
  if a<0∨(ns.length:Int)<=a then ns
  else ns.modify a.toNat fun n=>if n.next=-1 then {n with next:=b} else {n with other:=b}
theorem z0n(ns:List Q0o)(a b:Int):(Q1e ns a b).length=ns.length:=by unfold Q1e;split<;>simp
theorem z4p{w:World}{base:Nat}{e:TypeId}{size:Nat}{v:Value}{n:Nat}{xs:List Value}(h:w.ownsRow base e size v n xs){g:Nat}(hg:v.ownBlock=some g)(j:Nat)(u:Value)(hj:j<xs.length) :
    (w.setCell ⟨g,j,none⟩ u).ownsRow base e size v n (xs.set j u):=by
  obtain⟨h1,h2⟩:=h;refine⟨by simpa using h1,?_⟩;rcases h2 with⟨rfl,_⟩|⟨g',cap,cur,rfl,hb,hgg,hn,hc,hs,ht⟩
  · simp[Value.ownBlock]at hg
  simp only[Value.ownBlock,qO]at hg;subst hg;refine .inr ⟨g',cap,cur.setIfInBounds j u,rfl,hb,zhs hgg j u,hn,hc,by simpa using hs,?_⟩;rw[Array.toList_setIfInBounds,← ht,List.take_set]
theorem z0c{w w':World}{base:Nat}{e:TypeId}{size:Nat}{v:Value}{n:Nat}{xs:List Value}(h:w.ownsRow base e size v n xs)(hk:∀g,v.ownBlock=some g->w'.heap[g]? = w.heap[g]?) :
    w'.ownsRow base e size v n xs:=by
  obtain⟨h1,h2⟩:=h;refine⟨h1,?_⟩;rcases h2 with h2|⟨g',cap,cur,rfl,hb,hgg,r⟩
  · exact .inl h2
  exact .inr ⟨g',cap,cur,rfl,hb,(hk g' rfl).trans hgg,r⟩
structure BAt(w:World)(bb:Nat)(v:Value)(ns:List Q0o):Prop where
  blk:w.heap[bb]? = some (.cells #[v] 211 (0,0))
  own:w.ownsRow (bb+1) 206 7 v ns.length (Q4p ns)
  wf:Nwf ns
def Q8w(bb:Nat)(v:Value)(k:Nat):Prop:=k=bb∨v.ownBlock=some k
structure Q1d(w w':World)(bb:Nat)(v v':Value)(ns':List Q0o):Prop where
  at':BAt w' bb v' ns'
  mod:Mod (Q8w bb v) w w'
  foot':∀k,v'.ownBlock=some k->v.ownBlock=some k∨w.heap.size<=k
theorem BAt.lt{w:World}{bb:Nat}{v:Value}{ns:List Q0o}(h:BAt w bb v ns):bb<w.heap.size:=z0j h.blk
theorem BAt.own_lt{w:World}{bb:Nat}{v:Value}{ns:List Q0o}(h:BAt w bb v ns):∀k,v.ownBlock=some k->bb<k/\k<w.heap.size:=fun k hk=>by
  have:=h.own.lt k hk;omega
theorem BAt.kept{S:Nat->Prop}{w w':World}{bb:Nat}{v:Value}{ns:List Q0o}(h:BAt w bb v ns)(hm:Mod S w w')(hs:∀k,Q8w bb v k->¬S k):BAt w' bb v ns :=
  ⟨hm.at h.blk (hs bb (.inl rfl)),z0c h.own (fun g hg=>hm.block g (h.own_lt g hg).2 (hs g (.inr hg))),h.wf⟩
theorem Q1d.trans{a b c:World}{bb:Nat}{v v' v'':Value}{ns' ns'':List Q0o}(h:Q1d a b bb v v' ns')(k:Q1d b c bb v' v'' ns''):Q1d a c bb v v'' ns'' :=
  ⟨k.at',h.mod.trans' k.mod (fun i hi hf=>by
      rcases hf with rfl|hf
      · exact .inl rfl
      rcases h.foot' i hf with h1|h1
      · exact .inr h1
      omega),
   fun i hi=>by
      rcases k.foot' i hi with h1|h1
      · exact h.foot' i h1
      right;have:=h.mod.size;omega⟩
theorem Q1d.ahead{a b c:World}{bb:Nat}{v v':Value}{ns':List Q0o}(h:Q0a a b)(k:Q1d b c bb v v' ns'):Q1d a c bb v v' ns' :=
  ⟨k.at',⟨k.mod.os.trans h.os,k.mod.tape.trans h.tape,k.mod.output.trans h.output,qCd h.size k.mod.size,fun i hi hs=>(k.mod.block i (qCr hi h.size) hs).trans (h.block i hi (fun x=>x))⟩,
   fun i hi=>by
      rcases k.foot' i hi with h1|h1
      · exact .inl h1
      right;have:=h.size;omega⟩
theorem Q1d.behind{a b c:World}{bb:Nat}{v v':Value}{ns':List Q0o}(h:Q1d a b bb v v' ns'){S:Nat->Prop}(k:Mod S b c)(hS:∀i,S i->a.heap.size<=i)(hv:∀i,Q8w bb v' i->¬S i):Q1d a c bb v v' ns' :=
  ⟨h.at'.kept k hv,h.mod.trans' k (fun i hi hs=>by have:=hS i hs;omega),h.foot'⟩
theorem Q1d.refl{w:World}{bb:Nat}{v:Value}{ns:List Q0o}(h:BAt w bb v ns):Q1d w w bb v v ns:=⟨h,mRf _ _,fun _ h=>.inl h⟩
theorem infoNode:(Tryz.prog.info? 206).map (fun i=>(i.zero,i.size,i.bytes))=some (some (.agg #[.bool false,.int .u64 0,.int .u64 0,.int .u64 0,.int .u64 0,.int .i64 0,.int .i64 0]),7,56):=by kernel_rfl
theorem Q8z:∃i,Tryz.prog.info? 206=some i/\i.zero=some (.agg #[.bool false,.int .u64 0,.int .u64 0,.int .u64 0,.int .u64 0,.int .i64 0,.int .i64 0])/\i.size=7/\i.bytes=56:=nfoE infoNode
section
variable {P:Program}(w:World)
theorem z7n{w w':World}(h:w.grownBy w' none)(row:Option Nat):w.grownBy w' row :=
  ⟨h.os,h.tape,h.output,h.size,fun k hk _=>h.block k hk (by simp)⟩
theorem z0f{w:World}{b b':Nat}{e:TypeId}{size:Nat}{v:Value}{n:Nat}{xs:List Value}(h:w.ownsRow b e size v n xs)(hb:b'<=b):w.ownsRow b' e size v n xs:=by
  refine⟨h.1,?_⟩;rcases h.2 with h2|⟨g,cap,cur,h1,h2,r⟩
  · exact .inl h2
  exact .inr ⟨g,cap,cur,h1,by omega,r⟩
theorem z48(base:Nat)(t ty e:TypeId)(i:TypeInfo)(z:Value)(size bytes:Nat)(ht:P.underlying t=some (.slice e))(hi:P.info? e=some i)(hz:i.zero=some z)
    (hsize:i.size=size) (hby:i.bytes=bytes) (hzs:z.cells.size=size) (hsz:0<size)
    (v:Value) (n:Nat) (xs:List Value) (hown:w.ownsRow base e size v n xs)
    (a:Addr) (m c:Nat) (news:List Value) (hl:news.length=m*size) (hnews:∀j u,news[j]? = some u->w.cell? (a.add j)=some u) (h1:∀u∈news,u.oneCell'=true)
    (h63:n+m<=maxLen) (hbytes:(n+m)*bytes<=140737488355328) (hbase:base<=w.heap.size) :
    ∃v' w',(Builtin.append_ #[t,t] ty #[v,.slice (some a) m c]).run P w=.ok v' w'/\w'.ownsRow base e size v' (n+m) (xs++news)/\w.grownBy w' v.ownBlock /\
      (∀k,v'.ownBlock=some k->v.ownBlock=some k∨w.heap.size<=k):=by
  rcases hown.2 with⟨rfl,rfl⟩|⟨g,cap,cur,rfl,hbg,hg,hnc,hcm,hcs,htake⟩
  · have hx:xs=[]:=qBs (by simpa using hown.1)
    subst hx;obtain⟨v',w',hr,h2,h3,_⟩:=run_append_own (P:=P) w w.heap.size t ty e i z size bytes ht hi hz hsize hby hzs hsz _ 0 [] (World.ownsRow_nil w _ e size) a m c news hl hnews h1 h63 hbytes (qR _);exact⟨v',w',hr,z0f h2 hbase,h3,fun k hk=>.inr (h2.lt k hk).1⟩
  by_cases hroom:n+m<=cap
  · obtain⟨v',w',hr,h2,h3,_⟩:=run_append_own (P:=P) w base t ty e i z size bytes ht hi hz hsize hby hzs hsz _ n xs hown a m c news hl hnews h1 h63 hbytes hbase
    subst hsize;have j1:n*i.size+news.length<=cur.size:=by rw[hl,hcs,← qDt];exact qBv _ hroom
    have j2:=run_append_room (P:=P) w t ty e i ht hi g n cap cur hg a m c news hl hnews h1 hroom j1;rw[hr]at j2;injection j2 with e1 e2;exact⟨v',w',hr,h2,h3,fun k hk=>by rw[e1]at hk;exact .inl hk⟩
  have j0:∀j u,xs[j]? = some u->w.cell? ((⟨g,0,none⟩:Addr).add j)=some u:=hown.cells (g:=g) rfl;obtain⟨v',w',hr,h2,h3⟩:=run_append_arg_grows (P:=P) w t ty e i z size bytes ht hi hz hsize hby hzs hsz ⟨g,0,none⟩ n cap xs hown.1 j0 a m c news hl hnews (by omega) h63 hbytes;exact⟨v',w',hr,z0f h2 hbase,z7n h3 _,fun k hk=>.inr (h2.lt k hk).1⟩
theorem z5p{o:Oper}{a:Act}{K:Act->World->Prop}{Q:Exit->Act->World->Prop}(s x:Operand)(t:TypeId)
    (ho:o.op=.call {callee:=.builtin .append,args:=#[s,x],argTypes:=#[t,t]})
    (base:Nat) (e:TypeId) (i:TypeInfo) (z:Value) (size bytes:Nat) (ht:P.underlying t=some (.slice e)) (hi:P.info? e=some i) (hz:i.zero=some z)
    (hsize:i.size=size) (hby:i.bytes=bytes) (hzs:z.cells.size=size) (hsz:0<size)
    (v:Value) (n:Nat) (xs:List Value) (hs:a.eval s=v) (hown:w.ownsRow base e size v n xs)
    (ad:Addr) (m c:Nat) (news:List Value) (hx:a.eval x=.slice (some ad) m c) (hl:news.length=m*size) (hnews:∀j u,news[j]? = some u->w.cell? (ad.add j)=some u) (h1:∀u∈news,u.oneCell'=true)
    (h63:n+m<=maxLen) (hbytes:(n+m)*bytes<=140737488355328) (hbase:base<=w.heap.size)
    (h:∀v' w',w'.ownsRow base e size v' (n+m) (xs++news)->w.grownBy w' v.ownBlock->(∀k,v'.ownBlock=some k->v.ownBlock=some k∨w.heap.size<=k)->K (a.put o.dst v') w'):o.wp P a w K Q:=by
  obtain⟨v',w',hr,h2,h3,h4⟩:=z48 (P:=P) w base t o.type e i z size bytes ht hi hz hsize hby hzs hsz v n xs hown ad m c news hl hnews h1 h63 hbytes hbase;unfold Oper.wp execOp;simp only[ho,resolve,invoke,builtin,Sem.run_bind,Sem.run_pure,Result.andThen_ok,List.map_toArray,qCl,List.map_nil,hs,hx,hr];exact h v' w' h2 h3 h4
theorem z0g{ops:Array Oper}{rest:List Oper}{o:Oper}{a:Act}{Q:Exit->Act->World->Prop}(hgd:o.guard=none)(s x:Operand)(t:TypeId)
    (ho:o.op=.call {callee:=.builtin .append,args:=#[s,x],argTypes:=#[t,t]})
    (base:Nat) (e:TypeId) (i:TypeInfo) (z:Value) (size bytes:Nat) (ht:P.underlying t=some (.slice e)) (hi:P.info? e=some i) (hz:i.zero=some z)
    (hsize:i.size=size) (hby:i.bytes=bytes) (hzs:z.cells.size=size) (hsz:0<size)
    (v:Value) (n:Nat) (xs:List Value) (hs:a.eval s=v) (hown:w.ownsRow base e size v n xs)
    (ad:Addr) (m c:Nat) (news:List Value) (hx:a.eval x=.slice (some ad) m c) (hl:news.length=m*size) (hnews:∀j u,news[j]? = some u->w.cell? (ad.add j)=some u) (h1:∀u∈news,u.oneCell'=true)
    (h63:n+m<=maxLen) (hbytes:(n+m)*bytes<=140737488355328) (hbase:base<=w.heap.size)
    (h:∀v' w',w'.ownsRow base e size v' (n+m) (xs++news)->w.grownBy w' v.ownBlock->(∀k,v'.ownBlock=some k->v.ownBlock=some k∨w.heap.size<=k)->wpList P ops Q rest (a.put o.dst v') w'):wpList P ops Q (o::rest) a w :=
  wpList_plain hgd fun _ hK=>z5p w s x t ho base e i z size bytes ht hi hz hsize hby hzs hsz v n xs hs hown ad m c news hx hl hnews h1 h63 hbytes hbase fun v' w' h2 h3 h4=>hK _ _ (h v' w' h2 h3 h4)
theorem z7y{ops:Array Oper}{o:Oper}{a:Act}{K:Act->World->Prop}{Q:Exit->Act->World->Prop}{E:Prop}(hgd:o.guard=none)(s x:Operand)(t:TypeId)
    (ho:o.op=.call {callee:=.builtin .append,args:=#[s,x],argTypes:=#[t,t]})
    (base:Nat) (e:TypeId) (i:TypeInfo) (z:Value) (size bytes:Nat) (ht:P.underlying t=some (.slice e)) (hi:P.info? e=some i) (hz:i.zero=some z)
    (hsize:i.size=size) (hby:i.bytes=bytes) (hzs:z.cells.size=size) (hsz:0<size)
    (v:Value) (n:Nat) (xs:List Value) (hs:a.eval s=v) (hown:w.ownsRow base e size v n xs)
    (ad:Addr) (m c:Nat) (news:List Value) (hx:a.eval x=.slice (some ad) m c) (hl:news.length=m*size) (hnews:∀j u,news[j]? = some u->w.cell? (ad.add j)=some u) (h1:∀u∈news,u.oneCell'=true)
    (h63:n+m<=maxLen) (hbytes:(n+m)*bytes<=140737488355328) (hbase:base<=w.heap.size)
    (h:∀v' w',w'.ownsRow base e size v' (n+m) (xs++news)->w.grownBy w' v.ownBlock->(∀k,v'.ownBlock=some k->v.ownBlock=some k∨w.heap.size<=k)->K (a.put o.dst v') w') :
    if Region.wanted o (yielded ops a.tmps)=true then Oper.wp P o a w K Q else E:=by
  have hw:Region.wanted o (yielded ops a.tmps)=true:=by simp[Region.wanted,hgd]
  rw[qAb hw];exact z5p w s x t ho base e i z size bytes ht hi hz hsize hby hzs hsz v n xs hs hown ad m c news hx hl hnews h1 h63 hbytes hbase h
end
abbrev Q25(bb:Nat):Value:=.pointer (some ⟨bb,0,none⟩)
theorem z0d{w:World}{base size n:Nat}{e:TypeId}{v:Value}{xs:List Value}(h:w.ownsRow base e size v n xs):∃a cap,v=.slice a n cap:=by
  rcases h.2 with⟨rfl,rfl⟩|⟨g,cap,cur,rfl,_⟩
  · exact⟨none,0,rfl⟩
  exact⟨some ⟨g,0,none⟩,cap,rfl⟩
theorem z0l{w:World}{cs:Array Value}{l:List Value}{e:TypeId}(h:cs.toList=l):∀(j:Nat) (u:Value),l[j]? = some u->(w.alloc (.cells cs e)).cell? ((⟨w.heap.size,0,none⟩:Addr).add j)=some u:=by
  intro j u hj;rw[Addr.add_mid,qBi,Q0b (z0a _ _)];subst h;simpa using hj
theorem v0x{ws:List Int}{u:Value}(h:u∈ws.map (Value.int .u64)):u.oneCell'=true:=by
  simp at h;obtain⟨a,_,rfl⟩:=h;rfl
theorem Q0o.one(n:Q0o):∀u∈n.cells,u.oneCell'=true:=by
  intro u hu;simp only[Q0o.cells,qBc,qU,qCt,or_false]at hu;rcases hu with rfl|hu|rfl|rfl
  · rfl
  · exact v0x hu
  · rfl
  rfl
theorem badd{w W w1:World}{bb:Nat}{v v':Value}{ns:List Q0o}{n:Q0o}(h:BAt w bb v ns)(hW:Q0a w W)(hn:n.wf)
    (hown:w1.ownsRow (bb+1) 206 7 v' (ns.length+1) (Q4p ns++n.cells)) (hg:W.grownBy w1 v.ownBlock)
    (hb:∀k,v'.ownBlock=some k->v.ownBlock=some k∨W.heap.size<=k) :
    Q1d w (w1.setCell ⟨bb,0,none⟩ v') bb v v' (ns++[n]):=by
  have j0:W.heap[bb]? = some (.cells #[v] 211 (0,0)):=hW.at h.blk (fun x=>x);have h1:w1.heap[bb]? = some (.cells #[v] 211 (0,0)):=by
    rw[hg.block bb (z0j j0) (fun e=>by have:=h.own_lt bb e.symm;omega)];exact j0
  have j1:=hown.lt;refine⟨⟨?_,?_,y9h h.wf (fun m hm=>by simp at hm;subst hm;exact hn)⟩,?_,?_⟩
  · have:=zhs h1 0 v';simpa using this
  · have:Q4p (ns++[n])=Q4p ns++n.cells:=by simp[Q4p]
    rw[this];have e2:(ns++[n]).length=ns.length+1:=by simp
    rw[e2];exact z0c hown (fun g hg'=>by rw[Proofs.YtcpceafmlgaodaaGreat.heap_setCell_other _ (by have:=j1 g hg';simp;omega)])
  · have m1:Mod (Q8w bb v) w W:=hW.mono (fun _ _ x=>x.elim)
    exact(m1.grown hg (fun k hk _=>.inr hk)).setCell (fun _=>.inl rfl) _
  intro k hk;rcases hb k hk with h2|h2
  · exact .inl h2
  right;have:=hW.size;omega
theorem z1l(w:World)(bb:Nat)(v:Value)(ns:List Q0o)(h:BAt w bb v ns)(hn:ns.length<=100000) :
    Calls Tryz.prog 138 #[Q25 bb] w fun e w'=>e=.returned (.int .i64 ns.length)/\∃v',Q1d w w' bb v v' (ns++[plainNode]):=by
  obtain⟨i0,hi,hz0,j1,hz2⟩:=Q8z;obtain⟨ao,cap,hv⟩:=z0d h.own;have hc:=Q0b h.blk 0;have j0:=h.lt;have H:Hid _:=h;clear h;subst hv;simp at hc;go_enter Tryz.func138,Tryz.ntmps138
  go_wp2_with (at_builtin;refine z0g _ rfl _ _ 112 rfl (bb+1) 206 i0 _ 7 56 Tryz.underlying112 hi hz0 j1 hz2 rfl (by decide) _ _ _ rfl (H.own.alloc _) ⟨w.heap.size,0,none⟩ 1 1 plainNode.cells rfl rfl ?c1 ?c2 ?c3 ?c4 ?c5 ?_)
  case c1=>exact z0l rfl
  case c2=>exact Q0o.one _
  case c3=>unfold maxLen;omega
  case c4=>omega
  case c5=>simp;omega
  intro v' w1 hown hgrow hblk;obtain⟨a',cap',hv'⟩:=z0d hown;have j2:w1.cell? ⟨bb,0,none⟩=some (.slice ao ns.length cap):=by
    rw[Q0b (b:=bb) (c:=#[.slice ao ns.length cap]) (e:=211) (f:=(0,0))]
    · rfl
    rw[hgrow.block bb (by simp;omega) (fun e=>by have:=H.own_lt bb e.symm;omega),z0w j0];exact H.blk
  have j1:w1.frozen? ⟨bb,0,none⟩=false:=by
    rw[Q0g (b:=bb) (c:=#[.slice ao ns.length cap]) (e:=211)];rw[hgrow.block bb (by simp;omega) (fun e=>by have:=H.own_lt bb e.symm;omega),z0w j0];exact H.blk
  have HO:Hid _:=hown;have HG:Hid _:=hgrow;clear hown hgrow;subst hv';go_wp2;go_ret;refine⟨z1h (by simp),_,badd H.out ((mRf _ w).alloc _) x62 HO.out HG.out (by simpa using hblk)⟩
theorem x9w(w:World)(bb:Nat)(v:Value)(ns:List Q0o)(a b:Int)(h:BAt w bb v ns)(hn:ns.length<=100000)(ha:a<0∨(ns.length:Int)<=a) :
    Calls Tryz.prog 139 #[Q25 bb,.int .i64 a,.int .i64 b] w fun e w'=>e=.returned (.tuple #[])/\∃v',Q1d w w' bb v v' (Q1e ns a b):=by
  have e1:Q1e ns a b=ns:=by unfold Q1e;rw[qAb ha]
  rw[e1];obtain⟨ao,cap,hv⟩:=z0d h.own;have hc:=Q0b h.blk 0;have H:Hid _:=h;clear h e1;subst hv;simp at hc;rcases ha with ha|ha
  · go_enter Tryz.func139,Tryz.ntmps139
    go_wp2;refine bodyPost_ret (results_none rfl _ _ _) rfl ?_;exact⟨rfl,_,Q1d.refl H.out⟩
  go_enter Tryz.func139,Tryz.ntmps139
  go_wp2;refine bodyPost_ret (results_none rfl _ _ _) rfl ?_;exact⟨rfl,_,Q1d.refl H.out⟩
theorem blink{w:World}{bb g n cap:Nat}{ns:List Q0o}(h:BAt w bb (.slice (some ⟨g,0,none⟩) n cap) ns)(a j:Nat)(u:Value)(f:Q0o->Q0o)(ha:a<ns.length)(hj:j<7)
    (hf:∀n,n.wf->(f n).cells=n.cells.set j u) (hw:∀n,n.wf->(f n).wf) :
    Q1d w (w.setCell ⟨g,a*7+j,none⟩ u) bb (.slice (some ⟨g,0,none⟩) n cap) (.slice (some ⟨g,0,none⟩) n cap) (ns.modify a f):=by
  have hl:=h.own_lt g rfl;refine⟨⟨?_,?_,y9i h.wf _ _ hw⟩,?_,fun k hk=>.inl hk⟩
  · exact z0i h.blk (by simp;omega)
  · rw[List.length_modify,← y94 h.wf a j ha hj u f hf]
    exact z4p h.own rfl _ _ (by rw[y93 h.wf];omega)
  exact(mRf _ _).setCell (fun _=>.inr rfl) _
theorem z7o{ns:List Q0o}{a:Nat}(ha:a<ns.length){f g:Q0o->Q0o}(h:f ns[a]=g ns[a]):ns.modify a f=ns.modify a g:=by
  induction ns generalizing a with
  |nil=>simp at ha
  |cons n ns ih =>
    cases a with
    |zero=>simp at h ⊢;exact h
    |succ a=>simp at h ⊢;exact ih (by simpa using ha) h
theorem x9v(w:World)(bb:Nat)(v:Value)(ns:List Q0o)(a:Nat)(b:Int)(h:BAt w bb v ns)(hn:ns.length<=100000)(ha:a<ns.length) :
    Calls Tryz.prog 139 #[Q25 bb,.int .i64 a,.int .i64 b] w fun e w'=>e=.returned (.tuple #[])/\∃v',Q1d w w' bb v v' (Q1e ns a b):=by
  obtain⟨g,cap,hv⟩:=Joins.ownsRow_form h.own (by omega);have hc:=Q0b h.blk 0;subst hv;have j0:w.cell? ⟨g,a*7+5,none⟩=some (.int .i64 (ns[a]).next):=by
    have:=h.own.cells (g:=g) rfl (a*7+5) (.int .i64 (ns[a]).next) (by rw[z9i h.wf a 5 ha (by omega),Q0o.cells_at (h.wf _ (by simp))];rfl);rwa [Addr.add_mid,qBi]at this
  have j1:w.cell? ⟨g,a*7+6,none⟩=some (.int .i64 (ns[a]).other):=by
    have:=h.own.cells (g:=g) rfl (a*7+6) (.int .i64 (ns[a]).other) (by rw[z9i h.wf a 6 ha (by omega),Q0o.cells_at (h.wf _ (by simp))];rfl);rwa [Addr.add_mid,qBi]at this
  have hz:∀o,w.frozen? ⟨g,o,none⟩=false:=by
    rcases h.own.2 with⟨h1,_⟩|⟨g',cap',cur,h1,_,hgg,_⟩
    · cases h1
    simp at h1;obtain⟨rfl,_⟩:=h1;exact Q0g hgg
  have H:Hid _:=h;clear h;simp at hc;go_enter Tryz.func139,Tryz.ntmps139
  go_wp2
  · have h5:(ns[a]).next=-1:=by simpa using ‹((ns[a]).next==-1)=true›
    refine bodyPost_ret (results_none rfl _ _ _) rfl ⟨rfl,.slice (some ⟨g,0,none⟩) ns.length cap,?_⟩;have e1:Q1e ns a b=ns.modify a (fun n=>{n with next:=b}):=by
      unfold Q1e;rw[qAa (by omega),qAl];exact z7o ha (by simp[h5])
    rw[e1];exact blink H.out a 5 _ _ ha (by omega) (fun n hn=>by obtain⟨a,b,c,d,e⟩:=four hn;simp[Q0o.cells,e]) (fun n hn=>hn)
  have h5:(ns[a]).next≠-1:=by simpa using ‹((ns[a]).next==-1)=false›
  refine bodyPost_end (results_none rfl _ _ _) rfl ⟨rfl,.slice (some ⟨g,0,none⟩) ns.length cap,?_⟩;have e1:Q1e ns a b=ns.modify a (fun n=>{n with other:=b}):=by
    unfold Q1e;rw[qAa (by omega),qAl];exact z7o ha (by simp[h5])
  rw[e1];exact blink H.out a 6 _ _ ha (by omega) (fun n hn=>by obtain⟨a,b,c,d,e⟩:=four hn;simp[Q0o.cells,e]) (fun n hn=>hn)
theorem z1o(w:World)(bb:Nat)(v:Value)(ns:List Q0o)(a b:Int)(h:BAt w bb v ns)(hn:ns.length<=100000) :
    Calls Tryz.prog 139 #[Q25 bb,.int .i64 a,.int .i64 b] w fun e w'=>e=.returned (.tuple #[])/\∃v',Q1d w w' bb v v' (Q1e ns a b):=by
  by_cases ha:a<0∨(ns.length:Int)<=a
  · exact x9w w bb v ns a b h hn ha
  obtain⟨k,rfl⟩:∃k:Nat,a=k:=⟨a.toNat,by omega⟩;exact x9v w bb v ns k b h hn (by omega)
abbrev Q7w(a b:Int):Value:=.agg #[.int .i64 a,.int .i64 b]
theorem BAt.not_foot{w:World}{bb:Nat}{v:Value}{ns:List Q0o}(h:BAt w bb v ns){k:Nat}(hk:w.heap.size<=k):¬Q8w bb v k:=by
  rintro(rfl|h1)
  · have:=h.lt;omega
  have:=h.own_lt k h1;omega
theorem BAt.fresh{w w':World}{bb:Nat}{v:Value}{ns:List Q0o}(h:BAt w bb v ns)(hm:Q0a w w'):BAt w' bb v ns:=h.kept hm (fun _ _ x=>x)
theorem Q1d.nf{w w':World}{bb:Nat}{v v':Value}{ns':List Q0o}(h:Q1d w w' bb v v' ns'){k:Nat}(hk:k<w.heap.size)(hn:¬Q8w bb v k):¬Q8w bb v' k:=by
  rintro(rfl|h1)
  · exact hn (.inl rfl)
  rcases h.foot' k h1 with h2|h2
  · exact hn (.inr h2)
  omega
theorem Q1d.put{a b:World}{bb:Nat}{v v':Value}{ns':List Q0o}(h:Q1d a b bb v v' ns'){p:Addr}(hk:a.heap.size<=p.block)(hf:¬Q8w bb v' p.block)(u:Value):Q1d a (b.setCell p u) bb v v' ns' :=
  h.behind (S:=fun i=>i=p.block) (Mod.setCell (S:=fun i=>i=p.block) (mRf _ _) (fun _=>rfl) u) (fun i hi=>by rw[hi];exact hk) (fun i hi e=>hf (by rw[← e];exact hi))
theorem Q1d.alloc{a b:World}{bb:Nat}{v v':Value}{ns':List Q0o}(h:Q1d a b bb v v' ns')(o:Obj):Q1d a (b.alloc o) bb v v' ns' :=
  h.behind (S:=fun _=>False) ((mRf _ _).alloc o) (fun _ x=>x.elim) (fun _ _ x=>x)
theorem Q1d.loc{W w':World}{bb:Nat}{v v':Value}{ns':List Q0o}(g:Q1d W w' bb v v' ns'){k:Nat}{cs:Array Value}{e:TypeId}{f:Nat × Nat}(hb:W.heap[k]? = some (.cells cs e f))(hn:¬Q8w bb v k)(o:Nat) :
    w'.cell? ⟨k,o,none⟩=cs[o]? := Q0b (g.mod.at hb hn) o
theorem z1e(w:World)(A B C:Obj):(((w.alloc A).alloc B).alloc C).heap[w.heap.size]? = some A:=z0b (z0b (z0a _ _))
theorem z06(w:World)(A B C:Obj):(((w.alloc A).alloc B).alloc C).heap[w.heap.size+1]? = some B:=z0b (heap_alloc2_new _ _ _)
theorem z00(w:World)(A B C:Obj):(((w.alloc A).alloc B).alloc C).heap[w.heap.size+2]? = some C:=by
  have:=z0a ((w.alloc A).alloc B) C;simpa using this
theorem Q3h:(Tryz.prog.info? 213).map (·.size)=some 2:=by kernel_rfl
theorem x6c(w:World)(bb:Nat)(v:Value)(ns:List Q0o)(a b c d:Int)(h:BAt w bb v ns)(hn:ns.length<=100000) :
    Calls Tryz.prog 137 #[Q25 bb,Q7w a b,Q7w c d] w fun e w'=>e=.returned (Q7w a d)/\∃v',Q1d w w' bb v v' (Q1e ns b c):=by
  have H:Hid _:=h;have hN:=fun k (hk:w.heap.size<=k)=>h.not_foot hk;have HN:Hid _:=hN;clear h hN;go_enter Tryz.func137,Tryz.ntmps137
  go_wp2_with (go_at_call 139;refine(z1o _ bb v ns _ _ (H.fresh (((((mRf _ w).alloc _).alloc _).alloc _))) (by omega)).mono ?_;rintro e w1⟨rfl,v1,h1⟩;have k1:=Q0b (h1.mod.at (z1e _ _ _ _) (HN.out _ (by omega)));have k2:=Q0b (h1.mod.at (z06 _ _ _ _) (HN.out _ (by omega)));have k3:=Q0b (h1.mod.at (z00 _ _ _ _) (HN.out _ (by omega)));have k4:=Q0g (h1.mod.at (z00 _ _ _ _) (HN.out _ (by omega))))
  refine bodyPost_ret (results_cell_row rfl _ _ (w.heap.size+2) 213 #[.int .i64 a,.int .i64 d] (0,0) _ rfl ?_ Tryz.underlying213 rfl Q3h) rfl ⟨rfl,v1,?_⟩
  · rw[zhs (zhs (h1.mod.at (z00 _ _ _ _) (HN.out _ (by omega))) 0 _) 1 _];rfl
  have hf:=h1.nf (k:=w.heap.size+2) (by simp) (HN.out _ (by omega));exact((Q1d.ahead ((((mRf _ w).alloc _).alloc _).alloc _) h1).put (by simp;omega) hf _).put (by simp;omega) hf _
def Q30(ns:List Q0o)(a b c d:Int):List Q0o :=
  Q1e (Q1e (Q1e (Q1e (ns++[plainNode]++[plainNode]) ns.length a) ns.length c) b (ns.length+1)) d (ns.length+1)
theorem y9q(w:World)(bb:Nat)(v:Value)(ns:List Q0o)(a b c d:Int)(h:BAt w bb v ns)(hn:ns.length<=50000) :
    Calls Tryz.prog 132 #[Q25 bb,Q7w a b,Q7w c d] w fun e w'=>e=.returned (Q7w ns.length (ns.length+1))/\∃v',Q1d w w' bb v v' (Q30 ns a b c d):=by
  have H:Hid _:=h;have hN:=fun k (hk:w.heap.size<=k)=>h.not_foot hk;have HN:Hid _:=hN;clear h hN;go_enter Tryz.func132,Tryz.ntmps132
  go_wp2_with (go_at_call 138;refine(z1l _ bb v ns (H.fresh (((((mRf _ w).alloc _).alloc _).alloc _))) (by omega)).mono ?_;rintro e w1⟨rfl,v1,h1⟩)
  go_wp2_with (go_at_call 138;refine(z1l _ bb v1 _ h1.at' (by simp;omega)).mono ?_;rintro e w2⟨rfl,v2,h2⟩;have g2:=h1.trans h2;have k1:=g2.loc (z1e _ _ _ _) (HN.out _ (by omega));have k2:=g2.loc (z06 _ _ _ _) (HN.out _ (by omega));clear h1 h2)
  clear k1 k2;go_wp2_with (go_at_call 139;refine(z1o _ bb v2 _ _ _ g2.at' (by simp;omega)).mono ?_;rintro e w3⟨rfl,v3,h3⟩;have g3:=g2.trans h3;have k1:=g3.loc (z1e _ _ _ _) (HN.out _ (by omega));have k2:=g3.loc (z06 _ _ _ _) (HN.out _ (by omega));clear g2 h3)
  clear k1 k2;go_wp2_with (go_at_call 139;refine(z1o _ bb v3 _ _ _ g3.at' (by rw[z0n];simp;omega)).mono ?_;rintro e w4⟨rfl,v4,h4⟩;have g4:=g3.trans h4;have k1:=g4.loc (z1e _ _ _ _) (HN.out _ (by omega));have k2:=g4.loc (z06 _ _ _ _) (HN.out _ (by omega));clear g3 h4)
  clear k1 k2;go_wp2_with (go_at_call 139;refine(z1o _ bb v4 _ _ _ g4.at' (by rw[z0n,z0n];simp;omega)).mono ?_;rintro e w5⟨rfl,v5,h5⟩;have g5:=g4.trans h5;have k1:=g5.loc (z1e _ _ _ _) (HN.out _ (by omega));have k2:=g5.loc (z06 _ _ _ _) (HN.out _ (by omega));clear g4 h5)
  clear k1 k2;go_wp2_with (go_at_call 139;refine(z1o _ bb v5 _ _ _ g5.at' (by rw[z0n,z0n,z0n];simp;omega)).mono ?_;rintro e w6⟨rfl,v6,h6⟩;have g6:=g5.trans h6;have k3:=g6.loc (z00 _ _ _ _) (HN.out _ (by omega));have k4:=Q0g (g6.mod.at (z00 _ _ _ _) (HN.out _ (by omega)));clear g5 h6)
  refine bodyPost_ret (results_cell_row rfl _ _ (w.heap.size+2) 213 #[.int .i64 ns.length,.int .i64 (ns.length+1)] (0,0) _ rfl ?_ Tryz.underlying213 rfl Q3h) rfl ⟨rfl,v6,?_⟩
  · rw[zhs (zhs (g6.mod.at (z00 _ _ _ _) (HN.out _ (by omega))) 0 _) 1 _];rfl
  have hf:=g6.nf (k:=w.heap.size+2) (by simp) (HN.out _ (by omega));have:=((Q1d.ahead ((((mRf _ w).alloc _).alloc _).alloc _) g6).put (p:=⟨w.heap.size+2,0,none⟩) (by simp) hf (.int .i64 ns.length)).put (p:=⟨w.heap.size+2,1,none⟩) (by simp) hf (.int .i64 (ns.length+1));exact this
def Q13(ns:List Q0o)(a b m:Int):List Q0o :=
  let n1:=Q1e (Q1e (ns++[plainNode]++[plainNode]) ns.length a) b (ns.length+1)
  let n2:=if m=43 then n1 else Q1e n1 ns.length (ns.length+1)
  if m=63 then n2 else Q1e n2 b a
theorem y65(w:World)(bb:Nat)(v:Value)(ns:List Q0o)(a b m:Int)(h:BAt w bb v ns)(hn:ns.length<=50000)(hm:m=43) :
    Calls Tryz.prog 142 #[Q25 bb,Q7w a b,.int .i64 m] w fun e w'=>e=.returned (Q7w ns.length (ns.length+1))/\∃v',Q1d w w' bb v v' (Q13 ns a b m):=by
  have H:Hid _:=h;have hN:=fun k (hk:w.heap.size<=k)=>h.not_foot hk;have HN:Hid _:=hN;have E:Hid (Q13 ns a b m=Q1e (Q1e (Q1e (ns++[plainNode]++[plainNode]) ns.length a) b (ns.length+1)) b a):=by unfold Hid Q13;simp[hm]
  have m1:(m != 43)=false:=by simp[hm]
  have m2:(m != 63)=true:=by simp[hm]
  clear hm;clear h hN;go_enter Tryz.func142,Tryz.ntmps142
  go_wp2_with (go_at_call 138;refine(z1l _ bb v ns (H.fresh ((((mRf _ w).alloc _).alloc _))) (by omega)).mono ?_;rintro e w1⟨rfl,v1,h1⟩)
  go_wp2_with (go_at_call 138;refine(z1l _ bb v1 _ h1.at' (by simp;omega)).mono ?_;rintro e w2⟨rfl,v2,h2⟩;have g2:=h1.trans h2;have k1:=g2.loc (heap_alloc2_old _ _ _) (HN.out _ (by omega));clear h1 h2)
  clear k1;go_wp2_with (go_at_call 139;refine(z1o _ bb v2 _ _ _ g2.at' (by simp;omega)).mono ?_;rintro e w3⟨rfl,v3,h3⟩;have g3:=g2.trans h3;have k1:=g3.loc (heap_alloc2_old _ _ _) (HN.out _ (by omega));clear g2 h3)
  clear k1;go_wp2_with (go_at_call 139;refine(z1o _ bb v3 _ _ _ g3.at' (by rw[z0n];simp;omega)).mono ?_;rintro e w4⟨rfl,v4,h4⟩;have g4:=g3.trans h4;have k1:=g4.loc (heap_alloc2_old _ _ _) (HN.out _ (by omega));clear g3 h4)
  clear k1;go_wp2_with (go_at_call 139;refine(z1o _ bb v4 _ _ _ g4.at' (by rw[z0n,z0n];simp;omega)).mono ?_;rintro e w5⟨rfl,v5,h5⟩;have g5:=g4.trans h5;have k3:=g5.loc (heap_alloc2_new _ _ _) (HN.out _ (by omega));have k4:=Q0g (g5.mod.at (heap_alloc2_new _ _ _) (HN.out _ (by omega)));clear g4 h5)
  refine bodyPost_ret (results_cell_row rfl _ _ (w.heap.size+1) 213 #[.int .i64 ns.length,.int .i64 (ns.length+1)] (0,0) _ rfl ?_ Tryz.underlying213 rfl Q3h) rfl ⟨rfl,v5,?_⟩
  · rw[zhs (zhs (g5.mod.at (heap_alloc2_new _ _ _) (HN.out _ (by omega))) 0 _) 1 _];rfl
  have hf:=g5.nf (k:=w.heap.size+1) (by simp) (HN.out _ (by omega));have:=((Q1d.ahead (((mRf _ w).alloc _).alloc _) g5).put (p:=⟨w.heap.size+1,0,none⟩) (by simp) hf (.int .i64 ns.length)).put (p:=⟨w.heap.size+1,1,none⟩) (by simp) hf (.int .i64 (ns.length+1));rw[E.out];exact this
theorem x0l(w:World)(bb:Nat)(v:Value)(ns:List Q0o)(a b m:Int)(h:BAt w bb v ns)(hn:ns.length<=50000)(hm:m=63) :
    Calls Tryz.prog 142 #[Q25 bb,Q7w a b,.int .i64 m] w fun e w'=>e=.returned (Q7w ns.length (ns.length+1))/\∃v',Q1d w w' bb v v' (Q13 ns a b m):=by
  have H:Hid _:=h;have hN:=fun k (hk:w.heap.size<=k)=>h.not_foot hk;have HN:Hid _:=hN;have E:Hid (Q13 ns a b m=Q1e (Q1e (Q1e (ns++[plainNode]++[plainNode]) ns.length a) b (ns.length+1)) ns.length (ns.length+1)):=by unfold Hid Q13;simp[hm]
  have m1:(m != 43)=true:=by simp[hm]
  have m2:(m != 63)=false:=by simp[hm]
  clear hm;clear h hN;go_enter Tryz.func142,Tryz.ntmps142
  go_wp2_with (go_at_call 138;refine(z1l _ bb v ns (H.fresh ((((mRf _ w).alloc _).alloc _))) (by omega)).mono ?_;rintro e w1⟨rfl,v1,h1⟩)
  go_wp2_with (go_at_call 138;refine(z1l _ bb v1 _ h1.at' (by simp;omega)).mono ?_;rintro e w2⟨rfl,v2,h2⟩;have g2:=h1.trans h2;have k1:=g2.loc (heap_alloc2_old _ _ _) (HN.out _ (by omega));clear h1 h2)
  clear k1;go_wp2_with (go_at_call 139;refine(z1o _ bb v2 _ _ _ g2.at' (by simp;omega)).mono ?_;rintro e w3⟨rfl,v3,h3⟩;have g3:=g2.trans h3;have k1:=g3.loc (heap_alloc2_old _ _ _) (HN.out _ (by omega));clear g2 h3)
  clear k1;go_wp2_with (go_at_call 139;refine(z1o _ bb v3 _ _ _ g3.at' (by rw[z0n];simp;omega)).mono ?_;rintro e w4⟨rfl,v4,h4⟩;have g4:=g3.trans h4;have k1:=g4.loc (heap_alloc2_old _ _ _) (HN.out _ (by omega));clear g3 h4)
  clear k1;go_wp2_with (go_at_call 139;refine(z1o _ bb v4 _ _ _ g4.at' (by rw[z0n,z0n];simp;omega)).mono ?_;rintro e w5⟨rfl,v5,h5⟩;have g5:=g4.trans h5;have k3:=g5.loc (heap_alloc2_new _ _ _) (HN.out _ (by omega));have k4:=Q0g (g5.mod.at (heap_alloc2_new _ _ _) (HN.out _ (by omega)));clear g4 h5)
  refine bodyPost_ret (results_cell_row rfl _ _ (w.heap.size+1) 213 #[.int .i64 ns.length,.int .i64 (ns.length+1)] (0,0) _ rfl ?_ Tryz.underlying213 rfl Q3h) rfl ⟨rfl,v5,?_⟩
  · rw[zhs (zhs (g5.mod.at (heap_alloc2_new _ _ _) (HN.out _ (by omega))) 0 _) 1 _];rfl
  have hf:=g5.nf (k:=w.heap.size+1) (by simp) (HN.out _ (by omega));have:=((Q1d.ahead (((mRf _ w).alloc _).alloc _) g5).put (p:=⟨w.heap.size+1,0,none⟩) (by simp) hf (.int .i64 ns.length)).put (p:=⟨w.heap.size+1,1,none⟩) (by simp) hf (.int .i64 (ns.length+1));rw[E.out];exact this
theorem y66(w:World)(bb:Nat)(v:Value)(ns:List Q0o)(a b m:Int)(h:BAt w bb v ns)(hn:ns.length<=50000)(hm:m≠43)(hm2:m≠63) :
    Calls Tryz.prog 142 #[Q25 bb,Q7w a b,.int .i64 m] w fun e w'=>e=.returned (Q7w ns.length (ns.length+1))/\∃v',Q1d w w' bb v v' (Q13 ns a b m):=by
  have H:Hid _:=h;have hN:=fun k (hk:w.heap.size<=k)=>h.not_foot hk;have HN:Hid _:=hN;have E:Hid (Q13 ns a b m=Q1e (Q1e (Q1e (Q1e (ns++[plainNode]++[plainNode]) ns.length a) b (ns.length+1)) ns.length (ns.length+1)) b a):=by unfold Hid Q13;simp[hm,hm2]
  have m1:(m != 43)=true:=by simpa using hm
  have m2:(m != 63)=true:=by simpa using hm2
  clear hm hm2;clear h hN;go_enter Tryz.func142,Tryz.ntmps142
  go_wp2_with (go_at_call 138;refine(z1l _ bb v ns (H.fresh ((((mRf _ w).alloc _).alloc _))) (by omega)).mono ?_;rintro e w1⟨rfl,v1,h1⟩)
  go_wp2_with (go_at_call 138;refine(z1l _ bb v1 _ h1.at' (by simp;omega)).mono ?_;rintro e w2⟨rfl,v2,h2⟩;have g2:=h1.trans h2;have k1:=g2.loc (heap_alloc2_old _ _ _) (HN.out _ (by omega));clear h1 h2)
  clear k1;go_wp2_with (go_at_call 139;refine(z1o _ bb v2 _ _ _ g2.at' (by simp;omega)).mono ?_;rintro e w3⟨rfl,v3,h3⟩;have g3:=g2.trans h3;have k1:=g3.loc (heap_alloc2_old _ _ _) (HN.out _ (by omega));clear g2 h3)
  clear k1;go_wp2_with (go_at_call 139;refine(z1o _ bb v3 _ _ _ g3.at' (by rw[z0n];simp;omega)).mono ?_;rintro e w4⟨rfl,v4,h4⟩;have g4:=g3.trans h4;have k1:=g4.loc (heap_alloc2_old _ _ _) (HN.out _ (by omega));clear g3 h4)
  clear k1;go_wp2_with (go_at_call 139;refine(z1o _ bb v4 _ _ _ g4.at' (by rw[z0n,z0n];simp;omega)).mono ?_;rintro e w5⟨rfl,v5,h5⟩;have g5:=g4.trans h5;have k1:=g5.loc (heap_alloc2_old _ _ _) (HN.out _ (by omega));clear g4 h5)
  clear k1;go_wp2_with (go_at_call 139;refine(z1o _ bb v5 _ _ _ g5.at' (by rw[z0n,z0n,z0n];simp;omega)).mono ?_;rintro e w6⟨rfl,v6,h6⟩;have g6:=g5.trans h6;have k3:=g6.loc (heap_alloc2_new _ _ _) (HN.out _ (by omega));have k4:=Q0g (g6.mod.at (heap_alloc2_new _ _ _) (HN.out _ (by omega)));clear g5 h6)
  refine bodyPost_ret (results_cell_row rfl _ _ (w.heap.size+1) 213 #[.int .i64 ns.length,.int .i64 (ns.length+1)] (0,0) _ rfl ?_ Tryz.underlying213 rfl Q3h) rfl ⟨rfl,v6,?_⟩
  · rw[zhs (zhs (g6.mod.at (heap_alloc2_new _ _ _) (HN.out _ (by omega))) 0 _) 1 _];rfl
  have hf:=g6.nf (k:=w.heap.size+1) (by simp) (HN.out _ (by omega));have:=((Q1d.ahead (((mRf _ w).alloc _).alloc _) g6).put (p:=⟨w.heap.size+1,0,none⟩) (by simp) hf (.int .i64 ns.length)).put (p:=⟨w.heap.size+1,1,none⟩) (by simp) hf (.int .i64 (ns.length+1));rw[E.out];exact this
theorem x0k(w:World)(bb:Nat)(v:Value)(ns:List Q0o)(a b m:Int)(h:BAt w bb v ns)(hn:ns.length<=50000) :
    Calls Tryz.prog 142 #[Q25 bb,Q7w a b,.int .i64 m] w fun e w'=>e=.returned (Q7w ns.length (ns.length+1))/\∃v',Q1d w w' bb v v' (Q13 ns a b m):=by
  by_cases h1:m=43
  · exact y65 w bb v ns a b m h hn h1
  by_cases h2:m=63
  · exact x0l w bb v ns a b m h hn h2
  exact y66 w bb v ns a b m h hn h1 h2
theorem z9t(ns:List Q0o)(a b m:Int):(Q13 ns a b m).length=ns.length+2:=by
  unfold Q13;dsimp only;split<;>split<;>simp[z0n]
theorem y6d(ns:List Q0o)(a b c d:Int):(Q30 ns a b c d).length=ns.length+2:=by
  unfold Q30;simp[z0n]
def Q4h(ws:List Int)(e:Int):Q0o:=⟨true,ws,e,-1⟩
def Q8o(ns:List Q0o)(ws:List Int):List Q0o:=ns++[plainNode]++[Q4h ws ns.length]
theorem y62(w:World)(bb:Nat)(v:Value)(ns:List Q0o)(ws:List Int)(h:BAt w bb v ns)(hn:ns.length<=50000)(hl:ws.length=4) :
    Calls Tryz.prog 146 #[Q25 bb,.agg (Q5u ws)] w fun e w'=>e=.returned (Q7w (ns.length+1) ns.length)/\∃v',Q1d w w' bb v v' (Q8o ns ws):=by
  obtain⟨i0,hi,hz0,hz1,j5⟩:=Q8z;obtain⟨a,b,c,d,hws⟩:=four hl;have HW:Hid (ws=[a,b,c,d]):=hws;have e1:Q5u ws=#[.int .u64 a,.int .u64 b,.int .u64 c,.int .u64 d]:=by rw[hws];rfl
  rw[e1];have H:Hid _:=h;have hN:=fun k (hk:w.heap.size<=k)=>h.not_foot hk;have HN:Hid _:=hN;clear hws e1 h hN hl;go_enter Tryz.func146,Tryz.ntmps146
  go_wp2_with (go_at_call 138;refine(z1l _ bb v ns (H.fresh ((((mRf _ w).alloc _).alloc _))) (by omega)).mono ?_;rintro e w1⟨rfl,v1,h1⟩)
  have k1:=h1.loc (heap_alloc2_old _ _ _) (HN.out _ (by omega));obtain⟨ao,cap,hv⟩:=z0d h1.at'.own;have k2:=Q0b h1.at'.blk 0;have k3:=Q0g h1.at'.blk 0;have H1:Hid _:=h1;clear h1;subst hv;simp at k2;have HO:Hid (∀o:Obj,(w1.alloc o).drew.ownsRow (bb+1) 206 7 (.slice ao (ns++[plainNode]).length cap) (ns++[plainNode]).length (Q4p (ns++[plainNode]))):=fun o=>H1.at'.own.alloc o;have HB:Hid (∀(o:Obj) (v':Value) (w2:World),(w1.alloc o).drew.grownBy w2 (Value.ownBlock (.slice ao (ns++[plainNode]).length cap))->w2.heap[bb]? = some (.cells #[.slice ao (ns++[plainNode]).length cap] 211 (0,0))):=by
    intro o v' w2 hg;have hl:=H1.at'.lt;rw[hg.block bb (by simp[World.drew];omega) (fun e=>by have:=H1.at'.own_lt bb e.symm;omega)];show(w1.alloc o).heap[bb]? = _;rw[z0w hl];exact H1.at'.blk
  have j8:w.heap.size+1<w1.heap.size:=by have:=H1.mod.size;simp at this;omega
  have ja:bb<w1.heap.size:=H1.at'.lt;go_region_law (refine z7y _ rfl (.tmp 12) (.tmp 16) 112 rfl (bb+1) 206 i0 _ 7 56 Tryz.underlying112 hi hz0 hz1 j5 rfl (by decide) (.slice ao (ns++[plainNode]).length cap) _ _ (by simp[Act.eval,Act.put]) (HO.out _) ⟨w1.heap.size,0,none⟩ 1 1 [.bool true,.int .u64 a,.int .u64 b,.int .u64 c,.int .u64 d,.int .i64 ns.length,.int .i64 (-1)] (by simp[Act.eval,Act.put]) rfl (z0l rfl) (by intro u hu;simp at hu;rcases hu with rfl|rfl|rfl|rfl|rfl|rfl|rfl<;>rfl) (by unfold maxLen;simp;omega) (by simp;omega) (by simp[World.drew];omega) ?_;intro v' w2 hown hgrow hblk;obtain⟨a',cap',hv'⟩:=z0d hown;have jb:=Q0b (HB.out _ v' w2 hgrow) 0;have j5:=Q0g (HB.out _ v' w2 hgrow) 0;have j7:Hid _:=hown;have j4:Hid _:=hgrow;clear hown hgrow;subst hv')
  all_goals
    have j3:=H1.nf (k:=w.heap.size+1) (by simp) (HN.out _ (by omega));have j0:w2.heap[w.heap.size+1]? = some (.cells #[.int .i64 0,.int .i64 0] 213 (0,0)):=by
      rw[j4.block _ (by simp[World.drew];omega) (fun e=>j3 (.inr e.symm))];exact z0b (H1.mod.at (heap_alloc2_new _ _ _) (HN.out _ (by omega)))
    have j9:w.heap.size+1≠bb:=by have:=H.lt;omega
    have jc:=Q0b j0;have jd:=Q0g j0;have HR:Hid _:=j0;have j6:Hid _:=j3;have HE:Hid _:=j9;clear j0 j3 k1;go_wp2;have fin:=badd (n:=Q4h ws ns.length) H1.at' (((mRf _ w1).alloc _).drew) (by rw[HW.out];rfl) (by rw[HW.out];exact j7.out) j4.out (by simpa [World.drew]using hblk);have j2:=H1.trans fin;have j1:=fin.nf (k:=w.heap.size+1) (by omega) j6.out;refine bodyPost_ret (results_cell_row rfl _ _ (w.heap.size+1) 213 #[.int .i64 (ns.length+1),.int .i64 ns.length] (0,0) _ rfl ?_ Tryz.underlying213 rfl Q3h) rfl ⟨rfl,.slice a' ((ns++[plainNode]).length+1) cap',?_⟩
    · rw[zhs (zhs (z0i HR.out HE.out) 0 _) 1 _];rfl
    have:=((Q1d.ahead (((mRf _ w).alloc _).alloc _) j2).put (p:=⟨w.heap.size+1,0,none⟩) (by simp) j1 (.int .i64 (ns.length+1))).put (p:=⟨w.heap.size+1,1,none⟩) (by simp) j1 (.int .i64 ns.length);simpa [Q8o]using this
theorem x6r(ns:List Q0o)(ws:List Int):(Q8o ns ws).length=ns.length+2:=by simp[Q8o]
end Go.Proofs.YtcpceafmlgaodaaGreat
