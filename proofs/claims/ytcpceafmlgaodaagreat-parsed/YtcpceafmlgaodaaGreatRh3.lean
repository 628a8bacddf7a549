import Derived.Test.YtcpceafmlgaodaaGreatRf9
namespace Go.Proofs.YtcpceafmlgaodaaGreat
open Go.RowKit
set_option maxRecDepth 100000
set_option maxHeartbeats 16000000
set_option linter.unusedVariables false
set_option linter.unusedSimpArgs false
theorem z59(l:List ByteArray)(s:ByteArray)(v:Value)(w:World)(hl:StrsAt w v l)(hn:l.length<=1000) :
  Calls Tryz.prog 62#[v,.string s]w fun e w'=>e=.returned(.int .i64(Q1z l s))/\w'=w:=by
 obtain⟨a,c,rfl,hc⟩:=hl;have HC:=hid hc;clear hc;go_enter Tryz.func62,Tryz.ntmps62
 go_wp2;go_loop [5](fun x=>∃n:Nat,x=.int .i64 n/\n<=l.length/\∀j(hj:j<l.length),j<n->(l[j].toList==s.toList)=false)
  (fun x=>1001-(intOf x).toNat)
 case atStart=>exact⟨0,rfl,by omega,fun j _ h=>by omega⟩
 obtain⟨n,rfl,hn1,hall⟩:=hrel;have j0:=hid(Q2a(B:=1001)n(by omega));have HA:=hid hall;clear hall;by_cases hlt:n<l.length
 ·obtain⟨g,o,hao,hcell⟩:=HC.out n hlt;subst hao;cases h1:(l[n].toList==s.toList)
  ·go_wp2;go_round
   case rel =>
    refine⟨n+1,by go_num,by omega,?_⟩;intro j hj hjn;by_cases e:j=n
    ·subst e;exact h1
    exact HA.out j hj(by omega)
   exact j0.out
  go_wp2;go_ret;refine⟨z1h ?_,rfl⟩;have:l.findIdx(fun x=>x.toList==s.toList)=n:=by
   rw[List.findIdx_eq hlt];exact⟨h1,fun j hj=>HA.out j(by omega)hj⟩
  unfold Q1z;rw[this,if_pos hlt]
 go_wp2;go_ret;refine⟨z1h ?_,rfl⟩;have:l.findIdx(fun x=>x.toList==s.toList)=l.length:=by
  apply List.findIdx_eq_length_of_false;intro x hx;obtain⟨j,hj,rfl⟩:=List.getElem_of_mem hx;exact HA.out j hj(by omega)
 unfold Q1z;rw[this,if_neg(by omega)]
structure Rz where
 v:Value
 ty:TypeId
 k:Nat
 n:Nat
 cs:List Value
structure OAt(w:World)(b:Nat)(ty:TypeId)(rs:List Rz):Prop where
 blk:w.heap[b]? = some(.cells(rs.map Rz.v).toArray ty(0,0))
 own:∀(i:Nat)(r:Rz),rs[i]? = some r->w.ownsRow(b+1)r.ty r.k r.v r.n r.cs
 apart:∀(i j:Nat)(r r':Rz)(k:Nat),rs[i]? = some r->rs[j]? = some r'->r.v.ownBlock=some k->r'.v.ownBlock=some k->i=j
section
variable{w w' W w1:World}{b:Nat}{ty:TypeId}{rs:List Rz}
theorem OAt.lt(h:OAt w b ty rs):b<w.heap.size:=z0j h.blk
theorem OAt.own_lt(h:OAt w b ty rs){i:Nat}{r:Rz}(hr:rs[i]? = some r):∀k,r.v.ownBlock=some k->b<k/\k<w.heap.size:=fun k hk=>by
 have:=(h.own i r hr).lt k hk;omega
theorem OAt.kept{S:Nat->Prop}(h:OAt w b ty rs)(m:Mod S w w')(hs:∀k,b<=k->k<w.heap.size->¬S k):OAt w' b ty rs :=
 ⟨m.at h.blk(hs b(qR _)h.lt),fun i r hr=>z0c(h.own i r hr)(fun g hg=>m.block g(h.own_lt hr g hg).2(hs g(by have:=h.own_lt hr g hg;omega)(h.own_lt hr g hg).2)),h.apart⟩
theorem OAt.fresh(h:OAt w b ty rs)(m:Q0a w w'):OAt w' b ty rs:=h.kept m(fun _ _ _ x=>x)
theorem OAt.blk_grown(h:OAt w b ty rs)(hW:Q0a w W){i:Nat}{r:Rz}(hi:rs[i]? = some r)(hg:W.grownBy w1 r.v.ownBlock):w1.heap[b]? = some(.cells(rs.map Rz.v).toArray ty(0,0)):=by
 have j0:=hW.at h.blk(fun x=>x);rw[hg.block b(z0j j0)(fun e=>by have:=h.own_lt hi b e.symm;omega)];exact j0
theorem oadd{i:Nat}{v v':Value}{e:TypeId}{k n:Nat}{xs x:List Value}(h:OAt w b ty rs)(hW:Q0a w W)(hi:rs[i]? = some⟨v,e,k,n,xs⟩)
  (hown:w1.ownsRow(b+1)e k v'(n+1)(xs++x))(hg:W.grownBy w1 v.ownBlock)
  (hb:∀j,v'.ownBlock=some j->v.ownBlock=some j∨W.heap.size<=j) :
  OAt(w1.setCell⟨b,i,none⟩v')b ty(rs.set i⟨v',e,k,n+1,xs++x⟩)/\Mod(fun j=>b<=j)w(w1.setCell⟨b,i,none⟩v'):=by
 have j3:=(qS hi).1;have h1:=h.blk_grown hW hi hg;have j2:=hown.lt;have j0:∀(j:Nat)(r:Rz),(rs.set i⟨v',e,k,n+1,xs++x⟩)[j]? = some r->(j=i/\r=⟨v',e,k,n+1,xs++x⟩)∨(j≠i/\rs[j]? = some r):=by
  intro j r hj;by_cases e:i=j
  ·subst e;rw[List.getElem?_set_self j3]at hj;left;exact⟨rfl,by simpa using hj.symm⟩
  rw[List.getElem?_set_ne e]at hj;right;exact⟨fun h=>e h.symm,hj⟩
 have j1:∀(j:Nat)(r:Rz)(q:Nat),j≠i->rs[j]? = some r->r.v.ownBlock=some q->v'.ownBlock=some q->False:=by
  intro j r q hne hj hk hk';rcases hb q hk' with h2|h2
  ·exact hne(h.apart j i r _ q hj hi hk h2)
  have:=h.own_lt hj q hk;have:=hW.size;omega
 refine⟨⟨?_,?_,?_⟩,?_⟩
 ·have:=zhs h1 i v';rw[this,List.map_set];simp
 ·intro j r hj;rcases j0 j r hj with⟨rfl,rfl⟩|⟨hne,hj⟩
  ·exact z0c hown(fun g hg'=>by rw[Proofs.YtcpceafmlgaodaaGreat.heap_setCell_other _(by have:=j2 g hg';simp;omega)])
  refine z0c((h.own j r hj))(fun g hg'=>?_);have hl:=h.own_lt hj g hg';rw[Proofs.YtcpceafmlgaodaaGreat.heap_setCell_other _(by simp;omega),hg.block g(by have:=hW.size;omega)(fun e=>hne(h.apart j i r _ g hj hi hg' e.symm)),hW.block g hl.2(fun x=>x)]
 ·intro j j' r r' q hj hj' hk hk';rcases j0 j r hj with⟨e1,e2⟩|⟨hne,hj2⟩
  ·rcases j0 j' r' hj' with⟨e3,e4⟩|⟨hne',hj2'⟩
   ·rw[e1,e3]
   subst e2;exact(j1 j' r' q hne' hj2' hk' hk).elim
  rcases j0 j' r' hj' with⟨e3,e4⟩|⟨hne',hj2'⟩
  ·subst e4;exact(j1 j r q hne hj2 hk hk').elim
  exact h.apart j j' r r' q hj2 hj2' hk hk'
 have m1:Mod(fun j=>b<=j)w W:=hW.mono(fun _ _ x=>x.elim);exact(m1.grown hg(fun q hk _=>by have:=h.own_lt hi q hk;omega)).setCell(fun _=>qR _)_
end
structure SP where
 rules:List ZLV
 prods:List ZLV
 heads:List ByteArray
 head:List Int
abbrev Q5y(X:SP)(v0 v1 v2 v3 v4:Value)(sv:List Value):List Rz :=
 [⟨v0,85,7,X.rules.length,Q01 ZLV.cells X.rules⟩,⟨v1,85,7,X.prods.length,Q01 ZLV.cells X.prods⟩,⟨v2,9,1,X.heads.length,Q9z X.heads⟩,⟨v3,3,1,X.head.length,W0b X.head⟩,⟨v4,22,1,sv.length,sv⟩]
abbrev Q2z(w:World)(b:Nat)(X:SP)(v0 v1 v2 v3 v4:Value)(sv:List Value):Prop:=OAt w b 54(Q5y X v0 v1 v2 v3 v4 sv)
section
variable{w W w1:World}{b:Nat}{X:SP}{v0 v1 v2 v3 v4 v':Value}{sv:List Value}
abbrev UpZ(b:Nat):World->World->Prop:=Mod(fun k=>b<=k)
theorem Q2z.cell(h:Q2z w b X v0 v1 v2 v3 v4 sv)(o:Nat):w.cell?⟨b,o,none⟩=#[v0,v1,v2,v3,v4][o]? := by
 have:=Q0b h.blk o;simpa using this
theorem Q2z.frozen(h:Q2z w b X v0 v1 v2 v3 v4 sv)(o:Nat):w.frozen?⟨b,o,none⟩=false:=Q0h h.blk o
theorem Q2z.add0{x:ZLV}(h:Q2z w b X v0 v1 v2 v3 v4 sv)(hW:Q0a w W)(hown:w1.ownsRow(b+1)85 7 v'(X.rules.length+1)(Q01 ZLV.cells X.rules++x.cells))(hg:W.grownBy w1 v0.ownBlock)
  (hb:∀k,v'.ownBlock=some k->v0.ownBlock=some k∨W.heap.size<=k) :
  Q2z(w1.setCell⟨b,0,none⟩v')b{X with rules:=X.rules++[x]}v' v1 v2 v3 v4 sv/\UpZ b w(w1.setCell⟨b,0,none⟩v'):=by
 obtain⟨a1,m⟩:=oadd(i:=0)h hW rfl hown hg hb;refine⟨?_,m⟩;have e:(Q5y X v0 v1 v2 v3 v4 sv).set 0⟨v',85,7,X.rules.length+1,Q01 ZLV.cells X.rules++x.cells⟩=Q5y{X with rules:=X.rules++[x]}v' v1 v2 v3 v4 sv:=by simp[Q5y,z0y]
 rw[e]at a1;exact a1
theorem Q2z.add1{x:ZLV}(h:Q2z w b X v0 v1 v2 v3 v4 sv)(hW:Q0a w W)(hown:w1.ownsRow(b+1)85 7 v'(X.prods.length+1)(Q01 ZLV.cells X.prods++x.cells))(hg:W.grownBy w1 v1.ownBlock)
  (hb:∀k,v'.ownBlock=some k->v1.ownBlock=some k∨W.heap.size<=k) :
  Q2z(w1.setCell⟨b,1,none⟩v')b{X with prods:=X.prods++[x]}v0 v' v2 v3 v4 sv/\UpZ b w(w1.setCell⟨b,1,none⟩v'):=by
 obtain⟨a1,m⟩:=oadd(i:=1)h hW rfl hown hg hb;refine⟨?_,m⟩;have e:(Q5y X v0 v1 v2 v3 v4 sv).set 1⟨v',85,7,X.prods.length+1,Q01 ZLV.cells X.prods++x.cells⟩=Q5y{X with prods:=X.prods++[x]}v0 v' v2 v3 v4 sv:=by simp[Q5y,z0y]
 rw[e]at a1;exact a1
theorem Q2z.add2{x:ByteArray}(h:Q2z w b X v0 v1 v2 v3 v4 sv)(hW:Q0a w W)(hown:w1.ownsRow(b+1)9 1 v'(X.heads.length+1)(Q9z X.heads++[.string x]))(hg:W.grownBy w1 v2.ownBlock)
  (hb:∀k,v'.ownBlock=some k->v2.ownBlock=some k∨W.heap.size<=k) :
  Q2z(w1.setCell⟨b,2,none⟩v')b{X with heads:=X.heads++[x]}v0 v1 v' v3 v4 sv/\UpZ b w(w1.setCell⟨b,2,none⟩v'):=by
 obtain⟨a1,m⟩:=oadd(i:=2)h hW rfl hown hg hb;refine⟨?_,m⟩;have e:(Q5y X v0 v1 v2 v3 v4 sv).set 2⟨v',9,1,X.heads.length+1,Q9z X.heads++[.string x]⟩=Q5y{X with heads:=X.heads++[x]}v0 v1 v' v3 v4 sv:=by simp[Q5y]
 rw[e]at a1;exact a1
theorem Q2z.add3{x:Int}(h:Q2z w b X v0 v1 v2 v3 v4 sv)(hW:Q0a w W)(hown:w1.ownsRow(b+1)3 1 v'(X.head.length+1)(W0b X.head++[.int .i64 x]))(hg:W.grownBy w1 v3.ownBlock)
  (hb:∀k,v'.ownBlock=some k->v3.ownBlock=some k∨W.heap.size<=k) :
  Q2z(w1.setCell⟨b,3,none⟩v')b{X with head:=X.head++[x]}v0 v1 v2 v' v4 sv/\UpZ b w(w1.setCell⟨b,3,none⟩v'):=by
 obtain⟨a1,m⟩:=oadd(i:=3)h hW rfl hown hg hb;refine⟨?_,m⟩;have e:(Q5y X v0 v1 v2 v3 v4 sv).set 3⟨v',3,1,X.head.length+1,W0b X.head++[.int .i64 x]⟩=Q5y{X with head:=X.head++[x]}v0 v1 v2 v' v4 sv:=by simp[Q5y]
 rw[e]at a1;exact a1
theorem Q2z.add4{u:Value}(h:Q2z w b X v0 v1 v2 v3 v4 sv)(hW:Q0a w W)(hown:w1.ownsRow(b+1)22 1 v'(sv.length+1)(sv++[u]))(hg:W.grownBy w1 v4.ownBlock)
  (hb:∀k,v'.ownBlock=some k->v4.ownBlock=some k∨W.heap.size<=k) :
  Q2z(w1.setCell⟨b,4,none⟩v')b X v0 v1 v2 v3 v'(sv++[u])/\UpZ b w(w1.setCell⟨b,4,none⟩v'):=by
 obtain⟨a1,m⟩:=oadd(i:=4)h hW rfl hown hg hb;refine⟨?_,m⟩;have e:(Q5y X v0 v1 v2 v3 v4 sv).set 4⟨v',22,1,sv.length+1,sv++[u]⟩=Q5y X v0 v1 v2 v3 v'(sv++[u]):=by simp[Q5y]
 rw[e]at a1;exact a1
end
theorem Q46.kept{S:Nat->Prop}{b:Nat}{w w':World}{v:Value}{xs:List ZLV}(h:Q46 b w v xs)(m:Mod S w w')(hs:∀k,k<w.heap.size->¬S k):Q46 b w' v xs :=
 ⟨z0c h.own(fun g hg=>m.block g(h.own.lt g hg).2(hs g(h.own.lt g hg).2)),fun x hx=>(h.each x hx).kept m(fun k hk=>hs k((h.each x hx).syms.lt k hk).2)(fun k hk=>hs k((h.each x hx).places.lt k hk).2)⟩
theorem Q46.row{b:Nat}{w:World}{v:Value}{xs:List ZLV}(h:Q46 b w v xs):Q2k ZLV.cells 7 85 w v xs:=⟨z0f h.own(Nat.zero_le _),fun x _=>rfl⟩
end Go.Proofs.YtcpceafmlgaodaaGreat
