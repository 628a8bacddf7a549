import Derived.Test.YtbdpfmalabgmbaaGreatCrw3
import Derived.ChangeKeysEq
namespace Go.Proofs.YtbdpfmalabgmbaaGreat
open Go.RowKit
set_option maxRecDepth 99999
set_option maxHeartbeats 0
set_option linter.all false
theorem isAggB(w:World):(isAgg 4).run Tryz.prog w=.ok false w:=by
  unfold isAgg;rw[Sem.run_bind,run_underlying Tryz.underlying4];rfl
theorem isAggT(w:World):(isAgg 147).run Tryz.prog w=.ok true w:=by
  unfold isAgg;rw[Sem.run_bind,run_underlying qAk];rfl
theorem cellsB:Tryz.prog.cellsOf 4=1:=by kernel_rfl
theorem sizeOfTk(w:World):(sizeOf 147).run Tryz.prog w=.ok 9 w:=by
  have h:=Q75;cases hq:Tryz.prog.info? 147 with
  |none=>simp[hq]at h
  |some i=>simp[hq]at h;simp[sizeOf,typeInfo,hq,h]
theorem Q9h(xs:Array Value)(i:Nat)(v:Value)(h:xs[i]? = some v)(w:World):(part 4 xs i).run Tryz.prog w=.ok v w:=by
  simp[part,isAggB,h]
theorem Q94(d:Nat)(a b:List Bool)(ha:a.length=9)(hb:b.length=9)(w:World):∀is:List Nat,(∀i∈is,i<9) ->
    (Op.eqItems (d+1) 4 1 (tkA a) (tkA b) is).run Tryz.prog w=.ok (is.all fun i=>a.getD i false==b.getD i false) w
  | [],_=>by simp[Op.eqItems]
  |i::is,h=>by
    have h1:=h i (by simp);have ih:=Q94 d a b ha hb w is (fun j hj=>h j (by simp[hj]));simp only[Op.eqItems,Sem.run_bind,Nat.mul_one,Q9h _ _ _ (y0j (show i<a.length by omega)),Q9h _ _ _ (y0j (show i<b.length by omega)),Result.andThen_ok,run_equalIn_bool w d 4 _ _ Tryz.underlying4];cases hq:(a.getD i false==b.getD i false)
    · simp only[Bool.not_false,qBn,Sem.run_pure,qDv,hq,qDh]
    simp only[Bool.not_true,qF,qAz,ih,qDv,hq,qBm]
theorem all9{a b:List Bool}(ha:a.length=9)(hb:b.length=9):((List.range 9).all fun i=>a.getD i false==b.getD i false)=(a==b):=by
  obtain⟨a0,a1,a2,a3,a4,a5,a6,a7,a8,rfl⟩:=Q7n ha;obtain⟨b0,b1,b2,b3,b4,b5,b6,b7,b8,rfl⟩:=Q7n hb;rfl
theorem eqTok(d:Nat)(a b:List Bool)(ha:a.length=9)(hb:b.length=9)(w:World):(Op.equalIn (d+2) 147 (.agg (tkA a)) (.agg (tkA b))).run Tryz.prog w=.ok (a==b) w:=by
  have h:=Q75;obtain⟨i,hi⟩:∃i,Tryz.prog.info? 4=some i:=by
    cases hq:Tryz.prog.info? 4 with
    |none =>
      have:(Tryz.prog.info? 4).isSome=true:=by kernel_rfl
      rw[hq]at this;cases this
    |some i=>exact⟨i,rfl⟩
  rw[run_equalIn_array w (d+1) _ _ qAk hi,cellsB,Q94 d a b ha hb w _ (fun i hi=>by simpa using hi),all9 ha hb]
structure Hd where
  nul:Bool
  rch:Bool
  fru:Bool
  fi:List Bool
  fo:List Bool
structure Hd.ok(h:Hd):Prop where
  fi:h.fi.length=9
  fo:h.fo.length=9
def Hd.cells(h:Hd):List Value:=.bool h.nul::.bool h.rch::.bool h.fru::(bls h.fi++bls h.fo)
def hdA(h:Hd):Array Value:=h.cells.toArray
def zeroHd:Hd:=⟨false,false,false,zero9,zero9⟩
def hdEq(a b:Hd):Bool:=a.nul==b.nul&&(a.rch==b.rch&&(a.fru==b.fru&&(a.fi==b.fi&&a.fo==b.fo)))
theorem z8c{a b:Hd}:hdEq a b=true↔a=b:=by
  obtain⟨a1,a2,a3,a4,a5⟩:=a;obtain⟨b1,b2,b3,b4,b5⟩:=b;simp[hdEq]
theorem Hd.cells_len{h:Hd}(k:h.ok):h.cells.length=21:=by simp[Hd.cells,bls,k.fi,k.fo]
theorem z07{h:Hd}(k:h.ok):(hdA h).size=21:=by simp[hdA,Hd.cells_len k]
theorem szHd:(Tryz.prog.info? 200).map (·.size)=some 21:=by kernel_rfl
theorem Q1q{h:Hd}(k:h.ok):(Tryz.prog.info? 200).map (·.size)=some (hdA h).size:=by rw[z07 k];exact szHd
theorem szHdL{h:Hd}(k:h.ok):(Tryz.prog.info? 200).map (·.size)=some h.cells.length:=by rw[Hd.cells_len k];exact szHd
theorem z1w(h:Hd):(hdA h).all (·.oneCell')=true:=by
  unfold hdA;apply qCq;intro v hv;simp[Hd.cells,bls]at hv;rcases hv with rfl|rfl|rfl|(⟨_,rfl⟩|⟨_,rfl⟩)|(⟨_,rfl⟩|⟨_,rfl⟩)<;>rfl
theorem y1e(h:Hd):(hdA h)[0]? = some (.bool h.nul):=by simp[hdA,Hd.cells]
theorem y4k(h:Hd):(hdA h)[1]? = some (.bool h.rch):=by simp[hdA,Hd.cells]
theorem y4l(h:Hd):(hdA h)[2]? = some (.bool h.fru):=by simp[hdA,Hd.cells]
theorem v18{h:Hd}(k:h.ok):(hdA h).extract 3 12=tkA h.fi:=by
  obtain⟨n,r,f,fi,fo⟩:=h;obtain⟨a0,a1,a2,a3,a4,a5,a6,a7,a8,e⟩:=Q7n k.fi;obtain⟨b0,b1,b2,b3,b4,b5,b6,b7,b8,e2⟩:=Q7n k.fo;dsimp only at e e2;subst e;subst e2;rfl
theorem v19{h:Hd}(k:h.ok):(hdA h).extract 12 21=tkA h.fo:=by
  obtain⟨n,r,f,fi,fo⟩:=h;obtain⟨a0,a1,a2,a3,a4,a5,a6,a7,a8,e⟩:=Q7n k.fi;obtain⟨b0,b1,b2,b3,b4,b5,b6,b7,b8,e2⟩:=Q7n k.fo;dsimp only at e e2;subst e;subst e2;rfl
theorem partT(h:Hd)(o:Nat)(l:List Bool)(k:h.ok)(hx:(hdA h).extract o (o+9)=tkA l)(ho:o+9<=21)(w:World):(part 147 (hdA h) o).run Tryz.prog w=.ok (.agg (tkA l)) w:=by
  simp[part,isAggT,sizeOfTk,hx,z07 k,ho]
theorem stood154:Tryz.prog.stoodInHeld 200=false:=by kernel_rfl
theorem guardHd:Tryz.prog.eqGuardType Tryz.prog.depth 200=false:=by kernel_rfl
theorem eqHd(d:Nat)(a b:Hd)(ha:a.ok)(hb:b.ok)(w:World):(Op.equalIn (d+4) 200 (.agg (hdA a)) (.agg (hdA b))).run Tryz.prog w=.ok (hdEq a b) w:=by
  rw[run_equalIn_struct w (d+3) _ _ _ (by kernel_rfl) stood154];have hf : ((Tryz.prog.fieldsOf 200).toList.map fun f => (f.name, f.type, f.offset)) = [("nullable", 4, 0), ("reached", 4, 1), ("fruitful", 4, 2), ("first", 147, 3), ("follow", 147, 12)] := by kernel_rfl
  generalize(Tryz.prog.fieldsOf 200).toList=fs at hf;rcases fs with _|⟨f0,_|⟨f1,_|⟨f2,_|⟨f3,_|⟨f4,_|⟨f5,fs⟩⟩⟩⟩⟩⟩<;>simp at hf;obtain⟨⟨n0,t0,o0⟩,⟨n1,t1,o1⟩,⟨n2,t2,o2⟩,⟨n3,t3,o3⟩,⟨n4,t4,o4⟩⟩:=hf;simp only[Op.eqFields,n0,t0,o0,n1,t1,o1,n2,t2,o2,n3,t3,o3,n4,t4,o4];simp only[Sem.run_bind,Sem.run_ite,Q9h _ _ _ (y1e a),Q9h _ _ _ (y1e b),Q9h _ _ _ (y4k a),Q9h _ _ _ (y4k b),Q9h _ _ _ (y4l a),Q9h _ _ _ (y4l b),
    partT a 3 _ ha (v18 ha) (by omega),partT b 3 _ hb (v18 hb) (by omega),partT a 12 _ ha (v19 ha) (by omega),partT b 12 _ hb (v19 hb) (by omega),Result.andThen_ok,
    run_equalIn_bool w (d+2) 4 _ _ Tryz.underlying4,eqTok (d+1) a.fi b.fi ha.fi hb.fi,eqTok (d+1) a.fo b.fo ha.fo hb.fo,Sem.run_pure]
  unfold hdEq;cases a.nul==b.nul<;>cases a.rch==b.rch<;>cases a.fru==b.fru<;>cases a.fi==b.fi<;>cases a.fo==b.fo<;>simp
structure Sy where
  isH:Bool
  num:Int
def Sy.cells(s:Sy):List Value:=[.bool s.isH,.int .i64 s.num]
structure Pr where
  head:Int
  syms:List Sy
structure PV where
  pr:Pr
  vs:Value
def PV.cells(p:PV):List Value:=[.int .i64 p.pr.head,p.vs]
def Q58(w:World)(B:Nat)(v:Value)(l:List Sy):Prop :=
  ∃ao cap,v=.slice ao l.length cap/\l.length<=cap/\cap<=maxLen/\∀i (h:i<l.length),∃g o,ao=some ⟨g,o,none⟩/\g<B/\w.rangeAt g (o+i*2) (l[i]).cells
theorem z0t{w w':World}{g o:Nat}{cs:List Value}(h:w.rangeAt g o cs)(hb:w'.heap[g]? = w.heap[g]?):w'.rangeAt g o cs:=fun j v hj=>by
  have:=h j v hj;simpa [World.cell?,hb]using this
theorem Q58.kept{S:Nat->Prop}{w w':World}{B:Nat}{v:Value}{l:List Sy}(h:Q58 w B v l)(hB:B<=w.heap.size)(hm:Mod S w w')(hs:∀k,k<B->¬S k):Q58 w' B v l:=by
  obtain⟨ao,cap,h1,h2,h3,h4⟩:=h;refine⟨ao,cap,h1,h2,h3,fun i hi=>?_⟩;obtain⟨g,o,h5,h6,h7⟩:=h4 i hi;exact⟨g,o,h5,h6,z0t h7 (hm.block g (by omega) (hs g h6))⟩
structure Q2e(w:World)(B:Nat)(v:Value)(ps:List PV):Prop where
  row:Q18 PV.cells 2 85 w v ps
  lt:∀g,v.ownBlock=some g->g<B
  syms:∀p∈ps,Q58 w B p.vs p.pr.syms
theorem Q2e.kept{S:Nat->Prop}{w w':World}{B:Nat}{v:Value}{l:List PV}(h:Q2e w B v l)(hB:B<=w.heap.size)(hm:Mod S w w')(hs:∀k,k<B->¬S k):Q2e w' B v l :=
  ⟨h.row.kept hm (fun b hb=>hs b (h.lt b hb)),h.lt,fun p hp=>(h.syms p hp).kept hB hm hs⟩
structure FA(w:World)(b:Nat)(R H:Int)(vp vh:Value)(ps:List PV)(hs:List Hd):Prop where
  blk:w.heap[b]? = some (.cells #[.int .i64 R,.int .i64 H,vp,vh] 155 (0,0))
  prs:Q2e w b vp ps
  own:w.ownsRow (b+1) 200 21 vh hs.length (Q0y Hd.cells hs)
  ok:∀h∈hs,h.ok
variable {w w':World}{b:Nat}{R H:Int}{vp vh:Value}{ps:List PV}{hs:List Hd}
theorem FA.fresh(h:FA w b R H vp vh ps hs)(hm:Q0a w w'):FA w' b R H vp vh ps hs :=
  ⟨hm.at h.blk id,h.prs.kept (qFd (z0j h.blk)) hm (fun _ _ x=>x),z0d h.own (fun g hg=>hm.block g (h.own.lt g hg).2 id),h.ok⟩
theorem FA.cell(h:FA w b R H vp vh ps hs)(o:Nat):w.cell? ⟨b,o,none⟩=#[.int .i64 R,.int .i64 H,vp,vh][o]? := Q0b h.blk o
theorem FA.row(h:FA w b R H vp vh ps hs):Q18 Hd.cells 21 200 w vh hs:=⟨z0g h.own (qBq _),fun x hx=>Hd.cells_len (h.ok x hx)⟩
def Q1k(hs:List Hd)(n:Int):Hd:=if 0<=n then(hs[n.toNat]?).getD zeroHd else zeroHd
theorem z2u:zeroHd.ok:=⟨rfl,rfl⟩
theorem z0k{hs:List Hd}(h:∀x∈hs,x.ok)(n:Int):(Q1k hs n).ok:=by
  unfold Q1k;split
  · cases hq:hs[n.toNat]? with
    |none=>exact z2u
    |some x=>exact h x (qAi hq)
  exact z2u
def Q70(hs:List Hd)(n:Int)(h:Hd):List Hd:=if 0<=n then hs.set n.toNat h else hs
def Q67(hs:List Hd)(n:Int)(h:Hd):Bool:=if 0<=n then(match hs[n.toNat]? with|some x=>!hdEq x h|none=>false) else false
theorem z4l(w:World)(b:Nat)(R H:Int)(vp vh:Value)(ps:List PV)(hs:List Hd)(n:Int)(h:FA w b R H vp vh ps hs) :
    Calls Tryz.prog 101 #[Q3c b,.int .i64 n] w fun e w'=>e=.returned (.agg (hdA (Q1k hs n)))/\Q0a w w':=by
  have k3:=h.cell 3;simp at k3;have HF:=hid h;have zb:Hid ((w.alloc (.cells (hdA zeroHd) 200 (0,0))).heap[w.heap.size]? = some (.cells (hdA zeroHd) 200 (0,0))):=z0a _ _;have hb:=z0j h.blk;have j3:(w.alloc (.cells #[.bool false,.bool false,.bool false,.bool false,.bool false,.bool false,.bool false,.bool false,.bool false,.bool false,.bool false,.bool false,.bool false,.bool false,.bool false,.bool false,.bool false,.bool false,.bool false,.bool false,.bool false] 200 (0,0))).cell? ⟨b,3,none⟩=some vh:=by
    rw[Q0b (z0b h.blk) 3];rfl
  obtain⟨ao,cap,hv⟩:=z0c h.own;subst hv;by_cases h0:0<=n
  · obtain⟨k,rfl⟩:∃k:Nat,n=k:=⟨n.toNat,by omega⟩
    by_cases hk:k<hs.length
    · have e1:Hid (Q1k hs k=hs[k]):=by unfold Hid Q1k;rw[qAb h0];simp[hk]
      obtain⟨g,j2,j1⟩:=Joins.ownsRow_form h.own (by omega);rw[qI]at j1;obtain⟨rfl,_,rfl⟩:=j1;have RG:=hid ((h.fresh ((mRf _ w).alloc (.cells (hdA zeroHd) 200 (0,0)))).row.range k hk);have j0:=hid (h.ok hs[k] (by simp));rw[e1.out];have b1:decide ((k:Int)<0)=false:=by simp
      have b2:decide ((hs.length:Int)<=(k:Int))=false:=by simp;omega
      have b3:decide (hs.length<=k)=false:=by simp;omega
      have b4:(k:Int)<(hs.length:Int):=by omega
      clear h e1;go_enter Tryz.func101,Tryz.ntmps101
      go_wp2_with (first
        |(refine qAe rfl 200 _ rfl g (k*21) rfl hs[k].cells _ RG.out qCp rfl (szHdL j0.out) ?_)
        |(refine qAg rfl 200 _ _ rfl w.heap.size (hdA hs[k]) rfl rfl _ _ zb.out (Q1q j0.out) (Q0l rfl (z07 j0.out)) (z1w _) ?_))
      refine qAc (qCg rfl _ _ w.heap.size 200 _ (0,0) _ rfl (qAn _ _ _ _ _ _ zb.out) qCp rfl (Q1q j0.out)) rfl ⟨rfl,?_⟩;exact((mRf _ w).alloc _).setRow (by simp) _
    have e1:Q1k hs k=zeroHd:=by unfold Q1k;rw[qAb h0];simp[hk]
    rw[e1];have b1:decide ((k:Int)<0)=false:=by simp
    have b2:decide ((hs.length:Int)<=(k:Int))=true:=by simp;omega
    have b3:decide (hs.length<=k)=true:=by simp;omega
    have b4:¬(k:Int)<(hs.length:Int):=by omega
    clear h e1;go_enter Tryz.func101,Tryz.ntmps101
    go_wp2_with (first
      |(refine qAg rfl 200 _ _ rfl w.heap.size (hdA zeroHd) rfl rfl _ _ zb.out (Q1q z2u) rfl (z1w _) ?_))
    refine qAc (qCg rfl _ _ w.heap.size 200 _ (0,0) _ rfl (qAn _ _ _ _ _ _ zb.out) qCp rfl (Q1q z2u)) rfl ⟨rfl,?_⟩;exact((mRf _ w).alloc _).setRow (by simp) _
  have e1:Q1k hs n=zeroHd:=by unfold Q1k;rw[qAa h0]
  rw[e1];have b1:decide (n<0)=true:=by simp;omega
  clear h e1;go_enter Tryz.func101,Tryz.ntmps101
  go_wp2_with (first
    |(refine qAg rfl 200 _ _ rfl w.heap.size (hdA zeroHd) rfl rfl _ _ zb.out (Q1q z2u) rfl (z1w _) ?_))
  refine qAc (qCg rfl _ _ w.heap.size 200 _ (0,0) _ rfl (qAn _ _ _ _ _ _ zb.out) qCp rfl (Q1q z2u)) rfl ⟨rfl,?_⟩;exact((mRf _ w).alloc _).setRow (by simp) _
def ldH(v:Value):Sem Value:=Instr.loadAt 200 v
theorem y8w(v:Value):Instr.loadAt 200 v=ldH v:=rfl
def stH(p v:Value):Sem Unit:=Instr.storeAt 200 p v
theorem x73(p v:Value):Instr.storeAt 200 p v=stH p v:=rfl
def Q5a:Array Value->Nat->List Value->Array Value
  |cur,_,[]=>cur
  |cur,o,v::vs=>Q5a (cur.setIfInBounds o v) (o+1) vs
theorem z55:∀(vs:List Value) (cur:Array Value) (o:Nat),(Q5a cur o vs).size=cur.size
  | [],_,_=>rfl
  |v::vs,cur,o=>by rw[Q5a,z55 vs];simp
theorem y0a:∀(vs:List Value) (cur:Array Value) (o j:Nat),o+vs.length<=cur.size->(Q5a cur o vs)[j]? = if o<=j/\j<o+vs.length then vs[j-o]? else cur[j]?
  | [],cur,o,j,h=>by rw[Q5a,qAa (by simp only[qEq];omega)]
  |v::vs,cur,o,j,h=>by
    simp only[qBk]at h;rw[Q5a,y0a vs _ _ _ (by simp;omega)];by_cases h1:o+1<=j/\j<o+1+vs.length
    · rw[qAb h1,qAb (by simp;omega)]
      have:j-o=(j-(o+1))+1:=by omega
      rw[this];simp
    rw[qAa h1,qEx];by_cases h2:o=j
    · subst h2;rw[qAb rfl,qAb (by omega),qAb (by simp)];simp
    rw[qAa h2,qAa (by simp;omega)]
theorem z0q:∀(vs:List Value) (w:World) (g o:Nat) (c:Array Value) (e:TypeId) (f:Nat × Nat),w.heap[g]? = some (.cells c e f)->(w.setCells g o vs).heap[g]? = some (.cells (Q5a c o vs) e f)
  | [],_,_,_,_,_,_,h=>h
  |v::vs,w,g,o,c,e,f,h=>by
    rw[World.setCells,Q5a];exact z0q vs _ g (o+1) _ e f (zhs h o v)
theorem Mod.setCells{S:Nat->Prop}{a:World}{g:Nat}(hp:g<a.heap.size->S g):∀(vs:List Value) (w:World) (o:Nat),Mod S a w->Mod S a (w.setCells g o vs)
  | [],_,_,h=>h
  |v::vs,w,o,h=>Mod.setCells hp vs _ (o+1) (h.setCell (p:=⟨g,o,none⟩) hp v)
theorem x6k{hs:List Hd}{h:Hd}{k:Nat}(hok:∀x∈hs,x.ok)(hh:h.ok)(hk:k<hs.length)(j:Nat) :
    (Q0y Hd.cells (hs.set k h))[j]? = if k*21<=j/\j<k*21+21 then h.cells[j-k*21]? else(Q0y Hd.cells hs)[j]? := by
  have hw:∀x∈hs,x.cells.length=21:=fun x hx=>Hd.cells_len (hok x hx);have j1:∀x∈hs.set k h,x.cells.length=21:=fun x hx=>by
    rcases qFn hx with h1|h1
    · exact hw x h1
    rw[h1];exact Hd.cells_len hh
  have l1:=z25 Hd.cells 21 hw;have l2:=z25 Hd.cells 21 j1;rw[qBr]at l2;by_cases hj:j<hs.length*21
  · have hq:j / 21<hs.length:=by omega
    have hr:j % 21<21:=Nat.mod_lt _ (by omega);have e:j=j / 21*21+j % 21:=by omega
    have a1:=z5w Hd.cells 21 hw (j / 21) (j % 21) hq hr;have a2:=z5w Hd.cells 21 j1 (j / 21) (j % 21) (by simpa using hq) hr;rw[← e]at a1 a2;rw[a1,a2,List.getElem_set];by_cases j0:k=j / 21
    · rw[qAb j0,qAb (by omega)]
      congr 1;omega
    rw[qAa j0,qAa (by omega)]
  rw[qN (by omega),qAa (by omega),qN (by omega)]
variable {w w':World}{b:Nat}{R H:Int}{vp vh:Value}{ps:List PV}{hs:List Hd}
theorem FA.put(h:FA w b R H vp vh ps hs){g n cap:Nat}(hv:vh=.slice (some ⟨g,0,none⟩) n cap){k:Nat}(hk:k<hs.length){x:Hd}(hx:x.ok) :
    FA (w.setCells g (k*21) x.cells) b R H vp vh ps (hs.set k x)/\Mod (fun k=>vh.ownBlock=some k) w (w.setCells g (k*21) x.cells):=by
  have hm:Mod (fun k=>vh.ownBlock=some k) w (w.setCells g (k*21) x.cells):=Mod.setCells (fun _=>by rw[hv];rfl) _ w _ (mRf _ _);have j7:=(h.own.lt g (by rw[hv];rfl));refine⟨⟨?_,?_,?_,?_⟩,hm⟩
  · refine hm.at h.blk ?_
    rw[hv];simp[Value.ownBlock];omega
  · refine h.prs.kept (qFd (z0j h.blk)) hm ?_
    intro k hk;rw[hv];simp[Value.ownBlock];omega
  · obtain⟨h1,h2⟩:=h.own
    rcases h2 with⟨h2,_⟩|⟨g',j1,j2,e1,e2,e3,e4,e5,e6,e7⟩
    · rw[hv]at h2;cases h2
    have j0:=hv.symm.trans e1;rw[qI]at j0;obtain⟨eg,rfl,rfl⟩:=j0;have j3:g=g':=by simpa using eg
    subst j3;have j5:∀y∈hs.set k x,y.cells.length=21:=fun y hy=>by
      rcases qFn hy with h1|h1
      · exact Hd.cells_len (h.ok y h1)
      rw[h1];exact Hd.cells_len hx
    have l2:=z25 Hd.cells 21 j5;have j6:=Hd.cells_len hx;rw[qBr]at l2 ⊢;refine⟨l2,.inr ⟨g,cap,Q5a j2 (k*21) x.cells,e1,e2,z0q _ _ _ _ _ _ _ e3,e4,e5,by rw[z55];exact e6,?_⟩⟩;apply qEd;intro j;rw[x6k h.ok hx hk,← e7];have j4:hs.length*21<=cap*21:=qCr _ e4;by_cases hj:j<hs.length*21
    · rw[qDc hj,qDc hj,qEk,qEk,y0a _ _ _ _ (by omega),j6]
      simp
    rw[qN (by simp;omega),qAa (by omega),qN (by simp;omega)]
  intro y hy;rcases qFn hy with h1|h1
  · exact h.ok y h1
  rw[h1];exact hx
theorem FA.there(h:FA w b R H vp vh ps hs){g n cap:Nat}(hv:vh=.slice (some ⟨g,0,none⟩) n cap){k:Nat}(hk:k<hs.length):w.there g (k*21) 21:=by
  intro j hj;have hr:=h.row;subst hv;have hc:=hr.cell k j hk hj;have j0:=Hd.cells_len (h.ok hs[k] (by simp));refine⟨by rw[hc];simp[j0,hj],?_⟩;obtain⟨_,h2⟩:=h.own;rcases h2 with⟨h2,_⟩|⟨g',j1,j3,e1,e2,e3,_⟩
  · cases h2
  rw[qI]at e1;obtain⟨eg,_,_⟩:=e1;have j2:g=g':=by simpa using eg
  subst j2;exact Q0f e3 _
theorem z9l{w:World}{g o:Nat}{h:Hd}(k:h.ok)(hr:w.rangeAt g o h.cells):(ldH (.pointer (some ⟨g,o,none⟩))).run Tryz.prog w=.ok (.agg (hdA h)) w :=
  qFo w g o _ _ _ hr qCp rfl (szHdL k)
theorem z54(w:World)(h:Hd)(t:TypeId):(w.alloc (.cells (hdA h) t (0,0))).rangeAt w.heap.size 0 h.cells:=fun j v hj=>by
  rw[Q0b (z0a _ _),qBy];simpa [hdA]using hj
theorem Q39(w:World)(n:Nat):Q0a w (w.drewN n):=⟨rfl,rfl,rfl,qR _,fun _ _ _=>rfl⟩
attribute [local go_sem ↓] y8w x73
theorem v2n(w:World)(b:Nat)(R H:Int)(vp vh:Value)(ps:List PV)(hs:List Hd)(k:Nat)(x:Hd)(hx:x.ok)(h:FA w b R H vp vh ps hs)(hk:k<hs.length) :
    Calls Tryz.prog 129 #[Q3c b,.int .i64 k,.agg (hdA x)] w fun e w'=>e=.returned (.bool (!hdEq hs[k] x))/\FA w' b R H vp vh ps (hs.set k x)/\Mod (fun k=>vh.ownBlock=some k) w w':=by
  have hb:=z0j h.blk;obtain⟨g,cap,hv⟩:=Joins.ownsRow_form h.own (by omega);have k3:=h.cell 3;simp at k3;have j0:=h.fresh ((mRf _ w).alloc (.cells (hdA x) 200 (0,0)));subst hv;have j7:(w.alloc (.cells (hdA x) 200 (0,0))).cell? ⟨b,3,none⟩=some (.slice (some ⟨g,0,none⟩) hs.length cap):=by
    rw[Q0b j0.blk 3];rfl
  have l1:∀n,(ldH (.pointer (some ⟨g,k*21,none⟩))).run Tryz.prog ((w.alloc (.cells (hdA x) 200 (0,0))).drewN n)=.ok (.agg (hdA hs[k])) ((w.alloc (.cells (hdA x) 200 (0,0))).drewN n):=fun n =>
    z9l (h.ok hs[k] (by simp)) (z0t (j0.row.range k hk) rfl)
  have l2:∀n,(ldH (.pointer (some ⟨w.heap.size,0,none⟩))).run Tryz.prog ((w.alloc (.cells (hdA x) 200 (0,0))).drewN n)=.ok (.agg (hdA x)) ((w.alloc (.cells (hdA x) 200 (0,0))).drewN n):=fun n =>
    z9l hx (z0t (z54 w x _) rfl)
  have q1:∀w,(Op.equalIn 10000 200 (.agg (hdA hs[k])) (.agg (hdA x))).run Tryz.prog w=.ok (hdEq hs[k] x) w:=fun w=>eqHd 9996 hs[k] x (h.ok hs[k] (by simp)) hx w;have g1:=guardHd;have b1:decide ((k:Int)<0)=false:=by simp
  have b2:decide ((hs.length:Int)<=(k:Int))=false:=by simp;omega
  have b3:decide (hs.length<=k)=false:=by simp;omega
  have b4:(k:Int)<(hs.length:Int):=by omega
  have HF:=hid h;have j2:=hid j0;have HX:=hid hx;have j4:Hid (hdEq hs[k] x=true->hs[k]=x):=hid z8c.1;clear h j0 hx;generalize hdEq hs[k] x=qq at q1 j4;go_enter Tryz.func129,Tryz.ntmps129
  go_wp2_with fail
  go_quiet (fail);cases qq
  · generalize hW:World.drewN _ _=W
    have j5:Q0a w W:=by rw[← hW];exact(mRf _ w).alloc _ |>.trans (Q39 _ _)
    have j1:FA W b R H vp (.slice (some ⟨g,0,none⟩) hs.length cap) ps hs:=by rw[← hW];exact j2.fresh (Q39 _ _)
    have k4:=j1.cell 3;simp at k4;have l3:(ldH (.pointer (some ⟨w.heap.size,0,none⟩))).run Tryz.prog W.drew=.ok (.agg (hdA x)) W.drew:=by
      refine z9l HX.out ?_;rw[← hW];exact z0t (z54 w x _) rfl
    have s1:(stH (.pointer (some ⟨g,k*21,none⟩)) (.agg (hdA x))).run Tryz.prog W.drew=.ok () (W.drew.setCells g (k*21) x.cells) :=
      run_storeAt_mid W.drew g (k*21) _ _ (by rw[z07 HX.out];exact(j1.fresh (Mod.drew (mRf _ W))).there rfl hk) (Q1q HX.out) (z1w x)
    have j3:=hid ((j1.fresh (Mod.drew (mRf _ W))).put rfl hk HX.out);have j6:=hid j5;clear j1 j5 l1 l2 k3 j7 hW;go_wp2;go_region;all_goals
      go_wp2;go_ret;refine⟨rfl,j3.1,?_⟩;exact Mod.trans (j6.mono (fun _ _ x=>x.elim)) (Mod.trans (Mod.drew (mRf _ W)) j3.2)
  go_wp2;go_ret;refine⟨rfl,?_,?_⟩
  · have e:=j4.out trivial
    have e2:hs.set k x=hs:=by rw[← e,List.set_getElem_self]
    rw[e2];exact j2.fresh (Q39 _ _)
  exact((mRf _ w).alloc _).trans (Mod.mono (Q39 _ _) (fun _ _ x=>x.elim))
theorem x4m(w:World)(b:Nat)(R H:Int)(vp vh:Value)(ps:List PV)(hs:List Hd)(n:Int)(x:Hd)(h:FA w b R H vp vh ps hs)(hn:n<0∨(hs.length:Int)<=n) :
    Calls Tryz.prog 129 #[Q3c b,.int .i64 n,.agg (hdA x)] w fun e w'=>e=.returned (.bool false)/\FA w' b R H vp vh ps hs/\Mod (fun k=>vh.ownBlock=some k) w w':=by
  have hb:=z0j h.blk;have j0:=h.fresh ((mRf _ w).alloc (.cells (hdA x) 200 (0,0)));obtain⟨ao,cap,hv⟩:=z0c h.own;subst hv;have k3:=h.cell 3;simp at k3;have j2:(w.alloc (.cells (hdA x) 200 (0,0))).cell? ⟨b,3,none⟩=some (.slice ao hs.length cap):=by
    rw[Q0b j0.blk 3];rfl
  have j1:=hid j0;clear h j0;by_cases h0:n<0
  · have b1:decide (n<0)=true:=by simpa using h0
    clear hn;go_enter Tryz.func129,Tryz.ntmps129
    go_wp2_with fail
    go_quiet (fail);go_wp2;go_ret;exact⟨rfl,j1.fresh (Q39 _ _),((mRf _ w).alloc _).trans (Mod.mono (Q39 _ _) (fun _ _ x=>x.elim))⟩
  have h1:(hs.length:Int)<=n:=by omega
  have b1:decide (n<0)=false:=by simp;omega
  have b2:decide ((hs.length:Int)<=n)=true:=by simpa using h1
  clear hn;go_enter Tryz.func129,Tryz.ntmps129
  go_wp2_with fail
  go_quiet (fail);go_wp2;go_ret;exact⟨rfl,j1.fresh (Q39 _ _),((mRf _ w).alloc _).trans (Mod.mono (Q39 _ _) (fun _ _ x=>x.elim))⟩
theorem y2x(w:World)(b:Nat)(R H:Int)(vp vh:Value)(ps:List PV)(hs:List Hd)(n:Int)(x:Hd)(hx:x.ok)(h:FA w b R H vp vh ps hs) :
    Calls Tryz.prog 129 #[Q3c b,.int .i64 n,.agg (hdA x)] w fun e w'=>e=.returned (.bool (Q67 hs n x))/\FA w' b R H vp vh ps (Q70 hs n x)/\Mod (fun k=>vh.ownBlock=some k) w w':=by
  unfold Q67 Q70;by_cases h0:0<=n
  · rw[qAb h0,qAb h0]
    obtain⟨k,rfl⟩:∃k:Nat,n=k:=⟨n.toNat,by omega⟩;rw[qAo];by_cases hk:k<hs.length
    · rw[qE hk]
      exact v2n w b R H vp vh ps hs k x hx h hk
    rw[qN (by omega),qFs (by omega)];exact x4m w b R H vp vh ps hs k x h (.inr (by omega))
  rw[qAa h0,qAa h0];exact x4m w b R H vp vh ps hs n x h (.inl (by omega))
theorem z0l{P:Program}{fn:Func}{p u:Tmp}{ty:TypeId}(h:fn.results=#[.cell p ty,.tmp u])(tmps:Array Value)(w:World)(g:Nat)(t:TypeId)(cs:Array Value)(fr:Nat × Nat)(d:TypeDesc)
    (hp:tmps.getD p undef=.pointer (some ⟨g,0,none⟩)) (hg:w.heap[g]? = some (.cells cs t fr))
    (hu:P.underlying ty=some d) (hd:(match d with | .struct _ | .array _ _=>true|_=>false)=true) (hi:(P.info? ty).map (·.size)=some cs.size) :
    (results fn tmps).run P w=.ok (.tuple #[.agg cs,tmps.getD u undef]) w:=by
  have j0:tmps[p]?.getD undef=.pointer (some ⟨g,0,none⟩):=by simpa using hp
  simp[results,h,j0,asAddr,run_loadVar_row w g t ty cs fr d hg hu hd hi]
def Q2q(hs:List Hd):List Sy->List Bool->List Bool × Bool
  | [],acc=>(acc,true)
  | s :: l,acc=>if s.isH=false then(Q2h acc s.num,false) else
      if(Q1k hs s.num).nul=false then(orL acc (Q1k hs s.num).fi,false) else Q2q hs l (orL acc (Q1k hs s.num).fi)
theorem z1a{hs:List Hd}(h:∀x∈hs,x.ok):∀(l:List Sy) (acc:List Bool),acc.length=9->(Q2q hs l acc).1.length=9
  | [],acc,ha=>ha
  |s::l,acc,ha=>by
    unfold Q2q;split
    · exact z2t ha
    split
    · exact z04 ha (z0k h _).fi
    exact z1a h l _ (z04 ha (z0k h _).fi)
theorem Q6y{w:World}{g:Nat}{h:Hd}{t:TypeId}(k:h.ok)(hb:w.heap[g]? = some (.cells (hdA h) t (0,0))):w.rangeAt g 3 (bls h.fi):=fun j v hj=>by
  rw[Q0b hb];have j0:=(qS hj).1;simp only[hdA,Hd.cells,qDp];have e:3+j=j+1+1+1:=by omega
  rw[e];simp only[qFu];rw[qAl j0];exact hj
theorem Q4u{w:World}{g:Nat}{h:Hd}{t:TypeId}(k:h.ok)(hb:w.heap[g]? = some (.cells (hdA h) t (0,0))):w.rangeAt g 12 (bls h.fo):=fun j v hj=>by
  rw[Q0b hb];simp only[hdA,Hd.cells,qDp];have e:12+j=j+9+1+1+1:=by omega
  rw[e];simp only[qFu];rw[qAr (by simp[bls,k.fi])];simpa [bls,k.fi]using hj
theorem W0i:(Tryz.prog.info? 93).map (·.size)=some 2:=by kernel_rfl
theorem z6a(w:World)(b:Nat)(R H:Int)(vp vh:Value)(ps:List PV)(hs:List Hd)(B:Nat)(vs:Value)(syms:List Sy)(h:FA w b R H vp vh ps hs)(hB:B<=w.heap.size)(hsy:Q58 w B vs syms) :
    Calls Tryz.prog 64 #[Q3c b,vs] w fun e w'=>e=.returned (.tuple #[.agg (tkA (Q2q hs syms zero9).1),.bool (Q2q hs syms zero9).2])/\Q0a w w':=by
  have HF:=hid h;have jm:=hid h.ok;have jr:=hid hsy;obtain⟨ao,cap,hv,js,jn,j5⟩:=hsy;subst hv;unfold maxLen at jn;have HC:=hid j5;generalize hR:Q2q hs syms zero9=RES;have HR:=hid hR;have jk:Hid (RES.1.length=9):=by unfold Hid;rw[← hR];exact z1a h.ok _ _ rfl
  have hb:=z0j h.blk;clear j5 hR h;go_enter Tryz.func64,Tryz.ntmps64
  go_wp2;go_loopw [8,9,12] (fun x8 x9 x12 wr=>∃(i:Nat) (j6:List Bool),x12=.int .i64 i/\i<=syms.length/\j6.length=9/\Q2q hs (syms.drop i) j6=RES/\Q0a w wr/\wr.heap[w.heap.size]? = some (.cells (tkA zero9) 147 (0,0))/\wr.heap[w.heap.size+1]? = some (.cells (tkA j6) 147 (0,0)))
      (fun _ _ x _=>syms.length+1-(intOf x).toNat)
  case atStart =>
    refine⟨0,zero9,rfl,by omega,rfl,HR.out,((mRf _ w).alloc _).alloc _,qBg _ _ _,qBa _ _ _⟩
  obtain⟨i,j6,rfl,hi,jb,j0,jc,je,jf⟩:=hrel;have jl:=hid (Q19 (B:=syms.length+1) i (by omega));have j9:=hid je;have j8:=hid jf;have HA:=hid jb;have jp:=z0j je;have jq:=z0j jf;have ja:=hid jc;clear je jf jb;by_cases ji:i<syms.length
  · rw[qC ji]at j0
    obtain⟨g,o,rfl,jt,jj⟩:=HC.out i ji;have RG:Hid (wr.rangeAt g (o+i*2) [.bool syms[i].isH,.int .i64 syms[i].num]):=z0t jj (jc.block g (by omega) id);unfold Q2q at j0;generalize syms[i].isH=sh at j0 RG;generalize syms[i].num=sn at j0 RG;have ju:(i:Int)<(syms.length:Int):=by omega
    clear jj jc;cases sh
    · rw[qAb rfl]at j0
      have j2:=hid j0;have jd:=hid (z2t (n:=sn) HA.out);clear j0;go_wp2_with (first
        |(refine qAe rfl 93 _ rfl g (o+i*2) rfl [.bool false,.int .i64 sn] _ RG.out qCf rfl W0i ?_)
        |(refine qAf rfl 147 _ rfl (w.heap.size+1) rfl _ _ _ _ (z0b j8.out) qAk rfl (Q0t HA.out) ?_)
        |(go_at_call 67;refine(y0k _ j6 sn HA.out).mono ?_;rintro e w1⟨rfl,j1⟩)
        |(refine qAg rfl 147 _ _ rfl w.heap.size _ rfl rfl _ _ (j1.at (z0b j9.out) id) (Q0t jd.out) (Q0l rfl (z0u jd.out)) (z1h _) ?_))
      refine qAc (z0l rfl _ _ w.heap.size 147 _ (0,0) _ rfl (qAn _ _ _ _ _ _ (j1.at (z0b j9.out) id)) qAk rfl (Q0t jd.out)) rfl ⟨?_,?_⟩
      · rw[← j2.out];rfl
      exact(Mod.trans (ja.alloc _) j1).setRow (by simp) _
    rw[qAa (by simp)]at j0;have j3:=hid (z0k jm.out sn);have GA:=hid (fun w (h:FA w b R H vp vh ps hs)=>z4l w b R H vp vh ps hs sn h);generalize Q1k hs sn=hd at j0 j3 GA;have j7:=hid (z04 HA.out j3.fi);have jh:=hid ((HF.fresh ja.out).fresh ((mRf _ wr).alloc (.cells #[.bool true,.int .i64 sn] 93 (0,0))));cases hn:hd.nul
    · rw[qAb hn]at j0
      have j2:=hid j0;clear j0;go_wp2_with (first
        |(refine qAe rfl 93 _ rfl g (o+i*2) rfl [.bool true,.int .i64 sn] _ RG.out qCf rfl W0i ?_)
        |(go_at_call 101;refine(GA.out _ jh.out).mono ?_;rintro e w1⟨rfl,j1⟩;have jg:=j1.size)
        |(refine z0e rfl 200 _ _ rfl w1 _ (hdA hd) _ rfl rfl rfl (Q1q j3.out) (Q0l rfl (z07 j3.out)) (z1w _) ?_)
        |(refine qAf rfl 147 _ rfl (w.heap.size+1) rfl _ _ _ _ (z0b (j1.at (z0b j8.out) id)) qAk rfl (Q0t HA.out) ?_)
        |(refine qAe rfl 147 _ rfl w1.heap.size 3 rfl (bls hd.fi) _ (Q6y j3.out (z0a _ _)) qAk rfl (Q5u j3.fi) ?_)
        |(go_at_call 65;refine(z1c _ j6 hd.fi HA.out j3.fi).mono ?_;rintro e w2⟨rfl,j4⟩;have kk:(w2.setRow (w.heap.size+1) (tkA (orL j6 hd.fi))).cell? ⟨w1.heap.size,0,none⟩=some (.bool hd.nul):=(by rw[Q0b (z0p (j4.at (z0a w1 _) id) (by simp at jg;omega)) 0];exact y1e hd);rw[hn]at kk)
        |(refine qAg rfl 147 _ _ rfl (w.heap.size+1) _ rfl rfl _ _ (j4.at (z0b (j1.at (z0b j8.out) id)) id) (Q0t j7.out) (Q0l (z0u HA.out) (z0u j7.out)) (z1h _) ?_)
        |(refine qAf rfl 147 _ rfl (w.heap.size+1) rfl _ _ _ _ (qAn _ _ _ _ _ _ (j4.at (z0b (j1.at (z0b j8.out) id)) id)) qAk rfl (Q0t j7.out) ?_)
        |(refine qAg rfl 147 _ _ rfl w.heap.size _ rfl rfl _ _ (z0p (j4.at (z0b (j1.at (z0b j9.out) id)) id) (by omega)) (Q0t j7.out) (Q0l rfl (z0u j7.out)) (z1h _) ?_))
      refine qAc (z0l rfl _ _ w.heap.size 147 _ (0,0) _ rfl (qAn _ _ _ _ _ _ (z0p (j4.at (z0b (j1.at (z0b j9.out) id)) id) (by omega))) qAk rfl (Q0t j7.out)) rfl ⟨?_,?_⟩
      · rw[← j2.out];rfl
      exact((Mod.trans (Mod.trans (ja.alloc _) j1 |>.alloc _) j4).setRow (by simp) _).setRow (by simp) _
    rw[qAa (by simp[hn])]at j0;have j2:=hid j0;clear j0;go_wp2_with (first
      |(refine qAe rfl 93 _ rfl g (o+i*2) rfl [.bool true,.int .i64 sn] _ RG.out qCf rfl W0i ?_)
      |(go_at_call 101;refine(GA.out _ jh.out).mono ?_;rintro e w1⟨rfl,j1⟩;have jg:=j1.size)
      |(refine z0e rfl 200 _ _ rfl w1 _ (hdA hd) _ rfl rfl rfl (Q1q j3.out) (Q0l rfl (z07 j3.out)) (z1w _) ?_)
      |(refine qAf rfl 147 _ rfl (w.heap.size+1) rfl _ _ _ _ (z0b (j1.at (z0b j8.out) id)) qAk rfl (Q0t HA.out) ?_)
      |(refine qAe rfl 147 _ rfl w1.heap.size 3 rfl (bls hd.fi) _ (Q6y j3.out (z0a _ _)) qAk rfl (Q5u j3.fi) ?_)
      |(go_at_call 65;refine(z1c _ j6 hd.fi HA.out j3.fi).mono ?_;rintro e w2⟨rfl,j4⟩;have kk:(w2.setRow (w.heap.size+1) (tkA (orL j6 hd.fi))).cell? ⟨w1.heap.size,0,none⟩=some (.bool hd.nul):=(by rw[Q0b (z0p (j4.at (z0a w1 _) id) (by simp at jg;omega)) 0];exact y1e hd);rw[hn]at kk)
      |(refine qAg rfl 147 _ _ rfl (w.heap.size+1) _ rfl rfl _ _ (j4.at (z0b (j1.at (z0b j8.out) id)) id) (Q0t j7.out) (Q0l (z0u HA.out) (z0u j7.out)) (z1h _) ?_))
    go_roundw
    case rel =>
      refine⟨i+1,orL j6 hd.fi,by go_num,by omega,j7.out,j2.out,?_,?_,?_⟩
      · exact(Mod.trans (Mod.trans (ja.alloc _) j1 |>.alloc _) j4).setRow (by simp) _
      · exact z0p (j4.at (z0b (j1.at (z0b j9.out) id)) id) (by omega)
      exact qAn _ _ _ _ _ _ (j4.at (z0b (j1.at (z0b j8.out) id)) id)
    exact jl.out
  have jo:i=syms.length:=by omega
  rw[jo,qCy]at j0;unfold Q2q at j0;have j2:=hid j0;have jv:¬(i:Int)<(syms.length:Int):=by omega
  clear j0 jc;go_wp2_with (first
    |(refine qAf rfl 147 _ rfl (w.heap.size+1) rfl _ _ _ _ j8.out qAk rfl (Q0t HA.out) ?_)
    |(refine qAg rfl 147 _ _ rfl w.heap.size _ rfl rfl _ _ j9.out (Q0t HA.out) (Q0l rfl (z0u HA.out)) (z1h _) ?_))
  refine qAc (z0l rfl _ _ w.heap.size 147 _ (0,0) _ rfl (qAn _ _ _ _ _ _ j9.out) qAk rfl (Q0t HA.out)) rfl ⟨?_,?_⟩
  · rw[← j2.out];rfl
  exact ja.setRow (by simp) _
def fruB(hs:List Hd)(s:Sy):Bool:=!s.isH||(Q1k hs s.num).fru
def Q45(hs:List Hd)(l:List Sy):Bool:=l.all (fruB hs)
theorem y99(w:World)(b:Nat)(R H:Int)(vp vh:Value)(ps:List PV)(hs:List Hd)(B:Nat)(vs:Value)(syms:List Sy)(h:FA w b R H vp vh ps hs)(hB:B<=w.heap.size)(hsy:Q58 w B vs syms) :
    Calls Tryz.prog 130 #[Q3c b,vs] w fun e w'=>e=.returned (.bool (Q45 hs syms))/\Q0a w w':=by
  have HF:=hid h;have jb:=hid h.ok;obtain⟨ao,cap,hv,je,jc,j2⟩:=hsy;subst hv;unfold maxLen at jc;have HC:=hid j2;generalize hR:Q45 hs syms=RES;have HR:=hid hR;clear j2 hR h;go_enter Tryz.func130,Tryz.ntmps130
  go_wp2;go_loopw [6,7,10] (fun x6 x7 x10 wr=>∃(i:Nat),x10=.int .i64 i/\i<=syms.length/\Q45 hs (syms.drop i)=RES/\Q0a w wr)
      (fun _ _ x _=>syms.length+1-(intOf x).toNat)
  case atStart=>exact⟨0,rfl,by omega,HR.out,mRf _ w⟩
  obtain⟨i,rfl,hi,j0,j5⟩:=hrel;have j8:=hid (Q19 (B:=syms.length+1) i (by omega));have j3:=hid j5;by_cases j9:i<syms.length
  · rw[qC j9]at j0
    obtain⟨g,o,rfl,jf,ja⟩:=HC.out i j9;have RG:Hid (wr.rangeAt g (o+i*2) [.bool syms[i].isH,.int .i64 syms[i].num]):=z0t ja (j5.block g (by omega) id);unfold Q45 at j0;rw[qDv]at j0;unfold fruB at j0;generalize syms[i].isH=sh at j0 RG;generalize syms[i].num=sn at j0 RG;have jg:(i:Int)<(syms.length:Int):=by omega
    clear ja j5;cases sh
    · simp only[Bool.not_false,Bool.true_or,qBm]at j0
      have j1:=hid j0;clear j0;go_wp2_with (first
        |(refine qAe rfl 93 _ rfl g (o+i*2) rfl [.bool false,.int .i64 sn] _ RG.out qCf rfl W0i ?_))
      go_roundw
      case rel=>exact⟨i+1,by go_num,by omega,j1.out,j3.alloc _⟩
      exact j8.out
    simp only[Bool.not_true,qDj]at j0;have j4:=hid (z0k jb.out sn);have GA:=hid (fun w (h:FA w b R H vp vh ps hs)=>z4l w b R H vp vh ps hs sn h);generalize Q1k hs sn=hd at j0 j4 GA;have j7:=hid ((HF.fresh j3.out).fresh ((mRf _ wr).alloc (.cells #[.bool true,.int .i64 sn] 93 (0,0))));cases hn:hd.fru
    · rw[hn,qDh]at j0
      have j1:=hid j0;clear j0;go_wp2_with (first
        |(refine qAe rfl 93 _ rfl g (o+i*2) rfl [.bool true,.int .i64 sn] _ RG.out qCf rfl W0i ?_)
        |(go_at_call 101;refine(GA.out _ j7.out).mono ?_;rintro e w1⟨rfl,j6⟩;have kk:(w1.alloc (.cells (hdA hd) 200 (0,0))).cell? ⟨w1.heap.size,2,none⟩=some (.bool hd.fru):=(by rw[Q0b (z0a w1 _) 2];exact y4l hd);rw[hn]at kk)
        |(refine z0e rfl 200 _ _ rfl w1 _ (hdA hd) _ rfl rfl rfl (Q1q j4.out) (Q0l rfl (z07 j4.out)) (z1w _) ?_))
      go_ret;exact⟨z0w j1.out,Mod.trans (j3.alloc _) j6 |>.alloc _⟩
    rw[hn,qBm]at j0;have j1:=hid j0;clear j0;go_wp2_with (first
      |(refine qAe rfl 93 _ rfl g (o+i*2) rfl [.bool true,.int .i64 sn] _ RG.out qCf rfl W0i ?_)
      |(go_at_call 101;refine(GA.out _ j7.out).mono ?_;rintro e w1⟨rfl,j6⟩;have kk:(w1.alloc (.cells (hdA hd) 200 (0,0))).cell? ⟨w1.heap.size,2,none⟩=some (.bool hd.fru):=(by rw[Q0b (z0a w1 _) 2];exact y4l hd);rw[hn]at kk)
      |(refine z0e rfl 200 _ _ rfl w1 _ (hdA hd) _ rfl rfl rfl (Q1q j4.out) (Q0l rfl (z07 j4.out)) (z1w _) ?_))
    go_roundw
    case rel=>exact⟨i+1,by go_num,by omega,j1.out,Mod.trans (j3.alloc _) j6 |>.alloc _⟩
    exact j8.out
  have jd:i=syms.length:=by omega
  rw[jd,qCy]at j0;have j1:=hid j0;have jh:¬(i:Int)<(syms.length:Int):=by omega
  clear j0 j5;go_wp2;go_ret;exact⟨by rw[← j1.out];rfl,j3.out⟩
def Q0k(ps:List PV):List Pr:=ps.map PV.pr
def Q3i(hs:List Hd)(p:Pr):List Hd × Bool :=
  let h:=Q1k hs p.head
  let r:=Q2q hs p.syms zero9
  let h':Hd:={h with nul:=h.nul||r.2,fi:=orL h.fi r.1}
  (Q70 hs p.head h',Q67 hs p.head h')
def Q5k:List Pr->List Hd->Bool->List Hd × Bool
  | [],hs,g=>(hs,g)
  |p::l,hs,g=>Q5k l (Q3i hs p).1 (g||(Q3i hs p).2)
def Q4t(hs:List Hd)(p:Pr):List Hd × Bool :=
  let h:=Q1k hs p.head
  let h':Hd:={h with fru:=h.fru||Q45 hs p.syms}
  (Q70 hs p.head h',Q67 hs p.head h')
def Q48:List Pr->List Hd->Bool->List Hd × Bool
  | [],hs,g=>(hs,g)
  |p::l,hs,g=>Q48 l (Q4t hs p).1 (g||(Q4t hs p).2)
theorem y7f{hs:List Hd}(h:∀x∈hs,x.ok)(n:Int){y:Hd}(hy:y.ok):∀x∈Q70 hs n y,x.ok:=by
  intro x hx;unfold Q70 at hx;split at hx
  · rcases qFn hx with h1|h1
    · exact h x h1
    rw[h1];exact hy
  exact h x hx
theorem x7m(hs:List Hd)(n:Int)(y:Hd):(Q70 hs n y).length=hs.length:=by unfold Q70;split<;>simp
theorem W0n:(Tryz.prog.info? 85).map (·.size)=some 2:=by kernel_rfl
variable {w w':World}{b:Nat}{R H:Int}{vp vh:Value}{ps:List PV}{hs:List Hd}
theorem FA.size(h:FA w b R H vp vh ps hs):b<w.heap.size:=z0j h.blk
theorem FA.kept(h:FA w b R H vp vh ps hs){S:Nat->Prop}(hm:Mod S w w')(hS:∀k,S k->w.heap.size<=k):FA w' b R H vp vh ps hs :=
  h.fresh ⟨hm.os,hm.tape,hm.output,hm.size,fun k hk _=>hm.block k hk (fun x=>by have:=hS k x;omega)⟩
end Go.Proofs.YtbdpfmalabgmbaaGreat
