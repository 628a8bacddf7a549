import Derived.Test.YtcpceafmlgaodaaGreatSh1
namespace Go.Proofs.YtcpceafmlgaodaaGreat
open Go.RowKit
set_option maxRecDepth 100000
set_option maxHeartbeats 16000000
set_option linter.unusedVariables false
set_option linter.unusedSimpArgs false
def ldH(v:Value):Sem Value:=Instr.loadAt 179 v
theorem y9g(v:Value):Instr.loadAt 179 v=ldH v:=rfl
def stH(p v:Value):Sem Unit:=Instr.storeAt 179 p v
theorem x56(p v:Value):Instr.storeAt 179 p v=stH p v:=rfl
def Q5a:Array Value->Nat->List Value->Array Value
  |cur,_,[]=>cur
  |cur,o,v::vs=>Q5a(cur.setIfInBounds o v)(o+1)vs
theorem z5w:∀(vs:List Value)(cur:Array Value)(o:Nat),(Q5a cur o vs).size=cur.size
  | [],_,_=>rfl
  |v::vs,cur,o=>by rw[Q5a,z5w vs];simp
theorem z9o:∀(vs:List Value)(cur:Array Value)(o j:Nat),o+vs.length<=cur.size->(Q5a cur o vs)[j]? = if o<=j/\j<o+vs.length then vs[j-o]? else cur[j]?
  | [],cur,o,j,h=>by rw[Q5a,if_neg(by simp only[List.length_nil];omega)]
  |v::vs,cur,o,j,h=>by
    simp only[List.length_cons]at h;rw[Q5a,z9o vs _ _ _(by simp;omega)];by_cases h1:o+1<=j/\j<o+1+vs.length
    · rw[if_pos h1,if_pos(by simp;omega)]
      have:j-o=(j-(o+1))+1:=by omega
      rw[this];simp
    rw[if_neg h1,Array.getElem?_setIfInBounds];by_cases h2:o=j
    · subst h2;rw[if_pos rfl,if_pos(by omega),if_pos(by simp)];simp
    rw[if_neg h2,if_neg(by simp;omega)]
theorem z0p:∀(vs:List Value)(w:World)(g o:Nat)(c:Array Value)(e:TypeId)(f:Nat × Nat),w.heap[g]? = some(.cells c e f)->(w.setCells g o vs).heap[g]? = some(.cells(Q5a c o vs)e f)
  | [],_,_,_,_,_,_,h=>h
  |v::vs,w,g,o,c,e,f,h=>by
    rw[World.setCells,Q5a];exact z0p vs _ g(o+1)_ e f(zhs h o v)
theorem Mod.setCells{S:Nat->Prop}{a:World}{g:Nat}(hp:g<a.heap.size->S g):∀(vs:List Value)(w:World)(o:Nat),Mod S a w->Mod S a(w.setCells g o vs)
  | [],_,_,h=>h
  |v::vs,w,o,h=>Mod.setCells hp vs _(o+1)(h.setCell(p:=⟨g,o,none⟩)hp v)
theorem x58{hs:List Hd}{h:Hd}{k:Nat}(hok:∀x∈hs,x.ok)(hh:h.ok)(hk:k<hs.length)(j:Nat) :
    (Q01 Hd.cells(hs.set k h))[j]? = if k*21<=j/\j<k*21+21 then h.cells[j-k*21]? else(Q01 Hd.cells hs)[j]? := by
  have hw:∀x∈hs,x.cells.length=21:=fun x hx=>Hd.cells_len(hok x hx);have j0:∀x∈hs.set k h,x.cells.length=21:=fun x hx=>by
    rcases List.mem_or_eq_of_mem_set hx with h1|h1
    · exact hw x h1
    rw[h1];exact Hd.cells_len hh
  have l1:=z2y Hd.cells 21 hw;have l2:=z2y Hd.cells 21 j0;rw[List.length_set]at l2;by_cases hj:j<hs.length*21
  · have hq:j / 21<hs.length:=by omega
    have hr:j % 21<21:=Nat.mod_lt _(by omega);have e:j=j / 21*21+j % 21:=by omega
    have a1:=z5y Hd.cells 21 hw(j / 21)(j % 21)hq hr;have a2:=z5y Hd.cells 21 j0(j / 21)(j % 21)(by simpa using hq)hr;rw[← e]at a1 a2;rw[a1,a2,List.getElem_set];by_cases hk2:k=j / 21
    · rw[if_pos hk2,if_pos(by omega)]
      congr 1;omega
    rw[if_neg hk2,if_neg(by omega)]
  rw[qN(by omega),if_neg(by omega),qN(by omega)]
variable{w w':World}{b:Nat}{R H:Int}{vp vh:Value}{ps:List PV}{hs:List Hd}
theorem FA.put(h:FA w b R H vp vh ps hs){g n cap:Nat}(hv:vh=.slice(some⟨g,0,none⟩)n cap){k:Nat}(hk:k<hs.length){x:Hd}(hx:x.ok) :
    FA(w.setCells g(k*21)x.cells)b R H vp vh ps(hs.set k x)/\Mod(fun k=>vh.ownBlock=some k)w(w.setCells g(k*21)x.cells):=by
  have hm:Mod(fun k=>vh.ownBlock=some k)w(w.setCells g(k*21)x.cells):=Mod.setCells(fun _=>by rw[hv];rfl)_ w _(mRf _ _);have j5:=(h.own.lt g(by rw[hv];rfl));refine⟨⟨?_,?_,?_,?_⟩,hm⟩
  · refine hm.at h.blk ?_
    rw[hv];simp[Value.ownBlock];omega
  · refine h.prs.kept(Nat.le_of_lt(z0j h.blk))hm ?_
    intro k hk;rw[hv];simp[Value.ownBlock];omega
  · obtain⟨h1,h2⟩:=h.own
    rcases h2 with⟨h2,_⟩|⟨g',cap',cur,e1,e2,e3,e4,e5,e6,e7⟩
    · rw[hv]at h2;cases h2
    have j0:=hv.symm.trans e1;rw[qI]at j0;obtain⟨eg,rfl,rfl⟩:=j0;have j1:g=g':=by simpa using eg
    subst j1;have j2:∀y∈hs.set k x,y.cells.length=21:=fun y hy=>by
      rcases List.mem_or_eq_of_mem_set hy with h1|h1
      · exact Hd.cells_len(h.ok y h1)
      rw[h1];exact Hd.cells_len hx
    have l2:=z2y Hd.cells 21 j2;have j4:=Hd.cells_len hx;rw[List.length_set]at l2 ⊢;refine⟨l2,.inr⟨g,cap,Q5a cur(k*21)x.cells,e1,e2,z0p _ _ _ _ _ _ _ e3,e4,e5,by rw[z5w];exact e6,?_⟩⟩;apply List.ext_getElem?;intro j;rw[x58 h.ok hx hk,← e7];have j3:hs.length*21<=cap*21:=Nat.mul_le_mul_right _ e4;by_cases hj:j<hs.length*21
    · rw[List.getElem?_take_of_lt hj,List.getElem?_take_of_lt hj,Array.getElem?_toList,Array.getElem?_toList,z9o _ _ _ _(by omega),j4]
      simp
    rw[qN(by simp;omega),if_neg(by omega),qN(by simp;omega)]
  intro y hy;rcases List.mem_or_eq_of_mem_set hy with h1|h1
  · exact h.ok y h1
  rw[h1];exact hx
theorem FA.there(h:FA w b R H vp vh ps hs){g n cap:Nat}(hv:vh=.slice(some⟨g,0,none⟩)n cap){k:Nat}(hk:k<hs.length):w.there g(k*21)21:=by
  intro j hj;have hr:=h.row;subst hv;have hc:=hr.cell k j hk hj;have j0:=Hd.cells_len(h.ok hs[k](by simp));refine⟨by rw[hc];simp[j0,hj],?_⟩;obtain⟨_,h2⟩:=h.own;rcases h2 with⟨h2,_⟩|⟨g',cap',cur,e1,e2,e3,_⟩
  · cases h2
  rw[qI]at e1;obtain⟨eg,_,_⟩:=e1;have j1:g=g':=by simpa using eg
  subst j1;exact Q0h e3 _
theorem z9s{w:World}{g o:Nat}{h:Hd}(k:h.ok)(hr:w.rangeAt g o h.cells):(ldH(.pointer(some⟨g,o,none⟩))).run Tryz.prog w=.ok(.agg(hdA h))w :=
  run_loadAt_mid w g o _ _ _ hr Tryz.underlying179 rfl(szHdL k)
theorem z5x(w:World)(h:Hd)(t:TypeId):(w.alloc(.cells(hdA h)t(0,0))).rangeAt w.heap.size 0 h.cells:=fun j v hj=>by
  rw[Q0b(z0a _ _),Nat.zero_add];simpa [hdA]using hj
theorem Q4b(w:World)(n:Nat):Q0a w(w.drewN n):=⟨rfl,rfl,rfl,qR _,fun _ _ _=>rfl⟩
attribute [local go_sem ↓] y9g x56
theorem v15(w:World)(b:Nat)(R H:Int)(vp vh:Value)(ps:List PV)(hs:List Hd)(k:Nat)(x:Hd)(hx:x.ok)(h:FA w b R H vp vh ps hs)(hk:k<hs.length) :
    Calls Tryz.prog 121#[Q3b b,.int .i64 k,.agg(hdA x)]w fun e w'=>e=.returned(.bool(!hdEq hs[k]x))/\FA w' b R H vp vh ps(hs.set k x)/\Mod(fun k=>vh.ownBlock=some k)w w':=by
  have hb:=z0j h.blk;obtain⟨g,cap,hv⟩:=Q1d.ownsRow_form h.own(by omega);have k3:=h.cell 3;simp at k3;have j0:=h.fresh((mRf _ w).alloc(.cells(hdA x)179(0,0)));subst hv;have j6:(w.alloc(.cells(hdA x)179(0,0))).cell?⟨b,3,none⟩=some(.slice(some⟨g,0,none⟩)hs.length cap):=by
    rw[Q0b j0.blk 3];rfl
  have l1:∀n,(ldH(.pointer(some⟨g,k*21,none⟩))).run Tryz.prog((w.alloc(.cells(hdA x)179(0,0))).drewN n)=.ok(.agg(hdA hs[k]))((w.alloc(.cells(hdA x)179(0,0))).drewN n):=fun n =>
    z9s(h.ok hs[k](by simp))(z0t(j0.row.range k hk)rfl)
  have l2:∀n,(ldH(.pointer(some⟨w.heap.size,0,none⟩))).run Tryz.prog((w.alloc(.cells(hdA x)179(0,0))).drewN n)=.ok(.agg(hdA x))((w.alloc(.cells(hdA x)179(0,0))).drewN n):=fun n =>
    z9s hx(z0t(z5x w x _)rfl)
  have q1:∀w,(Op.equalIn 10000 179(.agg(hdA hs[k]))(.agg(hdA x))).run Tryz.prog w=.ok(hdEq hs[k]x)w:=fun w=>eqHd 9996 hs[k]x(h.ok hs[k](by simp))hx w;have g1:=guardHd;have b1:decide((k:Int)<0)=false:=by simp
  have b2:decide((hs.length:Int)<=(k:Int))=false:=by simp;omega
  have b3:decide(hs.length<=k)=false:=by simp;omega
  have b4:(k:Int)<(hs.length:Int):=by omega
  have HF:=hid h;have j5:=hid j0;have HX:=hid hx;have j3:Hid(hdEq hs[k]x=true->hs[k]=x):=hid z8c.1;clear h j0 hx;generalize hdEq hs[k]x=qq at q1 j3;go_enter Tryz.func121,Tryz.ntmps121
  go_wp2_with fail
  go_quiet(fail);cases qq
  · generalize hW:World.drewN _ _=W
    have j4:Q0a w W:=by rw[← hW];exact(mRf _ w).alloc _ |>.trans(Q4b _ _)
    have j1:FA W b R H vp(.slice(some⟨g,0,none⟩)hs.length cap)ps hs:=by rw[← hW];exact j5.out.fresh(Q4b _ _)
    have k4:=j1.cell 3;simp at k4;have l3:(ldH(.pointer(some⟨w.heap.size,0,none⟩))).run Tryz.prog W.drew=.ok(.agg(hdA x))W.drew:=by
      refine z9s HX.out ?_;rw[← hW];exact z0t(z5x w x _)rfl
    have s1:(stH(.pointer(some⟨g,k*21,none⟩))(.agg(hdA x))).run Tryz.prog W.drew=.ok()(W.drew.setCells g(k*21)x.cells) :=
      run_storeAt_mid W.drew g(k*21)_ _(by rw[z07 HX.out];exact(j1.fresh(Mod.drew(mRf _ W))).there rfl hk)(Q1q HX.out)(z1x x)
    have j2:=hid((j1.fresh(Mod.drew(mRf _ W))).put rfl hk HX.out);have j7:=hid j4;clear j1 j4 l1 l2 k3 j6 hW;go_wp2;go_region;all_goals
      go_wp2;go_ret;refine⟨rfl,j2.out.1,?_⟩;exact Mod.trans(j7.out.mono(fun _ _ x=>x.elim))(Mod.trans(Mod.drew(mRf _ W))j2.out.2)
  go_wp2;go_ret;refine⟨rfl,?_,?_⟩
  · have e:=j3.out trivial
    have e2:hs.set k x=hs:=by rw[← e,List.set_getElem_self]
    rw[e2];exact j5.out.fresh(Q4b _ _)
  exact((mRf _ w).alloc _).trans(Mod.mono(Q4b _ _)(fun _ _ x=>x.elim))
theorem x1w(w:World)(b:Nat)(R H:Int)(vp vh:Value)(ps:List PV)(hs:List Hd)(n:Int)(x:Hd)(h:FA w b R H vp vh ps hs)(hn:n<0∨(hs.length:Int)<=n) :
    Calls Tryz.prog 121#[Q3b b,.int .i64 n,.agg(hdA x)]w fun e w'=>e=.returned(.bool false)/\FA w' b R H vp vh ps hs/\Mod(fun k=>vh.ownBlock=some k)w w':=by
  have hb:=z0j h.blk;have j0:=h.fresh((mRf _ w).alloc(.cells(hdA x)179(0,0)));obtain⟨ao,cap,hv⟩:=z0d h.own;subst hv;have k3:=h.cell 3;simp at k3;have j2:(w.alloc(.cells(hdA x)179(0,0))).cell?⟨b,3,none⟩=some(.slice ao hs.length cap):=by
    rw[Q0b j0.blk 3];rfl
  have j1:=hid j0;clear h j0;by_cases h0:n<0
  · have b1:decide(n<0)=true:=by simpa using h0
    clear hn;go_enter Tryz.func121,Tryz.ntmps121
    go_wp2_with fail
    go_quiet(fail);go_wp2;go_ret;exact⟨rfl,j1.out.fresh(Q4b _ _),((mRf _ w).alloc _).trans(Mod.mono(Q4b _ _)(fun _ _ x=>x.elim))⟩
  have h1:(hs.length:Int)<=n:=by omega
  have b1:decide(n<0)=false:=by simp;omega
  have b2:decide((hs.length:Int)<=n)=true:=by simpa using h1
  clear hn;go_enter Tryz.func121,Tryz.ntmps121
  go_wp2_with fail
  go_quiet(fail);go_wp2;go_ret;exact⟨rfl,j1.out.fresh(Q4b _ _),((mRf _ w).alloc _).trans(Mod.mono(Q4b _ _)(fun _ _ x=>x.elim))⟩
theorem y16(w:World)(b:Nat)(R H:Int)(vp vh:Value)(ps:List PV)(hs:List Hd)(n:Int)(x:Hd)(hx:x.ok)(h:FA w b R H vp vh ps hs) :
    Calls Tryz.prog 121#[Q3b b,.int .i64 n,.agg(hdA x)]w fun e w'=>e=.returned(.bool(Q65 hs n x))/\FA w' b R H vp vh ps(Q7o hs n x)/\Mod(fun k=>vh.ownBlock=some k)w w':=by
  unfold Q65 Q7o;by_cases h0:0<=n
  · rw[if_pos h0,if_pos h0]
    obtain⟨k,rfl⟩:∃k:Nat,n=k:=⟨n.toNat,by omega⟩;rw[Int.toNat_natCast];by_cases hk:k<hs.length
    · rw[qE hk]
      exact v15 w b R H vp vh ps hs k x hx h hk
    rw[qN(by omega),List.set_eq_of_length_le(by omega)];exact x1w w b R H vp vh ps hs k x h(.inr(by omega))
  rw[if_neg h0,if_neg h0];exact x1w w b R H vp vh ps hs n x h(.inl(by omega))
theorem z0m{P:Program}{fn:Func}{p u:Tmp}{ty:TypeId}(h:fn.results=#[.cell p ty,.tmp u])(tmps:Array Value)(w:World)(g:Nat)(t:TypeId)(cs:Array Value)(fr:Nat × Nat)(d:TypeDesc)
    (hp:tmps.getD p undef=.pointer(some⟨g,0,none⟩))(hg:w.heap[g]? = some(.cells cs t fr))
    (hu:P.underlying ty=some d)(hd:(match d with | .struct _ | .array _ _=>true|_=>false)=true)(hi:(P.info? ty).map(·.size)=some cs.size) :
    (results fn tmps).run P w=.ok(.tuple#[.agg cs,tmps.getD u undef])w:=by
  have j0:tmps[p]?.getD undef=.pointer(some⟨g,0,none⟩):=by simpa using hp
  simp[results,h,j0,asAddr,run_loadVar_row w g t ty cs fr d hg hu hd hi]
def Q2u(hs:List Hd):List Sy->List Bool->List Bool × Bool
  | [],acc=>(acc,true)
  | s :: l,acc=>if s.isH=false then(Q2g acc s.num,false)else
      if(Q1l hs s.num).nul=false then(orL acc(Q1l hs s.num).fi,false)else Q2u hs l(orL acc(Q1l hs s.num).fi)
theorem z1a{hs:List Hd}(h:∀x∈hs,x.ok):∀(l:List Sy)(acc:List Bool),acc.length=9->(Q2u hs l acc).1.length=9
  | [],acc,ha=>ha
  |s::l,acc,ha=>by
    unfold Q2u;split
    · exact z2i ha
    split
    · exact z04 ha(z0k h _).fi
    exact z1a h l _(z04 ha(z0k h _).fi)
theorem Q60{w:World}{g:Nat}{h:Hd}{t:TypeId}(k:h.ok)(hb:w.heap[g]? = some(.cells(hdA h)t(0,0))):w.rangeAt g 3(bls h.fi):=fun j v hj=>by
  rw[Q0b hb];have j0:=(qS hj).1;simp only[hdA,Hd.cells,List.getElem?_toArray];have e:3+j=j+1+1+1:=by omega
  rw[e];simp only[List.getElem?_cons_succ];rw[List.getElem?_append_left j0];exact hj
theorem Q4y{w:World}{g:Nat}{h:Hd}{t:TypeId}(k:h.ok)(hb:w.heap[g]? = some(.cells(hdA h)t(0,0))):w.rangeAt g 12(bls h.fo):=fun j v hj=>by
  rw[Q0b hb];simp only[hdA,Hd.cells,List.getElem?_toArray];have e:12+j=j+9+1+1+1:=by omega
  rw[e];simp only[List.getElem?_cons_succ];rw[List.getElem?_append_right(by simp[bls,k.fi])];simpa [bls,k.fi]using hj
theorem W0c:(Tryz.prog.info? 69).map(·.size)=some 2:=by kernel_rfl
theorem z6k(w:World)(b:Nat)(R H:Int)(vp vh:Value)(ps:List PV)(hs:List Hd)(B:Nat)(vs:Value)(syms:List Sy)(h:FA w b R H vp vh ps hs)(hB:B<=w.heap.size)(hsy:Q59 w B vs syms) :
    Calls Tryz.prog 53#[Q3b b,vs]w fun e w'=>e=.returned(.tuple#[.agg(tkA(Q2u hs syms Q0w).1),.bool(Q2u hs syms Q0w).2])/\Q0a w w':=by
  have HF:=hid h;have j9:=hid h.ok;have jf:=hid hsy;obtain⟨ao,cap,hv,hc1,hc2,hcells⟩:=hsy;subst hv;unfold maxLen at hc2;have HC:=hid hcells;generalize hR:Q2u hs syms Q0w=RES;have HR:=hid hR;have jc:Hid(RES.1.length=9):=by unfold Hid;rw[← hR];exact z1a h.ok _ _ rfl
  have hb:=z0j h.blk;clear hcells hR h;go_enter Tryz.func53,Tryz.ntmps53
  go_wp2;go_loopw [8,9,12](fun x8 x9 x12 wr=>∃(i:Nat)(acc:List Bool),x12=.int .i64 i/\i<=syms.length/\acc.length=9/\Q2u hs(syms.drop i)acc=RES/\Q0a w wr/\wr.heap[w.heap.size]? = some(.cells(tkA Q0w)130(0,0))/\wr.heap[w.heap.size+1]? = some(.cells(tkA acc)130(0,0)))
      (fun _ _ x _=>syms.length+1-(intOf x).toNat)
  case atStart =>
    refine⟨0,Q0w,rfl,by omega,rfl,HR.out,((mRf _ w).alloc _).alloc _,heap_alloc2_old _ _ _,heap_alloc2_new _ _ _⟩
  obtain⟨i,acc,rfl,hi,hacc,hres,hfr,hb0,hb1⟩:=hrel;have je:=hid(Q2a(B:=syms.length+1)i(by omega));have j4:=hid hb0;have j3:=hid hb1;have HA:=hid hacc;have jd:=z0j hb0;have jb:=z0j hb1;have j5:=hid hfr;clear hb0 hb1 hacc;by_cases hlt:i<syms.length
  · rw[qC hlt]at hres
    obtain⟨g,o,rfl,hgB,hrg⟩:=HC.out i hlt;have RG:Hid(wr.rangeAt g(o+i*2) [.bool syms[i].isH,.int .i64 syms[i].num]):=z0t hrg(hfr.block g(by omega)(fun x=>x));unfold Q2u at hres;generalize syms[i].isH=sh at hres RG;generalize syms[i].num=sn at hres RG;have jh:(i:Int)<(syms.length:Int):=by omega
    clear hrg hfr;cases sh
    · rw[if_pos rfl]at hres
      have j0:=hid hres;have j7:=hid(z2i(n:=sn)HA.out);clear hres;go_wp2_with(first
        |(refine wpList_load_mid rfl 69 _ rfl g(o+i*2)rfl [.bool false,.int .i64 sn]_ RG.out Tryz.underlying69 rfl W0c ?_)
        |(refine wpList_load_row rfl 130 _ rfl(w.heap.size+1)rfl _ _ _ _(z0b j3.out)Tryz.underlying130 rfl(Q0t HA.out)?_)
        |(go_at_call 56;refine(z8l _ acc sn HA.out).mono ?_;rintro e w1⟨rfl,hf1⟩)
        |(refine wpList_store_row rfl 130 _ _ rfl w.heap.size _ rfl rfl _ _(hf1.at(z0b j4.out)(fun x=>x))(Q0t j7.out)(Q0l rfl(z0u j7.out))(z1e _)?_))
      refine bodyPost_ret(z0m rfl _ _ w.heap.size 130 _(0,0)_ rfl(setRow_heap _ _ _ _ _ _(hf1.at(z0b j4.out)(fun x=>x)))Tryz.underlying130 rfl(Q0t j7.out))rfl⟨?_,?_⟩
      · rw[← j0.out];rfl
      exact(Mod.trans(j5.out.alloc _)hf1).setRow(by simp)_
    rw[if_neg(by simp)]at hres;have j1:=hid(z0k j9.out sn);have GA:=hid(fun w(h:FA w b R H vp vh ps hs)=>z4s w b R H vp vh ps hs sn h);generalize Q1l hs sn=hd at hres j1 GA;have j2:=hid(z04 HA.out j1.out.fi);have j8:=hid((HF.out.fresh j5.out).fresh((mRf _ wr).alloc(.cells#[.bool true,.int .i64 sn]69(0,0))));cases hn:hd.nul
    · rw[if_pos hn]at hres
      have j0:=hid hres;clear hres;go_wp2_with(first
        |(refine wpList_load_mid rfl 69 _ rfl g(o+i*2)rfl [.bool true,.int .i64 sn]_ RG.out Tryz.underlying69 rfl W0c ?_)
        |(go_at_call 84;refine(GA.out _ j8.out).mono ?_;rintro e w1⟨rfl,hf1⟩;have j6:=hf1.size)
        |(refine z0e rfl 179 _ _ rfl w1 _(hdA hd)_ rfl rfl rfl(Q1q j1.out)(Q0l rfl(z07 j1.out))(z1x _)?_)
        |(refine wpList_load_row rfl 130 _ rfl(w.heap.size+1)rfl _ _ _ _(z0b(hf1.at(z0b j3.out)(fun x=>x)))Tryz.underlying130 rfl(Q0t HA.out)?_)
        |(refine wpList_load_mid rfl 130 _ rfl w1.heap.size 3 rfl(bls hd.fi)_(Q60 j1.out(z0a _ _))Tryz.underlying130 rfl(Q5p j1.out.fi)?_)
        |(go_at_call 54;refine(z1b _ acc hd.fi HA.out j1.out.fi).mono ?_;rintro e w2⟨rfl,hf2⟩;have kk:(w2.setRow(w.heap.size+1)(tkA(orL acc hd.fi))).cell?⟨w1.heap.size,0,none⟩=some(.bool hd.nul):=(by rw[Q0b(z0r(hf2.at(z0a w1 _)(fun x=>x))(by simp at j6;omega))0];exact y0s hd);rw[hn]at kk)
        |(refine wpList_store_row rfl 130 _ _ rfl(w.heap.size+1)_ rfl rfl _ _(hf2.at(z0b(hf1.at(z0b j3.out)(fun x=>x)))(fun x=>x))(Q0t j2.out)(Q0l(z0u HA.out)(z0u j2.out))(z1e _)?_)
        |(refine wpList_load_row rfl 130 _ rfl(w.heap.size+1)rfl _ _ _ _(setRow_heap _ _ _ _ _ _(hf2.at(z0b(hf1.at(z0b j3.out)(fun x=>x)))(fun x=>x)))Tryz.underlying130 rfl(Q0t j2.out)?_)
        |(refine wpList_store_row rfl 130 _ _ rfl w.heap.size _ rfl rfl _ _(z0r(hf2.at(z0b(hf1.at(z0b j4.out)(fun x=>x)))(fun x=>x))(by omega))(Q0t j2.out)(Q0l rfl(z0u j2.out))(z1e _)?_))
      refine bodyPost_ret(z0m rfl _ _ w.heap.size 130 _(0,0)_ rfl(setRow_heap _ _ _ _ _ _(z0r(hf2.at(z0b(hf1.at(z0b j4.out)(fun x=>x)))(fun x=>x))(by omega)))Tryz.underlying130 rfl(Q0t j2.out))rfl⟨?_,?_⟩
      · rw[← j0.out];rfl
      exact((Mod.trans(Mod.trans(j5.out.alloc _)hf1 |>.alloc _)hf2).setRow(by simp)_).setRow(by simp)_
    rw[if_neg(by simp[hn])]at hres;have j0:=hid hres;clear hres;go_wp2_with(first
      |(refine wpList_load_mid rfl 69 _ rfl g(o+i*2)rfl [.bool true,.int .i64 sn]_ RG.out Tryz.underlying69 rfl W0c ?_)
      |(go_at_call 84;refine(GA.out _ j8.out).mono ?_;rintro e w1⟨rfl,hf1⟩;have j6:=hf1.size)
      |(refine z0e rfl 179 _ _ rfl w1 _(hdA hd)_ rfl rfl rfl(Q1q j1.out)(Q0l rfl(z07 j1.out))(z1x _)?_)
      |(refine wpList_load_row rfl 130 _ rfl(w.heap.size+1)rfl _ _ _ _(z0b(hf1.at(z0b j3.out)(fun x=>x)))Tryz.underlying130 rfl(Q0t HA.out)?_)
      |(refine wpList_load_mid rfl 130 _ rfl w1.heap.size 3 rfl(bls hd.fi)_(Q60 j1.out(z0a _ _))Tryz.underlying130 rfl(Q5p j1.out.fi)?_)
      |(go_at_call 54;refine(z1b _ acc hd.fi HA.out j1.out.fi).mono ?_;rintro e w2⟨rfl,hf2⟩;have kk:(w2.setRow(w.heap.size+1)(tkA(orL acc hd.fi))).cell?⟨w1.heap.size,0,none⟩=some(.bool hd.nul):=(by rw[Q0b(z0r(hf2.at(z0a w1 _)(fun x=>x))(by simp at j6;omega))0];exact y0s hd);rw[hn]at kk)
      |(refine wpList_store_row rfl 130 _ _ rfl(w.heap.size+1)_ rfl rfl _ _(hf2.at(z0b(hf1.at(z0b j3.out)(fun x=>x)))(fun x=>x))(Q0t j2.out)(Q0l(z0u HA.out)(z0u j2.out))(z1e _)?_))
    go_roundw
    case rel =>
      refine⟨i+1,orL acc hd.fi,by go_num,by omega,j2.out,j0.out,?_,?_,?_⟩
      · exact(Mod.trans(Mod.trans(j5.out.alloc _)hf1 |>.alloc _)hf2).setRow(by simp)_
      · exact z0r(hf2.at(z0b(hf1.at(z0b j4.out)(fun x=>x)))(fun x=>x))(by omega)
      exact setRow_heap _ _ _ _ _ _(hf2.at(z0b(hf1.at(z0b j3.out)(fun x=>x)))(fun x=>x))
    exact je.out
  have ja:i=syms.length:=by omega
  rw[ja,List.drop_length]at hres;unfold Q2u at hres;have j0:=hid hres;have jg:¬(i:Int)<(syms.length:Int):=by omega
  clear hres hfr;go_wp2_with(first
    |(refine wpList_load_row rfl 130 _ rfl(w.heap.size+1)rfl _ _ _ _ j3.out Tryz.underlying130 rfl(Q0t HA.out)?_)
    |(refine wpList_store_row rfl 130 _ _ rfl w.heap.size _ rfl rfl _ _ j4.out(Q0t HA.out)(Q0l rfl(z0u HA.out))(z1e _)?_))
  refine bodyPost_ret(z0m rfl _ _ w.heap.size 130 _(0,0)_ rfl(setRow_heap _ _ _ _ _ _ j4.out)Tryz.underlying130 rfl(Q0t HA.out))rfl⟨?_,?_⟩
  · rw[← j0.out];rfl
  exact j5.out.setRow(by simp)_
def fruB(hs:List Hd)(s:Sy):Bool:=!s.isH||(Q1l hs s.num).fru
def Q43(hs:List Hd)(l:List Sy):Bool:=l.all(fruB hs)
theorem y93(w:World)(b:Nat)(R H:Int)(vp vh:Value)(ps:List PV)(hs:List Hd)(B:Nat)(vs:Value)(syms:List Sy)(h:FA w b R H vp vh ps hs)(hB:B<=w.heap.size)(hsy:Q59 w B vs syms) :
    Calls Tryz.prog 122#[Q3b b,vs]w fun e w'=>e=.returned(.bool(Q43 hs syms))/\Q0a w w':=by
  have HF:=hid h;have j5:=hid h.ok;obtain⟨ao,cap,hv,hc1,hc2,hcells⟩:=hsy;subst hv;unfold maxLen at hc2;have HC:=hid hcells;generalize hR:Q43 hs syms=RES;have HR:=hid hR;clear hcells hR h;go_enter Tryz.func122,Tryz.ntmps122
  go_wp2;go_loopw [6,7,10](fun x6 x7 x10 wr=>∃(i:Nat),x10=.int .i64 i/\i<=syms.length/\Q43 hs(syms.drop i)=RES/\Q0a w wr)
      (fun _ _ x _=>syms.length+1-(intOf x).toNat)
  case atStart=>exact⟨0,rfl,by omega,HR.out,mRf _ w⟩
  obtain⟨i,rfl,hi,hres,hfr⟩:=hrel;have j4:=hid(Q2a(B:=syms.length+1)i(by omega));have j1:=hid hfr;by_cases hlt:i<syms.length
  · rw[qC hlt]at hres
    obtain⟨g,o,rfl,hgB,hrg⟩:=HC.out i hlt;have RG:Hid(wr.rangeAt g(o+i*2) [.bool syms[i].isH,.int .i64 syms[i].num]):=z0t hrg(hfr.block g(by omega)(fun x=>x));unfold Q43 at hres;rw[List.all_cons]at hres;unfold fruB at hres;generalize syms[i].isH=sh at hres RG;generalize syms[i].num=sn at hres RG;have j8:(i:Int)<(syms.length:Int):=by omega
    clear hrg hfr;cases sh
    · simp only[Bool.not_false,Bool.true_or,Bool.true_and]at hres
      have j0:=hid hres;clear hres;go_wp2_with(first
        |(refine wpList_load_mid rfl 69 _ rfl g(o+i*2)rfl [.bool false,.int .i64 sn]_ RG.out Tryz.underlying69 rfl W0c ?_))
      go_roundw
      case rel=>exact⟨i+1,by go_num,by omega,j0.out,j1.out.alloc _⟩
      exact j4.out
    simp only[Bool.not_true,Bool.false_or]at hres;have j2:=hid(z0k j5.out sn);have GA:=hid(fun w(h:FA w b R H vp vh ps hs)=>z4s w b R H vp vh ps hs sn h);generalize Q1l hs sn=hd at hres j2 GA;have j3:=hid((HF.out.fresh j1.out).fresh((mRf _ wr).alloc(.cells#[.bool true,.int .i64 sn]69(0,0))));cases hn:hd.fru
    · rw[hn,Bool.false_and]at hres
      have j0:=hid hres;clear hres;go_wp2_with(first
        |(refine wpList_load_mid rfl 69 _ rfl g(o+i*2)rfl [.bool true,.int .i64 sn]_ RG.out Tryz.underlying69 rfl W0c ?_)
        |(go_at_call 84;refine(GA.out _ j3.out).mono ?_;rintro e w1⟨rfl,hf1⟩;have kk:(w1.alloc(.cells(hdA hd)179(0,0))).cell?⟨w1.heap.size,2,none⟩=some(.bool hd.fru):=(by rw[Q0b(z0a w1 _)2];exact y3v hd);rw[hn]at kk)
        |(refine z0e rfl 179 _ _ rfl w1 _(hdA hd)_ rfl rfl rfl(Q1q j2.out)(Q0l rfl(z07 j2.out))(z1x _)?_))
      go_ret;exact⟨z0s j0.out,Mod.trans(j1.out.alloc _)hf1 |>.alloc _⟩
    rw[hn,Bool.true_and]at hres;have j0:=hid hres;clear hres;go_wp2_with(first
      |(refine wpList_load_mid rfl 69 _ rfl g(o+i*2)rfl [.bool true,.int .i64 sn]_ RG.out Tryz.underlying69 rfl W0c ?_)
      |(go_at_call 84;refine(GA.out _ j3.out).mono ?_;rintro e w1⟨rfl,hf1⟩;have kk:(w1.alloc(.cells(hdA hd)179(0,0))).cell?⟨w1.heap.size,2,none⟩=some(.bool hd.fru):=(by rw[Q0b(z0a w1 _)2];exact y3v hd);rw[hn]at kk)
      |(refine z0e rfl 179 _ _ rfl w1 _(hdA hd)_ rfl rfl rfl(Q1q j2.out)(Q0l rfl(z07 j2.out))(z1x _)?_))
    go_roundw
    case rel=>exact⟨i+1,by go_num,by omega,j0.out,Mod.trans(j1.out.alloc _)hf1 |>.alloc _⟩
    exact j4.out
  have j6:i=syms.length:=by omega
  rw[j6,List.drop_length]at hres;have j0:=hid hres;have j7:¬(i:Int)<(syms.length:Int):=by omega
  clear hres hfr;go_wp2;go_ret;exact⟨by rw[← j0.out];rfl,j1.out⟩
def Q0k(ps:List PV):List Pr:=ps.map PV.pr
def Q3k(hs:List Hd)(p:Pr):List Hd × Bool :=
  let h:=Q1l hs p.head
  let r:=Q2u hs p.syms Q0w
  let h':Hd:={h with nul:=h.nul||r.2,fi:=orL h.fi r.1}
  (Q7o hs p.head h',Q65 hs p.head h')
def Q5h:List Pr->List Hd->Bool->List Hd × Bool
  | [],hs,g=>(hs,g)
  |p::l,hs,g=>Q5h l(Q3k hs p).1(g||(Q3k hs p).2)
def Q4t(hs:List Hd)(p:Pr):List Hd × Bool :=
  let h:=Q1l hs p.head
  let h':Hd:={h with fru:=h.fru||Q43 hs p.syms}
  (Q7o hs p.head h',Q65 hs p.head h')
def Q47:List Pr->List Hd->Bool->List Hd × Bool
  | [],hs,g=>(hs,g)
  |p::l,hs,g=>Q47 l(Q4t hs p).1(g||(Q4t hs p).2)
theorem y57{hs:List Hd}(h:∀x∈hs,x.ok)(n:Int){y:Hd}(hy:y.ok):∀x∈Q7o hs n y,x.ok:=by
  intro x hx;unfold Q7o at hx;split at hx
  · rcases List.mem_or_eq_of_mem_set hx with h1|h1
    · exact h x h1
    rw[h1];exact hy
  exact h x hx
theorem x5y(hs:List Hd)(n:Int)(y:Hd):(Q7o hs n y).length=hs.length:=by unfold Q7o;split<;>simp
theorem W0g:(Tryz.prog.info? 118).map(·.size)=some 2:=by kernel_rfl
variable{w w':World}{b:Nat}{R H:Int}{vp vh:Value}{ps:List PV}{hs:List Hd}
theorem FA.size(h:FA w b R H vp vh ps hs):b<w.heap.size:=z0j h.blk
theorem FA.kept(h:FA w b R H vp vh ps hs){S:Nat->Prop}(hm:Mod S w w')(hS:∀k,S k->w.heap.size<=k):FA w' b R H vp vh ps hs :=
  h.fresh⟨hm.os,hm.tape,hm.output,hm.size,fun k hk _=>hm.block k hk(fun x=>by have:=hS k x;omega)⟩
end Go.Proofs.YtcpceafmlgaodaaGreat
