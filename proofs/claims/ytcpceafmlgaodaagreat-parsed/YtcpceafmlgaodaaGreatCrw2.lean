import Derived.Test.YtcpceafmlgaodaaGreatPrs4
import Derived.Deep.QuietTactic
import Derived.BigQuiet
import Derived.Deep.OwnRows
namespace Go.Proofs.YtcpceafmlgaodaaGreat
open Go.RowKit
set_option maxRecDepth 100000
set_option maxHeartbeats 16000000
set_option linter.unusedVariables false
set_option linter.unusedSimpArgs false
abbrev Q8j(cb:Nat):Value:=.pointer(some⟨cb,0,none⟩)
theorem Q48.facts{w:World}{cb lb ib n:Nat}{l:List Nat}(h:Q48 w cb lb ib n l) :
  (w.cell?⟨cb,0,none⟩=some(.slice(some⟨lb,0,none⟩)n n)/\w.cell?⟨cb,1,none⟩=some(.int .i64 l.length)/\w.cell?⟨cb,2,none⟩=some(.slice(some⟨ib,0,none⟩)n n)) /\
  (∀j,j<n->w.cell?⟨ib,j,none⟩=some(.bool(decide(j∈l)))) /\
  (∀j(hj:j<l.length),w.cell?⟨lb,j,none⟩=some(.int .i64 l[j])) /\
  (∀j,j<n->∃x:Int,w.cell?⟨lb,j,none⟩=some(.int .i64 x)) /\
  (∀o,w.frozen?⟨cb,o,none⟩=false)/\(∀o,w.frozen?⟨lb,o,none⟩=false)/\(∀o,w.frozen?⟨ib,o,none⟩=false):=by
 obtain⟨ls,h1,h2,h3⟩:=h.lst;refine⟨⟨by rw[Q0b h.blk];rfl,by rw[Q0b h.blk];rfl,by rw[Q0b h.blk];rfl⟩,?_,?_,?_,Q0h h.blk,Q0h h3,Q0h h.ins⟩
 ·intro j hj;rw[Q0b h.ins,y1a _ _ _ hj]
 ·intro j hj;have hl:=z4c h.nodup h.lt;rw[Q0b h3,x21 _ _(by omega)];have:(ls.take l.length)[j]? = (l.map Int.ofNat)[j]? := by rw[h2]
  rw[List.getElem?_take_of_lt hj]at this;simp[hj]at this;simp[this]
 intro j hj;exact⟨_,by rw[Q0b h3,x21 _ _(by omega)]⟩
theorem Q48.of_heap{w w':World}{cb lb ib n:Nat}{l:List Nat}(h:Q48 w cb lb ib n l)(e:w'.heap=w.heap):Q48 w' cb lb ib n l:=by
 obtain⟨ls,h1,h2,h3⟩:=h.lst;exact⟨h.nodup,h.lt,by rw[e];exact h.blk,⟨ls,h1,h2,by rw[e];exact h3⟩,by rw[e];exact h.ins,h.d1,h.d2,h.d3⟩
theorem Mod.of_heap{S:Nat->Prop}{a w w':World}(h:Mod S a w)(e:w'.heap=w.heap)(e1:w'.os=w.os)(e2:w'.tape=w.tape)(e3:w'.output=w.output):Mod S a w' :=
 ⟨e1.trans h.os,e2.trans h.tape,e3.trans h.output,by rw[e];exact h.size,fun k hk hs=>by rw[e];exact h.block k hk hs⟩
theorem y5v(w:World)(cb lb ib n:Nat)(l:List Nat)(i:Nat)(h:Q48 w cb lb ib n l)(hn:n<=100000)(hi:i<l.length) :
  Calls Tryz.prog 119#[Q8j cb,.int .i64 i]w fun e w'=>e=.returned(.int .i64 l[i])/\w'=w:=by
 obtain⟨⟨f1,f2,f3⟩,_,f5,_⟩:=h.facts;have f6:=f5 i hi;have hl:=z4c h.nodup h.lt;clear f5 h;have j0:(i:Int)<n:=by omega
 go_enter Tryz.func119,Tryz.ntmps119
 go_wp2;go_ret;exact⟨rfl,rfl⟩
theorem y5w(w:World)(cb lb ib n:Nat)(l:List Nat)(m:Int)(h:Q48 w cb lb ib n l)(hn:n<=100000) :
  Calls Tryz.prog 105#[Q8j cb,.int .i64 m]w fun e w'=>e=.returned(.bool(decide(0<=m/\m<n/\m.toNat∈l)))/\w'=w:=by
 obtain⟨⟨f1,f2,f3⟩,f4,_⟩:=h.facts;by_cases h0:0<=m
 ·by_cases h1:m<n
  ·obtain⟨k,rfl⟩:∃k:Nat,m=k:=⟨m.toNat,by omega⟩;have f6:=f4 k(by omega);clear f4 h;go_enter Tryz.func105,Tryz.ntmps105
   go_wp2;go_ret;exact⟨z0s(by simp;omega),rfl⟩
  clear f4 h;have h2:(n:Int)<=m:=by omega
  go_enter Tryz.func105,Tryz.ntmps105
  go_wp2;go_ret;exact⟨z0s(by simp;omega),rfl⟩
 clear f4 h;have h2:m<0:=by omega
 go_enter Tryz.func105,Tryz.ntmps105
 go_wp2;go_ret;exact⟨z0s(by simp;omega),rfl⟩
theorem x6l(w:World)(cb lb ib n:Nat)(l:List Nat)(m:Nat)(h:Q48 w cb lb ib n l)(hn:n<=100000)(hm:m<n)(hm2:m ∉ l) :
  Calls Tryz.prog 103#[Q8j cb,.int .i64 m]w fun e w'=>e=.returned(.tuple#[])/\Q48 w' cb lb ib n(Q1e n l m)/\Mod(Q14 cb lb ib)w w':=by
 obtain⟨⟨f1,f2,f3⟩,f4,_,f5,z1,z2,z3⟩:=h.facts;have hl:=z7g h.nodup h.lt hm hm2;have f6:=f4 m hm;obtain⟨x,f7⟩:=f5 l.length hl;have hd:decide(m∈l)=false:=by simpa using hm2
 rw[hd]at f6;have H:=hid h;have d1:=h.d1;have d2:=h.d2;have d3:=h.d3;have b1:(m:Int)<(n:Int):=by omega
 have b2:((l.length:Nat):Int)<(n:Int):=by omega
 have b3:decide((m:Int)<0)=false:=by simp
 have b4:decide((n:Int)<=(m:Int))=false:=by simp;omega
 have b5:decide(n<=m)=false:=by simp;omega
 have HM:=hid hm2;clear f4 f5 h hd hm2;go_enter Tryz.func103,Tryz.ntmps103
 go_wp2_with fail
 go_quiet(fail);go_wp2;go_region;all_goals
  go_wp2;refine bodyPost_end(results_none rfl _ _ _)rfl⟨rfl,?_,?_⟩
  ·rw[y9l hm HM.out];exact Q48.of_heap(H.out.entered hm HM.out)rfl
  exact Mod.of_heap((((mRf _ w).setCell(p:=⟨ib,m,none⟩)(fun _=>.inr(.inr rfl))(.bool true)).setCell(p:=⟨lb,l.length,none⟩)(fun _=>.inr(.inl rfl))(.int .i64 m)).setCell(p:=⟨cb,1,none⟩)(fun _=>.inl rfl)(.int .i64(l.length+1)))rfl rfl rfl rfl
theorem x1e(w:World)(cb lb ib n:Nat)(l:List Nat)(m:Int)(h:Q48 w cb lb ib n l)(hm:m<0) :
  Calls Tryz.prog 103#[Q8j cb,.int .i64 m]w fun e w'=>e=.returned(.tuple#[])/\Q48 w' cb lb ib n(Q1e n l m)/\Mod(Q14 cb lb ib)w w':=by
 have e1:Q1e n l m=l:=z9e(by omega);rw[e1];have H:=hid h;have b3:decide(m<0)=true:=by simpa using hm
 clear h e1;go_enter Tryz.func103,Tryz.ntmps103
 go_wp2_with fail
 go_quiet(fail);go_wp2;refine bodyPost_ret(results_none rfl _ _ _)rfl⟨rfl,Q48.of_heap H.out rfl,Mod.of_heap(mRf _ w)rfl rfl rfl rfl⟩
theorem y60(w:World)(cb lb ib n:Nat)(l:List Nat)(m:Int)(h:Q48 w cb lb ib n l)(hn:n<=100000)(h0:0<=m)(hm:(n:Int)<=m) :
  Calls Tryz.prog 103#[Q8j cb,.int .i64 m]w fun e w'=>e=.returned(.tuple#[])/\Q48 w' cb lb ib n(Q1e n l m)/\Mod(Q14 cb lb ib)w w':=by
 have e1:Q1e n l m=l:=z9e(by omega);rw[e1];have H:=hid h;obtain⟨⟨f1,f2,f3⟩,_⟩:=h.facts;have b3:decide(m<0)=false:=by simpa using h0
 have b4:decide((n:Int)<=m)=true:=by simpa using hm
 clear h e1;go_enter Tryz.func103,Tryz.ntmps103
 go_wp2_with fail
 go_quiet(fail);go_wp2;refine bodyPost_ret(results_none rfl _ _ _)rfl⟨rfl,Q48.of_heap H.out rfl,Mod.of_heap(mRf _ w)rfl rfl rfl rfl⟩
theorem x3u(w:World)(cb lb ib n:Nat)(l:List Nat)(m:Nat)(h:Q48 w cb lb ib n l)(hn:n<=100000)(hm:m<n)(hm2:m∈l) :
  Calls Tryz.prog 103#[Q8j cb,.int .i64 m]w fun e w'=>e=.returned(.tuple#[])/\Q48 w' cb lb ib n(Q1e n l m)/\Mod(Q14 cb lb ib)w w':=by
 have e1:Q1e n l m=l:=z9e(by simp[hm2]);rw[e1];have H:=hid h;obtain⟨⟨f1,f2,f3⟩,f4,_⟩:=h.facts;have f6:=f4 m hm;have hd:decide(m∈l)=true:=by simpa using hm2
 rw[hd]at f6;have b1:(m:Int)<(n:Int):=by omega
 have b3:decide((m:Int)<0)=false:=by simp
 have b4:decide((n:Int)<=(m:Int))=false:=by simp;omega
 have b5:decide(n<=m)=false:=by simp;omega
 clear h e1 f4 hm2 hd;go_enter Tryz.func103,Tryz.ntmps103
 go_wp2_with fail
 go_quiet(fail);go_wp2;refine bodyPost_ret(results_none rfl _ _ _)rfl⟨rfl,Q48.of_heap H.out rfl,Mod.of_heap(mRf _ w)rfl rfl rfl rfl⟩
theorem z9l(w:World)(cb lb ib n:Nat)(l:List Nat)(m:Int)(h:Q48 w cb lb ib n l)(hn:n<=100000) :
  Calls Tryz.prog 103#[Q8j cb,.int .i64 m]w fun e w'=>e=.returned(.tuple#[])/\Q48 w' cb lb ib n(Q1e n l m)/\Mod(Q14 cb lb ib)w w':=by
 by_cases h0:m<0
 ·exact x1e w cb lb ib n l m h h0
 by_cases h1:(n:Int)<=m
 ·exact y60 w cb lb ib n l m h hn(by omega)h1
 obtain⟨k,rfl⟩:∃k:Nat,m=k:=⟨m.toNat,by omega⟩;by_cases h2:k∈l
 ·exact x3u w cb lb ib n l k h hn(by omega)h2
 exact x6l w cb lb ib n l k h hn(by omega)h2
theorem y8f(n:Nat):madeCells#[.int .i64 0]n=i64s(List.replicate n 0):=by
 unfold madeCells i64s;apply Array.ext_getElem?;intro i;by_cases h:i<n<;>simp[h,Nat.mod_one]
theorem y34(n:Nat):madeCells#[.bool false]n=Q4d n []:=by
 unfold madeCells Q4d;apply Array.ext_getElem?;intro i;by_cases h:i<n<;>simp[h,Nat.mod_one]
theorem z7m(w:World)(n:Nat)(hn:n<=100000) :
  Calls Tryz.prog 102#[.int .i64 n]w fun e w'=>∃cb lb ib,e=.returned(Q8j cb)/\Q48 w' cb lb ib n []/\Q0a w w'/\(∀k,Q14 cb lb ib k->w.heap.size<=k):=by
 have h1:=fun w=>run_make_row'(P:=Tryz.prog)22 3(.int .i64 0)8 Tryz.underlying22(by kernel_rfl)rfl .i64 .i64 n(by omega)(by omega)w;have h2:=fun w=>run_make_row'(P:=Tryz.prog)90 4(.bool false)1 Tryz.underlying90(by kernel_rfl)rfl .i64 .i64 n(by omega)(by omega)w;go_enter Tryz.func102,Tryz.ntmps102
 go_wp2_with fail
 go_region;all_goals
  go_wp2;go_ret
 ·refine⟨w.heap.size+2,w.heap.size,w.heap.size+1,rfl,⟨by simp,by simp,?_,⟨List.replicate n 0,by simp,by simp,?_⟩,?_,by omega,by omega,by omega⟩,Mod.of_heap((((mRf _ w).alloc _).alloc _).alloc _)rfl rfl rfl rfl,?_⟩
  ·exact z00 _ _ _ _
  ·rw[← y8f];exact z1g _ _ _ _
  ·rw[← y34];exact z06 _ _ _ _
  intro k hk;rcases hk with rfl|rfl|rfl<;>omega
 refine⟨w.heap.size+2,w.heap.size+1,w.heap.size,rfl,⟨by simp,by simp,?_,⟨List.replicate n 0,by simp,by simp,?_⟩,?_,by omega,by omega,by omega⟩,Mod.of_heap((((mRf _ w).alloc _).alloc _).alloc _)rfl rfl rfl rfl,?_⟩
 ·exact z00 _ _ _ _
 ·rw[← y8f];exact z06 _ _ _ _
 ·rw[← y34];exact z1g _ _ _ _
 intro k hk;rcases hk with rfl|rfl|rfl<;>omega
theorem y4z(w:World)(cb lb ib n:Nat)(l:List Nat)(h:Q48 w cb lb ib n l)(hn:n<=100000) :
  Calls Tryz.prog 106#[Q8j cb]w fun e w'=>e=.returned(.tuple#[])/\Q48 w' cb lb ib n []/\Mod(Q14 cb lb ib)w w':=by
 obtain⟨⟨f1,f2,f3⟩,f4,_,f5,z1,z2,z3⟩:=h.facts;have H:=hid h;clear f4 f5 h;go_enter Tryz.func106,Tryz.ntmps106
 go_wp2;go_loopw [8](fun i wr=>∃k:Nat,i=.int .i64 k/\k<=n/\wr.heap[cb]? = w.heap[cb]?/\wr.heap[lb]? = w.heap[lb]? /\
   (∃bs:Array Value,bs.size=n/\wr.heap[ib]? = some(.cells bs 4(0,0))/\∀j,j<k->bs[j]? = some(.bool false))/\Mod(Q14 cb lb ib)w wr)
   (fun i _=>n-(intOf i).toNat)
 case atStart=>exact⟨0,rfl,by omega,rfl,rfl,⟨Q4d n l,by simp[Q4d],H.out.ins,by omega⟩,mRf _ _⟩
 obtain⟨k,rfl,hk,hb,hb2,⟨bs,hbs,hb3,hall⟩,hmod⟩:=hrel;have c1:=Q0b(hb.trans H.out.blk);have c4:=Q0h(hb.trans H.out.blk);by_cases hx:k<n
 ·have c2:wr.cell?⟨ib,k,none⟩=some bs[k]:=by rw[Q0b hb3];simp
  have c3:=Q0h hb3;have HB:=hid hb;have j0:=hid hb2;have j1:=hid hb3;have HA:=hid hall;clear hb hb2 hb3 hall;go_wp2;go_roundw
  case rel =>
   refine⟨k+1,by go_num,by omega,?_,?_,⟨bs.setIfInBounds k(.bool false),by simpa using hbs,zhs j1.out _ _,?_⟩,?_⟩
   ·rw[Proofs.YtcpceafmlgaodaaGreat.heap_setCell_other _(by simpa using H.out.d2)];exact HB.out
   ·rw[Proofs.YtcpceafmlgaodaaGreat.heap_setCell_other _(by simpa using H.out.d3)];exact j0.out
   ·intro j hj;rw[Array.getElem?_setIfInBounds];by_cases e:k=j
    ·rw[if_pos e,if_pos(by omega)]
    rw[if_neg e];exact HA.out j(by omega)
   exact hmod.setCell(fun _=>.inr(.inr rfl))_
  simp[intOf];omega
 have j2:k=n:=by omega
 subst j2;have HB:=hid hb;have j0:=hid hb2;have j1:=hid hb3;have HA:=hid hall;clear hb hb2 hb3 hall;go_wp2;refine bodyPost_end(results_none rfl _ _ _)rfl⟨rfl,?_,hmod.setCell(fun _=>.inl rfl)_⟩;obtain⟨ls,h1,h2,h3⟩:=H.out.lst;refine⟨by simp,by simp,?_,⟨ls,h1,by simp,?_⟩,?_,H.out.d1,H.out.d2,H.out.d3⟩
 ·rw[zhs(HB.out.trans H.out.blk)1 _];simp
 ·exact z0i(j0.out.trans h3)(by simpa using H.out.d1.symm)
 refine z0i ?_(by simpa using H.out.d2.symm);rw[j1.out];have:bs=Q4d k []:=by
  apply Array.ext_getElem?;intro i;by_cases hi:i<k
  ·rw[HA.out i hi,y1a _ _ _ hi];simp
  rw[Array.getElem?_eq_none(by omega),Array.getElem?_eq_none(by simp[Q4d];omega)]
 rw[this]
theorem Q18.cell{w:World}{g n cap:Nat}{ns:List Q0p}(h:Q18 w(.slice(some⟨g,0,none⟩)n cap)ns)(i j:Nat)(hi:i<ns.length)(hj:j<7):w.cell?⟨g,i*7+j,none⟩=(ns[i]).cells[j]? := by
 have j0:j<(ns[i]).cells.length:=by rw[Q0p.cells_len(h.wf _(by simp))];exact hj
 have:=h.own.cells(g:=g)rfl(i*7+j)((ns[i]).cells[j])(by rw[z9a h.wf i j hi hj];simp);rw[Addr.add_mid,Nat.zero_add]at this;rw[this];simp
theorem Q18.reads{w:World}{g n cap:Nat}{ns:List Q0p}(h:Q18 w(.slice(some⟨g,0,none⟩)n cap)ns)(i:Nat)(hi:i<ns.length) :
  w.cell?⟨g,i*7,none⟩=some(.bool(ns[i]).reads)/\w.cell?⟨g,i*7+5,none⟩=some(.int .i64(ns[i]).next)/\w.cell?⟨g,i*7+6,none⟩=some(.int .i64(ns[i]).other):=by
 have hw:=h.wf _(List.getElem_mem hi);refine⟨?_,?_,?_⟩
 ·have:=h.cell i 0 hi(by omega);rw[Q0p.cells_at hw]at this;simpa using this
 ·have:=h.cell i 5 hi(by omega);rw[Q0p.cells_at hw]at this;simpa using this
 have:=h.cell i 6 hi(by omega);rw[Q0p.cells_at hw]at this;simpa using this
def Q27(ns:List Q0p):Nat->Nat->List Nat->List Nat
 |0,_,l=>l
 |f+1,i,l =>
  if h:i<l.length then
   match ns[l[i]]? with
   |some nd=>if nd.reads then Q27 ns f(i+1)l else Q27 ns f(i+1)(Q1e ns.length(Q1e ns.length l nd.next)nd.other)
   |none=>Q27 ns f(i+1)l
  else l
def Q11(ns:List Q0p)(l:List Nat):List Nat:=Q27 ns(ns.length+1)0 l
theorem Q2a{B:Nat}(i:Nat)(h:i<B):B-(intOf(.int .i64((i:Int)+1))).toNat<B-(intOf(.int .i64(i:Int))).toNat:=by
 simp[intOf];omega
theorem y04(n:Nat)(l:List Nat)(m:Int):l.length<=(Q1e n l m).length:=by
 unfold Q1e;split<;>simp
theorem y1q(w:World)(v:Value)(st en:Int)(ns:List Q0p)(cb lb ib:Nat)(l:List Nat)(hN:Q18 w v ns)(hC:Q48 w cb lb ib ns.length l)(hn:ns.length<=100000)(hd:∀k,v.ownBlock=some k->¬Q14 cb lb ib k) :
  Calls Tryz.prog 104#[patV v st en,Q8j cb]w fun e w'=>e=.returned(.tuple#[])/\Q48 w' cb lb ib ns.length(Q11 ns l)/\Mod(Q14 cb lb ib)w w':=by
 have j9:=hid hN;have HD:=hid hd;generalize hR:Q11 ns l=R;have HR:Hid(Q27 ns(ns.length+1)0 l=R):=hR;have jb:=hid hC;have j6:∀k,Q14 cb lb ib k->k<w.heap.size:=fun k hk=>hC.foot_lt hk;have HF:=hid j6;clear hR hN hC hd j6;go_enter Tryz.func104,Tryz.ntmps104
 go_wp2;go_loopw [4](fun x wr=>∃(f i:Nat)(l':List Nat),x=.int .i64 i/\Q27 ns f i l'=R/\i<=l'.length/\ns.length+1<=f+i/\Q48 wr cb lb ib ns.length l'/\Q18 wr v ns /\
   wr.heap[w.heap.size]? = some(.cells#[v,.int .i64 st,.int .i64 en]114(0,0))/\Mod(Q14 cb lb ib)w wr)
   (fun x _=>100001-(intOf x).toNat)
 case atStart =>
  have m1:Mod(Q14 cb lb ib)w(w.alloc(.cells#[v,.int .i64 st,.int .i64 en]114(0,0))):=(mRf _ w).alloc _;have m2:Q0a w(w.alloc(.cells#[v,.int .i64 st,.int .i64 en]114(0,0))):=(mRf _ w).alloc _;exact⟨ns.length+1,0,l,rfl,HR.out,by omega,by omega,jb.out.kept m2(fun _ _ x=>x),j9.out.kept m2(fun _ _ x=>x),z0a _ _,m1⟩
 obtain⟨f,i,l',rfl,hR,hi,hfu,hC,hN,hb,hm⟩:=hrel;have ja:=z4c hC.nodup hC.lt;obtain⟨⟨f1,f2,f3⟩,_⟩:=hC.facts;have HC:=hid hC;have j2:=hid hN;have HB:=hid hb;have HM:=hid hm;have c1:=Q0b hb;clear hC hN hb hm;have j8:=hid(Q2a(B:=100001)i(by omega));by_cases hlt:i<l'.length
 ·obtain⟨f,rfl⟩:∃g,f=g+1:=⟨f-1,by omega⟩;unfold Q27 at hR;rw[dif_pos hlt]at hR;have hx:l'[i]<ns.length:=HC.out.lt _(by simp);obtain⟨g,cap,hv⟩:=Q1d.ownsRow_form j2.out.own(by omega);rw[qE hx]at hR;simp only[]at hR;have MI:=hid(y5v wr cb lb ib ns.length l' i HC.out hn hlt);generalize hm:l'[i]=m at hx hR MI;subst hv;obtain⟨n1,n2,n3⟩:=j2.out.reads m hx;have j5:∀k,Q14 cb lb ib k->k<w.heap.size:=HF.out;cases hrd:ns[m].reads
  ·rw[hrd]at hR n1;simp only[Bool.false_eq_true,if_false]at hR;have j1:=hid hR;have q0:¬Q14 cb lb ib w.heap.size:=fun h=>by have:=j5 _ h;omega
   have Q0:=hid q0;clear hR hm j5 q0;have j3:=HC.out;have j4:=j2.out;have j0:Mod(Q14 cb lb ib)wr wr:=mRf _ _;go_wp2_with(first
    |(go_at_call 119;refine MI.out.mono ?_;rintro e w'⟨rfl,hw⟩;rw[hw];clear hw)
    |(go_at_call 103;refine(z9l _ cb lb ib _ _ _ j3 hn).mono ?_;rintro e w1⟨rfl,hc1,hm1⟩;replace j0:=j0.trans hm1;replace j4:=j4.kept hm1 HD.out;clear j3;have j3:=hc1;clear hc1 hm1;have c2:=Q0b(j0.at HB.out Q0.out);have n4:=(j4.reads m hx).2.2))
   go_roundw
   case rel =>
    have e1:=y04 ns.length l' ns[m].next;have e2:=y04 ns.length(Q1e ns.length l' ns[m].next)ns[m].other;exact⟨f,i+1,_,by go_num,j1.out,by omega,by omega,j3,j4,j0.at HB.out Q0.out,HM.out.trans j0⟩
   exact j8.out
  rw[hrd]at hR n1;simp only[if_true]at hR;have j1:=hid hR;clear hR hm j5;go_wp2_with(first
   |(go_at_call 119;refine MI.out.mono ?_;rintro e w'⟨rfl,hw⟩;rw[hw];clear hw))
  go_roundw
  case rel =>
   exact⟨f,i+1,l',by go_num,j1.out,by omega,by omega,HC.out,j2.out,HB.out,HM.out⟩
  exact j8.out
 have j7:l'=R:=by
  rw[← hR];cases f with
  |zero=>rfl
  |succ f=>unfold Q27;rw[dif_neg hlt]
 have j1:=hid j7;clear hR j7;go_wp2;refine bodyPost_end(results_none rfl _ _ _)rfl⟨rfl,?_,HM.out⟩;rw[← j1.out];exact HC.out
def Q3x(ns:List Q0p)(c:Nat)(acc:List Nat)(m:Nat):List Nat :=
 match ns[m]? with
 |some nd=>if nd.reads&&Q5z nd.set c then Q1e ns.length acc nd.next else acc
 |none=>acc
def Q5d(ns:List Q0p)(c:Nat)(l acc:List Nat):List Nat:=l.foldl(Q3x ns c)acc
theorem y90(ns:List Q0p)(c:Nat)(l acc:List Nat)(i:Nat)(hi:i<l.length):Q5d ns c(l.take(i+1))acc=Q3x ns c(Q5d ns c(l.take i)acc)l[i]:=by
 unfold Q5d;rw[List.take_add_one,List.foldl_append];simp[hi]
theorem Q18.range{w:World}{g n cap:Nat}{ns:List Q0p}(h:Q18 w(.slice(some⟨g,0,none⟩)n cap)ns)(i:Nat)(hi:i<ns.length) :
  w.rangeAt g(i*7+1)((ns[i]).set.map(Value.int .u64)):=by
 intro j v hj;have hw:=h.wf _(List.getElem_mem hi);have j0:j<4:=by have:=(qS hj).1;simp[Q0p.wf]at hw;simpa [hw]using this
 have:=h.cell i(j+1)hi(by omega);have e:i*7+1+j=i*7+(j+1):=by omega
 rw[e,this,Q0p.cells_at hw,if_neg(by omega),if_pos(by omega)];simp at hj;obtain⟨a,ha,rfl⟩:=hj;simp[ha]
theorem x2c(w:World)(v:Value)(st en:Int)(cb cb2:Nat) :
  Calls Tryz.prog 108#[patV v st en,Q8j cb,.int .i64(-1),Q8j cb2]w fun e w'=>e=.returned(.tuple#[])/\Q0a w w':=by
 go_enter Tryz.func108,Tryz.ntmps108
 go_wp2;exact bodyPost_ret(results_none rfl _ _ _)rfl⟨rfl,(mRf _ _).alloc _⟩
theorem x68(w:World)(v:Value)(st en:Int)(ns:List Q0p)(cb lb ib cb2 lb2 ib2:Nat)(l acc:List Nat)(c:Nat)(hc:c<=255)(hN:Q18 w v ns)(hC:Q48 w cb lb ib ns.length l)(hC2:Q48 w cb2 lb2 ib2 ns.length acc)(hn:ns.length<=100000)
  (hd:∀k,v.ownBlock=some k->¬Q14 cb2 lb2 ib2 k)(hd2:∀k,Q14 cb lb ib k->¬Q14 cb2 lb2 ib2 k) :
  Calls Tryz.prog 108#[patV v st en,Q8j cb,.int .i64 c,Q8j cb2]w fun e w'=>e=.returned(.tuple#[])/\Q48 w' cb2 lb2 ib2 ns.length(Q5d ns c l acc)/\Mod(Q14 cb2 lb2 ib2)w w':=by
 have j9:=hid hN;have HD:=hid hd;have jc:=hid hd2;have jb:=hid hC;have j5:=hid hC2;have j7:∀k,Q14 cb2 lb2 ib2 k->k<w.heap.size:=fun k hk=>hC2.foot_lt hk;have Q0:=hid(show ¬Q14 cb2 lb2 ib2 w.heap.size from fun h=>by have:=j7 _ h;omega);have ja:=z4c hC.nodup hC.lt;have jd:((c:Int)==-1)=false:=by simp
 clear hN hC hC2 hd hd2 j7;go_enter Tryz.func108,Tryz.ntmps108
 go_wp2;go_loopw [8](fun x wr=>∃(i:Nat),x=.int .i64 i/\i<=l.length/\Q48 wr cb lb ib ns.length l/\Q48 wr cb2 lb2 ib2 ns.length(Q5d ns c(l.take i)acc)/\Q18 wr v ns /\
   wr.heap[w.heap.size]? = some(.cells#[v,.int .i64 st,.int .i64 en]114(0,0))/\Mod(Q14 cb2 lb2 ib2)w wr)
   (fun x _=>100001-(intOf x).toNat)
 case atStart =>
  have m1:Mod(Q14 cb2 lb2 ib2)w(w.alloc(.cells#[v,.int .i64 st,.int .i64 en]114(0,0))):=(mRf _ w).alloc _;have m2:Q0a w(w.alloc(.cells#[v,.int .i64 st,.int .i64 en]114(0,0))):=(mRf _ w).alloc _;exact⟨0,rfl,by omega,jb.out.kept m2(fun _ _ x=>x),j5.out.kept m2(fun _ _ x=>x),j9.out.kept m2(fun _ _ x=>x),z0a _ _,m1⟩
 obtain⟨i,rfl,hi,hC,hC2,hN,hb,hm⟩:=hrel;obtain⟨⟨f1,f2,f3⟩,_⟩:=hC.facts;have HC:=hid hC;have j2:=hid hC2;have j0:=hid hN;have HB:=hid hb;have HM:=hid hm;have c1:=Q0b hb;clear hC hC2 hN hb hm;have j6:=hid(Q2a(B:=100001)i(by omega));by_cases hlt:i<l.length
 ·have hx:l[i]<ns.length:=HC.out.lt _(by simp);obtain⟨g,cap,hv⟩:=Q1d.ownsRow_form j0.out.own(by omega);have j3:=hid(y90 ns c l acc i hlt);have MI:=hid(y5v wr cb lb ib ns.length l i HC.out hn hlt);generalize hm:l[i]=m at hx j3 MI;subst hv;obtain⟨n1,n2,n3⟩:=j0.out.reads m hx;have RG:=hid(j0.out.range m hx);have j4:=hid(j0.out.wf _(List.getElem_mem hx));have SZ:Hid((Tryz.prog.info? 204).map(·.size)=some(((ns[m]).set.map(Value.int .u64)).length)):=by
   have:=j4.out;unfold Q0p.wf at this;unfold Hid;rw[List.length_map,this];exact Q80
  clear hm;cases hrd:ns[m].reads
  ·rw[hrd]at n1;have j1:Hid(Q5d ns c(l.take(i+1))acc=Q5d ns c(l.take i)acc):=by
    unfold Hid;rw[j3.out];unfold Q3x;rw[qE hx];simp[hrd]
   go_wp2_with(first
    |(go_at_call 119;refine MI.out.mono ?_;rintro e w'⟨rfl,hw⟩;rw[hw];clear hw))
   go_roundw
   case rel =>
    exact⟨i+1,by go_num,by omega,HC.out,by rw[j1.out];exact j2.out,j0.out,HB.out,HM.out⟩
   exact j6.out
  rw[hrd]at n1;cases hhas:Q5z ns[m].set c
  ·have j1:Hid(Q5d ns c(l.take(i+1))acc=Q5d ns c(l.take i)acc):=by
    unfold Hid;rw[j3.out];unfold Q3x;rw[qE hx];simp[hhas]
   go_wp2_with(first
    |(go_at_call 119;refine MI.out.mono ?_;rintro e w'⟨rfl,hw⟩;rw[hw];clear hw)
    |(go_at_call 120;refine(x4k ns[m].set c _ j4.out hc).mono ?_;rw[hhas];rintro e w1⟨rfl,hf⟩)
    |(refine wpList_load_mid rfl 204 _ rfl g(m*7+1)rfl((ns[m]).set.map(Value.int .u64))_ RG.out Tryz.underlying204 rfl SZ.out ?_))
   go_roundw
   case rel =>
    exact⟨i+1,by go_num,by omega,HC.out.kept hf(fun _ _ x=>x),by rw[j1.out];exact j2.out.kept hf(fun _ _ x=>x),j0.out.kept hf(fun _ _ x=>x),hf.at HB.out(fun x=>x),HM.out.trans(hf.mono(fun _ _ x=>x.elim))⟩
   exact j6.out
  have j1:Hid(Q5d ns c(l.take(i+1))acc=Q1e ns.length(Q5d ns c(l.take i)acc)ns[m].next):=by
   unfold Hid;rw[j3.out];unfold Q3x;rw[qE hx];simp[hhas,hrd]
  go_wp2_with(first
   |(go_at_call 119;refine MI.out.mono ?_;rintro e w'⟨rfl,hw⟩;rw[hw];clear hw)
   |(go_at_call 120;refine(x4k ns[m].set c _ j4.out hc).mono ?_;rw[hhas];rintro e w1⟨rfl,hf⟩;have c2:=Q0b(hf.at HB.out(fun x=>x));have n4:=((j0.out.kept hf(fun _ _ x=>x)).reads m hx).2.1)
   |(go_at_call 103;refine(z9l w1 cb2 lb2 ib2 _ _ _(j2.out.kept hf(fun _ _ x=>x))hn).mono ?_;rintro e w2⟨rfl,hc2,hm2⟩)
   |(refine wpList_load_mid rfl 204 _ rfl g(m*7+1)rfl((ns[m]).set.map(Value.int .u64))_ RG.out Tryz.underlying204 rfl SZ.out ?_))
  go_roundw
  case rel =>
   exact⟨i+1,by go_num,by omega,(HC.out.kept hf(fun _ _ x=>x)).kept hm2 jc.out,by rw[j1.out];exact hc2,(j0.out.kept hf(fun _ _ x=>x)).kept hm2 HD.out,hm2.at(hf.at HB.out(fun x=>x))Q0.out,(HM.out.trans(hf.mono(fun _ _ x=>x.elim))).trans hm2⟩
  exact j6.out
 have j8:i=l.length:=by omega
 subst j8;go_wp2;refine bodyPost_end(results_none rfl _ _ _)rfl⟨rfl,?_,HM.out⟩;have:=j2.out;rw[List.take_length]at this;exact this
def Q7d(n:Nat)(t:List Nat)(en:Int):Bool:=decide(0<=en/\en<n/\en.toNat∈t)
def Q58(ns:List Q0p)(s:ByteArray)(i:Nat)(t:List Nat):List Nat:=if h:i<s.size then Q5d ns s[i].toNat t []else []
def runL(ns:List Q0p)(en:Int)(s:ByteArray):Nat->Nat->List Nat->Int->Int
 |0,_,_,best=>best
 |f+1,i,l,best =>
  if i<=s.size/\0<l.length then runL ns en s f(i+1)(Q58 ns s i(Q11 ns l))(if Q7d ns.length(Q11 ns l)en then i else best)
  else best
def Q8h(ns:List Q0p)(st en:Int)(s:ByteArray)(i:Nat):Int:=runL ns en s(s.size+2)i(Q1e ns.length []st)(-1)
theorem Q0a.step{w wr w1:World}{S:Nat->Prop}(h:Q0a w wr)(hm:Mod S wr w1)(hS:∀k,S k->w.heap.size<=k):Q0a w w1 :=
 Mod.trans'(S:=fun _=>False)h hm(fun i hi hs=>absurd(hS i hs)(by omega))
theorem y63(w:World)(v:Value)(st en:Int)(ns:List Q0p)(s:ByteArray)(i0:Nat)(hN:Q18 w v ns)(hn:ns.length<=100000)(hs:s.size<=1000)(hi:i0<=2000) :
  Calls Tryz.prog 80#[patV v st en,.string s,.int .i64 i0]w fun e w'=>e=.returned(.int .i64(Q8h ns st en s i0))/\Q0a w w':=by
 have jv:=hid hN;generalize hR:Q8h ns st en s i0=R;have HR:Hid(runL ns en s(s.size+2)i0(Q1e ns.length []st)(-1)=R):=hR;have jo:∀k,v.ownBlock=some k->k<w.heap.size:=fun k hk=>(hN.own.lt k hk).2;have jj:=hid jo;obtain⟨ao,cap,hv⟩:=z0d hN.own;subst hv;clear hR hN jo;go_enter Tryz.func80,Tryz.ntmps80
 have js:Q0a w(w.alloc(.cells#[.slice ao ns.length cap,.int .i64 st,.int .i64 en]114(0,0))):=(mRf _ w).alloc _;have jp:=hid(z0a w(.cells#[.slice ao ns.length cap,.int .i64 st,.int .i64 en]114(0,0)));go_wp2_with(first
  |(go_at_call 102;refine(z7m _ ns.length hn).mono ?_;rintro e w1⟨c1,l1,b1,rfl,hC1,hF1,hk1⟩;have k1:=Q0b(hF1.at jp.out(fun x=>x))))
 have ji:=hid(hF1.at jp.out(fun x=>x));clear k1;go_wp2_with(first
  |(go_at_call 102;refine(z7m w1 ns.length hn).mono ?_;rintro e w2⟨c2,l2,b2,rfl,hC2,hF2,hk2⟩;have k1:=Q0b(hF2.at ji.out(fun x=>x))))
 clear k1;have jh:=hid(hF2.at ji.out(fun x=>x));have j7:=hC1.kept hF2(fun _ _ x=>x);have q1:∀k,Q14 c1 l1 b1 k->w.heap.size<k:=fun k hk=>by have:=hk1 k hk;simp at this;omega
 have q2:∀k,Q14 c2 l2 b2 k->w1.heap.size<=k:=hk2;have z1:w.heap.size<w1.heap.size:=by have:=hF1.size;simp at this;omega
 have je:∀k,Q14 c1 l1 b1 k->¬Q14 c2 l2 b2 k:=fun k hk h2=>by have:=hC1.foot_lt hk;have:=q2 k h2;omega
 have jn:Q0a w w2:=(js.trans hF1).trans hF2;have k1:=Q0b jh.out;go_wp2_with(first
  |(go_at_call 103;refine(z9l w2 c1 l1 b1 _ _ _ j7 hn).mono ?_;rintro e w3⟨rfl,hC3,hm3⟩))
 have jk:=hm3.at jh.out(fun h=>by have:=q1 _ h;omega);have jl:=Q0a.step jn hm3(fun k hk=>by have:=q1 k hk;omega);have ja:=hC2.kept hm3(fun k hk h1=>je k h1 hk);clear k1 hC1 j7 hC2 hF1 hF2 hk1 hk2 hm3 js;have ST:Hid(∃(f i:Nat)(l acc:List Nat)(best:Int)(ca la ia cb lb ib:Nat),
   (Value.int .i64(-1)=.int .i64 best/\Q8j c1=Q8j ca/\Q8j c2=Q8j cb/\Value.int .i64 i0=.int .i64 i)/\runL ns en s f i l best=R/\s.size+2<=f+i/\i<=3000 /\
   Q48 w3 ca la ia ns.length l/\Q48 w3 cb lb ib ns.length acc/\(∀k,Q14 ca la ia k->w.heap.size<k)/\(∀k,Q14 cb lb ib k->w.heap.size<k)/\(∀k,Q14 ca la ia k->¬Q14 cb lb ib k) /\
   w3.heap[w.heap.size]? = some(.cells#[.slice ao ns.length cap,.int .i64 st,.int .i64 en]114(0,0))/\Q0a w w3) :=
  ⟨s.size+2,i0,_,_,-1,c1,l1,b1,c2,l2,b2,⟨rfl,rfl,rfl,rfl⟩,HR.out,by omega,by omega,hC3,ja,q1,fun k hk=>by have:=q2 k hk;omega,je,jk,jl⟩
 clear hC3 ja q1 q2 je jk jl jn z1;go_loopw [7,8,9,10](fun x7 x8 x9 x10 wr=>∃(f i:Nat)(l acc:List Nat)(best:Int)(ca la ia cb lb ib:Nat),
   (x7=.int .i64 best/\x8=Q8j ca/\x9=Q8j cb/\x10=.int .i64 i)/\runL ns en s f i l best=R/\s.size+2<=f+i/\i<=3000 /\
   Q48 wr ca la ia ns.length l/\Q48 wr cb lb ib ns.length acc/\(∀k,Q14 ca la ia k->w.heap.size<k)/\(∀k,Q14 cb lb ib k->w.heap.size<k)/\(∀k,Q14 ca la ia k->¬Q14 cb lb ib k) /\
   wr.heap[w.heap.size]? = some(.cells#[.slice ao ns.length cap,.int .i64 st,.int .i64 en]114(0,0))/\Q0a w wr)
   (fun _ _ _ x _=>3001-(intOf x).toNat)
 case atStart=>exact ST.out
 obtain⟨f,i,l,acc,best,ca,la,ia,cb,lb,ib,⟨rfl,rfl,rfl,rfl⟩,hR,hfu,hi3,hA,hB,qa,qb,qab,hbox,hfr⟩:=hrel;obtain⟨⟨a1,a2,a3⟩,_⟩:=hA.facts;have jw:=hid(jv.out.kept hfr(fun _ _ x=>x));have HA:=hid hA;have jx:=hid hB;have QA:=hid qa;have QB:=hid qb;have j8:=hid qab;have jr:=hid hbox;have jf:=hid hfr;clear hA hB qa qb qab hbox hfr ST;by_cases hgo:i<=s.size/\0<l.length
 ·obtain⟨hle,hpos⟩:=hgo;obtain⟨f,rfl⟩:∃g,f=g+1:=⟨f-1,by omega⟩;unfold runL at hR;rw[if_pos⟨hle,hpos⟩]at hR;have jq:=hid(Q2a(B:=3001)i(by omega));have ju:(0:Int)<(l.length:Int):=by omega
  have jb:Hid(∀k,(Value.slice ao ns.length cap).ownBlock=some k->¬Q14 ca la ia k):=fun k hk h=>by have:=jj.out k hk;have:=QA.out k h;omega
  have jd:Hid(∀k,(Value.slice ao ns.length cap).ownBlock=some k->¬Q14 cb lb ib k):=fun k hk h=>by have:=jj.out k hk;have:=QB.out k h;omega
  have nA:Hid(¬Q14 ca la ia w.heap.size):=fun h=>by have:=QA.out _ h;omega
  have nB:Hid(¬Q14 cb lb ib w.heap.size):=fun h=>by have:=QB.out _ h;omega
  have qA:Hid(∀k,Q14 ca la ia k->w.heap.size<=k):=fun k hk=>by have:=QA.out k hk;omega
  have qB:Hid(∀k,Q14 cb lb ib k->w.heap.size<=k):=fun k hk=>by have:=QB.out k hk;omega
  have jc:Hid(∀k,Q14 cb lb ib k->¬Q14 ca la ia k):=fun k h1 h2=>j8.out k h2 h1;have j2:=HA.out;have j3:=jx.out;have j4:=jw.out;have j1:=jf.out;have k1:=Q0b jr.out;have j0:=jr;by_cases hlt:i<s.size
  ·have j5:atB s(i:Int)=((s[i].toNat:Nat):Int):=by simp[atB,hlt]
   have jt:s[i].toNat<=255:=by have:=s[i].toNat_lt;omega
   have j9:Q58 ns s i(Q11 ns l)=Q5d ns s[i].toNat(Q11 ns l) []:=by unfold Q58;rw[dif_pos hlt]
   rw[j9]at hR;generalize s[i].toNat=cN at j5 jt hR;have jg:=hid j5
   cases hh:Q7d ns.length(Q11 ns l)en;all_goals
    rw[hh]at hR;have j6:=hid hR;have HH:Hid(decide(0<=en/\en<(ns.length:Int)/\en.toNat∈Q11 ns l)=_):=hh;clear hR hh j9 j5
    go_wp2_with(first
     |(go_at_call 104;refine(y1q _ _ _ _ ns ca la ia l j4 j2 hn jb.out).mono ?_;rintro e w1⟨rfl,hA1,hm1⟩;replace j2:=hA1;replace j3:=j3.kept hm1 jc.out;replace j4:=j4.kept hm1 jb.out;replace j1:=Q0a.step j1 hm1 qA.out;replace j0:=hid(hm1.at j0.out nA.out);clear k1;have k1:=Q0b j0.out;clear hm1)
     |(go_at_call 105;refine(y5w _ ca la ia ns.length _ en j2 hn).mono ?_;rw[HH.out];rintro e w'⟨rfl,hw⟩;rw[hw];clear hw)
     |(go_at_call 106;refine(y4z _ cb lb ib _ _ j3 hn).mono ?_;rintro e w1⟨rfl,hB1,hm1⟩;replace j3:=hB1;replace j2:=j2.kept hm1 j8.out;replace j4:=j4.kept hm1 jd.out;replace j1:=Q0a.step j1 hm1 qB.out;replace j0:=hid(hm1.at j0.out nB.out);clear k1;have k1:=Q0b j0.out;clear hm1)
     |(go_at_call 107;refine(z0v _ _ _(by unfold maxLen;omega)).mono ?_;rw[jg.out];rintro e w'⟨rfl,hw⟩;rw[hw];clear hw)
     |(go_at_call 108;refine(x68 _ _ _ _ ns ca la ia cb lb ib _ _ cN jt j4 j2 j3 hn jd.out j8.out).mono ?_;rintro e w1⟨rfl,hB1,hm1⟩;replace j3:=hB1;replace j2:=j2.kept hm1 j8.out;replace j1:=Q0a.step j1 hm1 qB.out;replace j0:=hid(hm1.at j0.out nB.out);clear k1 hm1))
    go_roundw
    case rel=>exact⟨f,i+1,_,_,_,cb,lb,ib,ca,la,ia,⟨rfl,rfl,rfl,by go_num⟩,j6.out,by omega,by omega,j3,j2,QB.out,QA.out,jc.out,j0.out,j1⟩
    exact jq.out
  have j5:atB s(i:Int)=-1:=by simp[atB,hlt]
  have j9:Q58 ns s i(Q11 ns l)=[]:=by unfold Q58;rw[dif_neg hlt]
  rw[j9]at hR;have jg:=hid j5
  cases hh:Q7d ns.length(Q11 ns l)en;all_goals
   rw[hh]at hR;have j6:=hid hR;have HH:Hid(decide(0<=en/\en<(ns.length:Int)/\en.toNat∈Q11 ns l)=_):=hh;clear hR hh j9 j5
   go_wp2_with(first
    |(go_at_call 104;refine(y1q _ _ _ _ ns ca la ia l j4 j2 hn jb.out).mono ?_;rintro e w1⟨rfl,hA1,hm1⟩;replace j2:=hA1;replace j3:=j3.kept hm1 jc.out;replace j4:=j4.kept hm1 jb.out;replace j1:=Q0a.step j1 hm1 qA.out;replace j0:=hid(hm1.at j0.out nA.out);clear k1;have k1:=Q0b j0.out;clear hm1)
    |(go_at_call 105;refine(y5w _ ca la ia ns.length _ en j2 hn).mono ?_;rw[HH.out];rintro e w'⟨rfl,hw⟩;rw[hw];clear hw)
    |(go_at_call 106;refine(y4z _ cb lb ib _ _ j3 hn).mono ?_;rintro e w1⟨rfl,hB1,hm1⟩;replace j3:=hB1;replace j2:=j2.kept hm1 j8.out;replace j4:=j4.kept hm1 jd.out;replace j1:=Q0a.step j1 hm1 qB.out;replace j0:=hid(hm1.at j0.out nB.out);clear k1;have k1:=Q0b j0.out;clear hm1)
    |(go_at_call 107;refine(z0v _ _ _(by unfold maxLen;omega)).mono ?_;rw[jg.out];rintro e w'⟨rfl,hw⟩;rw[hw];clear hw)
    |(go_at_call 108;refine(x2c _ _ _ _ _ _).mono ?_;rintro e w1⟨rfl,hm1⟩;replace j3:=j3.kept hm1(fun _ _ x=>x);replace j2:=j2.kept hm1(fun _ _ x=>x);replace j1:=j1.trans hm1;replace j0:=hid(hm1.at j0.out(fun x=>x));clear k1 hm1))
   go_roundw
   case rel=>exact⟨f,i+1,_,_,_,cb,lb,ib,ca,la,ia,⟨rfl,rfl,rfl,by go_num⟩,j6.out,by omega,by omega,j3,j2,QB.out,QA.out,jc.out,j0.out,j1⟩
   exact jq.out
 have jm:best=R:=by
  rw[← hR];cases f with
  |zero=>rfl
  |succ f=>unfold runL;rw[if_neg hgo]
 have j6:=hid jm;clear hR jm;by_cases h1:i<=s.size
 ·have h2:l.length=0:=by omega
  rw[h2]at a2;go_wp2;go_ret;exact⟨z1h j6.out,jf.out⟩
 go_wp2;go_ret;exact⟨z1h j6.out,jf.out⟩
end Go.Proofs.YtcpceafmlgaodaaGreat
