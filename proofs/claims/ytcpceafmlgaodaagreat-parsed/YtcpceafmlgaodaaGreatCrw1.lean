import Derived.Test.YtcpceafmlgaodaaGreatPrs1
import Derived.Deep.QuietTactic
import Derived.BigQuiet
import Derived.Deep.OwnRows
namespace Go.Proofs.YtcpceafmlgaodaaGreat
open Go.RowKit
set_option maxRecDepth 99999
set_option maxHeartbeats 0
set_option linter.all false
def i64s(ls:List Int):Array Value:=(ls.map (Value.int .i64)).toArray
def Q3z(n:Nat)(l:List Nat):Array Value:=((List.range n).map fun j=>Value.bool (decide (j∈l))).toArray
theorem x2r(ls:List Int)(i:Nat)(h:i<ls.length):(i64s ls)[i]? = some (.int .i64 (ls.getD i 0)):=by simp[i64s,h]
theorem y0n(n:Nat)(l:List Nat)(i:Nat)(h:i<n):(Q3z n l)[i]? = some (.bool (decide (i∈l))):=by simp[Q3z,h]
structure Q4v(w:World)(cb lb ib n:Nat)(l:List Nat):Prop where
 nodup:l.Nodup
 lt:∀x∈l,x<n
 blk:w.heap[cb]? = some (.cells #[.slice (some ⟨lb,0,none⟩) n n,.int .i64 l.length,.slice (some ⟨ib,0,none⟩) n n] 195 (0,0))
 lst:∃ls:List Int,ls.length=n/\ls.take l.length=l.map Int.ofNat/\w.heap[lb]? = some (.cells (i64s ls) 3 (0,0))
 ins:w.heap[ib]? = some (.cells (Q3z n l) 4 (0,0))
 d1:cb≠lb
 d2:cb≠ib
 d3:lb≠ib
def Q1z(cb lb ib k:Nat):Prop:=k=cb∨k=lb∨k=ib
theorem Q4v.kept{S:Nat->Prop}{w w':World}{cb lb ib n:Nat}{l:List Nat}(h:Q4v w cb lb ib n l)(hm:Mod S w w')(hs:∀k,Q1z cb lb ib k->¬S k):Q4v w' cb lb ib n l:=by
 obtain⟨ls,h1,h2,h3⟩:=h.lst;exact⟨h.nodup,h.lt,hm.at h.blk (hs cb (.inl rfl)),⟨ls,h1,h2,hm.at h3 (hs lb (.inr (.inl rfl)))⟩,hm.at h.ins (hs ib (.inr (.inr rfl))),h.d1,h.d2,h.d3⟩
theorem Q4v.foot_lt{w:World}{cb lb ib n:Nat}{l:List Nat}(h:Q4v w cb lb ib n l){k:Nat}(hk:Q1z cb lb ib k):k<w.heap.size:=by
 obtain⟨ls,h1,h2,h3⟩:=h.lst;rcases hk with rfl|rfl|rfl
 ·exact z0j h.blk
 ·exact z0j h3
 exact z0j h.ins
theorem z4a{n:Nat}:∀{l:List Nat},l.Nodup->(∀x∈l,x<n)->l.length<=n:=by
 induction n with
 |zero =>
  intro l hd hl;cases l with
  |nil=>simp
  |cons a l=>have:=hl a (by simp);omega
 |succ n ih =>
  intro l hd hl;by_cases hm:n∈l
  ·have h1:=ih (hd.erase n) (fun x hx=>by
    have:=(hd.mem_erase_iff).1 hx;have:=hl x this.2;omega)
   rw[List.length_erase_of_mem hm]at h1;omega
  have:=ih hd (fun x hx=>by
   have h2:=hl x hx;have:x≠n:=fun e=>hm (e▸hx);omega)
  omega
theorem z7q{n m:Nat}{l:List Nat}(hd:l.Nodup)(hl:∀x∈l,x<n)(hm:m<n)(hn:m ∉ l):l.length<n:=by
 have:=z4a (n:=n) (l:=m::l) (List.nodup_cons.2 ⟨hn,hd⟩) (by
  intro x hx;rcases qBc.1 hx with rfl|hx
  ·exact hm
  exact hl x hx)
 simp at this;omega
def Q1c(n:Nat)(l:List Nat)(m:Int):List Nat:=if 0<=m/\m<n/\m.toNat ∉ l then l++[m.toNat] else l
theorem z23{n:Nat}{l:List Nat}(m:Int)(h:l.Nodup):(Q1c n l m).Nodup:=by
 unfold Q1c;split
 ·rename_i h1;rw[List.nodup_append];exact⟨h,by simp,by intro a ha b hb;simp at hb;subst hb;intro e;subst e;exact h1.2.2 ha⟩
 exact h
theorem z33{n:Nat}{l:List Nat}(m:Int)(h:∀x∈l,x<n):∀x∈Q1c n l m,x<n:=by
 unfold Q1c;split
 ·rename_i h1;intro x hx;rcases qBj.1 hx with hx|hx
  ·exact h x hx
  simp at hx;omega
 exact h
theorem y54(n:Nat)(l:List Nat)(m:Nat):(Q3z n l).setIfInBounds m (.bool true)=Q3z n (l++[m]):=by
 unfold Q3z;apply qDk;intro i;rw[qDv];by_cases h:m=i
 ·subst h;by_cases h2:m<n<;>simp[h2]
 rw[qAa h];by_cases h2:i<n
 ·have:¬i=m:=fun e=>h e.symm;simp[h2,this]
 simp[h2]
theorem y2z{ls:List Int}{l:List Nat}{m:Nat}(h:ls.take l.length=l.map Int.ofNat)(hlt:l.length<ls.length):(ls.set l.length (m:Int)).take (l++[m]).length=(l++[m]).map Int.ofNat:=by
 simp only[qP,qAf,qBf,qCf];rw[qCc,List.take_set_of_le (qR _),h];simp[hlt]
theorem x58(ls:List Int)(i:Nat)(v:Int):(i64s ls).setIfInBounds i (.int .i64 v)=i64s (ls.set i v):=by simp[i64s,qDy]
theorem Q4v.entered{w:World}{cb lb ib n:Nat}{l:List Nat}{m:Nat}(h:Q4v w cb lb ib n l)(hm:m<n)(hn:m ∉ l) :
  Q4v (((w.setCell ⟨ib,m,none⟩ (.bool true)).setCell ⟨lb,l.length,none⟩ (.int .i64 m)).setCell ⟨cb,1,none⟩ (.int .i64 (l.length+1))) cb lb ib n (l++[m]):=by
 obtain⟨ls,h1,h2,h3⟩:=h.lst;have hl:=z7q h.nodup h.lt hm hn;refine⟨?_,?_,?_,⟨ls.set l.length m,by simpa using h1,y2z h2 (by omega),?_⟩,?_,h.d1,h.d2,h.d3⟩
 ·have:=z23 (n:=n) m h.nodup;unfold Q1c at this;rw[qAb ⟨by omega,by omega,by simpa using hn⟩]at this;simpa using this
 ·have:=z33 (n:=n) m h.lt;unfold Q1c at this;rw[qAb ⟨by omega,by omega,by simpa using hn⟩]at this;simpa using this
 ·rw[zhs (z0i (z0i h.blk (by simpa using h.d2)) (by simpa using h.d1)) 1 _];simp
 ·refine z0i ?_ (by simpa using h.d1.symm);rw[zhs (z0i h3 (by simpa using h.d3)) _ _,x58]
 refine z0i (z0i ?_ (by simpa using h.d3.symm)) (by simpa using h.d2.symm);rw[zhs h.ins _ _,y54]
theorem z8s{n:Nat}{l:List Nat}{m:Int}(h:¬(0<=m/\m<n/\m.toNat ∉ l)):Q1c n l m=l:=by unfold Q1c;rw[qAa h]
theorem y9r{n:Nat}{l:List Nat}{m:Nat}(h1:m<n)(h2:m ∉ l):Q1c n l m=l++[m]:=by
 unfold Q1c;rw[qAb ⟨by omega,by omega,by simpa using h2⟩];simp
abbrev Q8a(cb:Nat):Value:=.pointer (some ⟨cb,0,none⟩)
theorem Q4v.facts{w:World}{cb lb ib n:Nat}{l:List Nat}(h:Q4v w cb lb ib n l) :
  (w.cell? ⟨cb,0,none⟩=some (.slice (some ⟨lb,0,none⟩) n n)/\w.cell? ⟨cb,1,none⟩=some (.int .i64 l.length)/\w.cell? ⟨cb,2,none⟩=some (.slice (some ⟨ib,0,none⟩) n n)) /\
  (∀j,j<n->w.cell? ⟨ib,j,none⟩=some (.bool (decide (j∈l)))) /\
  (∀j (hj:j<l.length),w.cell? ⟨lb,j,none⟩=some (.int .i64 l[j])) /\
  (∀j,j<n->∃x:Int,w.cell? ⟨lb,j,none⟩=some (.int .i64 x)) /\
  (∀o,w.frozen? ⟨cb,o,none⟩=false)/\(∀o,w.frozen? ⟨lb,o,none⟩=false)/\(∀o,w.frozen? ⟨ib,o,none⟩=false):=by
 obtain⟨ls,h1,h2,h3⟩:=h.lst;refine⟨⟨by rw[Q0b h.blk];rfl,by rw[Q0b h.blk];rfl,by rw[Q0b h.blk];rfl⟩,?_,?_,?_,Q0g h.blk,Q0g h3,Q0g h.ins⟩
 ·intro j hj;rw[Q0b h.ins,y0n _ _ _ hj]
 ·intro j hj;have hl:=z4a h.nodup h.lt;rw[Q0b h3,x2r _ _ (by omega)];have:(ls.take l.length)[j]? = (l.map Int.ofNat)[j]? := by rw[h2]
  rw[qCg hj]at this;simp[hj]at this;simp[this]
 intro j hj;exact⟨_,by rw[Q0b h3,x2r _ _ (by omega)]⟩
theorem Q4v.of_heap{w w':World}{cb lb ib n:Nat}{l:List Nat}(h:Q4v w cb lb ib n l)(e:w'.heap=w.heap):Q4v w' cb lb ib n l:=by
 obtain⟨ls,h1,h2,h3⟩:=h.lst;exact⟨h.nodup,h.lt,by rw[e];exact h.blk,⟨ls,h1,h2,by rw[e];exact h3⟩,by rw[e];exact h.ins,h.d1,h.d2,h.d3⟩
theorem Mod.of_heap{S:Nat->Prop}{a w w':World}(h:Mod S a w)(e:w'.heap=w.heap)(e1:w'.os=w.os)(e2:w'.tape=w.tape)(e3:w'.output=w.output):Mod S a w' :=
 ⟨e1.trans h.os,e2.trans h.tape,e3.trans h.output,by rw[e];exact h.size,fun k hk hs=>by rw[e];exact h.block k hk hs⟩
theorem y4i(w:World)(cb lb ib n:Nat)(l:List Nat)(i:Nat)(h:Q4v w cb lb ib n l)(hn:n<=100000)(hi:i<l.length) :
  Calls Tryz.prog 119 #[Q8a cb,.int .i64 i] w fun e w'=>e=.returned (.int .i64 l[i])/\w'=w:=by
 obtain⟨⟨f1,f2,f3⟩,_,f5,_⟩:=h.facts;have f6:=f5 i hi;have hl:=z4a h.nodup h.lt;clear f5 h;have j0:(i:Int)<n:=by omega
 go_enter Tryz.func119,Tryz.ntmps119
 go_wp2;go_ret;exact⟨rfl,rfl⟩
theorem y34(w:World)(cb lb ib n:Nat)(l:List Nat)(m:Int)(h:Q4v w cb lb ib n l)(hn:n<=100000) :
  Calls Tryz.prog 105 #[Q8a cb,.int .i64 m] w fun e w'=>e=.returned (.bool (decide (0<=m/\m<n/\m.toNat∈l)))/\w'=w:=by
 obtain⟨⟨f1,f2,f3⟩,f4,_⟩:=h.facts;by_cases h0:0<=m
 ·by_cases h1:m<n
  ·obtain⟨k,rfl⟩:∃k:Nat,m=k:=⟨m.toNat,by omega⟩;have f6:=f4 k (by omega);clear f4 h;go_enter Tryz.func105,Tryz.ntmps105
   go_wp2;go_ret;exact⟨z0s (by simp;omega),rfl⟩
  clear f4 h;have h2:(n:Int)<=m:=by omega
  go_enter Tryz.func105,Tryz.ntmps105
  go_wp2;go_ret;exact⟨z0s (by simp;omega),rfl⟩
 clear f4 h;have h2:m<0:=by omega
 go_enter Tryz.func105,Tryz.ntmps105
 go_wp2;go_ret;exact⟨z0s (by simp;omega),rfl⟩
theorem x5z(w:World)(cb lb ib n:Nat)(l:List Nat)(m:Nat)(h:Q4v w cb lb ib n l)(hn:n<=100000)(hm:m<n)(hm2:m ∉ l) :
  Calls Tryz.prog 103 #[Q8a cb,.int .i64 m] w fun e w'=>e=.returned (.tuple #[])/\Q4v w' cb lb ib n (Q1c n l m)/\Mod (Q1z cb lb ib) w w':=by
 obtain⟨⟨f1,f2,f3⟩,f4,_,f5,z1,z2,z3⟩:=h.facts;have hl:=z7q h.nodup h.lt hm hm2;have f6:=f4 m hm;obtain⟨x,f7⟩:=f5 l.length hl;have hd:decide (m∈l)=false:=by simpa using hm2
 rw[hd]at f6;have H:=hid h;have d1:=h.d1;have d2:=h.d2;have d3:=h.d3;have b1:(m:Int)<(n:Int):=by omega
 have b2:((l.length:Nat):Int)<(n:Int):=by omega
 have b3:decide ((m:Int)<0)=false:=by simp
 have b4:decide ((n:Int)<=(m:Int))=false:=by simp;omega
 have b5:decide (n<=m)=false:=by simp;omega
 have HM:=hid hm2;clear f4 f5 h hd hm2;go_enter Tryz.func103,Tryz.ntmps103
 go_wp2_with fail
 go_quiet (fail);go_wp2;go_region;all_goals
  go_wp2;refine bodyPost_end (results_none rfl _ _ _) rfl ⟨rfl,?_,?_⟩
  ·rw[y9r hm HM.out];exact Q4v.of_heap (H.entered hm HM.out) rfl
  exact Mod.of_heap ((((mRf _ w).setCell (p:=⟨ib,m,none⟩) (fun _=>.inr (.inr rfl)) (.bool true)).setCell (p:=⟨lb,l.length,none⟩) (fun _=>.inr (.inl rfl)) (.int .i64 m)).setCell (p:=⟨cb,1,none⟩) (fun _=>.inl rfl) (.int .i64 (l.length+1))) rfl rfl rfl rfl
theorem x1z(w:World)(cb lb ib n:Nat)(l:List Nat)(m:Int)(h:Q4v w cb lb ib n l)(hm:m<0) :
  Calls Tryz.prog 103 #[Q8a cb,.int .i64 m] w fun e w'=>e=.returned (.tuple #[])/\Q4v w' cb lb ib n (Q1c n l m)/\Mod (Q1z cb lb ib) w w':=by
 have e1:Q1c n l m=l:=z8s (by omega);rw[e1];have H:=hid h;have b3:decide (m<0)=true:=by simpa using hm
 clear h e1;go_enter Tryz.func103,Tryz.ntmps103
 go_wp2_with fail
 go_quiet (fail);go_wp2;refine bodyPost_ret (results_none rfl _ _ _) rfl ⟨rfl,Q4v.of_heap H.out rfl,Mod.of_heap (mRf _ w) rfl rfl rfl rfl⟩
theorem y6f(w:World)(cb lb ib n:Nat)(l:List Nat)(m:Int)(h:Q4v w cb lb ib n l)(hn:n<=100000)(h0:0<=m)(hm:(n:Int)<=m) :
  Calls Tryz.prog 103 #[Q8a cb,.int .i64 m] w fun e w'=>e=.returned (.tuple #[])/\Q4v w' cb lb ib n (Q1c n l m)/\Mod (Q1z cb lb ib) w w':=by
 have e1:Q1c n l m=l:=z8s (by omega);rw[e1];have H:=hid h;obtain⟨⟨f1,f2,f3⟩,_⟩:=h.facts;have b3:decide (m<0)=false:=by simpa using h0
 have b4:decide ((n:Int)<=m)=true:=by simpa using hm
 clear h e1;go_enter Tryz.func103,Tryz.ntmps103
 go_wp2_with fail
 go_quiet (fail);go_wp2;refine bodyPost_ret (results_none rfl _ _ _) rfl ⟨rfl,Q4v.of_heap H.out rfl,Mod.of_heap (mRf _ w) rfl rfl rfl rfl⟩
theorem x1y(w:World)(cb lb ib n:Nat)(l:List Nat)(m:Nat)(h:Q4v w cb lb ib n l)(hn:n<=100000)(hm:m<n)(hm2:m∈l) :
  Calls Tryz.prog 103 #[Q8a cb,.int .i64 m] w fun e w'=>e=.returned (.tuple #[])/\Q4v w' cb lb ib n (Q1c n l m)/\Mod (Q1z cb lb ib) w w':=by
 have e1:Q1c n l m=l:=z8s (by simp[hm2]);rw[e1];have H:=hid h;obtain⟨⟨f1,f2,f3⟩,f4,_⟩:=h.facts;have f6:=f4 m hm;have hd:decide (m∈l)=true:=by simpa using hm2
 rw[hd]at f6;have b1:(m:Int)<(n:Int):=by omega
 have b3:decide ((m:Int)<0)=false:=by simp
 have b4:decide ((n:Int)<=(m:Int))=false:=by simp;omega
 have b5:decide (n<=m)=false:=by simp;omega
 clear h e1 f4 hm2 hd;go_enter Tryz.func103,Tryz.ntmps103
 go_wp2_with fail
 go_quiet (fail);go_wp2;refine bodyPost_ret (results_none rfl _ _ _) rfl ⟨rfl,Q4v.of_heap H.out rfl,Mod.of_heap (mRf _ w) rfl rfl rfl rfl⟩
theorem z8t(w:World)(cb lb ib n:Nat)(l:List Nat)(m:Int)(h:Q4v w cb lb ib n l)(hn:n<=100000) :
  Calls Tryz.prog 103 #[Q8a cb,.int .i64 m] w fun e w'=>e=.returned (.tuple #[])/\Q4v w' cb lb ib n (Q1c n l m)/\Mod (Q1z cb lb ib) w w':=by
 by_cases h0:m<0
 ·exact x1z w cb lb ib n l m h h0
 by_cases h1:(n:Int)<=m
 ·exact y6f w cb lb ib n l m h hn (by omega) h1
 obtain⟨k,rfl⟩:∃k:Nat,m=k:=⟨m.toNat,by omega⟩;by_cases h2:k∈l
 ·exact x1y w cb lb ib n l k h hn (by omega) h2
 exact x5z w cb lb ib n l k h hn (by omega) h2
theorem y8f(n:Nat):madeCells #[.int .i64 0] n=i64s (List.replicate n 0):=by
 unfold madeCells i64s;apply qDk;intro i;by_cases h:i<n<;>simp[h,Nat.mod_one]
theorem y4h(n:Nat):madeCells #[.bool false] n=Q3z n []:=by
 unfold madeCells Q3z;apply qDk;intro i;by_cases h:i<n<;>simp[h,Nat.mod_one]
theorem z7p(w:World)(n:Nat)(hn:n<=100000) :
  Calls Tryz.prog 102 #[.int .i64 n] w fun e w'=>∃cb lb ib,e=.returned (Q8a cb)/\Q4v w' cb lb ib n []/\Q0a w w'/\(∀k,Q1z cb lb ib k->w.heap.size<=k):=by
 have h1:=fun w=>run_make_row' (P:=Tryz.prog) 22 3 (.int .i64 0) 8 Tryz.underlying22 (by kernel_rfl) rfl .i64 .i64 n (by omega) (by omega) w;have h2:=fun w=>run_make_row' (P:=Tryz.prog) 90 4 (.bool false) 1 Tryz.underlying90 (by kernel_rfl) rfl .i64 .i64 n (by omega) (by omega) w;go_enter Tryz.func102,Tryz.ntmps102
 go_wp2_with fail
 go_region;all_goals
  go_wp2;go_ret
 ·refine⟨w.heap.size+2,w.heap.size,w.heap.size+1,rfl,⟨by simp,by simp,?_,⟨List.replicate n 0,by simp,by simp,?_⟩,?_,by omega,by omega,by omega⟩,Mod.of_heap ((((mRf _ w).alloc _).alloc _).alloc _) rfl rfl rfl rfl,?_⟩
  ·exact z00 _ _ _ _
  ·rw[← y8f];exact z1e _ _ _ _
  ·rw[← y4h];exact z06 _ _ _ _
  intro k hk;rcases hk with rfl|rfl|rfl<;>omega
 refine⟨w.heap.size+2,w.heap.size+1,w.heap.size,rfl,⟨by simp,by simp,?_,⟨List.replicate n 0,by simp,by simp,?_⟩,?_,by omega,by omega,by omega⟩,Mod.of_heap ((((mRf _ w).alloc _).alloc _).alloc _) rfl rfl rfl rfl,?_⟩
 ·exact z00 _ _ _ _
 ·rw[← y8f];exact z06 _ _ _ _
 ·rw[← y4h];exact z1e _ _ _ _
 intro k hk;rcases hk with rfl|rfl|rfl<;>omega
theorem y3p(w:World)(cb lb ib n:Nat)(l:List Nat)(h:Q4v w cb lb ib n l)(hn:n<=100000) :
  Calls Tryz.prog 106 #[Q8a cb] w fun e w'=>e=.returned (.tuple #[])/\Q4v w' cb lb ib n []/\Mod (Q1z cb lb ib) w w':=by
 obtain⟨⟨f1,f2,f3⟩,f4,_,f5,z1,z2,z3⟩:=h.facts;have H:=hid h;clear f4 f5 h;go_enter Tryz.func106,Tryz.ntmps106
 go_wp2;go_loopw [8] (fun i wr=>∃k:Nat,i=.int .i64 k/\k<=n/\wr.heap[cb]? = w.heap[cb]?/\wr.heap[lb]? = w.heap[lb]? /\
   (∃bs:Array Value,bs.size=n/\wr.heap[ib]? = some (.cells bs 4 (0,0))/\∀j,j<k->bs[j]? = some (.bool false))/\Mod (Q1z cb lb ib) w wr)
   (fun i _=>n-(intOf i).toNat)
 case atStart=>exact⟨0,rfl,by omega,rfl,rfl,⟨Q3z n l,by simp[Q3z],H.ins,by omega⟩,mRf _ _⟩
 obtain⟨k,rfl,hk,hb,hb2,⟨bs,hbs,hb3,hall⟩,hmod⟩:=hrel;have c1:=Q0b (hb.trans H.blk);have c4:=Q0g (hb.trans H.blk);by_cases hx:k<n
 ·have c2:wr.cell? ⟨ib,k,none⟩=some bs[k]:=by rw[Q0b hb3];simp
  have c3:=Q0g hb3;have HB:=hid hb;have j0:=hid hb2;have j1:=hid hb3;have HA:=hid hall;clear hb hb2 hb3 hall;go_wp2;go_roundw
  case rel =>
   refine⟨k+1,by go_num,by omega,?_,?_,⟨bs.setIfInBounds k (.bool false),by simpa using hbs,zhs j1.out _ _,?_⟩,?_⟩
   ·rw[Proofs.YtcpceafmlgaodaaGreat.heap_setCell_other _ (by simpa using H.d2)];exact HB.out
   ·rw[Proofs.YtcpceafmlgaodaaGreat.heap_setCell_other _ (by simpa using H.d3)];exact j0.out
   ·intro j hj;rw[qDv];by_cases e:k=j
    ·rw[qAb e,qAb (by omega)]
    rw[qAa e];exact HA.out j (by omega)
   exact hmod.setCell (fun _=>.inr (.inr rfl)) _
  simp[intOf];omega
 have j2:k=n:=by omega
 subst j2;have HB:=hid hb;have j0:=hid hb2;have j1:=hid hb3;have HA:=hid hall;clear hb hb2 hb3 hall;go_wp2;refine bodyPost_end (results_none rfl _ _ _) rfl ⟨rfl,?_,hmod.setCell (fun _=>.inl rfl) _⟩;obtain⟨ls,h1,h2,h3⟩:=H.lst;refine⟨by simp,by simp,?_,⟨ls,h1,by simp,?_⟩,?_,H.d1,H.d2,H.d3⟩
 ·rw[zhs (HB.trans H.blk) 1 _];simp
 ·exact z0i (j0.trans h3) (by simpa using H.d1.symm)
 refine z0i ?_ (by simpa using H.d2.symm);rw[j1.out];have:bs=Q3z k []:=by
  apply qDk;intro i;by_cases hi:i<k
  ·rw[HA.out i hi,y0n _ _ _ hi];simp
  rw[Array.getElem?_eq_none (by omega),Array.getElem?_eq_none (by simp[Q3z];omega)]
 rw[this]
theorem Q12.cell{w:World}{g n cap:Nat}{ns:List Q0o}(h:Q12 w (.slice (some ⟨g,0,none⟩) n cap) ns)(i j:Nat)(hi:i<ns.length)(hj:j<7):w.cell? ⟨g,i*7+j,none⟩=(ns[i]).cells[j]? := by
 have j0:j<(ns[i]).cells.length:=by rw[Q0o.cells_len (h.wf _ (by simp))];exact hj
 have:=h.own.cells (g:=g) rfl (i*7+j) ((ns[i]).cells[j]) (by rw[z9i h.wf i j hi hj];simp);rw[Addr.add_mid,qBi]at this;rw[this];simp
theorem Q12.reads{w:World}{g n cap:Nat}{ns:List Q0o}(h:Q12 w (.slice (some ⟨g,0,none⟩) n cap) ns)(i:Nat)(hi:i<ns.length) :
  w.cell? ⟨g,i*7,none⟩=some (.bool (ns[i]).reads)/\w.cell? ⟨g,i*7+5,none⟩=some (.int .i64 (ns[i]).next)/\w.cell? ⟨g,i*7+6,none⟩=some (.int .i64 (ns[i]).other):=by
 have hw:=h.wf _ (qG hi);refine⟨?_,?_,?_⟩
 ·have:=h.cell i 0 hi (by omega);rw[Q0o.cells_at hw]at this;simpa using this
 ·have:=h.cell i 5 hi (by omega);rw[Q0o.cells_at hw]at this;simpa using this
 have:=h.cell i 6 hi (by omega);rw[Q0o.cells_at hw]at this;simpa using this
def Q22(ns:List Q0o):Nat->Nat->List Nat->List Nat
 |0,_,l=>l
 |f+1,i,l =>
  if h:i<l.length then
   match ns[l[i]]? with
   |some nd=>if nd.reads then Q22 ns f (i+1) l else Q22 ns f (i+1) (Q1c ns.length (Q1c ns.length l nd.next) nd.other)
   |none=>Q22 ns f (i+1) l
  else l
def Q1x(ns:List Q0o)(l:List Nat):List Nat:=Q22 ns (ns.length+1) 0 l
theorem Q15{B:Nat}(i:Nat)(h:i<B):B-(intOf (.int .i64 ((i:Int)+1))).toNat<B-(intOf (.int .i64 (i:Int))).toNat:=by
 simp[intOf];omega
theorem y0q(n:Nat)(l:List Nat)(m:Int):l.length<=(Q1c n l m).length:=by
 unfold Q1c;split<;>simp
theorem y1j(w:World)(v:Value)(st en:Int)(ns:List Q0o)(cb lb ib:Nat)(l:List Nat)(hN:Q12 w v ns)(hC:Q4v w cb lb ib ns.length l)(hn:ns.length<=100000)(hd:∀k,v.ownBlock=some k->¬Q1z cb lb ib k) :
  Calls Tryz.prog 104 #[patV v st en,Q8a cb] w fun e w'=>e=.returned (.tuple #[])/\Q4v w' cb lb ib ns.length (Q1x ns l)/\Mod (Q1z cb lb ib) w w':=by
 have ja:=hid hN;have HD:=hid hd;generalize hR:Q1x ns l=R;have HR:Hid (Q22 ns (ns.length+1) 0 l=R):=hR;have j9:=hid hC;have j8:∀k,Q1z cb lb ib k->k<w.heap.size:=fun k hk=>hC.foot_lt hk;have HF:=hid j8;clear hR hN hC hd j8;go_enter Tryz.func104,Tryz.ntmps104
 go_wp2;go_loopw [4] (fun x wr=>∃(f i:Nat) (l':List Nat),x=.int .i64 i/\Q22 ns f i l'=R/\i<=l'.length/\ns.length+1<=f+i/\Q4v wr cb lb ib ns.length l'/\Q12 wr v ns /\
   wr.heap[w.heap.size]? = some (.cells #[v,.int .i64 st,.int .i64 en] 114 (0,0))/\Mod (Q1z cb lb ib) w wr)
   (fun x _=>100001-(intOf x).toNat)
 case atStart =>
  have m1:Mod (Q1z cb lb ib) w (w.alloc (.cells #[v,.int .i64 st,.int .i64 en] 114 (0,0))):=(mRf _ w).alloc _;have m2:Q0a w (w.alloc (.cells #[v,.int .i64 st,.int .i64 en] 114 (0,0))):=(mRf _ w).alloc _;exact⟨ns.length+1,0,l,rfl,HR.out,by omega,by omega,j9.kept m2 (fun _ _ x=>x),ja.kept m2 (fun _ _ x=>x),z0a _ _,m1⟩
 obtain⟨f,i,l',rfl,hR,hi,hfu,hC,hN,hb,hm⟩:=hrel;have jb:=z4a hC.nodup hC.lt;obtain⟨⟨f1,f2,f3⟩,_⟩:=hC.facts;have HC:=hid hC;have j2:=hid hN;have HB:=hid hb;have HM:=hid hm;have c1:=Q0b hb;clear hC hN hb hm;have j6:=hid (Q15 (B:=100001) i (by omega));by_cases hlt:i<l'.length
 ·obtain⟨f,rfl⟩:∃g,f=g+1:=⟨f-1,by omega⟩;unfold Q22 at hR;rw[qEi hlt]at hR;have hx:l'[i]<ns.length:=HC.lt _ (by simp);obtain⟨g,cap,hv⟩:=Joins.ownsRow_form j2.own (by omega);rw[qE hx]at hR;simp only[]at hR;have MI:=hid (y4i wr cb lb ib ns.length l' i HC.out hn hlt);generalize hm:l'[i]=m at hx hR MI;subst hv;obtain⟨n1,n2,n3⟩:=j2.reads m hx;have j5:∀k,Q1z cb lb ib k->k<w.heap.size:=HF.out;cases hrd:ns[m].reads
  ·rw[hrd]at hR n1;simp only[qF,qAp]at hR;have j0:=hid hR;have q0:¬Q1z cb lb ib w.heap.size:=fun h=>by have:=j5 _ h;omega
   have Q0:=hid q0;clear hR hm j5 q0;have j4:=HC.out;have j3:=j2.out;have j1:Mod (Q1z cb lb ib) wr wr:=mRf _ _;go_wp2_with (first
    |(go_at_call 119;refine MI.mono ?_;rintro e w'⟨rfl,hw⟩;rw[hw];clear hw)
    |(go_at_call 103;refine(z8t _ cb lb ib _ _ _ j4 hn).mono ?_;rintro e w1⟨rfl,hc1,hm1⟩;replace j1:=j1.trans hm1;replace j3:=j3.kept hm1 HD.out;clear j4;have j4:=hc1;clear hc1 hm1;have c2:=Q0b (j1.at HB.out Q0.out);have n4:=(j3.reads m hx).2.2))
   go_roundw
   case rel =>
    have e1:=y0q ns.length l' ns[m].next;have e2:=y0q ns.length (Q1c ns.length l' ns[m].next) ns[m].other;exact⟨f,i+1,_,by go_num,j0.out,by omega,by omega,j4,j3,j1.at HB.out Q0.out,HM.trans j1⟩
   exact j6.out
  rw[hrd]at hR n1;simp only[qBb]at hR;have j0:=hid hR;clear hR hm j5;go_wp2_with (first
   |(go_at_call 119;refine MI.mono ?_;rintro e w'⟨rfl,hw⟩;rw[hw];clear hw))
  go_roundw
  case rel =>
   exact⟨f,i+1,l',by go_num,j0.out,by omega,by omega,HC.out,j2.out,HB.out,HM.out⟩
  exact j6.out
 have j7:l'=R:=by
  rw[← hR];cases f with
  |zero=>rfl
  |succ f=>unfold Q22;rw[qEp hlt]
 have j0:=hid j7;clear hR j7;go_wp2;refine bodyPost_end (results_none rfl _ _ _) rfl ⟨rfl,?_,HM.out⟩;rw[← j0.out];exact HC.out
def Q3p(ns:List Q0o)(c:Nat)(acc:List Nat)(m:Nat):List Nat :=
 match ns[m]? with
 |some nd=>if nd.reads&&Q5n nd.set c then Q1c ns.length acc nd.next else acc
 |none=>acc
def Q46(ns:List Q0o)(c:Nat)(l acc:List Nat):List Nat:=l.foldl (Q3p ns c) acc
theorem x0r(ns:List Q0o)(c:Nat)(l acc:List Nat)(i:Nat)(hi:i<l.length):Q46 ns c (l.take (i+1)) acc=Q3p ns c (Q46 ns c (l.take i) acc) l[i]:=by
 unfold Q46;rw[qCc,List.foldl_append];simp[hi]
theorem Q12.range{w:World}{g n cap:Nat}{ns:List Q0o}(h:Q12 w (.slice (some ⟨g,0,none⟩) n cap) ns)(i:Nat)(hi:i<ns.length) :
  w.rangeAt g (i*7+1) ((ns[i]).set.map (Value.int .u64)):=by
 intro j v hj;have hw:=h.wf _ (qG hi);have j0:j<4:=by have:=(qS hj).1;simp[Q0o.wf]at hw;simpa [hw]using this
 have:=h.cell i (j+1) hi (by omega);have e:i*7+1+j=i*7+(j+1):=by omega
 rw[e,this,Q0o.cells_at hw,qAa (by omega),qAb (by omega)];simp at hj;obtain⟨a,ha,rfl⟩:=hj;simp[ha]
theorem x4y(w:World)(v:Value)(st en:Int)(cb cb2:Nat) :
  Calls Tryz.prog 108 #[patV v st en,Q8a cb,.int .i64 (-1),Q8a cb2] w fun e w'=>e=.returned (.tuple #[])/\Q0a w w':=by
 go_enter Tryz.func108,Tryz.ntmps108
 go_wp2;exact bodyPost_ret (results_none rfl _ _ _) rfl ⟨rfl,(mRf _ _).alloc _⟩
theorem x7m(w:World)(v:Value)(st en:Int)(ns:List Q0o)(cb lb ib cb2 lb2 ib2:Nat)(l acc:List Nat)(c:Nat)(hc:c<=255)(hN:Q12 w v ns)(hC:Q4v w cb lb ib ns.length l)(hC2:Q4v w cb2 lb2 ib2 ns.length acc)(hn:ns.length<=100000)
  (hd:∀k,v.ownBlock=some k->¬Q1z cb2 lb2 ib2 k) (hd2:∀k,Q1z cb lb ib k->¬Q1z cb2 lb2 ib2 k) :
  Calls Tryz.prog 108 #[patV v st en,Q8a cb,.int .i64 c,Q8a cb2] w fun e w'=>e=.returned (.tuple #[])/\Q4v w' cb2 lb2 ib2 ns.length (Q46 ns c l acc)/\Mod (Q1z cb2 lb2 ib2) w w':=by
 have ja:=hid hN;have HD:=hid hd;have j9:=hid hd2;have j8:=hid hC;have j4:=hid hC2;have j7:∀k,Q1z cb2 lb2 ib2 k->k<w.heap.size:=fun k hk=>hC2.foot_lt hk;have Q0:=hid (show ¬Q1z cb2 lb2 ib2 w.heap.size from fun h=>by have:=j7 _ h;omega);have jc:=z4a hC.nodup hC.lt;have jd:((c:Int)==-1)=false:=by simp
 clear hN hC hC2 hd hd2 j7;go_enter Tryz.func108,Tryz.ntmps108
 go_wp2;go_loopw [8] (fun x wr=>∃(i:Nat),x=.int .i64 i/\i<=l.length/\Q4v wr cb lb ib ns.length l/\Q4v wr cb2 lb2 ib2 ns.length (Q46 ns c (l.take i) acc)/\Q12 wr v ns /\
   wr.heap[w.heap.size]? = some (.cells #[v,.int .i64 st,.int .i64 en] 114 (0,0))/\Mod (Q1z cb2 lb2 ib2) w wr)
   (fun x _=>100001-(intOf x).toNat)
 case atStart =>
  have m1:Mod (Q1z cb2 lb2 ib2) w (w.alloc (.cells #[v,.int .i64 st,.int .i64 en] 114 (0,0))):=(mRf _ w).alloc _;have m2:Q0a w (w.alloc (.cells #[v,.int .i64 st,.int .i64 en] 114 (0,0))):=(mRf _ w).alloc _;exact⟨0,rfl,by omega,j8.kept m2 (fun _ _ x=>x),j4.kept m2 (fun _ _ x=>x),ja.kept m2 (fun _ _ x=>x),z0a _ _,m1⟩
 obtain⟨i,rfl,hi,hC,hC2,hN,hb,hm⟩:=hrel;obtain⟨⟨f1,f2,f3⟩,_⟩:=hC.facts;have HC:=hid hC;have j2:=hid hC2;have j0:=hid hN;have HB:=hid hb;have HM:=hid hm;have c1:=Q0b hb;clear hC hC2 hN hb hm;have j5:=hid (Q15 (B:=100001) i (by omega));by_cases hlt:i<l.length
 ·have hx:l[i]<ns.length:=HC.lt _ (by simp);obtain⟨g,cap,hv⟩:=Joins.ownsRow_form j0.own (by omega);have j3:=hid (x0r ns c l acc i hlt);have MI:=hid (y4i wr cb lb ib ns.length l i HC.out hn hlt);generalize hm:l[i]=m at hx j3 MI;subst hv;obtain⟨n1,n2,n3⟩:=j0.reads m hx;have RG:=hid (j0.range m hx);have j6:=hid (j0.wf _ (qG hx));have SZ:Hid ((Tryz.prog.info? 204).map (·.size)=some (((ns[m]).set.map (Value.int .u64)).length)):=by
   have:=j6.out;unfold Q0o.wf at this;unfold Hid;rw[qAo,this];exact Q84
  clear hm;cases hrd:ns[m].reads
  ·rw[hrd]at n1;have j1:Hid (Q46 ns c (l.take (i+1)) acc=Q46 ns c (l.take i) acc):=by
    unfold Hid;rw[j3.out];unfold Q3p;rw[qE hx];simp[hrd]
   go_wp2_with (first
    |(go_at_call 119;refine MI.mono ?_;rintro e w'⟨rfl,hw⟩;rw[hw];clear hw))
   go_roundw
   case rel =>
    exact⟨i+1,by go_num,by omega,HC.out,by rw[j1.out];exact j2.out,j0.out,HB.out,HM.out⟩
   exact j5.out
  rw[hrd]at n1;cases hhas:Q5n ns[m].set c
  ·have j1:Hid (Q46 ns c (l.take (i+1)) acc=Q46 ns c (l.take i) acc):=by
    unfold Hid;rw[j3.out];unfold Q3p;rw[qE hx];simp[hhas]
   go_wp2_with (first
    |(go_at_call 119;refine MI.mono ?_;rintro e w'⟨rfl,hw⟩;rw[hw];clear hw)
    |(go_at_call 120;refine(x2n ns[m].set c _ j6.out hc).mono ?_;rw[hhas];rintro e w1⟨rfl,hf⟩)
    |(refine wpList_load_mid rfl 204 _ rfl g (m*7+1) rfl ((ns[m]).set.map (Value.int .u64)) _ RG.out Tryz.underlying204 rfl SZ.out ?_))
   go_roundw
   case rel =>
    exact⟨i+1,by go_num,by omega,HC.kept hf (fun _ _ x=>x),by rw[j1.out];exact j2.kept hf (fun _ _ x=>x),j0.kept hf (fun _ _ x=>x),hf.at HB.out (fun x=>x),HM.trans (hf.mono (fun _ _ x=>x.elim))⟩
   exact j5.out
  have j1:Hid (Q46 ns c (l.take (i+1)) acc=Q1c ns.length (Q46 ns c (l.take i) acc) ns[m].next):=by
   unfold Hid;rw[j3.out];unfold Q3p;rw[qE hx];simp[hhas,hrd]
  go_wp2_with (first
   |(go_at_call 119;refine MI.mono ?_;rintro e w'⟨rfl,hw⟩;rw[hw];clear hw)
   |(go_at_call 120;refine(x2n ns[m].set c _ j6.out hc).mono ?_;rw[hhas];rintro e w1⟨rfl,hf⟩;have c2:=Q0b (hf.at HB.out (fun x=>x));have n4:=((j0.kept hf (fun _ _ x=>x)).reads m hx).2.1)
   |(go_at_call 103;refine(z8t w1 cb2 lb2 ib2 _ _ _ (j2.kept hf (fun _ _ x=>x)) hn).mono ?_;rintro e w2⟨rfl,hc2,hm2⟩)
   |(refine wpList_load_mid rfl 204 _ rfl g (m*7+1) rfl ((ns[m]).set.map (Value.int .u64)) _ RG.out Tryz.underlying204 rfl SZ.out ?_))
  go_roundw
  case rel =>
   exact⟨i+1,by go_num,by omega,(HC.kept hf (fun _ _ x=>x)).kept hm2 j9.out,by rw[j1.out];exact hc2,(j0.kept hf (fun _ _ x=>x)).kept hm2 HD.out,hm2.at (hf.at HB.out (fun x=>x)) Q0.out,(HM.trans (hf.mono (fun _ _ x=>x.elim))).trans hm2⟩
  exact j5.out
 have jb:i=l.length:=by omega
 subst jb;go_wp2;refine bodyPost_end (results_none rfl _ _ _) rfl ⟨rfl,?_,HM.out⟩;have:=j2.out;rw[qAr]at this;exact this
def Q67(n:Nat)(t:List Nat)(en:Int):Bool:=decide (0<=en/\en<n/\en.toNat∈t)
def Q50(ns:List Q0o)(s:ByteArray)(i:Nat)(t:List Nat):List Nat:=if h:i<s.size then Q46 ns s[i].toNat t [] else []
def runL(ns:List Q0o)(en:Int)(s:ByteArray):Nat->Nat->List Nat->Int->Int
 |0,_,_,best=>best
 |f+1,i,l,best =>
  if i<=s.size/\0<l.length then runL ns en s f (i+1) (Q50 ns s i (Q1x ns l)) (if Q67 ns.length (Q1x ns l) en then i else best)
  else best
def Q72(ns:List Q0o)(st en:Int)(s:ByteArray)(i:Nat):Int:=runL ns en s (s.size+2) i (Q1c ns.length [] st) (-1)
theorem Q0a.step{w wr w1:World}{S:Nat->Prop}(h:Q0a w wr)(hm:Mod S wr w1)(hS:∀k,S k->w.heap.size<=k):Q0a w w1 :=
 Mod.trans' (S:=fun _=>False) h hm (fun i hi hs=>absurd (hS i hs) (by omega))
theorem y6m(w:World)(v:Value)(st en:Int)(ns:List Q0o)(s:ByteArray)(i0:Nat)(hN:Q12 w v ns)(hn:ns.length<=100000)(hs:s.size<=1000)(hi:i0<=2000) :
  Calls Tryz.prog 80 #[patV v st en,.string s,.int .i64 i0] w fun e w'=>e=.returned (.int .i64 (Q72 ns st en s i0))/\Q0a w w':=by
 have jw:=hid hN;generalize hR:Q72 ns st en s i0=R;have HR:Hid (runL ns en s (s.size+2) i0 (Q1c ns.length [] st) (-1)=R):=hR;have ju:∀k,v.ownBlock=some k->k<w.heap.size:=fun k hk=>(hN.own.lt k hk).2;have jm:=hid ju;obtain⟨ao,cap,hv⟩:=z0d hN.own;subst hv;clear hR hN ju;go_enter Tryz.func80,Tryz.ntmps80
 have js:Q0a w (w.alloc (.cells #[.slice ao ns.length cap,.int .i64 st,.int .i64 en] 114 (0,0))):=(mRf _ w).alloc _;have jh:=hid (z0a w (.cells #[.slice ao ns.length cap,.int .i64 st,.int .i64 en] 114 (0,0)));go_wp2_with (first
  |(go_at_call 102;refine(z7p _ ns.length hn).mono ?_;rintro e w1⟨c1,l1,b1,rfl,hC1,hF1,hk1⟩;have k1:=Q0b (hF1.at jh.out (fun x=>x))))
 have ji:=hid (hF1.at jh.out (fun x=>x));clear k1;go_wp2_with (first
  |(go_at_call 102;refine(z7p w1 ns.length hn).mono ?_;rintro e w2⟨c2,l2,b2,rfl,hC2,hF2,hk2⟩;have k1:=Q0b (hF2.at ji.out (fun x=>x))))
 clear k1;have jj:=hid (hF2.at ji.out (fun x=>x));have j8:=hC1.kept hF2 (fun _ _ x=>x);have q1:∀k,Q1z c1 l1 b1 k->w.heap.size<k:=fun k hk=>by have:=hk1 k hk;simp at this;omega
 have q2:∀k,Q1z c2 l2 b2 k->w1.heap.size<=k:=hk2;have z1:w.heap.size<w1.heap.size:=by have:=hF1.size;simp at this;omega
 have jg:∀k,Q1z c1 l1 b1 k->¬Q1z c2 l2 b2 k:=fun k hk h2=>by have:=hC1.foot_lt hk;have:=q2 k h2;omega
 have jn:Q0a w w2:=(js.trans hF1).trans hF2;have k1:=Q0b jj.out;go_wp2_with (first
  |(go_at_call 103;refine(z8t w2 c1 l1 b1 _ _ _ j8 hn).mono ?_;rintro e w3⟨rfl,hC3,hm3⟩))
 have jp:=hm3.at jj.out (fun h=>by have:=q1 _ h;omega);have jo:=Q0a.step jn hm3 (fun k hk=>by have:=q1 k hk;omega);have j9:=hC2.kept hm3 (fun k hk h1=>jg k h1 hk);clear k1 hC1 j8 hC2 hF1 hF2 hk1 hk2 hm3 js;have ST:Hid (∃(f i:Nat) (l acc:List Nat) (best:Int) (ca la ia cb lb ib:Nat),
   (Value.int .i64 (-1)=.int .i64 best/\Q8a c1=Q8a ca/\Q8a c2=Q8a cb/\Value.int .i64 i0=.int .i64 i)/\runL ns en s f i l best=R/\s.size+2<=f+i/\i<=3000 /\
   Q4v w3 ca la ia ns.length l/\Q4v w3 cb lb ib ns.length acc/\(∀k,Q1z ca la ia k->w.heap.size<k)/\(∀k,Q1z cb lb ib k->w.heap.size<k)/\(∀k,Q1z ca la ia k->¬Q1z cb lb ib k) /\
   w3.heap[w.heap.size]? = some (.cells #[.slice ao ns.length cap,.int .i64 st,.int .i64 en] 114 (0,0))/\Q0a w w3) :=
  ⟨s.size+2,i0,_,_,-1,c1,l1,b1,c2,l2,b2,⟨rfl,rfl,rfl,rfl⟩,HR.out,by omega,by omega,hC3,j9,q1,fun k hk=>by have:=q2 k hk;omega,jg,jp,jo⟩
 clear hC3 j9 q1 q2 jg jp jo jn z1;go_loopw [7,8,9,10] (fun x7 x8 x9 x10 wr=>∃(f i:Nat) (l acc:List Nat) (best:Int) (ca la ia cb lb ib:Nat),
   (x7=.int .i64 best/\x8=Q8a ca/\x9=Q8a cb/\x10=.int .i64 i)/\runL ns en s f i l best=R/\s.size+2<=f+i/\i<=3000 /\
   Q4v wr ca la ia ns.length l/\Q4v wr cb lb ib ns.length acc/\(∀k,Q1z ca la ia k->w.heap.size<k)/\(∀k,Q1z cb lb ib k->w.heap.size<k)/\(∀k,Q1z ca la ia k->¬Q1z cb lb ib k) /\
   wr.heap[w.heap.size]? = some (.cells #[.slice ao ns.length cap,.int .i64 st,.int .i64 en] 114 (0,0))/\Q0a w wr)
   (fun _ _ _ x _=>3001-(intOf x).toNat)
 case atStart=>exact ST.out
 obtain⟨f,i,l,acc,best,ca,la,ia,cb,lb,ib,⟨rfl,rfl,rfl,rfl⟩,hR,hfu,hi3,hA,hB,qa,qb,qab,hbox,hfr⟩:=hrel;obtain⟨⟨a1,a2,a3⟩,_⟩:=hA.facts;have jx:=hid (jw.kept hfr (fun _ _ x=>x));have HA:=hid hA;have jv:=hid hB;have QA:=hid qa;have QB:=hid qb;have j7:=hid qab;have jk:=hid hbox;have je:=hid hfr;clear hA hB qa qb qab hbox hfr ST;by_cases hgo:i<=s.size/\0<l.length
 ·obtain⟨hle,hpos⟩:=hgo;obtain⟨f,rfl⟩:∃g,f=g+1:=⟨f-1,by omega⟩;unfold runL at hR;rw[qAb ⟨hle,hpos⟩]at hR;have jl:=hid (Q15 (B:=3001) i (by omega));have jt:(0:Int)<(l.length:Int):=by omega
  have jb:Hid (∀k,(Value.slice ao ns.length cap).ownBlock=some k->¬Q1z ca la ia k):=fun k hk h=>by have:=jm.out k hk;have:=QA.out k h;omega
  have jf:Hid (∀k,(Value.slice ao ns.length cap).ownBlock=some k->¬Q1z cb lb ib k):=fun k hk h=>by have:=jm.out k hk;have:=QB.out k h;omega
  have nA:Hid (¬Q1z ca la ia w.heap.size):=fun h=>by have:=QA.out _ h;omega
  have nB:Hid (¬Q1z cb lb ib w.heap.size):=fun h=>by have:=QB.out _ h;omega
  have qA:Hid (∀k,Q1z ca la ia k->w.heap.size<=k):=fun k hk=>by have:=QA.out k hk;omega
  have qB:Hid (∀k,Q1z cb lb ib k->w.heap.size<=k):=fun k hk=>by have:=QB.out k hk;omega
  have jc:Hid (∀k,Q1z cb lb ib k->¬Q1z ca la ia k):=fun k h1 h2=>j7.out k h2 h1;have j2:=HA.out;have j3:=jv.out;have j4:=jx.out;have j1:=je.out;have k1:=Q0b jk.out;have j0:=jk;by_cases hlt:i<s.size
  ·have j6:atB s (i:Int)=((s[i].toNat:Nat):Int):=by simp[atB,hlt]
   have jr:s[i].toNat<=255:=by have:=s[i].toNat_lt;omega
   have ja:Q50 ns s i (Q1x ns l)=Q46 ns s[i].toNat (Q1x ns l) []:=by unfold Q50;rw[qEi hlt]
   rw[ja]at hR;generalize s[i].toNat=cN at j6 jr hR;have jd:=hid j6
   cases hh:Q67 ns.length (Q1x ns l) en;all_goals
    rw[hh]at hR;have j5:=hid hR;have HH:Hid (decide (0<=en/\en<(ns.length:Int)/\en.toNat∈Q1x ns l)=_):=hh;clear hR hh ja j6
    go_wp2_with (first
     |(go_at_call 104;refine(y1j _ _ _ _ ns ca la ia l j4 j2 hn jb.out).mono ?_;rintro e w1⟨rfl,hA1,hm1⟩;replace j2:=hA1;replace j3:=j3.kept hm1 jc.out;replace j4:=j4.kept hm1 jb.out;replace j1:=Q0a.step j1 hm1 qA.out;replace j0:=hid (hm1.at j0.out nA.out);clear k1;have k1:=Q0b j0.out;clear hm1)
     |(go_at_call 105;refine(y34 _ ca la ia ns.length _ en j2 hn).mono ?_;rw[HH.out];rintro e w'⟨rfl,hw⟩;rw[hw];clear hw)
     |(go_at_call 106;refine(y3p _ cb lb ib _ _ j3 hn).mono ?_;rintro e w1⟨rfl,hB1,hm1⟩;replace j3:=hB1;replace j2:=j2.kept hm1 j7.out;replace j4:=j4.kept hm1 jf.out;replace j1:=Q0a.step j1 hm1 qB.out;replace j0:=hid (hm1.at j0.out nB.out);clear k1;have k1:=Q0b j0.out;clear hm1)
     |(go_at_call 107;refine(z0v _ _ _ (by unfold maxLen;omega)).mono ?_;rw[jd.out];rintro e w'⟨rfl,hw⟩;rw[hw];clear hw)
     |(go_at_call 108;refine(x7m _ _ _ _ ns ca la ia cb lb ib _ _ cN jr j4 j2 j3 hn jf.out j7.out).mono ?_;rintro e w1⟨rfl,hB1,hm1⟩;replace j3:=hB1;replace j2:=j2.kept hm1 j7.out;replace j1:=Q0a.step j1 hm1 qB.out;replace j0:=hid (hm1.at j0.out nB.out);clear k1 hm1))
    go_roundw
    case rel=>exact⟨f,i+1,_,_,_,cb,lb,ib,ca,la,ia,⟨rfl,rfl,rfl,by go_num⟩,j5.out,by omega,by omega,j3,j2,QB.out,QA.out,jc.out,j0.out,j1⟩
    exact jl.out
  have j6:atB s (i:Int)=-1:=by simp[atB,hlt]
  have ja:Q50 ns s i (Q1x ns l)=[]:=by unfold Q50;rw[qEp hlt]
  rw[ja]at hR;have jd:=hid j6
  cases hh:Q67 ns.length (Q1x ns l) en;all_goals
   rw[hh]at hR;have j5:=hid hR;have HH:Hid (decide (0<=en/\en<(ns.length:Int)/\en.toNat∈Q1x ns l)=_):=hh;clear hR hh ja j6
   go_wp2_with (first
    |(go_at_call 104;refine(y1j _ _ _ _ ns ca la ia l j4 j2 hn jb.out).mono ?_;rintro e w1⟨rfl,hA1,hm1⟩;replace j2:=hA1;replace j3:=j3.kept hm1 jc.out;replace j4:=j4.kept hm1 jb.out;replace j1:=Q0a.step j1 hm1 qA.out;replace j0:=hid (hm1.at j0.out nA.out);clear k1;have k1:=Q0b j0.out;clear hm1)
    |(go_at_call 105;refine(y34 _ ca la ia ns.length _ en j2 hn).mono ?_;rw[HH.out];rintro e w'⟨rfl,hw⟩;rw[hw];clear hw)
    |(go_at_call 106;refine(y3p _ cb lb ib _ _ j3 hn).mono ?_;rintro e w1⟨rfl,hB1,hm1⟩;replace j3:=hB1;replace j2:=j2.kept hm1 j7.out;replace j4:=j4.kept hm1 jf.out;replace j1:=Q0a.step j1 hm1 qB.out;replace j0:=hid (hm1.at j0.out nB.out);clear k1;have k1:=Q0b j0.out;clear hm1)
    |(go_at_call 107;refine(z0v _ _ _ (by unfold maxLen;omega)).mono ?_;rw[jd.out];rintro e w'⟨rfl,hw⟩;rw[hw];clear hw)
    |(go_at_call 108;refine(x4y _ _ _ _ _ _).mono ?_;rintro e w1⟨rfl,hm1⟩;replace j3:=j3.kept hm1 (fun _ _ x=>x);replace j2:=j2.kept hm1 (fun _ _ x=>x);replace j1:=j1.trans hm1;replace j0:=hid (hm1.at j0.out (fun x=>x));clear k1 hm1))
   go_roundw
   case rel=>exact⟨f,i+1,_,_,_,cb,lb,ib,ca,la,ia,⟨rfl,rfl,rfl,by go_num⟩,j5.out,by omega,by omega,j3,j2,QB.out,QA.out,jc.out,j0.out,j1⟩
   exact jl.out
 have jq:best=R:=by
  rw[← hR];cases f with
  |zero=>rfl
  |succ f=>unfold runL;rw[qAa hgo]
 have j5:=hid jq;clear hR jq;by_cases h1:i<=s.size
 ·have h2:l.length=0:=by omega
  rw[h2]at a2;go_wp2;go_ret;exact⟨z1h j5.out,je.out⟩
 go_wp2;go_ret;exact⟨z1h j5.out,je.out⟩
section
variable {α:Type}(cells:α->List Value) (k:Nat)
def Q00(xs:List α):List Value:=xs.flatMap cells
theorem z2z{xs:List α}(h:∀x∈xs,(cells x).length=k):(Q00 cells xs).length=xs.length*k:=by
 induction xs with
 |nil=>simp[Q00]
 |cons n ns ih =>
  have h1:=h n (by simp);have h2:=ih (fun m hm=>h m (by simp[hm]));simp only[Q00,qDo,qP,qAy]at h2 ⊢;rw[h2,h1,qDt];omega
theorem z5r{xs:List α}(h:∀x∈xs,(cells x).length=k)(i j:Nat)(hi:i<xs.length)(hj:j<k):(Q00 cells xs)[i*k+j]? = (cells xs[i])[j]? := by
 induction xs generalizing i with
 |nil=>simp at hi
 |cons n ns ih =>
  have h1:=h n (by simp);simp only[Q00,qDo];cases i with
  |zero=>rw[qAe (by simp;omega)];simp
  |succ i =>
   have e0:(i+1)*k=i*k+k:=Nat.succ_mul i k;rw[qAg (by omega),h1];have e:(i+1)*k+j-k=i*k+j:=by omega
   rw[e];exact ih (fun m hm=>h m (by simp[hm])) i (by simpa using hi)
end
structure Q2e{α:Type}(cells:α->List Value)(k:Nat)(T:TypeId)(w:World)(v:Value)(xs:List α):Prop where
 own:w.ownsRow 0 T k v xs.length (Q00 cells xs)
 wf:∀x∈xs,(cells x).length=k
theorem Q2e.kept{α:Type}{cells:α->List Value}{k:Nat}{T:TypeId}{S:Nat->Prop}{w w':World}{v:Value}{xs:List α}(h:Q2e cells k T w v xs)(hm:Mod S w w')(hs:∀b,v.ownBlock=some b->¬S b):Q2e cells k T w' v xs :=
 ⟨z0c h.own (fun g hg=>hm.block g (h.own.lt g hg).2 (hs g hg)),h.wf⟩
theorem Q2e.fresh{α:Type}{cells:α->List Value}{k:Nat}{T:TypeId}{w w':World}{v:Value}{xs:List α}(h:Q2e cells k T w v xs)(hm:Q0a w w'):Q2e cells k T w' v xs:=h.kept hm (fun _ _ x=>x)
theorem Q12.fresh{w w':World}{v:Value}{ns:List Q0o}(h:Q12 w v ns)(hm:Q0a w w'):Q12 w' v ns:=h.kept hm (fun _ _ x=>x)
theorem Q2e.range{α:Type}{cells:α->List Value}{k:Nat}{T:TypeId}{w:World}{g n cap:Nat}{xs:List α}(h:Q2e cells k T w (.slice (some ⟨g,0,none⟩) n cap) xs)(i:Nat)(hi:i<xs.length):w.rangeAt g (i*k) (cells xs[i]):=by
 intro j v hj;have j0:j<k:=by have:=(qS hj).1;rw[h.wf _ (by simp)]at this;exact this
 have:=h.own.cells (g:=g) rfl (i*k+j) v (by rw[z5r cells k h.wf i j hi j0];exact hj);rwa [Addr.add_mid,qBi]at this
theorem Q2e.cell{α:Type}{cells:α->List Value}{k:Nat}{T:TypeId}{w:World}{g n cap:Nat}{xs:List α}(h:Q2e cells k T w (.slice (some ⟨g,0,none⟩) n cap) xs)(i j:Nat)(hi:i<xs.length)(hj:j<k):w.cell? ⟨g,i*k+j,none⟩=(cells xs[i])[j]? := by
 have j0:j<(cells xs[i]).length:=by rw[h.wf _ (by simp)];exact hj
 rw[h.range i hi j _ (qE j0)];simp
theorem Q2e.nil{α:Type}(cells:α->List Value)(k:Nat)(T:TypeId)(w:World):Q2e cells k T w (.slice none 0 0) []:=⟨World.ownsRow_nil _ _ _ _,fun _ h=>by cases h⟩
structure Wd where
 place:Int
 ls:List Int
def Wd.cells(d:Wd):List Value:=.int .i64 d.place::d.ls.map (Value.int .u8)
def zero8:List Int:=[0,0,0,0,0,0,0,0]
def Q2h(s:ByteArray)(i:Int):Nat->Nat->List Int->List Int × Int
 |0,n,ls=>(ls,i+n)
 |f+1,n,ls =>
  if n<8 then
   if Q0l (atB s (i+n)) then Q2h s i f (n+1) (ls.set n (atB s (i+n))) else(ls,i+n)
  else(ls,i+8)
def Q06(s:ByteArray)(i:Int):Wd × Int × Bool :=
 if(!Q0l (atB s i)&&!Q1a (atB s i))=true then(⟨0,zero8⟩,i,false)
 else(⟨i,(Q2h s i 9 1 (zero8.set 0 (atB s i))).1⟩,(Q2h s i 9 1 (zero8.set 0 (atB s i))).2,true)
theorem z64(s:ByteArray)(i:Int):∀(f n:Nat) (ls:List Int),ls.length=8->(Q2h s i f n ls).1.length=8
 |0,_,_,h=>h
 |f+1,n,ls,h=>by
  unfold Q2h;split
  ·split
   ·exact z64 s i f _ _ (by simpa using h)
   exact h
  exact h
theorem y4y(s:ByteArray)(i:Int)(h0:0<=i):∀(f n:Nat) (ls:List Int),n<=8->i+n<=s.size->i+n<=(Q2h s i f n ls).2/\(Q2h s i f n ls).2<=i+8/\(Q2h s i f n ls).2<=s.size
 |0,n,_,hn,hs=>by unfold Q2h;simp;omega
 |f+1,n,ls,hn,hs=>by
  unfold Q2h;split
  ·split
   ·rename_i h1 h2;have:=z0q (s:=s) (i:=i+n) (by intro e;rw[e]at h2;simp[Q0l]at h2);have:=y4y s i h0 f (n+1) (ls.set n (atB s (i+n))) (by omega) (by omega);omega
   simp;omega
  simp;omega
theorem y4z(s:ByteArray)(i:Int):(Q06 s i).1.ls.length=8:=by
 unfold Q06;split
 ·rfl
 exact z64 _ _ _ _ _ rfl
theorem z5j(s:ByteArray)(i:Int)(h0:0<=i):i<=(Q06 s i).2.1/\(Q06 s i).2.1<=i+8/\((Q06 s i).2.2=true->i<(Q06 s i).2.1/\(Q06 s i).2.1<=s.size):=by
 unfold Q06;split
 ·simp;omega
 rename_i h1;have h2:atB s i≠-1:=by intro e;rw[e]at h1;simp[Q0l,Q1a]at h1
 have:=z0q h2;have:=y4y s i h0 9 1 (zero8.set 0 (atB s i)) (by omega) (by omega);exact⟨by dsimp only;omega,by dsimp only;omega,fun _=>by dsimp only;omega⟩
theorem Wd.cells_len{d:Wd}(h:d.ls.length=8):d.cells.length=9:=by simp[Wd.cells,h]
theorem Q2o:(Tryz.prog.info? 111).map (·.size)=some 9:=by kernel_rfl
theorem Q1u{d:Wd}(h:d.ls.length=8):(Tryz.prog.info? 111).map (·.size)=some d.cells.toArray.size:=by rw[List.size_toArray,Wd.cells_len h];exact Q2o
theorem Wd.one(d:Wd):d.cells.toArray.all (·.oneCell')=true:=by
 apply all_oneCell_toArray;intro v hv;simp[Wd.cells]at hv;rcases hv with rfl|⟨a,_,rfl⟩<;>rfl
theorem Wd.size{d:Wd}(h:d.ls.length=8):d.cells.toArray.size=9:=by rw[List.size_toArray,Wd.cells_len h]
theorem Q0k{a b:Array Value}{n:Nat}(ha:a.size=n)(hb:b.size=n):a.size=b.size:=ha.trans hb.symm
structure Itm where
 p:Nat
 d:Nat
 f:Nat
def apS(ts:Array TypeId)(ty:TypeId)(args:Array Value):Sem Value:=Builtin.append_ ts ty args
theorem z13(ts:Array TypeId)(ty:TypeId)(args:Array Value):Builtin.append_ ts ty args=apS ts ty args:=rfl
theorem z2y{P:Program}(w:World)(base:Nat)(t ty e:TypeId)(i:TypeInfo)(z:Value)(size bytes:Nat)(ht:P.underlying t=some (.slice e))(hi:P.info? e=some i)(hz:i.zero=some z)
  (hsize:i.size=size) (hby:i.bytes=bytes) (hzs:z.cells.size=size) (hsz:0<size)
  (v:Value) (n:Nat) (xs:List Value) (hown:w.ownsRow base e size v n xs)
  (a:Addr) (m c:Nat) (news:List Value) (hl:news.length=m*size) (hnews:∀j u,news[j]? = some u->w.cell? (a.add j)=some u) (h1:∀u∈news,u.oneCell'=true)
  (h63:n+m<=maxLen) (hbytes:(n+m)*bytes<=140737488355328) (hbase:base<=w.heap.size) :
  ∃v' w',(apS #[t,t] ty #[v,.slice (some a) m c]).run P w=.ok v' w'/\w'.ownsRow base e size v' (n+m) (xs++news)/\w.grownBy w' v.ownBlock /\
   (∀k,v'.ownBlock=some k->v.ownBlock=some k∨w.heap.size<=k) :=
 z48 (P:=P) w base t ty e i z size bytes ht hi hz hsize hby hzs hsz v n xs hown a m c news hl hnews h1 h63 hbytes hbase
end Go.Proofs.YtcpceafmlgaodaaGreat
