import Derived.Test.YtbdpfmalabgmbaaGreatPrs2
import Derived.Deep.OwnRows
namespace Go.Proofs.YtbdpfmalabgmbaaGreat
open Go.RowKit
set_option maxRecDepth 99999
set_option maxHeartbeats 0
set_option linter.all false
theorem y82(n:Nat):madeCells #[.int .i64 0] n=i64s (List.replicate n 0):=by
 unfold madeCells i64s;apply qEw;intro i;by_cases h:i<n<;>simp[h,Nat.mod_one]
theorem y4z(n:Nat):madeCells #[.bool false] n=Q35 n []:=by
 unfold madeCells Q35;apply qEw;intro i;by_cases h:i<n<;>simp[h,Nat.mod_one]
theorem z7x(w:World)(n:Nat)(hn:n<=100000) :
  Calls Tryz.prog 92 #[.int .i64 n] w fun e w'=>∃cb lb ib,e=.returned (Q8m cb)/\Q41 w' cb lb ib n []/\Q0a w w'/\(∀k,Q12 cb lb ib k->w.heap.size<=k):=by
 have h1:=fun w=>run_make_row' (P:=Tryz.prog) 24 3 (.int .i64 0) 8 qDq (by kernel_rfl) rfl .i64 .i64 n (by omega) (by omega) w;have h2:=fun w=>run_make_row' (P:=Tryz.prog) 118 4 (.bool false) 1 qCw (by kernel_rfl) rfl .i64 .i64 n (by omega) (by omega) w;go_enter Tryz.func92,Tryz.ntmps92
 go_wp2_with fail
 go_region;all_goals
  go_wp2;go_ret
 ·refine⟨w.heap.size+2,w.heap.size,w.heap.size+1,rfl,⟨by simp,by simp,?_,⟨List.replicate n 0,by simp,by simp,?_⟩,?_,by omega,by omega,by omega⟩,Mod.of_heap ((((mRf _ w).alloc _).alloc _).alloc _) rfl rfl rfl rfl,?_⟩
  ·exact z01 _ _ _ _
  ·rw[← y82];exact z1f _ _ _ _
  ·rw[← y4z];exact z06 _ _ _ _
  intro k hk;rcases hk with rfl|rfl|rfl<;>omega
 refine⟨w.heap.size+2,w.heap.size+1,w.heap.size,rfl,⟨by simp,by simp,?_,⟨List.replicate n 0,by simp,by simp,?_⟩,?_,by omega,by omega,by omega⟩,Mod.of_heap ((((mRf _ w).alloc _).alloc _).alloc _) rfl rfl rfl rfl,?_⟩
 ·exact z01 _ _ _ _
 ·rw[← y82];exact z06 _ _ _ _
 ·rw[← y4z];exact z1f _ _ _ _
 intro k hk;rcases hk with rfl|rfl|rfl<;>omega
theorem y36(w:World)(cb lb ib n:Nat)(l:List Nat)(h:Q41 w cb lb ib n l)(hn:n<=100000) :
  Calls Tryz.prog 96 #[Q8m cb] w fun e w'=>e=.returned (.tuple #[])/\Q41 w' cb lb ib n []/\Mod (Q12 cb lb ib) w w':=by
 obtain⟨⟨f1,f2,f3⟩,f4,_,f5,z1,z2,z3⟩:=h.facts;have H:=hid h;clear f4 f5 h;go_enter Tryz.func96,Tryz.ntmps96
 go_wp2;go_loopw [8] (fun i wr=>∃k:Nat,i=.int .i64 k/\k<=n/\wr.heap[cb]? = w.heap[cb]?/\wr.heap[lb]? = w.heap[lb]? /\
   (∃bs:Array Value,bs.size=n/\wr.heap[ib]? = some (.cells bs 4 (0,0))/\∀j,j<k->bs[j]? = some (.bool false))/\Mod (Q12 cb lb ib) w wr)
   (fun i _=>n-(intOf i).toNat)
 case atStart=>exact⟨0,rfl,by omega,rfl,rfl,⟨Q35 n l,by simp[Q35],H.ins,by omega⟩,mRf _ _⟩
 obtain⟨k,rfl,hk,hb,j3,⟨bs,j6,j1,j0⟩,j2⟩:=hrel;have c1:=Q0b (hb.trans H.blk);have c4:=Q0f (hb.trans H.blk);by_cases hx:k<n
 ·have c2:wr.cell? ⟨ib,k,none⟩=some bs[k]:=by rw[Q0b j1];simp
  have c3:=Q0f j1;have HB:=hid hb;have j4:=hid j3;have j5:=hid j1;have HA:=hid j0;clear hb j3 j1 j0;go_wp2;go_roundw
  case rel =>
   refine⟨k+1,by go_num,by omega,?_,?_,⟨bs.setIfInBounds k (.bool false),by simpa using j6,zhs j5.out _ _,?_⟩,?_⟩
   ·rw[Proofs.YtbdpfmalabgmbaaGreat.heap_setCell_other _ (by simpa using H.d2)];exact HB.out
   ·rw[Proofs.YtbdpfmalabgmbaaGreat.heap_setCell_other _ (by simpa using H.d3)];exact j4.out
   ·intro j hj;rw[qEx];by_cases e:k=j
    ·rw[qAb e,qAb (by omega)]
    rw[qAa e];exact HA.out j (by omega)
   exact j2.setCell (fun _=>.inr (.inr rfl)) _
  simp[intOf];omega
 have j7:k=n:=by omega
 subst j7;have HB:=hid hb;have j4:=hid j3;have j5:=hid j1;have HA:=hid j0;clear hb j3 j1 j0;go_wp2;refine qFf (qDe rfl _ _ _) rfl ⟨rfl,?_,j2.setCell (fun _=>.inl rfl) _⟩;obtain⟨ls,h1,h2,h3⟩:=H.lst;refine⟨by simp,by simp,?_,⟨ls,h1,by simp,?_⟩,?_,H.d1,H.d2,H.d3⟩
 ·rw[zhs (HB.trans H.blk) 1 _];simp
 ·exact z0h (j4.trans h3) (by simpa using H.d1.symm)
 refine z0h ?_ (by simpa using H.d2.symm);rw[j5.out];have:bs=Q35 k []:=by
  apply qEw;intro i;by_cases hi:i<k
  ·rw[HA.out i hi,y04 _ _ _ hi];simp
  rw[Array.getElem?_eq_none (by omega),Array.getElem?_eq_none (by simp[Q35];omega)]
 rw[this]
theorem Q15.cell{w:World}{g n cap:Nat}{ns:List Q0q}(h:Q15 w (.slice (some ⟨g,0,none⟩) n cap) ns)(i j:Nat)(hi:i<ns.length)(hj:j<7):w.cell? ⟨g,i*7+j,none⟩=(ns[i]).cells[j]? := by
 have j0:j<(ns[i]).cells.length:=by rw[Q0q.cells_len (h.wf _ (by simp))];exact hj
 have:=h.own.cells (g:=g) rfl (i*7+j) ((ns[i]).cells[j]) (by rw[z9w h.wf i j hi hj];simp);rw[qDd,qBy]at this;rw[this];simp
theorem Q15.reads{w:World}{g n cap:Nat}{ns:List Q0q}(h:Q15 w (.slice (some ⟨g,0,none⟩) n cap) ns)(i:Nat)(hi:i<ns.length) :
  w.cell? ⟨g,i*7,none⟩=some (.bool (ns[i]).reads)/\w.cell? ⟨g,i*7+5,none⟩=some (.int .i64 (ns[i]).next)/\w.cell? ⟨g,i*7+6,none⟩=some (.int .i64 (ns[i]).other):=by
 have hw:=h.wf _ (qG hi);refine⟨?_,?_,?_⟩
 ·have:=h.cell i 0 hi (by omega);rw[Q0q.cells_at hw]at this;simpa using this
 ·have:=h.cell i 5 hi (by omega);rw[Q0q.cells_at hw]at this;simpa using this
 have:=h.cell i 6 hi (by omega);rw[Q0q.cells_at hw]at this;simpa using this
def Q28(ns:List Q0q):Nat->Nat->List Nat->List Nat
 |0,_,l=>l
 |f+1,i,l =>
  if h:i<l.length then
   match ns[l[i]]? with
   |some nd=>if nd.reads then Q28 ns f (i+1) l else Q28 ns f (i+1) (Q1f ns.length (Q1f ns.length l nd.next) nd.other)
   |none=>Q28 ns f (i+1) l
  else l
def Q11(ns:List Q0q)(l:List Nat):List Nat:=Q28 ns (ns.length+1) 0 l
theorem Q19{B:Nat}(i:Nat)(h:i<B):B-(intOf (.int .i64 ((i:Int)+1))).toNat<B-(intOf (.int .i64 (i:Int))).toNat:=by
 simp[intOf];omega
theorem y09(n:Nat)(l:List Nat)(m:Int):l.length<=(Q1f n l m).length:=by
 unfold Q1f;split<;>simp
theorem y11(w:World)(v:Value)(st en:Int)(ns:List Q0q)(cb lb ib:Nat)(l:List Nat)(hN:Q15 w v ns)(hC:Q41 w cb lb ib ns.length l)(hn:ns.length<=100000)(hd:∀k,v.ownBlock=some k->¬Q12 cb lb ib k) :
  Calls Tryz.prog 94 #[patV v st en,Q8m cb] w fun e w'=>e=.returned (.tuple #[])/\Q41 w' cb lb ib ns.length (Q11 ns l)/\Mod (Q12 cb lb ib) w w':=by
 have jd:=hid hN;have HD:=hid hd;generalize hR:Q11 ns l=R;have HR:Hid (Q28 ns (ns.length+1) 0 l=R):=hR;have jc:=hid hC;have jb:∀k,Q12 cb lb ib k->k<w.heap.size:=fun k hk=>hC.foot_lt hk;have HF:=hid jb;clear hR hN hC hd jb;go_enter Tryz.func94,Tryz.ntmps94
 go_wp2;go_loopw [4] (fun x wr=>∃(f i:Nat) (l':List Nat),x=.int .i64 i/\Q28 ns f i l'=R/\i<=l'.length/\ns.length+1<=f+i/\Q41 wr cb lb ib ns.length l'/\Q15 wr v ns /\
   wr.heap[w.heap.size]? = some (.cells #[v,.int .i64 st,.int .i64 en] 79 (0,0))/\Mod (Q12 cb lb ib) w wr)
   (fun x _=>100001-(intOf x).toNat)
 case atStart =>
  have m1:Mod (Q12 cb lb ib) w (w.alloc (.cells #[v,.int .i64 st,.int .i64 en] 79 (0,0))):=(mRf _ w).alloc _;have m2:Q0a w (w.alloc (.cells #[v,.int .i64 st,.int .i64 en] 79 (0,0))):=(mRf _ w).alloc _;exact⟨ns.length+1,0,l,rfl,HR.out,by omega,by omega,jc.kept m2 (fun _ _ x=>x),jd.kept m2 (fun _ _ x=>x),z0a _ _,m1⟩
 obtain⟨f,i,l',rfl,hR,hi,jf,hC,hN,hb,hm⟩:=hrel;have je:=z4d hC.nodup hC.lt;obtain⟨⟨f1,f2,f3⟩,_⟩:=hC.facts;have HC:=hid hC;have j2:=hid hN;have HB:=hid hb;have HM:=hid hm;have c1:=Q0b hb;clear hC hN hb hm;have j8:=hid (Q19 (B:=100001) i (by omega));by_cases j5:i<l'.length
 ·obtain⟨f,rfl⟩:∃g,f=g+1:=⟨f-1,by omega⟩;unfold Q28 at hR;rw[qEt j5]at hR;have hx:l'[i]<ns.length:=HC.lt _ (by simp);obtain⟨g,cap,hv⟩:=Joins.ownsRow_form j2.own (by omega);rw[qE hx]at hR;simp only[]at hR;have MI:=hid (y41 wr cb lb ib ns.length l' i HC.out hn j5);generalize hm:l'[i]=m at hx hR MI;subst hv;obtain⟨n1,n2,n3⟩:=j2.reads m hx;have j7:∀k,Q12 cb lb ib k->k<w.heap.size:=HF.out;cases hrd:ns[m].reads
  ·rw[hrd]at hR n1;simp only[qF,qAz]at hR;have j0:=hid hR;have q0:¬Q12 cb lb ib w.heap.size:=fun h=>by have:=j7 _ h;omega
   have Q0:=hid q0;clear hR hm j7 q0;have j4:=HC.out;have j3:=j2.out;have j1:Mod (Q12 cb lb ib) wr wr:=mRf _ _;go_wp2_with (first
    |(go_at_call 118;refine MI.mono ?_;rintro e w'⟨rfl,hw⟩;rw[hw];clear hw)
    |(go_at_call 93;refine(z85 _ cb lb ib _ _ _ j4 hn).mono ?_;rintro e w1⟨rfl,ja,j6⟩;replace j1:=j1.trans j6;replace j3:=j3.kept j6 HD.out;clear j4;have j4:=ja;clear ja j6;have c2:=Q0b (j1.at HB.out Q0.out);have n4:=(j3.reads m hx).2.2))
   go_roundw
   case rel =>
    have e1:=y09 ns.length l' ns[m].next;have e2:=y09 ns.length (Q1f ns.length l' ns[m].next) ns[m].other;exact⟨f,i+1,_,by go_num,j0.out,by omega,by omega,j4,j3,j1.at HB.out Q0.out,HM.trans j1⟩
   exact j8.out
  rw[hrd]at hR n1;simp only[qBn]at hR;have j0:=hid hR;clear hR hm j7;go_wp2_with (first
   |(go_at_call 118;refine MI.mono ?_;rintro e w'⟨rfl,hw⟩;rw[hw];clear hw))
  go_roundw
  case rel =>
   exact⟨f,i+1,l',by go_num,j0.out,by omega,by omega,HC.out,j2.out,HB.out,HM.out⟩
  exact j8.out
 have j9:l'=R:=by
  rw[← hR];cases f with
  |zero=>rfl
  |succ f=>unfold Q28;rw[qFm j5]
 have j0:=hid j9;clear hR j9;go_wp2;refine qFf (qDe rfl _ _ _) rfl ⟨rfl,?_,HM.out⟩;rw[← j0.out];exact HC.out
def Q3u(ns:List Q0q)(c:Nat)(acc:List Nat)(m:Nat):List Nat :=
 match ns[m]? with
 |some nd=>if nd.reads&&Q5y nd.set c then Q1f ns.length acc nd.next else acc
 |none=>acc
def Q5g(ns:List Q0q)(c:Nat)(l acc:List Nat):List Nat:=l.foldl (Q3u ns c) acc
theorem x1b(ns:List Q0q)(c:Nat)(l acc:List Nat)(i:Nat)(hi:i<l.length):Q5g ns c (l.take (i+1)) acc=Q3u ns c (Q5g ns c (l.take i) acc) l[i]:=by
 unfold Q5g;rw[qCu,List.foldl_append];simp[hi]
theorem Q15.range{w:World}{g n cap:Nat}{ns:List Q0q}(h:Q15 w (.slice (some ⟨g,0,none⟩) n cap) ns)(i:Nat)(hi:i<ns.length) :
  w.rangeAt g (i*7+1) ((ns[i]).set.map (Value.int .u64)):=by
 intro j v hj;have hw:=h.wf _ (qG hi);have j0:j<4:=by have:=(qS hj).1;simp[Q0q.wf]at hw;simpa [hw]using this
 have:=h.cell i (j+1) hi (by omega);have e:i*7+1+j=i*7+(j+1):=by omega
 rw[e,this,Q0q.cells_at hw,qAa (by omega),qAb (by omega)];simp at hj;obtain⟨a,ha,rfl⟩:=hj;simp[ha]
theorem x5f(w:World)(v:Value)(st en:Int)(cb cb2:Nat) :
  Calls Tryz.prog 98 #[patV v st en,Q8m cb,.int .i64 (-1),Q8m cb2] w fun e w'=>e=.returned (.tuple #[])/\Q0a w w':=by
 go_enter Tryz.func98,Tryz.ntmps98
 go_wp2;exact qAc (qDe rfl _ _ _) rfl ⟨rfl,(mRf _ _).alloc _⟩
theorem x76(w:World)(v:Value)(st en:Int)(ns:List Q0q)(cb lb ib cb2 lb2 ib2:Nat)(l acc:List Nat)(c:Nat)(hc:c<=255)(hN:Q15 w v ns)(hC:Q41 w cb lb ib ns.length l)(hC2:Q41 w cb2 lb2 ib2 ns.length acc)(hn:ns.length<=100000)
  (hd:∀k,v.ownBlock=some k->¬Q12 cb2 lb2 ib2 k) (hd2:∀k,Q12 cb lb ib k->¬Q12 cb2 lb2 ib2 k) :
  Calls Tryz.prog 98 #[patV v st en,Q8m cb,.int .i64 c,Q8m cb2] w fun e w'=>e=.returned (.tuple #[])/\Q41 w' cb2 lb2 ib2 ns.length (Q5g ns c l acc)/\Mod (Q12 cb2 lb2 ib2) w w':=by
 have jc:=hid hN;have HD:=hid hd;have jb:=hid hd2;have ja:=hid hC;have j5:=hid hC2;have j8:∀k,Q12 cb2 lb2 ib2 k->k<w.heap.size:=fun k hk=>hC2.foot_lt hk;have Q0:=hid (show ¬Q12 cb2 lb2 ib2 w.heap.size from fun h=>by have:=j8 _ h;omega);have jf:=z4d hC.nodup hC.lt;have jg:((c:Int)==-1)=false:=by simp
 clear hN hC hC2 hd hd2 j8;go_enter Tryz.func98,Tryz.ntmps98
 go_wp2;go_loopw [8] (fun x wr=>∃(i:Nat),x=.int .i64 i/\i<=l.length/\Q41 wr cb lb ib ns.length l/\Q41 wr cb2 lb2 ib2 ns.length (Q5g ns c (l.take i) acc)/\Q15 wr v ns /\
   wr.heap[w.heap.size]? = some (.cells #[v,.int .i64 st,.int .i64 en] 79 (0,0))/\Mod (Q12 cb2 lb2 ib2) w wr)
   (fun x _=>100001-(intOf x).toNat)
 case atStart =>
  have m1:Mod (Q12 cb2 lb2 ib2) w (w.alloc (.cells #[v,.int .i64 st,.int .i64 en] 79 (0,0))):=(mRf _ w).alloc _;have m2:Q0a w (w.alloc (.cells #[v,.int .i64 st,.int .i64 en] 79 (0,0))):=(mRf _ w).alloc _;exact⟨0,rfl,by omega,ja.kept m2 (fun _ _ x=>x),j5.kept m2 (fun _ _ x=>x),jc.kept m2 (fun _ _ x=>x),z0a _ _,m1⟩
 obtain⟨i,rfl,hi,hC,hC2,hN,hb,hm⟩:=hrel;obtain⟨⟨f1,f2,f3⟩,_⟩:=hC.facts;have HC:=hid hC;have j2:=hid hC2;have j0:=hid hN;have HB:=hid hb;have HM:=hid hm;have c1:=Q0b hb;clear hC hC2 hN hb hm;have j6:=hid (Q19 (B:=100001) i (by omega));by_cases j9:i<l.length
 ·have hx:l[i]<ns.length:=HC.lt _ (by simp);obtain⟨g,cap,hv⟩:=Joins.ownsRow_form j0.own (by omega);have j3:=hid (x1b ns c l acc i j9);have MI:=hid (y41 wr cb lb ib ns.length l i HC.out hn j9);generalize hm:l[i]=m at hx j3 MI;subst hv;obtain⟨n1,n2,n3⟩:=j0.reads m hx;have RG:=hid (j0.range m hx);have j7:=hid (j0.wf _ (qG hx));have SZ:Hid ((Tryz.prog.info? 214).map (·.size)=some (((ns[m]).set.map (Value.int .u64)).length)):=by
   have:=j7.out;unfold Q0q.wf at this;unfold Hid;rw[qAv,this];exact Q9l
  clear hm;cases hrd:ns[m].reads
  ·rw[hrd]at n1;have j1:Hid (Q5g ns c (l.take (i+1)) acc=Q5g ns c (l.take i) acc):=by
    unfold Hid;rw[j3.out];unfold Q3u;rw[qE hx];simp[hrd]
   go_wp2_with (first
    |(go_at_call 118;refine MI.mono ?_;rintro e w'⟨rfl,hw⟩;rw[hw];clear hw))
   go_roundw
   case rel =>
    exact⟨i+1,by go_num,by omega,HC.out,by rw[j1.out];exact j2.out,j0.out,HB.out,HM.out⟩
   exact j6.out
  rw[hrd]at n1;cases hhas:Q5y ns[m].set c
  ·have j1:Hid (Q5g ns c (l.take (i+1)) acc=Q5g ns c (l.take i) acc):=by
    unfold Hid;rw[j3.out];unfold Q3u;rw[qE hx];simp[hhas]
   go_wp2_with (first
    |(go_at_call 118;refine MI.mono ?_;rintro e w'⟨rfl,hw⟩;rw[hw];clear hw)
    |(go_at_call 119;refine(x25 ns[m].set c _ j7.out hc).mono ?_;rw[hhas];rintro e w1⟨rfl,hf⟩)
    |(refine qAe rfl 214 _ rfl g (m*7+1) rfl ((ns[m]).set.map (Value.int .u64)) _ RG.out qBo rfl SZ.out ?_))
   go_roundw
   case rel =>
    exact⟨i+1,by go_num,by omega,HC.kept hf (fun _ _ x=>x),by rw[j1.out];exact j2.kept hf (fun _ _ x=>x),j0.kept hf (fun _ _ x=>x),hf.at HB.out id,HM.trans (hf.mono (fun _ _ x=>x.elim))⟩
   exact j6.out
  have j1:Hid (Q5g ns c (l.take (i+1)) acc=Q1f ns.length (Q5g ns c (l.take i) acc) ns[m].next):=by
   unfold Hid;rw[j3.out];unfold Q3u;rw[qE hx];simp[hhas,hrd]
  go_wp2_with (first
   |(go_at_call 118;refine MI.mono ?_;rintro e w'⟨rfl,hw⟩;rw[hw];clear hw)
   |(go_at_call 119;refine(x25 ns[m].set c _ j7.out hc).mono ?_;rw[hhas];rintro e w1⟨rfl,hf⟩;have c2:=Q0b (hf.at HB.out id);have n4:=((j0.kept hf (fun _ _ x=>x)).reads m hx).2.1)
   |(go_at_call 93;refine(z85 w1 cb2 lb2 ib2 _ _ _ (j2.kept hf (fun _ _ x=>x)) hn).mono ?_;rintro e w2⟨rfl,jd,j4⟩)
   |(refine qAe rfl 214 _ rfl g (m*7+1) rfl ((ns[m]).set.map (Value.int .u64)) _ RG.out qBo rfl SZ.out ?_))
  go_roundw
  case rel =>
   exact⟨i+1,by go_num,by omega,(HC.kept hf (fun _ _ x=>x)).kept j4 jb.out,by rw[j1.out];exact jd,(j0.kept hf (fun _ _ x=>x)).kept j4 HD.out,j4.at (hf.at HB.out id) Q0.out,(HM.trans (hf.mono (fun _ _ x=>x.elim))).trans j4⟩
  exact j6.out
 have je:i=l.length:=by omega
 subst je;go_wp2;refine qFf (qDe rfl _ _ _) rfl ⟨rfl,?_,HM.out⟩;have:=j2.out;rw[qAw]at this;exact this
def Q7k(n:Nat)(t:List Nat)(en:Int):Bool:=decide (0<=en/\en<n/\en.toNat∈t)
def Q6a(ns:List Q0q)(s:ByteArray)(i:Nat)(t:List Nat):List Nat:=if h:i<s.size then Q5g ns s[i].toNat t [] else []
def W0g(ns:List Q0q)(en:Int)(s:ByteArray):Nat->Nat->List Nat->Int->Int
 |0,_,_,best=>best
 |f+1,i,l,best =>
  if i<=s.size/\0<l.length then W0g ns en s f (i+1) (Q6a ns s i (Q11 ns l)) (if Q7k ns.length (Q11 ns l) en then i else best)
  else best
def Q5f(ns:List Q0q)(st en:Int)(s:ByteArray)(i:Nat):Int:=W0g ns en s (s.size+2) i (Q1f ns.length [] st) (-1)
theorem Q0a.step{w wr w1:World}{S:Nat->Prop}(h:Q0a w wr)(hm:Mod S wr w1)(hS:∀k,S k->w.heap.size<=k):Q0a w w1 :=
 Mod.trans' (S:=fun _=>False) h hm (fun i hi hs=>absurd (hS i hs) (by omega))
theorem z9t(w:World)(v:Value)(st en:Int)(ns:List Q0q)(s:ByteArray)(i0:Nat)(hN:Q15 w v ns)(hn:ns.length<=100000)(hs:s.size<=1000)(hi:i0<=2000) :
  Calls Tryz.prog 58 #[patV v st en,.string s,.int .i64 i0] w fun e w'=>e=.returned (.int .i64 (Q5f ns st en s i0))/\Q0a w w':=by
 have kg:=hid hN;generalize hR:Q5f ns st en s i0=R;have HR:Hid (W0g ns en s (s.size+2) i0 (Q1f ns.length [] st) (-1)=R):=hR;have kd:∀k,v.ownBlock=some k->k<w.heap.size:=fun k hk=>(hN.own.lt k hk).2;have jz:=hid kd;obtain⟨ao,cap,hv⟩:=z0c hN.own;subst hv;clear hR hN kd;go_enter Tryz.func58,Tryz.ntmps58
 have k8:Q0a w (w.alloc (.cells #[.slice ao ns.length cap,.int .i64 st,.int .i64 en] 79 (0,0))):=(mRf _ w).alloc _;have ju:=hid (z0a w (.cells #[.slice ao ns.length cap,.int .i64 st,.int .i64 en] 79 (0,0)));go_wp2_with (first
  |(go_at_call 92;refine(z7x _ ns.length hn).mono ?_;rintro e w1⟨c1,l1,b1,rfl,jp,jd,ka⟩;have k1:=Q0b (jd.at ju.out id)))
 have jv:=hid (jd.at ju.out id);clear k1;go_wp2_with (first
  |(go_at_call 92;refine(z7x w1 ns.length hn).mono ?_;rintro e w2⟨c2,l2,b2,rfl,k4,je,kb⟩;have k1:=Q0b (je.at jv.out id)))
 clear k1;have jw:=hid (je.at jv.out id);have jb:=jp.kept je (fun _ _ x=>x);have q1:∀k,Q12 c1 l1 b1 k->w.heap.size<k:=fun k hk=>by have:=ka k hk;simp at this;omega
 have q2:∀k,Q12 c2 l2 b2 k->w1.heap.size<=k:=kb;have z1:w.heap.size<w1.heap.size:=by have:=jd.size;simp at this;omega
 have jt:∀k,Q12 c1 l1 b1 k->¬Q12 c2 l2 b2 k:=fun k hk h2=>by have:=jp.foot_lt hk;have:=q2 k h2;omega
 have k0:Q0a w w2:=(k8.trans jd).trans je;have k1:=Q0b jw.out;go_wp2_with (first
  |(go_at_call 93;refine(z85 w2 c1 l1 b1 _ _ _ jb hn).mono ?_;rintro e w3⟨rfl,k5,jj⟩))
 have k3:=jj.at jw.out (fun h=>by have:=q1 _ h;omega);have k2:=Q0a.step k0 jj (fun k hk=>by have:=q1 k hk;omega);have jc:=k4.kept jj (fun k hk h1=>jt k h1 hk);clear k1 jp jb k4 jd je ka kb jj k8;have ST:Hid (∃(f i:Nat) (l jh:List Nat) (j4:Int) (ca la ia cb lb ib:Nat),
   (Value.int .i64 (-1)=.int .i64 j4/\Q8m c1=Q8m ca/\Q8m c2=Q8m cb/\Value.int .i64 i0=.int .i64 i)/\W0g ns en s f i l j4=R/\s.size+2<=f+i/\i<=3000 /\
   Q41 w3 ca la ia ns.length l/\Q41 w3 cb lb ib ns.length jh/\(∀k,Q12 ca la ia k->w.heap.size<k)/\(∀k,Q12 cb lb ib k->w.heap.size<k)/\(∀k,Q12 ca la ia k->¬Q12 cb lb ib k) /\
   w3.heap[w.heap.size]? = some (.cells #[.slice ao ns.length cap,.int .i64 st,.int .i64 en] 79 (0,0))/\Q0a w w3) :=
  ⟨s.size+2,i0,_,_,-1,c1,l1,b1,c2,l2,b2,⟨rfl,rfl,rfl,rfl⟩,HR.out,by omega,by omega,k5,jc,q1,fun k hk=>by have:=q2 k hk;omega,jt,k3,k2⟩
 clear k5 jc q1 q2 jt k3 k2 k0 z1;go_loopw [7,8,9,10] (fun x7 x8 x9 x10 wr=>∃(f i:Nat) (l jh:List Nat) (j4:Int) (ca la ia cb lb ib:Nat),
   (x7=.int .i64 j4/\x8=Q8m ca/\x9=Q8m cb/\x10=.int .i64 i)/\W0g ns en s f i l j4=R/\s.size+2<=f+i/\i<=3000 /\
   Q41 wr ca la ia ns.length l/\Q41 wr cb lb ib ns.length jh/\(∀k,Q12 ca la ia k->w.heap.size<k)/\(∀k,Q12 cb lb ib k->w.heap.size<k)/\(∀k,Q12 ca la ia k->¬Q12 cb lb ib k) /\
   wr.heap[w.heap.size]? = some (.cells #[.slice ao ns.length cap,.int .i64 st,.int .i64 en] 79 (0,0))/\Q0a w wr)
   (fun _ _ _ x _=>3001-(intOf x).toNat)
 case atStart=>exact ST.out
 obtain⟨f,i,l,jh,j4,ca,la,ia,cb,lb,ib,⟨rfl,rfl,rfl,rfl⟩,hR,kj,kk,hA,hB,qa,qb,ke,jf,jq⟩:=hrel;obtain⟨⟨a1,a2,a3⟩,_⟩:=hA.facts;have kh:=hid (kg.kept jq (fun _ _ x=>x));have HA:=hid hA;have kf:=hid hB;have QA:=hid qa;have QB:=hid qb;have j9:=hid ke;have jx:=hid jf;have jn:=hid jq;clear hA hB qa qb ke jf jq ST;by_cases k9:i<=s.size/\0<l.length
 ·obtain⟨ki,jr⟩:=k9;obtain⟨f,rfl⟩:∃g,f=g+1:=⟨f-1,by omega⟩;unfold W0g at hR;rw[qAb ⟨ki,jr⟩]at hR;have jy:=hid (Q19 (B:=3001) i (by omega));have kc:(0:Int)<(l.length:Int):=by omega
  have jk:Hid (∀k,(Value.slice ao ns.length cap).ownBlock=some k->¬Q12 ca la ia k):=fun k hk h=>by have:=jz.out k hk;have:=QA.out k h;omega
  have js:Hid (∀k,(Value.slice ao ns.length cap).ownBlock=some k->¬Q12 cb lb ib k):=fun k hk h=>by have:=jz.out k hk;have:=QB.out k h;omega
  have nA:Hid (¬Q12 ca la ia w.heap.size):=fun h=>by have:=QA.out _ h;omega
  have nB:Hid (¬Q12 cb lb ib w.heap.size):=fun h=>by have:=QB.out _ h;omega
  have qA:Hid (∀k,Q12 ca la ia k->w.heap.size<=k):=fun k hk=>by have:=QA.out k hk;omega
  have qB:Hid (∀k,Q12 cb lb ib k->w.heap.size<=k):=fun k hk=>by have:=QB.out k hk;omega
  have jl:Hid (∀k,Q12 cb lb ib k->¬Q12 ca la ia k):=fun k h1 h2=>j9.out k h2 h1;have j3:=HA.out;have j5:=kf.out;have j6:=kh.out;have j2:=jn.out;have k1:=Q0b jx.out;have j0:=jx;by_cases ji:i<s.size
  ·have j8:atB s (i:Int)=((s[i].toNat:Nat):Int):=by simp[atB,ji]
   have k7:s[i].toNat<=255:=by have:=s[i].toNat_lt;omega
   have jg:Q6a ns s i (Q11 ns l)=Q5g ns s[i].toNat (Q11 ns l) []:=by unfold Q6a;rw[qEt ji]
   rw[jg]at hR;generalize s[i].toNat=cN at j8 k7 hR;have jm:=hid j8
   cases hh:Q7k ns.length (Q11 ns l) en;all_goals
    rw[hh]at hR;have j7:=hid hR;have HH:Hid (decide (0<=en/\en<(ns.length:Int)/\en.toNat∈Q11 ns l)=_):=hh;clear hR hh jg j8
    go_wp2_with (first
     |(go_at_call 94;refine(y11 _ _ _ _ ns ca la ia l j6 j3 hn jk.out).mono ?_;rintro e w1⟨rfl,jo,j1⟩;replace j3:=jo;replace j5:=j5.kept j1 jl.out;replace j6:=j6.kept j1 jk.out;replace j2:=Q0a.step j2 j1 qA.out;replace j0:=hid (j1.at j0.out nA.out);clear k1;have k1:=Q0b j0.out;clear j1)
     |(go_at_call 95;refine(y4n _ ca la ia ns.length _ en j3 hn).mono ?_;rw[HH.out];rintro e w'⟨rfl,hw⟩;rw[hw];clear hw)
     |(go_at_call 96;refine(y36 _ cb lb ib _ _ j5 hn).mono ?_;rintro e w1⟨rfl,ja,j1⟩;replace j5:=ja;replace j3:=j3.kept j1 j9.out;replace j6:=j6.kept j1 js.out;replace j2:=Q0a.step j2 j1 qB.out;replace j0:=hid (j1.at j0.out nB.out);clear k1;have k1:=Q0b j0.out;clear j1)
     |(go_at_call 97;refine(z0x _ _ _ (by unfold maxLen;omega)).mono ?_;rw[jm.out];rintro e w'⟨rfl,hw⟩;rw[hw];clear hw)
     |(go_at_call 98;refine(x76 _ _ _ _ ns ca la ia cb lb ib _ _ cN k7 j6 j3 j5 hn js.out j9.out).mono ?_;rintro e w1⟨rfl,ja,j1⟩;replace j5:=ja;replace j3:=j3.kept j1 j9.out;replace j2:=Q0a.step j2 j1 qB.out;replace j0:=hid (j1.at j0.out nB.out);clear k1 j1))
    go_roundw
    case rel=>exact⟨f,i+1,_,_,_,cb,lb,ib,ca,la,ia,⟨rfl,rfl,rfl,by go_num⟩,j7.out,by omega,by omega,j5,j3,QB.out,QA.out,jl.out,j0.out,j2⟩
    exact jy.out
  have j8:atB s (i:Int)=-1:=by simp[atB,ji]
  have jg:Q6a ns s i (Q11 ns l)=[]:=by unfold Q6a;rw[qFm ji]
  rw[jg]at hR;have jm:=hid j8
  cases hh:Q7k ns.length (Q11 ns l) en;all_goals
   rw[hh]at hR;have j7:=hid hR;have HH:Hid (decide (0<=en/\en<(ns.length:Int)/\en.toNat∈Q11 ns l)=_):=hh;clear hR hh jg j8
   go_wp2_with (first
    |(go_at_call 94;refine(y11 _ _ _ _ ns ca la ia l j6 j3 hn jk.out).mono ?_;rintro e w1⟨rfl,jo,j1⟩;replace j3:=jo;replace j5:=j5.kept j1 jl.out;replace j6:=j6.kept j1 jk.out;replace j2:=Q0a.step j2 j1 qA.out;replace j0:=hid (j1.at j0.out nA.out);clear k1;have k1:=Q0b j0.out;clear j1)
    |(go_at_call 95;refine(y4n _ ca la ia ns.length _ en j3 hn).mono ?_;rw[HH.out];rintro e w'⟨rfl,hw⟩;rw[hw];clear hw)
    |(go_at_call 96;refine(y36 _ cb lb ib _ _ j5 hn).mono ?_;rintro e w1⟨rfl,ja,j1⟩;replace j5:=ja;replace j3:=j3.kept j1 j9.out;replace j6:=j6.kept j1 js.out;replace j2:=Q0a.step j2 j1 qB.out;replace j0:=hid (j1.at j0.out nB.out);clear k1;have k1:=Q0b j0.out;clear j1)
    |(go_at_call 97;refine(z0x _ _ _ (by unfold maxLen;omega)).mono ?_;rw[jm.out];rintro e w'⟨rfl,hw⟩;rw[hw];clear hw)
    |(go_at_call 98;refine(x5f _ _ _ _ _ _).mono ?_;rintro e w1⟨rfl,j1⟩;replace j5:=j5.kept j1 (fun _ _ x=>x);replace j3:=j3.kept j1 (fun _ _ x=>x);replace j2:=j2.trans j1;replace j0:=hid (j1.at j0.out id);clear k1 j1))
   go_roundw
   case rel=>exact⟨f,i+1,_,_,_,cb,lb,ib,ca,la,ia,⟨rfl,rfl,rfl,by go_num⟩,j7.out,by omega,by omega,j5,j3,QB.out,QA.out,jl.out,j0.out,j2⟩
   exact jy.out
 have k6:j4=R:=by
  rw[← hR];cases f with
  |zero=>rfl
  |succ f=>unfold W0g;rw[qAa k9]
 have j7:=hid k6;clear hR k6;by_cases h1:i<=s.size
 ·have h2:l.length=0:=by omega
  rw[h2]at a2;go_wp2;go_ret;exact⟨z1i j7.out,jn.out⟩
 go_wp2;go_ret;exact⟨z1i j7.out,jn.out⟩
section
variable {α:Type}(cells:α->List Value) (k:Nat)
def Q0y(xs:List α):List Value:=xs.flatMap cells
theorem z25{xs:List α}(h:∀x∈xs,(cells x).length=k):(Q0y cells xs).length=xs.length*k:=by
 induction xs with
 |nil=>simp[Q0y]
 |cons n ns ih =>
  have h1:=h n (by simp);have h2:=ih (fun m hm=>h m (by simp[hm]));simp only[Q0y,qEp,qP,qBk]at h2 ⊢;rw[h2,h1,qFc];omega
theorem z5w{xs:List α}(h:∀x∈xs,(cells x).length=k)(i j:Nat)(hi:i<xs.length)(hj:j<k):(Q0y cells xs)[i*k+j]? = (cells xs[i])[j]? := by
 induction xs generalizing i with
 |nil=>simp at hi
 |cons n ns ih =>
  have h1:=h n (by simp);simp only[Q0y,qEp];cases i with
  |zero=>rw[qAl (by simp;omega)];simp
  |succ i =>
   have e0:(i+1)*k=i*k+k:=Nat.succ_mul i k;rw[qAr (by omega),h1];have e:(i+1)*k+j-k=i*k+j:=by omega
   rw[e];exact ih (fun m hm=>h m (by simp[hm])) i (by simpa using hi)
end
structure Q18{α:Type}(cells:α->List Value)(k:Nat)(T:TypeId)(w:World)(v:Value)(xs:List α):Prop where
 own:w.ownsRow 0 T k v xs.length (Q0y cells xs)
 wf:∀x∈xs,(cells x).length=k
theorem Q18.kept{α:Type}{cells:α->List Value}{k:Nat}{T:TypeId}{S:Nat->Prop}{w w':World}{v:Value}{xs:List α}(h:Q18 cells k T w v xs)(hm:Mod S w w')(hs:∀b,v.ownBlock=some b->¬S b):Q18 cells k T w' v xs :=
 ⟨z0d h.own (fun g hg=>hm.block g (h.own.lt g hg).2 (hs g hg)),h.wf⟩
theorem Q18.fresh{α:Type}{cells:α->List Value}{k:Nat}{T:TypeId}{w w':World}{v:Value}{xs:List α}(h:Q18 cells k T w v xs)(hm:Q0a w w'):Q18 cells k T w' v xs:=h.kept hm (fun _ _ x=>x)
theorem Q15.fresh{w w':World}{v:Value}{ns:List Q0q}(h:Q15 w v ns)(hm:Q0a w w'):Q15 w' v ns:=h.kept hm (fun _ _ x=>x)
theorem Q18.range{α:Type}{cells:α->List Value}{k:Nat}{T:TypeId}{w:World}{g n cap:Nat}{xs:List α}(h:Q18 cells k T w (.slice (some ⟨g,0,none⟩) n cap) xs)(i:Nat)(hi:i<xs.length):w.rangeAt g (i*k) (cells xs[i]):=by
 intro j v hj;have j0:j<k:=by have:=(qS hj).1;rw[h.wf _ (by simp)]at this;exact this
 have:=h.own.cells (g:=g) rfl (i*k+j) v (by rw[z5w cells k h.wf i j hi j0];exact hj);rwa [qDd,qBy]at this
theorem Q18.cell{α:Type}{cells:α->List Value}{k:Nat}{T:TypeId}{w:World}{g n cap:Nat}{xs:List α}(h:Q18 cells k T w (.slice (some ⟨g,0,none⟩) n cap) xs)(i j:Nat)(hi:i<xs.length)(hj:j<k):w.cell? ⟨g,i*k+j,none⟩=(cells xs[i])[j]? := by
 have j0:j<(cells xs[i]).length:=by rw[h.wf _ (by simp)];exact hj
 rw[h.range i hi j _ (qE j0)];simp
theorem Q18.nil{α:Type}(cells:α->List Value)(k:Nat)(T:TypeId)(w:World):Q18 cells k T w (.slice none 0 0) []:=⟨qAh _ _ _ _,fun _ h=>by cases h⟩
structure Wd where
 place:Int
 ls:List Int
def Wd.cells(d:Wd):List Value:=.int .i64 d.place::d.ls.map (Value.int .u8)
def zero8:List Int:=[0,0,0,0,0,0,0,0]
def Q2l(s:ByteArray)(i:Int):Nat->Nat->List Int->List Int × Int
 |0,n,ls=>(ls,i+n)
 |f+1,n,ls =>
  if n<8 then
   if Q0m (atB s (i+n)) then Q2l s i f (n+1) (ls.set n (atB s (i+n))) else(ls,i+n)
  else(ls,i+8)
def Q07(s:ByteArray)(i:Int):Wd × Int × Bool :=
 if(!Q0m (atB s i)&&!Q1a (atB s i))=true then(⟨0,zero8⟩,i,false)
 else(⟨i,(Q2l s i 9 1 (zero8.set 0 (atB s i))).1⟩,(Q2l s i 9 1 (zero8.set 0 (atB s i))).2,true)
theorem z7d(s:ByteArray)(i:Int):∀(f n:Nat) (ls:List Int),ls.length=8->(Q2l s i f n ls).1.length=8
 |0,_,_,h=>h
 |f+1,n,ls,h=>by
  unfold Q2l;split
  ·split
   ·exact z7d s i f _ _ (by simpa using h)
   exact h
  exact h
theorem y5h(s:ByteArray)(i:Int)(h0:0<=i):∀(f n:Nat) (ls:List Int),n<=8->i+n<=s.size->i+n<=(Q2l s i f n ls).2/\(Q2l s i f n ls).2<=i+8/\(Q2l s i f n ls).2<=s.size
 |0,n,_,hn,hs=>by unfold Q2l;simp;omega
 |f+1,n,ls,hn,hs=>by
  unfold Q2l;split
  ·split
   ·rename_i h1 h2;have:=z0r (s:=s) (i:=i+n) (by intro e;rw[e]at h2;simp[Q0m]at h2);have:=y5h s i h0 f (n+1) (ls.set n (atB s (i+n))) (by omega) (by omega);omega
   simp;omega
  simp;omega
theorem y5i(s:ByteArray)(i:Int):(Q07 s i).1.ls.length=8:=by
 unfold Q07;split
 ·rfl
 exact z7d _ _ _ _ _ rfl
theorem z5p(s:ByteArray)(i:Int)(h0:0<=i):i<=(Q07 s i).2.1/\(Q07 s i).2.1<=i+8/\((Q07 s i).2.2=true->i<(Q07 s i).2.1/\(Q07 s i).2.1<=s.size):=by
 unfold Q07;split
 ·simp;omega
 rename_i h1;have h2:atB s i≠-1:=by intro e;rw[e]at h1;simp[Q0m,Q1a]at h1
 have:=z0r h2;have:=y5h s i h0 9 1 (zero8.set 0 (atB s i)) (by omega) (by omega);exact⟨by dsimp only;omega,by dsimp only;omega,fun _=>by dsimp only;omega⟩
theorem Wd.cells_len{d:Wd}(h:d.ls.length=8):d.cells.length=9:=by simp[Wd.cells,h]
theorem Q2s:(Tryz.prog.info? 76).map (·.size)=some 9:=by kernel_rfl
theorem Q1w{d:Wd}(h:d.ls.length=8):(Tryz.prog.info? 76).map (·.size)=some d.cells.toArray.size:=by rw[List.size_toArray,Wd.cells_len h];exact Q2s
theorem Wd.one(d:Wd):d.cells.toArray.all (·.oneCell')=true:=by
 apply qCq;intro v hv;simp[Wd.cells]at hv;rcases hv with rfl|⟨a,_,rfl⟩<;>rfl
theorem Wd.size{d:Wd}(h:d.ls.length=8):d.cells.toArray.size=9:=by rw[List.size_toArray,Wd.cells_len h]
theorem Q0l{a b:Array Value}{n:Nat}(ha:a.size=n)(hb:b.size=n):a.size=b.size:=ha.trans hb.symm
structure Itm where
 p:Nat
 d:Nat
 f:Nat
def apS(ts:Array TypeId)(ty:TypeId)(args:Array Value):Sem Value:=Builtin.append_ ts ty args
theorem z17(ts:Array TypeId)(ty:TypeId)(args:Array Value):Builtin.append_ ts ty args=apS ts ty args:=rfl
theorem z24{P:Program}(w:World)(base:Nat)(t ty e:TypeId)(i:TypeInfo)(z:Value)(size bytes:Nat)(ht:P.underlying t=some (.slice e))(hi:P.info? e=some i)(hz:i.zero=some z)
  (hsize:i.size=size) (hby:i.bytes=bytes) (hzs:z.cells.size=size) (hsz:0<size)
  (v:Value) (n:Nat) (xs:List Value) (hown:w.ownsRow base e size v n xs)
  (a:Addr) (m c:Nat) (news:List Value) (hl:news.length=m*size) (hnews:∀j u,news[j]? = some u->w.cell? (a.add j)=some u) (h1:∀u∈news,u.oneCell'=true)
  (h63:n+m<=maxLen) (hbytes:(n+m)*bytes<=140737488355328) (hbase:base<=w.heap.size) :
  ∃v' w',(apS #[t,t] ty #[v,.slice (some a) m c]).run P w=.ok v' w'/\w'.ownsRow base e size v' (n+m) (xs++news)/\w.grownBy w' v.ownBlock /\
   (∀k,v'.ownBlock=some k->v.ownBlock=some k∨w.heap.size<=k) :=
 z5c (P:=P) w base t ty e i z size bytes ht hi hz hsize hby hzs hsz v n xs hown a m c news hl hnews h1 h63 hbytes hbase
def bls(l:List Bool):List Value:=l.map Value.bool
def tkA(l:List Bool):Array Value:=(bls l).toArray
def zero9:List Bool:=[false,false,false,false,false,false,false,false,false]
def orL(a b:List Bool):List Bool:=List.zipWith (fun x y=>x||y) a b
theorem z04{a b:List Bool}(ha:a.length=9)(hb:b.length=9):(orL a b).length=9:=by simp[orL,ha,hb]
def Q2h(a:List Bool)(n:Int):List Bool:=if 0<=n/\n<9 then a.set n.toNat true else a
theorem z2t{a:List Bool}{n:Int}(ha:a.length=9):(Q2h a n).length=9:=by unfold Q2h;split<;>simpa using ha
def Q9e(a:List Bool)(n:Int):Bool:=if 0<=n then a.getD n.toNat false else false
def Q3s(a:List Bool):Nat->List Int
 |0=>[]
 |k+1=>if a.getD k false then Q3s a k++[(k:Int)] else Q3s a k
def Q3e(a:List Bool):List Int:=Q3s a 9
theorem Q75:(Tryz.prog.info? 147).map (·.size)=some 9:=by kernel_rfl
theorem Q0t{l:List Bool}(h:l.length=9):(Tryz.prog.info? 147).map (·.size)=some (tkA l).size:=by rw[Q75];simp[tkA,bls,h]
theorem Q5u{l:List Bool}(h:l.length=9):(Tryz.prog.info? 147).map (·.size)=some (bls l).length:=by rw[Q75];simp[tkA,bls,h]
theorem z0u{l:List Bool}(h:l.length=9):(tkA l).size=9:=by simp[tkA,bls,h]
theorem z1h(l:List Bool):(tkA l).all (·.oneCell')=true:=by
 unfold tkA;apply qCq;intro v hv;simp[bls]at hv;rcases hv with⟨_,rfl⟩|⟨_,rfl⟩<;>rfl
theorem y5x(l:List Bool)(i:Nat)(c:Bool):(tkA l).setIfInBounds i (.bool c)=tkA (l.set i c):=by simp[tkA,bls,qFr]
def orK(k:Nat)(a b:List Bool):List Bool:=(orL a b).take k++a.drop k
theorem x4d{k:Nat}{a b:List Bool}(ha:a.length=9)(hb:b.length=9)(hk:k<=9):(orK k a b).length=9:=by simp[orK,orL,ha,hb];omega
theorem x7c(a b:List Bool):orK 0 a b=a:=by simp[orK]
theorem x7b{a b:List Bool}(ha:a.length=9)(hb:b.length=9):orK 9 a b=orL a b:=by
 unfold orK;rw[qDg (by rw[z04 ha hb];omega),qAp (by omega)];simp
theorem Q7n{α:Type}{l:List α}(h:l.length=9):∃a0 a1 a2 a3 a4 a5 a6 a7 a8,l=[a0,a1,a2,a3,a4,a5,a6,a7,a8]:=by
 rcases l with _|⟨a0,_|⟨a1,_|⟨a2,_|⟨a3,_|⟨a4,_|⟨a5,_|⟨a6,_|⟨a7,_|⟨a8,_|⟨a9,l⟩⟩⟩⟩⟩⟩⟩⟩⟩⟩<;>simp at h;exact⟨a0,a1,a2,a3,a4,a5,a6,a7,a8,rfl⟩
theorem v2k{k:Nat}{a b:List Bool}(ha:a.length=9)(hb:b.length=9)(hk:k<9):(orK k a b)[k]? = a[k]? := by
 obtain⟨a0,a1,a2,a3,a4,a5,a6,a7,a8,rfl⟩:=Q7n ha;obtain⟨b0,b1,b2,b3,b4,b5,b6,b7,b8,rfl⟩:=Q7n hb;rcases k with _|_|_|_|_|_|_|_|_|k;all_goals first|rfl|omega
theorem v01{k:Nat}{a b:List Bool}(ha:a.length=9)(hb:b.length=9)(hk:k<9):(orK k a b).set k (a.getD k false||b.getD k false)=orK (k+1) a b:=by
 obtain⟨a0,a1,a2,a3,a4,a5,a6,a7,a8,rfl⟩:=Q7n ha;obtain⟨b0,b1,b2,b3,b4,b5,b6,b7,b8,rfl⟩:=Q7n hb;rcases k with _|_|_|_|_|_|_|_|_|k;all_goals first|rfl|omega
theorem y0j{l:List Bool}{i:Nat}(h:i<l.length):(tkA l)[i]? = some (.bool (l.getD i false)):=by simp[tkA,bls,h]
theorem v00{k:Nat}{a b:List Bool}(ha:a.length=9)(hb:b.length=9)(hk:k<9):(orK k a b).getD k false=a.getD k false:=by
 simp only[qD,v2k ha hb hk]
theorem z1c(w:World)(a b:List Bool)(ha:a.length=9)(hb:b.length=9) :
  Calls Tryz.prog 65 #[.agg (tkA a),.agg (tkA b)] w fun e w'=>e=.returned (.agg (tkA (orL a b)))/\Q0a w w':=by
 have HA:=hid ha;have HB:=hid hb;clear ha hb;go_enter Tryz.func65,Tryz.ntmps65
 go_wp2;go_loopw [5,6] (fun x5 x6 wr=>∃(k:Nat),x6=.int .i64 k/\k<=9/\Q0a w wr/\wr.heap[w.heap.size]? = some (.cells (tkA (orK k a b)) 147 (0,0))/\wr.heap[w.heap.size+1]? = some (.cells (tkA b) 147 (0,0))/\wr.heap[w.heap.size+2]? = some (.cells (tkA zero9) 147 (0,0)))
   (fun _ x _=>10-(intOf x).toNat)
 case atStart =>
  refine⟨0,rfl,by omega,(((mRf _ w).alloc _).alloc _).alloc _,?_,?_,?_⟩
  ·rw[x7c];exact z1f _ _ _ _
  ·exact z06 _ _ _ _
  exact z01 _ _ _ _
 obtain⟨k,rfl,hk,j7,j4,j5,j6⟩:=hrel;have j1:=hid j4;have j3:=hid j5;have j2:=hid j6;have j9:=hid (Q19 (B:=10) k (by omega));clear j4 j5 j6;by_cases j0:k<9
 ·have jb:k<a.length:=by rw[HA.out];exact j0
  have j8:k<b.length:=by rw[HB.out];exact j0
  have c0:wr.cell? ⟨w.heap.size,k,none⟩=some (.bool (a.getD k false)):=by
   rw[Q0b j1.out,y0j (by rw[x4d HA.out HB.out hk];exact j0),v00 HA.out HB.out j0]
  have c1:wr.cell? ⟨w.heap.size+1,k,none⟩=some (.bool (b.getD k false)):=by rw[Q0b j3.out,y0j j8]
  have z0:=Q0f j1.out;have HS:=hid (v01 HA.out HB.out j0);generalize a.getD k false=ak at c0 HS;generalize b.getD k false=bk at c1 HS;clear jb j8;cases ak;all_goals
   go_wp2;go_roundw
   case rel =>
    refine⟨k+1,by go_num,by omega,j7.setCell (by simp) _,?_,?_,?_⟩
    ·rw[zhs j1.out,y5x];rw[← HS.out];rfl
    ·exact z0h j3.out (by simp)
    exact z0h j2.out (by simp)
   exact j9.out
 have ja:k=9:=by omega
 subst ja;have HL:Hid ((orK 9 a b).length=9):=hid (x4d HA.out HB.out hk);go_wp2_with (first
  |(refine qAf rfl 147 _ rfl w.heap.size rfl _ _ _ _ j1.out qAk rfl (Q0t HL.out) ?_)
  |(refine qAg rfl 147 _ _ rfl (w.heap.size+2) _ rfl rfl _ _ j2.out (Q0t HL.out) (Q0l rfl (z0u HL.out)) (z1h _) ?_))
 refine qAc (qCg rfl _ _ (w.heap.size+2) 147 _ (0,0) _ rfl (qAn _ _ _ _ _ _ j2.out) qAk rfl (Q0t HL.out)) rfl ⟨?_,j7.setRow (by simp) _⟩;rw[x7b HA.out HB.out]
abbrev Q9p(l:List Int):List Value:=l.map (Value.int .i64)
theorem infoI:(Tryz.prog.info? 3).map (fun i=>(i.zero,i.size,i.bytes))=some (some (.int .i64 0),1,8):=by kernel_rfl
theorem infoI':∃i,Tryz.prog.info? 3=some i/\i.zero=some (.int .i64 0)/\i.size=1/\i.bytes=8:=nfoE infoI
theorem x78(w:World)(a:List Bool)(n:Int)(ha:a.length=9) :
  Calls Tryz.prog 102 #[.agg (tkA a),.int .i64 n] w fun e w'=>e=.returned (.bool (Q9e a n))/\Q0a w w':=by
 have HA:=hid ha;have HC:Hid (∀k:Nat,(w.alloc (.cells (tkA a) 147 (0,0))).cell? ⟨w.heap.size,k,none⟩=(tkA a)[k]?):=fun k=>Q0b (z0a _ _) k;generalize hv:Q9e a n=V;unfold Q9e at hv;by_cases h0:0<=n
 ·rw[qAb h0]at hv;obtain⟨k,rfl⟩:∃k:Nat,n=k:=⟨n.toNat,by omega⟩;rw[qAo]at hv;by_cases h9:k<9
  ·have c0:=HC.out k;rw[y0j (by omega),hv]at c0;clear hv ha;clear HC HA;have b1:decide ((0:Int)<=(k:Int))=true:=by simp
   have b2:decide ((k:Int)<9)=true:=by simp;omega
   have b3:decide (k<9)=true:=by simpa using h9
   have b4:(k:Int)<9:=by omega
   go_enter Tryz.func102,Tryz.ntmps102
   go_wp2;go_ret;exact⟨rfl,(mRf _ w).alloc _⟩
  have hV:V=false:=by rw[← hv];simp[qN (show a.length<=k by omega)]
  subst hV;clear hv ha HC;clear HA;have j0:¬((k:Int)<9):=by omega
  go_enter Tryz.func102,Tryz.ntmps102
  go_wp2;go_ret;exact⟨rfl,(mRf _ w).alloc _⟩
 rw[qAa h0]at hv;subst hv;clear ha HC;clear HA;go_enter Tryz.func102,Tryz.ntmps102
 go_wp2;go_ret;exact⟨rfl,(mRf _ w).alloc _⟩
theorem y0k(w:World)(a:List Bool)(n:Int)(ha:a.length=9) :
  Calls Tryz.prog 67 #[.agg (tkA a),.int .i64 n] w fun e w'=>e=.returned (.agg (tkA (Q2h a n)))/\Q0a w w':=by
 have HA:=hid ha;have j4:Hid (((w.alloc (.cells (tkA a) 147 (0,0))).alloc (.cells (tkA zero9) 147 (0,0))).heap[w.heap.size]? = some (.cells (tkA a) 147 (0,0))):=qBg _ _ _;have j3:Hid (((w.alloc (.cells (tkA a) 147 (0,0))).alloc (.cells (tkA zero9) 147 (0,0))).heap[w.heap.size+1]? = some (.cells (tkA zero9) 147 (0,0))):=qBa _ _ _;by_cases h0:0<=n/\n<9
 ·have HW:Hid (Q2h a n=a.set n.toNat true):=by unfold Hid Q2h;rw[qAb h0]
  obtain⟨h0,h9⟩:=h0;obtain⟨k,rfl⟩:∃k:Nat,n=k:=⟨n.toNat,by omega⟩;have j6:k<9:=by omega
  rw[HW.out,qAo,← y5x a k true];have j0:Hid ((Tryz.prog.info? 147).map (·.size)=some ((tkA a).setIfInBounds k (.bool true)).size):=by unfold Hid;rw[y5x];exact Q0t (by simpa using ha)
  have j2:Hid (((tkA a).setIfInBounds k (.bool true)).size=9):=by unfold Hid;rw[y5x];exact z0u (by simpa using ha)
  have j1:Hid (((tkA a).setIfInBounds k (.bool true)).all (·.oneCell')=true):=by unfold Hid;rw[y5x];exact z1h _
  have c0:((w.alloc (.cells (tkA a) 147 (0,0))).alloc (.cells #[.bool false,.bool false,.bool false,.bool false,.bool false,.bool false,.bool false,.bool false,.bool false] 147 (0,0))).cell? ⟨w.heap.size,k,none⟩=some (.bool (a.getD k false)):=by
   rw[Q0b (qBg _ _ _) k,y0j (by omega)]
  have z0:((w.alloc (.cells (tkA a) 147 (0,0))).alloc (.cells #[.bool false,.bool false,.bool false,.bool false,.bool false,.bool false,.bool false,.bool false,.bool false] 147 (0,0))).frozen? ⟨w.heap.size,k,none⟩=false:=Q0f (qBg _ _ _) k;generalize a.getD k false=ak at c0;clear ha;go_enter Tryz.func67,Tryz.ntmps67
  go_wp2_with (first
   |(refine qAf rfl 147 _ rfl w.heap.size rfl _ _ _ _ (qBg _ _ _) qAk rfl j0.out ?_)
   |(refine qAg rfl 147 _ _ rfl (w.heap.size+1) _ rfl rfl _ _ (qBa _ _ _) j0.out (Q0l rfl j2.out) j1.out ?_))
  refine qAc (qCg rfl _ _ (w.heap.size+1) 147 _ (0,0) _ rfl (qAn _ _ _ _ _ _ (qBa _ _ _)) qAk rfl j0.out) rfl ⟨rfl,?_⟩;exact(((mRf _ w).alloc _).alloc _).setRow (by simp) _
 have HW:Hid (Q2h a n=a):=by unfold Hid Q2h;rw[qAa h0]
 rw[HW.out];by_cases j5:0<=n
 ·have h9:9<=n:=by omega
  clear h0;have j0:Hid ((Tryz.prog.info? 147).map (·.size)=some (tkA a).size):=Q0t ha;have j2:Hid ((tkA a).size=9):=z0u ha;have j1:Hid ((tkA a).all (·.oneCell')=true):=z1h _;clear ha;go_enter Tryz.func67,Tryz.ntmps67
  go_wp2_with (first
   |(refine qAf rfl 147 _ rfl w.heap.size rfl _ _ _ _ j4.out qAk rfl j0.out ?_)
   |(refine qAg rfl 147 _ _ rfl (w.heap.size+1) _ rfl rfl _ _ j3.out j0.out (Q0l rfl j2.out) j1.out ?_))
  refine qAc (qCg rfl _ _ (w.heap.size+1) 147 _ (0,0) _ rfl (qAn _ _ _ _ _ _ j3.out) qAk rfl j0.out) rfl ⟨rfl,?_⟩;exact(((mRf _ w).alloc _).alloc _).setRow (by simp) _
 clear h0;have j0:Hid ((Tryz.prog.info? 147).map (·.size)=some (tkA a).size):=Q0t ha;have j2:Hid ((tkA a).size=9):=z0u ha;have j1:Hid ((tkA a).all (·.oneCell')=true):=z1h _;clear ha;go_enter Tryz.func67,Tryz.ntmps67
 go_wp2_with (first
  |(refine qAf rfl 147 _ rfl w.heap.size rfl _ _ _ _ j4.out qAk rfl j0.out ?_)
  |(refine qAg rfl 147 _ _ rfl (w.heap.size+1) _ rfl rfl _ _ j3.out j0.out (Q0l rfl j2.out) j1.out ?_))
 refine qAc (qCg rfl _ _ (w.heap.size+1) 147 _ (0,0) _ rfl (qAn _ _ _ _ _ _ j3.out) qAk rfl j0.out) rfl ⟨rfl,?_⟩;exact(((mRf _ w).alloc _).alloc _).setRow (by simp) _
theorem z9n(a:List Bool):∀k,(Q3s a k).length<=k
 |0=>by simp[Q3s]
 |k+1=>by unfold Q3s;have:=z9n a k;split<;>simp<;>omega
theorem y5y(w:World)(a:List Bool)(ha:a.length=9) :
  Calls Tryz.prog 66 #[.agg (tkA a)] w fun e w'=>∃v,e=.returned v/\Q0a w w'/\w'.ownsRow w.heap.size 3 1 v (Q3e a).length (Q9p (Q3e a)):=by
 obtain⟨i0,jg,jj,jk,jl⟩:=infoI';have HA:=hid ha;clear ha;go_enter Tryz.func66,Tryz.ntmps66
 go_wp2;go_loopw [3,4,5] (fun x3 x4 x5 wr=>∃(k:Nat),x5=.int .i64 k/\k<=9/\Q0a w wr/\wr.ownsRow w.heap.size 3 1 x3 (Q3s a k).length (Q9p (Q3s a k))/\wr.heap[w.heap.size]? = some (.cells (tkA a) 147 (0,0))/\(∀g,x3.ownBlock=some g->w.heap.size+1<=g))
   (fun _ _ x _=>10-(intOf x).toNat)
 case atStart =>
  refine⟨0,rfl,by omega,(mRf _ w).alloc _,qAh _ _ _ _,?_,by simp[Value.ownBlock]⟩;exact z0a _ _
 obtain⟨k,rfl,hk,j7,j1,j6,jb⟩:=hrel;have j5:=hid j6;have HO:=hid j1;have j4:=hid jb;have jm:=z9n a k;have jn:w.heap.size+1<=wr.heap.size:=by have:=z0j j6;omega
 have j8:=hid (Q19 (B:=10) k (by omega));clear j6 jb;by_cases ja:k<9
 ·have j9:k<a.length:=by rw[HA.out];exact ja
  have c0:wr.cell? ⟨w.heap.size,k,none⟩=some (.bool (a.getD k false)):=by rw[Q0b j5.out,y0j j9]
  have HS:Hid (Q3s a (k+1)=if a.getD k false then Q3s a k++[(k:Int)] else Q3s a k):=by unfold Hid;rw[Q3s]
  generalize a.getD k false=ak at c0 HS;obtain⟨a3,c3,ji⟩:=z0c j1;subst ji;clear j1 j9;cases ak
  ·go_wp2;go_roundw
   case rel =>
    refine⟨k+1,by go_num,by omega,j7,?_,j5.out,j4.out⟩;rw[HS.out];exact HO.out
   exact j8.out
  go_wp2_with (first
   |(at_builtin;refine z0f _ rfl _ _ 24 rfl w.heap.size 3 i0 _ 1 8 qDq jg jj jk jl rfl (by decide) _ _ _ rfl (HO.alloc _) ⟨wr.heap.size,0,none⟩ 1 1 [.int .i64 k] rfl rfl (z0m rfl) (by intro u hu;simp at hu;subst hu;rfl) (by unfold maxLen;omega) (by omega) (by simp;omega) ?_))
  intro v' w2 j2 j0 j3;have jd:Q0a w w2:=Mod.grown (S:=fun _=>False) (j7.alloc _) j0 (fun k hk ja=>by have:=j4.out k hk;omega);have je:Hid (w2.heap[w.heap.size]? = some (.cells (tkA a) 147 (0,0))):=by
   unfold Hid;rw[j0.block w.heap.size (by simp;omega) (fun e=>by have:=j4.out _ e.symm;omega)];exact z0b j5.out
  have jf:Hid (∀g,v'.ownBlock=some g->w.heap.size+1<=g):=fun g hg=>by
   rcases j3 g hg with h|h
   ·exact j4.out g h
   first|omega|(simp at h;omega)
  have jc:=hid j2;clear j2 j0 j3;go_wp2;go_roundw
  case rel =>
   refine⟨k+1,by go_num,by omega,jd,?_,je.out,jf.out⟩;rw[HS.out];simp only[qBn];rw[qP,qAj,show Q9p (Q3s a k++[(k:Int)])=Q9p (Q3s a k)++[.int .i64 k] from by simp];exact jc.out
  exact j8.out
 have jh:k=9:=by omega
 subst jh;clear j1;go_wp2;go_ret;exact⟨_,rfl,j7,HO.out⟩
end Go.Proofs.YtbdpfmalabgmbaaGreat
