import Derived.Test.YtcpceafmlgaodaaGreatRe3
import Derived.Laws.IdiomCopy
import Derived.Test.YtcpceafmlgaodaaGreatRows
import Derived.ProofKit
import Derived.OpenShut
import Derived.ShutString
import Derived.ChangeOld
import Derived.Below
import Derived.SizedLaws
namespace Go.Proofs.YtcpceafmlgaodaaGreat
open Go.RowKit
set_option maxRecDepth 99999
set_option maxHeartbeats 0
set_option linter.all false
abbrev Q91(v v1 v2 v3:Value)(mk:Int):Array Value:=#[v,v1,v2,v3,.int .i64 mk]
theorem szOwn:(Tryz.prog.info? 35).map (·.size)=some 5:=by kernel_rfl
theorem x3w(a a1 a2 a3:Option Addr)(n n1 n2 n3 c c1 c2 c3:Nat)(mk:Int):(Q91 (.slice a n c) (.slice a1 n1 c1) (.slice a2 n2 c2) (.slice a3 n3 c3) mk).all (·.oneCell')=true :=
 all_oneCell_toArray (cs:=[.slice a n c,.slice a1 n1 c1,.slice a2 n2 c2,.slice a3 n3 c3,.int .i64 mk]) (by intro v hv;simp only[qBc,qCt,or_false]at hv;rcases hv with rfl|rfl|rfl|rfl|rfl<;>rfl)
theorem asz(W:World)(o:Obj):(W.alloc o).heap.size=W.heap.size+1:=by simp
def Q8f(v:Value)(w:World)(x:Value):Prop:=∀k,x.ownBlock=some k->v.ownBlock=some k∨w.heap.size<=k
structure Q88(w:World)(v v1 v2 v3:Value)(n:Nat)(mk:Int):Prop where
 m0:Q3b w v n mk
 m1:Q3b w v1 (n+1) mk
 m2:Q3b w v2 (n+2) mk
 m3:Q3b w v3 (n+6) mk
theorem Q88.kept{w w':World}{v v1 v2 v3:Value}{n:Nat}{mk:Int}(h:Q88 w v v1 v2 v3 n mk)(hk:∀x,x=v∨x=v1∨x=v2∨x=v3->∀k,x.ownBlock=some k->k<w.heap.size->w'.heap[k]? = w.heap[k]?):Q88 w' v v1 v2 v3 n mk :=
 ⟨h.m0.kept (hk _ (.inl rfl)),h.m1.kept (hk _ (.inr (.inl rfl))),h.m2.kept (hk _ (.inr (.inr (.inl rfl)))),h.m3.kept (hk _ (.inr (.inr (.inr rfl))))⟩
def OwnRet(w:World)(v:Value)(n:Nat)(mk:Int)(e:Ending)(w':World):Prop :=
 ∃a1 c1 a2 c2 a3 c3,e=.returned (.agg (Q91 v (.slice a1 (n+1) c1) (.slice a2 (n+2) c2) (.slice a3 (n+6) c3) mk))/\Q88 w' v (.slice a1 (n+1) c1) (.slice a2 (n+2) c2) (.slice a3 (n+6) c3) n mk/\Mod (fun k=>v.ownBlock=some k) w w' /\
  Q8f v w (.slice a1 (n+1) c1)/\Q8f v w (.slice a2 (n+2) c2)/\Q8f v w (.slice a3 (n+6) c3)
theorem y2b(n:Nat)(mk:Int)(m:Nat):Q5w (List.replicate n mk)++List.replicate m (.int .i64 mk)=Q5w (List.replicate (n+m) mk):=by
 rw[← List.replicate_append_replicate];simp[Q5w]
theorem v0c(w:World)(v:Value)(l:List Int)(mk:Int)(ho:IntOwn w 0 v l)(hl:l.length<=100) :
  Calls Tryz.prog 9 #[v,.int .i64 mk] w fun e w'=>OwnRet w v l.length mk e w':=by
 obtain⟨i1,hi1,hy0,hy1,hy2⟩:=Q6o;obtain⟨ao,cp,hv⟩:=z0d ho;subst hv;have HO:=hid ho;have j1:Hid (∀k,(Value.slice ao l.length cp).ownBlock=some k->k<w.heap.size):=hid (fun k hk=>(ho.lt k hk).2);clear ho;go_enter Tryz.func9,Tryz.ntmps9
 go_wp2;go_loopw [5] (fun x5 wr=>∃(i:Nat),x5=.int .i64 i/\i<=l.length/\wr.ownsRow 0 3 1 (.slice ao l.length cp) l.length (Q5w (List.replicate i mk++l.drop i))/\Mod (fun k=>(Value.slice ao l.length cp).ownBlock=some k) w wr/\w.heap.size<wr.heap.size/\wr.heap[w.heap.size]? = some (.cells (Q91 (.slice none 0 0) (.slice none 0 0) (.slice none 0 0) (.slice none 0 0) 0) 35 (0,0)))
   (fun x _=>1001-(intOf x).toNat)
 case atStart=>exact⟨0,rfl,by omega,HO.alloc _,(mRf _ w).alloc _,by simp,z0a _ _⟩
 obtain⟨i,rfl,hi,hown,hmod,hsz,hblk⟩:=hrel;have j9:=hid (Q15 (B:=1001) i (by omega));have je:=hid hown;have j8:=hid hmod;have j7:=hid hblk;by_cases hlt:i<l.length
 ·have k1:(i:Int)<(l.length:Int):=by omega
  obtain⟨g,cv,hv⟩:=Joins.ownsRow_form hown (by omega);rw[qI]at hv;obtain⟨rfl,_,rfl⟩:=hv;have j2:(List.replicate i mk++l.drop i).length=l.length:=by simp;omega
  have c1:∃c:Int,wr.cell? ⟨g,i,none⟩=some (.int .i64 c):=⟨_,z4l (l:=List.replicate i mk++l.drop i) (n:=l.length) (base:=0) (by unfold IntOwn;rw[j2];exact hown) i (by rw[j2];exact hlt)⟩;obtain⟨c,c1⟩:=c1;have c2:wr.frozen? ⟨g,i,none⟩=false:=by
   rcases hown.2 with⟨e,_⟩|⟨g',cap,cur,e,_,hg,_⟩
   ·simp at e
   rw[qI]at e;simp only[qO,Addr.mk.injEq]at e;obtain⟨⟨rfl,_,_⟩,_⟩:=e;exact Q0g hg i
  have jd:Hid ((wr.setCell ⟨g,i,none⟩ (.int .i64 mk)).ownsRow 0 3 1 (.slice (some ⟨g,0,none⟩) l.length cp) l.length (Q5w (List.replicate (i+1) mk++l.drop (i+1)))):=hid (by
   have:=z4p hown (g:=g) rfl i (.int .i64 mk) (by simp[Q5w];omega);have e:(Q5w (List.replicate i mk++l.drop i)).set i (.int .i64 mk)=Q5w (List.replicate (i+1) mk++l.drop (i+1)):=by
    rw[← x3h hlt];unfold Q5w;rw[qDy]
   rw[e]at this;exact this)
  have jh:=j1.out g rfl;have ja:Hid (Mod (fun k=>(Value.slice (some ⟨g,0,none⟩) l.length cp).ownBlock=some k) w (wr.setCell ⟨g,i,none⟩ (.int .i64 mk))):=hid (Mod.setCell hmod (p:=⟨g,i,none⟩) (fun _=>rfl) _);have jb:Hid ((wr.setCell ⟨g,i,none⟩ (.int .i64 mk)).heap[w.heap.size]? = some (.cells (Q91 (.slice none 0 0) (.slice none 0 0) (.slice none 0 0) (.slice none 0 0) 0) 35 (0,0))):=hid (by
   rw[Proofs.YtcpceafmlgaodaaGreat.heap_setCell_other _ (by simp;omega)];exact hblk)
  have jc:Hid (w.heap.size<(wr.setCell ⟨g,i,none⟩ (.int .i64 mk)).heap.size):=hid (by
   have:=(mRf (fun _=>True) wr).setCell (p:=⟨g,i,none⟩) (fun _=>trivial) (.int .i64 mk);have:=this.size;omega)
  clear hown hmod hblk j2;go_wp2;go_roundw
  case rel=>exact⟨i+1,by go_num,by omega,jd.out,ja.out,jc.out,jb.out⟩
  exact j9.out
 have k1:¬(i:Int)<(l.length:Int):=by omega
 have jf:i=l.length:=by omega
 subst jf;rw[qBw,qAt]at hown;have jg:maxLen=9223372036854775807:=rfl;obtain⟨v1,w6,r1,o6,g6,b6,k6,q6⟩:=z3n (P:=Tryz.prog) (wr.alloc (.cells #[.int .i64 mk] 3)) 0 22 22 3 i1 _ 1 8 Tryz.underlying22 hi1 hy0 hy1 hy2 rfl (by decide) (.slice ao l.length cp) l.length _ (hown.alloc _) ⟨wr.heap.size,0,none⟩ 1 1 [.int .i64 mk] rfl (z0l rfl) (by intro u hu;simp at hu;subst hu;rfl) (by omega) (by omega) (by omega) (.int .i64 mk) (by simp);obtain⟨v2,w7,r2,o7,g7,b7,k7,q7⟩:=z3n (P:=Tryz.prog) (w6.alloc (.cells #[.int .i64 mk,.int .i64 mk] 3)) 0 22 22 3 i1 _ 1 8 Tryz.underlying22 hi1 hy0 hy1 hy2 rfl (by decide) (.slice ao l.length cp) l.length _ (q6.alloc _) ⟨w6.heap.size,0,none⟩ 2 2 [.int .i64 mk,.int .i64 mk] rfl (z0l rfl) (by intro u hu;simp at hu;subst hu;rfl) (by omega) (by omega) (by omega) (.int .i64 mk) (by simp);obtain⟨v3,w8,r3,o8,g8,b8,k8,q8⟩:=z3n (P:=Tryz.prog) (w7.alloc (.cells #[.int .i64 mk,.int .i64 mk,.int .i64 mk,.int .i64 mk,.int .i64 mk,.int .i64 mk] 3)) 0 22 22 3 i1 _ 1 8 Tryz.underlying22 hi1 hy0 hy1 hy2 rfl (by decide) (.slice ao l.length cp) l.length _ (q7.alloc _) ⟨w7.heap.size,0,none⟩ 6 6 [.int .i64 mk,.int .i64 mk,.int .i64 mk,.int .i64 mk,.int .i64 mk,.int .i64 mk] rfl (z0l rfl) (by intro u hu;simp at hu;subst hu;rfl) (by omega) (by omega) (by omega) (.int .i64 mk) (by simp);obtain⟨a1,c1,hv1⟩:=z0d o6;obtain⟨a2,c2,hv2⟩:=z0d o7;obtain⟨a3,c3,hv3⟩:=z0d o8;subst hv1 hv2 hv3;have al:∀(W:World) (o:Obj) (b oo:Nat) (x:Value),W.cell? ⟨b,oo,none⟩=some x->(W.alloc o).cell? ⟨b,oo,none⟩=some x:=fun W o b oo x h=>Q0i ((mRf (fun _=>False) W).alloc o) h;have M0:Q3b w8 (.slice ao l.length cp) l.length mk:=Q3b.of q8;have M1:Q3b w8 (.slice a1 (l.length+1) c1) (l.length+1) mk:=by
  have e:=y2b l.length mk 1;rw[show List.replicate 1 (Value.int .i64 mk)=[.int .i64 mk] from rfl]at e;rw[e]at o6;exact((Q3b.of o6).keep (fun b o h=>k7 b o (al _ _ _ _ _ h))).keep (fun b o h=>k8 b o (al _ _ _ _ _ h))
 have M2:Q3b w8 (.slice a2 (l.length+2) c2) (l.length+2) mk:=by
  have e:=y2b l.length mk 2;rw[show List.replicate 2 (Value.int .i64 mk)=[.int .i64 mk,.int .i64 mk] from rfl]at e;rw[e]at o7;exact(Q3b.of o7).keep (fun b o h=>k8 b o (al _ _ _ _ _ h))
 have M3:Q3b w8 (.slice a3 (l.length+6) c3) (l.length+6) mk:=by
  have e:=y2b l.length mk 6;rw[show List.replicate 6 (Value.int .i64 mk)=[.int .i64 mk,.int .i64 mk,.int .i64 mk,.int .i64 mk,.int .i64 mk,.int .i64 mk] from rfl]at e;rw[e]at o8;exact Q3b.of o8
 have z1:=g6.size;have z2:=g7.size;have z3:=g8.size;rw[asz]at z1 z2 z3;have j4:Mod (fun k=>(Value.slice ao l.length cp).ownBlock=some k) w w8:=Mod.grown ((Mod.grown ((Mod.grown (hmod.alloc _) g6 (fun k hk _=>hk)).alloc _) g7 (fun k hk _=>hk)).alloc _) g8 (fun k hk _=>hk);have j0:¬(Value.slice ao l.length cp).ownBlock=some w.heap.size:=fun e=>by have:=j1.out _ e;omega
 have j3:Mod (fun k=>(Value.slice ao l.length cp).ownBlock=some k) wr w8:=Mod.grown ((Mod.grown ((Mod.grown ((mRf _ wr).alloc _) g6 (fun k hk _=>hk)).alloc _) g7 (fun k hk _=>hk)).alloc _) g8 (fun k hk _=>hk);have j5:=hid (j3.at hblk j0);have B1:Q8f (.slice ao l.length cp) w (.slice a1 (l.length+1) c1):=fun k hk=>(b6 k hk).imp id (fun h=>by rw[asz]at h;omega);have B2:Q8f (.slice ao l.length cp) w (.slice a2 (l.length+2) c2):=fun k hk=>(b7 k hk).imp id (fun h=>by rw[asz]at h;omega);have B3:Q8f (.slice ao l.length cp) w (.slice a3 (l.length+6) c3):=fun k hk=>(b8 k hk).imp id (fun h=>by rw[asz]at h;omega);have N1:¬(Value.slice a1 (l.length+1) c1).ownBlock=some w.heap.size:=fun e=>by
  rcases b6 _ e with h|h
  ·exact j0 h
  rw[asz]at h;omega
 have N2:¬(Value.slice a2 (l.length+2) c2).ownBlock=some w.heap.size:=fun e=>by
  rcases b7 _ e with h|h
  ·exact j0 h
  rw[asz]at h;omega
 have N3:¬(Value.slice a3 (l.length+6) c3).ownBlock=some w.heap.size:=fun e=>by
  rcases b8 _ e with h|h
  ·exact j0 h
  rw[asz]at h;omega
 have j6:Hid (Q88 (w8.setRow w.heap.size (Q91 (.slice ao l.length cp) (.slice a1 (l.length+1) c1) (.slice a2 (l.length+2) c2) (.slice a3 (l.length+6) c3) mk)) (.slice ao l.length cp) (.slice a1 (l.length+1) c1) (.slice a2 (l.length+2) c2) (.slice a3 (l.length+6) c3) l.length mk/\Mod (fun k=>(Value.slice ao l.length cp).ownBlock=some k) w (w8.setRow w.heap.size (Q91 (.slice ao l.length cp) (.slice a1 (l.length+1) c1) (.slice a2 (l.length+2) c2) (.slice a3 (l.length+6) c3) mk))/\Q8f (.slice ao l.length cp) w (.slice a1 (l.length+1) c1)/\Q8f (.slice ao l.length cp) w (.slice a2 (l.length+2) c2)/\Q8f (.slice ao l.length cp) w (.slice a3 (l.length+6) c3)):=hid ⟨Q88.kept ⟨M0,M1,M2,M3⟩ (fun x hx k hk _=>setRow_other _ _ _ _ (by
   intro e;subst e;rcases hx with rfl|rfl|rfl|rfl
   ·exact j0 hk
   ·exact N1 hk
   ·exact N2 hk
   exact N3 hk)),j4.setRow (fun h=>absurd h (qBk _)) _,B1,B2,B3⟩
 have R1:=hid r1;have R2:=hid r2;have R3:=hid r3;clear o6 g6 b6 k6 q6 o7 g7 b7 k7 q7 o8 g8 b8 k8 q8 M0 M1 M2 M3 B1 B2 B3 N1 N2 N3 j4 j3 z1 z2 z3 al hown hmod hblk r1 r2 r3 j0 je j8 j7;go_wp2_with (first
  |(at_builtin;refine z2w _ rfl _ _ 22 rfl _ _ rfl rfl _ _ R1.out ?_;clear R1)
  |(at_builtin;refine z2w _ rfl _ _ 22 rfl _ _ rfl rfl _ _ R2.out ?_;clear R2)
  |(at_builtin;refine z2w _ rfl _ _ 22 rfl _ _ rfl rfl _ _ R3.out ?_;clear R3)
  |(refine wpList_store_row rfl 35 _ _ rfl w.heap.size (Q91 (.slice ao l.length cp) (.slice a1 (l.length+1) c1) (.slice a2 (l.length+2) c2) (.slice a3 (l.length+6) c3) mk) rfl rfl _ _ j5.out szOwn rfl (x3w _ _ _ _ _ _ _ _ _ _ _ _ _) ?_))
 refine bodyPost_ret (y48 rfl _ _ w.heap.size 35 (Q91 (.slice ao l.length cp) (.slice a1 (l.length+1) c1) (.slice a2 (l.length+2) c2) (.slice a3 (l.length+6) c3) mk) (0,0) _ rfl (setRow_heap _ _ _ _ _ _ j5.out) Tryz.underlying35 rfl szOwn) rfl ?_;exact⟨a1,c1,a2,c2,a3,c3,rfl,j6.out⟩
theorem y9x(w:World)(ao a1 a2 a3:Option Addr)(n cp c1 c2 c3:Nat)(mk:Int)(h:Q88 w (.slice ao n cp) (.slice a1 (n+1) c1) (.slice a2 (n+2) c2) (.slice a3 (n+6) c3) n mk)(hn:n<=100) :
  Calls Tryz.prog 10 #[.agg (Q91 (.slice ao n cp) (.slice a1 (n+1) c1) (.slice a2 (n+2) c2) (.slice a3 (n+6) c3) mk)] w fun e w'=>e=.returned (.bool true)/\Q0a w w':=by
 have FU:=hid (fun(W:World) (v:Value) (k:Nat) (hm:Q3b W v k mk) (hk:k<=1000)=>x2c W v k mk hm hk);have hf:∀o:Obj,Q0a w (w.alloc o):=fun o=>(mRf _ w).alloc o;have F0:=hid (fun o=>FU.out (w.alloc o) _ n (h.m0.fresh (hf o)) (by omega));have F1:=hid (fun o=>FU.out (w.alloc o) _ (n+1) (h.m1.fresh (hf o)) (by omega));have F2:=hid (fun o=>FU.out (w.alloc o) _ (n+2) (h.m2.fresh (hf o)) (by omega));have F3:=hid (fun o=>FU.out (w.alloc o) _ (n+6) (h.m3.fresh (hf o)) (by omega));clear h hf FU;generalize n+1=n1 at F1 ⊢;generalize n+2=n2 at F2 ⊢;generalize n+6=n6 at F3 ⊢;go_enter Tryz.func10,Tryz.ntmps10
 go_wp2_with (first
  |(go_at_call 18;refine(F0.out _).mono ?_;rintro e w'⟨rfl,hw⟩;rw[hw];clear hw F0)
  |(go_at_call 18;refine(F1.out _).mono ?_;rintro e w'⟨rfl,hw⟩;rw[hw];clear hw F1)
  |(go_at_call 18;refine(F2.out _).mono ?_;rintro e w'⟨rfl,hw⟩;rw[hw];clear hw F2)
  |(go_at_call 18;refine(F3.out _).mono ?_;rintro e w'⟨rfl,hw⟩;rw[hw];clear hw F3))
 go_ret;exact⟨z0s (by simp),(mRf _ w).alloc _⟩
attribute [local go_sem ↓] y14
theorem y6l(w:World)(va vb:Value)(l:List Nd)(ha:NdsAt w va l)(hb:NdsAt w vb l)(hl:l.length<=10000000000000) :
  Calls Tryz.prog 6 #[va,vb] w fun e w'=>e=.returned (.bool true)/\∃m,w'=w.drewN m:=by
 obtain⟨aa,ca,hva⟩:=z0d ha.own;subst hva;obtain⟨ab,cb,hvb⟩:=z0d hb.own;subst hvb;have HA:=hid ha;have HB:=hid hb;clear ha hb;go_enter Tryz.func6,Tryz.ntmps6
 go_wp2;go_loopw [5] (fun x5 wr=>∃(i:Nat),x5=.int .i64 i/\i<=l.length/\∃m,wr=w.drewN m)
  (fun x _=>10000000000001-(intOf x).toNat)
 case atStart=>exact⟨0,rfl,by omega,0,rfl⟩
 obtain⟨i,rfl,hi,m,hfr⟩:=hrel;subst hfr;have j0:=hid (Q15 (B:=10000000000001) i (by omega));by_cases hlt:i<l.length
 ·have j1:(i:Int)<(l.length:Int):=by omega
  obtain⟨g,c',hg⟩:=Joins.ownsRow_form HA.own (by omega);rw[qI]at hg;obtain⟨rfl,_,rfl⟩:=hg;obtain⟨g2,c2',hg2⟩:=Joins.ownsRow_form HB.own (by omega);rw[qI]at hg2;obtain⟨rfl,_,rfl⟩:=hg2;have r1:=HA.range i hlt;have r2:=HB.range i hlt;generalize l[i]=li at r1 r2;obtain⟨p,k,a,s⟩:=li;have l1:∀m,(ldN (.pointer (some ⟨g,i*4,none⟩))).run Tryz.prog (w.drewN m)=.ok (.agg (ndA p k a s)) (w.drewN m):=fun m=>x24 (w:=w.drewN m) (z0t r1 rfl);have l2:∀m,(ldN (.pointer (some ⟨g2,i*4,none⟩))).run Tryz.prog (w.drewN m)=.ok (.agg (ndA p k a s)) (w.drewN m):=fun m=>x24 (w:=w.drewN m) (z0t r2 rfl);have q1:∀w,(Op.equalIn 10000 59 (.agg (ndA p k a s)) (.agg (ndA p k a s))).run Tryz.prog w=.ok true w:=fun w=>eqNd 9996 p k a s w;have g1:=guardNd;clear r1 r2;go_wp2_with fail
  go_quiet (fail);go_wp2;go_roundw
  case rel=>exact⟨i+1,by go_num,by omega,_,rfl⟩
  exact j0.out
 have j2:¬(i:Int)<(l.length:Int):=by omega
 go_wp2;go_ret;exact⟨rfl,m,rfl⟩
theorem x2m{ps:List Pr}{hs:List Hd}{R H:Nat}:∀(l:List Int) (a:Nat) (k:List Sy) (st:List St),(Q6a ps hs R H l a k st).wanted.length<=9
 | [],a,k,st=>by
  unfold Q6a;split
  ·simp
  exact z38 _
 |t::l,a,k,st=>by
  unfold Q6a;split
  ·exact x2m l _ _ _
  exact z38 _
theorem x3y(s:ByteArray)(kinds:List Int):(Q2f s kinds).wanted.length<=9/\(Q2f s kinds).st.length<=61*2000000000:=by
 unfold Q2f;split
 ·simp[Q65]
 split
 ·simp[Q65]
 split
 ·simp[Q65]
 split
 ·simp[Q65]
 rename_i h1 h2 h3 h4;exact⟨x2m _ _ _ _,(x9k (by simpa using h2) (by simpa using h4) kinds (by simpa using h3) (by omega)).1⟩
theorem y9p(w:World)(vk:Value)(kinds:List Int)(hk:Q0z w vk kinds):∃W2,(∀ty,(Builtin.copy_ #[22,22] ty #[.slice (some ⟨w.heap.size,0,none⟩) (kinds.length+1) (kinds.length+1),vk]).run Tryz.prog (w.alloc (.cells (madeCells #[Value.int .i64 0] (kinds.length+1)) 3))=.ok (.int .i64 kinds.length) W2)/\Q0a w W2/\W2.heap[w.heap.size]? = some (.cells (Q5w kinds++[Value.int .i64 0]).toArray 3 (0,0)):=by
 have hm:madeCells #[Value.int .i64 0] (kinds.length+1)=(List.replicate (kinds.length+1) (Value.int .i64 0)).toArray:=by
  unfold madeCells;apply qDk;intro i;by_cases h:i<kinds.length+1<;>simp[h,Nat.mod_one]
 have hF:Q0a w (w.alloc (.cells (madeCells #[Value.int .i64 0] (kinds.length+1)) 3)):=(mRf _ w).alloc _;have hB:(w.alloc (.cells (madeCells #[Value.int .i64 0] (kinds.length+1)) 3)).heap[w.heap.size]? = some (.cells (List.replicate (kinds.length+1) (Value.int .i64 0)).toArray 3 (0,0)):=by rw[z0a,hm]
 cases hkn:kinds with
 |nil =>
  subst hkn;obtain⟨ao,cap,rfl,_,_⟩:=hk;exact⟨_,fun ty=>run_copy_none (P:=Tryz.prog) _ _ _ ty _ _ _ _ _ _ _ Tryz.underlying22 (by kernel_rfl) (by simp),hF,by simpa using hB⟩
 |cons c ks =>
  rw[← hkn];obtain⟨ao,cap,rfl,hcap,hcell⟩:=hk;obtain⟨g,o,rfl,_⟩:=hcell 0 (by rw[hkn];simp);have j0:(Q5w kinds).length=kinds.length:=by simp[Q5w]
  have h:=fun ty=>run_copy_row (P:=Tryz.prog) (w.alloc (.cells (madeCells #[Value.int .i64 0] (kinds.length+1)) 3)) 22 22 ty 3 w.heap.size 0 (kinds.length+1) (kinds.length+1) ⟨g,o,none⟩ kinds.length cap _ _ (Q5w kinds) Tryz.underlying22 (by kernel_rfl) hB (by rw[j0];exact(qDq (by omega)).symm) (fun j v hj=>by
   have j1:j<kinds.length:=by have:=(qS hj).1;omega
   obtain⟨g',o',e,hc⟩:=hcell j j1;cases e;have hv:v=.int .i64 kinds[j]:=by
    simp[Q5w,j1]at hj;exact hj.symm
   rw[hv,Addr.add_mid];exact Q0i hF hc) (by rw[j0];simp) (by intro v hv;simp[Q5w]at hv;obtain⟨_,_,rfl⟩:=hv;rfl)
  refine⟨_,fun ty=>by rw[h ty,j0];rfl,hF.setRow (fun h=>absurd h (qBk _)) _,?_⟩;rw[setRow_heap _ _ _ _ _ _ hB];congr 3;simp only[List.take_zero,qBq,qBi];congr 1;rw[List.drop_replicate];simp
theorem x0c(s:ByteArray)(kinds:List Int)(vk:Value)(w:World)(hs:s.size<=maxLen)(hk:Q0z w vk kinds)(hm:kinds.length<=35000000000000) :
  Calls Tryz.prog 3 #[.string s,vk] w fun e w'=>e=.returned (.bool true)/\Q0a w w':=by
 have HK:=hid hk;obtain⟨W2,hcp,hF2,hB2⟩:=y9p w vk kinds hk;obtain⟨ka,kc,rfl,_,_⟩:=hk;have mk:=run_make_row' (P:=Tryz.prog) 22 3 (.int .i64 0) 8 Tryz.underlying22 (by kernel_rfl) rfl .i64 .i64 (kinds.length+1) (by omega) (by omega) w;have jj:(Q5w kinds).length=kinds.length:=by simp[Q5w]
 have x1:W2.cell? ⟨w.heap.size,kinds.length,none⟩=some (.int .i64 0):=by rw[Q0b hB2];simp[jj]
 have x2:=Q0g hB2 kinds.length;have ju:(W2.setCell ⟨w.heap.size,kinds.length,none⟩ (.int .i64 (-77))).heap[w.heap.size]? = some (.cells (Q5w kinds++[Value.int .i64 (-77)]).toArray 3 (0,0)):=by
  rw[zhs hB2,List.setIfInBounds_toArray,qCy _ _ (by omega),jj,qCu];rfl
 have k7:Q0a w (W2.setCell ⟨w.heap.size,kinds.length,none⟩ (.int .i64 (-77))):=hF2.setCell (fun h=>absurd h (qBk _)) _;have k8:∀W:World,W.heap[w.heap.size]? = some (.cells (Q5w kinds++[Value.int .i64 (-77)]).toArray 3 (0,0))->Q0z W (.slice (some ⟨w.heap.size,0,none⟩) kinds.length (kinds.length+1)) kinds/\W.cell? ⟨w.heap.size,kinds.length,none⟩=some (.int .i64 (-77)):=fun W hB=>by
  refine⟨⟨_,_,rfl,by omega,fun j hj=>⟨_,_,rfl,?_⟩⟩,?_⟩
  ·rw[Q0b hB,qBi,qCb,qAe (by omega)];simp[hj,Q5w]
  rw[Q0b hB,qCb,qAg (by omega),jj,qCu];rfl
 have jg:=hid k8;have jc:=hid ju;have je:=hid k7;have PA:=hid (fun(W:World) (vk:Value) (h:Q0z W vk kinds)=>x3z s kinds vk W hs h (by unfold maxLen;omega));have PB:=hid (fun(W:World) (vk:Value) (h:Q0z W vk kinds)=>x0y s kinds vk W hs h (by unfold maxLen;omega));unfold Q2c at PA PB;obtain⟨bd1,bd2⟩:=x3y s kinds;have jh:=z62 (tabF s) (Q2f s kinds).st;generalize Q2f s kinds=G at PA PB bd1 bd2 jh;obtain⟨ge,gw,gp,gst⟩:=G;dsimp only at PA PB bd1 bd2 jh;generalize Q17 (tabF s) gst=NF at PA PB jh;have jv:NF.length<=10000000000000:=by omega
 clear jh bd2;have NU:=hid (fun e w=>x92 e w);have ki:w.heap.size<W2.heap.size:=z0j hB2;have kh:w.heap.size<(W2.setCell ⟨w.heap.size,kinds.length,none⟩ (.int .i64 (-77))).heap.size:=z0j ju;generalize hW3:W2.setCell ⟨w.heap.size,kinds.length,none⟩ (.int .i64 (-77))=W3 at jc je kh;have kb:=hid hW3;generalize hn1:kinds.length+1=n1 at mk hcp jg;have kj:IntKind.i64.wrap ((kinds.length:Int)+1)=(n1:Int):=by rw[IntKind.wrap_i64];omega
 have s1:(kinds.length:Int)<(n1:Int):=by omega
 have s2:(kinds.length:Int)<=(n1:Int):=by omega
 have P1:=hid (PA.out W3 _ (jg.out W3 jc.out).1);clear jj hB2 hF2 ju k7 k8 hn1 hW3 PA;go_enter Tryz.func3,Tryz.ntmps3
 go_upto_region 4 with fail
 rw[kb.out];go_upto_region 5 with(first
  |(go_at_call 4;refine(P1.out).mono ?_;rintro e w4⟨vn,vw,rfl,hf4,hn4,hw4⟩;obtain⟨na,nc,hvn⟩:=z0d hn4;subst hvn;obtain⟨wa,wc,hvw⟩:=z0d hw4;subst hvw;have k3:=hid hn4;have jt:=hid hw4;have k0:=hid hf4;clear hn4 hw4 hf4)
  |(refine z0e rfl 25 _ _ rfl w4 _ (Q3n (.slice na NF.length nc) (.slice wa gw.length wc) gp) _ rfl rfl rfl Q2i rfl (z1z _ _ _ rfl rfl) ?_))
 have jx:Q0a w4 (w4.alloc (.cells (Q3n (.slice na NF.length nc) (.slice wa gw.length wc) gp) 25)):=(mRf _ w4).alloc _;have k5:=z0a w4 (.cells (Q3n (.slice na NF.length nc) (.slice wa gw.length wc) gp) 25);have P2:=hid (PB.out _ _ (HK.fresh ((je.trans k0.out).trans jx)));have k1:=hid jx;have jy:=hid k5;generalize(w4.alloc (.cells (Q3n (.slice na NF.length nc) (.slice wa gw.length wc) gp) 25))=W5 at k1 jy P2 ⊢;clear jx k5 P1 PB;go_upto_region 6 with(first
  |(go_at_call 5;refine(P2.out).mono ?_;rintro e w6⟨vn,vw,rfl,hf6,hn6,hw6⟩;obtain⟨ma,mc,hvn⟩:=z0d hn6;subst hvn;obtain⟨ua,uc,hvw⟩:=z0d hw6;subst hvw;have k4:=hid hn6;have kd:=hid hw6;have k2:=hid hf6;clear hn6 hw6 hf6)
  |(refine z0e rfl 25 _ _ rfl w6 _ (Q3n (.slice ma NF.length mc) (.slice ua gw.length uc) gp) _ rfl rfl rfl Q2i rfl (z1z _ _ _ rfl rfl) ?_))
 have ji:Q0a w6 (w6.alloc (.cells (Q3n (.slice ma NF.length mc) (.slice ua gw.length uc) gp) 25)):=(mRf _ w6).alloc _;have k6:=z0a w6 (.cells (Q3n (.slice ma NF.length mc) (.slice ua gw.length uc) gp) 25);have j1:=hid (k1.trans (k2.trans ji));have jb:=hid ((k2.trans ji).at jy.out (fun x=>x));have jd:=hid k6;have jp:=hid ji;generalize(w6.alloc (.cells (Q3n (.slice ma NF.length mc) (.slice ua gw.length uc) gp) 25))=W7 at j1 jb jd jp ⊢;have a0:W7.cell? ⟨w4.heap.size,0,none⟩=some (.slice na NF.length nc):=Q0b jb.out 0;have b0:W7.cell? ⟨w6.heap.size,0,none⟩=some (.slice ma NF.length mc):=Q0b jd.out 0;have SN:=hid (y6l W7 _ _ NF (Q2e.fresh ⟨z0f k3.out (qBg _),fun x _=>rfl⟩ j1.out) (Q2e.fresh ⟨z0f k4.out (qBg _),fun x _=>rfl⟩ jp.out) jv);clear ji k6 P2 k3 k4;go_upto_region 7 with(first
  |(go_at_call 6;refine(SN.out).mono ?_;rintro e W8⟨rfl,m8,hw8⟩;have j6:Hid (Q0a W7 W8):=hid (by rw[hw8];exact Q0r _ _);clear hw8))
 have jk:=hid (j6.at jb.out (fun x=>x));have jm:=hid (j6.at jd.out (fun x=>x));have a1:W8.cell? ⟨w4.heap.size,1,none⟩=some (.slice wa gw.length wc):=Q0b jk.out 1;have b1:W8.cell? ⟨w6.heap.size,1,none⟩=some (.slice ua gw.length uc):=Q0b jm.out 1;have SW:=hid (y06 W8 _ _ gw (Q0z.fresh (IntOwn.at' jt.out) (j1.trans j6.out)) (Q0z.fresh (IntOwn.at' kd.out) (jp.trans j6.out)) (by omega));clear a0 b0 SN jb jd;go_upto_region 8 with(first
  |(go_at_call 7;refine(SW.out).mono ?_;rintro e W9⟨rfl,m9,hw9⟩;have jf:Hid (Q0a W8 W9):=hid (by rw[hw9];exact Q0r _ _);clear hw9))
 have jl:=hid (jf.at jk.out (fun x=>x));have jz:=hid (jf.at jm.out (fun x=>x));have ke:W9.cell? ⟨w4.heap.size,1,none⟩=some (.slice wa gw.length wc):=Q0b jl.out 1;have kf:W9.cell? ⟨w4.heap.size,2,none⟩=some (.int .i64 gp):=Q0b jl.out 2;have kg:W9.cell? ⟨w6.heap.size,2,none⟩=some (.int .i64 gp):=Q0b jz.out 2;have jw:W9.ownsRow W3.heap.size 3 1 (.slice wa gw.length wc) gw.length (Q5w gw):=z0c jt.out (fun g hg=>((j1.trans j6.out).trans jf.out).block g (jt.lt g hg).2 (fun x=>x));have k9:=hid jw;have OW:=hid (v0c W9 _ gw (-78) (z0f jw (qBg _)) (by omega));unfold OwnRet at OW;have jo:=hid (k0.trans ((j1.trans j6.out).trans jf.out));clear a1 b1 SW jw jk jm;go_upto_region 11 with(first
  |(go_at_call 8;refine csm (NU.out _ _) ?_)
  |(go_at_call 9;refine(OW.out).mono ?_;rintro e W10⟨e1,q1,e2,q2,e3,q3,rfl,hO10,hm10,p1,p2,p3⟩;have jr:=hid hO10;have jq:=hid hm10;clear hO10 hm10 p1 p2 p3)
  |(refine z0e rfl 35 _ _ rfl W10 _ (Q91 (.slice wa gw.length wc) (.slice e1 (gw.length+1) q1) (.slice e2 (gw.length+2) q2) (.slice e3 (gw.length+6) q3) (-78)) _ rfl rfl rfl szOwn rfl (x3w _ _ _ _ _ _ _ _ _ _ _ _ _) ?_))
 have j4:Q0a W3 W10:=jo.trans' jq.out (fun k hk e=>by have:=(k9.lt k e).1;omega);have j3:Q0a W10 (W10.alloc (.cells (Q91 (.slice wa gw.length wc) (.slice e1 (gw.length+1) q1) (.slice e2 (gw.length+2) q2) (.slice e3 (gw.length+6) q3) (-78)) 35)):=(mRf _ W10).alloc _;have j5:=z0a W10 (.cells (Q91 (.slice wa gw.length wc) (.slice e1 (gw.length+1) q1) (.slice e2 (gw.length+2) q2) (.slice e3 (gw.length+6) q3) (-78)) 35);generalize(W10.alloc (.cells (Q91 (.slice wa gw.length wc) (.slice e1 (gw.length+1) q1) (.slice e2 (gw.length+2) q2) (.slice e3 (gw.length+6) q3) (-78)) 35))=W11 at j3 j5 ⊢;have j0:=hid (j4.trans j3);have j7:=hid j5;have js:=hid (jr.kept (w':=W11) (fun x _ k _ hlt=>j3.block k hlt (fun z=>z)));have j9:=j0.at jc.out (fun x=>x);have SL:=hid (y06 W11 _ _ kinds (jg.out W11 j9).1 (HK.fresh (je.trans j0.out)) (by omega));clear ke kf kg OW jl jz j4 j3 j5 j9;go_upto_region 12 with(first
  |(go_at_call 7;refine(SL.out).mono ?_;rintro e W12⟨rfl,m12,hw12⟩;have j2:Hid (Q0a W11 W12):=hid (by rw[hw12];exact Q0r _ _);clear hw12))
 have jn:=hid (j2.at j7.out (fun x=>x));have LH:=hid (y9x W12 wa e1 e2 e3 gw.length wc q1 q2 q3 (-78) (js.kept (w':=W12) (fun x _ k _ hlt=>j2.block k hlt (fun z=>z))) (by omega));clear SL j7;go_upto_region 13 with(first
  |(refine wpList_load_row rfl 35 _ rfl W10.heap.size rfl _ _ _ _ jn.out Tryz.underlying35 rfl szOwn ?_)
  |(go_at_call 10;refine(LH.out).mono ?_;rintro e W13⟨rfl,hf13⟩;have j8:=hid hf13;clear hf13))
 have ja:=(j0.trans (j2.trans j8.out)).at jc.out (fun x=>x);have y1:=(jg.out W13 ja).2;clear ja LH;go_wp2;go_ret;exact⟨rfl,je.trans (j0.trans (j2.trans j8.out))⟩
end Go.Proofs.YtcpceafmlgaodaaGreat
namespace Go.Proofs.YtcpceafmlgaodaaGreat
open Go.ChangeShapes Go.WideShapes Go.ChangeAt Go.RowKit
open Go.ChangeMaps (open_string shut_string)
set_option maxRecDepth 99999
set_option maxHeartbeats 0
set_option linter.all false
theorem Tryz.own:ownKnob Tryz.prog.godebug=none:=by kernel_rfl
theorem Tryz.laidOut:laidOutB Tryz.prog=true:=by kernel_rfl
theorem byInt:Tryz.prog.bytesOf 3=8:=by kernel_rfl
theorem y2c(os:Os)(started:os.Started)(H:Type)(enc:TypeId × Value->H) :
  ReturnsInHanded {} Tryz.checked os 3 .any (Rows.parsedSpec.pre6 enc Tryz.prog Tryz.f3 Rows.parsedRow.domain false) (Rows.parsedSpec.post enc Tryz.prog Tryz.f3 false true false false):=by
 refine returnsInHanded_of_change_sized (C:=Tryz.checked) Tryz.own started (by kernel_rfl) Tryz.func3
  (ChangeSpec.witness6 (enc:=enc) (C:=Tryz.checked) false ⟨#[],#[.string ByteArray.empty,.slice none 0 0],[]⟩ 8 (by kernel_rfl) (by kernel_rfl) (by kernel_rfl) (by kernel_rfl)) ?_
 intro W base args ds gs before hval0 hW hcnd hz _;have j0:∀(j:Nat) t v,Tryz.f3.params[j]? = some t->args[j]? = some v->Value.okWide Tryz.prog W .any base t v:=hval0;have j2:=hW;obtain⟨p,q,hA0,hV,rfl,hfz,hnd⟩:=hW;have hA:DataW.TrodAll enc Tryz.prog W 0 (fun _=>true) true Tryz.f3.params.toList args.toList ds p:=hA0;have hZ:(DataW.weightsEach Tryz.prog (Tryz.f3.params.toList++Rows.parsedSpec.plain.varTypes Tryz.prog) (ds++gs)).all (·<=reachBytes)=true:=hz;rw[Tryz.params3]at hA j0 hZ;obtain⟨v0,v1,d0,d1,p0,p1,rfl,rfl,rfl,h0,h1⟩:=trodAll_two hA;obtain⟨rfl,rfl⟩:=trodVars_none hV;obtain⟨s,rfl,rfl,rfl,ws⟩:=open_string Tryz.underlying9 (j0 0 9 v0 rfl rfl) h0;obtain⟨a1,len1,cap1,rfl⟩:=okWide_slice Tryz.underlying22 (j0 1 22 v1 rfl rfl);have k1:=h1;have j7:∀x∈p1,x.block<W.heap.size:=by obtain⟨m,hm⟩:=k1;exact DataW.trod_lt m _ _ _ hm
 obtain⟨kinds,hk,hm⟩:∃kinds,Q0z W (.slice a1 len1 cap1) kinds/\kinds.length<=35000000000000:=by
  obtain⟨fuel,hf⟩:=h1;rcases open_ints Tryz.underlying22 Tryz.underlying3 (by kernel_rfl) hf with⟨hcs,_⟩|⟨x,l,c,zs,hcs,_,hl,hm,hz2,hx,hcell,hwz⟩
  ·simp[Value.cells]at hcs;obtain⟨rfl,rfl,rfl⟩:=hcs;exact⟨[],⟨none,0,rfl,qR _,fun j hj=>absurd hj (by simp)⟩,by simp⟩
  simp[Value.cells]at hcs;obtain⟨rfl,rfl,rfl⟩:=hcs;have j9:zs.length=cap1:=by simpa using hz2
  have j1:(zs.take len1).length=len1:=by rw[qBo];omega
  have j6:d1=.slice (lits .i64 (zs.take len1)) (lits .i64 (zs.drop len1)):=(Prod.mk.inj hx).1;have j5:=sized_slice hZ (j:=1) (t:=22) (by rfl) (by rw[j6];rfl) Tryz.underlying22;rw[byInt]at j5;have j4:∀l:List Int,(lits (H:=H) .i64 l).length=l.length:=fun l=>by simp[lits]
  rw[j4,j4,j1]at j5;have j8:reachBytes=140737488351232:=by decide
  refine⟨zs.take len1,⟨some x,cap1,by rw[j1],by rw[j1];exact hl,fun j hj=>?_⟩,by rw[j1];omega⟩;obtain⟨b,off,rfl,hc⟩:=ints_at hcell (by omega);have j3:j<zs.length:=by omega
  refine⟨b,off,rfl,?_⟩;have:=hc j j3;rw[List.getElem_take];simpa [List.getD,j3]using this
 clear hA0 hval0 hz hZ;simp only[qAt]at j2;refine(x0c s kinds _ W ws hk hm).mono fun e W' ⟨he,hF⟩=>?_;subst he;have hB:=hF.below;refine⟨_,rfl,_,_,_,[],p1,[],j2,?_,?_,?_,hB.frame _,fun h=>by cases h⟩
 ·exact trodAll_mk1 (shut_bool Tryz.underlying4 true)
 ·exact trodAll_mk2 (shut_string Tryz.underlying9 ws) (Below.trod Tryz.laidOut (by kernel_rfl) (of_decide_eq_true (by kernel_rfl)) k1 hB j7)
 trivial
theorem parsed_holds:Rows.ParsedSaid :=
 OpenClaim.holds_of_wide 3 Tryz.f3 rfl rfl rfl rfl rfl rfl rfl ⟨rfl,rfl,rfl,rfl,rfl⟩ rfl rfl rfl rfl rfl (by kernel_rfl) Tryz.func3 (by kernel_rfl)
  (of_decide_eq_true (by kernel_rfl)) (by unfold Func.isWrapper;first|(rw[qAb (by decide +kernel)];kernel_rfl)|(rw[qAa (by decide +kernel)];exact⟨rfl,rfl⟩))
  (fun os started H enc _=>y2c os started H enc)
#print axioms parsed_holds
end Go.Proofs.YtcpceafmlgaodaaGreat
