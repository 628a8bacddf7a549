import Derived.Test.YtbdpfmalabgmbaaGreatRb2
namespace Go.Proofs.YtbdpfmalabgmbaaGreat
open Go.RowKit
set_option maxRecDepth 99999
set_option maxHeartbeats 0
set_option linter.all false
structure Q1v(w:World)(B n:Nat)(v:Value)(gs:List Nat)(M:Mat):Prop where
 own:w.ownsRow B 118 1 v gs.length (gs.map fun g=>bsl g n)
 len:gs.length=M.length
 blk:∀(i g:Nat),gs[i]? = some g->B<=g/\Q1x w g (M.getD i [])
 inj:∀(i j g:Nat),gs[i]? = some g->gs[j]? = some g->i=j
 ne:∀g∈gs,v.ownBlock≠some g
theorem Q1v.nil(w:World)(B n:Nat):Q1v w B n (.slice none 0 0) [] [] :=
 ⟨qAh _ _ _ _,rfl,fun i g h=>by simp at h,fun i j g h=>by simp at h,fun g h=>by cases h⟩
theorem Q1v.fresh{w w':World}{B n:Nat}{v:Value}{gs:List Nat}{M:Mat}(h:Q1v w B n v gs M)(hf:Q0a w w'):Q1v w' B n v gs M :=
 ⟨z0d h.own (fun g hg=>hf.block g (h.own.lt g hg).2 id),h.len,fun i g h1=>⟨(h.blk i g h1).1,(h.blk i g h1).2.fresh hf⟩,h.inj,h.ne⟩
theorem Q1v.next{w w':World}{B n:Nat}{v v':Value}{gs:List Nat}{M:Mat}{g:Nat}{f:List Bool}(h:Q1v w B n v gs M)(hg:Q1x w g f)(hBg:B<=g)(hne:v.ownBlock≠some g)(hnew:∀x∈gs,x≠g)
  (hown:w'.ownsRow B 118 1 v' (gs.length+1) ((gs.map fun g=>bsl g n)++[bsl g n])) (hgr:w.grownBy w' v.ownBlock) (hblk:∀k,v'.ownBlock=some k->v.ownBlock=some k∨w.heap.size<=k) :
  Q1v w' B n v' (gs++[g]) (M++[f]):=by
 have j1:=hg.lt;have hk:∀(k:Nat) (o:Obj),k<w.heap.size->v.ownBlock≠some k->w.heap[k]? = some o->w'.heap[k]? = some o:=fun k o h1 h2 h3=>by
  rw[hgr.block k h1 (fun e=>h2 e.symm)];exact h3
 have j3:∀x∈gs,x<w.heap.size:=fun x hx=>by
  obtain⟨i,hi,rfl⟩:=qBf hx;exact(h.blk i _ (qE hi)).2.lt
 refine⟨by simpa using hown,by simp[h.len],fun i g' h1=>?_,fun i j g' h1 h2=>?_,fun g' h1 e=>?_⟩
 ·by_cases hi:i<gs.length
  ·rw[qAl hi]at h1;obtain⟨q1,q2⟩:=h.blk i g' h1;refine⟨q1,?_⟩;have e:(M++[f]).getD i []=M.getD i []:=by
    rw[qD,qD,qAl (by rw[← h.len];exact hi)]
   rw[e];exact hk _ _ q2.lt (h.ne g' (qAi h1)) q2
  have j0:i=gs.length:=by
   have:=(qS h1).1;simp at this;omega
  subst j0;rw[qAr (qR _)]at h1;simp at h1;subst h1;refine⟨hBg,?_⟩;have e:(M++[f]).getD gs.length []=f:=by
   rw[qD,h.len,qAr (qR _)];simp
  rw[e];exact hk _ _ j1 hne hg
 ·by_cases hi:i<gs.length
  ·by_cases hj:j<gs.length
   ·rw[qAl hi]at h1;rw[qAl hj]at h2;exact h.inj i j g' h1 h2
   have j2:j=gs.length:=by
    have:=(qS h2).1;simp at this;omega
   subst j2;rw[qAl hi]at h1;rw[qAr (qR _)]at h2;simp at h2;exact absurd h2.symm (hnew g' (qAi h1))
  have j0:i=gs.length:=by
   have:=(qS h1).1;simp at this;omega
  subst j0;rw[qAr (qR _)]at h1;simp at h1;by_cases hj:j<gs.length
  ·rw[qAl hj]at h2;exact absurd h1.symm (hnew g' (qAi h2))
  have:=(qS h2).1;simp at this;omega
 rcases hblk _ e with q|q
 ·simp only[qU,qM]at h1;rcases h1 with h1|rfl
  ·exact h.ne g' h1 q
  exact hne q
 simp only[qU,qM]at h1;rcases h1 with h1|rfl
 ·have:=j3 g' h1;omega
 omega
theorem Q1v.put{w:World}{B n:Nat}{v:Value}{gs:List Nat}{M:Mat}(h:Q1v w B n v gs M){i g:Nat}(hi:gs[i]? = some g)(j:Nat)(b:Bool):Q1v (w.setCell ⟨g,j,none⟩ (.bool b)) B n v gs (Q72 M i j b):=by
 have j0:=(qS hi).1;refine⟨z0d h.own (fun k hk=>heap_setCell_other _ (fun e=>h.ne g (qAi hi) (by rw[← (show k=g from e)];exact hk))),by unfold Q72;rw[qBr];exact h.len,fun k g' hk=>?_,h.inj,h.ne⟩;obtain⟨q1,q2⟩:=h.blk k g' hk;refine⟨q1,?_⟩;unfold Q72;rw[z2a _ _ _ _ _ (by rw[← h.len];exact j0)];by_cases e:k=i
 ·subst e;rw[hi]at hk;injection hk with hk;subst hk;rw[qAb rfl];exact q2.put j b
 rw[qAa e];unfold Q1x at q2 ⊢;rw[heap_setCell_other _ (fun e2=>e (h.inj k i g (by rw[← (show g'=g from e2)];exact hk) hi))];exact q2
def MxRet(w:World)(n:Nat)(M:Mat)(e:Ending)(w':World):Prop:=∃v gs,e=.returned v/\Q1v w' w.heap.size n v gs M/\Q0a w w'
theorem z7h(w:World)(n:Nat)(hn:n<=100) :
  Calls Tryz.prog 85 #[.int .i64 n] w fun e w'=>MxRet w n (sqF n) e w':=by
 have mk:=fun w=>run_make_row' (P:=Tryz.prog) 118 4 (.bool false) 1 qCw (by kernel_rfl) rfl .i64 .i64 n (by omega) (by omega) w;obtain⟨i0,jc,jf,jg,jh⟩:=infoBS';go_enter Tryz.func85,Tryz.ntmps85
 go_wp2;go_loopw [3,4,5] (fun x3 x4 _ wr=>∃(i:Nat) (gs:List Nat),x4=.int .i64 i/\i<=n/\Q1v wr w.heap.size n x3 gs (List.replicate i (List.replicate n false))/\Q0a w wr)
   (fun _ x _ _=>1001-(intOf x).toNat)
 case atStart=>exact⟨0,[],rfl,by omega,Q1v.nil _ _ _,mRf _ _⟩
 obtain⟨i,gs,rfl,hi,hM,j3⟩:=hrel;have j8:=hid (Q19 (B:=1001) i (by omega));have j7:gs.length=i:=by have:=hM.len;simpa using this
 have jb:gs.length<=100:=by omega
 have HM:=hid hM;have HF:=hid j3;obtain⟨ao,cp,hv⟩:=z0c hM.own;subst hv;have ji:w.heap.size<=wr.heap.size:=j3.size;by_cases je:i<n
 ·have k1:(i:Int)<(n:Int):=by omega
  have j9:Hid (∀o o2:Obj,((wr.alloc o).alloc o2).ownsRow w.heap.size 118 1 (.slice ao gs.length cp) gs.length (gs.map fun g=>bsl g n)):=hid (fun o o2=>(HM.own.alloc o).alloc o2);have j4:Hid (∀(o2:Obj) (v':Value) (w6:World),w6.ownsRow w.heap.size 118 1 v' (gs.length+1) ((gs.map fun g=>bsl g n)++[bsl wr.heap.size n])->((wr.alloc (.cells (madeCells #[.bool false] n) 4)).alloc o2).grownBy w6 (Value.ownBlock (.slice ao gs.length cp))->(∀k,v'.ownBlock=some k->Value.ownBlock (.slice ao gs.length cp)=some k∨((wr.alloc (.cells (madeCells #[.bool false] n) 4)).alloc o2).heap.size<=k) ->
    Q1v w6 w.heap.size n v' (gs++[wr.heap.size]) (List.replicate (i+1) (List.replicate n false))/\Q0a w w6):=hid (fun o2 v' w6 h1 h2 h3=>by
   have j6:Q0a wr ((wr.alloc (.cells (madeCells #[.bool false] n) 4)).alloc o2):=((mRf _ wr).alloc _).alloc _;have ja:Q1x ((wr.alloc (.cells (madeCells #[.bool false] n) 4)).alloc o2) wr.heap.size (List.replicate n false):=z0b (by rw[z03];exact z0a _ _);refine⟨?_,?_⟩
   ·rw[List.replicate_succ'];refine(HM.fresh j6).next ja HF.size ?_ ?_ h1 h2 h3
    ·intro e;have:=(HM.own.lt _ e).2;omega
    intro x hx e;obtain⟨k,hk,rfl⟩:=qBf hx;have:=(HM.blk k _ (qE hk)).2.lt;omega
   exact Mod.grown (S:=fun _=>False) (HF.trans j6) h2 (fun k hk je=>by have:=(HM.own.lt k hk).1;omega))
  clear hM j3 j7;go_wp2_with (first
   |(at_builtin;refine z0f _ rfl _ _ 117 rfl w.heap.size 118 i0 _ 1 24 Tryz.underlying117 jc jf jg jh rfl (by decide) (.slice ao gs.length cp) gs.length _ rfl (j9.out _ _) ⟨wr.heap.size+1,0,none⟩ 1 1 [bsl wr.heap.size n] rfl rfl (z13 rfl) (by intro u hu;simp at hu;subst hu;rfl) (by unfold maxLen;omega) (by omega) (by simp;omega) ?_))
  intro v' w6 j1 j0 j2;have j5:=hid (j4.out _ v' w6 j1 j0 (by simpa using j2));clear j1 j0 j2;go_wp2;go_roundw
  case rel=>exact⟨i+1,_,by go_num,by omega,j5.1,j5.2⟩
  exact j8.out
 have k1:¬(i:Int)<(n:Int):=by omega
 have jd:i=n:=by omega
 subst jd;clear hM j3 j7;go_wp2;go_ret;exact⟨_,gs,rfl,HM.out,HF.out⟩
abbrev UpM(gs:List Nat):World->World->Prop:=Mod (fun k=>k∈gs)
def ChRet(w:World)(B n:Nat)(v:Value)(gs:List Nat)(M:Mat)(e:Ending)(w':World):Prop:=e=.returned v/\Q1v w' B n v gs M/\UpM gs w w'
theorem Q1v.row{w:World}{B n:Nat}{g c m:Nat}{gs:List Nat}{M:Mat}(h:Q1v w B n (.slice (some ⟨g,0,none⟩) m c) gs M){i gi:Nat}(hi:gs[i]? = some gi):w.cell? ⟨g,i,none⟩=some (bsl gi n):=by
 have:=h.own.cells (g:=g) rfl i (bsl gi n) (by rw[qBt,hi];rfl);rwa [qDd,qBy]at this
theorem Q1v.cell{w:World}{B n:Nat}{v:Value}{gs:List Nat}{M:Mat}(h:Q1v w B n v gs M)(hs:Sq n M){i gi j:Nat}(hi:gs[i]? = some gi)(hj:j<n):w.cell? ⟨gi,j,none⟩=some (.bool (atM M i j)):=by
 have hl:=(qS hi).1;exact(h.blk i gi hi).2.cell (by rw[hs.row i (by rw[← hs.len,← h.len];exact hl)];exact hj)
theorem Q1v.drew{w:World}{B n:Nat}{v:Value}{gs:List Nat}{M:Mat}(h:Q1v w B n v gs M):Q1v w.drew B n v gs M:=h.fresh ⟨rfl,rfl,rfl,qR _,fun _ _ _=>rfl⟩
theorem wJ_s(k i n j:Nat)(M:Mat)(h:j<n):wJ k i (n-j) j M=wJ k i (n-(j+1)) (j+1) (Q72 M i j (atM M i j||(atM M i k&&atM M k j))):=by
 rw[show n-j=(n-(j+1))+1 by omega];rfl
theorem wI_s(k n i:Nat)(M:Mat)(h:i<n):wI k n (n-i) i M=wI k n (n-(i+1)) (i+1) (wJ k i n 0 M):=by
 rw[show n-i=(n-(i+1))+1 by omega];rfl
theorem wK_s(n k:Nat)(M:Mat)(h:k<n):wK n (n-k) k M=wK n (n-(k+1)) (k+1) (wI k n n 0 M):=by
 rw[show n-k=(n-(k+1))+1 by omega];rfl
theorem z8w(w:World)(B n:Nat)(v:Value)(gs:List Nat)(M:Mat)(hM:Q1v w B n v gs M)(hs:Sq n M)(hn:n<=100) :
  Calls Tryz.prog 108 #[v] w fun e w'=>ChRet w B n v gs (Q5j M) e w':=by
 have jg:gs.length=n:=by rw[hM.len,hs.len]
 have jf:Q5j M=wK n n 0 M:=by unfold Q5j;rw[hs.len]
 generalize Q5j M=V at jf;have HV:=hid jf.symm;obtain⟨ao,cp,hv⟩:=z0c hM.own;rw[jg]at hv;subst hv;have HM:=hid hM;have HS:=hid hs;have j8:=hid jg;clear hM hs jf jg;go_enter Tryz.func108,Tryz.ntmps108
 go_wp2;go_loopw [4,5,6] (fun x4 _ _ wr=>∃(k:Nat) (M':Mat),x4=.int .i64 k/\k<=n/\Q1v wr B n (.slice ao n cp) gs M'/\Sq n M'/\UpM gs w wr/\wK n (n-k) k M'=V)
   (fun x _ _ _=>1001-(intOf x).toNat)
 case atStart=>exact⟨0,M,rfl,by omega,HM.out,HS.out,mRf _ _,HV.out⟩
 obtain⟨k,M1,rfl,hk,hM,hs,j3,j0⟩:=hrel;have jv:=hid (Q19 (B:=1001) k (by omega));have j9:=hid hM;have jm:=hid hs;have jd:=hid j3;clear HM HS HV hM hs j3;by_cases jh:k<n
 ·have k1:(k:Int)<(n:Int):=by omega
  rw[wK_s _ _ _ jh]at j0;generalize hF2:wI k n n 0 M1=F2 at j0;have ji:=hid hF2;have j4:=hid j0;clear hF2 j0;go_wp2;go_loopw [5,6] (fun x5 _ wr=>∃(i:Nat) (M':Mat),x5=.int .i64 i/\i<=n/\Q1v wr B n (.slice ao n cp) gs M'/\Sq n M'/\UpM gs w wr/\wI k n (n-i) i M'=F2)
    (fun x _ _=>1001-(intOf x).toNat)
  case atStart=>exact⟨0,M1,rfl,by omega,j9.out,jm.out,jd.out,ji.out⟩
  obtain⟨i,M2,rfl,hi,hM,hs,j3,j0⟩:=hrel;have ju:=hid (Q19 (B:=1001) i (by omega));have ja:=hid hM;have jc:=hid hs;have je:=hid j3;clear j9 jm jd ji hM hs j3;by_cases j5:i<n
  ·have k2:(i:Int)<(n:Int):=by omega
   rw[wI_s _ _ _ _ j5]at j0;generalize hF3:wJ k i n 0 M2=F3 at j0;have jj:=hid hF3;have j2:=hid j0;clear hF3 j0;obtain⟨gi,jp⟩:∃g,gs[i]? = some g:=⟨_,qE (by rw[j8.out];exact j5)⟩;obtain⟨gk,jq⟩:∃g,gs[k]? = some g:=⟨_,qE (by rw[j8.out];exact jh)⟩;have j7:=hid jp;have jk:=hid jq;clear jp jq;go_wp2;go_loopw [6] (fun x6 wr=>∃(j:Nat) (M':Mat),x6=.int .i64 j/\j<=n/\Q1v wr B n (.slice ao n cp) gs M'/\Sq n M'/\UpM gs w wr/\wJ k i (n-j) j M'=F3)
     (fun x _=>1001-(intOf x).toNat)
   case atStart=>exact⟨0,M2,rfl,by omega,ja.out,jc.out,je.out,jj.out⟩
   obtain⟨j,M3,rfl,hj,hM,hs,j3,j0⟩:=hrel;have jb:=hid (Q19 (B:=1001) j (by omega));have jo:=hid j3;have jl:=hid hM;have jn:=hid hs;clear ja jc je jj j3;by_cases j6:j<n
   ·have k3:(j:Int)<(n:Int):=by omega
    rw[wJ_s _ _ _ _ _ j6]at j0;have j1:=hid j0;obtain⟨gv,cv,hv⟩:=Joins.ownsRow_form hM.own (by rw[j8.out];omega);rw[j8.out,qI]at hv;obtain⟨rfl,_,rfl⟩:=hv;have r1:=hM.row j7.out;have r2:=hM.row jk.out;have c1:=hM.cell hs j7.out j6;have c2:=hM.cell hs j7.out jh;have c3:=hM.cell hs jk.out j6;have z1:=(hM.blk i gi j7.out).2.frozen j;have HP:Hid (∀c:Bool,Q1v (wr.setCell ⟨gi,j,none⟩ (.bool c)).drew B n (.slice (some ⟨gv,0,none⟩) n cp) gs (Q72 M3 i j c)/\Sq n (Q72 M3 i j c)/\UpM gs w (wr.setCell ⟨gi,j,none⟩ (.bool c)).drew):=hid (fun c =>
     ⟨(jl.put j7.out j c).drew,y0b jn.out j5 c,(jo.setCell (fun _=>qAi j7.out) _).drew⟩)
    generalize atM M3 i j=xa at j1 c1;generalize atM M3 i k=xb at j1 c2;generalize atM M3 k j=xc at j1 c3;clear hM hs j0;cases xa
    ·cases xb
     ·go_wp2_with fail
      go_region;all_goals
       go_wp2;go_roundw
       case rel=>exact⟨j+1,_,by go_num,by omega,(HP.out _).1,(HP.out _).2.1,(HP.out _).2.2,j1.out⟩
       exact jb.out
     cases xc;all_goals
      go_wp2_with fail
      go_region;all_goals
       go_wp2;go_roundw
       case rel=>exact⟨j+1,_,by go_num,by omega,(HP.out _).1,(HP.out _).2.1,(HP.out _).2.2,j1.out⟩
       exact jb.out
    go_wp2_with fail
    go_region;all_goals
     go_wp2;go_roundw
     case rel=>exact⟨j+1,_,by go_num,by omega,(HP.out _).1,(HP.out _).2.1,(HP.out _).2.2,by have:=j1.out;rw[Bool.true_or]at this;exact this⟩
     exact jb.out
   have k3:¬(j:Int)<(n:Int):=by omega
   have js:j=n:=by omega
   rw[js,qEm]at j0;have j1:=hid j0;clear hM hs j0 js;go_wp2;go_roundw
   case rel=>exact⟨i+1,M3,by go_num,by omega,jl.out,jn.out,jo.out,by have:=j1.out;unfold wJ at this;rw[this];exact j2.out⟩
   exact ju.out
  have k2:¬(i:Int)<(n:Int):=by omega
  have jr:i=n:=by omega
  rw[jr,qEm]at j0;have j2:=hid j0;clear j0 jr;go_wp2;go_roundw
  case rel=>exact⟨k+1,M2,by go_num,by omega,ja.out,jc.out,je.out,by have:=j2.out;unfold wI at this;rw[this];exact j4.out⟩
  exact jv.out
 have k1:¬(k:Int)<(n:Int):=by omega
 have jt:k=n:=by omega
 rw[jt,qEm]at j0;have j4:=hid j0;clear j0 jt;go_wp2;go_ret;refine⟨rfl,?_,jd.out⟩;have:=j4.out;unfold wK at this;rw[← this];exact j9.out
end Go.Proofs.YtbdpfmalabgmbaaGreat
