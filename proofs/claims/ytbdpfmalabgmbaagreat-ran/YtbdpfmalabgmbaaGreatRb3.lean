import Derived.Test.YtbdpfmalabgmbaaGreatRi4
import Derived.StillTailTactics
namespace Go.Proofs.YtbdpfmalabgmbaaGreat
open Go.RowKit
set_option maxRecDepth 99999
set_option maxHeartbeats 0
set_option linter.all false
structure Q1v(w:World)(B n:Nat)(v:Value)(gs:List Nat)(M:Mat):Prop where
 own:w.ownsRow B 118 1 v gs.length (gs.map fun g=>bsl g n)
 len:gs.length=M.length
 blk:∀(i g:Nat),gs[i]? = some g->B<=g/\Q1x w g (M.getD i [])
 inj:∀(i j g:Nat),gs[i]? = some g->gs[j]? = some g->i=j
 ne:∀g∈gs,v.ownBlock≠some g
theorem Q1v.nil(w:World)(B n:Nat):Q1v w B n (.slice none 0 0) [] [] :=
 ⟨qAh _ _ _ _,rfl,fun i g h=>by simp at h,fun i j g h=>by simp at h,fun g h=>by cases h⟩
theorem Q1v.fresh{w w':World}{B n:Nat}{v:Value}{gs:List Nat}{M:Mat}(h:Q1v w B n v gs M)(hf:Q0a w w'):Q1v w' B n v gs M :=
 ⟨z0d h.own (fun g hg=>hf.block g (h.own.lt g hg).2 id),h.len,fun i g h1=>⟨(h.blk i g h1).1,(h.blk i g h1).2.fresh hf⟩,h.inj,h.ne⟩
theorem Q1v.next{w w':World}{B n:Nat}{v v':Value}{gs:List Nat}{M:Mat}{g:Nat}{f:List Bool}(h:Q1v w B n v gs M)(hg:Q1x w g f)(hBg:B<=g)(hne:v.ownBlock≠some g)(hnew:∀x∈gs,x≠g)
  (hown:w'.ownsRow B 118 1 v' (gs.length+1) ((gs.map fun g=>bsl g n)++[bsl g n])) (hgr:w.grownBy w' v.ownBlock) (hblk:∀k,v'.ownBlock=some k->v.ownBlock=some k∨w.heap.size<=k) :
  Q1v w' B n v' (gs++[g]) (M++[f]):=by
 have j1:=hg.lt;have hk:∀(k:Nat) (o:Obj),k<w.heap.size->v.ownBlock≠some k->w.heap[k]? = some o->w'.heap[k]? = some o:=fun k o h1 h2 h3=>by
  rw[hgr.block k h1 (fun e=>h2 e.symm)];exact h3
 have j3:∀x∈gs,x<w.heap.size:=fun x hx=>by
  obtain⟨i,hi,rfl⟩:=qBf hx;exact(h.blk i _ (qE hi)).2.lt
 refine⟨by simpa using hown,by simp[h.len],fun i g' h1=>?_,fun i j g' h1 h2=>?_,fun g' h1 e=>?_⟩
 ·by_cases hi:i<gs.length
  ·rw[qAl hi]at h1;obtain⟨q1,q2⟩:=h.blk i g' h1;refine⟨q1,?_⟩;have e:(M++[f]).getD i []=M.getD i []:=by
    rw[qD,qD,qAl (by rw[← h.len];exact hi)]
   rw[e];exact hk _ _ q2.lt (h.ne g' (qAi h1)) q2
  have j0:i=gs.length:=by
   have:=(qS h1).1;simp at this;omega
  subst j0;rw[qAr (qR _)]at h1;simp at h1;subst h1;refine⟨hBg,?_⟩;have e:(M++[f]).getD gs.length []=f:=by
   rw[qD,h.len,qAr (qR _)];simp
  rw[e];exact hk _ _ j1 hne hg
 ·by_cases hi:i<gs.length
  ·by_cases hj:j<gs.length
   ·rw[qAl hi]at h1;rw[qAl hj]at h2;exact h.inj i j g' h1 h2
   have j2:j=gs.length:=by
    have:=(qS h2).1;simp at this;omega
   subst j2;rw[qAl hi]at h1;rw[qAr (qR _)]at h2;simp at h2;exact absurd h2.symm (hnew g' (qAi h1))
  have j0:i=gs.length:=by
   have:=(qS h1).1;simp at this;omega
  subst j0;rw[qAr (qR _)]at h1;simp at h1;by_cases hj:j<gs.length
  ·rw[qAl hj]at h2;exact absurd h1.symm (hnew g' (qAi h2))
  have:=(qS h2).1;simp at this;omega
 rcases hblk _ e with q|q
 ·simp only[qU,qM]at h1;rcases h1 with h1|rfl
  ·exact h.ne g' h1 q
  exact hne q
 simp only[qU,qM]at h1;rcases h1 with h1|rfl
 ·have:=j3 g' h1;omega
 omega
theorem Q1v.put{w:World}{B n:Nat}{v:Value}{gs:List Nat}{M:Mat}(h:Q1v w B n v gs M){i g:Nat}(hi:gs[i]? = some g)(j:Nat)(b:Bool):Q1v (w.setCell ⟨g,j,none⟩ (.bool b)) B n v gs (Q72 M i j b):=by
 have j0:=(qS hi).1;refine⟨z0d h.own (fun k hk=>heap_setCell_other _ (fun e=>h.ne g (qAi hi) (by rw[← (show k=g from e)];exact hk))),by unfold Q72;rw[qBr];exact h.len,fun k g' hk=>?_,h.inj,h.ne⟩;obtain⟨q1,q2⟩:=h.blk k g' hk;refine⟨q1,?_⟩;unfold Q72;rw[z2a _ _ _ _ _ (by rw[← h.len];exact j0)];by_cases e:k=i
 ·subst e;rw[hi]at hk;injection hk with hk;subst hk;rw[qAb rfl];exact q2.put j b
 rw[qAa e];unfold Q1x at q2 ⊢;rw[heap_setCell_other _ (fun e2=>e (h.inj k i g (by rw[← (show g'=g from e2)];exact hk) hi))];exact q2
def MxRet(w:World)(n:Nat)(M:Mat)(e:Ending)(w':World):Prop:=∃v gs,e=.returned v/\Q1v w' w.heap.size n v gs M/\Q0a w w'
theorem z7h(w:World)(n:Nat)(hn:n<=100) :
  Calls Tryz.prog 85 #[.int .i64 n] w fun e w'=>MxRet w n (sqF n) e w':=by
 have mk:=fun w=>run_make_row' (P:=Tryz.prog) 118 4 (.bool false) 1 qCw (by kernel_rfl) rfl .i64 .i64 n (by omega) (by omega) w;obtain⟨i0,jc,jf,jg,jh⟩:=infoBS';go_enter Tryz.func85,Tryz.ntmps85
 go_wp2;go_loopw [3,4,5] (fun x3 x4 _ wr=>∃(i:Nat) (gs:List Nat),x4=.int .i64 i/\i<=n/\Q1v wr w.heap.size n x3 gs (List.replicate i (List.replicate n false))/\Q0a w wr)
   (fun _ x _ _=>1001-(intOf x).toNat)
 case atStart=>exact⟨0,[],rfl,by omega,Q1v.nil _ _ _,mRf _ _⟩
 obtain⟨i,gs,rfl,hi,hM,j3⟩:=hrel;have j8:=hid (Q19 (B:=1001) i (by omega));have j7:gs.length=i:=by have:=hM.len;simpa using this
 have jb:gs.length<=100:=by omega
 have HM:=hid hM;have HF:=hid j3;obtain⟨ao,cp,hv⟩:=z0c hM.own;subst hv;have ji:w.heap.size<=wr.heap.size:=j3.size;by_cases je:i<n
 ·have k1:(i:Int)<(n:Int):=by omega
  have j9:Hid (∀o o2:Obj,((wr.alloc o).alloc o2).ownsRow w.heap.size 118 1 (.slice ao gs.length cp) gs.length (gs.map fun g=>bsl g n)):=hid (fun o o2=>(HM.own.alloc o).alloc o2);have j4:Hid (∀(o2:Obj) (v':Value) (w6:World),w6.ownsRow w.heap.size 118 1 v' (gs.length+1) ((gs.map fun g=>bsl g n)++[bsl wr.heap.size n])->((wr.alloc (.cells (madeCells #[.bool false] n) 4)).alloc o2).grownBy w6 (Value.ownBlock (.slice ao gs.length cp))->(∀k,v'.ownBlock=some k->Value.ownBlock (.slice ao gs.length cp)=some k∨((wr.alloc (.cells (madeCells #[.bool false] n) 4)).alloc o2).heap.size<=k) ->
    Q1v w6 w.heap.size n v' (gs++[wr.heap.size]) (List.replicate (i+1) (List.replicate n false))/\Q0a w w6):=hid (fun o2 v' w6 h1 h2 h3=>by
   have j6:Q0a wr ((wr.alloc (.cells (madeCells #[.bool false] n) 4)).alloc o2):=((mRf _ wr).alloc _).alloc _;have ja:Q1x ((wr.alloc (.cells (madeCells #[.bool false] n) 4)).alloc o2) wr.heap.size (List.replicate n false):=z0b (by rw[z03];exact z0a _ _);refine⟨?_,?_⟩
   ·rw[List.replicate_succ'];refine(HM.fresh j6).next ja HF.size ?_ ?_ h1 h2 h3
    ·intro e;have:=(HM.own.lt _ e).2;omega
    intro x hx e;obtain⟨k,hk,rfl⟩:=qBf hx;have:=(HM.blk k _ (qE hk)).2.lt;omega
   exact Mod.grown (S:=fun _=>False) (HF.trans j6) h2 (fun k hk je=>by have:=(HM.own.lt k hk).1;omega))
  clear hM j3 j7;go_wp2_with (first
   |(at_builtin;refine z0f _ rfl _ _ 117 rfl w.heap.size 118 i0 _ 1 24 Tryz.underlying117 jc jf jg jh rfl (by decide) (.slice ao gs.length cp) gs.length _ rfl (j9.out _ _) ⟨wr.heap.size+1,0,none⟩ 1 1 [bsl wr.heap.size n] rfl rfl (z13 rfl) (by intro u hu;simp at hu;subst hu;rfl) (by unfold maxLen;omega) (by omega) (by simp;omega) ?_))
  intro v' w6 j1 j0 j2;have j5:=hid (j4.out _ v' w6 j1 j0 (by simpa using j2));clear j1 j0 j2;go_wp2;go_roundw
  case rel=>exact⟨i+1,_,by go_num,by omega,j5.1,j5.2⟩
  exact j8.out
 have k1:¬(i:Int)<(n:Int):=by omega
 have jd:i=n:=by omega
 subst jd;clear hM j3 j7;go_wp2;go_ret;exact⟨_,gs,rfl,HM.out,HF.out⟩
abbrev UpM(gs:List Nat):World->World->Prop:=Mod (fun k=>k∈gs)
def ChRet(w:World)(B n:Nat)(v:Value)(gs:List Nat)(M:Mat)(e:Ending)(w':World):Prop:=e=.returned v/\Q1v w' B n v gs M/\UpM gs w w'
theorem Q1v.row{w:World}{B n:Nat}{g c m:Nat}{gs:List Nat}{M:Mat}(h:Q1v w B n (.slice (some ⟨g,0,none⟩) m c) gs M){i gi:Nat}(hi:gs[i]? = some gi):w.cell? ⟨g,i,none⟩=some (bsl gi n):=by
 have:=h.own.cells (g:=g) rfl i (bsl gi n) (by rw[qBt,hi];rfl);rwa [qDd,qBy]at this
theorem Q1v.cell{w:World}{B n:Nat}{v:Value}{gs:List Nat}{M:Mat}(h:Q1v w B n v gs M)(hs:Sq n M){i gi j:Nat}(hi:gs[i]? = some gi)(hj:j<n):w.cell? ⟨gi,j,none⟩=some (.bool (atM M i j)):=by
 have hl:=(qS hi).1;exact(h.blk i gi hi).2.cell (by rw[hs.row i (by rw[← hs.len,← h.len];exact hl)];exact hj)
theorem Q1v.drew{w:World}{B n:Nat}{v:Value}{gs:List Nat}{M:Mat}(h:Q1v w B n v gs M):Q1v w.drew B n v gs M:=h.fresh ⟨rfl,rfl,rfl,qR _,fun _ _ _=>rfl⟩
theorem wJ_s(k i n j:Nat)(M:Mat)(h:j<n):wJ k i (n-j) j M=wJ k i (n-(j+1)) (j+1) (Q72 M i j (atM M i j||(atM M i k&&atM M k j))):=by
 rw[show n-j=(n-(j+1))+1 by omega];rfl
theorem wI_s(k n i:Nat)(M:Mat)(h:i<n):wI k n (n-i) i M=wI k n (n-(i+1)) (i+1) (wJ k i n 0 M):=by
 rw[show n-i=(n-(i+1))+1 by omega];rfl
theorem wK_s(n k:Nat)(M:Mat)(h:k<n):wK n (n-k) k M=wK n (n-(k+1)) (k+1) (wI k n n 0 M):=by
 rw[show n-k=(n-(k+1))+1 by omega];rfl
theorem z8w(w:World)(B n:Nat)(v:Value)(gs:List Nat)(M:Mat)(hM:Q1v w B n v gs M)(hs:Sq n M)(hn:n<=100) :
  Calls Tryz.prog 108 #[v] w fun e w'=>ChRet w B n v gs (Q5j M) e w':=by
 have jg:gs.length=n:=by rw[hM.len,hs.len]
 have jf:Q5j M=wK n n 0 M:=by unfold Q5j;rw[hs.len]
 generalize Q5j M=V at jf;have HV:=hid jf.symm;obtain⟨ao,cp,hv⟩:=z0c hM.own;rw[jg]at hv;subst hv;have HM:=hid hM;have HS:=hid hs;have j8:=hid jg;clear hM hs jf jg;go_enter Tryz.func108,Tryz.ntmps108
 go_wp2;go_loopw [4,5,6] (fun x4 _ _ wr=>∃(k:Nat) (M':Mat),x4=.int .i64 k/\k<=n/\Q1v wr B n (.slice ao n cp) gs M'/\Sq n M'/\UpM gs w wr/\wK n (n-k) k M'=V)
   (fun x _ _ _=>1001-(intOf x).toNat)
 case atStart=>exact⟨0,M,rfl,by omega,HM.out,HS.out,mRf _ _,HV.out⟩
 obtain⟨k,M1,rfl,hk,hM,hs,j3,j0⟩:=hrel;have jv:=hid (Q19 (B:=1001) k (by omega));have j9:=hid hM;have jm:=hid hs;have jd:=hid j3;clear HM HS HV hM hs j3;by_cases jh:k<n
 ·have k1:(k:Int)<(n:Int):=by omega
  rw[wK_s _ _ _ jh]at j0;generalize hF2:wI k n n 0 M1=F2 at j0;have ji:=hid hF2;have j4:=hid j0;clear hF2 j0;go_wp2;go_loopw [5,6] (fun x5 _ wr=>∃(i:Nat) (M':Mat),x5=.int .i64 i/\i<=n/\Q1v wr B n (.slice ao n cp) gs M'/\Sq n M'/\UpM gs w wr/\wI k n (n-i) i M'=F2)
    (fun x _ _=>1001-(intOf x).toNat)
  case atStart=>exact⟨0,M1,rfl,by omega,j9.out,jm.out,jd.out,ji.out⟩
  obtain⟨i,M2,rfl,hi,hM,hs,j3,j0⟩:=hrel;have ju:=hid (Q19 (B:=1001) i (by omega));have ja:=hid hM;have jc:=hid hs;have je:=hid j3;clear j9 jm jd ji hM hs j3;by_cases j5:i<n
  ·have k2:(i:Int)<(n:Int):=by omega
   rw[wI_s _ _ _ _ j5]at j0;generalize hF3:wJ k i n 0 M2=F3 at j0;have jj:=hid hF3;have j2:=hid j0;clear hF3 j0;obtain⟨gi,jp⟩:∃g,gs[i]? = some g:=⟨_,qE (by rw[j8.out];exact j5)⟩;obtain⟨gk,jq⟩:∃g,gs[k]? = some g:=⟨_,qE (by rw[j8.out];exact jh)⟩;have j7:=hid jp;have jk:=hid jq;clear jp jq;go_wp2;go_loopw [6] (fun x6 wr=>∃(j:Nat) (M':Mat),x6=.int .i64 j/\j<=n/\Q1v wr B n (.slice ao n cp) gs M'/\Sq n M'/\UpM gs w wr/\wJ k i (n-j) j M'=F3)
     (fun x _=>1001-(intOf x).toNat)
   case atStart=>exact⟨0,M2,rfl,by omega,ja.out,jc.out,je.out,jj.out⟩
   obtain⟨j,M3,rfl,hj,hM,hs,j3,j0⟩:=hrel;have jb:=hid (Q19 (B:=1001) j (by omega));have jo:=hid j3;have jl:=hid hM;have jn:=hid hs;clear ja jc je jj j3;by_cases j6:j<n
   ·have k3:(j:Int)<(n:Int):=by omega
    rw[wJ_s _ _ _ _ _ j6]at j0;have j1:=hid j0;obtain⟨gv,cv,hv⟩:=Joins.ownsRow_form hM.own (by rw[j8.out];omega);rw[j8.out,qI]at hv;obtain⟨rfl,_,rfl⟩:=hv;have r1:=hM.row j7.out;have r2:=hM.row jk.out;have c1:=hM.cell hs j7.out j6;have c2:=hM.cell hs j7.out jh;have c3:=hM.cell hs jk.out j6;have z1:=(hM.blk i gi j7.out).2.frozen j;have HP:Hid (∀c:Bool,Q1v (wr.setCell ⟨gi,j,none⟩ (.bool c)).drew B n (.slice (some ⟨gv,0,none⟩) n cp) gs (Q72 M3 i j c)/\Sq n (Q72 M3 i j c)/\UpM gs w (wr.setCell ⟨gi,j,none⟩ (.bool c)).drew):=hid (fun c =>
     ⟨(jl.put j7.out j c).drew,y0b jn.out j5 c,(jo.setCell (fun _=>qAi j7.out) _).drew⟩)
    generalize atM M3 i j=xa at j1 c1;generalize atM M3 i k=xb at j1 c2;generalize atM M3 k j=xc at j1 c3;clear hM hs j0;cases xa
    ·cases xb
     ·go_wp2_with fail
      go_region;all_goals
       go_wp2;go_roundw
       case rel=>exact⟨j+1,_,by go_num,by omega,(HP.out _).1,(HP.out _).2.1,(HP.out _).2.2,j1.out⟩
       exact jb.out
     cases xc;all_goals
      go_wp2_with fail
      go_region;all_goals
       go_wp2;go_roundw
       case rel=>exact⟨j+1,_,by go_num,by omega,(HP.out _).1,(HP.out _).2.1,(HP.out _).2.2,j1.out⟩
       exact jb.out
    go_wp2_with fail
    go_region;all_goals
     go_wp2;go_roundw
     case rel=>exact⟨j+1,_,by go_num,by omega,(HP.out _).1,(HP.out _).2.1,(HP.out _).2.2,by have:=j1.out;rw[Bool.true_or]at this;exact this⟩
     exact jb.out
   have k3:¬(j:Int)<(n:Int):=by omega
   have js:j=n:=by omega
   rw[js,qEm]at j0;have j1:=hid j0;clear hM hs j0 js;go_wp2;go_roundw
   case rel=>exact⟨i+1,M3,by go_num,by omega,jl.out,jn.out,jo.out,by have:=j1.out;unfold wJ at this;rw[this];exact j2.out⟩
   exact ju.out
  have k2:¬(i:Int)<(n:Int):=by omega
  have jr:i=n:=by omega
  rw[jr,qEm]at j0;have j2:=hid j0;clear j0 jr;go_wp2;go_roundw
  case rel=>exact⟨k+1,M2,by go_num,by omega,ja.out,jc.out,je.out,by have:=j2.out;unfold wI at this;rw[this];exact j4.out⟩
  exact jv.out
 have k1:¬(k:Int)<(n:Int):=by omega
 have jt:k=n:=by omega
 rw[jt,qEm]at j0;have j4:=hid j0;clear j0 jt;go_wp2;go_ret;refine⟨rfl,?_,jd.out⟩;have:=j4.out;unfold wK at this;rw[← this];exact j9.out
theorem Q1c.take{w:World}{ao:Option Addr}{n cap:Nat}{l:List Int}(h:Q1c w (.slice ao n cap) l)(hn:n=l.length){j:Nat}(hj:j<=l.length):Q1c w (.slice ao j cap) (l.take j):=by
 obtain⟨a1,c1,e,hc,j0⟩:=h;rw[qI]at e;obtain⟨rfl,_,rfl⟩:=e;refine⟨ao,cap,by rw[qCo,qFe hj],by rw[qCo];omega,fun k hk=>?_⟩;rw[qCo]at hk;obtain⟨g,o,e1,e2⟩:=j0 k (by omega);exact⟨g,o,e1,by rw[List.getElem_take];exact e2⟩
theorem v10(c:Nat->Bool)(x:Nat)(y:Nat->Nat)(n j:Nat)(M:Mat)(h:j<n):cdJ c x y (n-j) j M=cdJ c x y (n-(j+1)) (j+1) (if c j=true then Q72 M x (y j) true else M):=by
 rw[show n-j=(n-(j+1))+1 by omega];rfl
theorem v1z(c:Q1->Nat->Bool)(x:Q1->Nat)(y:Q1->Nat->Nat)(q:List Q1)(i:Nat)(M:Mat)(h:i<q.length):cdI c x y (q.drop i) M=cdI c x y (q.drop (i+1)) (cdJ (c q[i]) (x q[i]) (y q[i]) q[i].2.length 0 M):=by
 rw[qC h];rfl
structure PrAt(w:World)(b:Nat)(P i:Nat)(x:Q1)(g3 o3 c3 g4 o4 n4 c4:Nat)(al:Option Addr)(cl:Nat):Prop where
 q3:w.cell? ⟨b,3,none⟩=some (.slice (some ⟨g3,o3,none⟩) P c3)
 y3:w.cell? ⟨g3,o3+i,none⟩=some (.int .i64 x.1)
 q4:w.cell? ⟨b,4,none⟩=some (.slice (some ⟨g4,o4,none⟩) n4 c4)
 n4:i<n4
 y4:w.cell? ⟨g4,o4+i,none⟩=some (.slice al x.2.length cl)
 l:Q1c w (.slice al x.2.length cl) x.2
theorem NV.pr{w:World}{b R H:Nat}{q:List Q1}{a0 a1 a2:Option Addr}{c0 c1 c2:Nat}{v3 v4:Value}{sv:List Value}(h:NV w b R H q a0 c0 a1 c1 a2 c2 v3 v4 sv){i:Nat}(hi:i<q.length) :
  ∃g3 o3 c3 g4 o4 n4 c4 al cl,PrAt w b q.length i q[i] g3 o3 c3 g4 o4 n4 c4 al cl:=by
 have j0:i<sv.length:=by rw[h.len];exact hi
 obtain⟨j9,j6,e4,jb,j2⟩:=h.r4;obtain⟨g4,o4,rfl,y4⟩:=j2 i j0;have q4:=h.k4;rw[e4]at q4;have hl:=h.each i sv[i] q[i] (qE j0) (qE hi);obtain⟨j4,j7,el,jc,j3⟩:=id hl;rw[el]at y4 hl;obtain⟨j8,j5,e3,ja,j1⟩:=h.r3;obtain⟨g3,o3,rfl,y3⟩:=j1 i (by rw[qAv];exact hi);rw[qCd]at y3;rw[qAv]at e3;have q3:=h.k3;rw[e3]at q3;exact⟨g3,o3,j5,g4,o4,sv.length,j6,j4,j7,q3,y3,q4,j0,y4,hl⟩
theorem PrAt.fresh{w w':World}{b P i:Nat}{x:Q1}{g3 o3 c3 g4 o4 n4 c4:Nat}{al:Option Addr}{cl:Nat}(h:PrAt w b P i x g3 o3 c3 g4 o4 n4 c4 al cl)(hf:Q0a w w'):PrAt w' b P i x g3 o3 c3 g4 o4 n4 c4 al cl :=
 ⟨Q0h hf h.q3,Q0h hf h.y3,Q0h hf h.q4,h.n4,Q0h hf h.y4,h.l.fresh hf⟩
theorem x3p(w:World)(b R H gn:Nat)(q:List Q1)(null:List Bool)(hS:Q3q w b R H q)(hQ:QOk R H q)(hn:Q1x w gn null)(hnl:null.length=H) :
  Calls Tryz.prog 76 #[.pointer (some ⟨b,0,none⟩),bsl gn H] w fun e w'=>MxRet w (R+1+H) (ldF R H null q) e w':=by
 obtain⟨a0,c0,a1,c1,a2,c2,v3,v4,sv,hN⟩:=hS;have r8:=hQ.r8;have h8:=hQ.h8;have p20:=hQ.p20;have HQ:=hid hQ;have HN:=hid hN;have k9:=hid hn;have k7:=hid hnl;have k0:=hN.k0;have k1:=hN.k1;have k2:=hN.k2;have BA:=hid (fun(W:World) (hW:Q0a w W)=>z1j W b R a0 c0 (Q0h hW k0) (by omega));have SQ:Hid (∀W:World,Q0a w W->W.heap.size=w.heap.size->Calls Tryz.prog 85 #[.int .i64 ((R+1+H:Nat):Int)] W fun e w'=>∃v gs,e=.returned v/\Q1v w' w.heap.size (R+1+H) v gs (sqF (R+1+H))/\Q0a w w'):=hid (fun W hW hz=>by
  refine(z7h W (R+1+H) (by omega)).mono ?_;rintro e w'⟨v,gs,he,hm,hf⟩;rw[hz]at hm;exact⟨v,gs,he,hm,hW.trans hf⟩)
 have CH:=hid (fun(W:World) (B:Nat) (v:Value) (gs:List Nat) (M:Mat) (h1:Q1v W B (R+1+H) v gs M) (h2:Sq (R+1+H) M)=>z8w W B (R+1+H) v gs M h1 h2 (by omega));have k3:IntKind.i64.wrap (bs R+(H:Int))=((R+1+H:Nat):Int):=by rw[qBv];unfold bs;omega
 have hV:Q5j (cdI (ldZc R null) (ldX R) W0d q (sqF (R+1+H)))=ldF R H null q:=rfl;have kg:R+1+H<=100:=by omega
 generalize ldF R H null q=V at hV;generalize je:R+1+H=n at hV SQ CH k3 kg ⊢;have k8:=hid je;have HV:=hid hV;clear hN hQ hV hn hnl k0 je;go_enter Tryz.func76,Tryz.ntmps76
 go_upto_region 1 with fail
 go_cut [5] (fun s5 wx=>∃gs,Q1v wx w.heap.size n s5 gs (sqF n)/\Q0a w wx)
 case first =>
  go_region_with (first
   |(go_at_call 47;refine(BA.out _ (by first|exact mRf _ w|exact(mRf _ w).drew|exact((mRf _ w).drew).drew)).mono ?_;rintro e w'⟨rfl,hw⟩;rw[hw];clear hw)
   |(go_at_call 85;refine(SQ.out _ (by first|exact mRf _ w|exact(mRf _ w).drew|exact((mRf _ w).drew).drew) (by rfl)).mono ?_;rintro e w3⟨v,gs,rfl,jd,ke⟩))
  all_goals
   go_wp2_with fail
   go_meet;exact⟨gs,jd,ke⟩
 obtain⟨gs,hm,jv⟩:=hcut;have HM:=hid hm;have HF:=hid jv;generalize hL0:cdI (ldZc R null) (ldX R) W0d q (sqF n)=L0 at HV;have js:=hid hL0;obtain⟨ao,cp,hv⟩:=z0c hm.own;subst hv;clear hL0 hm jv SQ k3;go_wp2;go_loopw [6,7,8] (fun x6 _ _ wr=>∃(i:Nat) (M:Mat),x6=.int .i64 i/\i<=q.length/\Q1v wr w.heap.size n (.slice ao gs.length cp) gs M/\Sq n M/\Q0a w wr/\cdI (ldZc R null) (ldX R) W0d (q.drop i) M=L0)
   (fun x _ _ _=>1001-(intOf x).toNat)
 case atStart=>exact⟨0,_,rfl,by omega,HM.out,y12 n,HF.out,js.out⟩
 obtain⟨i,M,rfl,hi,hm,hs,j2,j0⟩:=hrel;have k6:=hid (Q19 (B:=1001) i (by omega));have jc:=hid hm;have jm:=hid hs;have jh:=hid j2;have km:=Q0h j2 k1;clear HM HF js hm hs;by_cases j9:i<q.length
 ·have s1:(i:Int)<(q.length:Int):=by omega
  rw[v1z _ _ _ _ _ _ j9]at j0;generalize hF2:cdJ (ldZc R null q[i]) (ldX R q[i]) (W0d q[i]) q[i].2.length 0 M=F2 at j0;have j6:=hid j0;have jb:=HQ.hd q[i] (qG j9);have jf:=HQ.sy q[i] (qG j9);obtain⟨g3,o3,c3,g4,o4,n4,c4,al,cl,hP⟩:=HN.pr j9;generalize q[i]=z at hF2 jb jf hP;have jr:=hid hF2;have HP:=hid hP;have kl:=jf.1;have s4:(i:Int)<(n4:Int):=by have:=hP.n4;omega
  have q4:=(hP.fresh j2).q4;have y4:=(hP.fresh j2).y4;have ju:=hid jf.2;have k4:=hid jb;clear j0 hF2 hP jf jb j2;go_wp2;go_loopw [7,8] (fun x7 _ wr=>∃(j:Nat) (M:Mat),x7=.int .i64 j/\j<=z.2.length/\Q1v wr w.heap.size n (.slice ao gs.length cp) gs M/\Sq n M/\Q0a w wr/\cdJ (ldZc R null z) (ldX R z) (W0d z) (z.2.length-j) j M=F2)
    (fun x _ _=>1001-(intOf x).toNat)
  case atStart=>exact⟨0,M,rfl,by omega,jc.out,jm.out,jh.out,jr.out⟩
  obtain⟨j,M2,rfl,hj,hm,hs,j2,j0⟩:=hrel;have jt:=hid (Q19 (B:=1001) j (by omega));have jk:=hid hm;have ja:=hid hs;have ji:=hid j2;have j7:=HP.fresh j2;have q4:=j7.q4;have y4:=j7.y4;have jp:=j7.l;clear jc jm jh jr q4 y4;have q4:=j7.q4;have y4:=j7.y4;by_cases j3:j<z.2.length
  ·have s2:(j:Int)<(z.2.length:Int):=by omega
   have s3:(j:Int)<=(z.2.length:Int):=by omega
   rw[v10 _ _ _ _ _ _ j3]at j0;have j1:=hid j0;have NO:=hid (z4q wr b R H gn a0 c0 (.slice al j cl) (z.2.take j) null (Q0h j2 HN.k0) (by omega) (by omega) (jp.take rfl (by omega)) (by rw[qCo];omega) (k9.fresh j2) k7.out (fun c hc=>ju.out c (qFl hc)));obtain⟨kj,kk,e5,kc,j4⟩:=jp;rw[qI]at e5;obtain⟨rfl,_,rfl⟩:=e5;obtain⟨gl,ol,rfl,y5⟩:=j4 j j3;have s6:z.2.length<=cl:=kc;have s7:(j:Int)<=(cl:Int):=by omega
   have HC:Hid (ldZc R null z j=Q4b (bs R) null (z.2.take j)):=hid rfl;generalize Q4b (bs R) null (z.2.take j)=nb at NO HC;clear j0 hm hs j2 j4 j7;cases nb
   ·go_wp2_with (first
     |(go_at_call 78;refine(NO.out).mono ?_;rintro e w'⟨rfl,m,hw⟩;have HW:=hid hw;clear hw))
    go_roundw
    case rel =>
     have hf:=Q0v wr m;rw[← HW.out]at hf;refine⟨j+1,M2,by go_num,by omega,jk.fresh hf,ja.out,ji.trans hf,?_⟩;have:=j1.out;rw[HC.out,qAa (by simp)]at this;exact this
    exact jt.out
   go_upto_region 10 with(first
    |(go_at_call 78;refine(NO.out).mono ?_;rintro e W1⟨rfl,m,hw⟩;have HW:=hid hw;clear hw))
   have hf:Q0a wr W1:=by rw[HW.out];exact Q0v wr m
   have jj:=hid (ji.trans hf);have jn:=HP.fresh jj.out;have p3:=jn.q3;have e3:=jn.y3;have p4:=Q0h hf q4;have e4:=Q0h hf y4;have e5:=Q0h hf y5;have j5:=jk.fresh hf;have jb:=k4.out;obtain⟨jo,jw⟩:∃a:Nat,z.1=a:=⟨z.1.toNat,by omega⟩;have kd:=ju.out z.2[j] (qG j3);obtain⟨yn,jq⟩:∃a:Nat,z.2[j]=a:=⟨z.2[j].toNat,by omega⟩;have jg:ldX R z=R+1+jo:=by unfold ldX bs;omega
   have jz:W0d z j=yn:=by unfold W0d;rw[qD,qE j3,qDy,jq,qAo]
   have je:=k8.out;obtain⟨xn,hx⟩:∃a,a=R+1+jo:=⟨_,rfl⟩;rw[← hx]at jg;have kh:xn<n:=by omega
   have ki:yn<n:=by omega
   have kf:gs.length=n:=by rw[j5.len,ja.len]
   obtain⟨gx,j8⟩:∃g,gs[xn]? = some g:=⟨_,qE (by omega)⟩;obtain⟨gv,cv,hv⟩:=Joins.ownsRow_form j5.own (by omega);rw[qI]at hv;obtain⟨rfl,_,rfl⟩:=hv;have r1:=j5.row j8;have d1:=j5.cell ja.out j8 ki;have d2:=(j5.blk xn gx j8).2.frozen yn;rw[jw]at e3;rw[jq]at e5;have t1:(xn:Int)<(gs.length:Int):=by omega
   have t2:(yn:Int)<(n:Int):=by omega
   have kn:IntKind.i64.wrap (bs R+(jo:Int))=(xn:Int):=by rw[qBv];unfold bs;omega
   have jl:Hid (Q1v (W1.setCell ⟨gx,yn,none⟩ (.bool true)).drew w.heap.size n (.slice (some ⟨gv,0,none⟩) gs.length cp) gs (Q72 M2 xn yn true)/\Sq n (Q72 M2 xn yn true)/\Q0a w (W1.setCell ⟨gx,yn,none⟩ (.bool true)).drew):=hid
    ⟨(j5.put j8 yn true).drew,y0b ja.out kh true,(jj.setCell (fun j9=>by have:=(j5.blk xn gx j8).1;exact absurd j9 (by show ¬gx<w.heap.size;omega)) _).drew⟩
   have ka:Hid (cdJ (ldZc R null z) (ldX R z) (W0d z) (z.2.length-(j+1)) (j+1) (Q72 M2 xn yn true)=F2):=hid (by
    have:=j1.out;rw[HC.out,qAb rfl,jg,jz]at this;have e:ldX R z=xn:=jg;rw[e];exact this)
   clear hf jn j5 jb jw kd jq jg jz je hx kf j8 q4 y4 y5 NO j1;refine wp_region_still_tail 24 (by kernel_rfl) (by kernel_rfl) ?_;change wpStill _ _ W1.drew _ _ _;simp only[List.take_succ_cons,List.take_zero,List.drop_succ_cons,qEc];still_step
   still_step
   still_call (BA.out _ jj.drew)
   repeat still_step
   refine wpStill_nil ?_;change wpList _ _ _ _ _ W1.drew;go_wp2;go_roundw
   case rel=>exact⟨j+1,_,by go_num,by omega,jl.1,jl.2.1,jl.2.2,ka.out⟩
   exact jt.out
  have s2:¬(j:Int)<(z.2.length:Int):=by omega
  have jx:z.2.length-j=0:=by omega
  rw[jx]at j0;have j1:=hid j0;clear j0 jx hm hs j2 jp j7;go_wp2;go_roundw
  case rel=>exact⟨i+1,M2,by go_num,by omega,jk.out,ja.out,ji.out,by have:=j1.out;unfold cdJ at this;rw[this];exact j6.out⟩
  exact k6.out
 have s1:¬(i:Int)<(q.length:Int):=by omega
 rw[qAp (by omega)]at j0;have j6:=hid j0;clear j0 j2;go_wp2_with (first
  |(go_at_call 108;refine(CH.out _ _ _ _ _ jc.out jm.out).mono ?_;rintro e w3⟨rfl,jd,jy⟩;have k5:=hid jd;have kb:=hid jy;clear jd jy))
 go_ret;refine⟨_,gs,rfl,?_,?_⟩
 ·rw[← HV.out,← j6.out];exact k5.out
 have hz:=jh.out;exact hz.trans' kb.out (fun k j3 hk=>by
  obtain⟨j,hj,rfl⟩:=qBf hk;have:=(jc.blk j _ (qE hj)).1;omega)
def Q4w(q:List Q1)(m:Itm):Int:=((q[m.p]?).bind fun x=>x.2[m.d]?).getD (-1)
theorem z5q(w:World)(cb b R H:Nat)(q:List Q1)(m:Itm)(kx:w.cell? ⟨cb,0,none⟩=some (.pointer (some ⟨b,0,none⟩)))(hS:Q3q w b R H q)(hQ:QOk R H q)(hm:m.p<q.length)(hd:m.d<=1000) :
  Calls Tryz.prog 84 #[.pointer (some ⟨cb,0,none⟩),.agg (itA m.p m.d m.f)] w fun e w'=>e=.returned (.int .i64 (Q4w q m))/\Q0a w w':=by
 obtain⟨p,d,f⟩:=m;dsimp only at hm hd ⊢;obtain⟨a0,c0,a1,c1,a2,c2,v3,v4,sv,hN⟩:=hS;obtain⟨g3,o3,c3,g4,o4,n4,c4,al,cl,hP⟩:=hN.pr hm;have j3:=hQ.p20;have j6:=(hQ.sy q[p] (qG hm)).1;have j2:Q4w q ⟨p,d,f⟩=(q[p].2[d]?).getD (-1):=by unfold Q4w;simp[qE hm]
 rw[j2];have j1:Q0a w (w.alloc (.cells (itA p d f) 180 (0,0))):=(mRf _ w).alloc _;have i0:=Q0b (z0a w (.cells (itA p d f) 180 (0,0))) 0;have i1:=Q0b (z0a w (.cells (itA p d f) 180 (0,0))) 1;simp at i0 i1;have x0:=Q0h j1 kx;have q4:=Q0h j1 hP.q4;have y4:=Q0h j1 hP.y4;have s4:(p:Int)<(n4:Int):=by have:=hP.n4;omega
 have hl:=hP.l.fresh j1;have HF:Hid (∀k,Q0a w ((w.alloc (.cells (itA p d f) 180 (0,0))).drewN k)):=fun k=>j1.trans (Q0v _ k);have j7:p<20:=by omega
 clear j1 j2 kx hN hQ hP;generalize q[p]=x at j6 y4 hl ⊢;clear hm j3;obtain⟨ao,cap,e,hc,j0⟩:=hl;rw[qI]at e;obtain⟨rfl,_,rfl⟩:=e;have HC:=hid j0;clear j0;by_cases j5:d<x.2.length
 ·obtain⟨g,o,rfl,j4⟩:=HC.out d j5;have h1:¬((x.2.length:Int)<=(d:Int)):=by omega
  have h2:(d:Int)<(x.2.length:Int):=by omega
  rw[qE j5,qDy];have c1:=j4;generalize x.2[d]=c at c1 ⊢;clear j4 HC;go_enter Tryz.func84,Tryz.ntmps84
  go_wp2_with fail
  go_quiet (fail);go_wp2_with fail
  go_quiet (fail);go_wp2;go_ret;exact⟨rfl,(HF.out _).trans (Q0v _ _)⟩
 have h1:((x.2.length:Int)<=(d:Int)):=by omega
 rw[qN (by omega),Option.getD_none];clear HC;go_enter Tryz.func84,Tryz.ntmps84
 go_wp2_with fail
 go_quiet (fail);go_wp2;go_ret;exact⟨rfl,HF.out _⟩
structure Q78(w0 w:World)(cb gs cap b:Nat)(vs:List Value)(L:List (List Itm)):Prop where
 fr:Q0a w0 w
 c:w.heap[cb]? = some (.cells #[.pointer (some ⟨b,0,none⟩),.slice (some ⟨gs,0,none⟩) vs.length cap] 177 (0,0))
 cB:w0.heap.size<=cb
 gB:w0.heap.size<=gs
 ne:gs≠cb
 row:w.ownsRow 0 181 1 (.slice (some ⟨gs,0,none⟩) vs.length cap) vs.length vs
 len:vs.length=L.length
 each:∀(k:Nat) (v:Value) (X:List Itm),vs[k]? = some v->L[k]? = some X->ItsAt w v X
 low:∀(k:Nat) (v:Value) (g:Nat),vs[k]? = some v->v.ownBlock=some g->w0.heap.size<=g/\g≠cb/\g≠gs
 sep:∀(j k:Nat) (v u:Value) (g:Nat),vs[j]? = some v->vs[k]? = some u->v.ownBlock=some g->u.ownBlock=some g->j=k
section
variable {w0 w w':World}{cb gs cap b:Nat}{vs:List Value}{L:List (List Itm)}
theorem Q78.fresh(h:Q78 w0 w cb gs cap b vs L)(hf:Q0a w w'):Q78 w0 w' cb gs cap b vs L :=
 ⟨h.fr.trans hf,by rw[hf.block cb (z0j h.c) id];exact h.c,h.cB,h.gB,h.ne,z0d h.row (fun g hg=>hf.block g (h.row.lt g hg).2 id),h.len,fun k v X h1 h2=>(h.each k v X h1 h2).fresh hf,h.low,h.sep⟩
theorem Q78.x(h:Q78 w0 w cb gs cap b vs L):w.cell? ⟨cb,0,none⟩=some (.pointer (some ⟨b,0,none⟩)):=by rw[Q0b h.c 0];rfl
theorem Q78.s(h:Q78 w0 w cb gs cap b vs L):w.cell? ⟨cb,1,none⟩=some (.slice (some ⟨gs,0,none⟩) vs.length cap):=by rw[Q0b h.c 1];rfl
theorem Q78.at(h:Q78 w0 w cb gs cap b vs L){k:Nat}{v:Value}(hk:vs[k]? = some v):w.cell? ⟨gs,k,none⟩=some v:=by
 obtain⟨h1,h2⟩:=h.row;rcases h2 with⟨e,_⟩|⟨g,cp,j1,e,_,hg,_,_,hs,ht⟩
 ·cases e
 rw[qI]at e;obtain⟨e1,_,_⟩:=e;cases e1;rw[Q0b hg k];have j0:=(qS hk).1;have:=qEn (·[k]?) ht;simp only[Nat.mul_one,List.getElem?_take]at this;rw[qAb j0,hk]at this;simpa using this
theorem Q56{α:Type}{l:List α}{n k:Nat}{a u:α}(h:(l.set n a)[k]? = some u):(k=n/\u=a)∨(k≠n/\l[k]? = some u):=by
 rw[qCs]at h;split at h
 ·rename_i e;split at h
  ·rw[qO]at h;exact .inl ⟨e.symm,h.symm⟩
  cases h
 rename_i e;exact .inr ⟨fun x=>e x.symm,h⟩
theorem Q78.put(h:Q78 w0 w cb gs cap b vs L){n:Nat}{v v':Value}{X:List Itm}{m:Itm}(hn:vs[n]? = some v)(hX:L[n]? = some X){W w2:World}(hf:Q0a w W)
  (ho:w2.ownsRow 0 180 3 v' (X.length+1) (Q0y Itm.cells X++m.cells)) (hg:W.grownBy w2 v.ownBlock) (hb:∀k,v'.ownBlock=some k->v.ownBlock=some k∨W.heap.size<=k) :
  Q78 w0 (w2.setCell ⟨gs,n,none⟩ v') cb gs cap b (vs.set n v') (L.set n (X++[m])):=by
 have j2:gs<w.heap.size:=(h.row.lt gs rfl).2;have j1:cb<w.heap.size:=z0j h.c;have j7:=hf.size;have j6:=hg.size;have keep:∀x,x<w.heap.size->v.ownBlock≠some x->w2.heap[x]? = w.heap[x]? := fun x hx hne=>(hg.block x (by omega) (fun e=>hne e.symm)).trans (hf.block x hx (fun q=>q));have j5:v.ownBlock≠some gs:=fun e=>(h.low n v gs hn e).2.2 rfl;have j4:v.ownBlock≠some cb:=fun e=>(h.low n v cb hn e).2.1 rfl;have j0:∀g,v'.ownBlock=some g->w0.heap.size<=g/\g≠cb/\g≠gs:=fun g e=>by
  rcases hb g e with q|q
  ·exact h.low n v g hn q
  have:=h.fr.size;exact⟨by omega,by omega,by omega⟩
 have F:Q0a w0 w2:=⟨hg.os.trans (hf.os.trans h.fr.os),hg.tape.trans (hf.tape.trans h.fr.tape),hg.output.trans (hf.output.trans h.fr.output),by have:=h.fr.size;omega,fun x hx _=>by
  rw[keep x (by have:=h.fr.size;omega) (fun e=>by have:=(h.low n v x hn e).1;omega)];exact h.fr.block x hx (fun q=>q)⟩
 have j3:n<vs.length:=(qS hn).1;refine⟨F.setCell (p:=⟨gs,n,none⟩) (fun hlt=>absurd hlt (by have:=h.gB;dsimp only;omega)) v',?_,h.cB,h.gB,h.ne,?_,?_,fun k u Y h1 h2=>?_,fun k u g h1 h2=>?_,fun j k u u' g h1 h2 h3 h4=>?_⟩
 ·rw[qBr];exact z0h (by rw[keep cb j1 j4];exact h.c) (fun e=>h.ne e.symm)
 ·rw[qBr];exact z52 (z0d h.row (fun g e=>by cases e;exact keep gs j2 j5)) rfl n v' j3
 ·rw[qBr,qBr];exact h.len
 ·rcases Q56 h1 with⟨e1,e2⟩|⟨e1,e2⟩
  ·subst e1 e2;rcases Q56 h2 with⟨_,e3⟩|⟨e3,_⟩
   ·subst e3;refine⟨?_,fun x _=>rfl⟩;rw[qP,qAj,z0v];exact z0d ho (fun g e=>heap_setCell_other _ (j0 g e).2.2)
   exact absurd rfl e3
  rcases Q56 h2 with⟨e3,_⟩|⟨_,e3⟩
  ·exact absurd e3 e1
  have hE:=h.each k u Y e2 e3;refine⟨z0d hE.own (fun g e=>?_),hE.wf⟩;rw[heap_setCell_other _ (h.low k u g e2 e).2.2];exact keep g (hE.own.lt g e).2 (fun q=>e1 (h.sep k n u v g e2 hn e q))
 ·rcases Q56 h1 with⟨e1,e2⟩|⟨e1,e2⟩
  ·subst e2;exact j0 g h2
  exact h.low k u g e2 h2
 have old:∀(j:Nat) (u:Value),j≠n->vs[j]? = some u->u.ownBlock=some g->v'.ownBlock=some g->False:=fun j u hj hu h3 h4=>by
  rcases hb g h4 with q|q
  ·exact hj (h.sep j n u v g hu hn h3 q)
  have hl:j<L.length:=by rw[← h.len];exact(qS hu).1
  have:=((h.each j u _ hu (qE hl)).own.lt g h3).2;omega
 rcases Q56 h1 with⟨e1,e2⟩|⟨e1,e2⟩<;>rcases Q56 h2 with⟨e3,e4⟩|⟨e3,e4⟩
 ·rw[e1,e3]
 ·exact(old k u' e3 e4 h4 (e2▸h3)).elim
 ·exact(old j u e1 e2 h3 (e4▸h4)).elim
 exact h.sep j k u u' g e2 e4 h3 h4
end
theorem z9x:∀(n:Nat) (l:List Nat),l.Nodup->(∀x∈l,x<n)->l.length<=n
 |0,l,_,h=>by
  cases l with
  |nil=>simp
  |cons a l=>exact absurd (h a (by simp)) (by omega)
 |n+1,l,hd,h=>by
  by_cases hm:n∈l
  ·have h1:=List.length_erase_of_mem hm;have:=z9x n (l.erase n) (hd.erase n) (fun x hx=>by
    have h2:=hd.mem_erase_iff.1 hx;have:=h x h2.2;have:=h2.1;omega)
   have:0<l.length:=List.length_pos_of_mem hm;omega
  have:=z9x n l hd (fun x hx=>by
   have:=h x hx;have:x≠n:=fun e=>hm (e▸hx);omega)
  omega
def ItB(m:Itm):Prop:=m.p<20/\m.d<=6/\m.f<=60
theorem v0i{X:List Itm}(hd:X.Nodup)(hb:∀m∈X,ItB m):X.length<=8540:=by
 have h:=z9x 8540 (X.map fun m=>(m.p*7+m.d)*61+m.f) ?_ ?_
 ·simpa using h
 ·unfold List.Nodup at hd ⊢;rw[List.pairwise_map];refine List.Pairwise.imp_of_mem ?_ hd;intro a b ha j0 j1 e;obtain⟨a1,a2,a3⟩:=a;obtain⟨b1,b2,b3⟩:=b;have h1:=hb _ ha;have h2:=hb _ j0;simp only[ItB]at h1 h2 e;have e3:a3=b3:=by omega
  have e2:a2=b2:=by omega
  have e1:a1=b1:=by omega
  subst e1 e2 e3;exact j1 rfl
 intro x hx;rw[qBj]at hx;obtain⟨m,hm,rfl⟩:=hx;have h1:=hb m hm;simp only[ItB]at h1;omega
def Q81(X:List Itm)(m:Itm):List Itm:=if inI X m=true then X else X++[m]
def mvI(m:Itm):Itm:=⟨m.p,m.d+1,m.f⟩
theorem y2r(X:List Itm)(m:Itm):m∈Q81 X m:=by
 unfold Q81;split
 ·rename_i h;exact(x3a _ _).1 h
 simp
structure Q4y(Q:Itm->Prop)(X X':List Itm):Prop where
 pre:∃Y,X'=X++Y
 nd:X'.Nodup
 q:∀m∈X',Q m
section
variable {Q:Itm->Prop}{X X' X2:List Itm}
theorem Q4y.put{m:Itm}(h:Q4y Q X X')(hm:Q m):Q4y Q X (Q81 X' m):=by
 unfold Q81;split
 ·exact h
 rename_i c;have hn:m ∉ X':=fun e=>c ((x3a _ _).2 e);obtain⟨Y,e⟩:=h.pre;refine⟨⟨Y++[m],by rw[e,qAs]⟩,?_,fun x hx=>?_⟩
 ·rw[List.nodup_append];exact⟨h.nd,by simp,fun a ha b hb=>by simp at hb;subst hb;exact fun e=>hn (e▸ha)⟩
 rw[qU,qM]at hx;rcases hx with hx|rfl
 ·exact h.q x hx
 exact hm
theorem Q4y.le(h:Q4y Q X X'):X.length<=X'.length:=by
 obtain⟨Y,e⟩:=h.pre;rw[e,qP];omega
theorem Q4y.same(h:Q4y Q X X')(hl:X'.length=X.length):X'=X:=by
 obtain⟨Y,e⟩:=h.pre;rw[e,qP]at hl;rw[e,qCm (by omega:Y.length=0),qBd]
theorem Q4y.mem(h:Q4y Q X X'){m:Itm}(hm:m∈X):m∈X':=by
 obtain⟨Y,e⟩:=h.pre;rw[e];simp[hm]
theorem Q4y.trans(h:Q4y Q X X')(h2:Q4y Q X' X2):Q4y Q X X2:=by
 obtain⟨Y,e⟩:=h.pre;obtain⟨Z,e2⟩:=h2.pre;exact⟨⟨Y++Z,by rw[e2,e,qAs]⟩,h2.nd,h2.q⟩
theorem Q4y.refl(h:Q4y Q X X'):Q4y Q X' X':=⟨⟨[],by simp⟩,h.nd,h.q⟩
theorem y84(hl:X.length<=X'.length)(m:Itm):decide (X.length<(Q81 X' m).length)=(decide (X.length<X'.length)||!inI X' m):=by
 unfold Q81;cases h:inI X' m
 ·simp;omega
 simp
theorem x0o(h:Q4y Q X X')(h2:Q4y Q X' X2):decide (X.length<X2.length)=(decide (X.length<X'.length)||decide (X'.length<X2.length)):=by
 have h1:=h.le;have h2:=h2.le;rw[qBc];simp;omega
end
def atS(P:List (List Itm))(X:List Itm)(s:Nat):List Itm:=(P++[X]).getD s []
section
variable {P:List (List Itm)}{X X':List Itm}{s:Nat}
theorem z2o:atS P X P.length=X:=by unfold atS;simp
theorem y19(h:s<P.length):atS P X s=P.getD s []:=by
 unfold atS;rw[qD,qD,qAl h]
theorem x1y(h:s<=P.length):(P++[X])[s]? = some (atS P X s):=by
 unfold atS;rw[qD];have:s<(P++[X]).length:=by simp;omega
 rw[qE this];rfl
theorem v0q(h:s<=P.length){m:Itm}(hm:m∈atS P X s):m∈P.getD s []∨(s=P.length/\m∈X):=by
 rcases qCk s P.length with q|q
 ·rw[y19 q]at hm;exact .inl hm
 obtain rfl:s=P.length:=by omega
 rw[z2o]at hm;exact .inr ⟨rfl,hm⟩
theorem x9v(h:s<=P.length)(e:∃Y,X'=X++Y):∃Z,atS P X' s=atS P X s++Z:=by
 obtain⟨Y,e⟩:=e;rcases qCk s P.length with q|q
 ·rw[y19 q,y19 q];exact⟨[],by simp⟩
 obtain rfl:s=P.length:=by omega
 rw[z2o,z2o];exact⟨Y,e⟩
end
theorem infoIt:(Tryz.prog.info? 180).map (fun i=>(i.zero,i.size,i.bytes))=some (some (.agg (itA 0 0 0)),3,24):=by kernel_rfl
theorem infoIt':∃i,Tryz.prog.info? 180=some i/\i.zero=some (.agg (itA 0 0 0))/\i.size=3/\i.bytes=24:=nfoE infoIt
def ChG(w0 w:World)(cb gs cap b:Nat)(L:List (List Itm)):Prop:=∃vs,Q78 w0 w cb gs cap b vs L
theorem ChG.fresh{w0 w w':World}{cb gs cap b:Nat}{L:List (List Itm)}(h:ChG w0 w cb gs cap b L)(hf:Q0a w w'):ChG w0 w' cb gs cap b L:=by
 obtain⟨vs,h⟩:=h;exact⟨vs,h.fresh hf⟩
theorem Q78.fz{w0 w:World}{cb gs cap b:Nat}{vs:List Value}{L:List (List Itm)}(h:Q78 w0 w cb gs cap b vs L)(k:Nat):w.frozen? ⟨gs,k,none⟩=false:=by
 obtain⟨h1,h2⟩:=h.row;rcases h2 with⟨e,_⟩|⟨g,cp,j0,e,_,hg,_,_,hs,ht⟩
 ·cases e
 rw[qI]at e;obtain⟨e1,_,_⟩:=e;cases e1;exact Q0f hg k
theorem ChG.set{w0 w:World}{cb gs cap b:Nat}{P:List (List Itm)}{X:List Itm}(h:ChG w0 w cb gs cap b (P++[X])){s:Nat}(hs:s<=P.length):∃vs a c,Q78 w0 w cb gs cap b vs (P++[X])/\vs.length=P.length+1/\vs[s]? = some (.slice a (atS P X s).length c)/\ItsAt w (.slice a (atS P X s).length c) (atS P X s):=by
 obtain⟨vs,h⟩:=h;have hl:vs.length=P.length+1:=by rw[h.len];simp
 have hk:s<vs.length:=by omega
 have hI:=h.each s vs[s] (atS P X s) (qE hk) (x1y hs);obtain⟨a,c,e⟩:=z0c hI.own;refine⟨vs,a,c,h,hl,?_,?_⟩
 ·rw[qE hk,e]
 rw[← e];exact hI
attribute [local go_sem ↓] z5n z17
theorem y2d(w0 w:World)(cb gs cap b:Nat)(P:List (List Itm))(X:List Itm)(m:Itm)(h:ChG w0 w cb gs cap b (P++[X]))(hP:P.length<=1000)(hX:X.length<=10000) :
  Calls Tryz.prog 82 #[.pointer (some ⟨cb,0,none⟩),.agg (itA m.p m.d m.f)] w fun e w'=>e=.returned (.bool (!inI X m))/\ChG w0 w' cb gs cap b (P++[Q81 X m]):=by
 obtain⟨i0,jf,jj,jk,jl⟩:=infoIt';obtain⟨vs,a,c,hC,hl,hv,hI⟩:=h.set (qR _);rw[z2o]at hv hI;have HC:=hid hC;have HI:=hid hI;have HV:=hid hv;have HN:=hid (W0c w m 180);have j4:Q0a w (w.alloc (.cells (itA m.p m.d m.f) 180 (0,0))):=(mRf _ w).alloc _;have j6:=hid j4;have k1:=(hC.fresh j4).s;have k2:=(hC.fresh j4).at hv;have jo:cb<w.heap.size:=z0j hC.c;have jr:gs<w.heap.size:=(hC.row.lt gs rfl).2;have IN:=hid (fun W (hW:Q0a w W)=>v2a W _ X m (hI.fresh hW) (by omega));generalize hp:P.length=p at hl hv k2 HV hP;have j8:=hid hp;have ji:((vs.length:Nat):Int)=(p:Int)+1:=by omega
 rw[show vs.length=p+1 from hl]at k1;have l1:(ldI (.pointer (some ⟨w.heap.size,0,none⟩))).run Tryz.prog (w.alloc (.cells (itA m.p m.d m.f) 180 (0,0))).drew=.ok (.agg (itA m.p m.d m.f)) (w.alloc (.cells (itA m.p m.d m.f) 180 (0,0))).drew:=z3g HN.out;have ju:IntKind.i64.wrap ((p:Int)+1-1)=(p:Int):=by rw[qBv];omega
 have jv:IntKind.i64.wrap (((p+1:Nat):Int)-1)=(p:Int):=by rw[qBv];omega
 have s1:(p:Int)<((p+1:Nat):Int):=by omega
 clear hC hI hv h ji hp hl j4;go_enter Tryz.func82,Tryz.ntmps82
 go_upto_region 2 with fail
 go_cut [6] (fun s6 wx=>s6=.bool (inI X m)/\Q0a (w.alloc (.cells (itA m.p m.d m.f) 180 (0,0))) wx)
 case first =>
  go_region_with (first
   |(go_at_call 113;refine(IN.out _ j6.drew).mono ?_;rintro e w3⟨rfl,je⟩))
  all_goals
   go_wp2_with fail
   go_meet;exact⟨rfl,((mRf _ _).drew).trans je⟩
 obtain⟨rfl,j5⟩:=hcut;have j7:=hid (j6.trans j5);have j3:wc.rangeAt w.heap.size 0 m.cells:=fun j v hj=>Q0h j5 (HN.out j v hj);have jt:w.heap.size<wc.heap.size:=z0j (j5.at (z0a w _) id);have l2:(ldI (.pointer (some ⟨w.heap.size,0,none⟩))).run Tryz.prog wc.drew=.ok (.agg (itA m.p m.d m.f)) wc.drew:=z3g j3;clear l1 k1 k2 IN j5 j3 HN j6;have hC:=HC.fresh j7.out;have jp:cb<wc.heap.size:=by omega
 have js:gs<wc.heap.size:=by omega
 have s2:(p:Int)<(p:Int)+1:=by omega
 have k1:=hC.s;have k2:=hC.at HV.out;have jc:vs.length=p+1:=by have:=hC.len;rw[this,qP,j8.out];rfl
 rw[jc]at k1;cases hin:inI X m
 ·obtain⟨v',w2,jg,j1,j0,j2⟩:=z24 (P:=Tryz.prog) (wc.alloc (.cells (itA m.p m.d m.f) 180)).drew 0 181 181 180 i0 _ 3 24 Tryz.underlying181 jf jj jk jl rfl (by decide) (.slice a X.length c) X.length (Q0y Itm.cells X) (((HI.fresh j7.out).own.alloc _)) ⟨wc.heap.size,0,none⟩ 1 1 m.cells rfl (z0m rfl) (by intro u hu;simp[Itm.cells]at hu;rcases hu with rfl|rfl|rfl<;>rfl) (by unfold maxLen;omega) (by omega) (by omega);obtain⟨a',j9,jh⟩:=z0c j1;have jd:=hid (hC.put (m:=m) HV.out (by rw[← j8.out];exact x1y (qR _)) (((mRf _ wc).alloc (.cells (itA m.p m.d m.f) 180)).drew) (by rw[z2o];exact j1) j0 j2);have ja:w2.heap[gs]? = wc.heap[gs]? := by
   rw[j0.block gs (by simp[World.drew];omega) (fun e=>by have:=(hC.low p _ gs HV.out e.symm).2.2;exact this rfl)];exact z0s (by omega)
  have jm:w2.cell? ⟨gs,p,none⟩=some (.slice a X.length c):=by rw[← k2];simp[World.cell?,ja]
  have jq:w2.frozen? ⟨gs,p,none⟩=false:=by have:=hC.fz p;simp[World.frozen?,ja]at this ⊢;exact this
  have jb:w2.heap[cb]? = wc.heap[cb]? := by
   rw[j0.block cb (by simp[World.drew];omega) (fun e=>by have:=(hC.low p _ cb HV.out e.symm).2.1;exact this rfl)];exact z0s (by omega)
  have jn:w2.cell? ⟨cb,1,none⟩=some (.slice (some ⟨gs,0,none⟩) (p+1:Nat) cap):=by rw[← k1];simp[World.cell?,jb]
  clear j1 j0 j2 ja jb hC HC HI HV jc;subst jh;go_wp2_with fail
  go_region;all_goals
   go_wp2;go_ret;refine⟨by rw[hin];rfl,vs.set p (.slice a' (X.length+1) j9),?_⟩;have:=jd.out;rw[show(P++[X]).set p (atS P X P.length++[m])=P++[Q81 X m] by rw[z2o,← j8.out,qFa _ _ (qR _),qEm,show Q81 X m=X++[m] by unfold Q81;rw[hin];rfl];rfl]at this;exact this
 go_wp2;go_ret;refine⟨by rw[hin];rfl,vs,?_⟩;rw[show Q81 X m=X by unfold Q81;rw[hin];rfl];exact HC.fresh j7.out
end Go.Proofs.YtbdpfmalabgmbaaGreat
