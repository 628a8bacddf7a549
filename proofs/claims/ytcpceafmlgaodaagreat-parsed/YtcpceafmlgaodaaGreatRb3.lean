import Derived.Test.YtcpceafmlgaodaaGreatRb2
namespace Go.Proofs.YtcpceafmlgaodaaGreat
open Go.RowKit
set_option maxRecDepth 99999
set_option maxHeartbeats 0
set_option linter.all false
structure Q1t(w:World)(B n:Nat)(v:Value)(gs:List Nat)(M:Mat):Prop where
 own:w.ownsRow B 90 1 v gs.length (gs.map fun g=>bsl g n)
 len:gs.length=M.length
 blk:∀(i g:Nat),gs[i]? = some g->B<=g/\Q1y w g (M.getD i [])
 inj:∀(i j g:Nat),gs[i]? = some g->gs[j]? = some g->i=j
 ne:∀g∈gs,v.ownBlock≠some g
theorem Q1t.nil(w:World)(B n:Nat):Q1t w B n (.slice none 0 0) [] [] :=
 ⟨World.ownsRow_nil _ _ _ _,rfl,fun i g h=>by simp at h,fun i j g h=>by simp at h,fun g h=>by cases h⟩
theorem Q1t.fresh{w w':World}{B n:Nat}{v:Value}{gs:List Nat}{M:Mat}(h:Q1t w B n v gs M)(hf:Q0a w w'):Q1t w' B n v gs M :=
 ⟨z0c h.own (fun g hg=>hf.block g (h.own.lt g hg).2 (fun x=>x)),h.len,fun i g h1=>⟨(h.blk i g h1).1,(h.blk i g h1).2.fresh hf⟩,h.inj,h.ne⟩
theorem Q1t.next{w w':World}{B n:Nat}{v v':Value}{gs:List Nat}{M:Mat}{g:Nat}{f:List Bool}(h:Q1t w B n v gs M)(hg:Q1y w g f)(hBg:B<=g)(hne:v.ownBlock≠some g)(hnew:∀x∈gs,x≠g)
  (hown:w'.ownsRow B 90 1 v' (gs.length+1) ((gs.map fun g=>bsl g n)++[bsl g n])) (hgr:w.grownBy w' v.ownBlock) (hblk:∀k,v'.ownBlock=some k->v.ownBlock=some k∨w.heap.size<=k) :
  Q1t w' B n v' (gs++[g]) (M++[f]):=by
 have j1:=hg.lt;have hk:∀(k:Nat) (o:Obj),k<w.heap.size->v.ownBlock≠some k->w.heap[k]? = some o->w'.heap[k]? = some o:=fun k o h1 h2 h3=>by
  rw[hgr.block k h1 (fun e=>h2 e.symm)];exact h3
 have j3:∀x∈gs,x<w.heap.size:=fun x hx=>by
  obtain⟨i,hi,rfl⟩:=qAv hx;exact(h.blk i _ (qE hi)).2.lt
 refine⟨by simpa using hown,by simp[h.len],fun i g' h1=>?_,fun i j g' h1 h2=>?_,fun g' h1 e=>?_⟩
 ·by_cases hi:i<gs.length
  ·rw[qAe hi]at h1;obtain⟨q1,q2⟩:=h.blk i g' h1;refine⟨q1,?_⟩;have e:(M++[f]).getD i []=M.getD i []:=by
    rw[qD,qD,qAe (by rw[← h.len];exact hi)]
   rw[e];exact hk _ _ q2.lt (h.ne g' (qAd h1)) q2
  have j0:i=gs.length:=by
   have:=(qS h1).1;simp at this;omega
  subst j0;rw[qAg (qR _)]at h1;simp at h1;subst h1;refine⟨hBg,?_⟩;have e:(M++[f]).getD gs.length []=f:=by
   rw[qD,h.len,qAg (qR _)];simp
  rw[e];exact hk _ _ j1 hne hg
 ·by_cases hi:i<gs.length
  ·by_cases hj:j<gs.length
   ·rw[qAe hi]at h1;rw[qAe hj]at h2;exact h.inj i j g' h1 h2
   have j2:j=gs.length:=by
    have:=(qS h2).1;simp at this;omega
   subst j2;rw[qAe hi]at h1;rw[qAg (qR _)]at h2;simp at h2;exact absurd h2.symm (hnew g' (qAd h1))
  have j0:i=gs.length:=by
   have:=(qS h1).1;simp at this;omega
  subst j0;rw[qAg (qR _)]at h1;simp at h1;by_cases hj:j<gs.length
  ·rw[qAe hj]at h2;exact absurd h1.symm (hnew g' (qAd h2))
  have:=(qS h2).1;simp at this;omega
 rcases hblk _ e with q|q
 ·simp only[qU,qM]at h1;rcases h1 with h1|rfl
  ·exact h.ne g' h1 q
  exact hne q
 simp only[qU,qM]at h1;rcases h1 with h1|rfl
 ·have:=j3 g' h1;omega
 omega
theorem Q1t.put{w:World}{B n:Nat}{v:Value}{gs:List Nat}{M:Mat}(h:Q1t w B n v gs M){i g:Nat}(hi:gs[i]? = some g)(j:Nat)(b:Bool):Q1t (w.setCell ⟨g,j,none⟩ (.bool b)) B n v gs (Q7o M i j b):=by
 have j0:=(qS hi).1;refine⟨z0c h.own (fun k hk=>heap_setCell_other _ (fun e=>h.ne g (qAd hi) (by rw[← (show k=g from e)];exact hk))),by unfold Q7o;rw[qBd];exact h.len,fun k g' hk=>?_,h.inj,h.ne⟩;obtain⟨q1,q2⟩:=h.blk k g' hk;refine⟨q1,?_⟩;unfold Q7o;rw[z16 _ _ _ _ _ (by rw[← h.len];exact j0)];by_cases e:k=i
 ·subst e;rw[hi]at hk;injection hk with hk;subst hk;rw[qAb rfl];exact q2.put j b
 rw[qAa e];unfold Q1y at q2 ⊢;rw[heap_setCell_other _ (fun e2=>e (h.inj k i g (by rw[← (show g'=g from e2)];exact hk) hi))];exact q2
def MxRet(w:World)(n:Nat)(M:Mat)(e:Ending)(w':World):Prop:=∃v gs,e=.returned v/\Q1t w' w.heap.size n v gs M/\Q0a w w'
theorem z68(w:World)(n:Nat)(hn:n<=100) :
  Calls Tryz.prog 74 #[.int .i64 n] w fun e w'=>MxRet w n (sqF n) e w':=by
 have mk:=fun w=>run_make_row' (P:=Tryz.prog) 90 4 (.bool false) 1 Tryz.underlying90 (by kernel_rfl) rfl .i64 .i64 n (by omega) (by omega) w;obtain⟨i0,hi0,iz0,iz1,iz2⟩:=infoBS';go_enter Tryz.func74,Tryz.ntmps74
 go_wp2;go_loopw [3,4,5] (fun x3 x4 _ wr=>∃(i:Nat) (gs:List Nat),x4=.int .i64 i/\i<=n/\Q1t wr w.heap.size n x3 gs (List.replicate i (List.replicate n false))/\Q0a w wr)
   (fun _ x _ _=>1001-(intOf x).toNat)
 case atStart=>exact⟨0,[],rfl,by omega,Q1t.nil _ _ _,mRf _ _⟩
 obtain⟨i,gs,rfl,hi,hM,hfr⟩:=hrel;have j4:=hid (Q15 (B:=1001) i (by omega));have j3:gs.length=i:=by have:=hM.len;simpa using this
 have j7:gs.length<=100:=by omega
 have HM:=hid hM;have HF:=hid hfr;obtain⟨ao,cp,hv⟩:=z0d hM.own;subst hv;have j9:w.heap.size<=wr.heap.size:=hfr.size;by_cases hlt:i<n
 ·have k1:(i:Int)<(n:Int):=by omega
  have j5:Hid (∀o o2:Obj,((wr.alloc o).alloc o2).ownsRow w.heap.size 90 1 (.slice ao gs.length cp) gs.length (gs.map fun g=>bsl g n)):=hid (fun o o2=>(HM.own.alloc o).alloc o2);have j0:Hid (∀(o2:Obj) (v':Value) (w6:World),w6.ownsRow w.heap.size 90 1 v' (gs.length+1) ((gs.map fun g=>bsl g n)++[bsl wr.heap.size n])->((wr.alloc (.cells (madeCells #[.bool false] n) 4)).alloc o2).grownBy w6 (Value.ownBlock (.slice ao gs.length cp))->(∀k,v'.ownBlock=some k->Value.ownBlock (.slice ao gs.length cp)=some k∨((wr.alloc (.cells (madeCells #[.bool false] n) 4)).alloc o2).heap.size<=k) ->
    Q1t w6 w.heap.size n v' (gs++[wr.heap.size]) (List.replicate (i+1) (List.replicate n false))/\Q0a w w6):=hid (fun o2 v' w6 h1 h2 h3=>by
   have j2:Q0a wr ((wr.alloc (.cells (madeCells #[.bool false] n) 4)).alloc o2):=((mRf _ wr).alloc _).alloc _;have j6:Q1y ((wr.alloc (.cells (madeCells #[.bool false] n) 4)).alloc o2) wr.heap.size (List.replicate n false):=z0b (by rw[z03];exact z0a _ _);refine⟨?_,?_⟩
   ·rw[List.replicate_succ'];refine(HM.fresh j2).next j6 HF.size ?_ ?_ h1 h2 h3
    ·intro e;have:=(HM.own.lt _ e).2;omega
    intro x hx e;obtain⟨k,hk,rfl⟩:=qAv hx;have:=(HM.blk k _ (qE hk)).2.lt;omega
   exact Mod.grown (S:=fun _=>False) (HF.trans j2) h2 (fun k hk hlt=>by have:=(HM.own.lt k hk).1;omega))
  clear hM hfr j3;go_wp2_with (first
   |(at_builtin;refine z0g _ rfl _ _ 89 rfl w.heap.size 90 i0 _ 1 24 Tryz.underlying89 hi0 iz0 iz1 iz2 rfl (by decide) (.slice ao gs.length cp) gs.length _ rfl (j5.out _ _) ⟨wr.heap.size+1,0,none⟩ 1 1 [bsl wr.heap.size n] rfl rfl (z2s rfl) (by intro u hu;simp at hu;subst hu;rfl) (by unfold maxLen;omega) (by omega) (by simp;omega) ?_))
  intro v' w6 hown2 hgrow hblk;have j1:=hid (j0.out _ v' w6 hown2 hgrow (by simpa using hblk));clear hown2 hgrow hblk;go_wp2;go_roundw
  case rel=>exact⟨i+1,_,by go_num,by omega,j1.1,j1.2⟩
  exact j4.out
 have k1:¬(i:Int)<(n:Int):=by omega
 have j8:i=n:=by omega
 subst j8;clear hM hfr j3;go_wp2;go_ret;exact⟨_,gs,rfl,HM.out,HF.out⟩
abbrev UpM(gs:List Nat):World->World->Prop:=Mod (fun k=>k∈gs)
def ChRet(w:World)(B n:Nat)(v:Value)(gs:List Nat)(M:Mat)(e:Ending)(w':World):Prop:=e=.returned v/\Q1t w' B n v gs M/\UpM gs w w'
theorem Q1t.row{w:World}{B n:Nat}{g c m:Nat}{gs:List Nat}{M:Mat}(h:Q1t w B n (.slice (some ⟨g,0,none⟩) m c) gs M){i gi:Nat}(hi:gs[i]? = some gi):w.cell? ⟨g,i,none⟩=some (bsl gi n):=by
 have:=h.own.cells (g:=g) rfl i (bsl gi n) (by rw[qBe,hi];rfl);rwa [Addr.add_mid,qBi]at this
theorem Q1t.cell{w:World}{B n:Nat}{v:Value}{gs:List Nat}{M:Mat}(h:Q1t w B n v gs M)(hs:Sq n M){i gi j:Nat}(hi:gs[i]? = some gi)(hj:j<n):w.cell? ⟨gi,j,none⟩=some (.bool (atM M i j)):=by
 have hl:=(qS hi).1;exact(h.blk i gi hi).2.cell (by rw[hs.row i (by rw[← hs.len,← h.len];exact hl)];exact hj)
theorem Q1t.drew{w:World}{B n:Nat}{v:Value}{gs:List Nat}{M:Mat}(h:Q1t w B n v gs M):Q1t w.drew B n v gs M:=h.fresh ⟨rfl,rfl,rfl,qR _,fun _ _ _=>rfl⟩
theorem wJ_s(k i n j:Nat)(M:Mat)(h:j<n):wJ k i (n-j) j M=wJ k i (n-(j+1)) (j+1) (Q7o M i j (atM M i j||(atM M i k&&atM M k j))):=by
 rw[show n-j=(n-(j+1))+1 by omega];rfl
theorem wI_s(k n i:Nat)(M:Mat)(h:i<n):wI k n (n-i) i M=wI k n (n-(i+1)) (i+1) (wJ k i n 0 M):=by
 rw[show n-i=(n-(i+1))+1 by omega];rfl
theorem wK_s(n k:Nat)(M:Mat)(h:k<n):wK n (n-k) k M=wK n (n-(k+1)) (k+1) (wI k n n 0 M):=by
 rw[show n-k=(n-(k+1))+1 by omega];rfl
theorem z8l(w:World)(B n:Nat)(v:Value)(gs:List Nat)(M:Mat)(hM:Q1t w B n v gs M)(hs:Sq n M)(hn:n<=100) :
  Calls Tryz.prog 92 #[v] w fun e w'=>ChRet w B n v gs (Q49 M) e w':=by
 have jc:gs.length=n:=by rw[hM.len,hs.len]
 have jb:Q49 M=wK n n 0 M:=by unfold Q49;rw[hs.len]
 generalize Q49 M=V at jb;have HV:=hid jb.symm;obtain⟨ao,cp,hv⟩:=z0d hM.own;rw[jc]at hv;subst hv;have HM:=hid hM;have HS:=hid hs;have j4:=hid jc;clear hM hs jb jc;go_enter Tryz.func92,Tryz.ntmps92
 go_wp2;go_loopw [4,5,6] (fun x4 _ _ wr=>∃(k:Nat) (M':Mat),x4=.int .i64 k/\k<=n/\Q1t wr B n (.slice ao n cp) gs M'/\Sq n M'/\UpM gs w wr/\wK n (n-k) k M'=V)
   (fun x _ _ _=>1001-(intOf x).toNat)
 case atStart=>exact⟨0,M,rfl,by omega,HM.out,HS.out,mRf _ _,HV.out⟩
 obtain⟨k,M1,rfl,hk,hM,hs,hup,hrec⟩:=hrel;have jo:=hid (Q15 (B:=1001) k (by omega));have j5:=hid hM;have jh:=hid hs;have j9:=hid hup;clear HM HS HV hM hs hup;by_cases hlt:k<n
 ·have k1:(k:Int)<(n:Int):=by omega
  rw[wK_s _ _ _ hlt]at hrec;generalize hF2:wI k n n 0 M1=F2 at hrec;have jd:=hid hF2;have j2:=hid hrec;clear hF2 hrec;go_wp2;go_loopw [5,6] (fun x5 _ wr=>∃(i:Nat) (M':Mat),x5=.int .i64 i/\i<=n/\Q1t wr B n (.slice ao n cp) gs M'/\Sq n M'/\UpM gs w wr/\wI k n (n-i) i M'=F2)
    (fun x _ _=>1001-(intOf x).toNat)
  case atStart=>exact⟨0,M1,rfl,by omega,j5.out,jh.out,j9.out,jd.out⟩
  obtain⟨i,M2,rfl,hi,hM,hs,hup,hrec⟩:=hrel;have jn:=hid (Q15 (B:=1001) i (by omega));have j6:=hid hM;have j8:=hid hs;have ja:=hid hup;clear j5 jh j9 jd hM hs hup;by_cases hlt2:i<n
  ·have k2:(i:Int)<(n:Int):=by omega
   rw[wI_s _ _ _ _ hlt2]at hrec;generalize hF3:wJ k i n 0 M2=F3 at hrec;have je:=hid hF3;have j1:=hid hrec;clear hF3 hrec;obtain⟨gi,hgi⟩:∃g,gs[i]? = some g:=⟨_,qE (by rw[j4.out];exact hlt2)⟩;obtain⟨gk,hgk⟩:∃g,gs[k]? = some g:=⟨_,qE (by rw[j4.out];exact hlt)⟩;have j3:=hid hgi;have jf:=hid hgk;clear hgi hgk;go_wp2;go_loopw [6] (fun x6 wr=>∃(j:Nat) (M':Mat),x6=.int .i64 j/\j<=n/\Q1t wr B n (.slice ao n cp) gs M'/\Sq n M'/\UpM gs w wr/\wJ k i (n-j) j M'=F3)
     (fun x _=>1001-(intOf x).toNat)
   case atStart=>exact⟨0,M2,rfl,by omega,j6.out,j8.out,ja.out,je.out⟩
   obtain⟨j,M3,rfl,hj,hM,hs,hup,hrec⟩:=hrel;have j7:=hid (Q15 (B:=1001) j (by omega));have jj:=hid hup;have jg:=hid hM;have ji:=hid hs;clear j6 j8 ja je hup;by_cases hlt3:j<n
   ·have k3:(j:Int)<(n:Int):=by omega
    rw[wJ_s _ _ _ _ _ hlt3]at hrec;have j0:=hid hrec;obtain⟨gv,cv,hv⟩:=Joins.ownsRow_form hM.own (by rw[j4.out];omega);rw[j4.out,qI]at hv;obtain⟨rfl,_,rfl⟩:=hv;have r1:=hM.row j3.out;have r2:=hM.row jf.out;have c1:=hM.cell hs j3.out hlt3;have c2:=hM.cell hs j3.out hlt;have c3:=hM.cell hs jf.out hlt3;have z1:=(hM.blk i gi j3.out).2.frozen j;have HP:Hid (∀c:Bool,Q1t (wr.setCell ⟨gi,j,none⟩ (.bool c)).drew B n (.slice (some ⟨gv,0,none⟩) n cp) gs (Q7o M3 i j c)/\Sq n (Q7o M3 i j c)/\UpM gs w (wr.setCell ⟨gi,j,none⟩ (.bool c)).drew):=hid (fun c =>
     ⟨(jg.put j3.out j c).drew,z9x ji.out hlt2 c,(jj.setCell (fun _=>qAd j3.out) _).drew⟩)
    generalize atM M3 i j=xa at j0 c1;generalize atM M3 i k=xb at j0 c2;generalize atM M3 k j=xc at j0 c3;clear hM hs hrec;cases xa
    ·cases xb
     ·go_wp2_with fail
      go_region;all_goals
       go_wp2;go_roundw
       case rel=>exact⟨j+1,_,by go_num,by omega,(HP.out _).1,(HP.out _).2.1,(HP.out _).2.2,j0.out⟩
       exact j7.out
     cases xc;all_goals
      go_wp2_with fail
      go_region;all_goals
       go_wp2;go_roundw
       case rel=>exact⟨j+1,_,by go_num,by omega,(HP.out _).1,(HP.out _).2.1,(HP.out _).2.2,j0.out⟩
       exact j7.out
    go_wp2_with fail
    go_region;all_goals
     go_wp2;go_roundw
     case rel=>exact⟨j+1,_,by go_num,by omega,(HP.out _).1,(HP.out _).2.1,(HP.out _).2.2,by have:=j0.out;rw[Bool.true_or]at this;exact this⟩
     exact j7.out
   have k3:¬(j:Int)<(n:Int):=by omega
   have jl:j=n:=by omega
   rw[jl,qCu]at hrec;have j0:=hid hrec;clear hM hs hrec jl;go_wp2;go_roundw
   case rel=>exact⟨i+1,M3,by go_num,by omega,jg.out,ji.out,jj.out,by have:=j0.out;unfold wJ at this;rw[this];exact j1.out⟩
   exact jn.out
  have k2:¬(i:Int)<(n:Int):=by omega
  have jk:i=n:=by omega
  rw[jk,qCu]at hrec;have j1:=hid hrec;clear hrec jk;go_wp2;go_roundw
  case rel=>exact⟨k+1,M2,by go_num,by omega,j6.out,j8.out,ja.out,by have:=j1.out;unfold wI at this;rw[this];exact j2.out⟩
  exact jo.out
 have k1:¬(k:Int)<(n:Int):=by omega
 have jm:k=n:=by omega
 rw[jm,qCu]at hrec;have j2:=hid hrec;clear hrec jm;go_wp2;go_ret;refine⟨rfl,?_,j9.out⟩;have:=j2.out;unfold wK at this;rw[← this];exact j5.out
end Go.Proofs.YtcpceafmlgaodaaGreat
