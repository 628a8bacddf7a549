import Derived.Test.YtcpceafmlgaodaaGreatRi4
import Derived.Laws.CopyOwn
import Derived.BigRegion
namespace Go.Proofs.YtcpceafmlgaodaaGreat
open Go.RowKit
set_option maxRecDepth 100000
set_option maxHeartbeats 16000000
set_option linter.unusedVariables false
set_option linter.unusedSimpArgs false
theorem y95(w:World)(ga gb n:Nat)(xs ys:List Bool)(ha:Q13 w ga xs)(hb:Q13 w gb ys)(la:xs.length=n)(lb:ys.length=n)(ty:TypeId) :
  (Builtin.copy_#[90,90]ty#[bsl gb n,bsl ga n]).run Tryz.prog w=.ok(goInt n)(w.setRow gb(Q38 xs).toArray):=by
 have h:=run_copy_row(P:=Tryz.prog)w 90 90 ty 4 gb 0 n n⟨ga,0,none⟩n n(Q38 ys).toArray 4(Q38 xs)Tryz.underlying90(by kernel_rfl)hb(by simp[Q38,la])(fun j v hj=>by
  have j0:j<xs.length:=by have:=(qS hj).1;simpa [Q38]using this
  have:=ha.cell j0;rw[Addr.add_mid,Nat.zero_add,this];simp[Q38,j0]at hj;rw[← hj];simp[j0])(by simp[Q38,la,lb])(by intro v hv;simp[Q38]at hv;rcases hv with⟨_,rfl⟩|⟨_,rfl⟩<;>rfl)
 have e1:(Q38 xs).length=n:=by simp[Q38,la]
 have e2:((Q38 ys).toArray.toList.take 0++Q38 xs++(Q38 ys).toArray.toList.drop(0+n)).toArray=(Q38 xs).toArray:=by
  rw[List.drop_eq_nil_of_le(by simp[Q38,lb])];simp
 rw[e1,e2]at h;exact h
theorem x41(base:Int)(rules:Bool)(out:List Bool)(l:List Int)(i:Nat)(hi:i<l.length):(l.drop i).all(Q6j base rules out)=(Q6j base rules out l[i]&&(l.drop(i+1)).all(Q6j base rules out)):=by
 rw[qC hi,List.all_cons]
theorem x4d(base:Int)(rules:Bool)(out:List Bool)(q:List Q1)(i:Nat)(hi:i<q.length)(nx:List Bool):Q98 base rules out(q.drop i)nx=Q98 base rules out(q.drop(i+1))(nx.set q[i].1.toNat(nx.getD q[i].1.toNat false||q[i].2.all(Q6j base rules out))):=by
 rw[qC hi];rfl
theorem y6a(w:World)(b R H:Nat)(q:List Q1)(rules:Bool)(hS:Q35 w b R H q)(hQ:QOk R H q) :
  Calls Tryz.prog 65#[.pointer(some⟨b,0,none⟩),.bool rules]w fun e w'=>∃g,w.heap.size<=g/\e=.returned(bsl g H)/\Q13 w' g(Q4q(bs R)rules q H)/\Q0a w w':=by
 obtain⟨a0,c0,a1,c1,a2,c2,v3,v4,sv,hN⟩:=hS;have r8:=hQ.r8;have h8:=hQ.h8;have p20:=hQ.p20;have HQ:=hid hQ;have HN:=hid hN;have k2:=hN.k2;have mk:=fun w=>run_make_row'(P:=Tryz.prog)90 4(.bool false)1 Tryz.underlying90(by kernel_rfl)rfl .i64 .i64 H(by omega)(by omega)w;generalize hV:Q4q(bs R)rules q H=V;have HV:=hid hV;clear hN hQ hV;go_enter Tryz.func65,Tryz.ntmps65
 go_wp2;go_loopw [5,6,7,8,9,10,11](fun x5 x6 _ _ _ _ _ wr=>∃(n g:Nat)(out:List Bool),x6=.int .i64 n/\x5=bsl g H/\n<=H/\w.heap.size<=g/\Q13 wr g out/\out.length=H/\Q0a w wr/\derN(bs R)rules q(H-n)out=V)
   (fun _ x _ _ _ _ _ _=>1001-(intOf x).toNat)
 case atStart =>
  refine⟨0,w.heap.size,List.replicate H false,rfl,rfl,by omega,qR _,?_,by simp,(mRf _ w).alloc _,HV.out⟩;rw[z02];exact z0a _ _
 obtain⟨n,g,out,rfl,rfl,hn,hg,hB,hol,hfr,hrec⟩:=hrel;have k9:=hid(Q2a(B:=1001)n(by omega));have HF:=hid hfr;have HB:=hid hB;have jj:=hid hol;have k8:=Q0j hfr k2;by_cases hlt:n<H
 ·have k1:(n:Int)<(H:Int):=by omega
  rw[show H-n=(H-(n+1))+1 by omega]at hrec;unfold derN at hrec;have j3:=hid hrec;have jv:=hB.lt;have CP:=y95(wr.alloc(.cells(madeCells#[.bool false]H)4))g wr.heap.size H out(List.replicate H false)(hB.fresh((mRf _ wr).alloc _))(by rw[z02];exact z0a _ _)hol(by simp);have j7:Hid(Q13((wr.alloc(.cells(madeCells#[.bool false]H)4)).setRow wr.heap.size(Q38 out).toArray)wr.heap.size out):=hid(setRow_heap _ _ _ _ _ _(z0a _ _));have jc:Hid(Q13((wr.alloc(.cells(madeCells#[.bool false]H)4)).setRow wr.heap.size(Q38 out).toArray)g out):=hid(by
   have:=(hB.fresh((mRf(fun _=>False)wr).alloc(.cells(madeCells#[.bool false]H)4)));unfold Q13 at this ⊢;rw[setRow_other _ _ _ _(by omega)];exact this)
  have jd:Hid(Q0a w((wr.alloc(.cells(madeCells#[.bool false]H)4)).setRow wr.heap.size(Q38 out).toArray)):=hid((hfr.alloc _).setRow(by have:=hfr.size;simp;omega)_);generalize hW2:(wr.alloc(.cells(madeCells#[.bool false]H)4)).setRow wr.heap.size(Q38 out).toArray=W2 at CP j7 jc jd;have jb:=hid(show w.heap.size<=wr.heap.size from hfr.size);have jh:=hid(show g≠wr.heap.size by omega);clear hW2 hfr hB hol hrec jv;go_wp2;generalize hNX:Q98(bs R)rules out q out=NX at j3;have jy:=hid hNX;clear hNX;generalize hgx:wr.heap.size=gx at CP j7 jb jh ⊢;clear hgx CP mk k8 HF HB;go_loopw [8,9,10,11](fun x8 _ _ _ wr=>∃(i:Nat)(nx:List Bool),x8=.int .i64 i/\i<=q.length/\Q13 wr gx nx/\nx.length=H/\Q13 wr g out/\Q0a w wr/\Q98(bs R)rules out(q.drop i)nx=NX)
    (fun x _ _ _ _=>1001-(intOf x).toNat)
  case atStart=>exact⟨0,out,rfl,by omega,j7.out,jj.out,jc.out,jd.out,jy.out⟩
  obtain⟨i,nx,rfl,hi,hX,hxl,hB,hfr,hrec⟩:=hrel;have je:=hid(Q2a(B:=1001)i(by omega));have HX:=hid hX;have ja:=hid hxl;have jx:=hid hfr;have HB:=hid hB;have ju:=Q0j hfr HN.out.k1;clear j7 jc jd;by_cases hlt2:i<q.length
  ·have s1:(i:Int)<(q.length:Int):=by omega
   rw[x4d _ _ _ _ _ hlt2]at hrec;have j0:=hid hrec;clear hrec;have j4:=HN.out.fresh hfr;have j6:i<sv.length:=by rw[HN.out.len];exact hlt2
   have s4:(i:Int)<(sv.length:Int):=by omega
   obtain⟨ao4,cp4,e4,hc4,cell4⟩:=j4.r4;obtain⟨g4,o4,rfl,y4⟩:=cell4 i j6;have q4:=j4.k4;rw[e4]at q4;obtain⟨aol,cpl,el,hcl,celll⟩:=j4.each i sv[i]q[i](qE j6)(qE hlt2);rw[el]at y4;obtain⟨ao3,cp3,e3,hc3,cell3⟩:=j4.r3;obtain⟨g3,o3,rfl,y3⟩:=cell3 i(by rw[List.length_map];exact hlt2);rw[List.getElem_map]at y3;rw[List.length_map]at e3;have q3:=j4.k3;rw[e3]at q3;have k7:=HQ.out.hd q[i](List.getElem_mem hlt2);have jg:=HQ.out.sy q[i](List.getElem_mem hlt2);have jl:=j4.k0;have jq:=j4.k1;obtain⟨hn',hhn⟩:∃m:Nat,q[i].1=m:=⟨q[i].1.toNat,by omega⟩;rw[hhn]at y3 k7 j0;rw[Int.toNat_natCast]at j0;have k5:hn'<H:=by omega
   have jz:=jg.1;have jo:=hid jg.2;have jk:=hid celll;generalize q[i].2=l at y4 jk jo j0 jz hcl;generalize hFIN:l.all(Q6j(bs R)rules out)=FIN at j0;have jf:=hid hFIN;clear hFIN jg celll cell3 cell4 hc3 hc4 e3 e4 el j4 hhn hX hxl hB ju;obtain⟨wo,hwo⟩:∃wo,wo=wr:=⟨_,rfl⟩;subst hwo;have jn:=hid(And.intro q3 y3);have jp:=hid hfr;clear hfr y3 q3;go_wp2;go_loopw [9,10,11](fun x9 x10 _ wi=>∃(j m:Nat)(A:Bool),x10=.int .i64 j/\x9=.bool A/\j<=l.length/\wi=wo.drewN m/\(A&&(l.drop j).all(Q6j(bs R)rules out))=FIN)
     (fun _ x _ _=>1001-(intOf x).toNat)
   case atStart=>exact⟨0,0,true,rfl,rfl,by omega,rfl,by rw[Bool.true_and];exact jf.out⟩
   obtain⟨j,m,A,rfl,rfl,hj,rfl,hrec⟩:=hrel;have j5:=hid(Q2a(B:=1001)j(by omega));have z4:=Q0j(Q0s wo m)q4;have x4:=Q0j(Q0s wo m)y4;have z0:=Q0j(Q0s wo m)jl;have j2:=hid(Q0s wo m);generalize hW:wo.drewN m=wr at z4 x4 z0 j2 ⊢;have HW:=hid hW;clear hW q4 y4 jl jq;by_cases hlt3:j<l.length
   ·have s3:(j:Int)<(l.length:Int):=by omega
    rw[x41 _ _ _ _ _ hlt3]at hrec;obtain⟨gl,ol,rfl,y5⟩:=jk.out j hlt3;have z5:=Q0j j2.out y5;have j8:=jo.out l[j](List.getElem_mem hlt3);have j9:=fun(k:Nat)(hk:k<H)=>(HB.out.fresh j2.out).cell(j:=k)(by rw[jj.out];exact hk);have BQ:=hid(fun n=>z1i(wr.drewN n)b R a0 c0(Q0j(Q0s wr n)z0)(by omega));generalize l[j]=c at hrec z5 j8;clear y5;cases A
    ·rw[Bool.false_and]at hrec;have j1:=hid hrec;obtain⟨dz,ji⟩:∃dz:Int,IntKind.i64.wrap(c-bs R)=dz:=⟨_,rfl⟩;clear hrec j9 j8;go_wp2;go_quiet(first|(go_at_call 34;refine Calls.quiet_of_same(BQ.out _)));go_wp2;go_roundw
     case rel=>exact⟨j+1,m+nq,false,by go_num,rfl,by omega,by rw[← HW.out,World.drewN_drewN],j1.out⟩
     exact j5.out
    rw[Bool.true_and]at hrec;by_cases hneg:c-bs R<0
    ·have e1:Q6j(bs R)rules out c=rules:=by unfold Q6j;rw[decide_eq_true hneg,decide_eq_false(by omega)];simp
     rw[e1]at hrec;have j1:=hid hrec;have s1:decide(c-bs R<0)=true:=decide_eq_true hneg;have s6:¬0<=c-bs R:=by omega
     have ji:IntKind.i64.wrap(c-bs R)=c-bs R:=by rw[IntKind.wrap_i64];unfold bs;omega
     clear hrec j9 j8 e1;cases rules;all_goals
      go_wp2;go_quiet(first|(go_at_call 34;refine Calls.quiet_of_same(BQ.out _)));go_wp2;go_roundw
      case rel=>exact⟨j+1,m+nq,_,by go_num,rfl,by omega,by rw[← HW.out,World.drewN_drewN],j1.out⟩
      exact j5.out
    obtain⟨dz,hdz⟩:∃dz:Nat,c-bs R=dz:=⟨(c-bs R).toNat,by omega⟩;have jr:dz<H:=by unfold bs at hdz;omega
    have e1:Q6j(bs R)rules out c=out.getD dz false:=by unfold Q6j;rw[hdz,decide_eq_false(by omega),decide_eq_true(by omega),Int.toNat_natCast];simp
    rw[e1]at hrec;have jm:=j9 dz jr;have s1:¬(dz:Int)<0:=by omega
    have s6:(0:Int)<=(dz:Int):=by omega
    have s7:(dz:Int)<(H:Int):=by omega
    have ji:IntKind.i64.wrap(c-bs R)=(dz:Int):=by rw[IntKind.wrap_i64];unfold bs at hdz ⊢;omega
    generalize out.getD dz false=oj at hrec jm;have j1:=hid hrec;clear hrec j9 j8 e1 hdz hneg;cases oj;all_goals
     go_wp2;go_quiet(first|(go_at_call 34;refine Calls.quiet_of_same(BQ.out _)));have jt:=Q0j(Q0s wr nq)jm;go_wp2;go_roundw
     case rel=>exact⟨j+1,m+nq,_,by go_num,rfl,by omega,by rw[← HW.out,World.drewN_drewN],j1.out⟩
     exact j5.out
   have s3:¬(j:Int)<(l.length:Int):=by omega
   rw[List.drop_eq_nil_of_le(by omega),List.all_nil,Bool.and_true]at hrec;have j1:=hid hrec;have b1:=(HX.out.fresh j2.out).cell(j:=hn')(by rw[ja.out];exact k5);have b2:=(HX.out.fresh j2.out).frozen hn';have u3:=Q0j j2.out jn.out.1;have u4:=Q0j j2.out jn.out.2;have s5:(hn':Int)<(H:Int):=by omega
   have HP:Hid(∀c:Bool,Q13(wr.setCell⟨gx,hn',none⟩(.bool c)).drew gx(nx.set hn' c)):=hid(fun c=>(HX.out.fresh j2.out).put hn' c);have js:Hid(∀c:Bool,Q13(wr.setCell⟨gx,hn',none⟩(.bool c)).drew g out):=hid(fun c=>by
    have:=HB.out.fresh j2.out;unfold Q13 at this ⊢;show(wr.setCell⟨gx,hn',none⟩(.bool c)).heap[g]? = _;rw[heap_setCell_other _ jh.out];exact this)
   have k6:Hid(∀c:Bool,Q0a w(wr.setCell⟨gx,hn',none⟩(.bool c)).drew):=hid(fun c=>((jp.out.trans j2.out).setCell(by have:=jb.out;simp;omega)_).drew);generalize nx.getD hn' false=nb at j0 b1;clear hrec z0;cases nb<;>cases A;all_goals
    go_wp2_with fail
    go_region;all_goals
     go_wp2;go_roundw
     case rel=>exact⟨i+1,_,by go_num,by omega,HP.out _,by simp[ja.out],js.out _,k6.out _,by have:=j0.out;rw[← j1.out]at this;simpa using this⟩
     exact je.out
  have s1:¬(i:Int)<(q.length:Int):=by omega
  rw[List.drop_eq_nil_of_le(by omega)]at hrec;have j0:=hid hrec;clear hrec hX hxl hfr hB;go_wp2;go_roundw
  case rel=>exact⟨n+1,gx,nx,by go_num,rfl,by omega,jb.out,HX.out,ja.out,jx.out,by have:=j0.out;unfold Q98 at this;rw[this];exact j3.out⟩
  exact k9.out
 have k1:¬(n:Int)<(H:Int):=by omega
 have jw:n=H:=by omega
 rw[jw,Nat.sub_self]at hrec;have j3:=hid hrec;clear hrec hfr hB hol;go_wp2;go_ret;exact⟨g,hg,rfl,by rw[← j3.out];exact HB.out,HF.out⟩
structure Q1v(w:World)(B n:Nat)(v:Value)(gs:List Nat)(M:Mat):Prop where
 own:w.ownsRow B 90 1 v gs.length(gs.map fun g=>bsl g n)
 len:gs.length=M.length
 blk:∀(i g:Nat),gs[i]? = some g->B<=g/\Q13 w g(M.getD i [])
 inj:∀(i j g:Nat),gs[i]? = some g->gs[j]? = some g->i=j
 ne:∀g∈gs,v.ownBlock≠some g
theorem Q1v.nil(w:World)(B n:Nat):Q1v w B n(.slice none 0 0) [] [] :=
 ⟨World.ownsRow_nil _ _ _ _,rfl,fun i g h=>by simp at h,fun i j g h=>by simp at h,fun g h=>by cases h⟩
theorem Q1v.fresh{w w':World}{B n:Nat}{v:Value}{gs:List Nat}{M:Mat}(h:Q1v w B n v gs M)(hf:Q0a w w'):Q1v w' B n v gs M :=
 ⟨z0c h.own(fun g hg=>hf.block g(h.own.lt g hg).2(fun x=>x)),h.len,fun i g h1=>⟨(h.blk i g h1).1,(h.blk i g h1).2.fresh hf⟩,h.inj,h.ne⟩
theorem Q1v.next{w w':World}{B n:Nat}{v v':Value}{gs:List Nat}{M:Mat}{g:Nat}{f:List Bool}(h:Q1v w B n v gs M)(hg:Q13 w g f)(hBg:B<=g)(hne:v.ownBlock≠some g)(hnew:∀x∈gs,x≠g)
  (hown:w'.ownsRow B 90 1 v'(gs.length+1)((gs.map fun g=>bsl g n)++[bsl g n]))(hgr:w.grownBy w' v.ownBlock)(hblk:∀k,v'.ownBlock=some k->v.ownBlock=some k∨w.heap.size<=k) :
  Q1v w' B n v'(gs++[g])(M++[f]):=by
 have j1:=hg.lt;have hk:∀(k:Nat)(o:Obj),k<w.heap.size->v.ownBlock≠some k->w.heap[k]? = some o->w'.heap[k]? = some o:=fun k o h1 h2 h3=>by
  rw[hgr.block k h1(fun e=>h2 e.symm)];exact h3
 have j3:∀x∈gs,x<w.heap.size:=fun x hx=>by
  obtain⟨i,hi,rfl⟩:=List.getElem_of_mem hx;exact(h.blk i _(qE hi)).2.lt
 refine⟨by simpa using hown,by simp[h.len],fun i g' h1=>?_,fun i j g' h1 h2=>?_,fun g' h1 e=>?_⟩
 ·by_cases hi:i<gs.length
  ·rw[List.getElem?_append_left hi]at h1;obtain⟨q1,q2⟩:=h.blk i g' h1;refine⟨q1,?_⟩;have e:(M++[f]).getD i []=M.getD i []:=by
    rw[qD,qD,List.getElem?_append_left(by rw[← h.len];exact hi)]
   rw[e];exact hk _ _ q2.lt(h.ne g'(List.mem_of_getElem? h1))q2
  have j0:i=gs.length:=by
   have:=(qS h1).1;simp at this;omega
  subst j0;rw[List.getElem?_append_right(qR _)]at h1;simp at h1;subst h1;refine⟨hBg,?_⟩;have e:(M++[f]).getD gs.length []=f:=by
   rw[qD,h.len,List.getElem?_append_right(qR _)];simp
  rw[e];exact hk _ _ j1 hne hg
 ·by_cases hi:i<gs.length
  ·by_cases hj:j<gs.length
   ·rw[List.getElem?_append_left hi]at h1;rw[List.getElem?_append_left hj]at h2;exact h.inj i j g' h1 h2
   have j2:j=gs.length:=by
    have:=(qS h2).1;simp at this;omega
   subst j2;rw[List.getElem?_append_left hi]at h1;rw[List.getElem?_append_right(qR _)]at h2;simp at h2;exact absurd h2.symm(hnew g'(List.mem_of_getElem? h1))
  have j0:i=gs.length:=by
   have:=(qS h1).1;simp at this;omega
  subst j0;rw[List.getElem?_append_right(qR _)]at h1;simp at h1;by_cases hj:j<gs.length
  ·rw[List.getElem?_append_left hj]at h2;exact absurd h1.symm(hnew g'(List.mem_of_getElem? h2))
  have:=(qS h2).1;simp at this;omega
 rcases hblk _ e with q|q
 ·simp only[List.mem_append,List.mem_singleton]at h1;rcases h1 with h1|rfl
  ·exact h.ne g' h1 q
  exact hne q
 simp only[List.mem_append,List.mem_singleton]at h1;rcases h1 with h1|rfl
 ·have:=j3 g' h1;omega
 omega
theorem Q1v.put{w:World}{B n:Nat}{v:Value}{gs:List Nat}{M:Mat}(h:Q1v w B n v gs M){i g:Nat}(hi:gs[i]? = some g)(j:Nat)(b:Bool):Q1v(w.setCell⟨g,j,none⟩(.bool b))B n v gs(Q7w M i j b):=by
 have j0:=(qS hi).1;refine⟨z0c h.own(fun k hk=>heap_setCell_other _(fun e=>h.ne g(List.mem_of_getElem? hi)(by rw[← (show k=g from e)];exact hk))),by unfold Q7w;rw[List.length_set];exact h.len,fun k g' hk=>?_,h.inj,h.ne⟩;obtain⟨q1,q2⟩:=h.blk k g' hk;refine⟨q1,?_⟩;unfold Q7w;rw[z13 _ _ _ _ _(by rw[← h.len];exact j0)];by_cases e:k=i
 ·subst e;rw[hi]at hk;injection hk with hk;subst hk;rw[if_pos rfl];exact q2.put j b
 rw[if_neg e];unfold Q13 at q2 ⊢;rw[heap_setCell_other _(fun e2=>e(h.inj k i g(by rw[← (show g'=g from e2)];exact hk)hi))];exact q2
def MxRet(w:World)(n:Nat)(M:Mat)(e:Ending)(w':World):Prop:=∃v gs,e=.returned v/\Q1v w' w.heap.size n v gs M/\Q0a w w'
theorem z65(w:World)(n:Nat)(hn:n<=100) :
  Calls Tryz.prog 74#[.int .i64 n]w fun e w'=>MxRet w n(sqF n)e w':=by
 have mk:=fun w=>run_make_row'(P:=Tryz.prog)90 4(.bool false)1 Tryz.underlying90(by kernel_rfl)rfl .i64 .i64 n(by omega)(by omega)w;obtain⟨i0,hi0,iz0,iz1,iz2⟩:=infoBS';go_enter Tryz.func74,Tryz.ntmps74
 go_wp2;go_loopw [3,4,5](fun x3 x4 _ wr=>∃(i:Nat)(gs:List Nat),x4=.int .i64 i/\i<=n/\Q1v wr w.heap.size n x3 gs(List.replicate i(List.replicate n false))/\Q0a w wr)
   (fun _ x _ _=>1001-(intOf x).toNat)
 case atStart=>exact⟨0,[],rfl,by omega,Q1v.nil _ _ _,mRf _ _⟩
 obtain⟨i,gs,rfl,hi,hM,hfr⟩:=hrel;have j7:=hid(Q2a(B:=1001)i(by omega));have j2:gs.length=i:=by have:=hM.len;simpa using this
 have j6:gs.length<=100:=by omega
 have HM:=hid hM;have HF:=hid hfr;obtain⟨ao,cp,hv⟩:=z0d hM.own;subst hv;have j9:w.heap.size<=wr.heap.size:=hfr.size;by_cases hlt:i<n
 ·have k1:(i:Int)<(n:Int):=by omega
  have j5:Hid(∀o o2:Obj,((wr.alloc o).alloc o2).ownsRow w.heap.size 90 1(.slice ao gs.length cp)gs.length(gs.map fun g=>bsl g n)):=hid(fun o o2=>(HM.out.own.alloc o).alloc o2);have j0:Hid(∀(o2:Obj)(v':Value)(w6:World),w6.ownsRow w.heap.size 90 1 v'(gs.length+1)((gs.map fun g=>bsl g n)++[bsl wr.heap.size n])->((wr.alloc(.cells(madeCells#[.bool false]n)4)).alloc o2).grownBy w6(Value.ownBlock(.slice ao gs.length cp))->(∀k,v'.ownBlock=some k->Value.ownBlock(.slice ao gs.length cp)=some k∨((wr.alloc(.cells(madeCells#[.bool false]n)4)).alloc o2).heap.size<=k) ->
    Q1v w6 w.heap.size n v'(gs++[wr.heap.size])(List.replicate(i+1)(List.replicate n false))/\Q0a w w6):=hid(fun o2 v' w6 h1 h2 h3=>by
   have j3:Q0a wr((wr.alloc(.cells(madeCells#[.bool false]n)4)).alloc o2):=((mRf _ wr).alloc _).alloc _;have j8:Q13((wr.alloc(.cells(madeCells#[.bool false]n)4)).alloc o2)wr.heap.size(List.replicate n false):=z0b(by rw[z02];exact z0a _ _);refine⟨?_,?_⟩
   ·rw[List.replicate_succ'];refine(HM.out.fresh j3).next j8 HF.out.size ?_ ?_ h1 h2 h3
    ·intro e;have:=(HM.out.own.lt _ e).2;omega
    intro x hx e;obtain⟨k,hk,rfl⟩:=List.getElem_of_mem hx;have:=(HM.out.blk k _(qE hk)).2.lt;omega
   exact Mod.grown(S:=fun _=>False)(HF.out.trans j3)h2(fun k hk hlt=>by have:=(HM.out.own.lt k hk).1;omega))
  clear hM hfr j2;go_wp2_with(first
   |(at_builtin;refine z0g _ rfl _ _ 89 rfl w.heap.size 90 i0 _ 1 24 Tryz.underlying89 hi0 iz0 iz1 iz2 rfl(by decide)(.slice ao gs.length cp)gs.length _ rfl(j5.out _ _)⟨wr.heap.size+1,0,none⟩1 1 [bsl wr.heap.size n]rfl rfl(z2w rfl)(by intro u hu;simp at hu;subst hu;rfl)(by unfold maxLen;omega)(by omega)(by simp;omega)?_))
  intro v' w6 hown2 hgrow hblk;have j1:=hid(j0.out _ v' w6 hown2 hgrow(by simpa using hblk));clear hown2 hgrow hblk;go_wp2;go_roundw
  case rel=>exact⟨i+1,_,by go_num,by omega,j1.out.1,j1.out.2⟩
  exact j7.out
 have k1:¬(i:Int)<(n:Int):=by omega
 have j4:i=n:=by omega
 subst j4;clear hM hfr j2;go_wp2;go_ret;exact⟨_,gs,rfl,HM.out,HF.out⟩
abbrev UpM(gs:List Nat):World->World->Prop:=Mod(fun k=>k∈gs)
def ChRet(w:World)(B n:Nat)(v:Value)(gs:List Nat)(M:Mat)(e:Ending)(w':World):Prop:=e=.returned v/\Q1v w' B n v gs M/\UpM gs w w'
theorem Q1v.row{w:World}{B n:Nat}{g c m:Nat}{gs:List Nat}{M:Mat}(h:Q1v w B n(.slice(some⟨g,0,none⟩)m c)gs M){i gi:Nat}(hi:gs[i]? = some gi):w.cell?⟨g,i,none⟩=some(bsl gi n):=by
 have:=h.own.cells(g:=g)rfl i(bsl gi n)(by rw[List.getElem?_map,hi];rfl);rwa [Addr.add_mid,Nat.zero_add]at this
theorem Q1v.cell{w:World}{B n:Nat}{v:Value}{gs:List Nat}{M:Mat}(h:Q1v w B n v gs M)(hs:Sq n M){i gi j:Nat}(hi:gs[i]? = some gi)(hj:j<n):w.cell?⟨gi,j,none⟩=some(.bool(atM M i j)):=by
 have hl:=(qS hi).1;exact(h.blk i gi hi).2.cell(by rw[hs.row i(by rw[← hs.len,← h.len];exact hl)];exact hj)
theorem Q1v.drew{w:World}{B n:Nat}{v:Value}{gs:List Nat}{M:Mat}(h:Q1v w B n v gs M):Q1v w.drew B n v gs M:=h.fresh⟨rfl,rfl,rfl,qR _,fun _ _ _=>rfl⟩
theorem wJ_s(k i n j:Nat)(M:Mat)(h:j<n):wJ k i(n-j)j M=wJ k i(n-(j+1))(j+1)(Q7w M i j(atM M i j||(atM M i k&&atM M k j))):=by
 rw[show n-j=(n-(j+1))+1 by omega];rfl
theorem wI_s(k n i:Nat)(M:Mat)(h:i<n):wI k n(n-i)i M=wI k n(n-(i+1))(i+1)(wJ k i n 0 M):=by
 rw[show n-i=(n-(i+1))+1 by omega];rfl
theorem wK_s(n k:Nat)(M:Mat)(h:k<n):wK n(n-k)k M=wK n(n-(k+1))(k+1)(wI k n n 0 M):=by
 rw[show n-k=(n-(k+1))+1 by omega];rfl
theorem z9r(w:World)(B n:Nat)(v:Value)(gs:List Nat)(M:Mat)(hM:Q1v w B n v gs M)(hs:Sq n M)(hn:n<=100) :
  Calls Tryz.prog 92#[v]w fun e w'=>ChRet w B n v gs(Q5k M)e w':=by
 have ja:gs.length=n:=by rw[hM.len,hs.len]
 have j5:Q5k M=wK n n 0 M:=by unfold Q5k;rw[hs.len]
 generalize Q5k M=V at j5;have HV:=hid j5.symm;obtain⟨ao,cp,hv⟩:=z0d hM.own;rw[ja]at hv;subst hv;have HM:=hid hM;have HS:=hid hs;have j4:=hid ja;clear hM hs j5 ja;go_enter Tryz.func92,Tryz.ntmps92
 go_wp2;go_loopw [4,5,6](fun x4 _ _ wr=>∃(k:Nat)(M':Mat),x4=.int .i64 k/\k<=n/\Q1v wr B n(.slice ao n cp)gs M'/\Sq n M'/\UpM gs w wr/\wK n(n-k)k M'=V)
   (fun x _ _ _=>1001-(intOf x).toNat)
 case atStart=>exact⟨0,M,rfl,by omega,HM.out,HS.out,mRf _ _,HV.out⟩
 obtain⟨k,M1,rfl,hk,hM,hs,hup,hrec⟩:=hrel;have jo:=hid(Q2a(B:=1001)k(by omega));have jc:=hid hM;have jd:=hid hs;have jb:=hid hup;clear HM HS HV hM hs hup;by_cases hlt:k<n
 ·have k1:(k:Int)<(n:Int):=by omega
  rw[wK_s _ _ _ hlt]at hrec;generalize hF2:wI k n n 0 M1=F2 at hrec;have jk:=hid hF2;have j2:=hid hrec;clear hF2 hrec;go_wp2;go_loopw [5,6](fun x5 _ wr=>∃(i:Nat)(M':Mat),x5=.int .i64 i/\i<=n/\Q1v wr B n(.slice ao n cp)gs M'/\Sq n M'/\UpM gs w wr/\wI k n(n-i)i M'=F2)
    (fun x _ _=>1001-(intOf x).toNat)
  case atStart=>exact⟨0,M1,rfl,by omega,jc.out,jd.out,jb.out,jk.out⟩
  obtain⟨i,M2,rfl,hi,hM,hs,hup,hrec⟩:=hrel;have jn:=hid(Q2a(B:=1001)i(by omega));have j6:=hid hM;have j8:=hid hs;have j7:=hid hup;clear jc jd jb jk hM hs hup;by_cases hlt2:i<n
  ·have k2:(i:Int)<(n:Int):=by omega
   rw[wI_s _ _ _ _ hlt2]at hrec;generalize hF3:wJ k i n 0 M2=F3 at hrec;have ji:=hid hF3;have j1:=hid hrec;clear hF3 hrec;obtain⟨gi,hgi⟩:∃g,gs[i]? = some g:=⟨_,qE(by rw[j4.out];exact hlt2)⟩;obtain⟨gk,hgk⟩:∃g,gs[k]? = some g:=⟨_,qE(by rw[j4.out];exact hlt)⟩;have j3:=hid hgi;have jh:=hid hgk;clear hgi hgk;go_wp2;go_loopw [6](fun x6 wr=>∃(j:Nat)(M':Mat),x6=.int .i64 j/\j<=n/\Q1v wr B n(.slice ao n cp)gs M'/\Sq n M'/\UpM gs w wr/\wJ k i(n-j)j M'=F3)
     (fun x _=>1001-(intOf x).toNat)
   case atStart=>exact⟨0,M2,rfl,by omega,j6.out,j8.out,j7.out,ji.out⟩
   obtain⟨j,M3,rfl,hj,hM,hs,hup,hrec⟩:=hrel;have j9:=hid(Q2a(B:=1001)j(by omega));have je:=hid hup;have jl:=hid hM;have jg:=hid hs;clear j6 j8 j7 ji hup;by_cases hlt3:j<n
   ·have k3:(j:Int)<(n:Int):=by omega
    rw[wJ_s _ _ _ _ _ hlt3]at hrec;have j0:=hid hrec;obtain⟨gv,cv,hv⟩:=Q1d.ownsRow_form hM.own(by rw[j4.out];omega);rw[j4.out,qI]at hv;obtain⟨rfl,_,rfl⟩:=hv;have r1:=hM.row j3.out;have r2:=hM.row jh.out;have c1:=hM.cell hs j3.out hlt3;have c2:=hM.cell hs j3.out hlt;have c3:=hM.cell hs jh.out hlt3;have z1:=(hM.blk i gi j3.out).2.frozen j;have HP:Hid(∀c:Bool,Q1v(wr.setCell⟨gi,j,none⟩(.bool c)).drew B n(.slice(some⟨gv,0,none⟩)n cp)gs(Q7w M3 i j c)/\Sq n(Q7w M3 i j c)/\UpM gs w(wr.setCell⟨gi,j,none⟩(.bool c)).drew):=hid(fun c =>
     ⟨(jl.out.put j3.out j c).drew,z9b jg.out hlt2 c,(je.out.setCell(fun _=>List.mem_of_getElem? j3.out)_).drew⟩)
    generalize atM M3 i j=xa at j0 c1;generalize atM M3 i k=xb at j0 c2;generalize atM M3 k j=xc at j0 c3;clear hM hs hrec;cases xa
    ·cases xb
     ·go_wp2_with fail
      go_region;all_goals
       go_wp2;go_roundw
       case rel=>exact⟨j+1,_,by go_num,by omega,(HP.out _).1,(HP.out _).2.1,(HP.out _).2.2,j0.out⟩
       exact j9.out
     cases xc;all_goals
      go_wp2_with fail
      go_region;all_goals
       go_wp2;go_roundw
       case rel=>exact⟨j+1,_,by go_num,by omega,(HP.out _).1,(HP.out _).2.1,(HP.out _).2.2,j0.out⟩
       exact j9.out
    go_wp2_with fail
    go_region;all_goals
     go_wp2;go_roundw
     case rel=>exact⟨j+1,_,by go_num,by omega,(HP.out _).1,(HP.out _).2.1,(HP.out _).2.2,by have:=j0.out;rw[Bool.true_or]at this;exact this⟩
     exact j9.out
   have k3:¬(j:Int)<(n:Int):=by omega
   have jm:j=n:=by omega
   rw[jm,Nat.sub_self]at hrec;have j0:=hid hrec;clear hM hs hrec jm;go_wp2;go_roundw
   case rel=>exact⟨i+1,M3,by go_num,by omega,jl.out,jg.out,je.out,by have:=j0.out;unfold wJ at this;rw[this];exact j1.out⟩
   exact jn.out
  have k2:¬(i:Int)<(n:Int):=by omega
  have jj:i=n:=by omega
  rw[jj,Nat.sub_self]at hrec;have j1:=hid hrec;clear hrec jj;go_wp2;go_roundw
  case rel=>exact⟨k+1,M2,by go_num,by omega,j6.out,j8.out,j7.out,by have:=j1.out;unfold wI at this;rw[this];exact j2.out⟩
  exact jo.out
 have k1:¬(k:Int)<(n:Int):=by omega
 have jf:k=n:=by omega
 rw[jf,Nat.sub_self]at hrec;have j2:=hid hrec;clear hrec jf;go_wp2;go_ret;refine⟨rfl,?_,jb.out⟩;have:=j2.out;unfold wK at this;rw[← this];exact jc.out
end Go.Proofs.YtcpceafmlgaodaaGreat
