import Derived.Test.YtcpceafmlgaodaaGreatSg4
namespace Go.Proofs.YtcpceafmlgaodaaGreat
open Go.RowKit
set_option maxRecDepth 99999
set_option maxHeartbeats 0
set_option linter.all false
theorem z74(w:World)(v:Value)(l:List Int)(n:Int)(h:Q0z w v l)(hl:l.length<=1000) :
  Calls Tryz.prog 24 #[v,.int .i64 n] w fun e w'=>e=.returned (.bool (l.any (·==n)))/\w'=w:=by
 obtain⟨ao,cap,rfl,hc,hcell⟩:=h;have HC:=hid hcell;generalize hR:l.any (·==n)=RES;have HR:=hid hR;clear hcell hR;go_enter Tryz.func24,Tryz.ntmps24
 go_wp2;go_loopw [6,9] (fun _ x5 wr=>∃(i:Nat),x5=.int .i64 i/\i<=l.length/\(l.drop i).any (·==n)=RES/\wr=w)
   (fun _ x _=>1001-(intOf x).toNat)
 case atStart=>exact⟨0,rfl,by omega,HR.out,rfl⟩
 obtain⟨i,rfl,hi,hres,hfr⟩:=hrel;subst hfr;have j1:=hid (Q15 (B:=1001) i (by omega));by_cases hlt:i<l.length
 ·have j3:(i:Int)<(l.length:Int):=by omega
  rw[qC hlt,List.any_cons]at hres;obtain⟨g,o,rfl,hcl⟩:=HC.out i hlt;have c1:=hcl;generalize l[i]=li at hres c1;cases hq:(li==n)
  ·rw[hq,qCj]at hres;have j0:=hid hres;clear hcl hres;go_wp2;go_roundw
   case rel=>exact⟨i+1,by go_num,by omega,j0.out,by first|rfl|trivial⟩
   exact j1.out
  rw[hq,Bool.true_or]at hres;have j0:=hid hres;clear hcl hres;go_wp2;go_ret;exact⟨z0s j0.out,rfl⟩
 have j2:i=l.length:=by omega
 have j4:¬(i:Int)<(l.length:Int):=by omega
 rw[j2,qBw]at hres;have j0:=hid hres;clear hres;go_wp2;go_ret;exact⟨z0s (by rw[← j0.out];rfl),rfl⟩
def Q0w(R:Int)(l:List Int):Bool:=l.all fun k=>decide (0<=k)&&decide (k<R)
theorem y3e(w:World)(R H:Int)(vp v:Value)(l:List Int)(h:Q0z w v l)(hl:l.length<=1000) :
  Calls Tryz.prog 12 #[.agg #[.int .i64 R,.int .i64 H,vp],v] w fun e w'=>e=.returned (.bool (Q0w R l))/\Q0a w w':=by
 obtain⟨ao,cap,rfl,hc,hcell⟩:=h;have HC:=hid hcell;generalize hR:Q0w R l=RES;have HR:=hid hR;clear hcell hR;go_enter Tryz.func12,Tryz.ntmps12
 go_wp2;go_loopw [6,9] (fun _ x5 wr=>∃(i:Nat),x5=.int .i64 i/\i<=l.length/\Q0w R (l.drop i)=RES/\Q0a w wr/\wr.cell? ⟨w.heap.size,0,none⟩=some (.int .i64 R))
   (fun _ x _=>1001-(intOf x).toNat)
 case atStart=>exact⟨0,rfl,by omega,HR.out,(mRf _ w).alloc _,by rw[Q0b (z0a w _) 0];rfl⟩
 obtain⟨i,rfl,hi,hres,hfr,c0⟩:=hrel;have j1:=hid hfr;have C0:=hid c0;have j2:=hid (Q15 (B:=1001) i (by omega));by_cases hlt:i<l.length
 ·have j4:(i:Int)<(l.length:Int):=by omega
  unfold Q0w at hres;rw[qC hlt,qCp]at hres;obtain⟨g,o,rfl,hcl⟩:=HC.out i hlt;have c1:=Q0i hfr hcl;generalize l[i]=li at hres c1;by_cases h0:0<=li
  ·by_cases h1:li<R
   ·rw[qBl h0,qBl h1]at hres;have j0:=hid hres;clear hcl hres hfr;go_wp2;go_roundw
    case rel=>exact⟨i+1,by go_num,by omega,j0.out,j1.out,C0.out⟩
    exact j2.out
   rw[qBl h0,qBh h1]at hres;have j0:=hid hres;clear hcl hres hfr;go_wp2;go_ret;exact⟨z0s j0.out,j1.out⟩
  rw[qBh h0]at hres;have j0:=hid hres;clear hcl hres hfr;go_wp2;go_ret;exact⟨z0s j0.out,j1.out⟩
 have j3:i=l.length:=by omega
 have j5:¬(i:Int)<(l.length:Int):=by omega
 rw[j3,qBw]at hres;have j0:=hid hres;clear hres hfr;go_wp2;go_ret;exact⟨z0s (by rw[← j0.out];rfl),j1.out⟩
def gdA(fp:Value)(L:List Int):Array Value:=(fp::Q5w L).toArray
theorem x9i{fp:Value}{L:List Int}{j:Nat}(h:j<L.length):(gdA fp L)[1+j]? = some (.int .i64 (L.getD j 0)):=by
 unfold gdA;rw[qCb,Nat.add_comm,qEm,qBe,qE h];simp[h]
theorem y9m(w:World)(gb:Nat)(fp:Value)(L:List Int)(hL:L.length=72)(hb:w.heap[gb]? = some (.cells (gdA fp L) 128 (0,0)))(n t:Nat)(hn:n<8)(ht:t<9) :
  Calls Tryz.prog 57 #[Q25 gb,.int .i64 n,.int .i64 t] w fun e w'=>e=.returned (.int .i64 (L.getD (n*9+t) 0))/\w'=w:=by
 have c1:w.cell? ⟨gb,1+n*9+t,none⟩=some (.int .i64 (L.getD (n*9+t) 0)):=by
  rw[Q0b hb,qCm,x9i (by omega)]
 generalize L.getD (n*9+t) 0=V at c1;have h1:(n:Int)<8:=by omega
 have h2:(t:Int)<9:=by omega
 clear hb hL;go_enter Tryz.func57,Tryz.ntmps57
 go_wp2;go_ret;exact⟨rfl,rfl⟩
def ldY(v:Value):Sem Value:=Instr.loadAt 69 v
theorem y8b(v:Value):Instr.loadAt 69 v=ldY v:=rfl
theorem x25{w:World}{g o:Nat}{h:Bool}{n:Int}(hr:w.rangeAt g o [.bool h,.int .i64 n]):(ldY (.pointer (some ⟨g,o,none⟩))).run Tryz.prog w=.ok (.agg #[.bool h,.int .i64 n]) w :=
 run_loadAt_mid w g o _ _ _ hr Tryz.underlying69 rfl szSy2
attribute [local go_sem ↓] y8b
attribute [local go_sem ↓] z13
theorem x6s(w:World)(b B:Nat)(R H:Int)(vp vg vk vs:Value)(k:List Sy)(st:List St)(ps:List PV)(i:Nat)(h:GA w b B R H vp vg vk vs k st)(hp:Q3c w B vp ps)(hi:i<ps.length)(hps:ps.length<=100)
  (hst:st.length<=1000000000000) (hk:k.length<=100000000000) (hsy:ps[i].pr.syms.length<=6) (hB:B<=w.heap.size) :
  Calls Tryz.prog 58 #[Q25 b,.int .i64 i] w fun e w'=>e=.returned (.tuple #[])/\∃vk' vs',GA w' b B R H vp vg vk' vs' (ps[i].pr.syms++k) (st++[⟨false,i⟩])/\UpB B w w':=by
 generalize hsyE:ps[i].pr.syms=sy at hsy ⊢;have jk:=hid hsyE;clear hsyE;obtain⟨is,his,sz0,sz1,sz2⟩:=infoSt';obtain⟨iy,hiy,yz0,yz1,yz2⟩:=infoSy';obtain⟨pa,pc,hvp⟩:=z0d hp.row.own;subst hvp;obtain⟨sa,sc,hvs⟩:=z0d h.ss;subst hvs;obtain⟨gp,cap',hv'⟩:=Joins.ownsRow_form hp.row.own (by omega);rw[qI]at hv';obtain⟨rfl,_,rfl⟩:=hv';have k2:=h.cell 2;have k5:=h.cell 5;simp at k2 k5;have z5:=h.frozen 5;have jy:(i:Int)<(ps.length:Int):=by omega
 have jz:(i:Int)<=127:=by omega
 have k0:¬(ps.length<=i):=by omega
 have k1:¬((i:Int)<0):=by omega
 have HG:=hid h;have HP:=hid hp;have jx:=h.lt;have HO:=hid h.ss;clear h hp;go_enter Tryz.func58,Tryz.ntmps58
 go_wp2_with (first
  |(at_builtin;refine z0g _ rfl _ _ 72 rfl B 141 is _ 2 2 Tryz.underlying72 his sz0 sz1 sz2 rfl (by decide) _ _ _ rfl (HO.alloc _) ⟨w.heap.size,0,none⟩ 1 1 [.bool false,.int .i8 i] rfl rfl (z0l rfl) (by intro u hu;simp at hu;rcases hu with rfl|rfl<;>rfl) (by unfold maxLen;omega) (by omega) (by simp;omega) ?_))
 intro v' w5 hown hgrow hblk;obtain⟨sa1,sc1,hvs1⟩:=z0d hown;subst hvs1;have G5:=HG.grown5 ((mRf _ w).alloc _) hgrow;have f5:=Q0g G5 5;have g5:=Q0b G5 5;simp at g5;obtain⟨G1,U1⟩:=HG.step (x:=⟨false,i⟩) ((mRf _ w).alloc _) hown hgrow (fun j hj=>by simpa using hblk j hj);generalize hWW:w5.setCell ⟨b,5,none⟩ (.slice sa1 (st.length+1) sc1)=W1 at G1 U1;have jo:=hid hWW;have j3:=HP.kept hB U1 (fun j h1 h2=>by omega);have jw:=hid j3;have j2:=G1.cell 2;simp at j2;have cs:=j3.row.cell i 1 hi (by omega);have j4:=j3.syms ps[i] (by simp);rw[jk.out]at j4;have j9:=hid j4;have jd:=hid G1;have ja:=hid U1;have jr:=G1.lt;have jp:B<=W1.heap.size:=by have:=U1.size;omega
 simp[PV.cells]at cs;clear j4;generalize ps[i].vs=pvs at j9 cs;obtain⟨sao,scap,hsv,hsc,hscm,hsyc⟩:=j9.out;subst hsv;have jj:=hid hsyc;clear hsyc hown hgrow hblk G5 G1 U1 j3;go_wp2;clear hWW;go_loopw [5] (fun x5 wr=>∃(m:Nat) (q:Int) (vk':Value),x5=.int .i64 q/\q=(m:Int)-1/\m<=sy.length/\GA wr b B R H (.slice (some ⟨gp,0,none⟩) ps.length pc) vg vk' (.slice sa1 (st.length+1) sc1) (sy.drop m++k) (st++[⟨false,i⟩])/\UpB B w wr)
   (fun x _=>(intOf x+1).toNat)
 case atStart=>exact⟨sy.length,_,vk,rfl,rfl,qR _,by rw[qBw];exact jd.out,ja.out⟩
 clear j2 cs jr jp jo f5 z5 k5 k2;obtain⟨m,q,vk',rfl,hq,hm,hG,hU⟩:=hrel;by_cases hm0:m=0
 ·have ju:q=-1:=by omega
  subst ju;subst hm0;have jg:=hid hG;have jm:=hid hU;clear hG hU hq;go_wp2;exact bodyPost_end (results_none rfl _ _ _) rfl ⟨rfl,vk',_,jg.out,jm.out⟩
 obtain⟨m',rfl⟩:∃m',m=m'+1:=⟨m-1,by omega⟩;have jv:q=(m':Int):=by omega
 clear hq;subst jv;have jb:m'<sy.length:=by omega
 have k3:(m':Int)<(sy.length:Int):=by omega
 have jh:Hid (((m':Int)-1+1).toNat<((m':Int)+1).toNat):=by unfold Hid;omega
 have j6:Hid (sy.drop m'=sy[m']::sy.drop (m'+1)):=qC jb;obtain⟨g,o,rfl,hgB,hrg⟩:=jj.out m' jb;have j0:wr.rangeAt g (o+m'*2) (sy[m']).cells:=z0t hrg (by
  rw[hU.block g (by omega) (by omega)];exact(ja.block g (by omega) (by omega)).symm)
 generalize sy[m']=s at j0 j6;obtain⟨sh,sn⟩:=s;have l1:(ldY (.pointer (some ⟨g,o+m'*2,none⟩))).run Tryz.prog wr=_:=x25 j0;have l2:(ldY (.pointer (some ⟨g,o+m'*2,none⟩))).run Tryz.prog wr.drew=_:=x25 (w:=wr.drew) (z0t j0 rfl);have jq:(sy.drop (m'+1)++k).length<=100000000006:=by simp;omega
 have j5:Hid (∀x:Sy,x::(sy.drop (m'+1)++k)=(x::sy.drop (m'+1))++k):=fun x=>rfl;generalize sy.drop (m'+1)++k=K at hG jq j5;have j1:=hG.ks;unfold SyOwn at j1;rw[qDs]at j1;obtain⟨ka,kc,hvk⟩:=z0d j1;subst hvk;have k4:=hG.cell 4;have z4:=hG.frozen 4;simp at k4;have k7:=hG.lt;have k6:B<=wr.heap.size:=by have:=hU.size;omega
 have j7:=hid hG;have jn:=hid hU;have j8:=hid j1;clear hG hU j1 hrg j0;go_wp2;have FW:Hid (∀o:Obj,Q0a wr (wr.alloc o).drew):=fun o=>((mRf _ wr).alloc o).drew;obtain⟨v',w2,hrun,hown,hgrow,hblk⟩:=z2y (P:=Tryz.prog) (wr.alloc (.cells #[.bool sh,.int .i64 sn] 69)).drew B 71 71 69 iy _ 2 16 Tryz.underlying71 hiy yz0 yz1 yz2 rfl (by decide) (.slice ka K.length kc) K.length (Q00 Sy.cells K.reverse) (z0c j8.out (fun g hg=>(FW.out _).block g (j8.lt g hg).2 (fun x=>x))) ⟨wr.heap.size,0,none⟩ 1 1 [.bool sh,.int .i64 sn] rfl (z0l rfl) (by intro u hu;simp at hu;rcases hu with rfl|rfl<;>rfl) (by unfold maxLen;omega) (by omega) (by simp[World.drew];omega);have HB:=j7.grown4 (FW.out _) hgrow;have js:w2.cell? ⟨b,4,none⟩=some (.slice ka K.length kc):=(Q0b HB 4);have jt:=Q0g HB 4;have ji:=hid hown;have je:=hid hgrow;have jc:=hid hblk;obtain⟨a',cap',hv'⟩:=z0d hown;clear hown hgrow hblk HB;subst hv';go_region;all_goals
  obtain⟨G3,U3⟩:=j7.push (x:=⟨sh,sn⟩) (FW.out _) (by rw[qDs];exact ji.out) je.out jc.out;generalize hWW:w2.setCell _ _=W3 at G3 U3 ⊢;have jf:=hid G3;have jl:=hid U3;clear G3 U3 hWW js jt k4 z4 l1 l2 hrun;go_wp2;go_roundw
  case rel =>
   refine⟨m',(m':Int)-1,.slice a' (K.length+1) cap',rfl,rfl,by omega,?_,Mod.trans jn.out jl.out⟩;rw[j6.out,← j5.out];exact jf.out
  exact jh.out
end Go.Proofs.YtcpceafmlgaodaaGreat
