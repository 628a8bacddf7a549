import Derived.Test.YtbdpfmalabgmbaaGreatEb6
namespace Go.Proofs.YtbdpfmalabgmbaaGreat
open Go.RowKit
set_option maxRecDepth 99999
set_option maxHeartbeats 0
set_option linter.all false
def hdI(q:List Q1)(m:Itm):Int:=((q[m.p]?).map Prod.fst).getD 0
def wanS(R:Nat)(q:List Q1)(o:List Bool)(m:Itm):List Bool :=
 if Q4w q m<0 then(if m.f=0/\hdI q m=0 then o.set R true else o) else if Q4w q m<R then o.set (Q4w q m).toNat true else o
def W0k(R:Nat)(q:List Q1):List Itm->List Bool->List Bool
 | [],o=>o
 |m::l,o=>W0k R q l (wanS R q o m)
theorem x8g(R:Nat)(q:List Q1)(o:List Bool)(m:Itm):(wanS R q o m).length=o.length:=by
 unfold wanS;split
 ·split<;>simp
 split<;>simp
def WnRet(w:World)(R:Nat)(l:List Bool)(e:Ending)(w':World):Prop:=∃g,e=.returned (bsl g (R+1))/\Q1x w' g l/\Q0a w w'
attribute [local go_sem ↓] z5n
theorem y75(w0 w:World)(cb gs cap b R H:Nat)(q:List Q1)(P:List (List Itm))(X:List Itm)(hS:Q3q w0 b R H q)(hQ:QOk R H q)(h:ChG w0 w cb gs cap b (P++[X]))(hP:P.length<=60)(hXb:Q8s q X) :
  Calls Tryz.prog 52 #[.pointer (some ⟨cb,0,none⟩)] w fun e w'=>WnRet w R (W0k R q X (List.replicate (R+1) false)) e w':=by
 obtain⟨vs,a,cp,hA,hl,hv,hI⟩:=h.set (qR _);rw[z2o]at hv hI;have k4:=hQ.r8;have jz:=hQ.h8;have jw:=hQ.p20;have k7:=hXb.1;have HA:=hid hA;have HS:=hid hS;have HQ:=hid hQ;have HV:=hid hv;have HI:=hid hI;have k1:=hA.s;have kx:=hA.x;rw[hl]at k1;have jv:=hid hXb.2;obtain⟨a0,c0,a1,c1,a2,c2,v3,v4,sv,hN⟩:=hS.fresh hA.fr;have HN:=hid hN;have BA:Hid (Calls Tryz.prog 47 #[.pointer (some ⟨b,0,none⟩)] w fun e w'=>e=.returned (.int .i64 ((R+1:Nat):Int))/\w'=w):=hid (z1j w b R a0 c0 hN.k0 (by omega));have mk:=fun w=>run_make_row' (P:=Tryz.prog) 118 4 (.bool false) 1 qCw (by kernel_rfl) rfl .i64 .i64 (R+1) (by omega) (by omega) w;have kA:=(HA.fresh ((mRf _ w).alloc (.cells (madeCells #[.bool false] (R+1)) 4))).s;rw[hl]at kA;generalize hV:W0k R q X (List.replicate (R+1) false)=V;have jn:=hid hV;unfold WnRet;generalize j7:R+1=r1 at BA mk kA jn ⊢;have jm:=hid j7;have k5:r1<=9:=by omega
 generalize hp:P.length=n at hP hl k1 kA HV hv;have ju:=hid hl;have k9:IntKind.i64.wrap (((n+1:Nat):Int)-1)=(n:Int):=by rw[qBv];omega
 have s1:(n:Int)<((n+1:Nat):Int):=by omega
 have jy:cb<w.heap.size:=z0j hA.c;clear hA hv hI h hS hQ hXb hp hl hN hV j7;go_enter Tryz.func52,Tryz.ntmps52
 go_wp2_with (first
  |(go_at_call 47;refine csm BA.out ?_))
 go_loopw [5,6,7] (fun x5 _ _ wr=>∃(k:Nat) (o:List Bool),x5=.int .i64 k/\k<=X.length/\Q1x wr w.heap.size o/\o.length=r1/\Q0a w wr/\W0k R q (X.drop k) o=V)
   (fun x _ _ _=>10001-(intOf x).toNat)
 case atStart =>
  refine⟨0,List.replicate r1 false,rfl,by omega,?_,by simp,(mRf _ w).alloc _,jn.out⟩;rw[z03];exact z0a _ _
 obtain⟨k,o,rfl,hk,hB,jt,j6,j0⟩:=hrel;have j9:=hid (Q19 (B:=10001) k (by omega));have HB:=hid hB;have HF:=hid j6;have j5:=hid jt;clear k1 kx kA;have k1:=(HA.fresh j6).s;rw[ju.out]at k1;have k2:=(HA.fresh j6).at HV.out;have kx:=(HA.fresh j6).x;have hI:=HI.fresh j6;clear hB jt mk;by_cases jh:k<X.length
 ·have s2:(k:Int)<(X.length:Int):=by omega
  obtain⟨g,c',jp⟩:=Joins.ownsRow_form hI.own (by omega);rw[qI]at jp;obtain⟨rfl,_,rfl⟩:=jp;have r1:=hI.range k jh;have js:=jv.out _ (qG jh);rw[qC jh,W0k]at j0;generalize X[k]=m at r1 js j0;have l1:(ldI (.pointer (some ⟨g,k*3,none⟩))).run Tryz.prog wr=.ok (.agg (itA m.p m.d m.f)) wr:=z3g r1;obtain⟨ji,k3⟩:=js;have j2:=hid j0;clear r1 hI j0;go_upto_region 7 with(first
   |(refine z0e rfl 180 _ _ rfl wr _ (itA m.p m.d m.f) _ rfl rfl rfl szIt rfl (y8v _ _ _) ?_))
  have jc:=W0c wr m 180;have ja:Q0a wr (wr.alloc (.cells (itA m.p m.d m.f) 180 (0,0))):=(mRf _ wr).alloc _;have je:=z0a wr (.cells (itA m.p m.d m.f) 180 (0,0));generalize(wr.alloc (.cells (itA m.p m.d m.f) 180 (0,0)))=W2 at jc ja je ⊢;have l2:(ldI (.pointer (some ⟨wr.heap.size,0,none⟩))).run Tryz.prog W2=.ok (.agg (itA m.p m.d m.f)) W2:=z3g jc;have jk:=hid ja;have jj:=hid je;have SY:=hid (z5q W2 cb b R H q m (Q0h ja kx) (HS.fresh ((HA.fr.trans j6).trans ja)) HQ.out ji (by omega));clear l1 k1 k2 kx jc ja je j6;go_upto_region 8 with(first
   |(go_at_call 84;refine(SY.out).mono ?_;rintro e W3⟨rfl,jf⟩;have jl:=hid (jk.trans jf);have j8:=hid (jf.at jj.out id);clear jf))
  have b0:W3.cell? ⟨wr.heap.size,0,none⟩=some (.int .i64 m.p):=Q0b j8.out 0;have b2:W3.cell? ⟨wr.heap.size,2,none⟩=some (.int .i64 m.f):=Q0b j8.out 2;have j1:=hid (HB.fresh jl.out);have j4:=hid (HF.trans jl.out);have kx:=(HA.fresh j4.out).x;have jb:=HN.fresh j4.out;have z0:=jb.k0;obtain⟨g3,o3,c3,g4,o4,n4,c4,al,cl,jd⟩:=jb.pr ji;have q3:=jd.q3;have y3:=jd.y3;have jq:hdI q m=q[m.p].1:=by unfold hdI;rw[qE ji];rfl
  rw[← jq]at y3;have s4:(m.p:Int)<(q.length:Int):=by omega
  have hW:=j2.out;unfold wanS at hW;generalize Q4w q m=sc at hW;generalize hdI q m=hm at hW y3;have k6:=j1.lt;clear l2 SY jk jj jb jd jq j2;by_cases j3:sc<0
  ·rw[qAb j3]at hW;have d1:decide (sc<0)=true:=qCj j3;have d2:¬0<=sc:=by omega
   by_cases jo:m.f=0
   ·have d3:(m.f:Int)=0:=by omega
    by_cases jg:hm=0
    ·rw[qAb ⟨jo,jg⟩]at hW;have HW:=hid hW;have j7:=jm.out;have c1:=j1.cell (j:=R) (by rw[j5.out];omega);have c2:=j1.frozen R;have s5:(R:Int)<(r1:Int):=by omega
     clear j7;have HP:=hid (j1.put R true);subst jg;rw[d3]at b2;clear hW;go_wp2_with fail
     go_quiet (fail);have jx:=Q0h (Q0v W3 nq) c1;have ka:=Q0h (Q0v W3 nq) z0;have k8:=Q0h (Q0v W3 nq) kx;go_wp2;go_roundw
     case rel=>exact⟨k+1,_,by go_num,by omega,HP.out,by simp[j5.out],(j4.trans (Q0v W3 nq)).setCell (fun h=>absurd h (qBw _)) _,HW.out⟩
     exact j9.out
    rw[qAa (fun e=>jg e.2)]at hW;have HW:=hid hW;rw[d3]at b2;clear hW;go_wp2_with fail
    go_quiet (fail);go_wp2;go_roundw
    case rel=>exact⟨k+1,o,by go_num,by omega,j1.fresh (Q0v _ _),j5.out,j4.trans (Q0v _ _),HW.out⟩
    exact j9.out
   rw[qAa (fun e=>jo e.1)]at hW;have HW:=hid hW;have d3:decide ((m.f:Int)=0)=false:=qCa (by omega);have d4:¬(m.f:Int)=0:=by omega
   clear hW;go_wp2_with fail
   go_quiet (fail);go_wp2;go_roundw
   case rel=>exact⟨k+1,o,by go_num,by omega,j1.fresh (Q0v _ _),j5.out,j4.trans (Q0v _ _),HW.out⟩
   exact j9.out
  rw[qAa j3]at hW;have d1:decide (sc<0)=false:=qCa j3;obtain⟨j,rfl⟩:∃j:Nat,sc=j:=⟨sc.toNat,by omega⟩;by_cases jr:(j:Int)<(R:Int)
  ·rw[qAb jr,qAo]at hW;have HW:=hid hW;have j7:=jm.out;have c1:=j1.cell (j:=j) (by rw[j5.out];omega);have c2:=j1.frozen j;have s5:(j:Int)<(r1:Int):=by omega
   clear j7;have HP:=hid (j1.put j true);clear hW;go_wp2_with fail
   go_quiet (fail);go_wp2;go_roundw
   case rel=>exact⟨k+1,_,by go_num,by omega,HP.fresh (Q0v _ _),by simp[j5.out],(j4.setCell (fun h=>absurd h (qBw _)) _).trans (Q0v _ _),HW.out⟩
   exact j9.out
  rw[qAa jr]at hW;have HW:=hid hW;clear hW;go_wp2_with fail
  go_quiet (fail);go_wp2;go_roundw
  case rel=>exact⟨k+1,o,by go_num,by omega,j1.fresh (Q0v _ _),j5.out,j4.trans (Q0v _ _),HW.out⟩
  exact j9.out
 have s2:¬(k:Int)<(X.length:Int):=by omega
 rw[qAp (by omega),W0k]at j0;have j2:=hid j0;clear j0 hI;go_wp2;go_ret;exact⟨_,rfl,by rw[← j2.out];exact HB.out,HF.out⟩
theorem z8e(w:World)(v:Value)(l:List Int)(n:Int)(h:Q1c w v l)(hl:l.length<=1000) :
  Calls Tryz.prog 37 #[v,.int .i64 n] w fun e w'=>e=.returned (.bool (l.any (·==n)))/\w'=w:=by
 obtain⟨ao,cap,rfl,hc,j2⟩:=h;have HC:=hid j2;generalize hR:l.any (·==n)=RES;have HR:=hid hR;clear j2 hR;go_enter Tryz.func37,Tryz.ntmps37
 go_wp2;go_loopw [6,9] (fun _ x5 wr=>∃(i:Nat),x5=.int .i64 i/\i<=l.length/\(l.drop i).any (·==n)=RES/\wr=w)
   (fun _ x _=>1001-(intOf x).toNat)
 case atStart=>exact⟨0,rfl,by omega,HR.out,rfl⟩
 obtain⟨i,rfl,hi,j0,j6⟩:=hrel;subst j6;have j5:=hid (Q19 (B:=1001) i (by omega));by_cases j4:i<l.length
 ·have j8:(i:Int)<(l.length:Int):=by omega
  rw[qC j4,List.any_cons]at j0;obtain⟨g,o,rfl,j3⟩:=HC.out i j4;have c1:=j3;generalize l[i]=li at j0 c1;cases hq:(li==n)
  ·rw[hq,qDj]at j0;have j1:=hid j0;clear j3 j0;go_wp2;go_roundw
   case rel=>exact⟨i+1,by go_num,by omega,j1.out,by first|rfl|trivial⟩
   exact j5.out
  rw[hq,Bool.true_or]at j0;have j1:=hid j0;clear j3 j0;go_wp2;go_ret;exact⟨z0w j1.out,rfl⟩
 have j7:i=l.length:=by omega
 have j9:¬(i:Int)<(l.length:Int):=by omega
 rw[j7,qCy]at j0;have j1:=hid j0;clear j0;go_wp2;go_ret;exact⟨z0w (by rw[← j1.out];rfl),rfl⟩
def Q1z(R:Int)(l:List Int):Bool:=l.all fun k=>decide (0<=k)&&decide (k<R)
def Q49(toks:List Tk)(n:Int)(len:Nat):Int:=if n<0 then len else match toks[n.toNat]? with
 |some t=>t.a
 |none=>len
theorem y7d(w:World)(v:Value)(toks:List Tk)(n:Int)(s:ByteArray)(h:Q43 w v toks)(hl:toks.length<=1000) :
  Calls Tryz.prog 17 #[v,.int .i64 n,.string s] w fun e w'=>e=.returned (.int .i64 (Q49 toks n s.size))/\Q0a w w':=by
 obtain⟨aa,ca,j1⟩:=z0c h.own;subst j1;have HT:=hid h;clear h;by_cases h0:n<0
 ·have e0:Q49 toks n s.size=s.size:=by unfold Q49;rw[qAb h0]
  rw[e0];clear e0;go_enter Tryz.func17,Tryz.ntmps17
  go_wp2;go_ret;exact⟨rfl,mRf _ w⟩
 obtain⟨k,rfl⟩:∃k:Nat,n=k:=⟨n.toNat,by omega⟩;by_cases hk:k<toks.length
 ·have j0:(k:Int)<(toks.length:Int):=by omega
  have e0:Q49 toks k s.size=toks[k].a:=by unfold Q49;rw[qAa h0,qAo,qE hk]
  rw[e0];obtain⟨g,c',hg⟩:=Joins.ownsRow_form HT.own (by omega);rw[qI]at hg;obtain⟨rfl,_,rfl⟩:=hg;have c1:w.cell? ⟨g,k*3+1,none⟩=some (.int .i64 toks[k].a):=HT.cell k 1 hk (by omega);generalize toks[k].a=ta at c1;clear e0;go_enter Tryz.func17,Tryz.ntmps17
  go_wp2;go_ret;exact⟨rfl,mRf _ w⟩
 have j0:¬(k:Int)<(toks.length:Int):=by omega
 have e0:Q49 toks k s.size=s.size:=by unfold Q49;rw[qAa h0,qAo,qN (by omega)]
 rw[e0];clear e0;go_enter Tryz.func17,Tryz.ntmps17
 go_wp2;go_ret;exact⟨rfl,mRf _ w⟩
theorem z9j(w:World)(v:Value)(toks:List Tk)(h:Q43 w v toks)(hl:toks.length<=1000) :
  Calls Tryz.prog 15 #[v] w fun e w'=>∃v',e=.returned v'/\Q0a w w'/\IntOwn w' w.heap.size v' (toks.map Tk.r):=by
 obtain⟨i0,jf,jk,jl,jm⟩:=infoI';obtain⟨aa,ca,jj⟩:=z0c h.own;subst jj;have HT:=hid h;clear h;go_enter Tryz.func15,Tryz.ntmps15
 go_wp2;go_loopw [3,5,8] (fun x3 _ x5 wr=>∃(i:Nat),x5=.int .i64 i/\i<=toks.length/\Q0a w wr/\IntOwn wr w.heap.size x3 ((toks.take i).map Tk.r))
   (fun _ _ x _=>1001-(intOf x).toNat)
 case atStart=>exact⟨0,rfl,by omega,mRf _ w,qAh _ _ _ _⟩
 obtain⟨i,rfl,hi,j4,j2⟩:=hrel;have j5:=hid j4;have jb:=hid (Q19 (B:=1001) i (by omega));have jd:Hid (i=toks.length->toks.take i=toks):=fun e=>by rw[e,qAw]
 have je:Hid (∀j3:i<toks.length,(toks.take (i+1)).map Tk.r=(toks.take i).map Tk.r++[toks[i].r]):=fun j3=>by rw[Q6e j3,qBp];rfl
 have jh:((toks.take i).map Tk.r).length<=1000:=by simp;omega
 generalize hy:(toks.take i).map Tk.r=ys at *;have HY:=hid hy;have HO:=hid j2;obtain⟨ro,rc,ji⟩:=z0c j2;subst ji;clear j2 hy;by_cases j3:i<toks.length
 ·have jn:(i:Int)<(toks.length:Int):=by omega
  obtain⟨g,c',hg⟩:=Joins.ownsRow_form HT.own (by omega);rw[qI]at hg;obtain⟨rfl,_,rfl⟩:=hg;have r1:=(HT.fresh j4).range i j3;have j7:=je.out j3;generalize toks[i]=tk at r1 j7;obtain⟨tr,ta,tb⟩:=tk;have R1:=hid r1;have j6:=hid j7;clear r1 j7 j4;go_wp2_with (first
   |(refine qAe rfl 63 _ rfl g (i*3) rfl [.int .i64 tr,.int .i64 ta,.int .i64 tb] _ R1.out qFy rfl szTo ?_)
   |(at_builtin;refine z0f _ rfl _ _ 24 rfl w.heap.size 3 i0 _ 1 8 qDq jf jk jl jm rfl (by decide) _ _ _ rfl ((HO.alloc _).alloc _) ⟨wr.heap.size+1,0,none⟩ 1 1 [.int .i64 tr] rfl rfl (z13 rfl) (by intro u hu;simp at hu;subst hu;rfl) (by unfold maxLen;omega) (by omega) (by have h3:=j5.size;simp;omega) ?_))
  intro v' w5 j0 j1 j8;have jc:=hid j0;have ja:Hid (Q0a w w5):=((j5.alloc _).alloc _).grown j1 (fun k hk j3=>by have:=(HO.lt k hk).1;omega);obtain⟨jq,jp,j9⟩:=z0c j0;subst j9;clear j0 j1 j8;go_wp2;go_roundw
  case rel =>
   refine⟨i+1,by go_num,by omega,ja.out,?_⟩;rw[j6.out];show World.ownsRow _ _ _ _ _ (ys++[tr]).length _;rw[qP,qAj];have:=jc.out;simpa [Q9p]using this
  exact jb.out
 have jg:i=toks.length:=by omega
 have jo:¬(i:Int)<(toks.length:Int):=by omega
 have hE:=jd.out jg;clear j4;go_wp2;go_ret;refine⟨_,rfl,j5.out,?_⟩;rw[← hE,HY.out];exact HO.out
def gdA(fp:Value)(L:List Int):Array Value:=(fp::Q9p L).toArray
theorem x99{fp:Value}{L:List Int}{j:Nat}(h:j<L.length):(gdA fp L)[1+j]? = some (.int .i64 (L.getD j 0)):=by
 unfold gdA;rw[qDp,Nat.add_comm,qFu,qBt,qE h];simp[h]
theorem x0c(w:World)(gb:Nat)(fp:Value)(L:List Int)(hL:L.length=72)(hb:w.heap[gb]? = some (.cells (gdA fp L) 145 (0,0)))(n t:Nat)(hn:n<8)(ht:t<9) :
  Calls Tryz.prog 68 #[Q3c gb,.int .i64 n,.int .i64 t] w fun e w'=>e=.returned (.int .i64 (L.getD (n*9+t) 0))/\w'=w:=by
 have c1:w.cell? ⟨gb,1+n*9+t,none⟩=some (.int .i64 (L.getD (n*9+t) 0)):=by
  rw[Q0b hb,qDm,x99 (by omega)]
 generalize L.getD (n*9+t) 0=V at c1;have h1:(n:Int)<8:=by omega
 have h2:(t:Int)<9:=by omega
 clear hb hL;go_enter Tryz.func68,Tryz.ntmps68
 go_wp2;go_ret;exact⟨rfl,rfl⟩
def St.cells(s:St):List Value:=[.bool s.leaf,.int .i8 s.num]
abbrev StOwn(w:World)(base:Nat)(v:Value)(l:List St):Prop:=w.ownsRow base 158 2 v l.length (Q0y St.cells l)
theorem infoSt:(Tryz.prog.info? 158).map (fun i=>(i.zero,i.size,i.bytes))=some (some (.agg #[.bool false,.int .i8 0]),2,2):=by kernel_rfl
theorem infoSt':∃i,Tryz.prog.info? 158=some i/\i.zero=some (.agg #[.bool false,.int .i8 0])/\i.size=2/\i.bytes=2:=nfoE infoSt
theorem z65{α:Type}(f:α->List Value)(l:List α)(x:α):Q0y f (l++[x])=Q0y f l++f x:=by simp[Q0y]
structure GA(w:World)(b B:Nat)(R H:Int)(vp vg vk vs:Value)(k:List Sy)(st:List St):Prop where
 lo:B<=b
 blk:w.heap[b]? = some (.cells #[.int .i64 R,.int .i64 H,vp,vg,vk,vs] 97 (0,0))
 ks:SyOwn w B vk k.reverse
 ss:StOwn w B vs st
 kb:vk.ownBlock≠some b
 sb:vs.ownBlock≠some b
 ap:∀j,vk.ownBlock=some j->vs.ownBlock≠some j
section
variable {w W w1:World}{b B:Nat}{R H:Int}{vp vg vk vs v':Value}{k:List Sy}{st:List St}
theorem GA.lt(h:GA w b B R H vp vg vk vs k st):b<w.heap.size:=z0j h.blk
theorem GA.cell(h:GA w b B R H vp vg vk vs k st)(o:Nat):w.cell? ⟨b,o,none⟩=#[.int .i64 R,.int .i64 H,vp,vg,vk,vs][o]? := Q0b h.blk o
theorem GA.frozen(h:GA w b B R H vp vg vk vs k st)(o:Nat):w.frozen? ⟨b,o,none⟩=false:=Q0f h.blk o
theorem GA.fresh(h:GA w b B R H vp vg vk vs k st)(hf:Q0a w W):GA W b B R H vp vg vk vs k st :=
 ⟨h.lo,hf.at h.blk id,z0d h.ks (fun g hg=>hf.block g (h.ks.lt g hg).2 id),z0d h.ss (fun g hg=>hf.block g (h.ss.lt g hg).2 id),h.kb,h.sb,h.ap⟩
theorem GA.grown5(h:GA w b B R H vp vg vk vs k st)(hW:Q0a w W)(hg:W.grownBy w1 vs.ownBlock):w1.heap[b]? = some (.cells #[.int .i64 R,.int .i64 H,vp,vg,vk,vs] 97 (0,0)):=by
 have j0:=hW.at h.blk id;rw[hg.block b (z0j j0) (fun e=>h.sb e.symm)];exact j0
theorem GA.grown4(h:GA w b B R H vp vg vk vs k st)(hW:Q0a w W)(hg:W.grownBy w1 vk.ownBlock):w1.heap[b]? = some (.cells #[.int .i64 R,.int .i64 H,vp,vg,vk,vs] 97 (0,0)):=by
 have j0:=hW.at h.blk id;rw[hg.block b (z0j j0) (fun e=>h.kb e.symm)];exact j0
theorem GA.step(h:GA w b B R H vp vg vk vs k st)(hW:Q0a w W){x:St}(hown:w1.ownsRow B 158 2 v' (st.length+1) (Q0y St.cells st++x.cells))(hg:W.grownBy w1 vs.ownBlock)
  (hb:∀j,v'.ownBlock=some j->vs.ownBlock=some j∨W.heap.size<=j) :
  GA (w1.setCell ⟨b,5,none⟩ v') b B R H vp vg vk v' k (st++[x])/\UpB B w (w1.setCell ⟨b,5,none⟩ v'):=by
 have h1:=h.grown5 hW hg;have j1:=h.lt;have j2:=hW.size;have hv'b:v'.ownBlock≠some b:=fun e=>by
  rcases hb b e with h2|h2
  ·exact h.sb h2
  omega
 refine⟨⟨h.lo,?_,?_,?_,h.kb,hv'b,?_⟩,?_⟩
 ·rw[zhs h1 5 v'];rfl
 ·refine z0d h.ks (fun g hg'=>?_);have hl:=h.ks.lt g hg';rw[Proofs.YtbdpfmalabgmbaaGreat.heap_setCell_other _ (by intro e;exact h.kb (by rw[hg'];exact qEn some e)),hg.block g (by omega) (fun e=>h.ap g hg' e.symm),hW.block g hl.2 id]
 ·show World.ownsRow _ _ _ _ _ (st++[x]).length _;rw[z65,qP,qAj];exact z0d hown (fun g hg'=>by rw[Proofs.YtbdpfmalabgmbaaGreat.heap_setCell_other _ (by intro e;exact hv'b (by rw[hg'];exact qEn some e))])
 ·intro j hj j0;rcases hb j j0 with h2|h2
  ·exact h.ap j hj h2
  have:=(h.ks.lt j hj).2;omega
 have m1:UpB B w W:=hW.mono (fun _ _ x=>x.elim);exact(m1.grown hg (fun j hj _=>(h.ss.lt j hj).1)).setCell (fun _=>h.lo) _
theorem GA.push(h:GA w b B R H vp vg vk vs k st)(hW:Q0a w W){x:Sy}(hown:w1.ownsRow B 93 2 v' (k.reverse.length+1) (Q0y Sy.cells k.reverse++x.cells))(hg:W.grownBy w1 vk.ownBlock)
  (hb:∀j,v'.ownBlock=some j->vk.ownBlock=some j∨W.heap.size<=j) :
  GA (w1.setCell ⟨b,4,none⟩ v') b B R H vp vg v' vs (x::k) st/\UpB B w (w1.setCell ⟨b,4,none⟩ v'):=by
 have h1:=h.grown4 hW hg;have j1:=h.lt;have j2:=hW.size;have hv'b:v'.ownBlock≠some b:=fun e=>by
  rcases hb b e with h2|h2
  ·exact h.kb h2
  omega
 refine⟨⟨h.lo,?_,?_,?_,hv'b,h.sb,?_⟩,?_⟩
 ·rw[zhs h1 4 v'];rfl
 ·show World.ownsRow _ _ _ _ _ (x::k).reverse.length _;rw[List.reverse_cons,z65,qP,qAj];exact z0d hown (fun g hg'=>by rw[Proofs.YtbdpfmalabgmbaaGreat.heap_setCell_other _ (by intro e;exact hv'b (by rw[hg'];exact qEn some e))])
 ·refine z0d h.ss (fun g hg'=>?_);have hl:=h.ss.lt g hg';rw[Proofs.YtbdpfmalabgmbaaGreat.heap_setCell_other _ (by intro e;exact h.sb (by rw[hg'];exact qEn some e)),hg.block g (by omega) (fun e=>h.ap g e.symm hg'),hW.block g hl.2 id]
 ·intro j hj j0;rcases hb j hj with h2|h2
  ·exact h.ap j h2 j0
  have:=(h.ss.lt j j0).2;omega
 have m1:UpB B w W:=hW.mono (fun _ _ x=>x.elim);exact(m1.grown hg (fun j hj _=>(h.ks.lt j hj).1)).setCell (fun _=>h.lo) _
theorem y7c{e:TypeId}{size n cap:Nat}{ao:Option Addr}{xs ys:List Value}(h:w.ownsRow B e size (.slice ao (n+1) cap) (n+1) (xs++ys))(hy:ys.length=size):w.ownsRow B e size (.slice ao n cap) n xs:=by
 obtain⟨h1,h2⟩:=h;have hx:xs.length=n*size:=by
  rw[qP,hy,qFc,Nat.one_mul]at h1;omega
 refine⟨hx,?_⟩;rcases h2 with⟨_,h0⟩|⟨g,j0,j1,hv,hb,hg,j4,j2,j3,ht⟩
 ·omega
 rw[qI]at hv;obtain⟨rfl,_,rfl⟩:=hv;refine .inr ⟨g,cap,j1,rfl,hb,hg,by omega,j2,j3,?_⟩;have e1:(xs++ys).take (n*size)=xs:=by rw[List.take_append_of_le_length (by omega),qDg (by omega)]
 rw[← ht,List.take_take,qFe (by rw[qFc];omega)]at e1;exact e1
theorem GA.pop{ao:Option Addr}{cap:Nat}{s:Sy}(h:GA w b B R H vp vg (.slice ao (k.length+1) cap) vs (s::k) st) :
  GA (w.setCell ⟨b,4,none⟩ (.slice ao k.length cap)) b B R H vp vg (.slice ao k.length cap) vs k st/\UpB B w (w.setCell ⟨b,4,none⟩ (.slice ao k.length cap)):=by
 have j0:=h.ks;unfold SyOwn at j0;rw[List.reverse_cons,z65,qP,qAj,qEr]at j0;have hp:=y7c j0 rfl;have j1:Value.ownBlock (.slice ao k.length cap)=Value.ownBlock (.slice ao (k.length+1) cap):=by cases ao<;>rfl
 refine⟨⟨h.lo,?_,?_,?_,by rw[j1];exact h.kb,h.sb,fun j hj=>h.ap j (by rw[j1]at hj;exact hj)⟩,(mRf _ w).setCell (fun _=>h.lo) _⟩
 ·rw[zhs h.blk 4 _];rfl
 ·show World.ownsRow _ _ _ _ _ k.reverse.length _;rw[qEr];exact z0d hp (fun g hg'=>by rw[Proofs.YtbdpfmalabgmbaaGreat.heap_setCell_other _ (by intro e;exact h.kb (by rw[← j1,hg'];exact qEn some e))])
 exact z0d h.ss (fun g hg'=>by rw[Proofs.YtbdpfmalabgmbaaGreat.heap_setCell_other _ (by intro e;exact h.sb (by rw[hg'];exact qEn some e))])
end
def ldY(v:Value):Sem Value:=Instr.loadAt 93 v
theorem y8y(v:Value):Instr.loadAt 93 v=ldY v:=rfl
theorem x3n{w:World}{g o:Nat}{h:Bool}{n:Int}(hr:w.rangeAt g o [.bool h,.int .i64 n]):(ldY (.pointer (some ⟨g,o,none⟩))).run Tryz.prog w=.ok (.agg #[.bool h,.int .i64 n]) w :=
 qFo w g o _ _ _ hr qCf rfl szSy2
attribute [local go_sem ↓] y8y
attribute [local go_sem ↓] z17
theorem x68(w:World)(b B:Nat)(R H:Int)(vp vg vk vs:Value)(k:List Sy)(st:List St)(ps:List PV)(i:Nat)(h:GA w b B R H vp vg vk vs k st)(hp:Q2e w B vp ps)(hi:i<ps.length)(hps:ps.length<=100)
  (hst:st.length<=1000000000000) (hk:k.length<=100000000000) (hsy:ps[i].pr.syms.length<=6) (hB:B<=w.heap.size) :
  Calls Tryz.prog 69 #[Q3c b,.int .i64 i] w fun e w'=>e=.returned (.tuple #[])/\∃vk' vs',GA w' b B R H vp vg vk' vs' (ps[i].pr.syms++k) (st++[⟨false,i⟩])/\UpB B w w':=by
 generalize hsyE:ps[i].pr.syms=sy at hsy ⊢;have jv:=hid hsyE;clear hsyE;obtain⟨is,k8,kl,km,kn⟩:=infoSt';obtain⟨iy,k9,ko,kp,kq⟩:=infoSy';obtain⟨pa,pc,ki⟩:=z0c hp.row.own;subst ki;obtain⟨sa,sc,kj⟩:=z0c h.ss;subst kj;obtain⟨gp,j5,j9⟩:=Joins.ownsRow_form hp.row.own (by omega);rw[qI]at j9;obtain⟨rfl,_,rfl⟩:=j9;have k2:=h.cell 2;have k5:=h.cell 5;simp at k2 k5;have z5:=h.frozen 5;have kv:(i:Int)<(ps.length:Int):=by omega
 have kw:(i:Int)<=127:=by omega
 have kx:¬(ps.length<=i):=by omega
 have ky:¬((i:Int)<0):=by omega
 have HG:=hid h;have HP:=hid hp;have kt:=h.lt;have HO:=hid h.ss;clear h hp;go_enter Tryz.func69,Tryz.ntmps69
 go_wp2_with (first
  |(at_builtin;refine z0f _ rfl _ _ 95 rfl B 158 is _ 2 2 Tryz.underlying95 k8 kl km kn rfl (by decide) _ _ _ rfl (HO.alloc _) ⟨w.heap.size,0,none⟩ 1 1 [.bool false,.int .i8 i] rfl rfl (z0m rfl) (by intro u hu;simp at hu;rcases hu with rfl|rfl<;>rfl) (by unfold maxLen;omega) (by omega) (by simp;omega) ?_))
 intro v' w5 j1 j0 j3;obtain⟨jl,jm,jc⟩:=z0c j1;subst jc;have G5:=HG.grown5 ((mRf _ w).alloc _) j0;have f5:=Q0f G5 5;have g5:=Q0b G5 5;simp at g5;obtain⟨G1,U1⟩:=HG.step (x:=⟨false,i⟩) ((mRf _ w).alloc _) j1 j0 (fun j hj=>by simpa using j3 j hj);generalize hWW:w5.setCell ⟨b,5,none⟩ (.slice jl (st.length+1) jm)=W1 at G1 U1;have jz:=hid hWW;have j8:=HP.kept hB U1 (fun j h1 h2=>by omega);have kr:=hid j8;have j2:=G1.cell 2;simp at j2;have cs:=j8.row.cell i 1 hi (by omega);have ja:=j8.syms ps[i] (by simp);rw[jv.out]at ja;have jh:=hid ja;have jo:=hid G1;have ji:=hid U1;have k3:=G1.lt;have k0:B<=W1.heap.size:=by have:=U1.size;omega
 simp[PV.cells]at cs;clear ja;generalize ps[i].vs=pvs at jh cs;obtain⟨x3,kk,kg,x0,kf,j7⟩:=jh.out;subst kg;have ju:=hid j7;clear j7 j1 j0 j3 G5 G1 U1 j8;go_wp2;clear hWW;go_loopw [5] (fun x5 wr=>∃(m:Nat) (q:Int) (vk':Value),x5=.int .i64 q/\q=(m:Int)-1/\m<=sy.length/\GA wr b B R H (.slice (some ⟨gp,0,none⟩) ps.length pc) vg vk' (.slice jl (st.length+1) jm) (sy.drop m++k) (st++[⟨false,i⟩])/\UpB B w wr)
   (fun x _=>(intOf x+1).toNat)
 case atStart=>exact⟨sy.length,_,vk,rfl,rfl,qR _,by rw[qCy];exact jo.out,ji.out⟩
 clear j2 cs k3 k0 jz f5 z5 k5 k2;obtain⟨m,q,vk',rfl,hq,hm,hG,hU⟩:=hrel;by_cases kb:m=0
 ·have kd:q=-1:=by omega
  subst kd;subst kb;have jr:=hid hG;have jx:=hid hU;clear hG hU hq;go_wp2;exact qFf (qDe rfl _ _ _) rfl ⟨rfl,vk',_,jr.out,jx.out⟩
 obtain⟨m',rfl⟩:∃m',m=m'+1:=⟨m-1,by omega⟩;have ke:q=(m':Int):=by omega
 clear hq;subst ke;have jj:m'<sy.length:=by omega
 have kz:(m':Int)<(sy.length:Int):=by omega
 have js:Hid (((m':Int)-1+1).toNat<((m':Int)+1).toNat):=by unfold Hid;omega
 have je:Hid (sy.drop m'=sy[m']::sy.drop (m'+1)):=qC jj;obtain⟨g,o,rfl,ku,jk⟩:=ju.out m' jj;have j4:wr.rangeAt g (o+m'*2) (sy[m']).cells:=z0t jk (by
  rw[hU.block g (by omega) (by omega)];exact(ji.block g (by omega) (by omega)).symm)
 generalize sy[m']=s at j4 je;obtain⟨sh,sn⟩:=s;have l1:(ldY (.pointer (some ⟨g,o+m'*2,none⟩))).run Tryz.prog wr=_:=x3n j4;have l2:(ldY (.pointer (some ⟨g,o+m'*2,none⟩))).run Tryz.prog wr.drew=_:=x3n (w:=wr.drew) (z0t j4 rfl);have k1:(sy.drop (m'+1)++k).length<=100000000006:=by simp;omega
 have jd:Hid (∀x:Sy,x::(sy.drop (m'+1)++k)=(x::sy.drop (m'+1))++k):=fun x=>rfl;generalize sy.drop (m'+1)++k=K at hG k1 jd;have j6:=hG.ks;unfold SyOwn at j6;rw[qEr]at j6;obtain⟨ka,kc,kh⟩:=z0c j6;subst kh;have k4:=hG.cell 4;have z4:=hG.frozen 4;simp at k4;have x2:=hG.lt;have x1:B<=wr.heap.size:=by have:=hU.size;omega
 have jf:=hid hG;have jy:=hid hU;have jg:=hid j6;clear hG hU j6 jk j4;go_wp2;have FW:Hid (∀o:Obj,Q0a wr (wr.alloc o).drew):=fun o=>((mRf _ wr).alloc o).drew;obtain⟨v',w2,jb,j1,j0,j3⟩:=z24 (P:=Tryz.prog) (wr.alloc (.cells #[.bool sh,.int .i64 sn] 93)).drew B 83 83 93 iy _ 2 16 Tryz.underlying83 k9 ko kp kq rfl (by decide) (.slice ka K.length kc) K.length (Q0y Sy.cells K.reverse) (z0d jg.out (fun g hg=>(FW.out _).block g (jg.lt g hg).2 id)) ⟨wr.heap.size,0,none⟩ 1 1 [.bool sh,.int .i64 sn] rfl (z0m rfl) (by intro u hu;simp at hu;rcases hu with rfl|rfl<;>rfl) (by unfold maxLen;omega) (by omega) (by simp[World.drew];omega);have HB:=jf.grown4 (FW.out _) j0;have k6:w2.cell? ⟨b,4,none⟩=some (.slice ka K.length kc):=(Q0b HB 4);have k7:=Q0f HB 4;have jt:=hid j1;have jp:=hid j0;have jn:=hid j3;obtain⟨a',j5,j9⟩:=z0c j1;clear j1 j0 j3 HB;subst j9;go_region;all_goals
  obtain⟨G3,U3⟩:=jf.push (x:=⟨sh,sn⟩) (FW.out _) (by rw[qEr];exact jt.out) jp.out jn.out;generalize hWW:w2.setCell _ _=W3 at G3 U3 ⊢;have jq:=hid G3;have jw:=hid U3;clear G3 U3 hWW k6 k7 k4 z4 l1 l2 jb;go_wp2;go_roundw
  case rel =>
   refine⟨m',(m':Int)-1,.slice a' (K.length+1) j5,rfl,rfl,by omega,?_,Mod.trans jy.out jw.out⟩;rw[je.out,← jd.out];exact jq.out
  exact js.out
def lenV(v:Value):Nat:=match v with
 | .slice _ n _=>n
 |_=>0
def stW(b:Nat)(w:World):Nat:=match w.heap[b]? with
 |some (.cells c _ _)=>lenV (c.getD 5 undef)
 |_=>0
theorem GA.stW{w:World}{b B:Nat}{R H:Int}{vp vg vk vs:Value}{k:List Sy}{st:List St}(h:GA w b B R H vp vg vk vs k st):stW b w=st.length:=by
 obtain⟨a,c,hv⟩:=z0c h.ss;unfold Proofs.YtbdpfmalabgmbaaGreat.stW;rw[h.blk,hv];rfl
structure GdAt(w:World)(gb B:Nat)(fp:Value)(L:List Int):Prop where
 lt:gb<B
 blk:w.heap[gb]? = some (.cells (gdA fp L) 145 (0,0))
 len:L.length=72
theorem GdAt.up{w w':World}{gb B:Nat}{fp:Value}{L:List Int}(h:GdAt w gb B fp L)(hu:UpB B w w'):GdAt w' gb B fp L :=
 ⟨h.lt,by rw[hu.block gb (z0j h.blk) (by have:=h.lt;omega)];exact h.blk,h.len⟩
def chL(L:List Int)(X:Int)(t:Nat):Int:=if 0<=X/\X<8/\t<9 then L.getD (X.toNat*9+t) 0 else -1
def Q3d(R H:Int)(k:List Sy):Prop:=∀s∈k,0<=s.num/\s.num<(if s.isH then H else R)
attribute [local go_sem ↓] y8y
attribute [local go_sem ↓] z17
theorem y1d(w:World)(b B gb:Nat)(fp:Value)(L:List Int)(R H:Nat)(vp vk vs:Value)(k:List Sy)(st:List St)(ps:List PV)(t F:Nat)(r:List Sy × List St)
  (h:GA w b B R H vp (Q3c gb) vk vs k st) (hgd:GdAt w gb B fp L) (hp:Q2e w B vp ps) (hps:ps.length<=100) (hsy:∀p∈ps,p.pr.syms.length<=6/\Q3d R H p.pr.syms) (hk0:Q3d R H k)
  (hR:R<=8) (hH:H<=8) (ht:t<9) (hB:B<=w.heap.size) (hrun:gTo (Q0k ps) (chL L) t F k st=some r) (hrl:r.2.length<=1000000000000) (hkl:k.length+6*r.2.length<=100000000000+6*st.length) :
  Calls Tryz.prog 38 #[Q3c b,.int .i64 t] w fun e w'=>e=.returned (.tuple #[])/\∃vk' vs',GA w' b B R H vp (Q3c gb) vk' vs' r.1 r.2/\UpB B w w':=by
 obtain⟨is,km,kw,kx,ky⟩:=infoSt';have jz:=hid h;have jf:=hid hgd;have HP:=hid hp;have jt:=hid hsy;have k9:=hid hrl;have ji:=hid hrun;have k5:=hid hkl;have k2:=hid hk0;have x4:=h.lt;have x5:=h.lo;clear h hgd hp hsy hrl hrun hkl hk0;go_enter Tryz.func38,Tryz.ntmps38
 go_wp2;go_loopw [4,5,6] (fun _ _ _ wr=>∃(f:Nat) (k':List Sy) (j0:List St) (vk' vs':Value),gTo (Q0k ps) (chL L) t f k' j0=some r/\GA wr b B R H vp (Q3c gb) vk' vs' k' j0/\UpB B w wr/\Q3d R H k'/\k'.length+6*r.2.length<=100000000000+6*j0.length)
   (fun _ _ _ wr=>r.2.length+1-stW b wr)
 case atStart=>exact⟨F,k,st,vk,vs,ji.out,jz.out,mRf _ w,k2.out,k5.out⟩
 obtain⟨f,k',j0,vk',vs',hrun,hG,hU,jk,jl⟩:=hrel;have x8:j0.length<=r.2.length:=y2g _ _ _ _ hrun;have hrl:=k9.out;obtain⟨f,rfl⟩:∃f',f=f'+1:=by
  cases f with
  |zero=>cases hrun
  |succ f=>exact⟨f,rfl⟩
 have j2:=hG.ks;unfold SyOwn at j2;rw[qEr]at j2;obtain⟨ka,kc,ku⟩:=z0c j2;subst ku;have k4:=hG.cell 4;simp at k4;have xa:=hG.lt;have x9:B<=wr.heap.size:=by have:=hU.size;omega
 have j7:=hid hU;have jq:=hid hG;cases k' with
 |nil =>
  have hr:r=([],j0):=by simpa [gTo]using hrun.symm
  simp only[qEq]at k4;have HR:=hid hr;clear hr hrun hG hU j2;go_wp2;exact qFf (qDe rfl _ _ _) rfl ⟨rfl,_,vs',by rw[HR.out];exact jq.out,j7.out⟩
 |cons s K =>
  obtain⟨sh,sn⟩:=s;have jb:=jk ⟨sh,sn⟩ (by simp);have k3:Hid (Q3d R H K):=fun x hx=>jk x (by simp[hx]);have kp:K.length<=100000000000:=by simp at jl;omega
  have jh:Hid (K.length+1+6*r.2.length<=100000000000+6*j0.length):=by unfold Hid;simpa using jl
  simp only[qBk]at k4 j2;have ko:((K.length:Int)+1-1)=(K.length:Int):=by omega
  obtain⟨g,jj,jd⟩:=Joins.ownsRow_form j2 (by omega);rw[qI]at jd;obtain⟨rfl,_,rfl⟩:=jd;have x7:K.length+1<=kc:=by
   rcases j2.2 with⟨h1,_⟩|⟨g',c',x1,h1,_,_,h2,_⟩
   ·cases h1
   rw[qI]at h1;obtain⟨_,_,rfl⟩:=h1;exact h2
  have kn:(K.length:Int)<=(kc:Int):=by omega
  have RG:Hid (wr.rangeAt g (K.length*2) [.bool sh,.int .i64 sn]):=by
   have jp:Q18 Sy.cells 2 93 wr (.slice (some ⟨g,0,none⟩) (K.length+1) kc) (K.reverse++[⟨sh,sn⟩]):=⟨by
    have:=z0g j2 (qBq B);rw[qP,qAj,qEr];simpa using this,fun _ _=>rfl⟩
   have:=jp.range K.length (by simp);unfold Hid;simpa [Sy.cells]using this
  have jc:=hG.fresh ((mRf _ wr).alloc (.cells #[.bool sh,.int .i64 sn] 93 (0,0)));obtain⟨G1,U1⟩:=GA.pop (ao:=some ⟨g,0,none⟩) (cap:=kc) jc;have z4:=jc.frozen 4;have y4:=jc.cell 4;simp at y4;generalize hW1:(wr.alloc (.cells #[.bool sh,.int .i64 sn] 93 (0,0))).setCell ⟨b,4,none⟩ (.slice (some ⟨g,0,none⟩) K.length kc)=W1 at G1 U1;have jm:W1.heap[wr.heap.size]? = some (.cells #[.bool sh,.int .i64 sn] 93 (0,0)):=by
   rw[← hW1,Proofs.YtbdpfmalabgmbaaGreat.heap_setCell_other _ (by simp;omega)];exact z0a _ _
  have c0:=Q0b jm 0;have c1:=Q0b jm 1;simp at c0 c1;have je:=hid G1;have j6:Hid (UpB B wr W1):=Mod.trans ((mRf _ wr).alloc _) U1;have kh:B<=W1.heap.size:=by have:=j6.size;omega
  have ki:=G1.lt;have k6:Hid (j0.length<r.2.length->True):=fun _=>trivial;obtain⟨sa,sc,kv⟩:=z0c G1.ss;subst kv;have j5:=G1.cell 5;have j3:=G1.cell 3;simp at j5 j3;have z5:=G1.frozen 5;have js:=hid G1.ss;have x6:=jf.lt;have ja:W1.heap[gb]? = some (.cells (gdA fp L) 145 (0,0)):=(jf.up (Mod.trans j7.out j6.out)).blk;have jg:=hid ja;clear G1 U1 jc hG hU j2 jm jk jl k6 ja;cases sh
  ·simp only[gTo,qBn,qO]at hrun;have HR:=hid hrun.symm;have x3:r.2.length=j0.length+1:=by rw[HR.out];simp
   simp only[qF,qAz]at jb;have kf:sn<=127:=by omega
   have x2:=jb.1;clear hrun jb;go_wp2_with (first
    |(refine qAe rfl 93 _ rfl g (K.length*2) rfl [.bool false,.int .i64 sn] _ RG.out qCf rfl szSy2 ?_))
   have FW:Hid (∀o:Obj,Q0a W1 (W1.alloc o).drew):=fun o=>((mRf _ W1).alloc o).drew;obtain⟨v',w2,hrun,j4,j1,j9⟩:=z24 (P:=Tryz.prog) (W1.alloc (.cells #[.bool true,.int .i8 sn] 158)).drew B 95 95 158 is _ 2 2 Tryz.underlying95 km kw kx ky rfl (by decide) (.slice sa j0.length sc) j0.length (Q0y St.cells j0) (z0d js.out (fun g hg=>(FW.out _).block g (js.lt g hg).2 id)) ⟨W1.heap.size,0,none⟩ 1 1 [.bool true,.int .i8 sn] rfl (z0m rfl) (by intro u hu;simp at hu;rcases hu with rfl|rfl<;>rfl) (by unfold maxLen;omega) (by omega) (by simp[World.drew];omega);have HB:=je.grown5 (FW.out _) j1;have kj:w2.cell? ⟨b,5,none⟩=some (.slice sa j0.length sc):=(Q0b HB 5);have kk:=Q0f HB 5;have k7:=hid j4;have k0:=hid j1;have jy:=hid j9;obtain⟨a',jj,jd⟩:=z0c j4;clear j4 j1 j9 HB hW1;subst jd;go_region;all_goals
    obtain⟨G3,U3⟩:=je.step (x:=⟨true,sn⟩) (FW.out _) k7.out k0.out jy.out;generalize hWW:w2.setCell _ _=W3 at G3 U3 ⊢;have k1:=hid G3;have kb:=hid U3;clear G3 U3 hWW kj kk hrun;go_wp2;exact qAc (qDe rfl _ _ _) rfl ⟨rfl,_,_,by rw[HR.out];exact k1.out,Mod.trans j7.out (Mod.trans j6.out kb.out)⟩
  simp only[qBn]at jb;obtain⟨n,rfl⟩:∃n:Nat,sn=n:=⟨sn.toNat,by omega⟩;have kq:n<8:=by omega
  have jw:chL L n t=L.getD (n*9+t) 0:=by
   unfold chL;rw[qAb ⟨by omega,by omega,ht⟩,qAo]
  rw[gTo,qAa (by simp)]at hrun;simp only[jw]at hrun;by_cases jn:0<=L.getD (n*9+t) 0
  ·rw[qAb jn]at hrun;obtain⟨i,hi⟩:∃i:Nat,L.getD (n*9+t) 0=i:=⟨(L.getD (n*9+t) 0).toNat,by omega⟩;rw[hi,qAo]at hrun;cases hpi:(Q0k ps)[i]? with
   |none=>rw[hpi]at hrun;cases hrun
   |some p =>
    rw[hpi]at hrun;simp only[]at hrun;have kl:i<ps.length:=by
     have:=(qS hpi).1;simpa [Q0k]using this
    have jx:ps[i].pr=p:=by
     have:=(qS hpi).2;simpa [Q0k]using this
    have kt:j0.length+1<=r.2.length:=by have:=y2g _ _ _ _ hrun;simpa using this
    have CH:Hid (∀W:World,W.heap[gb]? = some (.cells (gdA fp L) 145 (0,0))->Calls Tryz.prog 68 #[Q3c gb,.int .i64 n,.int .i64 t] W fun e w'=>e=.returned (.int .i64 i)/\w'=W):=fun W hW=>by
     have:=x0c W gb fp L jf.len hW n t kq ht;rw[hi]at this;exact this
    have k8:=hid jx;have j8:=hid hrun;have kr:=(jt.out ps[i] (by simp)).1;have jo:=hid (jt.out ps[i] (by simp)).2;have kg:=j6.size;have OP:Hid (∀W:World,Q0a W1 W->Calls Tryz.prog 69 #[Q3c b,.int .i64 i] W fun e w'=>e=.returned (.tuple #[])/\∃vk' vs',GA w' b B R H vp (Q3c gb) vk' vs' (ps[i].pr.syms++K) (j0++[⟨false,i⟩])/\UpB B W w'):=fun W hW =>
     x68 W b B R H vp (Q3c gb) _ _ K j0 ps i (je.fresh hW) ((HP.kept hB (Mod.trans j7.out j6.out) (fun j h1 h2=>by omega)).kept (by have:=j7.size;omega) hW (fun _ _ x=>x)) kl hps (by omega) kp kr (by have:=hW.size;omega)
    clear hrun hpi jn hi jw jx jb;go_wp2_with (first
     |(refine qAe rfl 93 _ rfl g (K.length*2) rfl [.bool true,.int .i64 n] _ RG.out qCf rfl szSy2 ?_))
    clear hW1;go_quiet (first
     |(go_at_call 68;refine Calls.quiet_of_same (CH.out _ jg.out)))
    go_wp2_with (first
     |(go_at_call 69;refine(OP.out _ (Q39 W1 _)).mono ?_;rintro e w'⟨rfl,kz,x0,ju,jv⟩;have jr:=hid ju;have ke:=hid jv;clear ju jv))
    have kd:Hid (UpB B w w'):=Mod.trans j7.out (Mod.trans j6.out (Mod.trans ((Q39 W1 nq).mono (fun _ _ x=>x.elim)) ke.out));go_roundw
    case rel =>
     refine⟨f,ps[i].pr.syms++K,j0++[⟨false,i⟩],kz,x0,?_,jr.out,kd.out,?_,?_⟩
     ·rw[k8.out];exact j8.out
     ·intro x hx;rcases qBs.1 hx with hx|hx
      ·exact jo.out x hx
      exact k3.out x hx
     have:=jh.out;simp only[qP,qAj];omega
    rw[jr.stW,jq.stW,qP,qAj];omega
  rw[qAa jn]at hrun;cases hrun
end Go.Proofs.YtbdpfmalabgmbaaGreat
