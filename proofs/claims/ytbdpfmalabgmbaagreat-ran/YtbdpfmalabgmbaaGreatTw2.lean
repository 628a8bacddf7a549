import Derived.Test.YtbdpfmalabgmbaaGreatSg3
import Derived.Laws.MakeOwn
namespace Go.Proofs.YtbdpfmalabgmbaaGreat
open Go.RowKit
set_option maxRecDepth 99999
set_option maxHeartbeats 0
set_option linter.all false
theorem z8e(w:World)(v:Value)(l:List Int)(n:Int)(h:Q1c w v l)(hl:l.length<=1000) :
  Calls Tryz.prog 37 #[v,.int .i64 n] w fun e w'=>e=.returned (.bool (l.any (·==n)))/\w'=w:=by
 obtain⟨ao,cap,rfl,hc,j2⟩:=h;have HC:=hid j2;generalize hR:l.any (·==n)=RES;have HR:=hid hR;clear j2 hR;go_enter Tryz.func37,Tryz.ntmps37
 go_wp2;go_loopw [6,9] (fun _ x5 wr=>∃(i:Nat),x5=.int .i64 i/\i<=l.length/\(l.drop i).any (·==n)=RES/\wr=w)
   (fun _ x _=>1001-(intOf x).toNat)
 case atStart=>exact⟨0,rfl,by omega,HR.out,rfl⟩
 obtain⟨i,rfl,hi,j0,j6⟩:=hrel;subst j6;have j5:=hid (Q19 (B:=1001) i (by omega));by_cases j4:i<l.length
 ·have j8:(i:Int)<(l.length:Int):=by omega
  rw[qC j4,List.any_cons]at j0;obtain⟨g,o,rfl,j3⟩:=HC.out i j4;have c1:=j3;generalize l[i]=li at j0 c1;cases hq:(li==n)
  ·rw[hq,qDj]at j0;have j1:=hid j0;clear j3 j0;go_wp2;go_roundw
   case rel=>exact⟨i+1,by go_num,by omega,j1.out,by first|rfl|trivial⟩
   exact j5.out
  rw[hq,Bool.true_or]at j0;have j1:=hid j0;clear j3 j0;go_wp2;go_ret;exact⟨z0w j1.out,rfl⟩
 have j7:i=l.length:=by omega
 have j9:¬(i:Int)<(l.length:Int):=by omega
 rw[j7,qCy]at j0;have j1:=hid j0;clear j0;go_wp2;go_ret;exact⟨z0w (by rw[← j1.out];rfl),rfl⟩
def Q1z(R:Int)(l:List Int):Bool:=l.all fun k=>decide (0<=k)&&decide (k<R)
def Q49(toks:List Tk)(n:Int)(len:Nat):Int:=if n<0 then len else match toks[n.toNat]? with
 |some t=>t.a
 |none=>len
theorem y7d(w:World)(v:Value)(toks:List Tk)(n:Int)(s:ByteArray)(h:Q43 w v toks)(hl:toks.length<=1000) :
  Calls Tryz.prog 17 #[v,.int .i64 n,.string s] w fun e w'=>e=.returned (.int .i64 (Q49 toks n s.size))/\Q0a w w':=by
 obtain⟨aa,ca,j1⟩:=z0c h.own;subst j1;have HT:=hid h;clear h;by_cases h0:n<0
 ·have e0:Q49 toks n s.size=s.size:=by unfold Q49;rw[qAb h0]
  rw[e0];clear e0;go_enter Tryz.func17,Tryz.ntmps17
  go_wp2;go_ret;exact⟨rfl,mRf _ w⟩
 obtain⟨k,rfl⟩:∃k:Nat,n=k:=⟨n.toNat,by omega⟩;by_cases hk:k<toks.length
 ·have j0:(k:Int)<(toks.length:Int):=by omega
  have e0:Q49 toks k s.size=toks[k].a:=by unfold Q49;rw[qAa h0,qAo,qE hk]
  rw[e0];obtain⟨g,c',hg⟩:=Joins.ownsRow_form HT.own (by omega);rw[qI]at hg;obtain⟨rfl,_,rfl⟩:=hg;have c1:w.cell? ⟨g,k*3+1,none⟩=some (.int .i64 toks[k].a):=HT.cell k 1 hk (by omega);generalize toks[k].a=ta at c1;clear e0;go_enter Tryz.func17,Tryz.ntmps17
  go_wp2;go_ret;exact⟨rfl,mRf _ w⟩
 have j0:¬(k:Int)<(toks.length:Int):=by omega
 have e0:Q49 toks k s.size=s.size:=by unfold Q49;rw[qAa h0,qAo,qN (by omega)]
 rw[e0];clear e0;go_enter Tryz.func17,Tryz.ntmps17
 go_wp2;go_ret;exact⟨rfl,mRf _ w⟩
theorem z9j(w:World)(v:Value)(toks:List Tk)(h:Q43 w v toks)(hl:toks.length<=1000) :
  Calls Tryz.prog 15 #[v] w fun e w'=>∃v',e=.returned v'/\Q0a w w'/\IntOwn w' w.heap.size v' (toks.map Tk.r):=by
 obtain⟨i0,jf,jk,jl,jm⟩:=infoI';obtain⟨aa,ca,jj⟩:=z0c h.own;subst jj;have HT:=hid h;clear h;go_enter Tryz.func15,Tryz.ntmps15
 go_wp2;go_loopw [3,5,8] (fun x3 _ x5 wr=>∃(i:Nat),x5=.int .i64 i/\i<=toks.length/\Q0a w wr/\IntOwn wr w.heap.size x3 ((toks.take i).map Tk.r))
   (fun _ _ x _=>1001-(intOf x).toNat)
 case atStart=>exact⟨0,rfl,by omega,mRf _ w,qAh _ _ _ _⟩
 obtain⟨i,rfl,hi,j4,j2⟩:=hrel;have j5:=hid j4;have jb:=hid (Q19 (B:=1001) i (by omega));have jd:Hid (i=toks.length->toks.take i=toks):=fun e=>by rw[e,qAw]
 have je:Hid (∀j3:i<toks.length,(toks.take (i+1)).map Tk.r=(toks.take i).map Tk.r++[toks[i].r]):=fun j3=>by rw[Q6e j3,qBp];rfl
 have jh:((toks.take i).map Tk.r).length<=1000:=by simp;omega
 generalize hy:(toks.take i).map Tk.r=ys at *;have HY:=hid hy;have HO:=hid j2;obtain⟨ro,rc,ji⟩:=z0c j2;subst ji;clear j2 hy;by_cases j3:i<toks.length
 ·have jn:(i:Int)<(toks.length:Int):=by omega
  obtain⟨g,c',hg⟩:=Joins.ownsRow_form HT.own (by omega);rw[qI]at hg;obtain⟨rfl,_,rfl⟩:=hg;have r1:=(HT.fresh j4).range i j3;have j7:=je.out j3;generalize toks[i]=tk at r1 j7;obtain⟨tr,ta,tb⟩:=tk;have R1:=hid r1;have j6:=hid j7;clear r1 j7 j4;go_wp2_with (first
   |(refine qAe rfl 63 _ rfl g (i*3) rfl [.int .i64 tr,.int .i64 ta,.int .i64 tb] _ R1.out qFy rfl szTo ?_)
   |(at_builtin;refine z0f _ rfl _ _ 24 rfl w.heap.size 3 i0 _ 1 8 qDq jf jk jl jm rfl (by decide) _ _ _ rfl ((HO.alloc _).alloc _) ⟨wr.heap.size+1,0,none⟩ 1 1 [.int .i64 tr] rfl rfl (z13 rfl) (by intro u hu;simp at hu;subst hu;rfl) (by unfold maxLen;omega) (by omega) (by have h3:=j5.size;simp;omega) ?_))
  intro v' w5 j0 j1 j8;have jc:=hid j0;have ja:Hid (Q0a w w5):=((j5.alloc _).alloc _).grown j1 (fun k hk j3=>by have:=(HO.lt k hk).1;omega);obtain⟨jq,jp,j9⟩:=z0c j0;subst j9;clear j0 j1 j8;go_wp2;go_roundw
  case rel =>
   refine⟨i+1,by go_num,by omega,ja.out,?_⟩;rw[j6.out];show World.ownsRow _ _ _ _ _ (ys++[tr]).length _;rw[qP,qAj];have:=jc.out;simpa [Q9p]using this
  exact jb.out
 have jg:i=toks.length:=by omega
 have jo:¬(i:Int)<(toks.length:Int):=by omega
 have hE:=jd.out jg;clear j4;go_wp2;go_ret;refine⟨_,rfl,j5.out,?_⟩;rw[← hE,HY.out];exact HO.out
def gdA(fp:Value)(L:List Int):Array Value:=(fp::Q9p L).toArray
theorem x99{fp:Value}{L:List Int}{j:Nat}(h:j<L.length):(gdA fp L)[1+j]? = some (.int .i64 (L.getD j 0)):=by
 unfold gdA;rw[qDp,Nat.add_comm,qFu,qBt,qE h];simp[h]
theorem x0c(w:World)(gb:Nat)(fp:Value)(L:List Int)(hL:L.length=72)(hb:w.heap[gb]? = some (.cells (gdA fp L) 145 (0,0)))(n t:Nat)(hn:n<8)(ht:t<9) :
  Calls Tryz.prog 68 #[Q3c gb,.int .i64 n,.int .i64 t] w fun e w'=>e=.returned (.int .i64 (L.getD (n*9+t) 0))/\w'=w:=by
 have c1:w.cell? ⟨gb,1+n*9+t,none⟩=some (.int .i64 (L.getD (n*9+t) 0)):=by
  rw[Q0b hb,qDm,x99 (by omega)]
 generalize L.getD (n*9+t) 0=V at c1;have h1:(n:Int)<8:=by omega
 have h2:(t:Int)<9:=by omega
 clear hb hL;go_enter Tryz.func68,Tryz.ntmps68
 go_wp2;go_ret;exact⟨rfl,rfl⟩
def ldY(v:Value):Sem Value:=Instr.loadAt 93 v
theorem y8y(v:Value):Instr.loadAt 93 v=ldY v:=rfl
theorem x3n{w:World}{g o:Nat}{h:Bool}{n:Int}(hr:w.rangeAt g o [.bool h,.int .i64 n]):(ldY (.pointer (some ⟨g,o,none⟩))).run Tryz.prog w=.ok (.agg #[.bool h,.int .i64 n]) w :=
 qFo w g o _ _ _ hr qCf rfl szSy2
attribute [local go_sem ↓] y8y
attribute [local go_sem ↓] z17
theorem x68(w:World)(b B:Nat)(R H:Int)(vp vg vk vs:Value)(k:List Sy)(st:List St)(ps:List PV)(i:Nat)(h:GA w b B R H vp vg vk vs k st)(hp:Q2e w B vp ps)(hi:i<ps.length)(hps:ps.length<=100)
  (hst:st.length<=1000000000000) (hk:k.length<=100000000000) (hsy:ps[i].pr.syms.length<=6) (hB:B<=w.heap.size) :
  Calls Tryz.prog 69 #[Q3c b,.int .i64 i] w fun e w'=>e=.returned (.tuple #[])/\∃vk' vs',GA w' b B R H vp vg vk' vs' (ps[i].pr.syms++k) (st++[⟨false,i⟩])/\UpB B w w':=by
 generalize hsyE:ps[i].pr.syms=sy at hsy ⊢;have jv:=hid hsyE;clear hsyE;obtain⟨is,k8,kl,km,kn⟩:=infoSt';obtain⟨iy,k9,ko,kp,kq⟩:=infoSy';obtain⟨pa,pc,ki⟩:=z0c hp.row.own;subst ki;obtain⟨sa,sc,kj⟩:=z0c h.ss;subst kj;obtain⟨gp,j5,j9⟩:=Joins.ownsRow_form hp.row.own (by omega);rw[qI]at j9;obtain⟨rfl,_,rfl⟩:=j9;have k2:=h.cell 2;have k5:=h.cell 5;simp at k2 k5;have z5:=h.frozen 5;have kv:(i:Int)<(ps.length:Int):=by omega
 have kw:(i:Int)<=127:=by omega
 have kx:¬(ps.length<=i):=by omega
 have ky:¬((i:Int)<0):=by omega
 have HG:=hid h;have HP:=hid hp;have kt:=h.lt;have HO:=hid h.ss;clear h hp;go_enter Tryz.func69,Tryz.ntmps69
 go_wp2_with (first
  |(at_builtin;refine z0f _ rfl _ _ 95 rfl B 158 is _ 2 2 Tryz.underlying95 k8 kl km kn rfl (by decide) _ _ _ rfl (HO.alloc _) ⟨w.heap.size,0,none⟩ 1 1 [.bool false,.int .i8 i] rfl rfl (z0m rfl) (by intro u hu;simp at hu;rcases hu with rfl|rfl<;>rfl) (by unfold maxLen;omega) (by omega) (by simp;omega) ?_))
 intro v' w5 j1 j0 j3;obtain⟨jl,jm,jc⟩:=z0c j1;subst jc;have G5:=HG.grown5 ((mRf _ w).alloc _) j0;have f5:=Q0f G5 5;have g5:=Q0b G5 5;simp at g5;obtain⟨G1,U1⟩:=HG.step (x:=⟨false,i⟩) ((mRf _ w).alloc _) j1 j0 (fun j hj=>by simpa using j3 j hj);generalize hWW:w5.setCell ⟨b,5,none⟩ (.slice jl (st.length+1) jm)=W1 at G1 U1;have jz:=hid hWW;have j8:=HP.kept hB U1 (fun j h1 h2=>by omega);have kr:=hid j8;have j2:=G1.cell 2;simp at j2;have cs:=j8.row.cell i 1 hi (by omega);have ja:=j8.syms ps[i] (by simp);rw[jv.out]at ja;have jh:=hid ja;have jo:=hid G1;have ji:=hid U1;have k3:=G1.lt;have k0:B<=W1.heap.size:=by have:=U1.size;omega
 simp[PV.cells]at cs;clear ja;generalize ps[i].vs=pvs at jh cs;obtain⟨x3,kk,kg,x0,kf,j7⟩:=jh.out;subst kg;have ju:=hid j7;clear j7 j1 j0 j3 G5 G1 U1 j8;go_wp2;clear hWW;go_loopw [5] (fun x5 wr=>∃(m:Nat) (q:Int) (vk':Value),x5=.int .i64 q/\q=(m:Int)-1/\m<=sy.length/\GA wr b B R H (.slice (some ⟨gp,0,none⟩) ps.length pc) vg vk' (.slice jl (st.length+1) jm) (sy.drop m++k) (st++[⟨false,i⟩])/\UpB B w wr)
   (fun x _=>(intOf x+1).toNat)
 case atStart=>exact⟨sy.length,_,vk,rfl,rfl,qR _,by rw[qCy];exact jo.out,ji.out⟩
 clear j2 cs k3 k0 jz f5 z5 k5 k2;obtain⟨m,q,vk',rfl,hq,hm,hG,hU⟩:=hrel;by_cases kb:m=0
 ·have kd:q=-1:=by omega
  subst kd;subst kb;have jr:=hid hG;have jx:=hid hU;clear hG hU hq;go_wp2;exact qFf (qDe rfl _ _ _) rfl ⟨rfl,vk',_,jr.out,jx.out⟩
 obtain⟨m',rfl⟩:∃m',m=m'+1:=⟨m-1,by omega⟩;have ke:q=(m':Int):=by omega
 clear hq;subst ke;have jj:m'<sy.length:=by omega
 have kz:(m':Int)<(sy.length:Int):=by omega
 have js:Hid (((m':Int)-1+1).toNat<((m':Int)+1).toNat):=by unfold Hid;omega
 have je:Hid (sy.drop m'=sy[m']::sy.drop (m'+1)):=qC jj;obtain⟨g,o,rfl,ku,jk⟩:=ju.out m' jj;have j4:wr.rangeAt g (o+m'*2) (sy[m']).cells:=z0t jk (by
  rw[hU.block g (by omega) (by omega)];exact(ji.block g (by omega) (by omega)).symm)
 generalize sy[m']=s at j4 je;obtain⟨sh,sn⟩:=s;have l1:(ldY (.pointer (some ⟨g,o+m'*2,none⟩))).run Tryz.prog wr=_:=x3n j4;have l2:(ldY (.pointer (some ⟨g,o+m'*2,none⟩))).run Tryz.prog wr.drew=_:=x3n (w:=wr.drew) (z0t j4 rfl);have k1:(sy.drop (m'+1)++k).length<=100000000006:=by simp;omega
 have jd:Hid (∀x:Sy,x::(sy.drop (m'+1)++k)=(x::sy.drop (m'+1))++k):=fun x=>rfl;generalize sy.drop (m'+1)++k=K at hG k1 jd;have j6:=hG.ks;unfold SyOwn at j6;rw[qEr]at j6;obtain⟨ka,kc,kh⟩:=z0c j6;subst kh;have k4:=hG.cell 4;have z4:=hG.frozen 4;simp at k4;have x2:=hG.lt;have x1:B<=wr.heap.size:=by have:=hU.size;omega
 have jf:=hid hG;have jy:=hid hU;have jg:=hid j6;clear hG hU j6 jk j4;go_wp2;have FW:Hid (∀o:Obj,Q0a wr (wr.alloc o).drew):=fun o=>((mRf _ wr).alloc o).drew;obtain⟨v',w2,jb,j1,j0,j3⟩:=z24 (P:=Tryz.prog) (wr.alloc (.cells #[.bool sh,.int .i64 sn] 93)).drew B 83 83 93 iy _ 2 16 Tryz.underlying83 k9 ko kp kq rfl (by decide) (.slice ka K.length kc) K.length (Q0y Sy.cells K.reverse) (z0d jg.out (fun g hg=>(FW.out _).block g (jg.lt g hg).2 id)) ⟨wr.heap.size,0,none⟩ 1 1 [.bool sh,.int .i64 sn] rfl (z0m rfl) (by intro u hu;simp at hu;rcases hu with rfl|rfl<;>rfl) (by unfold maxLen;omega) (by omega) (by simp[World.drew];omega);have HB:=jf.grown4 (FW.out _) j0;have k6:w2.cell? ⟨b,4,none⟩=some (.slice ka K.length kc):=(Q0b HB 4);have k7:=Q0f HB 4;have jt:=hid j1;have jp:=hid j0;have jn:=hid j3;obtain⟨a',j5,j9⟩:=z0c j1;clear j1 j0 j3 HB;subst j9;go_region;all_goals
  obtain⟨G3,U3⟩:=jf.push (x:=⟨sh,sn⟩) (FW.out _) (by rw[qEr];exact jt.out) jp.out jn.out;generalize hWW:w2.setCell _ _=W3 at G3 U3 ⊢;have jq:=hid G3;have jw:=hid U3;clear G3 U3 hWW k6 k7 k4 z4 l1 l2 jb;go_wp2;go_roundw
  case rel =>
   refine⟨m',(m':Int)-1,.slice a' (K.length+1) j5,rfl,rfl,by omega,?_,Mod.trans jy.out jw.out⟩;rw[je.out,← jd.out];exact jq.out
  exact js.out
section
variable {α:Type}{cells:α->List Value}{k:Nat}
theorem y4f{l:List α}(hw:∀x,(cells x).length=k)(hk0:0<k){x:α}{i:Nat}(hi:i<l.length)(j:Nat) :
  (Q0y cells (l.set i x))[j]? = if i*k<=j/\j<i*k+k then(cells x)[j-i*k]? else(Q0y cells l)[j]? := by
 have l1:=z25 cells k (xs:=l) (fun x _=>hw x);have l2:=z25 cells k (xs:=l.set i x) (fun x _=>hw x);rw[qBr]at l2;have j2:i*k+k<=l.length*k:=by
  have:(i+1)*k<=l.length*k:=qCr k hi;rw[qFc,Nat.one_mul]at this;exact this
 by_cases hj:j<l.length*k
 ·have hq:j / k<l.length:=Nat.div_lt_of_lt_mul (by rw[Nat.mul_comm];exact hj);have hr:j % k<k:=Nat.mod_lt _ hk0;have e:j / k*k+j % k=j:=by rw[Nat.mul_comm];exact Nat.div_add_mod j k
  have a1:=z5w cells k (xs:=l) (fun x _=>hw x) (j / k) (j % k) hq hr;have a2:=z5w cells k (xs:=l.set i x) (fun x _=>hw x) (j / k) (j % k) (by simpa using hq) hr;rw[e]at a1 a2;rw[a1,a2,List.getElem_set];by_cases j0:i=j / k
  ·rw[qAb j0,qAb ⟨by rw[j0];omega,by rw[j0];omega⟩];congr 1;rw[j0];omega
  rw[qAa j0,qAa];rintro⟨h1,h2⟩;apply j0;have hd:j=k*i+(j-i*k):=by rw[Nat.mul_comm k i];omega
  have j1:j-i*k<k:=by omega
  rw[hd,Nat.mul_add_div hk0,Nat.div_eq_of_lt j1];omega
 rw[qN (by omega),qAa (by omega),qN (by omega)]
theorem v03{w:World}{B g n cap:Nat}{e:TypeId}{l:List α}(hw:∀x,(cells x).length=k)(hk0:0<k)(h:w.ownsRow B e k (.slice (some ⟨g,0,none⟩) n cap) l.length (Q0y cells l)){i:Nat}(hi:i<l.length)(x:α) :
  (w.setCells g (i*k) (cells x)).ownsRow B e k (.slice (some ⟨g,0,none⟩) n cap) (l.set i x).length (Q0y cells (l.set i x)):=by
 have l2:=z25 cells k (xs:=l.set i x) (fun x _=>hw x);have j4:i*k+k<=l.length*k:=by
  have:(i+1)*k<=l.length*k:=qCr k hi;rw[qFc,Nat.one_mul]at this;exact this
 obtain⟨h1,h2⟩:=h;refine⟨l2,?_⟩;rcases h2 with⟨h2,_⟩|⟨g',j0,j1,e1,e2,e3,e4,e5,e6,e7⟩
 ·cases h2
 rw[qI]at e1;obtain⟨eg,rfl,rfl⟩:=e1;have j2:g=g':=by simpa using eg
 subst j2;have j3:l.length*k<=cap*k:=qCr _ e4;refine .inr ⟨g,cap,Q5a j1 (i*k) (cells x),by rw[qBr],e2,z0q _ _ _ _ _ _ _ e3,by rw[qBr];exact e4,e5,by rw[z55];exact e6,?_⟩;apply qEd;intro j;rw[y4f hw hk0 hi,← e7,qBr];by_cases hj:j<l.length*k
 ·rw[qDc hj,qDc hj,qEk,qEk,y0a _ _ _ _ (by rw[hw];omega),hw];simp
 rw[qN (by simp;omega),qAa (by omega),qN (by simp;omega)]
theorem x7g{w:World}{B g n cap:Nat}{e:TypeId}{l:List α}(hw:∀x,(cells x).length=k)(hk0:0<k)(h:w.ownsRow B e k (.slice (some ⟨g,0,none⟩) n cap) l.length (Q0y cells l)){i o:Nat}(hi:i<l.length)(ho:o<k)(v:Value)(x:α)
  (hx:cells x=(cells l[i]).set o v) :
  (w.setCell ⟨g,i*k+o,none⟩ v).ownsRow B e k (.slice (some ⟨g,0,none⟩) n cap) (l.set i x).length (Q0y cells (l.set i x)):=by
 have l2:=z25 cells k (xs:=l.set i x) (fun x _=>hw x);have j7:i*k+k<=l.length*k:=by
  have:(i+1)*k<=l.length*k:=qCr k hi;rw[qFc,Nat.one_mul]at this;exact this
 obtain⟨h1,h2⟩:=h;refine⟨l2,?_⟩;rcases h2 with⟨h2,_⟩|⟨g',j4,j0,e1,e2,e3,e4,e5,e6,e7⟩
 ·cases h2
 rw[qI]at e1;obtain⟨eg,rfl,rfl⟩:=e1;have j5:g=g':=by simpa using eg
 subst j5;have j6:l.length*k<=cap*k:=qCr _ e4;refine .inr ⟨g,cap,j0.setIfInBounds (i*k+o) v,by rw[qBr],e2,zhs e3 _ _,by rw[qBr];exact e4,e5,by simpa using e6,?_⟩;apply qEd;intro j;rw[y4f hw hk0 hi,qBr,hx];by_cases hj:j<l.length*k
 ·have hc:j0.toList[j]? = (Q0y cells l)[j]? := by rw[← e7,qDc hj]
  rw[qDc hj,qEk,qEx,← qEk,hc];by_cases j2:i*k<=j/\j<i*k+k
  ·rw[qAb j2,qCs];have j1:=z5w cells k (xs:=l) (fun x _=>hw x) i (j-i*k) hi (by omega);rw[show i*k+(j-i*k)=j by omega]at j1;by_cases j3:o=j-i*k
   ·rw[qAb (by omega),qAb j3,qAb (by omega),qAb (by rw[hw];omega)]
   rw[qAa (by omega),qAa j3,j1]
  rw[qAa j2,qAa (by omega)]
 rw[qN (by simp;omega),qAa (by omega),qN];rw[z25 cells k (xs:=l) (fun x _=>hw x)];omega
end
theorem Nd.cells_len(n:Nd):n.cells.length=4:=rfl
theorem y0w(w:World)(R H:Int)(vp vn:Value)(ps:List PV)(l:List Nd)(i:Nat)(hp:Q2e w w.heap.size vp ps)(hn:NdsAt w vn l)(hi:i<l.length)(hps:ps.length<=1000) :
  Calls Tryz.prog 103 #[.agg #[.int .i64 R,.int .i64 H,vp],vn,.int .i64 i] w fun e w'=>e=.returned (.int .i64 (arF (Q0k ps) l[i]))/\Q0a w w':=by
 obtain⟨pa,pc,j5⟩:=z0c hp.row.own;subst j5;obtain⟨na,nc,j4⟩:=z0c hn.own;subst j4;obtain⟨g,c',hg⟩:=Joins.ownsRow_form hn.own (by omega);rw[qI]at hg;obtain⟨rfl,_,rfl⟩:=hg;have j6:=(hn.own.lt g rfl).2;have c0:w.cell? ⟨g,i*4,none⟩=some (.int .i64 l[i].prod):=hn.cell i 0 hi (by omega);have j7:(i:Int)<(l.length:Int):=by omega
 have j8:¬(l.length<=i):=by omega
 have HP:=hid hp;generalize hX:arF (Q0k ps) l[i]=X;unfold arF at hX;generalize l[i].prod=pr at c0 hX;clear hn hp;by_cases h0:pr<0
 ·rw[qAb h0]at hX;subst hX;go_enter Tryz.func103,Tryz.ntmps103
  go_wp2;go_ret;exact⟨rfl,(mRf _ w).alloc _⟩
 rw[qAa h0]at hX;obtain⟨q,rfl⟩:∃q:Nat,pr=q:=⟨pr.toNat,by omega⟩;rw[qAo]at hX;by_cases hq:q<ps.length
 ·have j2:(q:Int)<(ps.length:Int):=by omega
  have j3:¬(ps.length<=q):=by omega
  have e:(Q0k ps)[q]? = some ps[q].pr:=by simp[Q0k,hq]
  rw[e]at hX;simp only[]at hX;subst hX;obtain⟨gp,c2,j0⟩:=Joins.ownsRow_form HP.row.own (by omega);rw[qI]at j0;obtain⟨rfl,_,rfl⟩:=j0;have j9:=(HP.row.own.lt gp rfl).2;have c1:w.cell? ⟨gp,q*2+1,none⟩=some ps[q].vs:=HP.row.cell q 1 hq (by omega);obtain⟨sa,sc,j1,_⟩:=HP.syms ps[q] (by simp);rw[j1]at c1;clear j1 e;generalize ps[q].pr.syms.length=N at c1;go_enter Tryz.func103,Tryz.ntmps103
  go_wp2;go_ret;exact⟨rfl,(mRf _ w).alloc _⟩
 have j2:¬(q:Int)<(ps.length:Int):=by omega
 have j3:ps.length<=q:=by omega
 have e:(Q0k ps)[q]? = none:=by simp[Q0k];omega
 rw[e]at hX;simp only[]at hX;subst hX;clear e;go_enter Tryz.func103,Tryz.ntmps103
 go_wp2;go_ret;exact⟨rfl,(mRf _ w).alloc _⟩
theorem x08(w:World)(R H:Int)(vp vn:Value)(ps:List PV)(l:List Nd)(i:Nat)(S:List Nat)(hp:Q2e w w.heap.size vp ps)(hn:NdsAt w vn l)(hi:i<l.length)(hps:ps.length<=1000)(hll:l.length<=1000000000000)
  (hS:S.length+i+1=l.length) (hz:∀(j d:Nat),S[j]? = some d->∃x:Nd,l[i+1+j]? = some x/\x.size=(d:Int)) (hb:∀(j d:Nat),S[j]? = some d->1<=d/\j+d<=S.length) (har:arF (Q0k ps) l[i]<=1000) :
  Calls Tryz.prog 70 #[.agg #[.int .i64 R,.int .i64 H,vp],vn,.int .i64 i] w fun e w'=>e=.returned (.int .i64 (szL S (arF (Q0k ps) l[i]) 1))/\Q0a w w':=by
 have CO:=hid (fun W (hW:Q0a w W)=>y0w W R H vp vn ps l i ((hp.kept (qR _) hW (fun _ _ x=>x)).up hW.size) (hn.fresh hW) hi hps);obtain⟨pa,pc,jg⟩:=z0c hp.row.own;subst jg;obtain⟨na,nc,jf⟩:=z0c hn.own;subst jf;obtain⟨g,c',hg⟩:=Joins.ownsRow_form hn.own (by omega);rw[qI]at hg;obtain⟨rfl,_,rfl⟩:=hg;have HN:=hid hn;have HZ:=hid hz;have j9:=hid hb;have jc:=hid hS;generalize arF (Q0k ps) l[i]=A at CO har;generalize hRES:szL S A 1=RES;have j4:=hid hRES;have hT:(w.alloc (.cells #[.int .i64 R,.int .i64 H,.slice pa ps.length pc] 42 (0,0))).heap[w.heap.size]? = _:=z0a _ _;have t0:=Q0b hT 0;have t1:=Q0b hT 1;have t2:=Q0b hT 2;simp at t0 t1 t2;clear hp hn hz hb hS hRES hT;go_enter Tryz.func70,Tryz.ntmps70
 go_wp2_with (first
  |(go_at_call 103;refine(CO.out _ ((mRf _ w).alloc _)).mono ?_;rintro e w1⟨rfl,j1⟩))
 have j3:Hid (Q0a w w1):=Mod.trans ((mRf _ w).alloc _) j1;clear j1 t0 t1 t2;go_loopw [7,8] (fun x7 x8 wr=>∃(z f:Nat),x7=.int .i64 z/\x8=.int .i64 f/\szL S f z=RES/\1<=z/\z<=S.length+1/\f<=1000/\wr=w1)
   (fun _ x _=>(intOf x).toNat)
 case atStart=>exact⟨1,A,rfl,rfl,j4.out,by omega,by omega,har,rfl⟩
 obtain⟨z,f,rfl,rfl,j0,jl,jm,hf,jh⟩:=hrel;subst jh;have j5:=jc.out;have ji:S.length+i<=1000000000000:=by omega
 by_cases je:f=0
 ·subst je;have hr:z=RES:=j0;have HR:=hid hr;clear j0 hr j5;go_wp2;go_ret;exact⟨by rw[HR.out];rfl,j3.out⟩
 obtain⟨f',rfl⟩:∃f',f=f'+1:=⟨f-1,by omega⟩;unfold szL at j0;by_cases jk:z<=S.length
 ·have j6:z-1<S.length:=by omega
  rw[qE j6]at j0;simp only[]at j0;have jd:=j9.out (z-1) S[z-1] (qE j6);obtain⟨x,j2,j8⟩:=HZ.out (z-1) S[z-1] (qE j6);rw[show i+1+(z-1)=i+z by omega]at j2;have hl1:i+z<l.length:=by omega
  have c3:wr.cell? ⟨g,(i+z)*4+3,none⟩=some (.int .i64 (l[i+z]'hl1).size):=(HN.fresh j3.out).cell (i+z) 3 hl1 (by omega);rw[qE hl1,qO]at j2;rw[j2,j8]at c3;have j7:(i:Int)+(z:Int)<(l.length:Int):=by omega
  generalize S[z-1]=d at j0 jd c3;have j1:(0:Int)<(f':Int)+1:=by omega
  have jb:=hid j0;have ja:Hid ((intOf (Value.int .i64 (f':Int))).toNat<(intOf (Value.int .i64 ((f'+1:Nat):Int))).toNat):=by unfold Hid;simp[intOf]
  clear j0 j2 j8 j5;go_wp2;go_roundw
  case rel=>exact⟨z+d,f',by go_num,by go_num,jb.out,by omega,by omega,by omega,by first|rfl|trivial⟩
  exact ja.out
 have hn:S[z-1]? = none:=qN (by omega);rw[hn]at j0;have hr:z=RES:=j0;have HR:=hid hr;have j7:¬((i:Int)+(z:Int)<(l.length:Int)):=by omega
 have jj:decide ((i:Int)+(z:Int)<(l.length:Int))=false:=by simpa using j7
 have j1:(0:Int)<(f':Int)+1:=by omega
 clear j0 hr j5 hn;go_wp2;go_ret;exact⟨by rw[HR.out];rfl,j3.out⟩
def Q21:Nd:=⟨0,0,0,0⟩
def Q4s{α:Type}(z:α)(D:List α)(n i:Nat):List α:=D.take i++List.replicate (n-i) z
theorem x2t{α:Type}(z:α){D:List α}{n i:Nat}(h:D.length=n)(hi:i<=n):(Q4s z D n i).length=n:=by simp[Q4s];omega
theorem x2u{α:Type}(z:α){D:List α}{n i:Nat}(h:D.length=n)(hi:i<D.length):(Q4s z D n i).set i D[i]=Q4s z D n (i+1):=by
 unfold Q4s;rw[qFa _ _ (by simp;omega)];rw[show i-(D.take i).length=0 by simp;omega,show n-i=(n-(i+1))+1 by omega,List.replicate_succ,List.set_cons_zero,Q6e hi,qAs];rfl
def Q4m{α:Type}(D E:List α)(m:Nat):List α:=D.take m++E.drop m
theorem x3i{α:Type}{D E:List α}{n m:Nat}(h:D.length=n)(h2:E.length=n)(hm:m<=n):(Q4m D E m).length=n:=by simp[Q4m];omega
theorem x3j{α:Type}{D E:List α}{n m:Nat}(h:D.length=n)(h2:E.length=n)(hm:m<E.length):(Q4m D E (m+1)).set m E[m]=Q4m D E m:=by
 unfold Q4m;rw[Q6e (by omega),qAs,qFa _ _ (by simp;omega)];rw[show m-(D.take m).length=0 by simp;omega,List.singleton_append,List.set_cons_zero,← qC hm]
theorem x6r{α:Type}{D E:List α}{n m:Nat}(h:D.length=n)(h2:E.length=n)(hm:m<D.length):(Q4m D E (m+1))[m]? = some D[m]:=by
 unfold Q4m;rw[qAl (by simp;omega),qDc (by omega),qE hm]
theorem y62{α:Type}{D E:List α}{n m j:Nat}(h:D.length=n)(h2:E.length=n)(hm:m<=n):(Q4m D E m)[m+j]? = E[m+j]? := by
 unfold Q4m;rw[qAr (by simp;omega),qDx];congr 1;simp;omega
theorem x34(ps:List Pr)(st:List St){j:Nat}(hj:j<st.length){d:Nat}(hd:(Q08 ps (ndL st 0))[j]? = some d):∃x,(ndL st 0)[j]? = some x/\(Q1p ps st)[j]? = some (Q8g x d):=by
 have h1:j<(ndL st 0).length:=by rw[z69];exact hj
 refine⟨(ndL st 0)[j],qE h1,?_⟩;unfold Q1p;rw[List.getElem?_zipWith,qE h1,hd]
section
variable {α:Type}{cells:α->List Value}{k:Nat}
theorem z46{w:World}{B g n cap:Nat}{e:TypeId}{l:List α}(hw:∀x,(cells x).length=k)(h:w.ownsRow B e k (.slice (some ⟨g,0,none⟩) n cap) l.length (Q0y cells l)){i:Nat}(hi:i<l.length):w.there g (i*k) k:=by
 intro j hj;have hr:Q18 cells k e w (.slice (some ⟨g,0,none⟩) n cap) l:=⟨z0g h (qBq _),fun x _=>hw x⟩;have hc:=hr.cell i j hi hj;refine⟨by rw[hc];simp[hw,hj],?_⟩;obtain⟨_,h2⟩:=h;rcases h2 with⟨h2,_⟩|⟨g',j0,j2,e1,e2,e3,_⟩
 ·cases h2
 rw[qI]at e1;obtain⟨eg,_,_⟩:=e1;have j1:g=g':=by simpa using eg
 subst j1;exact Q0f e3 _
end
theorem infoNd:(Tryz.prog.info? 67).map (fun i=>(i.zero,i.size,i.bytes))=some (some (.agg #[.int .i64 0,.int .i64 0,.int .i64 0,.int .i64 0]),4,32):=by kernel_rfl
theorem Q9s:∃i,Tryz.prog.info? 67=some i/\i.zero=some (.agg #[.int .i64 0,.int .i64 0,.int .i64 0,.int .i64 0])/\i.size=4/\i.bytes=32:=nfoE infoNd
theorem x0l(n:Nat):(madeCells #[Value.int .i64 0,.int .i64 0,.int .i64 0,.int .i64 0] (n*4)).toList=Q0y Nd.cells (List.replicate n Q21):=by
 apply qEd;intro j;have hl:=z25 Nd.cells 4 (xs:=List.replicate n Q21) (fun x _=>rfl);rw[List.length_replicate]at hl;have hz:∀r,r<4->(#[Value.int .i64 0,.int .i64 0,.int .i64 0,.int .i64 0]:Array Value)[r]! = .int .i64 0:=by
  intro r hr;rcases r with _|_|_|_|r;all_goals first|rfl|omega
 by_cases hj:j<n*4
 ·have hq:j / 4<n:=by omega
  have hr:j % 4<4:=Nat.mod_lt _ (by omega);have a1:=z5w Nd.cells 4 (xs:=List.replicate n Q21) (fun x _=>rfl) (j / 4) (j % 4) (by simpa using hq) hr;rw[show j / 4*4+j % 4=j by omega]at a1;rw[a1,List.getElem_replicate];unfold madeCells;simp only[Array.toList_map,qBt,Array.toList_range,qFp hj,qDw];have e:(#[Value.int .i64 0,.int .i64 0,.int .i64 0,.int .i64 0]:Array Value).size=4:=rfl;rw[e,hz _ hr];generalize j % 4=r at hr;rcases r with _|_|_|_|r;all_goals first|rfl|omega
 rw[qN (by simp[madeCells];omega),qN (by omega)]
def stN(p v:Value):Sem Unit:=Instr.storeAt 67 p v
theorem x74(p v:Value):Instr.storeAt 67 p v=stN p v:=rfl
theorem x85(a b c d:Int):(#[Value.int .i64 a,.int .i64 b,.int .i64 c,.int .i64 d]:Array Value).all (·.oneCell')=true :=
 qCq (cs:=[.int .i64 a,.int .i64 b,.int .i64 c,.int .i64 d]) (by intro v hv;simp only[qBu,qEi,or_false]at hv;rcases hv with rfl|rfl|rfl|rfl<;>rfl)
theorem szStp:(Tryz.prog.info? 158).map (·.size)=some 2:=by kernel_rfl
attribute [local go_sem ↓] x74
theorem y3o(w:World)(R H:Int)(vp vs:Value)(ps:List PV)(st:List St)(hp:Q2e w w.heap.size vp ps)(hst:Q18 St.cells 2 158 w vs st)(hnum:∀s∈st,0<=s.num/\s.num<=127)(hl:st.length<=1000000000000)
  (hps:ps.length<=1000) (har:∀p∈ps,p.pr.syms.length<=1000) :
  Calls Tryz.prog 39 #[.agg #[.int .i64 R,.int .i64 H,vp],vs] w fun e w'=>∃v,e=.returned v/\Q0a w w'/\Q2x w' w.heap.size v (Q1p (Q0k ps) st):=by
 obtain⟨i0,ks,x4,x5,x7⟩:=Q9s;obtain⟨pa,pc,x0⟩:=z0c hp.row.own;subst x0;obtain⟨sa,sc,x1⟩:=z0c hst.own;subst x1;have HP:=hid hp;have kd:=hid hst;have ko:=hid hnum;have kk:Hid (∀x:Nd,arF (Q0k ps) x<=1000):=fun x=>by
  unfold arF;split
  ·omega
  split
  ·rename_i p hq;obtain⟨y,hy,rfl⟩:=qBj.1 (qAi hq);exact har y hy
  omega
 have mk:∀w:World,(Instr.makeSlice 23 (.int .i64 st.length) (.int .i64 st.length)).run Tryz.prog w=.ok (.slice (some ⟨w.heap.size,0,none⟩) st.length st.length) (w.alloc (.cells (madeCells #[.int .i64 0,.int .i64 0,.int .i64 0,.int .i64 0] (st.length*4)) 67)):=fun w=>by
  have h:=run_make (P:=Tryz.prog) w 23 67 i0 _ Tryz.underlying23 ks x4 .i64 .i64 (st.length:Int) (st.length:Int) (by omega) (Int.le_refl _) (by rw[x7];omega) (by omega);rw[x5,qAo]at h;exact h
 have jq:=hid (x0l st.length);generalize madeCells #[Value.int .i64 0,.int .i64 0,.int .i64 0,.int .i64 0] (st.length*4)=MC at mk jq;clear hp hst hnum har;go_enter Tryz.func39,Tryz.ntmps39
 go_wp2;have j0:(ndL st 0).length=st.length:=z69 st 0;have js:=hid (fun(j d:Nat) (h:(Q08 (Q0k ps) (ndL st 0))[j]? = some d)=>y0d (Q0k ps) (ndL st 0) j d h);have k0:=hid (x48 (Q0k ps) (ndL st 0));have jm:=hid (z21 (Q0k ps) (ndL st 0));have jj:=hid (fun(j:Nat) (hj:j<st.length) (d:Nat)=>x34 (Q0k ps) st hj (d:=d));have jd:=z7b (Q0k ps) st;have jx:Hid (ndL (st.drop 0) 0=(ndL st 0).drop 0):=rfl;generalize ndL st 0=ND at j0 js k0 jm jj jx;generalize hSZ:Q08 (Q0k ps) ND=SZ at js k0 jm jj;generalize hNF:Q1p (Q0k ps) st=NF at jd jj;have kn:=hid hNF;clear hSZ hNF;have j9:=hid j0;have j2:=hid jd;have kf:Hid (Q0a w ((w.alloc (.cells #[.int .i64 R,.int .i64 H,.slice pa ps.length pc] 42 (0,0))).alloc (.cells MC 67 (0,0)))):=((mRf _ w).alloc _).alloc _;have ke:Hid (((w.alloc (.cells #[.int .i64 R,.int .i64 H,.slice pa ps.length pc] 42 (0,0))).alloc (.cells MC 67 (0,0))).heap[w.heap.size]? = some (.cells #[.int .i64 R,.int .i64 H,.slice pa ps.length pc] 42 (0,0))):=z0b (z0a _ _);have kb:Hid (Q2x ((w.alloc (.cells #[.int .i64 R,.int .i64 H,.slice pa ps.length pc] 42 (0,0))).alloc (.cells MC 67 (0,0))) w.heap.size (.slice (some ⟨w.heap.size+1,0,none⟩) st.length st.length) (Q4s Q21 ND st.length 0)):=by
  have hf:Q4s Q21 ND st.length 0=List.replicate st.length Q21:=by simp[Q4s]
  have jb:=z25 Nd.cells 4 (xs:=List.replicate st.length Q21) (fun x _=>rfl);rw[hf];refine⟨by rw[jb],.inr ⟨w.heap.size+1,st.length,MC,by simp,by omega,?_,by simp,by unfold maxLen;omega,?_,?_⟩⟩
  ·have:=z0a (w.alloc (.cells #[.int .i64 R,.int .i64 H,.slice pa ps.length pc] 42 (0,0))) (.cells MC 67 (0,0));simpa using this
  ·have:=qEn List.length jq.out;rw[jb]at this;simpa using this
  rw[jq.out,qDg (by rw[jb];exact qR _)]
 clear j0 jd;go_loopw [6,16] (fun x6 x16 wr=>∃(i c:Nat),x16=.int .i64 i/\x6=.int .i64 c/\i<=st.length/\c<=i/\ndL (st.drop i) c=ND.drop i/\Q0a w wr/\wr.heap[w.heap.size]? = some (.cells #[.int .i64 R,.int .i64 H,.slice pa ps.length pc] 42 (0,0))/\Q2x wr w.heap.size (.slice (some ⟨w.heap.size+1,0,none⟩) st.length st.length) (Q4s Q21 ND st.length i))
   (fun _ x _=>1000000000001-(intOf x).toNat)
 case atStart=>exact⟨0,0,rfl,rfl,by omega,by omega,jx.out,kf.out,ke.out,kb.out⟩
 clear mk jx kf ke kb jq;obtain⟨i,c,rfl,rfl,hi,hc,ja,jn,j8,j3⟩:=hrel;have k9:=hid (Q19 (B:=1000000000001) i (by omega));have jp:=hid jn;have k2:=hid j8;have jr:=hid j3;have xd:=z0j j8;have j0:=j9.out;have x9:=(j3.lt (w.heap.size+1) rfl).2;clear jn j8 j3;by_cases jh:i<st.length
 ·have xa:(i:Int)<(st.length:Int):=by omega
  obtain⟨g,c',hg⟩:=Joins.ownsRow_form kd.own (by omega);rw[qI]at hg;obtain⟨rfl,_,rfl⟩:=hg;have RG:=hid ((kd.fresh jp.out).range i jh);have ki:=ko.out st[i] (by simp);have k5:i<ND.length:=by omega
  rw[qC jh,qC k5]at ja;have jb:(Q4s Q21 ND st.length i).length=st.length:=x2t _ j0 hi;have x8:Hid (wr.there (w.heap.size+1) (i*4) 4):=z46 Nd.cells_len jr.out (by rw[jb];exact jh);have ka:=hid (fun(W:World) (h:Q2x W w.heap.size (.slice (some ⟨w.heap.size+1,0,none⟩) st.length st.length) (Q4s Q21 ND st.length i)) (x:Nd)=>v03 (k:=4) Nd.cells_len (by omega) h (i:=i) (by rw[jb];exact jh) x);have jy:Hid ((Q4s Q21 ND st.length i).set i ND[i]=Q4s Q21 ND st.length (i+1)):=x2u _ j0 k5;generalize ND[i]=nd at ja jy;generalize st[i]=s at ja RG ki;obtain⟨sl,sn⟩:=s;obtain⟨kv,kw⟩:=ki;dsimp only at kv kw;unfold ndL at ja;have ji:=hid jb;clear jb k5 j0;cases sl
  ·simp only[qF,qAz,qBe]at ja;obtain⟨j5,j6⟩:=ja;have jz:=hid j6;have jl:Hid (Q2x (wr.alloc (.cells #[.bool false,.int .i8 sn] 158 (0,0))) w.heap.size (.slice (some ⟨w.heap.size+1,0,none⟩) st.length st.length) (Q4s Q21 ND st.length i)):=jr.alloc _;have jc:Hid ((wr.alloc (.cells #[.bool false,.int .i8 sn] 158 (0,0))).there (w.heap.size+1) (i*4) 4):=z46 Nd.cells_len jl.out (by rw[ji.out];exact jh);have j1:=hid (ka.out _ jl.out ⟨sn,-1,c,0⟩);have j7:(Q4s Q21 ND st.length i).set i (⟨sn,-1,c,0⟩:Nd)=Q4s Q21 ND st.length (i+1):=by rw[j5];exact jy.out
   rw[j7]at j1;clear j7;obtain⟨Wx,j4⟩:∃Wx,Wx=(wr.alloc (.cells #[.bool false,.int .i8 sn] 158 (0,0))).setCells (w.heap.size+1) (i*4) (#[.int .i64 sn,.int .i64 (-1),.int .i64 c,.int .i64 0]:Array Value).toList:=⟨_,rfl⟩;have je:Hid (Q0a w Wx):=by rw[j4];exact Mod.setCells (fun h=>by omega) _ _ _ (jp.alloc _)
   have k1:Hid (Wx.heap[w.heap.size]? = some (.cells #[.int .i64 R,.int .i64 H,.slice pa ps.length pc] 42 (0,0))):=by
    rw[j4];exact(Mod.setCells (S:=fun k=>k=w.heap.size+1) (a:=wr) (fun _=>rfl) _ _ _ ((mRf _ wr).alloc _)).at k2.out (by omega)
   have jk:Hid (Q2x Wx w.heap.size (.slice (some ⟨w.heap.size+1,0,none⟩) st.length st.length) (Q4s Q21 ND st.length (i+1))):=by
    rw[j4];exact j1.out
   have s1:(stN (.pointer (some ⟨w.heap.size+1,i*4,none⟩)) (.agg #[.int .i64 sn,.int .i64 (-1),.int .i64 c,.int .i64 0])).run Tryz.prog (wr.alloc (.cells #[.bool false,.int .i8 sn] 158 (0,0)))=.ok () Wx:=by
    rw[j4];exact run_storeAt_mid _ (w.heap.size+1) (i*4) _ _ jc.out szNd (x85 sn (-1) c 0)
   clear j4;clear j1;clear j5 j6;go_wp2_with (first
    |(refine qAe rfl 158 _ rfl g (i*2) rfl [.bool false,.int .i8 sn] _ RG.out Tryz.underlying158 rfl szStp ?_))
   go_roundw
   case rel =>
    refine⟨i+1,c,by go_num,by go_num,by omega,by omega,jz.out,je.out,k1.out,jk.out⟩
   exact k9.out
  simp only[qBn,qBe]at ja;obtain⟨j5,j6⟩:=ja;have jz:=hid j6;have jl:Hid (Q2x (wr.alloc (.cells #[.bool true,.int .i8 sn] 158 (0,0))) w.heap.size (.slice (some ⟨w.heap.size+1,0,none⟩) st.length st.length) (Q4s Q21 ND st.length i)):=jr.alloc _;have jc:Hid ((wr.alloc (.cells #[.bool true,.int .i8 sn] 158 (0,0))).there (w.heap.size+1) (i*4) 4):=z46 Nd.cells_len jl.out (by rw[ji.out];exact jh);have j1:=hid (ka.out _ jl.out ⟨-1,sn,c,0⟩);have j7:(Q4s Q21 ND st.length i).set i (⟨-1,sn,c,0⟩:Nd)=Q4s Q21 ND st.length (i+1):=by rw[j5];exact jy.out
  rw[j7]at j1;clear j7;obtain⟨Wx,j4⟩:∃Wx,Wx=(wr.alloc (.cells #[.bool true,.int .i8 sn] 158 (0,0))).setCells (w.heap.size+1) (i*4) (#[.int .i64 (-1),.int .i64 sn,.int .i64 c,.int .i64 0]:Array Value).toList:=⟨_,rfl⟩;have je:Hid (Q0a w Wx):=by rw[j4];exact Mod.setCells (fun h=>by omega) _ _ _ (jp.alloc _)
  have k1:Hid (Wx.heap[w.heap.size]? = some (.cells #[.int .i64 R,.int .i64 H,.slice pa ps.length pc] 42 (0,0))):=by
   rw[j4];exact(Mod.setCells (S:=fun k=>k=w.heap.size+1) (a:=wr) (fun _=>rfl) _ _ _ ((mRf _ wr).alloc _)).at k2.out (by omega)
  have jk:Hid (Q2x Wx w.heap.size (.slice (some ⟨w.heap.size+1,0,none⟩) st.length st.length) (Q4s Q21 ND st.length (i+1))):=by
   rw[j4];exact j1.out
  have s1:(stN (.pointer (some ⟨w.heap.size+1,i*4,none⟩)) (.agg #[.int .i64 (-1),.int .i64 sn,.int .i64 c,.int .i64 0])).run Tryz.prog (wr.alloc (.cells #[.bool true,.int .i8 sn] 158 (0,0)))=.ok () Wx:=by
   rw[j4];exact run_storeAt_mid _ (w.heap.size+1) (i*4) _ _ jc.out szNd (x85 (-1) sn c 0)
  clear j4;clear j1;clear j5 j6;go_wp2_with (first
   |(refine qAe rfl 158 _ rfl g (i*2) rfl [.bool true,.int .i8 sn] _ RG.out Tryz.underlying158 rfl szStp ?_))
  go_roundw
  case rel =>
   refine⟨i+1,c+1,by go_num,by go_num,by omega,by omega,jz.out,je.out,k1.out,jk.out⟩
  exact k9.out
 have kg:i=st.length:=by omega
 have xb:¬(i:Int)<(st.length:Int):=by omega
 have kp:Hid (Q2x wr w.heap.size (.slice (some ⟨w.heap.size+1,0,none⟩) st.length st.length) (Q4m ND NF st.length)):=by
  have e:Q4s Q21 ND st.length i=Q4m ND NF st.length:=by
   unfold Q4s Q4m;rw[kg,qEm,List.replicate_zero,qAp (by rw[j2.out];exact qR _)]
  rw[← e];exact jr.out
 obtain⟨wa,x2⟩:∃wa,wa=wr:=⟨_,rfl⟩;subst x2;clear ja j0 kg;go_wp2;go_loopw [10] (fun x10 wr=>∃(m:Nat) (q:Int),x10=.int .i64 q/\q=(m:Int)-1/\m<=st.length/\Q0a w wr/\wr.heap[w.heap.size]? = some (.cells #[.int .i64 R,.int .i64 H,.slice pa ps.length pc] 42 (0,0))/\Q2x wr w.heap.size (.slice (some ⟨w.heap.size+1,0,none⟩) st.length st.length) (Q4m ND NF m))
   (fun x _=>(intOf x+1).toNat)
 case atStart=>exact⟨st.length,_,rfl,rfl,qR _,jp.out,k2.out,kp.out⟩
 obtain⟨m,q,rfl,hq,hm,jn,j8,j3⟩:=hrel;have jo:=hid jn;have kq:=hid j8;have jf:=hid j3;have kz:=z0j j8;have t0:=Q0b j8 0;have t1:=Q0b j8 1;have t2:=Q0b j8 2;simp at t0 t1 t2;clear jn j8 j3;by_cases ku:m=0
 ·have kx:q=-1:=by omega
  subst kx;subst ku;clear hq;go_wp2;go_ret;refine⟨_,rfl,jo.out,?_⟩;have e:Q4m ND NF 0=NF:=by simp[Q4m]
  have h:=jf.out;rw[e]at h;rw[kn.out];exact h
 obtain⟨m',rfl⟩:∃m',m=m'+1:=⟨m-1,by omega⟩;have ky:q=(m':Int):=by omega
 clear hq;subst ky;have ju:m'<st.length:=by omega
 have xc:(m':Int)<(st.length:Int):=by omega
 have km:Hid (((m':Int)-1+1).toNat<((m':Int)+1).toNat):=by unfold Hid;omega
 have k6:m'<ND.length:=by rw[j9.out];exact ju
 have kh:m'<NF.length:=by rw[j2.out];exact ju
 have k3:(Q4m ND NF (m'+1)).length=st.length:=x3i j9.out j2.out hm;have jg:m'<(Q4m ND NF (m'+1)).length:=by rw[k3];exact ju
 have jt:(Q4m ND NF (m'+1))[m']=ND[m']:=by
  have:=x6r j9.out j2.out k6 (E:=NF);rw[qE jg]at this;simpa using this
 have jv:=k0.out m' k6;obtain⟨x,k7,jw⟩:=jj.out m' ju _ jv;rw[qE k6,qO]at k7;have SO:Hid (∀W:World,Q0a wr W->Calls Tryz.prog 70 #[.agg #[.int .i64 R,.int .i64 H,.slice pa ps.length pc],.slice (some ⟨w.heap.size+1,0,none⟩) st.length st.length,.int .i64 m'] W fun e w'=>e=.returned (.int .i64 (szL (SZ.drop (m'+1)) (arF (Q0k ps) ND[m']) 1))/\Q0a W w'):=fun W hW=>by
  have h:=x08 W R H (.slice pa ps.length pc) (.slice (some ⟨w.heap.size+1,0,none⟩) st.length st.length) ps (Q4m ND NF (m'+1)) m' (SZ.drop (m'+1)) ((HP.kept (qR _) (jo.trans hW) (fun _ _ x=>x)).up (jo.trans hW).size) ⟨z0g (z0d jf.out (fun g hg=>hW.block g (jf.lt g hg).2 id)) (qBq _),fun _ _=>rfl⟩ jg hps (by rw[k3];exact hl)
   (by rw[k3,qCt,jm.out,j9.out];omega)
   (fun j d hd=>by
    rw[qDx]at hd;have kt:m'+1+j<st.length:=by
     have:=(qS hd).1;rw[jm.out,j9.out]at this;exact this
    obtain⟨y,xe,x3⟩:=jj.out (m'+1+j) kt d hd;refine⟨Q8g y d,?_,rfl⟩;rw[y62 j9.out j2.out hm,x3])
   (fun j d hd=>by
    rw[qDx]at hd;have:=js.out _ _ hd;rw[qCt,jm.out];omega)
   (by rw[jt];exact kk.out _)
  rw[jt]at h;exact h
 generalize szL (SZ.drop (m'+1)) (arF (Q0k ps) ND[m']) 1=z at SO jw jv;have xf:z<=1000000000000:=by
  have h1:=js.out _ _ jv;have h2:=j9.out;omega
 have kr:=z46 Nd.cells_len jf.out jg;have kc:=hid (fun(W:World) (h:Q2x W w.heap.size (.slice (some ⟨w.heap.size+1,0,none⟩) st.length st.length) (Q4m ND NF (m'+1)))=>x7g (k:=4) Nd.cells_len (by omega) h (i:=m') (o:=3) jg (by omega) (.int .i64 z) (Q8g ND[m'] z) (by rw[jt];rfl));have k8:Hid ((Q4m ND NF (m'+1)).set m' (Q8g ND[m'] z)=Q4m ND NF m'):=by
  have h:=x3j j9.out j2.out kh (D:=ND);have h2:NF[m']=Q8g ND[m'] z:=by
   rw[qE kh,qO]at jw;rw[jw,← k7]
  rw[h2]at h;exact h
 generalize Q8g ND[m'] z=nd at kc k8;clear k7 jw jv jt kr;have kl:Hid (∀W:World,Q0a wr W->Q2x W w.heap.size (.slice (some ⟨w.heap.size+1,0,none⟩) st.length st.length) (Q4m ND NF (m'+1))/\(∃V,W.cell? ⟨w.heap.size+1,m'*4+3,none⟩=some V)/\W.frozen? ⟨w.heap.size+1,m'*4+3,none⟩=false):=fun W hW=>by
  have h:=z0d jf.out (fun g hg=>hW.block g (jf.lt g hg).2 id);have hr:NdsAt W (.slice (some ⟨w.heap.size+1,0,none⟩) st.length st.length) (Q4m ND NF (m'+1)):=⟨z0g h (qBq _),fun x _=>rfl⟩;exact⟨h,⟨_,hr.cell m' 3 jg (by omega)⟩,(z46 Nd.cells_len h jg 3 (by omega)).2⟩
 go_wp2_with (first
  |(go_at_call 70;refine(SO.out _ (mRf _ wr)).mono ?_;rintro e w3⟨rfl,k4⟩;obtain⟨kj,⟨V3,c3⟩,z3⟩:=kl.out w3 k4;have jk:=hid kj;have je:=hid k4;clear kj k4))
 go_roundw
 case rel =>
  refine⟨m',(m':Int)-1,rfl,rfl,by omega,(jo.trans je.out).setCell (fun h=>by simp at h;omega) _,?_,?_⟩
  ·exact z0h (je.at kq.out id) (by simp)
  have h:=kc.out w3 jk.out;rw[k8.out]at h;exact h
 exact km.out
end Go.Proofs.YtbdpfmalabgmbaaGreat
