import Derived.Test.YtbdpfmalabgmbaaGreatRb5
import Derived.Test.YtbdpfmalabgmbaaGreatEb3
namespace Go.Proofs.YtbdpfmalabgmbaaGreat
open Go.RowKit
set_option maxRecDepth 99999
set_option maxHeartbeats 0
set_option linter.all false
theorem v3b{w:World}{base:Nat}{v:Value}{l:List Value}{e:TypeId}(h:w.ownsRow base e 1 v l.length l):SlAt w v l:=by
 rcases h.2 with⟨rfl,h0⟩|⟨g,cap,j0,rfl,_,_,hc,_⟩
 ·exact⟨none,0,by rw[h0],by omega,fun j hj=>by omega⟩
 refine⟨_,_,rfl,hc,fun j hj=>⟨g,0,rfl,?_⟩⟩;have:=h.cells (g:=g) rfl j l[j] (by simp[hj]);rwa [qDd]at this
theorem v2t{w:World}{b:Nat}{X:SP}{ps:List Pr}{R H:Nat}(h:SpecX w b X)(t:SpecTab X ps R H):Q3q w b R H (Q0e R ps):=by
 obtain⟨v0,v1,v2,v3,v4,sv,hS,hl⟩:=h;have hA:=hS.sp;have j1:(Q0e R ps).length=ps.length:=by simp[Q0e]
 have k0:=Q2f.cell hA 0;have k1:=Q2f.cell hA 1;have k2:=Q2f.cell hA 2;have k3:=Q2f.cell hA 3;have k4:=Q2f.cell hA 4;simp at k0 k1 k2 k3 k4;obtain⟨a0,c0,e0⟩:=z0c (hA.own 0 _ rfl);obtain⟨a1,c1,e1⟩:=z0c (hA.own 1 _ rfl);obtain⟨a2,c2,e2⟩:=z0c (hA.own 2 _ rfl);dsimp only at e0 e1 e2;rw[t.rules]at e0;rw[t.prods,← j1]at e1;rw[t.heads]at e2;subst e0 e1 e2;have hm:(Q0e R ps).map Prod.fst=X.head:=by rw[t.head];simp[Q0e]
 refine⟨a0,c0,a1,c1,a2,c2,v3,v4,sv,k0,k1,k2,k3,k4,?_,?_,by rw[hl,t.prods,j1],?_⟩
 ·rw[hm];exact IntOwn.at' (base:=b+1) (hA.own 3 _ rfl)
 ·exact v3b (hA.own 4 _ rfl)
 intro i v x h1 h2;have hi:i<ps.length:=by
  have:=(qS h2).1;omega
 have j2:i<X.prods.length:=by rw[t.prods];exact hi
 have hx:=hS.syms i v _ h1 (qE j2);have e:Q8q X X.prods[i]=x.2:=by
  have q:=qEn (fun l=>l[i]?) t.syms;rw[qBt,qE j2,qBt,qE hi]at q;simp only[qDw,qO]at q;have q2:x=(ps[i].head,ps[i].syms.map (Q0w R)):=by
   simp[Q0e,hi]at h2;exact h2.symm
  rw[q2];exact q
 have j0:X.prods[i].ln.syms.length=x.2.length:=by rw[← e];simp[Q8q]
 have j3:=hx.1;rw[e,j0]at j3;exact IntOwn.at' (base:=b+1) j3
theorem q_ok{s:ByteArray}(hc:Q0u s=(0,0))(hT:Q1d (Q0p (Q0c s).1) (Q0g (Q0c s).1).length (Q0j (Q0c s).1).length)(hR:(Q0g (Q0c s).1).length<=8) :
  QOk (Q0g (Q0c s).1).length (Q0j (Q0c s).1).length (Q0e (Q0g (Q0c s).1).length (Q0p (Q0c s).1)):=by
 obtain⟨c1,c2,c3,c4,c5⟩:=z2d hc;have j1:=(Q62 hc).places;obtain⟨n1,n2,n3⟩:=y34 (fun y hy=>(j1 y hy).1) c5;have j0:(Q0e (Q0g (Q0c s).1).length (Q0p (Q0c s).1)).length=(Q0p (Q0c s).1).length:=by simp[Q0e]
 refine⟨hR,n1,by omega,?_,y8e hT,fun x hx=>?_⟩
 ·rw[j0];unfold Q0p;rw[qAv];unfold Q4a at c4;rw[qBb]at c4;obtain⟨y,hy,j2⟩:=c4;exact List.length_pos_of_mem (qDi.2 ⟨hy,j2⟩)
 unfold Q0e at hx;rw[qBj]at hx;obtain⟨p,hp,rfl⟩:=hx;refine⟨by simpa using n3 p hp,fun c hc=>?_⟩;rw[qBj]at hc;obtain⟨y,hy,rfl⟩:=hc;exact z63 hT hp hy
structure Q8c(w:World)(B ab b R H:Nat)(q:List Q1)(gn:Nat)(vL:Value)(gs:List Nat):Prop where
 o:w.heap[ab]? = some (.cells #[.pointer (some ⟨b,0,none⟩),bsl gn H,vL] 169 (0,0))
 abB:B<=ab
 gnB:B<=gn
 n:Q1x w gn (Q4q (bs R) false q H)
 m:Q1v w B (R+1+H) vL gs (ldF R H (Q4q (bs R) false q H) q)
theorem Q1v.base{w:World}{B B' n:Nat}{v:Value}{gs:List Nat}{M:Mat}(h:Q1v w B n v gs M)(hb:B'<=B):Q1v w B' n v gs M :=
 ⟨z0g h.own hb,h.len,fun i g hi=>⟨qDa hb (h.blk i g hi).1,(h.blk i g hi).2⟩,h.inj,h.ne⟩
theorem Q8c.fresh{w w':World}{B ab b R H:Nat}{q:List Q1}{gn:Nat}{vL:Value}{gs:List Nat}(h:Q8c w B ab b R H q gn vL gs)(hf:Q0a w w'):Q8c w' B ab b R H q gn vL gs :=
 ⟨hf.at h.o id,h.abB,h.gnB,h.n.fresh hf,h.m.fresh hf⟩
def AllRet(w:World)(b R H:Nat)(q:List Q1)(e:Ending)(w':World):Prop:=∃ab gn vL gs,e=.returned (.pointer (some ⟨ab,0,none⟩))/\Q8c w' w.heap.size ab b R H q gn vL gs/\Q0a w w'
theorem x9t(w:World)(b R H:Nat)(q:List Q1)(hS:Q3q w b R H q)(hQ:QOk R H q)(hl:(Q4q (bs R) false q H).length=H) :
  Calls Tryz.prog 45 #[.pointer (some ⟨b,0,none⟩)] w fun e w'=>AllRet w b R H q e w':=by
 have DE:=hid (y6u w b R H q false hS hQ);have LE:=hid (fun(W:World) (hW:Q0a w W) (gn:Nat) (hn:Q1x W gn (Q4q (bs R) false q H))=>x3p W b R H gn q _ (hS.fresh hW) hQ hn hl);clear hS hQ hl;go_enter Tryz.func45,Tryz.ntmps45
 go_wp2_with (first
  |(go_at_call 75;refine(DE.out).mono ?_;rintro e w1⟨gn,hg,rfl,hB,hf⟩;have HB:=hid hB;have HF:=hid hf;have HG:=hid hg;clear hB hf hg)
  |(go_at_call 76;refine(LE.out _ HF.out gn HB.out).mono ?_;rintro e w2⟨vL,gs,rfl,hm,j1⟩;obtain⟨ao,cp,hv⟩:=z0c hm.own;subst hv;have HM:=hid hm;have j0:=hid j1;clear hm j1))
 go_ret;refine⟨_,gn,_,gs,rfl,⟨z0a _ _,?_,HG.out,?_,?_⟩,(HF.trans j0.out).alloc _⟩
 ·have h1:=HF.size;have h2:=j0.size;omega
 ·exact(HB.fresh j0.out).fresh ((mRf _ _).alloc _)
 exact((HM.base HF.size).fresh ((mRf _ _).alloc _))
def risL(l:List Bool):Nat->Nat->List Int->List Int
 |0,_,acc=>acc
 |f+1,i,acc=>risL l f (i+1) (if l.getD i false=true then acc++[(i:Int)] else acc)
def risF(l:List Bool):List Int:=risL l l.length 0 []
theorem y1y(l a:List Bool)(h:∀t,l.getD t false=a.getD t false):∀(f i:Nat),risL l f i (Q3s a i)=Q3s a (i+f)
 |0,i=>rfl
 |f+1,i=>by
  unfold risL;rw[h i];have e:(if a.getD i false=true then Q3s a i++[(i:Int)] else Q3s a i)=Q3s a (i+1):=by
   rw[Q3s]
  rw[e,y1y l a h f (i+1),show i+1+f=i+(f+1) by omega]
theorem y1j(a:List Bool)(n:Nat)(h:∀t,n<=t->a.getD t false=false):∀k,Q3s a (n+k)=Q3s a n
 |0=>rfl
 |k+1=>by
  rw[show n+(k+1)=(n+k)+1 by omega,Q3s,h (n+k) (by omega)];simp only[qF,qAz];exact y1j a n h k
theorem x06{l a:List Bool}(h:∀t,l.getD t false=a.getD t false)(hn:l.length<=9):risF l=Q3e a:=by
 unfold risF Q3e;have e:=y1y l a h l.length 0;rw[qBy]at e;rw[show([]:List Int)=Q3s a 0 from rfl,e];have m:=y1j a l.length (fun t ht=>by rw[← h t,qD,qN ht];rfl) (9-l.length);rw[show l.length+(9-l.length)=9 by omega]at m;exact m.symm
theorem v2p(l:List Bool)(n i:Nat)(acc:List Int)(h:i<n):risL l (n-i) i acc=risL l (n-(i+1)) (i+1) (if l.getD i false=true then acc++[(i:Int)] else acc):=by
 rw[show n-i=(n-(i+1))+1 by omega];rfl
def RisRet(w:World)(l:List Int)(e:Ending)(w':World):Prop:=∃v,e=.returned v/\IntOwn w' w.heap.size v l/\Q0a w w'
theorem y1z(w:World)(g n:Nat)(l:List Bool)(hB:Q1x w g l)(hl:l.length=n)(hn:n<=100) :
  Calls Tryz.prog 51 #[bsl g n] w fun e w'=>RisRet w (risF l) e w':=by
 obtain⟨i1,jc,jd,je,jf⟩:=Q6z;have HB:=hid hB;have HL:=hid hl;have hV:risL l n 0 []=risF l:=by unfold risF;rw[hl]
 generalize risF l=V at hV;have HV:=hid hV;clear hB hl hV;go_enter Tryz.func51,Tryz.ntmps51
 go_wp2;go_loopw [3,4] (fun x3 x4 wr=>∃(i:Nat) (j1:List Int),x4=.int .i64 i/\i<=n/\j1.length<=i/\wr.ownsRow w.heap.size 3 1 x3 j1.length (Q9p j1)/\Q0a w wr/\risL l (n-i) i j1=V)
   (fun _ x _=>1001-(intOf x).toNat)
 case atStart=>exact⟨0,[],rfl,by omega,by simp,qAh _ _ _ _,mRf _ _,HV.out⟩
 obtain⟨i,j1,rfl,hi,jg,j3,j6,j0⟩:=hrel;have j9:=hid (Q19 (B:=1001) i (by omega));have HF:=hid j6;have HO:=hid j3;obtain⟨ao,cp,hv⟩:=z0c j3;subst hv;have jh:w.heap.size<=wr.heap.size:=j6.size;by_cases j8:i<n
 ·have k1:(i:Int)<(n:Int):=by omega
  rw[v2p _ _ _ _ j8]at j0;have c1:=(HB.fresh j6).cell (j:=i) (by rw[HL.out];exact j8);generalize l.getD i false=lb at j0 c1;have j2:=hid j0;clear j0 j3 j6;cases lb
  ·go_wp2;go_roundw
   case rel=>exact⟨i+1,j1,by go_num,by omega,by omega,HO.out,HF.out,j2.out⟩
   exact j9.out
  go_wp2_with (first
   |(at_builtin;refine z0f _ rfl _ _ 24 rfl w.heap.size 3 i1 _ 1 8 qDq jc jd je jf rfl (by decide) (.slice ao j1.length cp) j1.length (Q9p j1) rfl (qFq HO.out _) ⟨wr.heap.size,0,none⟩ 1 1 [.int .i64 i] rfl rfl (z0m rfl) (by intro u hu;simp at hu;subst hu;rfl) (by unfold maxLen;omega) (by omega) (by simp;omega) ?_;intro v9 w4 j5 j4 j7;have jb:=hid j5;have ja:=hid (Mod.grown (S:=fun _=>False) (HF.alloc _) j4 (fun k hk j8=>by have:=(HO.lt k hk).1;omega));clear j5 j4 j7))
  go_roundw
  case rel=>exact⟨i+1,j1++[(i:Int)],by go_num,by omega,by simp;omega,by have:=jb.out;simpa [Q9p]using this,ja.out,j2.out⟩
  exact j9.out
 have k1:¬(i:Int)<(n:Int):=by omega
 have hz:n-i=0:=by omega
 rw[hz]at j0;have j2:=hid j0;clear j0 j3 j6 hz;go_wp2;go_ret;refine⟨_,rfl,?_,HF.out⟩;have:=j2.out;unfold risL at this;rw[← this];exact HO.out
structure Q7s(lns:List Ln)(rs:List ZLV):Prop where
 len:lns.length=rs.length
 at':∀(k:Nat) (x:Ln) (z:ZLV),lns[k]? = some x->rs[k]? = some z->z.ln.skip=x.skip/\∃L,Q8u z.ln.pat L/\z.ln.pat.size<=1000/\∀t,Q31 x t=true↔L (Q36 t)
def CutRet(R:List Tk × Int)(w:World)(e:Ending)(w':World):Prop :=
 ∃v,e=.returned (.tuple #[v,.int .i64 R.2])/\Q0a w w'/\w'.ownsRow w.heap.size 63 3 v R.1.length (Q0y Tk.cells R.1)
theorem x8b(gs:List Bool)(a r:Nat)(b:Int × Int):Q8r gs a r b 1=b:=by
 unfold Q8r;rw[qAa (fun q=>absurd q.1 (qBw _))];rfl
theorem v2y(gs:List Bool)(a r:Nat)(b:Int × Int)(n:Nat):Q8r gs a r b (n+1)=if 0<n/\gs.getD n false=true/\(Q8r gs a r b n).2<(a:Int)+n then((r:Int),(a:Int)+n) else Q8r gs a r b n:=rfl
theorem x8n(w:World)(b:Nat)(X:SP)(v0 v1 v2 v3 v4:Value)(sv:List Value)(lns:List Ln)(t:ByteArray)(h:Q2f w b X v0 v1 v2 v3 v4 sv)(hR:Q7s lns X.rules)(hn:X.rules.length<=1000)(ht:t.size<=200) :
  Calls Tryz.prog 20 #[.pointer (some ⟨b,0,none⟩),.string t] w fun e w'=>CutRet (Q6t lns t (t.size+1) 0 []) w e w':=by
 obtain⟨i0,kh,km,kn,ko⟩:=Q8y;have HX:=hid (fun w' (hf:Q0a w w')=>h.fresh hf);have HR:=hid hR;have kt:=h.lt;obtain⟨a0,kp,kb⟩:=z0c (h.own 0 _ rfl);dsimp only at kb;subst kb;generalize hV:Q6t lns t (t.size+1) 0 []=V;have HV:=hid hV;clear h hR hV;go_enter Tryz.func20,Tryz.ntmps20
 go_wp2;go_loopw [6,7,8,9,10,11] (fun x6 x7 _ _ _ _ wr=>∃(f a:Nat) (toks:List Tk),x7=.int .i64 a/\a<=t.size/\t.size+1<=f+a/\toks.length<=a/\Q6t lns t f a toks=V/\wr.ownsRow w.heap.size 63 3 x6 toks.length (Q0y Tk.cells toks)/\Q0a w wr)
   (fun _ x _ _ _ _ _=>1001-(intOf x).toNat)
 case atStart=>exact⟨t.size+1,0,[],rfl,by omega,by omega,by simp,HV.out,qAh _ _ _ _,mRf _ _⟩
 obtain⟨f,a,toks,rfl,ha,hf,x0,j0,jb,j4⟩:=hrel;obtain⟨f,rfl⟩:∃g,f=g+1:=⟨f-1,by omega⟩;rw[y71]at j0;obtain⟨wo,kk⟩:∃wo,wo=wr:=⟨_,rfl⟩;subst kk;have HO:=hid jb;have HF:=hid j4;obtain⟨ao,cap,hv⟩:=z0c jb;subst hv;have kz:=j4.size;clear HV jb;by_cases jq:a<t.size
 ·have k1:(a:Int)<(t.size:Int):=by omega
  rw[qAb jq]at j0;obtain⟨b1,b2,b3,b4⟩:=y6m (lns:=lns) (t:=t) (i:=a) ha;generalize hbb:Q2j lns t a=bb at j0 b1 b2 b3 b4;have jt:Hid (Q5d lns t a (lns.length+1) 0 (0,(a:Int))=bb):=hbb;have j8:=hid j0;clear hbb j0 j4;go_wp2_with (first
   |(refine z0e rfl 63 _ _ rfl wo _ _ _ rfl rfl rfl W0j rfl (qCq (cs:=[.int .i64 0,.int .i64 a,.int .i64 a]) (by intro v hv;simp at hv;rcases hv with rfl|rfl<;>rfl)) ?_))
  go_loopw [9,10,11] (fun x9 _ _ wr=>∃(g r:Nat) (q:Int × Int),x9=.int .i64 r/\r<=lns.length/\lns.length+1<=g+r/\(a:Int)<=q.2/\q.2<=t.size/\Q5d lns t a g r q=bb/\wr.heap[wo.heap.size]? = some (.cells (Q2t q.1 a q.2) 63 (0,0))/\Q0a wo wr)
    (fun x _ _ _=>1001-(intOf x).toNat)
  case atStart=>exact⟨lns.length+1,0,(0,(a:Int)),rfl,by omega,by omega,by dsimp only;omega,by dsimp only;omega,jt.out,z0a _ _,(mRf _ wo).alloc _⟩
  obtain⟨g,r,q,rfl,hr,hg,jr,k7,j0,j1,j4⟩:=hrel;obtain⟨g,rfl⟩:∃k,g=k+1:=⟨g-1,by omega⟩;rw[x9z]at j0;obtain⟨wp,kl⟩:∃wp,wp=wr:=⟨_,rfl⟩;subst kl;have HB:=hid j1;have jv:=hid j4;have je:Hid (Q0a w wp):=HF.trans j4;have hX:=HX.out wp je.out;have k0:=Q2f.cell hX 0;simp at k0;have ks:=hX.lt;have jh:=HR.len;have js:=z0j j1;clear jt;by_cases ka:r<lns.length
  ·have jc:r<X.rules.length:=by omega
   have k2:(r:Int)<(X.rules.length:Int):=by omega
   rw[qE ka]at j0;dsimp only at j0;obtain⟨y1,L,y2,y3,y4⟩:=HR.at' r _ _ (qE ka) (qE jc);have jn:=Q2f.rules hX;obtain⟨gg,kg,hv⟩:=Joins.ownsRow_form jn.own (by omega);rw[qI]at hv;obtain⟨rfl,_,rfl⟩:=hv;have c3:=jn.cell r 3 jc (by omega);have kv:=(jn.own.lt gg rfl).2;have jk:=z08 (s:=t) (a:=a) (e:=t.size) (qR _);have LX:=hid (fun W=>z75 X.rules[r].ln.pat (t.extract a t.size) L W y3 (by omega) y2);have jx:=hid (fun(gs:List Bool) (h1:gs.length=(t.extract a t.size).size+1) h2=>v2z (r:=r) (b:=q) ha y4 h1 h2 jr);generalize X.rules[r]=x at c3 LX y1 y2 y3;obtain⟨⟨xr,xk,xn,xp,x3,x2⟩,vs,vp,x1⟩:=x;simp[ZLV.cells]at c3;dsimp only at LX;have j2:=hid j0;have jf:=hid jk;clear y1 y2 y3 y4 jn hX jh j0 jk j4;go_upto_region 8 with fail
   go_cut [10] (fun x10 wx=>∃(g9:Nat) (gs:List Bool),x10=bsl g9 (t.size-a+1)/\Q0a wp wx/\Q1x wx g9 gs/\gs.length=(t.extract a t.size).size+1/\∀j,j<=(t.extract a t.size).size->(On gs j↔L (Q1n (t.extract a t.size) 0 j)))
   case first =>
    go_region_with (first
     |(go_at_call 48;refine(LX.out _).mono ?_;rintro e w1⟨g9,gs,rfl,q1,q2,q3,q4⟩;have HN:=hid (And.intro q1 (And.intro q2 (And.intro q3 q4)));clear q1 q2 q3 q4))
    all_goals
     go_wp2_with fail
     go_meet;exact⟨g9,gs,rfl,(mRf _ wp).drew.trans HN.1,HN.2⟩
   obtain⟨g9,gs,rfl,jp,j6,j7,jz⟩:=hcut;have jd:=hid (jp.at HB.out id);have k4:g9≠wo.heap.size:=by
    intro e;have c:=j6.cell (j:=0) (by omega);rw[e,Q0b jd.out 0]at c;simp at c
   have ki:wo.heap.size≠g9:=fun e=>k4 e.symm;have jm:=hid (jx.out gs j7 jz);rw[jf.out]at j7;have jo:=hid j7;have ju:=hid j6;have jw:Hid (Q0a wo wc):=jv.trans jp;have ky:=j6.lt;have kq:=z0j jd.out;have lb:=y2q lns[r].ns lns[r].st lns[r].en t a;generalize Q5f lns[r].ns lns[r].st lns[r].en t a=far at jm j2 lb;clear HB jv je jp j6 j7 jz LX jx c3 k0 jf;obtain⟨q1,q2⟩:=q;dsimp only at jr k7 j2 jm jd;go_wp2_with fail
   go_loopw [11] (fun x11 wr=>∃n:Nat,x11=.int .i64 n/\1<=n/\n<=t.size-a+1/\wr.heap[wo.heap.size]? = some (.cells (Q2t (Q8r gs a r (q1,q2) n).1 a (Q8r gs a r (q1,q2) n).2) 63 (0,0))/\Q1x wr g9 gs/\Q0a wo wr)
     (fun x _=>1001-(intOf x).toNat)
   case atStart=>exact⟨1,rfl,by omega,by omega,by rw[x8b];exact jd.out,ju.out,jw.out⟩
   obtain⟨n,rfl,kw,kx,j1,j6,j4⟩:=hrel;have j3:=hid j1;have ja:=hid j6;have jl:=hid j4;have ku:=j6.lt;have kr:=z0j j1;clear jd ju jw;by_cases kj:n<t.size-a+1
   ·have k5:(n:Int)<((t.size-a+1:Nat):Int):=by omega
    have k6:(n:Int)<((t.size-a:Nat):Int)+1:=by omega
    have c1:=j6.cell (j:=n) (by rw[jo.out];exact kj);have c2:wr.cell? ⟨wo.heap.size,2,none⟩=some (.int .i64 (Q8r gs a r (q1,q2) n).2):=Q0b j1 2;have HU:=hid (v2y gs a r (q1,q2) n);have ji:=jo.out;generalize Q8r gs a r (q1,q2) n=u at c2 HU j3;obtain⟨u1,u2⟩:=u;dsimp only at c2 HU j3;generalize gs.getD n false=gn at c1 HU;clear j1 j6 j4 ji;cases gn
    ·have jg:Hid (Q8r gs a r (q1,q2) (n+1)=(u1,u2)):=by unfold Hid;rw[HU.out,qAa (fun q=>by simp at q)]
     clear HU;go_wp2;go_roundw
     case rel=>exact⟨n+1,by go_num,by omega,by omega,by rw[jg.out];exact j3.out,ja.out,jl.out⟩
     simp[intOf];omega
    by_cases k3:u2<(a:Int)+n
    ·have jg:Hid (Q8r gs a r (q1,q2) (n+1)=((r:Int),(a:Int)+n)):=by unfold Hid;rw[HU.out,qAb ⟨by omega,rfl,k3⟩]
     clear HU;go_wp2_with (first
      |(refine qAg rfl 63 _ _ rfl wo.heap.size (Q2t r a ((a:Int)+n)) rfl rfl _ _ j3.out W0j rfl (qCq (cs:=[.int .i64 r,.int .i64 a,.int .i64 ((a:Int)+n)]) (by intro v hv;simp at hv;rcases hv with rfl|rfl|rfl<;>rfl)) ?_))
     go_roundw
     case rel=>exact⟨n+1,by go_num,by omega,by omega,by rw[jg.out];exact qAn _ _ _ _ _ _ j3.out,z0p ja.out k4,jl.setRow (fun q=>absurd q (qBw _)) _⟩
     simp[intOf];omega
    have jg:Hid (Q8r gs a r (q1,q2) (n+1)=(u1,u2)):=by unfold Hid;rw[HU.out,qAa (fun q=>k3 q.2.2)]
    clear HU;go_wp2;go_roundw
    case rel=>exact⟨n+1,by go_num,by omega,by omega,by rw[jg.out];exact j3.out,ja.out,jl.out⟩
    simp[intOf];omega
   have k5:¬(n:Int)<((t.size-a+1:Nat):Int):=by omega
   have k6:¬(n:Int)<((t.size-a:Nat):Int)+1:=by omega
   have jj:n=gs.length:=by rw[jo.out];omega
   have kc:Hid (wr.heap[wo.heap.size]? = some (.cells (Q2t (if q2<far then((r:Int),far) else(q1,q2)).1 a (if q2<far then((r:Int),far) else(q1,q2)).2) 63 (0,0))):=by
    unfold Hid;rw[← jm.out,← jj];exact j3.out
   clear jj j1 jm j3 j6 j4;go_wp2;go_roundw
   case rel =>
    refine⟨g,r+1,_,by go_num,by omega,by omega,?_,?_,j2.out,kc.out,jl.out⟩
    ·split<;>(try dsimp only)<;>omega
    split<;>(try dsimp only)<;>omega
   simp[intOf];omega
  have jc:¬(r:Int)<(X.rules.length:Int):=by omega
  rw[qN (by omega)]at j0;dsimp only at j0;subst j0;have c2:wp.cell? ⟨wo.heap.size,2,none⟩=some (.int .i64 q.2):=Q0b j1 2;obtain⟨q1,q2⟩:=q;dsimp only at jr k7 c2 j8 HB b1 b2 b3 b4;have kf:=hid (z0d (w':=wp) HO.out (fun g hg=>j4.block g (HO.lt g hg).2 id));clear hX jh j1 j4;by_cases k8:q2<=(a:Int)
  ·have k9:q2=(a:Int):=by omega
   have k5:(q2==(a:Int))=true:=by simp[k9]
   have j2:Hid (V=([],(a:Int))):=by
    have:=j8.out;rw[qAb k8]at this;exact this.symm
   clear k9 j8;go_wp2;refine qAc (qEo rfl _ _ _) rfl ⟨.slice none 0 0,by rw[j2.out];rfl,je.out,by rw[j2.out];exact qAh _ _ _ _⟩
  have k5:(q2==(a:Int))=false:=by simp;omega
  have j2:Hid (Q6t lns t f q2.toNat (toks++[⟨q1,(a:Int),q2⟩])=V):=by
   have:=j8.out;rw[qAa k8]at this;exact this
  obtain⟨m,rfl⟩:∃m:Nat,q2=m:=⟨q2.toNat,by omega⟩;rw[qAo]at j2;clear j8;go_wp2_with (first
   |(refine qAf rfl 63 _ rfl wo.heap.size rfl _ (Q2t q1 a m) _ _ HB.out qFy rfl W0j ?_)
   |(at_builtin;refine z0f _ rfl _ _ 22 rfl w.heap.size 63 i0 _ 3 24 Tryz.underlying22 kh km kn ko rfl (by decide) _ _ _ rfl (kf.alloc _) ⟨wp.heap.size,0,none⟩ 1 1 [.int .i64 q1,.int .i64 a,.int .i64 m] rfl rfl (z0m rfl) (by intro u hu;simp at hu;rcases hu with rfl|rfl|rfl<;>rfl) (by unfold maxLen;omega) (by omega) (by have:=je.size;simp;omega) ?_;intro v' w2 j9 j5 j1;have c9:w2.cell? ⟨wo.heap.size,2,none⟩=some (.int .i64 m):=(by have hh:w2.heap[wo.heap.size]? = some (.cells (Q2t q1 a m) 63 (0,0)):=(by rw[j5.block _ (by simp;omega) (fun e=>by have:=(HO.lt _ e.symm).2;omega),z0s js];exact HB.out);exact Q0b hh 2);have jy:Q0a w w2:=Mod.grown (S:=fun _=>False) (je.alloc _) j5 (fun k hk jq=>by have:=(HO.lt k hk).1;omega);have ke:=hid j9;have kd:=hid jy;clear j9 j5 j1 jy))
  go_roundw
  case rel =>
   refine⟨f,m,toks++[⟨q1,(a:Int),(m:Int)⟩],rfl,by omega,by omega,by simp;omega,j2.out,?_,kd.out⟩;rw[z0v,qP,qAj];exact ke.out
  simp[intOf];omega
 have k1:¬(a:Int)<(t.size:Int):=by omega
 rw[qAa jq]at j0;have j8:=hid j0;clear j0;go_wp2;refine qAc (qEo rfl _ _ _) rfl ⟨_,by rw[← j8.out];rfl,HF.out,by rw[← j8.out];exact HO.out⟩
theorem z3y{w w':World}{g o:Nat}{cs:List Value}(h:w.rangeAt g o cs)(hb:w'.heap[g]? = w.heap[g]?):w'.rangeAt g o cs:=fun j v hj=>by
 have:=h j v hj;unfold World.cell? at this ⊢;dsimp only at this ⊢;rw[hb];exact this
theorem y91(lns:List Ln)(t:ByteArray):∀(f i:Nat) (toks:List Tk),i<=t.size->toks.length<=i->(∀k∈toks,0<=k.r/\k.r<lns.length)->(∀k∈(Q6t lns t f i toks).1,0<=k.r/\k.r<lns.length)/\(Q6t lns t f i toks).1.length<=t.size/\-1<=(Q6t lns t f i toks).2
 |0,i,toks,hi,hl,h=>by simp[Q6t]
 |f+1,i,toks,hi,hl,h=>by
  obtain⟨b1,b2,b3,b4⟩:=y6m (lns:=lns) hi;rw[y71];split
  ·split
   ·refine⟨fun k hk=>by(cases hk),by simp,by dsimp only;omega⟩
   rename_i c1 c2;refine y91 lns t f _ _ (by omega) (by simp;omega) (fun k hk=>?_);rcases qBs.1 hk with hk|hk
   ·exact h k hk
   simp at hk;subst hk;exact⟨b3,b4 (by omega)⟩
  exact⟨h,by dsimp only;omega,by simp⟩
def ldKz(v:Value):Sem Value:=Instr.loadAt 63 v
theorem x3l(v:Value):Instr.loadAt 63 v=ldKz v:=rfl
theorem y8x{w:World}{g o:Nat}{p k a:Int}(hr:w.rangeAt g o [.int .i64 p,.int .i64 k,.int .i64 a]):(ldKz (.pointer (some ⟨g,o,none⟩))).run Tryz.prog w=.ok (.agg (Q2t p k a)) w :=
 qFo w g o _ _ _ hr qFy rfl W0j
theorem isAggIz(w:World):(isAgg 3).run Tryz.prog w=.ok false w:=by
 unfold isAgg;rw[Sem.run_bind,run_underlying qEj];rfl
theorem partIz(xs:Array Value)(i:Nat)(v:Value)(h:xs[i]? = some v)(w:World):(part 3 xs i).run Tryz.prog w=.ok v w:=by
 simp[part,isAggIz,h]
theorem stoodToz:Tryz.prog.stoodInHeld 63=false:=by kernel_rfl
theorem guardToz:Tryz.prog.eqGuardType Tryz.prog.depth 63=false:=by kernel_rfl
theorem eqToz(d:Nat)(h t a:Int)(w:World):(Op.equalIn (d+4) 63 (.agg (Q2t h t a)) (.agg (Q2t h t a))).run Tryz.prog w=.ok true w:=by
 rw[run_equalIn_struct w (d+3) _ _ _ (by kernel_rfl) stoodToz];have hf : ((Tryz.prog.fieldsOf 63).toList.map fun f => (f.name, f.type, f.offset)) = [("Rule", 3, 0), ("From", 3, 1), ("To", 3, 2)] := by kernel_rfl
 generalize(Tryz.prog.fieldsOf 63).toList=fs at hf;rcases fs with _|⟨f0,_|⟨f1,_|⟨f2,_|⟨f3,fs⟩⟩⟩⟩<;>simp at hf;obtain⟨⟨n0,t0,o0⟩,⟨n1,t1,o1⟩,⟨n2,t2,o2⟩⟩:=hf;simp only[Op.eqFields,n0,t0,o0,n1,t1,o1,n2,t2,o2];simp[partIz,qFh w (d+2) 3 .i64 _ _ _ qEj]
attribute [local go_sem ↓] x3l
theorem y0v(w:World)(va vb:Value)(la:List Tk)(ha:Q43 w va la)(hb:Q43 w vb la)(hl:la.length<=100000) :
  Calls Tryz.prog 6 #[va,vb] w fun e w'=>e=.returned (.bool true)/\Q0a w w':=by
 obtain⟨aa,ca,j5⟩:=z0c ha.own;subst j5;obtain⟨ab,cb,j6⟩:=z0c hb.own;subst j6;have HA:=hid ha;have HB:=hid hb;clear ha hb;go_enter Tryz.func6,Tryz.ntmps6
 go_wp2;go_loopw [5] (fun x5 wr=>∃(i:Nat),x5=.int .i64 i/\i<=la.length/\∃m,wr=w.drewN m)
  (fun x _=>100001-(intOf x).toNat)
 case atStart=>exact⟨0,rfl,by omega,0,rfl⟩
 obtain⟨i,rfl,hi,m,j4⟩:=hrel;subst j4;have j2:Hid (∀m,Q0a w (w.drewN m)):=fun m=>Q3n w m;have j3:=hid (Q19 (B:=100001) i (by omega));by_cases j1:i<la.length
 ·have j8:(i:Int)<(la.length:Int):=by omega
  obtain⟨g,c',hg⟩:=Joins.ownsRow_form HA.own (by omega);rw[qI]at hg;obtain⟨rfl,_,rfl⟩:=hg;obtain⟨g2,j7,j0⟩:=Joins.ownsRow_form HB.own (by omega);rw[qI]at j0;obtain⟨rfl,_,rfl⟩:=j0;have r1:=HA.range i j1;have r2:=HB.range i j1;generalize la[i]=li at r1 r2;obtain⟨p,k,a⟩:=li;have l1:∀m,(ldKz (.pointer (some ⟨g,i*3,none⟩))).run Tryz.prog (w.drewN m)=.ok (.agg (Q2t p k a)) (w.drewN m):=fun m=>y8x (w:=w.drewN m) (z3y r1 rfl);have l2:∀m,(ldKz (.pointer (some ⟨g2,i*3,none⟩))).run Tryz.prog (w.drewN m)=.ok (.agg (Q2t p k a)) (w.drewN m):=fun m=>y8x (w:=w.drewN m) (z3y r2 rfl);have q1:∀w,(Op.equalIn 10000 63 (.agg (Q2t p k a)) (.agg (Q2t p k a))).run Tryz.prog w=.ok true w:=fun w=>eqToz 9996 p k a w;have g1:=guardToz;clear r1 r2;go_wp2_with fail
  go_quiet (fail);go_wp2;go_roundw
  case rel=>exact⟨i+1,by go_num,by omega,_,rfl⟩
  exact j3.out
 have j9:¬(i:Int)<(la.length:Int):=by omega
 go_wp2;go_ret;exact⟨rfl,j2.out _⟩
theorem x51(w:World)(b B0:Nat)(X:SP)(v0 v1 v2 v3 v4 v:Value)(sv:List Value)(lns:List Ln)(toks:List Tk)(h:Q2f w b X v0 v1 v2 v3 v4 sv)(hR:Q7s lns X.rules)(hn:X.rules.length<=1000)(ht:toks.length<=1000)
  (hT:w.ownsRow B0 63 3 v toks.length (Q0y Tk.cells toks)) (hok:∀k∈toks,0<=k.r/\k.r<lns.length) :
  Calls Tryz.prog 21 #[.pointer (some ⟨b,0,none⟩),v] w fun e w'=>∃v',e=.returned v'/\Q0a w w'/\Q43 w' v' (toks.filter fun k=>!Q27 lns k.r):=by
 obtain⟨i0,jv,jx,jy,jz⟩:=Q8y;have HX:=hid (fun w' (hf:Q0a w w')=>h.fresh hf);have HR:=hid hR;have k5:=h.lt;obtain⟨a0,k3,jo⟩:=z0c (h.own 0 _ rfl);dsimp only at jo;subst jo;obtain⟨ao,cap,hv⟩:=z0c hT;have js:Hid (∀w',Q0a w w'->Q43 w' v toks):=fun w' hf=>⟨z0g (z0d hT (fun g hg=>hf.block g (hT.lt g hg).2 id)) (qBq _),fun x _=>rfl⟩;have jr:=hid hok;subst hv;clear h hR hT hok;go_enter Tryz.func21,Tryz.ntmps21
 go_wp2;go_loopw [5,6] (fun x5 x6 wr=>∃(i:Nat),x6=.int .i64 i/\i<=toks.length/\wr.ownsRow w.heap.size 63 3 x5 ((toks.take i).filter fun k=>!Q27 lns k.r).length (Q0y Tk.cells ((toks.take i).filter fun k=>!Q27 lns k.r))/\Q0a w wr)
   (fun _ x _=>1001-(intOf x).toNat)
 case atStart=>exact⟨0,rfl,by omega,qAh _ _ _ _,mRf _ _⟩
 obtain⟨i,rfl,hi,j2,j9⟩:=hrel;have HO:=hid j2;have HF:=hid j9;obtain⟨ro,rc,jw⟩:=z0c j2;subst jw;have hX:=HX.out wr j9;have k0:=Q2f.cell hX 0;simp at k0;have k4:=hX.lt;have jk:Hid (1001-(intOf (.int .i64 ((i:Int)+1))).toNat<1001-(intOf (.int .i64 (i:Int))).toNat):=by unfold Hid;simp[intOf];omega
 have je:((toks.take i).filter fun k=>!Q27 lns k.r).length<=1000:=by
  have:=qCc (fun k:Tk=>!Q27 lns k.r) (toks.take i);have:=List.length_take_le i toks;omega
 clear j2;by_cases ja:i<toks.length
 ·have k1:(i:Int)<(toks.length:Int):=by omega
  have j5:=js.out wr j9;obtain⟨g,c',hg⟩:=Joins.ownsRow_form j5.own (by omega);rw[qI]at hg;obtain⟨rfl,_,rfl⟩:=hg;have j3:(toks.take (i+1)).filter (fun k=>!Q27 lns k.r)=((toks.take i).filter fun k=>!Q27 lns k.r)++(if Q27 lns toks[i].r=true then [] else [toks[i]]):=by
   rw[qCu,qE ja,qBx];simp only[Option.toList_some,qAq,List.filter_nil];cases Q27 lns toks[i].r<;>simp
  obtain⟨o1,o2⟩:=jr.out toks[i] (by simp);have t0:=j5.cell i 0 ja (by omega);have jf:=j5.range i ja;have k8:=(j5.own.lt g rfl).2;generalize toks[i]=tk at j3 o1 o2 t0 jf;obtain⟨tr,ta,tb⟩:=tk;dsimp only at o1 o2 j3;simp[Tk.cells]at t0;obtain⟨r,rfl⟩:∃r:Nat,tr=r:=⟨tr.toNat,by omega⟩;have jl:r<lns.length:=by omega
  have j6:r<X.rules.length:=by have:=HR.len;omega
  have k2:(r:Int)<(X.rules.length:Int):=by omega
  have j8:=Q2f.rules hX;obtain⟨gg,ju,hv⟩:=Joins.ownsRow_form j8.own (by omega);rw[qI]at hv;obtain⟨rfl,_,rfl⟩:=hv;have c1:=j8.cell r 1 j6 (by omega);have k6:=(j8.own.lt gg rfl).2;obtain⟨y1,_⟩:=HR.at' r _ _ (qE jl) (qE j6);have jm:Q27 lns (r:Int)=X.rules[r].ln.skip:=by
   unfold Q27;rw[qAa (by omega),qAo,qE jl];exact y1.symm
  rw[jm]at j3;generalize X.rules[r]=x at c1 j3;obtain⟨⟨xr,xk,xn,xp,kb,ka⟩,vs,vp,k9⟩:=x;simp[ZLV.cells]at c1;dsimp only at j3;have j7:=hid j3;have ji:=hid jf;clear y1 jm j3 j8 hX j5 jf j9;cases xk
  ·have j4:Hid ((toks.take (i+1)).filter (fun k=>!Q27 lns k.r)=((toks.take i).filter fun k=>!Q27 lns k.r)++[⟨(r:Int),ta,tb⟩]):=by
    unfold Hid;rw[j7.out,qAa (by simp)]
   clear j7;generalize(toks.take i).filter (fun k=>!Q27 lns k.r)=fl at HO j4 je;go_wp2_with fail
   go_quiet (fail);have jc:Hid ((wr.drewN nq).ownsRow w.heap.size 63 3 (.slice ro fl.length rc) fl.length (Q0y Tk.cells fl)):=HO.out;have jh:Hid ((wr.drewN nq).rangeAt g (i*3) [.int .i64 r,.int .i64 ta,.int .i64 tb]):=z3y ji.out rfl;have jb:Hid (Q0a w (wr.drewN nq)):=HF.trans (Q3n _ _);generalize hWW:wr.drewN nq=W3 at jc jh jb ⊢;clear hWW HO ji HF;have k7:=jb.size;go_wp2_with (first
    |(refine qAe rfl 63 _ rfl g (i*3) rfl [.int .i64 r,.int .i64 ta,.int .i64 tb] _ jh.out qFy rfl W0j ?_)
    |(at_builtin;refine z0f _ rfl _ _ 22 rfl w.heap.size 63 i0 _ 3 24 Tryz.underlying22 jv jx jy jz rfl (by decide) _ _ _ rfl (jc.alloc _) ⟨W3.heap.size,0,none⟩ 1 1 [.int .i64 r,.int .i64 ta,.int .i64 tb] rfl rfl (z0m rfl) (by intro u hu;simp at hu;rcases hu with rfl|rfl|rfl<;>rfl) (by unfold maxLen;omega) (by omega) (by simp;omega) ?_;intro v' w2 j1 j0 jd;have jj:Q0a w w2:=Mod.grown (S:=fun _=>False) (jb.alloc _) j0 (fun k hk ja=>by have:=(jc.lt k hk).1;omega);have jq:=hid j1;have jp:=hid jj;clear j1 j0 jd jj))
   go_roundw
   case rel =>
    refine⟨i+1,by go_num,by omega,?_,jp.out⟩;rw[j4.out,z0v,qP,qAj];exact jq.out
   exact jk.out
  have j4:Hid ((toks.take (i+1)).filter (fun k=>!Q27 lns k.r)=(toks.take i).filter (fun k=>!Q27 lns k.r)):=by
   unfold Hid;rw[j7.out,qAb rfl,qBd]
  clear j7;generalize(toks.take i).filter (fun k=>!Q27 lns k.r)=fl at HO j4 je;go_wp2_with fail
  go_quiet (fail);go_wp2;go_roundw
  case rel =>
   refine⟨i+1,by go_num,by omega,?_,HF.trans (Q3n _ _)⟩;rw[j4.out];exact HO.out
  exact jk.out
 have k1:¬(i:Int)<(toks.length:Int):=by omega
 have jn:toks.take i=toks:=qDg (by omega);have jt:=hid jn;clear jn hX;generalize hfx:(toks.take i).filter (fun k=>!Q27 lns k.r)=fl at HO je;have jg:=hid hfx;clear hfx;go_wp2;go_ret;refine⟨_,rfl,HF.out,?_⟩;rw[jt.out]at jg;rw[jg.out];exact⟨z0g HO.out (qBq _),fun x _=>rfl⟩
theorem x7y{s:ByteArray}{xs:List ZLV}(hs:s.size<=800)(h:Q88 s xs):Q7s (Q0i s) (Q1b Q2m xs).1.rules:=by
 obtain⟨e1,e2⟩:=x40 h;refine⟨e1,fun k x z h1 h2=>?_⟩;obtain⟨y1,L,y2,y3,y4⟩:=e2 k x z h1 h2;exact⟨y1,L,y2,by omega,y4⟩
end Go.Proofs.YtbdpfmalabgmbaaGreat
