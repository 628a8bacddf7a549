import Derived.Test.YtcpceafmlgaodaaGreatTwa
import Derived.Test.YtcpceafmlgaodaaGreatRb5
namespace Go.Proofs.YtcpceafmlgaodaaGreat
open Go.RowKit
set_option maxRecDepth 99999
set_option maxHeartbeats 0
set_option linter.all false
section
variable {ps:List Pr}{R H:Nat}
end
section
variable {w W w1:World}{b B u u':Nat}{vx vc vh vn vk v':Value}{NL:List Nd}{KL:List Int}
end
def HtAt(w:World)(hb:Nat)(hts:List Nat):Prop:=w.heap[hb]? = some (.cells (i64s (hts.map Int.ofNat)) 3 (0,0))
section
variable {ps:List Pr}{hts:List Nat}{X i:Nat}{al:List Int}{lo:Int}
end
structure TX(w:World)(xb g3 c3 g5 c5 hb:Nat)(sv:Nat->Value)(ps:List Pr)(hts:List Nat)(vc:Value)(code:List Int):Prop where
 xv:XV w xb g3 c3 g5 c5 sv ps
 ht:HtAt w hb hts
 co:Q0z w vc code
theorem z20{ps:List Pr}:∀(A:List St) (ys r k:List Sy),Q1f ps A ys=some r->Q1f ps A (ys++k)=some (r++k)
 | [],ys,r,k,h=>by cases h;rfl
 |s::A,ys,r,k,h=>by
  cases hs:s.leaf
  ·obtain⟨y,k',p,rfl,h1,h2,h3,h4,h5⟩:=z05 hs h;have:=z20 A _ _ k h5;simp only[qAw,Q1f,hs,qF,qAp];rw[qAb ⟨h1,h2⟩,h3];simp only[];rw[qAb h4,← qAh];exact this
  obtain⟨y,k',rfl,h1,h2,h3⟩:=z08 hs h;simp only[qAw,Q1f,hs,qBb];rw[qAb ⟨h1,h2⟩];exact z20 A _ _ k h3
theorem y5a{ps:List Pr}{A T:List St}{ys:List Sy}{y:Sy}(h1:Q1f ps A ys=some [])(h2:Q1f ps T [y]=some []):Q1f ps (A++T) (ys++[y])=some []:=by
 rw[z1f,z20 A ys [] [y] h1];exact h2
attribute [local go_sem ↓] z13
theorem v2e{w:World}{base:Nat}{v:Value}{l:List Value}{e:TypeId}(h:w.ownsRow base e 1 v l.length l):SlAt w v l:=by
 rcases h.2 with⟨rfl,h0⟩|⟨g,cap,cur,rfl,_,_,hc,_⟩
 ·exact⟨none,0,by rw[h0],by omega,fun j hj=>by omega⟩
 refine⟨_,_,rfl,hc,fun j hj=>⟨g,0,rfl,?_⟩⟩;have:=h.cells (g:=g) rfl j l[j] (by simp[hj]);rwa [Addr.add_mid]at this
theorem v1y{w:World}{b:Nat}{X:SP}{ps:List Pr}{R H:Nat}(h:SpecX w b X)(t:SpecTab X ps R H):Q3x w b R H (Q0e R ps):=by
 obtain⟨v0,v1,v2,v3,v4,sv,hS,hl⟩:=h;have hA:=hS.sp;have j1:(Q0e R ps).length=ps.length:=by simp[Q0e]
 have k0:=Q2q.cell hA 0;have k1:=Q2q.cell hA 1;have k2:=Q2q.cell hA 2;have k3:=Q2q.cell hA 3;have k4:=Q2q.cell hA 4;simp at k0 k1 k2 k3 k4;obtain⟨a0,c0,e0⟩:=z0d (hA.own 0 _ rfl);obtain⟨a1,c1,e1⟩:=z0d (hA.own 1 _ rfl);obtain⟨a2,c2,e2⟩:=z0d (hA.own 2 _ rfl);dsimp only at e0 e1 e2;rw[t.rules]at e0;rw[t.prods,← j1]at e1;rw[t.heads]at e2;subst e0 e1 e2;have hm:(Q0e R ps).map Prod.fst=X.head:=by rw[t.head];simp[Q0e]
 refine⟨a0,c0,a1,c1,a2,c2,v3,v4,sv,k0,k1,k2,k3,k4,?_,?_,by rw[hl,t.prods,j1],?_⟩
 ·rw[hm];exact IntOwn.at' (base:=b+1) (hA.own 3 _ rfl)
 ·exact v2e (hA.own 4 _ rfl)
 intro i v x h1 h2;have hi:i<ps.length:=by
  have:=(qS h2).1;omega
 have j2:i<X.prods.length:=by rw[t.prods];exact hi
 have hx:=hS.syms i v _ h1 (qE j2);have e:Q8e X X.prods[i]=x.2:=by
  have q:=qDn (fun l=>l[i]?) t.syms;rw[qBe,qE j2,qBe,qE hi]at q;simp only[qCz,qO]at q;have q2:x=(ps[i].head,ps[i].syms.map (Q0u R)):=by
   simp[Q0e,hi]at h2;exact h2.symm
  rw[q2];exact q
 have j0:X.prods[i].ln.syms.length=x.2.length:=by rw[← e];simp[Q8e]
 have j3:=hx.1;rw[e,j0]at j3;exact IntOwn.at' (base:=b+1) j3
theorem q_ok{s:ByteArray}(hc:Q0t s=(0,0))(hT:Q1b (Q0q (Q0c s).1) (Q0f (Q0c s).1).length (Q0h (Q0c s).1).length)(hR:(Q0f (Q0c s).1).length<=8) :
  QOk (Q0f (Q0c s).1).length (Q0h (Q0c s).1).length (Q0e (Q0f (Q0c s).1).length (Q0q (Q0c s).1)):=by
 obtain⟨c1,c2,c3,c4,c5⟩:=z19 hc;have j1:=(Q6r hc).places;obtain⟨n1,n2,n3⟩:=y3n (fun y hy=>(j1 y hy).1) c5;have j0:(Q0e (Q0f (Q0c s).1).length (Q0q (Q0c s).1)).length=(Q0q (Q0c s).1).length:=by simp[Q0e]
 refine⟨hR,n1,by omega,?_,y7u hT,fun x hx=>?_⟩
 ·rw[j0];unfold Q0q;rw[qAo];unfold Q33 at c4;rw[qAq]at c4;obtain⟨y,hy,hy2⟩:=c4;exact List.length_pos_of_mem (qCx.2 ⟨hy,hy2⟩)
 unfold Q0e at hx;rw[qBp]at hx;obtain⟨p,hp,rfl⟩:=hx;refine⟨by simpa using n3 p hp,fun c hc=>?_⟩;rw[qBp]at hc;obtain⟨y,hy,rfl⟩:=hc;exact z6u hT hp hy
structure Q7y(w:World)(B ab b R H:Nat)(q:List Q1)(gn:Nat)(vL:Value)(gs:List Nat):Prop where
 o:w.heap[ab]? = some (.cells #[.pointer (some ⟨b,0,none⟩),bsl gn H,vL] 153 (0,0))
 abB:B<=ab
 gnB:B<=gn
 n:Q1y w gn (Q4j (bs R) false q H)
 m:Q1t w B (R+1+H) vL gs (ldF R H (Q4j (bs R) false q H) q)
theorem Q1t.base{w:World}{B B' n:Nat}{v:Value}{gs:List Nat}{M:Mat}(h:Q1t w B n v gs M)(hb:B'<=B):Q1t w B' n v gs M :=
 ⟨z0f h.own hb,h.len,fun i g hi=>⟨qCd hb (h.blk i g hi).1,(h.blk i g hi).2⟩,h.inj,h.ne⟩
theorem Q7y.fresh{w w':World}{B ab b R H:Nat}{q:List Q1}{gn:Nat}{vL:Value}{gs:List Nat}(h:Q7y w B ab b R H q gn vL gs)(hf:Q0a w w'):Q7y w' B ab b R H q gn vL gs :=
 ⟨hf.at h.o (fun x=>x),h.abB,h.gnB,h.n.fresh hf,h.m.fresh hf⟩
def AllRet(w:World)(b R H:Nat)(q:List Q1)(e:Ending)(w':World):Prop:=∃ab gn vL gs,e=.returned (.pointer (some ⟨ab,0,none⟩))/\Q7y w' w.heap.size ab b R H q gn vL gs/\Q0a w w'
theorem x86(w:World)(b R H:Nat)(q:List Q1)(hS:Q3x w b R H q)(hQ:QOk R H q)(hl:(Q4j (bs R) false q H).length=H) :
  Calls Tryz.prog 32 #[.pointer (some ⟨b,0,none⟩)] w fun e w'=>AllRet w b R H q e w':=by
 have DE:=hid (y6c w b R H q false hS hQ);have LE:=hid (fun(W:World) (hW:Q0a w W) (gn:Nat) (hn:Q1y W gn (Q4j (bs R) false q H))=>x27 W b R H gn q _ (hS.fresh hW) hQ hn hl);clear hS hQ hl;go_enter Tryz.func32,Tryz.ntmps32
 go_wp2_with (first
  |(go_at_call 65;refine(DE.out).mono ?_;rintro e w1⟨gn,hg,rfl,hB,hf⟩;have HB:=hid hB;have HF:=hid hf;have HG:=hid hg;clear hB hf hg)
  |(go_at_call 66;refine(LE.out _ HF.out gn HB.out).mono ?_;rintro e w2⟨vL,gs,rfl,hm,hf2⟩;obtain⟨ao,cp,hv⟩:=z0d hm.own;subst hv;have HM:=hid hm;have j0:=hid hf2;clear hm hf2))
 go_ret;refine⟨_,gn,_,gs,rfl,⟨z0a _ _,?_,HG.out,?_,?_⟩,(HF.trans j0.out).alloc _⟩
 ·have h1:=HF.size;have h2:=j0.size;omega
 ·exact(HB.fresh j0.out).fresh ((mRf _ _).alloc _)
 exact((HM.base HF.size).fresh ((mRf _ _).alloc _))
def risL(l:List Bool):Nat->Nat->List Int->List Int
 |0,_,acc=>acc
 |f+1,i,acc=>risL l f (i+1) (if l.getD i false=true then acc++[(i:Int)] else acc)
def risF(l:List Bool):List Int:=risL l l.length 0 []
theorem y1g(l a:List Bool)(h:∀t,l.getD t false=a.getD t false):∀(f i:Nat),risL l f i (Q3m a i)=Q3m a (i+f)
 |0,i=>rfl
 |f+1,i=>by
  unfold risL;rw[h i];have e:(if a.getD i false=true then Q3m a i++[(i:Int)] else Q3m a i)=Q3m a (i+1):=by
   rw[Q3m]
  rw[e,y1g l a h f (i+1),show i+1+f=i+(f+1) by omega]
theorem y00(a:List Bool)(n:Nat)(h:∀t,n<=t->a.getD t false=false):∀k,Q3m a (n+k)=Q3m a n
 |0=>rfl
 |k+1=>by
  rw[show n+(k+1)=(n+k)+1 by omega,Q3m,h (n+k) (by omega)];simp only[qF,qAp];exact y00 a n h k
theorem x0m{l a:List Bool}(h:∀t,l.getD t false=a.getD t false)(hn:l.length<=9):risF l=Q28 a:=by
 unfold risF Q28;have e:=y1g l a h l.length 0;rw[qBi]at e;rw[show([]:List Int)=Q3m a 0 from rfl,e];have m:=y00 a l.length (fun t ht=>by rw[← h t,qD,qN ht];rfl) (9-l.length);rw[show l.length+(9-l.length)=9 by omega]at m;exact m.symm
theorem v1v(l:List Bool)(n i:Nat)(acc:List Int)(h:i<n):risL l (n-i) i acc=risL l (n-(i+1)) (i+1) (if l.getD i false=true then acc++[(i:Int)] else acc):=by
 rw[show n-i=(n-(i+1))+1 by omega];rfl
def RisRet(w:World)(l:List Int)(e:Ending)(w':World):Prop:=∃v,e=.returned v/\IntOwn w' w.heap.size v l/\Q0a w w'
theorem y1h(w:World)(g n:Nat)(l:List Bool)(hB:Q1y w g l)(hl:l.length=n)(hn:n<=100) :
  Calls Tryz.prog 37 #[bsl g n] w fun e w'=>RisRet w (risF l) e w':=by
 obtain⟨i1,hi1,hy0,hy1,hy2⟩:=Q6o;have HB:=hid hB;have HL:=hid hl;have hV:risL l n 0 []=risF l:=by unfold risF;rw[hl]
 generalize risF l=V at hV;have HV:=hid hV;clear hB hl hV;go_enter Tryz.func37,Tryz.ntmps37
 go_wp2;go_loopw [3,4] (fun x3 x4 wr=>∃(i:Nat) (acc:List Int),x4=.int .i64 i/\i<=n/\acc.length<=i/\wr.ownsRow w.heap.size 3 1 x3 acc.length (Q5w acc)/\Q0a w wr/\risL l (n-i) i acc=V)
   (fun _ x _=>1001-(intOf x).toNat)
 case atStart=>exact⟨0,[],rfl,by omega,by simp,World.ownsRow_nil _ _ _ _,mRf _ _,HV.out⟩
 obtain⟨i,acc,rfl,hi,hal,hown,hfr,hrec⟩:=hrel;have j1:=hid (Q15 (B:=1001) i (by omega));have HF:=hid hfr;have HO:=hid hown;obtain⟨ao,cp,hv⟩:=z0d hown;subst hv;have j4:w.heap.size<=wr.heap.size:=hfr.size;by_cases hlt:i<n
 ·have k1:(i:Int)<(n:Int):=by omega
  rw[v1v _ _ _ _ hlt]at hrec;have c1:=(HB.fresh hfr).cell (j:=i) (by rw[HL.out];exact hlt);generalize l.getD i false=lb at hrec c1;have j0:=hid hrec;clear hrec hown hfr;cases lb
  ·go_wp2;go_roundw
   case rel=>exact⟨i+1,acc,by go_num,by omega,by omega,HO.out,HF.out,j0.out⟩
   exact j1.out
  go_wp2_with (first
   |(at_builtin;refine z0g _ rfl _ _ 22 rfl w.heap.size 3 i1 _ 1 8 Tryz.underlying22 hi1 hy0 hy1 hy2 rfl (by decide) (.slice ao acc.length cp) acc.length (Q5w acc) rfl (World.ownsRow.alloc HO.out _) ⟨wr.heap.size,0,none⟩ 1 1 [.int .i64 i] rfl rfl (z0l rfl) (by intro u hu;simp at hu;subst hu;rfl) (by unfold maxLen;omega) (by omega) (by simp;omega) ?_;intro v9 w4 hown2 hgrow hblk;have j3:=hid hown2;have j2:=hid (Mod.grown (S:=fun _=>False) (HF.alloc _) hgrow (fun k hk hlt=>by have:=(HO.lt k hk).1;omega));clear hown2 hgrow hblk))
  go_roundw
  case rel=>exact⟨i+1,acc++[(i:Int)],by go_num,by omega,by simp;omega,by have:=j3.out;simpa [Q5w]using this,j2.out,j0.out⟩
  exact j1.out
 have k1:¬(i:Int)<(n:Int):=by omega
 have hz:n-i=0:=by omega
 rw[hz]at hrec;have j0:=hid hrec;clear hrec hown hfr hz;go_wp2;go_ret;refine⟨_,rfl,?_,HF.out⟩;have:=j0.out;unfold risL at this;rw[← this];exact HO.out
end Go.Proofs.YtcpceafmlgaodaaGreat
