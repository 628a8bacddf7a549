import Derived.Test.YtbdpfmalabgmbaaGreatRe3
import Derived.Laws.IdiomCopy
import Derived.Test.YtbdpfmalabgmbaaGreatRows
import Derived.ProofKit
namespace Go.Proofs.YtbdpfmalabgmbaaGreat
open Go.RowKit
set_option maxRecDepth 99999
set_option maxHeartbeats 0
set_option linter.all false
theorem y57(s t:ByteArray)(w:World)(hs:s.size<=maxLen)(ht:t.size<=maxLen)(hl:800<s.size∨200<t.size) :
  Calls Tryz.prog 5 #[.string s,.string t] w fun e w'=>Q2a s (Q7i 1 0) w e w':=by
 unfold maxLen at ht hs;by_cases h8:800<s.size
 ·have h1:(800:Int)<(s.size:Int):=by omega
  clear hl;go_enter Tryz.func5,Tryz.ntmps5
  go_wp2;exact qAc (z0l rfl _ _ w.heap.size 26 Q66 (0,0) _ rfl (z0a _ _) qCl rfl Q29) rfl (Q2a.bad ((mRf _ w).alloc _))
 have h1:¬(800:Int)<(s.size:Int):=by omega
 have h2:(200:Int)<(t.size:Int):=by omega
 clear hl;go_enter Tryz.func5,Tryz.ntmps5
 go_wp2;exact qAc (z0l rfl _ _ w.heap.size 26 Q66 (0,0) _ rfl (z0a _ _) qCl rfl Q29) rfl (Q2a.bad ((mRf _ w).alloc _))
theorem x8m(s t:ByteArray)(w:World)(hs:s.size<=800)(ht:t.size<=200)(hc:(Q0u s).1≠0) :
  Calls Tryz.prog 5 #[.string s,.string t] w fun e w'=>Q2a s (Q7i (Q0u s).1 0) w e w':=by
 have RD:=hid (fun w=>y6g s w (by unfold maxLen;omega));unfold Q9y at RD;have c0:((Q0u s).1 != 0)=true:=by simpa using hc
 have j4:¬(200:Int)<(t.size:Int):=by omega
 have j5:¬(800:Int)<(s.size:Int):=by omega
 have j1:Hid (∀w,Calls Tryz.prog 18 #[.string s] w fun e w'=>∃(p:Value) (pl:Int),e=.returned (.tuple #[p,.int .i64 (Q0u s).1,.int .i64 pl])/\Q0a w w'):=hid (fun w=>(RD.out w).mono (by
  rintro e w'⟨p,pl,h1,h2,_⟩;exact⟨p,pl,h1,h2⟩))
 generalize(Q0u s).1=E at j1 c0;clear hc RD;go_enter Tryz.func5,Tryz.ntmps5
 go_wp2_with (first
  |(refine qAg rfl 26 _ _ rfl w.heap.size Q66 rfl rfl _ _ j2.out Q29 rfl (z2f _ _ _ _ rfl rfl rfl) ?_)
  |(go_at_call 18;refine(j1.out _).mono ?_;rintro e w1⟨p,pl,rfl,j0⟩;have j3:=hid j0;have j2:=hid (j0.at (z0a w _) id);clear j0))
 refine qAc (z0l rfl _ _ w.heap.size 26 Q66 (0,0) _ rfl (qAn _ _ _ _ _ _ j2.out) qCl rfl Q29) rfl (Q2a.bad ?_);exact(Mod.trans ((mRf _ w).alloc _) j3.out).setRow (fun h=>absurd h (qBw _)) _
def ReadB(s:ByteArray)(w:World)(e:Ending)(w':World):Prop :=
 ∃(b:Nat) (pl:Int) (X:SP) (v0 v1 v2 v3 v4:Value) (sv:List Value),e=.returned (.tuple #[.pointer (some ⟨b,0,none⟩),.int .i64 0,.int .i64 pl])/\Q3q w' b (nR s) (nH s) (Q0e (nR s) (Q8b s))/\Q2f w' b X v0 v1 v2 v3 v4 sv/\Q7s (Q0i s) X.rules/\X.rules.length<=1000/\Q0a w w'
theorem x54(s:ByteArray)(w:World)(hs:s.size<=800)(hc:(Q0u s).1=0):Calls Tryz.prog 18 #[.string s] w fun e w'=>ReadB s w e w':=by
 refine(y6g s w (by unfold maxLen;omega)).mono ?_;rintro e w'⟨p,pl,rfl,hf,_,_,h⟩;obtain⟨b,xs,_,rfl,hX,hO⟩:=h hc;have j0:=z2w hc;obtain⟨v0,v1,v2,v3,v4,sv,hA⟩:=hX.at
 have j1:=hO.bd.rules;exact⟨b,pl,_,v0,v1,v2,v3,v4,sv,by rw[hc],v2t hX (x72 j0 hO),hA,x7y hs hO,by omega,hf⟩
theorem x1i(s t:ByteArray)(w:World)(hs:s.size<=800)(ht:t.size<=200)(hc:(Q0u s).1=0)(hcl:Q13 s≠[]) :
  Calls Tryz.prog 5 #[.string s,.string t] w fun e w'=>Q2a s (Q7i 8 0) w e w':=by
 have RD:=hid (fun w=>x54 s w hs hc);unfold ReadB at RD;have j3:=z2w hc;have j2:=y8b j3;have j0:=y07 hc;have j1:=x37 j3;have CL:=hid (fun(W:World) (b:Nat) (hS:Q3q W b (nR s) (nH s) (Q0e (nR s) (Q8b s)))=>z74 W b _ _ _ j1 hS (by rw[j2];exact j0));rw[j2]at CL;have jc:(0:Int)<((Q13 s).length:Int):=by have:=List.length_pos_iff.2 hcl;omega
 have jd:¬(200:Int)<(t.size:Int):=by omega
 have je:¬(800:Int)<(s.size:Int):=by omega
 generalize Q13 s=CF at CL jc;clear hcl hc j3 j2 j0 j1;go_enter Tryz.func5,Tryz.ntmps5
 go_wp2_with (first
  |(refine qAg rfl 26 _ _ rfl w.heap.size Q66 rfl rfl _ _ j6.out Q29 rfl (z2f _ _ _ _ rfl rfl rfl) ?_)
  |(go_at_call 18;refine(RD.out _).mono ?_;rintro e w1⟨b,pl,X,v0,v1,v2,v3,v4,sv,rfl,j7,_,_,_,j4⟩;have ja:=hid j7;have j8:=hid (Mod.trans ((mRf _ w).alloc _) j4);have jb:=hid (j4.at (z0a w _) id);clear j7 j4)
  |(go_at_call 19;refine(CL.out _ b ja.out).mono ?_;rintro e w2⟨v,rfl,hO,j5⟩;obtain⟨ao,cp,hv⟩:=z0c hO;subst hv;have j9:=hid j5;have j6:=hid (j5.at jb.out id);clear hO j5))
 refine qAc (z0l rfl _ _ w.heap.size 26 Q66 (0,0) _ rfl (qAn _ _ _ _ _ _ j6.out) qCl rfl Q29) rfl (Q2a.bad ?_);exact(j8.trans j9.out).setRow (fun h=>absurd h (qBw _)) _
theorem x4i{toks:List Tk}{p n:Nat}:Q49 toks p n=if h:p<toks.length then toks[p].a else n:=by
 unfold Q49;rw[qAa (by omega),qAo];by_cases h:p<toks.length
 ·rw[qEt h,qE h]
 rw[qFm h,qN (by omega)]
theorem x5w(s t:ByteArray)(w:World)(hs:s.size<=800)(ht:t.size<=200)(hc:(Q0u s).1=0)(hcl:Q13 s=[]) :
  Calls Tryz.prog 5 #[.string s,.string t] w fun e w'=>Q2a s (runG s t (Q3r (Q0i s) t)) w e w':=by
 obtain⟨i1,xa,xg,xh,xi⟩:=Q6z;have RD:=hid (fun w=>x54 s w hs hc);unfold ReadB at RD;have k2:=z2w hc;have k0:=y8b k2;have jh:=y07 hc;have j8:=x37 k2;have CL:=hid (fun(W:World) (b:Nat) (hS:Q3q W b (nR s) (nH s) (Q0e (nR s) (Q8b s)))=>z74 W b _ _ _ j8 hS (by rw[k0];exact jh));rw[k0,hcl]at CL;have ZP:Hid (∀(W:World) (b:Nat) (ka:Option Addr) (kc:Nat) (l:List Int),Q3q W b (nR s) (nH s) (Q0e (nR s) (Q8b s))->Q1c W (.slice ka l.length kc) l->l.length<=60->Q1z (nR s) l=true->Calls Tryz.prog 22 #[.pointer (some ⟨b,0,none⟩),.slice ka l.length kc] W fun e w'=>ParRet s (Q24 s l) W e w'):=hid (fun W b ka kc l hS hk hl hko=>x1o W b _ _ _ _ (y9p hc hcl) hS j8.qk ka kc l hk hl hko);have jn:=z6d s t;have j0:=x2j (Q0i s) t (t.size+1) 0 [] (by omega) (by omega);have ko:Q93 (Q0i s) t (t.size+1) 0 []=Q3r (Q0i s) t:=rfl;rw[List.filter_nil,ko]at j0;obtain⟨z1,z2,z3⟩:=y91 (Q0i s) t (t.size+1) 0 [] (by omega) (by simp) (fun k hk=>by(cases hk));have CU:=hid (fun(W:World) (b:Nat) (X:SP) (v0 v1 v2 v3 v4:Value) (sv:List Value) (h:Q2f W b X v0 v1 v2 v3 v4 sv) (hR:Q7s (Q0i s) X.rules) (hn:X.rules.length<=1000)=>x8n W b X v0 v1 v2 v3 v4 sv (Q0i s) t h hR hn ht);unfold CutRet at CU;generalize Q3r (Q0i s) t=C at j0 jn ⊢;generalize Q6t (Q0i s) t (t.size+1) 0 []=Z at j0 z1 z2 z3 CU;obtain⟨ts,zp⟩:=Z;dsimp only at j0 z1 z2 z3 CU;have kk:=hid z1;have xc:¬(200:Int)<(t.size:Int):=by omega
 have xd:¬(800:Int)<(s.size:Int):=by omega
 have xm:decide ((200:Int)<(t.size:Int))=false:=qCa xc;have xn:decide ((800:Int)<(s.size:Int))=false:=qCa xd;clear hcl hc k2 k0 jh j8 ko z1;go_enter Tryz.func5,Tryz.ntmps5
 go_upto_region 10 with(first
  |(go_at_call 18;refine(RD.out _).mono ?_;rintro e w1⟨b,pl,X,v0,v1,v2,v3,v4,sv,rfl,kt,kn,ks,ky,k3⟩;have jv:=hid kt;have jp:=hid kn;have ju:=hid ks;have js:=hid ky;have kz:=hid (Mod.trans ((mRf _ w).alloc _) k3);have kr:=hid (k3.at (z0a w _) id);clear kt k3 kn ks ky)
  |(go_at_call 19;refine(CL.out _ b jv.out).mono ?_;rintro e w2⟨v,rfl,hO,ku⟩;obtain⟨ao,cp,hv⟩:=z0c hO;subst hv;have ke:=hid ku;clear hO ku)
  |(go_at_call 20;refine(CU.out _ b X v0 v1 v2 v3 v4 sv (jp.fresh ke.out) ju.out js.out).mono ?_;rintro e w3⟨v,rfl,kv,k8⟩;obtain⟨ta,tc,hv⟩:=z0c k8;subst hv;have jj:=hid (ke.trans kv);have kh:=hid k8;clear kv k8))
 have jk:=hid (jj.at kr.out id);have kg:=hid (kz.trans jj.out);clear CL CU RD;by_cases kd:0<=zp
 ·rw[qAb kd]at j0;have ja:Hid (runG s t C=Q7i 9 zp):=hid (by rw[j0];unfold runG;rw[qAb (by simp)]);clear j0;go_wp2_with (first
   |(refine qAg rfl 26 _ _ rfl w.heap.size (Q7o (.slice none 0 0) (.slice none 0 0) (.slice none 0 0) zp) rfl rfl _ _ jk.out Q29 rfl (z2f _ _ _ _ rfl rfl rfl) ?_))
  refine qAc (z0l rfl _ _ w.heap.size 26 (Q7o (.slice none 0 0) (.slice none 0 0) (.slice none 0 0) zp) (0,0) _ rfl (qAn _ _ _ _ _ _ jk.out) qCl rfl Q29) rfl ?_;rw[ja.out];exact Q2a.bad (kg.setRow (fun h=>absurd h (qBw _)) _)
 rw[qAa kd]at j0;have KE:=hid (x51 w3 b _ X v0 v1 v2 v3 v4 _ sv (Q0i s) ts (jp.fresh jj.out) ju.out js.out (by omega) kh.out kk.out);have jz:C.1=ts.filter (fun k=>!Q27 (Q0i s) k.r):=by rw[j0]
 rw[← jz]at KE;have x8:C.1.length<=200:=by
  rw[jz];have:=qCc (fun k:Tk=>!Q27 (Q0i s) k.r) ts;omega
 have ja:Hid (runG s t C=if 60<C.1.length then Q7i 1 0 else if(Q24 s (C.1.map Tk.r)).err≠0 then⟨(Q24 s (C.1.map Tk.r)).err,[],[],(Q24 s (C.1.map Tk.r)).wanted,Q49 C.1 (Q24 s (C.1.map Tk.r)).place t.size⟩ else⟨0,C.1,(Q24 s (C.1.map Tk.r)).st,[],0⟩):=hid (by unfold runG;rw[qAa (by rw[j0];simp)]);have xj:zp=-1:=by omega
 clear j0 jz z2 z3 kd kk kh;subst xj;obtain⟨K,e1,e2⟩:=C;dsimp only at KE x8 ja jn;go_upto_region 13 with(first
  |(go_at_call 21;refine(KE.out).mono ?_;rintro e w4⟨v9,rfl,kw,k9⟩;obtain⟨la,lc,hv⟩:=z0c k9.own;subst hv;have jq:=hid kw;have ki:=hid k9;clear kw k9))
 have jc:=hid (kg.trans jq.out);have jl:=hid (jq.at jk.out id);have x6:=hid (jv.fresh (jj.trans jq.out));clear KE jv jp ju js kr jk;by_cases km:60<K.length
 ·have h6:(60:Int)<(K.length:Int):=by omega
  have j1:Hid (runG s t (K,e1,e2)=Q7i 1 0):=hid (by rw[ja.out,qAb km]);go_wp2_with (first
   |(refine qAg rfl 26 _ _ rfl w.heap.size Q66 rfl rfl _ _ jl.out Q29 rfl (z2f _ _ _ _ rfl rfl rfl) ?_))
  refine qAc (z0l rfl _ _ w.heap.size 26 Q66 (0,0) _ rfl (qAn _ _ _ _ _ _ jl.out) qCl rfl Q29) rfl ?_;rw[j1.out];exact Q2a.bad (jc.setRow (fun h=>absurd h (qBw _)) _)
 have h6:¬(60:Int)<(K.length:Int):=by omega
 have xl:decide ((60:Int)<(K.length:Int))=false:=qCa h6;have j1:=hid ja.out;rw[qAa km]at j1;have xo:w.heap.size<w4.heap.size:=z0j jl.out;have jy:=hid (fun(W:World) (ka:Option Addr) (kc:Nat) (hS:Q3q W b (nR s) (nH s) (Q0e (nR s) (Q8b s))) (hk:Q1c W (.slice ka (K.map Tk.r).length kc) (K.map Tk.r))=>ZP.out W b ka kc (K.map Tk.r) hS hk (by simpa using(by omega:K.length<=60)) jn);unfold ParRet at jy;clear ja ZP;go_wp2;go_loopw [12,13] (fun x12 x13 wr=>∃i:Nat,x13=.int .i64 i/\i<=K.length/\wr.ownsRow w4.heap.size 3 1 x12 i (Q9p ((K.take i).map Tk.r))/\Q0a w4 wr)
   (fun _ x _=>1001-(intOf x).toNat)
 case atStart=>exact⟨0,rfl,by omega,qAh _ _ _ _,mRf _ _⟩
 obtain⟨i,rfl,hi,j9,j3⟩:=hrel;have x3:=hid (Q19 (B:=1001) i (by omega));have HO:=hid j9;have HF:=hid j3;obtain⟨ka,kc,xb⟩:=z0c j9;subst xb;have xp:w4.heap.size<=wr.heap.size:=j3.size;have hV:=ki.fresh j3;clear j9;by_cases k4:i<K.length
 ·have s1:(i:Int)<(K.length:Int):=by omega
  obtain⟨g,c',jg⟩:=Joins.ownsRow_form hV.own (by omega);rw[qI]at jg;obtain⟨rfl,_,rfl⟩:=jg;have c0:=hV.cell i 0 k4 (by omega);have k7:K.take (i+1)=K.take i++[K[i]]:=Q6e k4;simp[Tk.cells]at c0;generalize K[i]=k at c0 k7;have x7:=hid k7;clear hV k7 j3;go_wp2_with (first
   |(at_builtin;refine z0f _ rfl _ _ 24 rfl w4.heap.size 3 i1 _ 1 8 qDq xa xg xh xi rfl (by decide) (.slice ka i kc) i (Q9p ((K.take i).map Tk.r)) rfl (qFq HO.out _) ⟨wr.heap.size,0,none⟩ 1 1 [.int .i64 k.r] rfl rfl (z0m rfl) (by intro u hu;simp at hu;subst hu;rfl) (by unfold maxLen;omega) (by omega) (by simp;omega) ?_;intro v9 w6 j5 j4 k1;have x5:=hid j5;have x2:=hid (Mod.grown (S:=fun _=>False) (HF.alloc _) j4 (fun k hk k4=>by have:=(HO.lt k hk).1;omega));clear j5 j4 k1))
  go_roundw
  case rel=>exact⟨i+1,by go_num,by omega,by rw[x7.out];have:=x5.out;simpa [Q9p]using this,x2.out⟩
  exact x3.out
 have s1:¬(i:Int)<(K.length:Int):=by omega
 obtain rfl:i=K.length:=by omega
 have hO:=HO.out;rw[qAw]at hO;have jo:(K.map Tk.r).length=K.length:=by simp
 have kp:Q1c wr (.slice ka (K.map Tk.r).length kc) (K.map Tk.r):=by
  rw[jo];exact IntOwn.at' (base:=w4.heap.size) (by unfold IntOwn;rw[jo];exact hO)
 have jb:=hid (jy.out wr ka kc (x6.fresh j3) kp);rw[jo]at jb;generalize Q24 s (K.map Tk.r)=G at jb j1;obtain⟨ge,gw,gp,kl⟩:=G;dsimp only at jb j1;generalize hNF:Q1p (Q8b s) kl=NF at jb;have x4:=hid hNF;have kq:=hid (j3.at jl.out id);have x0:=hid (jc.trans j3);have kj:=hid hV;clear hO jo kp jy jn hNF hV j3 HO;go_upto_region 21 with(first
  |(go_at_call 22;refine(jb.out).mono ?_;rintro e w7⟨vn,vw,rfl,kx,k5,kb⟩;obtain⟨na,nc,xe⟩:=z0c k5;subst xe;obtain⟨wa,wc,xf⟩:=z0c kb;subst xf;have jt:=hid k5;have jx:=hid kb;have x1:=hid kx;clear k5 kb kx)
  |(refine z0e rfl 50 _ _ rfl w7 _ (Q6m (.slice na NF.length nc) (.slice wa gw.length wc) gp) _ rfl rfl rfl Q7d rfl (z53 _ _ _ rfl rfl) ?_))
 have jm:Q0a w7 (w7.alloc (.cells (Q6m (.slice na NF.length nc) (.slice wa gw.length wc) gp) 50)):=(mRf _ w7).alloc _;have jd:=z0a w7 (.cells (Q6m (.slice na NF.length nc) (.slice wa gw.length wc) gp) 50);generalize(w7.alloc (.cells (Q6m (.slice na NF.length nc) (.slice wa gw.length wc) gp) 50))=W8 at jm jd ⊢;have j6:=hid (x1.trans jm);have b0:W8.cell? ⟨w7.heap.size,0,none⟩=some (.slice na NF.length nc):=Q0b jd 0;have b1:W8.cell? ⟨w7.heap.size,1,none⟩=some (.slice wa gw.length wc):=Q0b jd 1;have b2:W8.cell? ⟨w7.heap.size,2,none⟩=some (.int .i64 gp):=Q0b jd 2;have j7:=hid (j6.at kq.out id);have kf:=hid jm;have jr:=hid (x0.trans j6.out);have je:=kj.fresh j6.out;have jw:=hid je;have ji:w.heap.size<wr.heap.size:=z0j kq.out;clear jb jm jd kj ki;have tail:Hid (∀(cs:Array Value),Q43 (W8.setRow w.heap.size cs) (.slice la K.length lc) K/\Q2x (W8.setRow w.heap.size cs) w.heap.size (.slice na NF.length nc) NF/\IntOwn (W8.setRow w.heap.size cs) w.heap.size (.slice wa gw.length wc) gw):=hid (fun cs=>by
  refine⟨⟨z0d jw.own (fun g hg=>qCx _ _ _ _ ?_),jw.wf⟩,z0g (z0d jt.out (fun g hg=>?_)) (qFd ji),z0g (z0d jx.out (fun g hg=>?_)) (qFd ji)⟩
  ·intro e;obtain⟨xk,x9⟩:=z2z jw.own hg;exact x1e x9 j7.out (by decide) e
  ·have:=(jt.lt g hg).1;rw[qCx _ _ _ _ (by omega)];exact kf.block g (jt.lt g hg).2 id
  have:=(jx.lt g hg).1;rw[qCx _ _ _ _ (by omega)];exact kf.block g (jx.lt g hg).2 id)
 by_cases jf:ge=0
 ·have j2:=hid j1.out;rw[qAa (by simp[jf])]at j2;subst jf;clear j1;go_wp2_with (first
   |(refine qAg rfl 26 _ _ rfl w.heap.size (Q7o (.slice la K.length lc) (.slice na NF.length nc) (.slice none 0 0) 0) rfl rfl _ _ j7.out Q29 rfl (z2f _ _ _ _ rfl rfl rfl) ?_))
  refine qAc (z0l rfl _ _ w.heap.size 26 (Q7o (.slice la K.length lc) (.slice na NF.length nc) (.slice none 0 0) 0) (0,0) _ rfl (qAn _ _ _ _ _ _ j7.out) qCl rfl Q29) rfl ?_;rw[j2.out];refine⟨_,_,_,rfl,jr.setRow (fun h=>absurd h (qBw _)) _,(tail.out _).1,?_,qAh _ _ _ _⟩;show Q2x _ _ _ (Q1p (Q8b s) kl);rw[x4.out];exact(tail.out _).2.1
 have j2:=hid j1.out;rw[qAb jf,x4i]at j2;have c0:(ge != 0)=true:=by simpa using jf
 clear j1 jf;by_cases k6:gp<K.length
 ·have s2:(gp:Int)<(K.length:Int):=by omega
  rw[qEt k6]at j2;obtain⟨g,c',jg⟩:=Joins.ownsRow_form je.own (by omega);rw[qI]at jg;obtain⟨rfl,_,rfl⟩:=jg;have c1:=je.cell gp 1 k6 (by omega);simp[Tk.cells]at c1;generalize K[gp]=k at c1 j2;clear je;go_wp2_with (first
   |(refine qAg rfl 26 _ _ rfl w.heap.size (Q7o (.slice none 0 0) (.slice none 0 0) (.slice wa gw.length wc) k.a) rfl rfl _ _ j7.out Q29 rfl (z2f _ _ _ _ rfl rfl rfl) ?_))
  refine qAc (z0l rfl _ _ w.heap.size 26 (Q7o (.slice none 0 0) (.slice none 0 0) (.slice wa gw.length wc) k.a) (0,0) _ rfl (qAn _ _ _ _ _ _ j7.out) qCl rfl Q29) rfl ?_;rw[j2.out];exact⟨_,_,_,rfl,jr.setRow (fun h=>absurd h (qBw _)) _,Q18.nil _ _ _ _,qAh _ _ _ _,(tail.out _).2.2⟩
 have s2:¬(gp:Int)<(K.length:Int):=by omega
 rw[qFm k6]at j2;clear je;go_wp2_with (first
  |(refine qAg rfl 26 _ _ rfl w.heap.size (Q7o (.slice none 0 0) (.slice none 0 0) (.slice wa gw.length wc) t.size) rfl rfl _ _ j7.out Q29 rfl (z2f _ _ _ _ rfl rfl rfl) ?_))
 refine qAc (z0l rfl _ _ w.heap.size 26 (Q7o (.slice none 0 0) (.slice none 0 0) (.slice wa gw.length wc) t.size) (0,0) _ rfl (qAn _ _ _ _ _ _ j7.out) qCl rfl Q29) rfl ?_;rw[j2.out];exact⟨_,_,_,rfl,jr.setRow (fun h=>absurd h (qBw _)) _,Q18.nil _ _ _ _,qAh _ _ _ _,(tail.out _).2.2⟩
theorem x8l(s t:ByteArray)(w:World)(hs:s.size<=maxLen)(ht:t.size<=maxLen) :
  Calls Tryz.prog 5 #[.string s,.string t] w fun e w'=>Q2a s (Q82 s t) w e w':=by
 by_cases h2:200<t.size
 ·have e:Q82 s t=Q7i 1 0:=by unfold Q82;rw[qAb h2]
  rw[e];exact y57 s t w hs ht (.inr h2)
 by_cases h8:800<s.size
 ·have e:Q82 s t=Q7i 1 0:=by unfold Q82;rw[qAa h2,x6c h8,qAb (by decide)]
  rw[e];exact y57 s t w hs ht (.inl h8)
 by_cases hc:(Q0u s).1=0
 ·by_cases j0:Q13 s=[]
  ·have e:Q82 s t=runG s t (Q3r (Q0i s) t):=by unfold Q82;rw[qAa h2,qAa (by simp[hc]),qAa (by simp[j0])]
   rw[e];exact x5w s t w (by omega) (by omega) hc j0
  have e:Q82 s t=Q7i 8 0:=by unfold Q82;rw[qAa h2,qAa (by simp[hc]),qAb j0]
  rw[e];exact x1i s t w (by omega) (by omega) hc j0
 have e:Q82 s t=Q7i (Q0u s).1 0:=by unfold Q82;rw[qAa h2,qAb hc]
 rw[e];exact x8m s t w (by omega) (by omega) hc
section
variable {P:Program}(w:World)
end
theorem x0k(w:World)(va vb:Value)(l:List Int)(ha:Q1c w va l)(hb:Q1c w vb l)(hl:l.length<=1000000000000000) :
  Calls Tryz.prog 8 #[va,vb] w fun e w'=>e=.returned (.bool true)/\∃m,w'=w.drewN m:=by
 obtain⟨aa,ca,rfl,j6,j0⟩:=ha;obtain⟨ab,cb,rfl,j7,j1⟩:=hb;have CA:=hid j0;have CB:=hid j1;clear j0 j1;go_enter Tryz.func8,Tryz.ntmps8
 go_wp2;go_loopw [5] (fun x5 wr=>∃(i m:Nat),x5=.int .i64 i/\wr=w.drewN m/\i<=l.length) (fun x _=>1000000000000001-(intOf x).toNat)
 case atStart=>exact⟨0,0,rfl,rfl,by omega⟩
 obtain⟨i,m,rfl,rfl,hi⟩:=hrel;have j5:=hid (Q19 (B:=1000000000000001) i (by omega));by_cases j4:i<l.length
 ·have k1:(i:Int)<(l.length:Int):=by omega
  obtain⟨g,o,rfl,j2⟩:=CA.out i j4;obtain⟨g2,o2,rfl,j3⟩:=CB.out i j4;have u1:=Q0h (Q0v w m) j2;have u2:=Q0h (Q0v w m) j3;generalize l[i]=c at u1 u2;generalize hW:w.drewN m=wr at u1 u2 ⊢;have HW:=hid hW;clear hW j2 j3;go_wp2;go_quiet (fail);go_wp2;go_roundw
  case rel=>exact⟨i+1,m+nq,by go_num,by rw[← HW.out,qDu],by omega⟩
  exact j5.out
 have k1:¬(i:Int)<(l.length:Int):=by omega
 go_wp2;go_ret;exact⟨rfl,m,rfl⟩
attribute [local go_sem ↓] y2n
theorem y63(w:World)(va vb:Value)(l:List Nd)(ha:NdsAt w va l)(hb:NdsAt w vb l)(hl:l.length<=10000000000000) :
  Calls Tryz.prog 7 #[va,vb] w fun e w'=>e=.returned (.bool true)/\∃m,w'=w.drewN m:=by
 obtain⟨aa,ca,j4⟩:=z0c ha.own;subst j4;obtain⟨ab,cb,j5⟩:=z0c hb.own;subst j5;have HA:=hid ha;have HB:=hid hb;clear ha hb;go_enter Tryz.func7,Tryz.ntmps7
 go_wp2;go_loopw [5] (fun x5 wr=>∃(i:Nat),x5=.int .i64 i/\i<=l.length/\∃m,wr=w.drewN m)
  (fun x _=>10000000000001-(intOf x).toNat)
 case atStart=>exact⟨0,rfl,by omega,0,rfl⟩
 obtain⟨i,rfl,hi,m,j3⟩:=hrel;subst j3;have j2:=hid (Q19 (B:=10000000000001) i (by omega));by_cases j1:i<l.length
 ·have j7:(i:Int)<(l.length:Int):=by omega
  obtain⟨g,c',hg⟩:=Joins.ownsRow_form HA.own (by omega);rw[qI]at hg;obtain⟨rfl,_,rfl⟩:=hg;obtain⟨g2,j6,j0⟩:=Joins.ownsRow_form HB.own (by omega);rw[qI]at j0;obtain⟨rfl,_,rfl⟩:=j0;have r1:=HA.range i j1;have r2:=HB.range i j1;generalize l[i]=li at r1 r2;obtain⟨p,k,a,s⟩:=li;have l1:∀m,(ldN (.pointer (some ⟨g,i*4,none⟩))).run Tryz.prog (w.drewN m)=.ok (.agg (ndA p k a s)) (w.drewN m):=fun m=>x3m (w:=w.drewN m) (z0t r1 rfl);have l2:∀m,(ldN (.pointer (some ⟨g2,i*4,none⟩))).run Tryz.prog (w.drewN m)=.ok (.agg (ndA p k a s)) (w.drewN m):=fun m=>x3m (w:=w.drewN m) (z0t r2 rfl);have q1:∀w,(Op.equalIn 10000 67 (.agg (ndA p k a s)) (.agg (ndA p k a s))).run Tryz.prog w=.ok true w:=fun w=>eqNd 9996 p k a s w;have g1:=guardNd;clear r1 r2;go_wp2_with fail
  go_quiet (fail);go_wp2;go_roundw
  case rel=>exact⟨i+1,by go_num,by omega,_,rfl⟩
  exact j2.out
 have j8:¬(i:Int)<(l.length:Int):=by omega
 go_wp2;go_ret;exact⟨rfl,m,rfl⟩
theorem x24{ps:List Pr}{hs:List Hd}{R H:Nat}:∀(l:List Int) (a:Nat) (k:List Sy) (st:List St),(Q6k ps hs R H l a k st).wanted.length<=9
 | [],a,k,st=>by
  unfold Q6k;split
  ·simp
  exact z4b _
 |t::l,a,k,st=>by
  unfold Q6k;split
  ·exact x24 l _ _ _
  exact z4b _
theorem v1h(s t:ByteArray):(Q82 s t).toks.length<=60/\(Q82 s t).wanted.length<=9/\(Q82 s t).st.length<=61*2000000000:=by
 unfold Q82;split
 ·simp[Q7i]
 split
 ·simp[Q7i]
 split
 ·simp[Q7i]
 rename_i h1 h2 h3;have hk:=z6d s t;unfold runG;split
 ·simp[Q7i]
 split
 ·simp[Q7i]
 rename_i h4 h5;split
 ·exact⟨by simp,x24 _ _ _ _,by simp⟩
 exact⟨by dsimp only;omega,by simp,(v0b (by simpa using h2) (by simpa using h3) _ hk (by simp;omega)).1⟩
theorem v1a(s t:ByteArray)(w:World)(hs:s.size<=maxLen)(ht:t.size<=maxLen) :
  Calls Tryz.prog 3 #[.string s,.string t] w fun e w'=>e=.returned (.bool true)/\Q0a w w':=by
 have RA:=hid (v1i s t w hs ht);have RB:=hid (fun W=>x8l s t W hs ht);unfold Q2a at RA RB;obtain⟨ju,jv,jd⟩:=v1h s t;have j6:=z7b (Q8b s) (Q82 s t).st;generalize Q82 s t=G at RA RB ju jv jd j6;obtain⟨ge,gt,k9,gw,gp⟩:=G;dsimp only at RA RB ju jv jd j6;generalize Q1p (Q8b s) k9=NF at RA RB j6;have jg:NF.length<=10000000000000:=by omega
 have NU:=hid (fun e w=>v0t e w);clear j6 jd;go_enter Tryz.func3,Tryz.ntmps3
 go_upto_region 2 with(first
  |(go_at_call 4;refine(RA.out).mono ?_;rintro e w4⟨vt,vn,vw,rfl,jw,jk,ji,jp⟩;obtain⟨ta,tc,jn⟩:=z0c jk.own;subst jn;obtain⟨na,nc,jm⟩:=z0c ji;subst jm;obtain⟨wa,wc,jo⟩:=z0c jp;subst jo;have k5:=hid jk;have k3:=hid ji;have k7:=hid jp;have k1:=hid jw;clear jk ji jp jw)
  |(refine z0e rfl 26 _ _ rfl w4 _ (Q7o (.slice ta gt.length tc) (.slice na NF.length nc) (.slice wa gw.length wc) gp) _ rfl rfl rfl Q29 rfl (z2f _ _ _ _ rfl rfl rfl) ?_))
 have jh:Q0a w4 (w4.alloc (.cells (Q7o (.slice ta gt.length tc) (.slice na NF.length nc) (.slice wa gw.length wc) gp) 26)):=(mRf _ w4).alloc _;have je:=z0a w4 (.cells (Q7o (.slice ta gt.length tc) (.slice na NF.length nc) (.slice wa gw.length wc) gp) 26);generalize(w4.alloc (.cells (Q7o (.slice ta gt.length tc) (.slice na NF.length nc) (.slice wa gw.length wc) gp) 26))=W5 at jh je ⊢;have P2:=hid (RB.out W5);have k2:=hid jh;have k0:=hid je;clear jh je RA RB;go_upto_region 3 with(first
  |(go_at_call 5;refine(P2.out).mono ?_;rintro e w6⟨vt,vn,vw,rfl,jx,jl,jj,jq⟩;obtain⟨xa,xc,jn⟩:=z0c jl.own;subst jn;obtain⟨ma,mc,jm⟩:=z0c jj;subst jm;obtain⟨ua,uc,jo⟩:=z0c jq;subst jo;have k6:=hid jl;have k4:=hid jj;have k8:=hid jq;have jt:=hid jx;clear jl jj jq jx)
  |(refine z0e rfl 26 _ _ rfl w6 _ (Q7o (.slice xa gt.length xc) (.slice ma NF.length mc) (.slice ua gw.length uc) gp) _ rfl rfl rfl Q29 rfl (z2f _ _ _ _ rfl rfl rfl) ?_))
 have j4:Q0a w6 (w6.alloc (.cells (Q7o (.slice xa gt.length xc) (.slice ma NF.length mc) (.slice ua gw.length uc) gp) 26)):=(mRf _ w6).alloc _;have jf:=z0a w6 (.cells (Q7o (.slice xa gt.length xc) (.slice ma NF.length mc) (.slice ua gw.length uc) gp) 26);generalize(w6.alloc (.cells (Q7o (.slice xa gt.length xc) (.slice ma NF.length mc) (.slice ua gw.length uc) gp) 26))=W7 at j4 jf ⊢;have j0:=hid (k2.trans (jt.trans j4));have j7:=hid ((jt.trans j4).at k0.out id);have j9:=hid jf;have jb:=hid j4;have a0:W7.cell? ⟨w4.heap.size,0,none⟩=some (.slice ta gt.length tc):=Q0b j7.out 0;have b0:W7.cell? ⟨w6.heap.size,0,none⟩=some (.slice xa gt.length xc):=Q0b j9.out 0;have ST:=hid (y0v W7 _ _ gt (k5.fresh j0.out) (k6.fresh jb.out) (by omega));clear j4 jf P2;go_upto_region 4 with(first
  |(go_at_call 6;refine(ST.out).mono ?_;rintro e W8⟨rfl,jy⟩;have j2:=hid jy;clear jy))
 have j8:=hid (j2.at j7.out id);have ja:=hid (j2.at j9.out id);have a1:W8.cell? ⟨w4.heap.size,1,none⟩=some (.slice na NF.length nc):=Q0b j8.out 1;have b1:W8.cell? ⟨w6.heap.size,1,none⟩=some (.slice ma NF.length mc):=Q0b ja.out 1;have SN:=hid (y63 W8 _ _ NF (Q18.fresh ⟨z0g k3.out (qBq _),fun x _=>rfl⟩ (j0.trans j2.out)) (Q18.fresh ⟨z0g k4.out (qBq _),fun x _=>rfl⟩ (jb.trans j2.out)) jg);clear a0 b0 ST j7 j9;go_upto_region 5 with(first
  |(go_at_call 7;refine(SN.out).mono ?_;rintro e W9⟨rfl,m9,jz⟩;have j3:Hid (Q0a W8 W9):=hid (by rw[jz];exact Q0v _ _);clear jz))
 have jr:=hid (j3.at j8.out id);have js:=hid (j3.at ja.out id);have a2:W9.cell? ⟨w4.heap.size,2,none⟩=some (.slice wa gw.length wc):=Q0b jr.out 2;have b2:W9.cell? ⟨w6.heap.size,2,none⟩=some (.slice ua gw.length uc):=Q0b js.out 2;have SW:=hid (x0k W9 _ _ gw (Q1c.fresh (IntOwn.at' k7.out) ((j0.trans j2.out).trans j3.out)) (Q1c.fresh (IntOwn.at' k8.out) ((jb.trans j2.out).trans j3.out)) (by omega));clear a1 b1 SN j8 ja;go_upto_region 6 with(first
  |(go_at_call 8;refine(SW.out).mono ?_;rintro e jc⟨rfl,ka,j5⟩;have j1:Hid (Q0a W9 jc):=hid (by rw[j5];exact Q0v _ _);clear j5))
 have a3:jc.cell? ⟨w4.heap.size,3,none⟩=some (.int .i64 gp):=Q0b (j1.at jr.out id) 3;have b3:jc.cell? ⟨w6.heap.size,3,none⟩=some (.int .i64 gp):=Q0b (j1.at js.out id) 3;clear a2 b2 SW;go_wp2_with (first
  |(go_at_call 9;refine csm (NU.out _ _) ?_))
 go_ret;exact⟨rfl,(k1.trans j0.out).trans (j2.trans (j3.trans j1.out))⟩
end Go.Proofs.YtbdpfmalabgmbaaGreat
namespace Go.Proofs.YtbdpfmalabgmbaaGreat
open Go.ChangeShapes Go.WideShapes Go.ChangeAt Go.RowKit
open Go.ChangeMaps (open_string shut_string)
set_option maxRecDepth 99999
set_option maxHeartbeats 0
set_option linter.all false
theorem Tryz.own:ownKnob Tryz.prog.godebug=none:=by kernel_rfl
theorem x0y(os:Os)(started:os.Started)(H:Type)(enc:TypeId × Value->H) :
  ReturnsInHanded {} Tryz.checked os 3 .any (Rows.ranSpec.pre6 enc Tryz.prog Tryz.f3 Rows.ranRow.domain false) (Rows.ranSpec.post enc Tryz.prog Tryz.f3 false true false false):=by
 refine returnsInHanded_of_change (C:=Tryz.checked) Tryz.own started (by kernel_rfl) Tryz.func3
  (ChangeSpec.witness6 (enc:=enc) (C:=Tryz.checked) false ⟨#[],#[.string ⟨#[]⟩,.string ⟨#[]⟩],[]⟩ 8 (by kernel_rfl) (by kernel_rfl) (by kernel_rfl) (by kernel_rfl)) ?_
 intro W base j2 ds gs j3 j0 hW j6 _;have j1:∀(j:Nat) t v,Tryz.f3.params[j]? = some t->j2[j]? = some v->Value.okWide Tryz.prog W .any base t v:=j0;have j5:=hW;obtain⟨p,q,j4,hV,rfl,j7,j8⟩:=hW;have hA:DataW.TrodAll enc Tryz.prog W 0 (fun _=>true) true Tryz.f3.params.toList j2.toList ds p:=j4;rw[Tryz.params3]at hA j1;obtain⟨v0,v1,d0,d1,p0,p1,rfl,rfl,rfl,h0,h1⟩:=trodAll_two hA;obtain⟨rfl,rfl⟩:=trodVars_none hV;obtain⟨s,rfl,rfl,rfl,ws⟩:=open_string Tryz.underlying9 (j1 0 9 v0 rfl rfl) h0;obtain⟨t,rfl,rfl,rfl,wt⟩:=open_string Tryz.underlying9 (j1 1 9 v1 rfl rfl) h1;clear j4 j0;simp only[qBd]at j5;refine(v1a s t W ws wt).mono fun e W' ⟨he,hF⟩=>?_;subst he;have hB:=hF.below;refine⟨_,rfl,_,_,_,[],[],[],j5,?_,?_,?_,hB.frame _,fun h=>by cases h⟩
 ·exact trodAll_mk1 (shut_bool Tryz.underlying4 true)
 ·exact trodAll_mk2 (shut_string Tryz.underlying9 ws) (shut_string Tryz.underlying9 wt)
 trivial
theorem ran_holds:Rows.RanSaid :=
 OpenClaim.holds_of_wide 3 Tryz.f3 rfl rfl rfl rfl rfl rfl rfl ⟨rfl,rfl,rfl,rfl,rfl⟩ rfl rfl rfl rfl rfl (by kernel_rfl) Tryz.func3 (by kernel_rfl)
  (of_decide_eq_true (by kernel_rfl)) (by unfold Func.isWrapper;first|(rw[qAb (by decide +kernel)];kernel_rfl)|(rw[qAa (by decide +kernel)];exact⟨rfl,rfl⟩))
  (fun os started H enc _=>x0y os started H enc)
#print axioms ran_holds
end Go.Proofs.YtbdpfmalabgmbaaGreat
