import Derived.Test.YtbdpfmalabgmbaaGreatSef
import Derived.Test.YtbdpfmalabgmbaaGreatRm1
import Derived.Deep.LoopGhost
namespace Go.Proofs.YtbdpfmalabgmbaaGreat
open Go.RowKit
set_option maxRecDepth 99999
set_option maxHeartbeats 0
set_option linter.all false
structure Cl where
 h:Int
 t:Int
 a:Int
 b:Int
def Cl.cells(c:Cl):List Value:=[.int .i64 c.h,.int .i64 c.t,.int .i64 c.a,.int .i64 c.b]
def Q6l(n t:Int):List Int->List Cl
 | []=>[]
 |f::r=>(r.map fun s=>⟨n,t,f,s⟩)++Q6l n t r
def clT(z:List (Pr × List Bool))(n R:Nat):Nat->Nat->List Cl
 |0,_=>[]
 |f+1,t=>if t<=R then Q6l n t (ovL n t z 0)++clT z n R f (t+1) else []
def clN(z:List (Pr × List Bool))(R H:Nat):Nat->Nat->List Cl
 |0,_=>[]
 |f+1,n=>if n<H then clT z n R (R+2) 0++clN z R H f (n+1) else []
def Q6g(z:List (Pr × List Bool))(R H:Nat):List Cl:=clN z R H (H+1) 0
theorem y45(n t:Int):∀l:List Int,(Q6l n t l).length<=l.length*l.length
 | []=>by simp[Q6l]
 |f::r=>by
  have ih:=y45 n t r;simp only[Q6l,qP,qAv,qBk];have:(r.length+1)*(r.length+1)=r.length*r.length+2*r.length+1:=by
   rw[qFc,Nat.mul_add];omega
  omega
theorem v05(z:List (Pr × List Bool))(hz:z.length<=1000)(n t:Int):(Q6l n t (ovL n t z 0)).length<=1000000:=by
 have h1:=y45 n t (ovL n t z 0);have h2:=y7a n t z 0;have h3:(ovL n t z 0).length*(ovL n t z 0).length<=1000*1000:=Nat.mul_le_mul (by omega) (by omega);omega
theorem x2f(z:List (Pr × List Bool))(hz:z.length<=1000)(n R:Nat):∀(f t:Nat),(clT z n R f t).length<=f*1000000
 |0,_=>by simp[clT]
 |f+1,t=>by
  unfold clT;have h1:=v05 z hz n t;have h2:=x2f z hz n R f (t+1);split
  ·rw[qP];omega
  simp
theorem y6r(z:List (Pr × List Bool))(hz:z.length<=1000)(R H:Nat)(hR:R<=1000):∀(f n:Nat),(clN z R H f n).length<=f*1002000000
 |0,_=>by simp[clN]
 |f+1,n=>by
  unfold clN;have h1:=x2f z hz n R (R+2) 0;have h2:=y6r z hz R H hR f (n+1);split
  ·rw[qP];omega
  simp
abbrev Q69(w:World)(base:Nat)(v:Value)(l:List Cl):Prop:=w.ownsRow base 122 4 v l.length (Q0y Cl.cells l)
theorem infoCl:(Tryz.prog.info? 122).map (fun i=>(i.zero,i.size,i.bytes))=some (some (.agg #[.int .i64 0,.int .i64 0,.int .i64 0,.int .i64 0]),4,32):=by kernel_rfl
theorem infoCl':∃i,Tryz.prog.info? 122=some i/\i.zero=some (.agg #[.int .i64 0,.int .i64 0,.int .i64 0,.int .i64 0])/\i.size=4/\i.bytes=32:=nfoE infoCl
theorem z50{w:World}{base:Nat}{g n cap:Nat}{l:List Int}(h:IntOwn w base (.slice (some ⟨g,0,none⟩) n cap) l)(i:Nat)(hi:i<l.length):w.cell? ⟨g,i,none⟩=some (.int .i64 l[i]):=by
 have:=h.cells (g:=g) rfl i (.int .i64 l[i]) (by simp[hi]);rwa [qDd,qBy]at this
theorem y6h(w:World)(R H:Nat)(vp:Value)(ps:List PV)(hp:Q2e w w.heap.size vp ps)(hps:ps.length<=1000)(hH:H<=1000)(hR:R<=1000)(hok:∀x∈Q33 (Q0k ps) (Q0z R H),x.ok) :
  Calls Tryz.prog 32 #[.agg #[.int .i64 R,.int .i64 H,vp]] w fun e w'=>∃v,e=.returned v/\Q0a w w'/\Q69 w' w.heap.size v (Q6g ((Q0k ps).zip (Q0r (Q33 (Q0k ps) (Q0z R H)) (Q0k ps))) R H):=by
 obtain⟨i0,ks,x8,x9,xa⟩:=infoCl';obtain⟨pa,pc,kz⟩:=z0c hp.row.own;subst kz;have HP:=hid hp;have FI:=hid (y4c (w.alloc (.cells #[.int .i64 R,.int .i64 H,.slice pa ps.length pc] 42 (0,0))) R H (.slice pa ps.length pc) ps ((hp.kept (qR _) ((mRf (fun _=>False) w).alloc _) (fun _ _ x=>x)).up (by simp)) hps hH hR);generalize Q33 (Q0k ps) (Q0z R H)=AL at FI hok;have k9:((Q0k ps).zip (Q0r AL (Q0k ps))).length<=1000:=by simp[Q0r,Q0k];omega
 have k5:(Q0r AL (Q0k ps)).length=ps.length:=by simp[Q0r,Q0k]
 have k4:∀a∈Q0r AL (Q0k ps),a.length=9:=fun a ha=>by
  obtain⟨p,_,rfl⟩:=qBj.1 ha;exact z3j hok _ _
 have ku:=y6r _ k9 R H hR (H+1) 0;generalize hRES:Q6g ((Q0k ps).zip (Q0r AL (Q0k ps))) R H=RES;have j7:=hid hRES;have kv:RES.length<=1003002000000:=by
  rw[← hRES];unfold Q6g;omega
 clear hp hRES ku hok;go_enter Tryz.func32,Tryz.ntmps32
 go_wp2_with (first
  |(go_at_call 62;refine(z6e w1 b R H (.slice pa ps.length pc) vh ps AL k3 hps).mono ?_;rintro e w2⟨va,rfl,jl,jm⟩)
  |(go_at_call 61;refine FI.mono ?_;rintro e w1⟨b,vh,rfl,ju,k3⟩))
 have j9:=hid (jl.at (ju.at (z0a _ _) id) id);have ji:Hid (Q0a w w2):=Mod.trans ((mRf _ w).alloc _) (ju.trans jl);have xc:=hid jm;have PO:=hid (fun(W:World) (hW:Q0a w2 W) (n t:Nat)=>z6p W R H (.slice pa ps.length pc) ps ((HP.kept (qR _) (ji.trans hW) (fun _ _ x=>x)).up ((ji.trans hW).size)) hps va (Q0r AL (Q0k ps)) _ (z0d jm (fun g hg=>hW.block g (jm.lt g hg).2 id)) k5 k4 (n:Int) (t:Int));have xt:=jl.size;have x4:=ji.size;generalize(Q0k ps).zip (Q0r AL (Q0k ps))=z at j7 k9 PO;clear jm k3 ju jl FI k5 k4;go_loopw [5,6,7,8,9,10,12,36,46] (fun x5 x6 _ _ _ _ _ _ _ wr=>∃(n:Nat) (j2:List Cl),x6=.int .i64 n/\n<=H/\j2++clN z R H (H+1-n) n=RES/\Q69 wr w2.heap.size x5 j2/\Q0a w2 wr)
   (fun _ x _ _ _ _ _ _ _ _=>H+1-(intOf x).toNat)
 case atStart=>exact⟨0,[],rfl,by omega,j7.out,qAh _ _ _ _,mRf _ _⟩
 obtain⟨n,j2,rfl,hn,j0,j1,j3⟩:=hrel;have kh:=hid (Q19 (B:=H+1) n (by omega));have jz:=hid j3;have c1:=Q0b (j3.at j9.out id) 1;have c0:=Q0b (j3.at j9.out id) 0;simp at c1 c0;obtain⟨ro,rc,kx⟩:=z0c j1;have HO:=hid j1;subst kx;clear j1 j3;by_cases jw:n<H
 ·have xm:(n:Int)<(H:Int):=by omega
  rw[show H+1-n=(H-n)+1 by omega]at j0;unfold clN at j0;rw[qAb jw]at j0;have km:=hid j0;clear j0;obtain⟨wn,x1⟩:∃wn,wn=wr:=⟨_,rfl⟩;subst x1;go_wp2;go_loopw [5,7,8,9,10,12,36,46] (fun x5 x7 _ _ _ _ _ _ wr=>∃(t:Nat) (j2:List Cl),x7=.int .i64 t/\t<=R+1/\j2++(clT z n R (R+2-t) t++clN z R H (H-n) (n+1))=RES/\Q69 wr w2.heap.size x5 j2/\Q0a w2 wr)
    (fun _ x _ _ _ _ _ _ _=>R+2-(intOf x).toNat)
  case atStart=>exact⟨0,j2,rfl,by omega,km.out,HO.out,jz.out⟩
  obtain⟨t,j2,rfl,ht,j0,j1,j3⟩:=hrel;have ki:=hid (Q19 (B:=R+2) t (by omega));have jb:=hid j3;have xe:=z0j (j3.at j9.out id);have c1:=Q0b (j3.at j9.out id) 1;have c0:=Q0b (j3.at j9.out id) 0;have c2:=Q0b (j3.at j9.out id) 2;simp at c1 c0 c2;obtain⟨so,sc,ky⟩:=z0c j1;have jj:=hid j1;subst ky;clear j1 j3;by_cases jg:t<=R
  ·have xp:(t:Int)<=(R:Int):=by omega
   rw[show R+2-t=(R+1-t)+1 by omega]at j0;unfold clT at j0;rw[qAb jg,qAs]at j0;obtain⟨wt,x3⟩:∃wt,wt=wr:=⟨_,rfl⟩;subst x3;have k2:=hid (PO.out wt jb.out n t);generalize hov:ovL (n:Int) (t:Int) z 0=able at j0 k2;have ko:able.length<=1000:=by rw[← hov];have:=y7a n t z 0;omega
   generalize hREST:clT z n R (R+1-t) (t+1)++clN z R H (H-n) (n+1)=REST at j0;have jd:=hid hREST;clear hREST;have js:=hid j0;clear j0 hov;have kf:=jb;go_wp2_with (first
    |(go_at_call 63;refine k2.mono ?_;rintro e w3⟨v8,rfl,jv,j4⟩;obtain⟨a8,c8,e8⟩:=z0c j4;subst e8;have kk:=hid j4;have kd:=hid (jb.trans jv);have kl:=hid (z0d jj.out (fun g hg=>jv.block g (jj.lt g hg).2 id));have kc:Hid (∀k,(Value.slice so j2.length sc).ownBlock=some k->(Value.slice a8 able.length c8).ownBlock≠some k):=(fun k hk e=>by have q1:=(jj.lt k hk).2;have q2:=(j4.lt k e).1;omega);clear j4 jv)
    |(refine qAf rfl 42 _ rfl w.heap.size rfl _ #[.int .i64 R,.int .i64 H,.slice pa ps.length pc] _ _ (jb.at j9.out id) Tryz.underlying42 rfl szTab ?_))
   clear c0 c1 c2;go_loopw [5,9,10,12,36,46] (fun x5 _ _ _ x36 _ wr=>∃(i:Nat) (j2:List Cl),x36=.int .i64 i/\i<=able.length/\j2++(Q6l n t (able.drop i)++REST)=RES/\Q69 wr w2.heap.size x5 j2/\IntOwn wr wt.heap.size (.slice a8 able.length c8) able/\(∀k,x5.ownBlock=some k->(Value.slice a8 able.length c8).ownBlock≠some k)/\Q0a w2 wr)
     (fun _ _ _ _ x _ _=>1001-(intOf x).toNat)
   case atStart=>exact⟨0,j2,rfl,by omega,js.out,kl.out,kk.out,kc.out,kd.out⟩
   obtain⟨i,j2,rfl,hi,j0,j1,j4,jf,j3⟩:=hrel;have k0:=hid (Q19 (B:=1001) i (by omega));have jo:=hid j3;have jp:=hid j1;have jc:=hid j4;have ja:=hid jf;obtain⟨qo,qc,jx⟩:=z0c j1;subst jx;clear j1 j3 jf;by_cases jh:i<able.length
   ·have xh:(i:Int)<(able.length:Int):=by omega
    obtain⟨g8,xd,k8⟩:=Joins.ownsRow_form j4 (by omega);rw[qI]at k8;obtain⟨rfl,_,rfl⟩:=k8;have kp:able.length<=c8:=by
     rcases j4.2 with⟨h1,_⟩|⟨g',jt,kn,h1,_,_,h4,_⟩
     ·cases h1
     rw[qI]at h1;omega
    have xg:c8<=2 ^ 63-1:=by
     rcases j4.2 with⟨h1,_⟩|⟨g',jt,kn,h1,_,_,_,h5,_⟩
     ·cases h1
     rw[qI]at h1;unfold maxLen at h5;omega
    have d1:=z50 j4 i jh;rw[qC jh]at j0;unfold Q6l at j0;rw[qAs]at j0;generalize able[i]=fst at j0 d1;generalize hR2:Q6l n t (able.drop (i+1))++REST=REST2 at j0;have k1:=hid hR2;have jk:=hid j0;clear j0 j4 hR2;obtain⟨wi,x0⟩:∃wi,wi=wr:=⟨_,rfl⟩;subst x0;rcases(show c8=i+1∨¬c8=i+1 by omega)with hc8|hc8
    ·have k7:able.length=i+1:=by omega
     have HE:Hid (j2++REST2=RES):=by
      have:=jk.out;rw[qAp (by omega)]at this;unfold Hid;simpa using this
     have h0:able.length-(i+1)=0:=by omega
     subst hc8;have xb:=hid k7;clear k7;go_wp2;go_loopw [5,12,46] (fun x5 _ x46 wr=>x5=.slice qo j2.length qc/\x46=.int .i64 0/\wr=wi)
       (fun _ _ _ _=>0)
     case atStart=>exact⟨rfl,rfl,rfl⟩
     obtain⟨rfl,rfl,x2⟩:=hrel;subst x2;go_wp2;go_roundw
     case rel=>exact⟨i+1,j2,by go_num,by omega,by rw[k1.out];exact HE.out,jp.out,jc.out,ja.out,jo.out⟩
     exact k0.out
    have xf:¬c8-(i+1)=0:=by omega
    go_wp2;go_loopw [5,12,46] (fun x5 _ x46 wr=>∃(j:Nat) (j2:List Cl),x46=.int .i64 j/\j<=able.length-(i+1)/\j2++((((able.drop (i+1)).drop j).map fun s=>(⟨n,t,fst,s⟩:Cl))++REST2)=RES/\Q69 wr w2.heap.size x5 j2/\IntOwn wr wt.heap.size (.slice (some ⟨g8,0,none⟩) able.length c8) able/\(∀k,x5.ownBlock=some k->(Value.slice (some ⟨g8,0,none⟩) able.length c8).ownBlock≠some k)/\Q0a w2 wr)
      (fun _ _ x _=>1001-(intOf x).toNat)
    case atStart=>exact⟨0,j2,rfl,by omega,jk.out,jp.out,jc.out,ja.out,jo.out⟩
    obtain⟨j,j2,rfl,hj,j0,j1,j4,jf,j3⟩:=hrel;have kg:=hid (Q19 (B:=1001) j (by omega));have jy:=hid j3;have jq:=hid j1;have j6:=hid j4;have jn:=hid jf;have k6:j2.length<=RES.length:=by rw[← j0];simp
    obtain⟨qo,qc,jx⟩:=z0c j1;subst jx;have xs:=j3.size;clear j1 j3 jf;by_cases kw:j<able.length-(i+1)
    ·have xj:(j:Int)<((able.length-(i+1):Nat):Int):=by omega
     have kq:j<(able.drop (i+1)).length:=by simp;omega
     rw[qC kq,qDl]at j0;have d2:=z50 j4 (i+1+j) (by omega);have kr:(able.drop (i+1))[j]=able[i+1+j]'(by omega):=by simp
     rw[kr]at j0;generalize able[i+1+j]'(by omega)=snd at j0 d2;have jr:=hid j0;clear j0 j4;go_wp2_with (first
      |(at_builtin;refine z0f _ rfl _ _ 57 rfl w2.heap.size 122 i0 _ 4 32 Tryz.underlying57 ks x8 x9 xa rfl (by decide) _ _ _ rfl (jq.alloc _) ⟨wr.heap.size,0,none⟩ 1 1 [.int .i64 n,.int .i64 t,.int .i64 fst,.int .i64 snd] rfl rfl (z0m rfl) (by intro u hu;simp at hu;rcases hu with rfl|rfl|rfl|rfl<;>rfl) (by unfold maxLen;omega) (by omega) (by simp;omega) ?_))
     intro v' w5 j8 j5 je;have ke:Hid (Q0a w2 w5):=Mod.grown (S:=fun _=>False) (jy.alloc _) j5 (fun k hk jw=>by have:=(jq.lt k hk).1;omega);have ka:Hid (IntOwn w5 wt.heap.size (.slice (some ⟨g8,0,none⟩) able.length c8) able):=z0d (j6.alloc _) (fun g hg=>j5.block g ((j6.alloc _).lt g hg).2 (fun e=>jn.out g e.symm hg));have kb:Hid (∀k,v'.ownBlock=some k->(Value.slice (some ⟨g8,0,none⟩) able.length c8).ownBlock≠some k):=fun k hk e=>by
      rcases je k hk with q1|q1
      ·exact jn.out k q1 e
      have q2:=(j6.lt k e).2;first|omega|(simp at q1;omega)
     have kj:=hid j8;clear j8 j5 je;go_wp2;go_roundw
     case rel =>
      refine⟨j+1,j2++[⟨n,t,fst,snd⟩],by go_num,by omega,?_,?_,ka.out,kb.out,ke.out⟩
      ·rw[qAs];exact jr.out
      unfold Q69;rw[z0v,qP,qAj];exact kj.out
     exact kg.out
    have xl:j=able.length-(i+1):=by omega
    have xk:¬(j:Int)<((able.length-(i+1):Nat):Int):=by omega
    rw[qAp (by simp;omega),List.map_nil,qCh]at j0;have jr:=hid j0;clear j0 j4;go_wp2;go_roundw
    case rel=>exact⟨i+1,j2,by go_num,by omega,by rw[k1.out];exact jr.out,jq.out,j6.out,jn.out,jy.out⟩
    exact k0.out
   have kt:i=able.length:=by omega
   have xi:¬(i:Int)<(able.length:Int):=by omega
   rw[kt,qCy]at j0;have jk:Hid (j2++REST=RES):=by unfold Hid;simpa [Q6l]using j0
   clear j0 j4;go_wp2;go_roundw
   case rel=>exact⟨t+1,j2,by go_num,by omega,by rw[show R+2-(t+1)=R+1-t by omega,jd.out];exact jk.out,jp.out,jo.out⟩
   exact ki.out
  have xr:t=R+1:=by omega
  have xq:¬(t:Int)<=(R:Int):=by omega
  rw[show R+2-t=1 by omega]at j0;unfold clT at j0;rw[qAa jg,qCh]at j0;have js:=hid j0;clear j0;go_wp2;go_roundw
  case rel=>exact⟨n+1,j2,by go_num,by omega,by rw[show H+1-(n+1)=H-n by omega];exact js.out,jj.out,jb.out⟩
  exact kh.out
 have xo:n=H:=by omega
 have xn:¬(n:Int)<(H:Int):=by omega
 rw[show H+1-n=1 by omega]at j0;unfold clN at j0;rw[qAa jw,qBd]at j0;subst j0;go_wp2;go_ret;exact⟨_,rfl,ji.trans jz.out,z0g HO.out x4⟩
def Q13(s:ByteArray):List Cl:=Q6g ((Q0p (Q0c s).1).zip (Q0r (Q7p s) (Q0p (Q0c s).1))) (Q0g (Q0c s).1).length (Q0j (Q0c s).1).length
section
variable {ps:List Pr}{R H:Nat}{hs:List Hd}
end
theorem isAggI(w:World):(isAgg 3).run Tryz.prog w=.ok false w:=by
 unfold isAgg;rw[Sem.run_bind,run_underlying qEj];rfl
theorem partI(xs:Array Value)(i:Nat)(v:Value)(h:xs[i]? = some v)(w:World):(part 3 xs i).run Tryz.prog w=.ok v w:=by
 simp[part,isAggI,h]
def NS(ps:List Pr):Nat->Int->Bool
 |0,_=>false
 |n+1,X=>ps.any fun p=>p.head==X&&p.syms.all fun s=>s.isH&&NS ps n s.num
def Q3y(N:Int->Bool)(F:Int->Bool)(t:Nat):List Sy->Bool
 | []=>false
 |s::l=>(if s.isH then F s.num else s.num==(t:Int))||(s.isH&&N s.num&&Q3y N F t l)
def FS(ps:List Pr)(N:Int->Bool)(t:Nat):Nat->Int->Bool
 |0,_=>false
 |n+1,X=>ps.any fun p=>p.head==X&&Q3y N (FS ps N t n) t p.syms
def Q4c(N:Int->Bool)(s:Sy):Bool:=s.isH&&N s.num
theorem z33{N F F':Int->Bool}{t:Nat}(h:∀X,F X=true->F' X=true):∀l:List Sy,Q3y N F t l=true->Q3y N F' t l=true
 | [],e=>e
 |s::l,e=>by
  unfold Q3y at e ⊢;cases hs:s.isH
  ·rw[hs]at e;simpa using e
  rw[hs]at e;simp only[qBn,qBm,qAt,qAd]at e ⊢;rcases e with e|⟨e1,e2⟩
  ·exact .inl (h _ e)
  exact .inr ⟨e1,z33 h l e2⟩
theorem z1s{N F:Int->Bool}{t:Nat}:∀{l:List Sy},Q3y N F t l=true->∃a s b,l=a++s::b/\a.all (Q4c N)=true/\(if s.isH then F s.num else s.num==(t:Int))=true
 | [],e=>by cases e
 |s::l,e=>by
  unfold Q3y at e;simp only[qAt,qAd]at e;rcases e with e|⟨e1,e2⟩
  ·exact⟨[],s,l,rfl,rfl,e⟩
  obtain⟨a,s',b,h1,h2,h3⟩:=z1s e2;refine⟨s::a,s',b,by rw[h1];rfl,?_,h3⟩;simp[Q4c,e1.1,e1.2,h2]
theorem z28{N F:Int->Bool}{t:Nat}(s:Sy)(b:List Sy)(h:(if s.isH then F s.num else s.num==(t:Int))=true):∀a:List Sy,a.all (Q4c N)=true->Q3y N F t (a++s::b)=true
 | [],_=>by simp only[qCh,Q3y,qAt];exact .inl h
 |x::a,e=>by
  simp only[qDv,qAd]at e;simp only[qBh,Q3y,qAt,qAd];have e1:=e.1;simp only[Q4c,qAd]at e1;exact .inr ⟨e1,z28 s b h a e.2⟩
theorem z2v{N F:Int->Bool}{t:Nat}:∀(a b:List Sy),Q3y N F t (a++b)=(Q3y N F t a||(a.all (Q4c N)&&Q3y N F t b))
 | [],b=>by simp[Q3y]
 |x::a,b=>by
  simp only[qBh,Q3y,z2v a b,qDv,Q4c];cases x.isH<;>cases N x.num<;>simp[Bool.or_assoc]
theorem y6i(ps:List Pr):∀(n:Nat) (X:Int),NS ps n X=true->NS ps (n+1) X=true
 |0,_,h=>by cases h
 |n+1,X,h=>by
  unfold NS at h ⊢;rw[qBb]at h ⊢;obtain⟨p,hp,h⟩:=h;refine⟨p,hp,?_⟩;simp only[qAd,qAy]at h ⊢;exact⟨h.1,fun s hs=>⟨(h.2 s hs).1,y6i ps n _ (h.2 s hs).2⟩⟩
theorem x1t(ps:List Pr)(N:Int->Bool)(t:Nat):∀(n:Nat) (X:Int),FS ps N t n X=true->FS ps N t (n+1) X=true
 |0,_,h=>by cases h
 |n+1,X,h=>by
  unfold FS at h ⊢;rw[qBb]at h ⊢;obtain⟨p,hp,h⟩:=h;refine⟨p,hp,?_⟩;simp only[qAd]at h ⊢;exact⟨h.1,z33 (x1t ps N t n) _ h.2⟩
theorem x6d(l:List Bool):Q9r l<=l.length:=by unfold Q9r;exact qCc _ _
theorem y33{H:Nat}{a:Nat->List Bool}(hl:∀n,(a n).length=H)(hm:∀n,leB (a n) (a (n+1)))(hs:∀n,a n=a (n+1)->a (n+1)=a (n+2)):∀m,leB (a m) (a H):=by
 have h1:∀n,a n=a (n+1)∨Q9r (a n)+n<=H:=by
  intro n;induction n with
  |zero=>right;have:=x6d (a 0);rw[hl 0]at this;omega
  |succ n ih =>
   by_cases e:a n=a (n+1)
   ·exact .inl (hs n e)
   right;have:=(y2c (hm n)).2 e;rcases ih with ih|ih
   ·exact absurd ih e
   omega
 have h2:a H=a (H+1):=by
  by_cases e:a H=a (H+1)
  ·exact e
  have:=(y2c (hm H)).2 e;rcases h1 H with h|h
  ·exact absurd h e
  omega
 have h3:∀k,a (H+k)=a (H+k+1):=by
  intro k;induction k with
  |zero=>exact h2
  |succ k ih=>exact hs _ ih
 have h4:∀k,a (H+k)=a H:=by
  intro k;induction k with
  |zero=>rfl
  |succ k ih=>rw[← ih];exact(h3 k).symm
 have h5:∀k m,m+k=H->leB (a m) (a H):=by
  intro k;induction k with
  |zero =>
   intro m e;have:m=H:=by omega
   subst this;exact z2b _
  |succ k ih=>intro m e;exact z45 (hm m) (ih (m+1) (by omega))
 intro m;by_cases e:m<=H
 ·exact h5 (H-m) m (by omega)
 have:=h4 (m-H);rw[show H+(m-H)=m by omega]at this;rw[this];exact z2b _
def Q46(H:Nat)(f:Int->Bool):List Bool:=(List.range H).map fun i=>f (i:Nat)
theorem z34{H:Nat}{f:Int->Bool}{X:Int}(h0:0<=X)(h1:X<H):(Q46 H f).getD X.toNat false=f X:=by
 have e:((X.toNat:Nat):Int)=X:=by omega
 unfold Q46;rw[qD,qBt,qFp (by omega)];simp[e]
theorem y30{H:Nat}{f g:Int->Bool}(h:∀X,f X=true->g X=true):leB (Q46 H f) (Q46 H g):=by
 unfold Q46;generalize List.range H=l;induction l with
 |nil=>trivial
 |cons x l ih=>exact⟨h _,ih⟩
theorem y3z{H:Nat}{f g:Int->Bool}(h:Q46 H f=Q46 H g){X:Int}(h0:0<=X)(h1:X<H):f X=g X:=by
 rw[← z34 h0 h1 (f:=f),h,z34 h0 h1]
theorem z8r{H:Nat}{f g:Int->Bool}(h:∀X,0<=X->X<H->f X=g X):Q46 H f=Q46 H g:=by
 unfold Q46;apply qEs;intro i hi;have:=List.mem_range.1 hi;exact h _ (by omega) (by omega)
theorem z32{α:Type}{l:List α}{f g:α->Bool}(h:∀x∈l,f x=g x):l.any f=l.any g:=by
 induction l with
 |nil=>rfl
 |cons x l ih=>simp only[List.any_cons,h x (by simp),ih (fun y hy=>h y (by simp[hy]))]
theorem z31{α:Type}{l:List α}{f g:α->Bool}(h:∀x∈l,f x=g x):l.all f=l.all g:=by
 induction l with
 |nil=>rfl
 |cons x l ih=>simp only[qDv,h x (by simp),ih (fun y hy=>h y (by simp[hy]))]
theorem y02{N F F':Int->Bool}{t:Nat}:∀(l:List Sy),(∀s∈l,s.isH=true->F s.num=F' s.num)->Q3y N F t l=Q3y N F' t l
 | [],_=>rfl
 |s::l,h=>by
  unfold Q3y;rw[y02 l (fun x hx=>h x (by simp[hx]))];cases hs:s.isH
  ·rfl
  rw[h s (by simp) hs]
variable {ps:List Pr}{R H:Nat}
theorem v1w(hT:Q1d ps R H)(n:Nat)(X:Int)(h0:0<=X)(h1:X<H)(h:NS ps n X=true):NS ps H X=true:=by
 have hc:=y33 (a:=fun n=>Q46 H (NS ps n)) (H:=H) (fun n=>by simp[Q46]) (fun n=>y30 (y6i ps n)) (by
  intro n e;refine z8r (fun X _ _=>?_);show NS ps (n+1) X=NS ps (n+2) X;unfold NS;refine z32 (fun p hp=>?_);congr 1;refine z31 (fun s hs=>?_);cases hsh:s.isH
  ·rfl
  have:=hT.sy p hp s hs;rw[hsh]at this;simp only[qBn]at this;rw[y3z e this.1 this.2]) n
 have:=z4v hc X.toNat (by rw[z34 h0 h1];exact h);rwa [z34 h0 h1]at this
theorem x8r(hT:Q1d ps R H)(N:Int->Bool)(t:Nat)(n:Nat)(X:Int)(h0:0<=X)(h1:X<H)(h:FS ps N t n X=true):FS ps N t H X=true:=by
 have hc:=y33 (a:=fun n=>Q46 H (FS ps N t n)) (H:=H) (fun n=>by simp[Q46]) (fun n=>y30 (x1t ps N t n)) (by
  intro n e;refine z8r (fun X _ _=>?_);show FS ps N t (n+1) X=FS ps N t (n+2) X;unfold FS;refine z32 (fun p hp=>?_);congr 1;refine y02 _ (fun s hs hsh=>?_);have:=hT.sy p hp s hs;rw[hsh]at this;simp only[qBn]at this;exact y3z e this.1 this.2) n
 have:=z4v hc X.toNat (by rw[z34 h0 h1];exact h);rwa [z34 h0 h1]at this
structure St where
 leaf:Bool
 num:Int
def ahd(N:Int->Bool)(F O:Int->Nat->Bool)(p:Pr)(t:Nat):Bool:=Q3y N (fun X=>F X t) t p.syms||(p.syms.all (Q4c N)&&O p.head t)
structure LLG(ps:List Pr)(R H:Nat)(N:Int->Bool)(F O:Int->Nat->Bool)(ch:Int->Nat->Int):Prop where
 tab:Q1d ps R H
 mx:∀p∈ps,p.syms.length<=6
 clN:∀p∈ps,p.syms.all (Q4c N)=true->N p.head=true
 clF:∀p∈ps,∀t,Q3y N (fun X=>F X t) t p.syms=true->F p.head t=true
 clO:∀p∈ps,∀a s b,p.syms=a++s::b->s.isH=true->∀t,(Q3y N (fun X=>F X t) t b||(b.all (Q4c N)&&O p.head t))=true->O s.num t=true
 leN:∀X,N X=true->NS ps H X=true
 leF:∀X t,F X t=true->FS ps N t H X=true
 st:O 0 R=true
 bF:∀X t,F X t=true->t<R
 one:∀(i:Nat) p,ps[i]? = some p->∀t,t<=R->ahd N F O p t=true->ch p.head t=i
 chr:∀X t,0<=ch X t->∃p,ps[(ch X t).toNat]? = some p/\p.head=X/\ahd N F O p t=true
def gTo(ps:List Pr)(ch:Int->Nat->Int)(t:Nat):Nat->List Sy->List St->Option (List Sy × List St)
  |0,_,_=>none
  |_+1,[],st=>some ([],st)
  | f + 1,s::k,st=>if s.isH=false then some (k,st++[⟨true,s.num⟩]) else
      if 0<=ch s.num t then(match ps[(ch s.num t).toNat]? with
        |some p=>gTo ps ch t f (p.syms++k) (st++[⟨false,ch s.num t⟩])
        |none=>none) else none
theorem z19{ps:List Pr}{ch:Int->Nat->Int}{t:Nat}:∀(f:Nat) (k:List Sy) (st:List St) (r:List Sy × List St),gTo ps ch t f k st=some r->∀g,f<=g->gTo ps ch t g k st=some r
 |0,_,_,_,h,_,_=>by cases h
 |f+1,[],st,r,h,g,hg=>by
  obtain⟨g,rfl⟩:∃k,g=k+1:=⟨g-1,by omega⟩;exact h
 |f+1,s::k,st,r,h,g,hg=>by
  obtain⟨g,rfl⟩:∃k,g=k+1:=⟨g-1,by omega⟩;unfold gTo at h ⊢;split
  ·rename_i e;rw[qAb e]at h;exact h
  rename_i e;rw[qAa e]at h;split
  ·rename_i e2;rw[qAb e2]at h;cases hp:ps[(ch s.num t).toNat]? with
   |none=>rw[hp]at h;cases h
   |some p =>
    rw[hp]at h;exact z19 f _ _ r h g (by omega)
  rename_i e2;rw[qAa e2]at h;exact h
theorem y2g{ps:List Pr}{ch:Int->Nat->Int}{t:Nat}:∀(f:Nat) (k:List Sy) (st:List St) (r:List Sy × List St),gTo ps ch t f k st=some r->st.length<=r.2.length
 |0,_,_,_,h=>by cases h
 |f+1,[],st,r,h=>by cases h;exact qR _
 |f+1,s::k,st,r,h=>by
  unfold gTo at h;split at h
  ·cases h;simp
  split at h
  ·split at h
   ·have:=y2g f _ _ r h;simp at this;omega
   cases h
  cases h
def szN:Nat->Nat
 |0=>0
 |n+1=>1+6*szN n
theorem y9o:∀n,szN n<=szN (n+1)
 |0=>by decide
 |n+1=>by have:=y9o n;simp only[szN]at *;omega
theorem v2u{n m:Nat}(h:n<=m):szN n<=szN m:=by
 obtain⟨k,rfl⟩:∃k,m=n+k:=⟨m-n,by omega⟩;induction k with
 |zero=>exact qR _
 |succ k ih=>exact qDa (ih (by omega)) (y9o _)
section
variable {ps:List Pr}{R H:Nat}{N:Int->Bool}{F O:Int->Nat->Bool}{ch:Int->Nat->Int}
theorem LLG.nsN(g:LLG ps R H N F O ch):∀(n:Nat) (X:Int),NS ps n X=true->N X=true
 |0,_,h=>by cases h
 |n+1,X,h=>by
  unfold NS at h;rw[qBb]at h;obtain⟨p,hp,h⟩:=h;simp only[qAd,qAy,qBi]at h;rw[← h.1];refine g.clN p hp ?_;rw[qAy];intro s hs;simp only[Q4c,qAd];exact⟨(h.2 s hs).1,g.nsN n _ (h.2 s hs).2⟩
theorem LLG.fsF(g:LLG ps R H N F O ch)(t:Nat):∀(n:Nat) (X:Int),FS ps N t n X=true->F X t=true
 |0,_,h=>by cases h
 |n+1,X,h=>by
  unfold FS at h;rw[qBb]at h;obtain⟨p,hp,h⟩:=h;simp only[qAd,qBi]at h;rw[← h.1];exact g.clF p hp t (z33 (g.fsF t n) _ h.2)
theorem x9w{p:Pr}(h:p∈ps):∃i:Nat,ps[i]? = some p:=by
 obtain⟨i,hi,rfl⟩:=qBf h;exact⟨i,by simp⟩
theorem LLG.nul1(g:LLG ps R H N F O ch){n:Nat}{X:Int}(h:NS ps (n+1) X=true){t:Nat}(ht:t<=R)(ho:O X t=true) :
  ∃(i:Nat) (p:Pr),ps[i]? = some p/\p.head=X/\ch X t=i/\p.syms.length<=6/\∀s∈p.syms,s.isH=true/\NS ps n s.num=true/\O s.num t=true:=by
 unfold NS at h;rw[qBb]at h;obtain⟨p,hp,h⟩:=h;simp only[qAd,qAy,qBi]at h;obtain⟨i,hi⟩:=x9w hp;have j0:p.syms.all (Q4c N)=true:=by
  rw[qAy];intro s hs;simp only[Q4c,qAd];exact⟨(h.2 s hs).1,g.nsN n _ (h.2 s hs).2⟩
 have ha:ahd N F O p t=true:=by unfold ahd;rw[j0,h.1,ho];simp
 refine⟨i,p,hi,h.1,?_,g.mx p hp,fun s hs=>⟨(h.2 s hs).1,(h.2 s hs).2,?_⟩⟩
 ·rw[← h.1];exact g.one i p hi t ht ha
 obtain⟨a,b,e⟩:=qEy hs;refine g.clO p hp a s b e (h.2 s hs).1 t ?_;have hb:b.all (Q4c N)=true:=by
  rw[qAy]at j0 ⊢;intro x hx;exact j0 x (by rw[e];simp[hx])
 rw[hb,h.1,ho];simp
theorem z5j{i:Nat}{p:Pr}{s:Sy}{t:Nat}(hi:ps[i]? = some p)(hs:s.isH=true)(hc:ch s.num t=i)(f:Nat)(k:List Sy)(st:List St) :
  gTo ps ch t (f+1) (s::k) st=gTo ps ch t f (p.syms++k) (st++[⟨false,i⟩]):=by
 rw[gTo,qAa (by rw[hs];simp),hc,qAb (by omega),qAo,hi]
theorem z8a{t B:Nat}:∀(l:List Sy),(∀s∈l,∃(c:Nat) (ns:List St),ns.length=c/\c<=B/\∀f k st,gTo ps ch t (c+f) (s::k) st=gTo ps ch t f k (st++ns)) ->
  ∃(c:Nat) (ns:List St),ns.length=c/\c<=l.length*B/\∀f k st,gTo ps ch t (c+f) (l++k) st=gTo ps ch t f k (st++ns)
 | [],_=>⟨0,[],rfl,by simp,fun f k st=>by simp⟩
 |s::l,h=>by
  obtain⟨c1,n1,h1,h2,h3⟩:=h s (by simp);obtain⟨c2,n2,h4,h5,h6⟩:=z8a l (fun x hx=>h x (by simp[hx]));refine⟨c1+c2,n1++n2,by simp[h1,h4],?_,fun f k st=>?_⟩
  ·simp only[qBk,qFc,Nat.one_mul];omega
  rw[qDm,qBh,h3,h6,qAs]
theorem LLG.null(g:LLG ps R H N F O ch){t:Nat}(ht:t<=R):∀(n:Nat) (s:Sy),s.isH=true->NS ps n s.num=true->O s.num t=true ->
  ∃(c:Nat) (ns:List St),ns.length=c/\c<=szN n/\∀f k st,gTo ps ch t (c+f) (s::k) st=gTo ps ch t f k (st++ns)
 |0,_,_,h,_=>by cases h
 |n+1,s,hs,h,ho=>by
  obtain⟨i,p,hi,hp,hc,hl,hall⟩:=g.nul1 h ht ho;obtain⟨c,ns,h1,h2,h3⟩:=z8a (ps:=ps) (ch:=ch) (t:=t) (B:=szN n) p.syms (fun x hx=>g.null ht n x (hall x hx).1 (hall x hx).2.1 (hall x hx).2.2);refine⟨c+1,⟨false,i⟩::ns,by simp[h1],?_,fun f k st=>?_⟩
  ·have:=qCr (szN n) hl;simp only[szN];omega
  rw[show c+1+f=c+f+1 by omega,z5j hi hs hc,h3,qAs];rfl
def szF(B:Nat):Nat->Nat
 |0=>0
 |n+1=>1+6*B+szF B n
theorem LLG.first(g:LLG ps R H N F O ch){t:Nat}(ht:t<=R):∀(n:Nat) (s:Sy),s.isH=true->FS ps N t n s.num=true ->
  ∃(c:Nat) (ns:List St) (k':List Sy),ns.length=c/\c<=szF (szN H) n/\k'.length<=6*n/\∀f k st,gTo ps ch t (c+f+1) (s::k) st=some (k'++k,st++ns++[⟨true,t⟩])
 |0,_,_,h=>by cases h
 |n+1,s,hs,h=>by
  unfold FS at h;rw[qBb]at h;obtain⟨p,hp,h⟩:=h;simp only[qAd,qBi]at h;obtain⟨i,hi⟩:=x9w hp;have hb:=z33 (g.fsF t n) _ h.2;have ha:ahd N F O p t=true:=by unfold ahd;rw[hb];rfl
  have hc:=g.one i p hi t ht ha;rw[h.1]at hc;obtain⟨a,x,b,e,h1,h2⟩:=z1s h.2;have hl:=g.mx p hp;have j1:a.length+b.length+1<=6:=by rw[e]at hl;simp at hl;omega
  have j2:(if x.isH then F x.num t else x.num==(t:Int))=true:=by
   cases hx:x.isH
   ·rw[hx]at h2;exact h2
   rw[hx]at h2;exact g.fsF t n _ h2
  obtain⟨c,ns,k1,k2,k3⟩:=z8a (ps:=ps) (ch:=ch) (t:=t) (B:=szN H) a (fun y hy=>by
   have j0:=(qAy.1 h1) y hy;simp only[Q4c,qAd]at j0;refine g.null ht H y j0.1 (g.leN _ j0.2) ?_;obtain⟨a1,a2,ea⟩:=qEy hy;refine g.clO p hp a1 y (a2++x::b) (by rw[e,ea];simp) j0.1 t ?_;have:Q3y N (fun X=>F X t) t (a2++x::b)=true:=z28 x b j2 a2 (by
    rw[qAy]at h1 ⊢;intro z hz;exact h1 z (by rw[ea];simp[hz]))
   rw[this];rfl)
  have j4:c<=6*szN H:=qDa k2 (qCr _ (by omega));cases hx:x.isH
  ·rw[hx]at h2;simp only[qF,qAz,qBi]at h2;refine⟨c+1,⟨false,i⟩::ns,b,by simp[k1],by simp only[szF];omega,by omega,fun f k st=>?_⟩;rw[show c+1+f+1=c+(f+1)+1 by omega,z5j hi hs hc,e,qAs,k3,qBh,gTo,qAb hx,h2];simp
  rw[hx]at h2;simp only[qBn]at h2;obtain⟨c',j3,k',m1,m2,m3,m4⟩:=g.first ht n x hx h2;refine⟨c+1+c',⟨false,i⟩::(ns++j3),k'++b,by simp[k1,m1];omega,by simp only[szF];omega,by simp;omega,fun f k st=>?_⟩;rw[show c+1+c'+f+1=c+(c'+f+1)+1 by omega,z5j hi hs hc,e,qAs,k3,qBh,m4];simp
def Q6u(N:Int->Bool)(F:Int->Nat->Bool)(R:Nat)(k:List Sy)(t:Nat):Bool:=Q3y N (fun X=>F X t) t k||(k.all (Q4c N)&&(t==R))
def Q4z(N:Int->Bool)(F O:Int->Nat->Bool)(R:Nat)(k:List Sy):Prop:=∀a s b,k=a++s::b->s.isH=true->∀t,Q6u N F R b t=true->O s.num t=true
theorem LLG.stk0(g:LLG ps R H N F O ch):Q4z N F O R [⟨true,0⟩]:=by
 intro a s b e hs t ht;cases a with
 |nil =>
  simp only[qCh,qBe]at e;obtain⟨rfl,rfl⟩:=e;simp only[Q6u,Q3y,List.all_nil,qBm,qDj,qBi]at ht;rw[ht];exact g.st
 |cons x a=>simp at e
theorem Q4z.tail{s:Sy}{k:List Sy}(h:Q4z N F O R (s::k)):Q4z N F O R k:=fun a x b e hx t ht=>h (s::a) x b (by rw[e];rfl) hx t ht
theorem x1x{α:Type}{l k a b:List α}{s:α}(h:l++k=a++s::b):(∃c,k=c++s::b)∨∃b',b=b'++k/\l=a++s::b':=by
 rcases List.append_eq_append_iff.1 h with⟨c,h1,h2⟩|⟨c,h1,h2⟩
 ·exact .inl ⟨c,h2⟩
 cases c with
 |nil=>simp only[qCh]at h2;exact .inl ⟨[],h2.symm⟩
 |cons x c =>
  simp only[qBh,qBe]at h2;obtain⟨rfl,rfl⟩:=h2;exact .inr ⟨c,rfl,h1⟩
theorem LLG.stkOpen(g:LLG ps R H N F O ch){p:Pr}(hp:p∈ps){s:Sy}{k:List Sy}(hs:s.isH=true)(he:p.head=s.num)(h:Q4z N F O R (s::k)):Q4z N F O R (p.syms++k):=by
 intro a x b e hx t ht;rcases x1x e with⟨c,hc⟩|⟨b',rfl,hb⟩
 ·exact h (s::c) x b (by rw[hc];rfl) hx t ht
 refine g.clO p hp a x b' hb hx t ?_;unfold Q6u at ht;rw[z2v]at ht;cases hq:Q3y N (fun X=>F X t) t b'
 ·rw[hq]at ht;simp only[qDj,List.all_append]at ht ⊢;have hw:b'.all (Q4c N)=true/\Q6u N F R k t=true:=by
   unfold Q6u;cases h1:b'.all (Q4c N)
   ·rw[h1]at ht;simp at ht
   rw[h1]at ht;simp only[qBm]at ht;exact⟨rfl,ht⟩
  rw[hw.1,he,h [] s k rfl hs t hw.2];rfl
 rfl
theorem LLG.stkTo(g:LLG ps R H N F O ch){t:Nat}:∀(f:Nat) (k:List Sy) (st:List St) (r:List Sy × List St),gTo ps ch t f k st=some r->Q4z N F O R k->Q4z N F O R r.1
 |0,_,_,_,h,_=>by cases h
 |f+1,[],st,r,h,hk=>by cases h;exact hk
 |f+1,s::k,st,r,h,hk=>by
  unfold gTo at h;split at h
  ·cases h;exact hk.tail
  rename_i hs;split at h
  ·rename_i h0;obtain⟨p,hp,he,_⟩:=g.chr _ _ h0;rw[hp]at h;exact g.stkTo f _ _ r h (g.stkOpen (qAi hp) (by simpa using hs) he hk)
  cases h
def Q2y(H n:Nat):Nat:=n*szN H+szF (szN H) H+1
theorem LLG.grows(g:LLG ps R H N F O ch){t:Nat}(ht:t<=R)(k:List Sy)(hk:Q4z N F O R k)(hw:Q6u N F R k t=true)(st:List St) :
  ∃r,gTo ps ch t (Q2y H k.length) k st=some r/\r.1.length<=k.length+6*H/\r.2.length<=st.length+Q2y H k.length:=by
 have j1:∀(a:List Sy) (x:List Sy),k=a++x->a.all (Q4c N)=true->Q6u N F R x t=true->∃(c:Nat) (ns:List St),ns.length=c/\c<=a.length*szN H/\∀f k st,gTo ps ch t (c+f) (a++k) st=gTo ps ch t f k (st++ns):=by
  intro a x e ha hx;refine z8a a (fun y hy=>?_);have j0:=(qAy.1 ha) y hy;simp only[Q4c,qAd]at j0;refine g.null ht H y j0.1 (g.leN _ j0.2) ?_;obtain⟨a1,a2,ea⟩:=qEy hy;refine hk a1 y (a2++x) (by rw[e,ea];simp) j0.1 t ?_;have j2:a2.all (Q4c N)=true:=by
   rw[qAy]at ha ⊢;intro z hz;exact ha z (by rw[ea];simp[hz])
  unfold Q6u at hx ⊢;rw[z2v,List.all_append,j2];simp only[qBm];rw[Bool.or_assoc,hx];simp
 unfold Q6u at hw;cases hb:Q3y N (fun X=>F X t) t k
 ·rw[hb]at hw;simp only[qDj,qAd,qBi]at hw;obtain⟨j3,rfl⟩:=hw;obtain⟨c,ns,h1,h2,h3⟩:=j1 k [] (by simp) j3 (by simp[Q6u,Q3y]);refine⟨([],st++ns),?_,by simp,by simp only[qP,h1,Q2y];omega⟩;have h4:=h3 1 [] st;rw[qBd]at h4;refine z19 (c+1) k st _ (by rw[h4];rfl) _ (by unfold Q2y;omega)
 obtain⟨a,s,b,rfl,ha,hs⟩:=z1s hb;obtain⟨c,ns,h1,h2,h3⟩:=j1 a (s::b) rfl ha (by
  unfold Q6u;have:Q3y N (fun X=>F X t) t ([]++s::b)=true:=z28 s b hs [] rfl;rw[qCh]at this;rw[this];rfl)
 have j5:a.length*szN H<=(a++s::b).length*szN H:=qCr _ (by simp);cases hx:s.isH
 ·rw[hx]at hs;refine⟨(b,st++ns++[⟨true,s.num⟩]),?_,by simp;omega,by simp only[qP,h1,Q2y,qAj]at *;omega⟩;refine z19 (c+1) _ st _ ?_ _ (by unfold Q2y;omega);rw[h3,gTo,qAb hx]
 rw[hx]at hs;simp only[qBn]at hs;obtain⟨c',j4,k',m1,m2,m3,m4⟩:=g.first ht H s hx (g.leF _ _ hs);refine⟨(k'++b,st++ns++j4++[⟨true,t⟩]),?_,by simp;omega,by simp only[qP,h1,m1,Q2y,qAj]at *;omega⟩;refine z19 (c+(c'+0+1)) _ st _ ?_ _ (by unfold Q2y;omega);rw[h3];exact m4 0 b (st++ns)
end
theorem z39:∀(l:List Ln) (acc:List Wd) (d:Wd),d∈acc->d∈Q14 l acc
 | [],_,_,h=>h
 |x::l,acc,d,h=>by
  unfold Q14;split
  ·exact z39 l acc d h
  split
  ·exact z39 l acc d h
  exact z39 l _ d (by simp[h])
theorem y52{ds:List Wd}{ls:List Int}:Q1m ds ls<ds.length↔∃d∈ds,d.ls=ls:=by
 unfold Q1m;rw[List.findIdx_lt_length];simp
theorem z5l:∀(l:List Ln) (acc:List Wd) (y:Ln),y∈l->Q0x y=false->∃d∈Q14 l acc,d.ls=y.front.ls
 | [],_,_,h,_=>by cases h
 |x::l,acc,y,h,hy=>by
  simp only[qBu]at h;unfold Q14;rcases h with rfl|h
  ·rw[qAa (by rw[hy];simp)];split
   ·rename_i e;obtain⟨d,h1,h2⟩:=y52.1 e;exact⟨d,z39 l acc d h1,h2⟩
   exact⟨y.front,z39 l _ _ (by simp),rfl⟩
  split
  ·exact z5l l acc y h hy
  split
  ·exact z5l l acc y h hy
  exact z5l l _ y h hy
theorem y4m(lns:List Ln):∀i,i<=lns.length->(Q14 (lns.take i) []).length<=Q3h lns i
 |0,_=>by simp[Q14]
 |i+1,hi=>by
  have ih:=y4m lns i (by omega);have j0:i<lns.length:=by omega
  rw[Q6e j0,z1x,z3i lns i j0];split
  ·omega
  rename_i hr;split
  ·omega
  rename_i hw;have ha:Q3b lns i=false:=by
   unfold Q3b;rw[qE j0];simp only[qCe];intro hf;apply hw;rw[y52];unfold Q2i at hf;have j4:lns.findIdx (fun y=>y.front.ls==lns[i].front.ls)<lns.length:=by omega
   have h1:=qDz (w:=j4);generalize lns.findIdx (fun y=>y.front.ls==lns[i].front.ls)=j at *;simp only[qBi]at h1;have j3:Q0x lns[j]=false:=by
    have:Q16 lns[j].front=Q16 lns[i].front:=y8s h1;unfold Q0x at hr ⊢;rw[this];simpa using hr
   obtain⟨d,j1,j2⟩:=z5l (lns.take i) [] lns[j] (List.mem_take_iff_getElem.2 ⟨j,by omega,rfl⟩) j3;exact⟨d,j1,by rw[j2,h1]⟩
  rw[ha];simp only[qDk];have j5:Q0x lns[i]=false:=by simpa using hr
  rw[j5];simp only[qP,qAj,qF,qAz];omega
theorem y34{lns:List Ln}(hp:∀y∈lns,0<=y.front.place)(h:Q3v lns=-1):(Q0j lns).length<=8/\(Q0p lns).length<=20/\∀p∈Q0p lns,p.syms.length<=6:=by
 refine⟨?_,?_,?_⟩
 ·have hc:=y4m lns lns.length (qR _);rw[qAw]at hc;unfold Q0j;by_cases h0:lns.length=0
  ·have:lns=[]:=qCm h0;subst this;simp[Q14]
  have:=z4c hp _ 0 h (by omega) (lns.length-1) (by omega) (by omega);unfold Q7z at this;simp only[qCb,qCe]at this;have h1:=this.1.2;rw[show lns.length-1+1=lns.length by omega]at h1;omega
 ·have e:(Q0p lns).length=Q22 lns lns.length:=by unfold Q0p Q05 Q22;rw[qAw,qAv]
  rw[e];by_cases h0:lns.length=0
  ·rw[h0];simp[Q22]
  have:=z4c hp _ 0 h (by omega) (lns.length-1) (by omega) (by omega);unfold Q7z at this;simp only[qCb,qCe]at this;have h1:=this.1.1.2;rw[show lns.length-1+1=lns.length by omega]at h1;omega
 intro p j0;unfold Q0p at j0;obtain⟨y,hy,rfl⟩:=qBj.1 j0;have j1:=(qDi.1 hy).1;obtain⟨k,hk,rfl⟩:=qBf j1;have:=z4c hp _ 0 h (by omega) k hk (by omega);unfold Q7z at this;simp only[qCb,qCe]at this;unfold Q8a;simp only[qAv];omega
def hN(hs:List Hd)(X:Int):Bool:=(Q1k hs X).nul
def hF(hs:List Hd)(X:Int)(t:Nat):Bool:=(Q1k hs X).fi.getD t false
def hO(hs:List Hd)(X:Int)(t:Nat):Bool:=(Q1k hs X).fo.getD t false
theorem y0o{a:List Bool}(ha:a.length=9){n:Int}(h0:0<=n)(h9:n<9)(t:Nat):(Q2h a n).getD t false=(a.getD t false||(n==(t:Int))):=by
 unfold Q2h;rw[qAb ⟨h0,h9⟩];simp only[qD,qCs];by_cases e:n.toNat=t
 ·have e2:(n==(t:Int))=true:=by simp;omega
  rw[qAb e,qAb (by omega),e2];simp
 have e2:(n==(t:Int))=false:=by simp;omega
 rw[qAa e,e2];simp
theorem z4h(hs:List Hd):∀(l:List Sy) (acc:List Bool),(Q2q hs l acc).2=l.all (Q4c (hN hs))
 | [],_=>rfl
 |s::l,acc=>by
  unfold Q2q;cases h1:s.isH
  ·simp[Q4c,h1]
  simp only[qDf,qAz,qDv,Q4c,h1,qBm,hN];cases h2:(Q1k hs s.num).nul
  ·simp
  simp only[qDf,qAz,qBm];exact z4h hs l _
theorem z61{R H:Nat}{hs:List Hd}(hok:∀x∈hs,x.ok)(hR:R<=8)(t:Nat):∀(l:List Sy) (acc:List Bool),acc.length=9->(∀s∈l,0<=s.num/\s.num<(if s.isH then(H:Int) else R)) ->
  (Q2q hs l acc).1.getD t false=(acc.getD t false||Q3y (hN hs) (fun X=>hF hs X t) t l)
 | [],acc,_,_=>by simp[Q2q,Q3y]
 |s::l,acc,ha,hv=>by
  have hv1:=hv s (by simp);unfold Q2q Q3y;cases h1:s.isH
  ·rw[h1]at hv1;simp only[qF,qAz]at hv1;simp only[qBn,qF,qAz,qDh,qDk];exact y0o ha hv1.1 (by omega) t
  simp only[qDf,qAz,qBn,qBm];have j0:=(z0k hok s.num).fi;cases h2:(Q1k hs s.num).nul
  ·simp only[qBn,hN,h2,qDh,qDk];rw[z3q (by rw[ha,j0])];rfl
  simp only[qDf,qAz];rw[z61 hok hR t l _ (z04 ha j0) (fun x hx=>hv x (by simp[hx])),z3q (by rw[ha,j0])];simp only[hN,h2,qBm,hF,Bool.or_assoc]
theorem z4u(t:Nat):zero9.getD t false=false:=by rw[z3w]
theorem z89{R H:Nat}{hs:List Hd}(hok:∀x∈hs,x.ok)(hR:R<=8)(t:Nat)(ph:Int)(l:List Sy)(hv:∀s∈l,0<=s.num/\s.num<(if s.isH then(H:Int) else R)) :
  (Q8n hs ph l).getD t false=(Q3y (hN hs) (fun X=>hF hs X t) t l||(l.all (Q4c (hN hs))&&hO hs ph t)):=by
 have h1:=z61 hok hR t l zero9 rfl hv;rw[z4u,qDj]at h1;unfold Q8n;rw[z4h];split
 ·rename_i e;rw[z3q (by rw[z1a hok _ _ rfl,(z0k hok _).fo]),h1,e];simp[hO]
 rename_i e;rw[h1];have:l.all (Q4c (hN hs))=false:=by simpa using e
 rw[this];simp
structure Fd(ps:List Pr)(H:Nat)(hs:List Hd):Prop where
 ok:∀x∈hs,x.ok
 n:∀X,hN hs X=true->NS ps H X=true
 f:∀X t,hF hs X t=true->FS ps (NS ps H) t H X=true
theorem y3x{N N' F F':Int->Bool}{t:Nat}(hn:∀X,N X=true->N' X=true)(h:∀X,F X=true->F' X=true):∀l:List Sy,Q3y N F t l=true->Q3y N' F' t l=true
 | [],e=>e
 |s::l,e=>by
  unfold Q3y at e ⊢;cases hs:s.isH
  ·rw[hs]at e;simpa using e
  rw[hs]at e;simp only[qBn,qBm,qAt,qAd]at e ⊢;rcases e with e|⟨e1,e2⟩
  ·exact .inl (h _ e)
  exact .inr ⟨hn _ e1,y3x hn h l e2⟩
theorem Fd.step{ps:List Pr}{R H:Nat}(hT:Q1d ps R H)(hR:R<=8){hs:List Hd}(h:Fd ps H hs){p:Pr}(hp:p∈ps):Fd ps H (Q3i hs p).1:=by
 have j0:=h.ok;have hh:=hT.hd p hp;refine⟨(z3u j0 p false).ok,?_,?_⟩
 ·intro X hX;unfold hN Q3i at hX;rw[z1d]at hX;split at hX
  ·rename_i e;dsimp only at hX;simp only[qAt]at hX;rw[e.1];rcases hX with hX|hX
   ·exact h.n _ hX
   rw[z4h]at hX;refine v1w hT (H+1) _ hh.1 hh.2 ?_;unfold NS;rw[qBb];refine⟨p,hp,?_⟩;simp only[qAd,beq_self_eq_true,true_and];rw[qAy]at hX ⊢;intro s j1;have:=hX s j1;simp only[Q4c,qAd]at this ⊢;exact⟨this.1,h.n _ this.2⟩
  exact h.n X hX
 intro X t hX;unfold hF Q3i at hX;rw[z1d]at hX;split at hX
 ·rename_i e;dsimp only at hX;rw[z3q (by rw[(z0k j0 _).fi,z1a j0 _ _ rfl])]at hX;simp only[qAt]at hX;rw[e.1];rcases hX with hX|hX
  ·exact h.f _ t hX
  rw[z61 j0 hR t p.syms zero9 rfl (hT.sy p hp),z4u,qDj]at hX;refine x8r hT _ t (H+1) _ hh.1 hh.2 ?_;unfold FS;rw[qBb];refine⟨p,hp,?_⟩;simp only[qAd,beq_self_eq_true,true_and];exact y3x h.n (fun Y hY=>h.f Y t hY) _ hX
 exact h.f X t hX
theorem Fd.list{ps:List Pr}{R H:Nat}(hT:Q1d ps R H)(hR:R<=8):∀(l:List Pr) (hs:List Hd) (g:Bool),(∀p∈l,p∈ps)->Fd ps H hs->Fd ps H (Q5k l hs g).1
 | [],_,_,_,h=>h
 |p::l,hs,g,hl,h=>Fd.list hT hR l _ _ (fun q hq=>hl q (by simp[hq])) (h.step hT hR (hl p (by simp)))
theorem x1v{ps:List Pr}{R H:Nat}(hT:Q1d ps R H)(hR:R<=8):Fd ps H (Q33 ps (Q0z R H)):=by
 have j7:=z8d (R:Int) H;have hz:∀n,(Q1k (Q0z (R:Int) H) n).fi=zero9/\(Q1k (Q0z (R:Int) H) n).nul=false:=fun n=>by
  rw[z37];split
  ·unfold Q5e;split<;>exact⟨rfl,rfl⟩
  exact⟨rfl,rfl⟩
 have i0:Fd ps H (Q0z (R:Int) H):=⟨j7,fun X h=>(by unfold hN at h;rw[(hz X).2]at h;cases h),fun X t h=>(by unfold hF at h;rw[(hz X).1,z4u]at h;cases h)⟩;obtain⟨i1,j8,_,_⟩:=z1o (z22 ps) (I:=Fd ps H) (fun hs _ h=>Fd.list hT hR ps hs false (fun _ hp=>hp) h) j7 i0;generalize hq1:Q47 (Q8h ps) (Q0z (R:Int) H)=hs1 at i1 j8;obtain⟨⟨j4,j1⟩,j9,_,_⟩:=z1o (z2h ps) (I:=fun hs=>Q0o Hd.nul hs1 hs/\Q0o Hd.fi hs1 hs) (fun hs _ h=>⟨h.1.trans (z1e (fun _ _=>rfl) ps hs false),h.2.trans (z1e (fun _ _=>rfl) ps hs false)⟩) j8 ⟨Q0o.refl _ _,Q0o.refl _ _⟩;generalize hq2:Q47 (Q5q ps) hs1=hs2 at j4 j1 j9;obtain⟨⟨j5,j2⟩,ja,_,_⟩:=z1o (z2g ps) (I:=fun hs=>Q0o Hd.nul hs2 hs/\Q0o Hd.fi hs2 hs) (fun hs _ h=>⟨h.1.trans (z0y (fun _ _=>rfl) ps hs false),h.2.trans (z0y (fun _ _=>rfl) ps hs false)⟩) j9 ⟨Q0o.refl _ _,Q0o.refl _ _⟩;generalize hq3:Q47 (Q64 ps) hs2=hs3 at j5 j2 ja;obtain⟨⟨j6,j3⟩,jb,_,_⟩:=z1o (z2i ps) (I:=fun hs=>Q0o Hd.nul hs3 hs/\Q0o Hd.fi hs3 hs) (fun hs _ h=>⟨h.1.trans (z02 (fun _ _=>rfl) ps hs false),h.2.trans (z02 (fun _ _=>rfl) ps hs false)⟩) ja ⟨Q0o.refl _ _,Q0o.refl _ _⟩;have j0:Q33 ps (Q0z (R:Int) H)=Q47 (Q73 ps) hs3:=by unfold Q33;rw[hq1,hq2,hq3]
 rw[j0];generalize Q47 (Q73 ps) hs3=hs4 at j6 j3 jb;have kn:Q0o Hd.nul hs1 hs4:=(j4.trans j5).trans j6;have kf:Q0o Hd.fi hs1 hs4:=(j1.trans j2).trans j3;refine⟨jb,fun X h=>i1.n X ?_,fun X t h=>i1.f X t ?_⟩
 ·unfold hN at h ⊢;rw[kn X]at h;exact h
 unfold hF at h ⊢;rw[kf X]at h;exact h
def chF(hs:List Hd)(ps:List Pr)(X:Int)(t:Nat):Int:=match ovL X t (ps.zip (Q0r hs ps)) 0 with
 | []=>-1
 |a::_=>a
theorem y7b(n t:Int):∀(z:List (Pr × List Bool)) (i:Nat) (k:Int),k∈ovL n t z i↔∃(j:Nat) (x:Pr × List Bool),z[j]? = some x/\k=(i:Int)+j/\x.1.head=n/\Q9e x.2 t=true
 | [],i,k=>by simp[ovL]
 |q::z,i,k=>by
  have ih:=y7b n t z (i+1) k;unfold ovL;constructor
  ·intro h;split at h
   ·rename_i e;simp only[qBu]at h;rcases h with rfl|h
    ·exact⟨0,q,rfl,by simp,e.1,e.2⟩
    obtain⟨j,x,h1,h2,h3⟩:=ih.1 h;exact⟨j+1,x,by simpa using h1,by omega,h3⟩
   obtain⟨j,x,h1,h2,h3⟩:=ih.1 h;exact⟨j+1,x,by simpa using h1,by omega,h3⟩
  rintro⟨j,x,h1,h2,h3⟩;cases j with
  |zero =>
   simp only[qCv,qO]at h1;subst h1;rw[qAb h3];simp[h2]
  |succ j =>
   have:=ih.2 ⟨j,x,by simpa using h1,by omega,h3⟩;split
   ·simp[this]
   exact this
theorem x4f{n t:Int}{l:List Int}(h:Q6l n t l=[]):l.length<=1:=by
 match l with
 | []=>simp
 | [_]=>simp
 |a::b::r=>simp[Q6l]at h
theorem x2g{z:List (Pr × List Bool)}{n R:Nat}:∀(f t:Nat),clT z n R f t=[]->∀u:Nat,t<=u->u<=R->R+1<=t+f->(ovL n u z 0).length<=1
 |0,t,_,u,h1,h2,h3=>by omega
 |f+1,t,h,u,h1,h2,h3=>by
  unfold clT at h;rw[qAb (by omega)]at h;obtain⟨h4,h5⟩:=List.append_eq_nil_iff.1 h;by_cases e:t=u
  ·subst e;exact x4f h4
  exact x2g f (t+1) h5 u (by omega) h2 (by omega)
theorem x2e{z:List (Pr × List Bool)}{R H:Nat}:∀(f n:Nat),clN z R H f n=[]->∀m u:Nat,n<=m->m<H->H<=n+f->u<=R->(ovL m u z 0).length<=1
 |0,n,_,m,u,h1,h2,h3,_=>by omega
 |f+1,n,h,m,u,h1,h2,h3,h6=>by
  unfold clN at h;rw[qAb (by omega)]at h;obtain⟨h4,h5⟩:=List.append_eq_nil_iff.1 h;by_cases e:n=m
  ·subst e;exact x2g _ 0 h4 u (by omega) h6 (by omega)
  exact x2e f (n+1) h5 m u (by omega) h2 (by omega) h6
theorem x9r{hs:List Hd}{ps:List Pr}{j:Nat}{x:Pr × List Bool}:(ps.zip (Q0r hs ps))[j]? = some x↔∃p,ps[j]? = some p/\x=(p,Q8n hs p.head p.syms):=by
 unfold Q0r;rw[List.zip_map_right,qBt];constructor
 ·intro h;cases hq:(ps.zip ps)[j]? with
  |none=>rw[hq]at h;cases h
  |some y =>
   rw[hq]at h;rw[List.getElem?_zip_eq_some]at hq;obtain⟨y1,y2⟩:=y;have e:y1=y2:=by have:=hq.1.symm.trans hq.2;simpa using this
   subst e;refine⟨y1,hq.1,?_⟩;simp only[qDw,qO]at h;rw[← h];rfl
 rintro⟨p,h1,rfl⟩;have:(ps.zip ps)[j]? = some (p,p):=by rw[List.getElem?_zip_eq_some];exact⟨h1,h1⟩
 rw[this];rfl
theorem llg{ps:List Pr}{R H:Nat}(hT:Q1d ps R H)(hR:R<=8)(hH:0<H)(hmx:∀p∈ps,p.syms.length<=6)
  (hcl:Q6g (ps.zip (Q0r (Q33 ps (Q0z R H)) ps)) R H=[]):LLG ps R H (hN (Q33 ps (Q0z R H))) (hF (Q33 ps (Q0z R H))) (hO (Q33 ps (Q0z R H))) (chF (Q33 ps (Q0z R H)) ps):=by
 have hS:=z8o hT hR;have hD:=x1v hT hR;generalize Q33 ps (Q0z R H)=hs at *;have j3:∀n X,NS ps n X=true->hN hs X=true:=by
  intro n;induction n with
  |zero=>intro X h;cases h
  |succ n ih =>
   intro X h;unfold NS at h;rw[qBb]at h;obtain⟨p,hp,h⟩:=h;simp only[qAd,qAy,qBi]at h;rw[← h.1];refine hS.clN p hp ?_;rw[z4h,qAy];intro s j0;simp only[Q4c,qAd];exact⟨(h.2 s j0).1,ih _ (h.2 s j0).2⟩
 have j1:NS ps H=hN hs:=by
  funext X;rw[qBc];exact⟨j3 H X,hD.n X⟩
 have j2:∀p∈ps,∀t:Nat,Q9e (Q8n hs p.head p.syms) t=ahd (hN hs) (hF hs) (hO hs) p t:=fun p hp t=>by
  unfold Q9e ahd;rw[qAb (by omega),qAo];exact z89 hS.ok hR t p.head p.syms (hT.sy p hp)
 refine⟨hT,hmx,?_,?_,?_,hD.n,?_,hS.st2 hH,hS.bfi,?_,?_⟩
 ·intro p hp h;exact hS.clN p hp (by rw[z4h];exact h)
 ·intro p hp t h;refine hS.clF p hp t ?_;rw[z61 hS.ok hR t p.syms zero9 rfl (hT.sy p hp),z4u,qDj];exact h
 ·intro p hp a s b e j0 t h;refine hS.clS p hp a s b e j0 t ?_;rw[z89 hS.ok hR t p.head b (fun x hx=>hT.sy p hp x (by rw[e];simp[hx]))];exact h
 ·intro X t h;rw[← j1];exact hD.f X t h
 ·intro i p hi t ht ha;have hp:=qAi hi;have hh:=hT.hd p hp;have hm:(i:Int)∈ovL p.head t (ps.zip (Q0r hs ps)) 0:=by
   rw[y7b];exact⟨i,_,x9r.2 ⟨p,hi,rfl⟩,by simp,rfl,by rw[j2 p hp];exact ha⟩
  have h1:=x2e (z:=ps.zip (Q0r hs ps)) (R:=R) (H:=H) (H+1) 0 hcl p.head.toNat t (by omega) (by omega) (by omega) ht;rw[show((p.head.toNat:Nat):Int)=p.head by omega]at h1;unfold chF;generalize ovL p.head t (ps.zip (Q0r hs ps)) 0=l at hm h1;match l with
  | []=>cases hm
  | [a]=>simp at hm;simp[hm]
  |a::b::r=>simp at h1
 intro X t h0;unfold chF at h0 ⊢;cases hq:ovL X t (ps.zip (Q0r hs ps)) 0 with
 |nil=>rw[hq]at h0;simp at h0
 |cons a r =>
  have hm:a∈ovL X t (ps.zip (Q0r hs ps)) 0:=by rw[hq];simp
  rw[y7b]at hm;obtain⟨j,x,h1,h2,h3,h4⟩:=hm;obtain⟨p,h5,rfl⟩:=x9r.1 h1;refine⟨p,?_,h3,?_⟩
  ·simp only[];rw[h2];simpa using h5
  rw[← j2 p (qAi h5)];exact h4
structure Nd where
 prod:Int
 kind:Int
 place:Int
 size:Int
def ndL:List St->Nat->List Nd
 | [],_=>[]
 |s::l,n=>if s.leaf then⟨-1,s.num,n,0⟩::ndL l (n+1) else⟨s.num,-1,n,0⟩::ndL l n
theorem z69:∀(l:List St) (n:Nat),(ndL l n).length=l.length
 | [],_=>rfl
 |s::l,n=>by unfold ndL;split<;>simp[z69 l]
def arF(ps:List Pr)(n:Nd):Nat:=if n.prod<0 then 0 else match ps[n.prod.toNat]? with
 |some p=>p.syms.length
 |none=>0
def szL(S:List Nat):Nat->Nat->Nat
 |0,z=>z
 |l+1,z=>match S[z-1]? with
  |some d=>szL S l (z+d)
  |none=>z
def Q08(ps:List Pr):List Nd->List Nat
 | []=>[]
 |n::l=>szL (Q08 ps l) (arF ps n) 1::Q08 ps l
theorem z21(ps:List Pr):∀l,(Q08 ps l).length=l.length
 | []=>rfl
 |n::l=>by simp[Q08,z21 ps l]
def Q8g(n:Nd)(z:Nat):Nd:={n with size:=z}
def Q1p(ps:List Pr)(st:List St):List Nd:=List.zipWith Q8g (ndL st 0) (Q08 ps (ndL st 0))
theorem z7b(ps:List Pr)(st:List St):(Q1p ps st).length=st.length:=by simp[Q1p,z69,z21]
theorem x9e{S:List Nat}(hS:∀j d,S[j]? = some d->1<=d/\j+d<=S.length):∀(l z:Nat),1<=z->z<=S.length+1->1<=szL S l z/\szL S l z<=S.length+1
 |0,z,h1,h2=>⟨h1,h2⟩
 |l+1,z,h1,h2=>by
  unfold szL;cases hq:S[z-1]? with
  |none=>exact⟨h1,h2⟩
  |some d =>
   have:=hS _ _ hq;exact x9e hS l (z+d) (by omega) (by omega)
theorem y0d(ps:List Pr):∀(l:List Nd) (j d:Nat),(Q08 ps l)[j]? = some d->1<=d/\j+d<=l.length
 | [],j,d,h=>by simp[Q08]at h
 |n::l,0,d,h=>by
  simp only[Q08,qCv,qO]at h;have:=x9e (S:=Q08 ps l) (fun j d h=>by rw[z21];exact y0d ps l j d h) (arF ps n) 1 (by omega) (by omega);rw[z21]at this;simp only[qBk];omega
 |n::l,j+1,d,h=>by
  simp only[Q08,qFu]at h;have:=y0d ps l j d h;simp only[qBk];omega
theorem z4t(ps:List Pr):∀(l:List Nd) (i:Nat),(Q08 ps l).drop i=Q08 ps (l.drop i)
 | [],i=>by simp[Q08]
 |n::l,0=>rfl
 |n::l,i+1=>by simp only[Q08,List.drop_succ_cons];exact z4t ps l i
theorem x48(ps:List Pr)(l:List Nd)(i:Nat)(hi:i<l.length):(Q08 ps l)[i]? = some (szL ((Q08 ps l).drop (i+1)) (arF ps l[i]) 1):=by
 have h1:(Q08 ps l)[i]? = ((Q08 ps l).drop i)[0]? := by simp
 rw[h1,z4t,qC hi,z4t];rfl
def Q57(hs:List Hd)(R:Nat)(k:List Sy):List Bool:=if(Q2q hs k zero9).2 then Q2h (Q2q hs k zero9).1 R else(Q2q hs k zero9).1
def Q7w(ps:List Pr)(hs:List Hd)(H t:Nat)(k:List Sy)(st:List St):List Sy × List St:=(gTo ps (chF hs ps) t (Q2y H k.length) k st).getD (k,st)
structure GOut where
 err:Int
 wanted:List Int
 place:Nat
 st:List St
def Q6k(ps:List Pr)(hs:List Hd)(R H:Nat):List Int->Nat->List Sy->List St->GOut
 | [],a,k,st=>if(Q57 hs R k).getD R false then⟨0,[],0,(Q7w ps hs H R k st).2⟩ else⟨10,Q3e (Q57 hs R k),a,[]⟩
 |t::l,a,k,st=>if(Q57 hs R k).getD t.toNat false then Q6k ps hs R H l (a+1) (Q7w ps hs H t.toNat k st).1 (Q7w ps hs H t.toNat k st).2 else⟨10,Q3e (Q57 hs R k),a,[]⟩
theorem z30{R H:Nat}{hs:List Hd}(hok:∀x∈hs,x.ok)(hR:R<=8)(k:List Sy)(hv:∀s∈k,0<=s.num/\s.num<(if s.isH then(H:Int) else R))(t:Nat):(Q57 hs R k).getD t false=Q6u (hN hs) (hF hs) R k t:=by
 have h1:=z61 hok hR t k zero9 rfl hv;rw[z4u,qDj]at h1;unfold Q57 Q6u;rw[z4h];split
 ·rename_i e;rw[y0o (z1a hok _ _ rfl) (by omega) (by omega),h1,e];simp only[qBm];congr 1;rw[qBc];simp;omega
 rename_i e;have:k.all (Q4c (hN hs))=false:=by simpa using e
 rw[h1,this];simp
theorem y9u{hs:List Hd}(hok:∀x∈hs,x.ok)(R:Nat)(k:List Sy):(Q57 hs R k).length=9:=by
 unfold Q57;split
 ·exact z2t (z1a hok _ _ rfl)
 exact z1a hok _ _ rfl
def Nd.cells(n:Nd):List Value:=[.int .i64 n.prod,.int .i64 n.kind,.int .i64 n.place,.int .i64 n.size]
abbrev Q2x(w:World)(base:Nat)(v:Value)(l:List Nd):Prop:=w.ownsRow base 67 4 v l.length (Q0y Nd.cells l)
abbrev ndA(p k a s:Int):Array Value:=#[.int .i64 p,.int .i64 k,.int .i64 a,.int .i64 s]
theorem stoodNd:Tryz.prog.stoodInHeld 67=false:=by kernel_rfl
theorem guardNd:Tryz.prog.eqGuardType Tryz.prog.depth 67=false:=by kernel_rfl
theorem eqNd(d:Nat)(h t a b:Int)(w:World):(Op.equalIn (d+4) 67 (.agg (ndA h t a b)) (.agg (ndA h t a b))).run Tryz.prog w=.ok true w:=by
 rw[run_equalIn_struct w (d+3) _ _ _ (by kernel_rfl) stoodNd];have hf : ((Tryz.prog.fieldsOf 67).toList.map fun f => (f.name, f.type, f.offset)) = [("Prod", 3, 0), ("Kind", 3, 1), ("At", 3, 2), ("Size", 3, 3)] := by kernel_rfl
 generalize(Tryz.prog.fieldsOf 67).toList=fs at hf;rcases fs with _|⟨f0,_|⟨f1,_|⟨f2,_|⟨f3,_|⟨f4,fs⟩⟩⟩⟩⟩<;>simp at hf;obtain⟨⟨n0,t0,o0⟩,⟨n1,t1,o1⟩,⟨n2,t2,o2⟩,⟨n3,t3,o3⟩⟩:=hf;simp only[Op.eqFields,n0,t0,o0,n1,t1,o1,n2,t2,o2,n3,t3,o3];simp[partI,qFh w (d+2) 3 .i64 _ _ _ qEj]
def ldN(v:Value):Sem Value:=Instr.loadAt 67 v
theorem y2n(v:Value):Instr.loadAt 67 v=ldN v:=rfl
theorem szNd:(Tryz.prog.info? 67).map (·.size)=some 4:=by kernel_rfl
theorem x3m{w:World}{g o:Nat}{p k a s:Int}(hr:w.rangeAt g o [.int .i64 p,.int .i64 k,.int .i64 a,.int .i64 s]):(ldN (.pointer (some ⟨g,o,none⟩))).run Tryz.prog w=.ok (.agg (ndA p k a s)) w :=
 qFo w g o _ _ _ hr Tryz.underlying67 rfl szNd
def ldK(v:Value):Sem Value:=Instr.loadAt 63 v
theorem x6u(v:Value):Instr.loadAt 63 v=ldK v:=rfl
theorem szTo:(Tryz.prog.info? 63).map (·.size)=some 3:=by kernel_rfl
abbrev NdsAt:=Q18 Nd.cells 4 67
attribute [local go_sem ↓] y2n
attribute [local go_sem ↓] x6u
def Itm.cells(m:Itm):List Value:=[.int .i64 m.p,.int .i64 m.d,.int .i64 m.f]
abbrev itA(p d f:Int):Array Value:=#[.int .i64 p,.int .i64 d,.int .i64 f]
abbrev ItsAt:=Q18 Itm.cells 3 180
def itEq(a b:Itm):Bool:=a.p==b.p&&(a.d==b.d&&a.f==b.f)
theorem y8u(a b:Itm):itEq a b=true↔a=b:=by
 obtain⟨a1,a2,a3⟩:=a;obtain⟨b1,b2,b3⟩:=b;simp[itEq]
def inI(l:List Itm)(m:Itm):Bool:=l.any (itEq · m)
theorem x3a(l:List Itm)(m:Itm):inI l m=true↔m∈l:=by
 unfold inI;rw[qBb];constructor
 ·rintro⟨x,hx,e⟩;rw[y8u]at e;exact e▸hx
 intro h;exact⟨m,h,(y8u m m).2 rfl⟩
theorem stoodIt:Tryz.prog.stoodInHeld 180=false:=by kernel_rfl
theorem guardIt:Tryz.prog.eqGuardType Tryz.prog.depth 180=false:=by kernel_rfl
theorem szIt:(Tryz.prog.info? 180).map (·.size)=some 3:=by kernel_rfl
theorem eqIt(d:Nat)(a b:Itm)(w:World):(Op.equalIn (d+4) 180 (.agg (itA a.p a.d a.f)) (.agg (itA b.p b.d b.f))).run Tryz.prog w=.ok (itEq a b) w:=by
 obtain⟨a1,a2,a3⟩:=a;obtain⟨b1,b2,b3⟩:=b;rw[run_equalIn_struct w (d+3) _ _ _ (by kernel_rfl) stoodIt];have hf : ((Tryz.prog.fieldsOf 180).toList.map fun f => (f.name, f.type, f.offset)) = [("Prod", 3, 0), ("Dot", 3, 1), ("From", 3, 2)] := by kernel_rfl
 generalize(Tryz.prog.fieldsOf 180).toList=fs at hf;rcases fs with _|⟨f0,_|⟨f1,_|⟨f2,_|⟨f3,fs⟩⟩⟩⟩<;>simp at hf;obtain⟨⟨n0,t0,o0⟩,⟨n1,t1,o1⟩,⟨n2,t2,o2⟩⟩:=hf;simp only[Op.eqFields,n0,t0,o0,n1,t1,o1,n2,t2,o2];have k:∀a b:Nat,a≠b->¬((a:Int)=(b:Int)):=fun a b h e=>h (by omega);have k2:∀a b:Nat,a≠b->(a==b)=false:=fun a b h=>by simpa using h
 by_cases e1:a1=b1
 ·subst e1;by_cases e2:a2=b2
  ·subst e2;by_cases e3:a3=b3
   ·subst e3;simp[itEq,partI,qFh w (d+2) 3 .i64 _ _ _ qEj]
   simp[itEq,k _ _ e3,k2 _ _ e3,partI,qFh w (d+2) 3 .i64 _ _ _ qEj]
  simp[itEq,k _ _ e2,k2 _ _ e2,partI,qFh w (d+2) 3 .i64 _ _ _ qEj]
 simp[itEq,k _ _ e1,k2 _ _ e1,partI,qFh w (d+2) 3 .i64 _ _ _ qEj]
def ldI(v:Value):Sem Value:=Instr.loadAt 180 v
theorem z5n(v:Value):Instr.loadAt 180 v=ldI v:=rfl
theorem z3g{w:World}{g o:Nat}{m:Itm}(hr:w.rangeAt g o m.cells):(ldI (.pointer (some ⟨g,o,none⟩))).run Tryz.prog w=.ok (.agg (itA m.p m.d m.f)) w :=
 qFo w g o _ _ _ hr Tryz.underlying180 rfl szIt
theorem W0c(w:World)(m:Itm)(t:TypeId):(w.alloc (.cells (itA m.p m.d m.f) t (0,0))).rangeAt w.heap.size 0 m.cells:=fun j v hj=>by
 rw[Q0b (z0a _ _),qBy];simpa [Itm.cells]using hj
attribute [local go_sem ↓] z5n
theorem v2a(w:World)(v:Value)(l:List Itm)(m:Itm)(h:ItsAt w v l)(hl:l.length<=100000) :
  Calls Tryz.prog 113 #[v,.agg (itA m.p m.d m.f)] w fun e w'=>e=.returned (.bool (inI l m))/\Q0a w w':=by
 obtain⟨ao,cap,hv⟩:=z0c h.own;subst hv;have HA:=hid h;generalize hR:inI l m=RES;unfold inI at hR;have HR:=hid hR;have HN:=hid (W0c w m 180);have j4:Hid (Q0a w (w.alloc (.cells (itA m.p m.d m.f) 180 (0,0)))):=(mRf _ w).alloc _;clear h hR;go_enter Tryz.func113,Tryz.ntmps113
 go_wp2;go_loopw [5] (fun x5 wr=>∃(i:Nat),x5=.int .i64 i/\i<=l.length/\(l.drop i).any (itEq · m)=RES/\∃k,wr=(w.alloc (.cells (itA m.p m.d m.f) 180 (0,0))).drewN k)
   (fun x _=>100001-(intOf x).toNat)
 case atStart=>exact⟨0,rfl,by omega,HR.out,0,rfl⟩
 obtain⟨i,rfl,hi,j0,k,j6⟩:=hrel;subst j6;have j2:Hid (∀k,Q0a w ((w.alloc (.cells (itA m.p m.d m.f) 180 (0,0))).drewN k)):=fun k=>j4.trans (Q39 _ k);have j5:=hid (Q19 (B:=100001) i (by omega));by_cases j3:i<l.length
 ·have j8:(i:Int)<(l.length:Int):=by omega
  rw[qC j3,List.any_cons]at j0;obtain⟨g,c',hg⟩:=Joins.ownsRow_form HA.own (by omega);rw[qI]at hg;obtain⟨rfl,_,rfl⟩:=hg;have r1:=HA.range i j3;generalize l[i]=li at r1 j0;have l1:∀k,(ldI (.pointer (some ⟨g,i*3,none⟩))).run Tryz.prog ((w.alloc (.cells (itA m.p m.d m.f) 180 (0,0))).drewN k)=.ok (.agg (itA li.p li.d li.f)) ((w.alloc (.cells (itA m.p m.d m.f) 180 (0,0))).drewN k):=fun k=>z3g (fun j v hj=>Q0h (j2.out k) (r1 j v hj));have l2:∀k,(ldI (.pointer (some ⟨w.heap.size,0,none⟩))).run Tryz.prog ((w.alloc (.cells (itA m.p m.d m.f) 180 (0,0))).drewN k)=.ok (.agg (itA m.p m.d m.f)) ((w.alloc (.cells (itA m.p m.d m.f) 180 (0,0))).drewN k):=fun k=>z3g (z0t HN.out rfl);have q1:∀w,(Op.equalIn 10000 180 (.agg (itA li.p li.d li.f)) (.agg (itA m.p m.d m.f))).run Tryz.prog w=.ok (itEq li m) w:=fun w=>eqIt 9996 li m w;have g1:=guardIt;clear r1;generalize itEq li m=bq at j0 q1;cases bq
  ·rw[qDj]at j0;have j1:=hid j0;clear j0;go_wp2_with fail
   go_quiet (fail);go_wp2;go_roundw
   case rel=>exact⟨i+1,by go_num,by omega,j1.out,_,rfl⟩
   exact j5.out
  rw[Bool.true_or]at j0;have j1:=hid j0;clear j0;go_wp2_with fail
  go_quiet (fail);go_wp2;go_ret;exact⟨z0w j1.out,(j2.out _).trans (Q39 _ _)⟩
 have j7:i=l.length:=by omega
 have j9:¬(i:Int)<(l.length:Int):=by omega
 rw[j7,qCy]at j0;have j1:=hid j0;clear j0;go_wp2;go_ret;exact⟨z0w (by rw[← j1.out];rfl),j2.out _⟩
structure FoI(hs1:List Hd)(QO:Int->Nat->Prop)(hs:List Hd):Prop where
 ok:∀x∈hs,x.ok
 kn:Q0o Hd.nul hs1 hs
 kf:Q0o Hd.fi hs1 hs
 kr:Q0o Hd.rch hs1 hs
 ku:Q0o Hd.fru hs1 hs
 o:∀X t,hO hs X t=true->QO X t
theorem x80{hs hs':List Hd}(h:Q0o Hd.nul hs hs'):hN hs'=hN hs:=funext fun X=>h X
theorem x8z{hs hs':List Hd}(h:Q0o Hd.fi hs hs'):hF hs'=hF hs:=funext fun X=>funext fun t=>by unfold hF;rw[h X]
theorem foSS{QO:Int->Nat->Prop}{R H:Nat}(hR:R<=8){hs1:List Hd}(ph:Int)(syms:List Sy)(hv:∀s∈syms,0<=s.num/\s.num<(if s.isH then(H:Int) else R))
  (hq:∀a s b,syms=a++s::b->s.isH=true->∀t,(Q3y (hN hs1) (fun X=>hF hs1 X t) t b=true∨(b.all (Q4c (hN hs1))=true/\QO ph t))->QO s.num t) :
  ∀(l a:List Sy) (hs:List Hd) (g:Bool),syms=a++l->FoI hs1 QO hs->FoI hs1 QO (Q2z ph l hs g).1
 | [],a,hs,g,e,h=>h
 |s::l,a,hs,g,e,h=>by
  unfold Q2z;split
  ·exact foSS hR ph syms hv hq l (a++[s]) hs g (by rw[e];simp) h
  rename_i c;have c':s.isH=true:=by simpa using c
  refine foSS hR ph syms hv hq l (a++[s]) _ _ (by rw[e];simp) ?_;have j0:=h.ok;have j1:=z3j j0 ph l;refine⟨y7f j0 _ ⟨(z0k j0 s.num).fi,z04 (z0k j0 s.num).fo j1⟩,?_,?_,?_,?_,?_⟩
  ·intro n;rw[z1d];split
   ·rename_i q;rw[q.1];exact h.kn s.num
   exact h.kn n
  ·intro n;rw[z1d];split
   ·rename_i q;rw[q.1];exact h.kf s.num
   exact h.kf n
  ·intro n;rw[z1d];split
   ·rename_i q;rw[q.1];exact h.kr s.num
   exact h.kr n
  ·intro n;rw[z1d];split
   ·rename_i q;rw[q.1];exact h.ku s.num
   exact h.ku n
  intro X t ht;unfold hO at ht;rw[z1d]at ht;split at ht
  ·rename_i q;rw[q.1];unfold Q5t at ht;dsimp only at ht;rw[z3q (by rw[(z0k j0 _).fo,j1])]at ht;simp only[qAt]at ht;rcases ht with ht|ht
   ·exact h.o _ t ht
   rw[z89 j0 hR t ph l (fun x hx=>hv x (by rw[e];simp[hx])),x80 h.kn,x8z h.kf]at ht;simp only[qAt,qAd]at ht;refine hq a s l e c' t ?_;rcases ht with ht|ht
   ·exact .inl ht
   exact .inr ⟨ht.1,h.o _ t ht.2⟩
  exact h.o X t ht
theorem foSL{ps:List Pr}{R H:Nat}(hT:Q1d ps R H)(hR:R<=8){QO:Int->Nat->Prop}{hs1:List Hd}
  (hq:∀p∈ps,∀a s b,p.syms=a++s::b->s.isH=true->∀t,(Q3y (hN hs1) (fun X=>hF hs1 X t) t b=true∨(b.all (Q4c (hN hs1))=true/\QO p.head t))->QO s.num t) :
  ∀(l:List Pr) (hs:List Hd) (g:Bool),(∀p∈l,p∈ps)->FoI hs1 QO hs->FoI hs1 QO (Q5l l hs g).1
 | [],_,_,_,h=>h
 |p::l,hs,g,hl,h=>foSL hT hR hq l _ _ (fun q hq=>hl q (by simp[hq])) (foSS hR p.head p.syms (hT.sy p (hl p (by simp))) (hq p (hl p (by simp))) p.syms [] hs g rfl h)
theorem rcRS{QR:Int->Prop}:∀(l:List Sy) (hs:List Hd) (g:Bool),(∀s∈l,s.isH=true->QR s.num)->(∀X,(Q1k hs X).rch=true->QR X)->∀X,(Q1k (Q3j l hs g).1 X).rch=true->QR X
 | [],hs,g,_,h=>h
 |s::l,hs,g,hq,h=>by
  unfold Q3j;split
  ·exact rcRS l hs g (fun x hx=>hq x (by simp[hx])) h
  rename_i c;refine rcRS l _ _ (fun x hx=>hq x (by simp[hx])) ?_;intro X hX;rw[z1d]at hX;split at hX
  ·rename_i e;rw[e.1];exact hq s (by simp) (by simpa using c)
  exact h X hX
theorem rcRL{ps:List Pr}{QR:Int->Prop}(hq:∀p∈ps,QR p.head->∀s∈p.syms,s.isH=true->QR s.num):∀(l:List Pr) (hs:List Hd) (g:Bool),(∀p∈l,p∈ps)->(∀X,(Q1k hs X).rch=true->QR X)->∀X,(Q1k (Q3o l hs g).1 X).rch=true->QR X
 | [],_,_,_,h=>h
 |p::l,hs,g,hl,h=>by
  unfold Q3o;split
  ·exact rcRL hq l hs g (fun q hq=>hl q (by simp[hq])) h
  rename_i c;exact rcRL hq l _ _ (fun q hq=>hl q (by simp[hq])) (rcRS p.syms hs g (hq p (hl p (by simp)) (h _ (by simpa using c))) h)
theorem fuFL{ps:List Pr}{QU:Int->Prop}(hq:∀p∈ps,(∀s∈p.syms,s.isH=true->QU s.num)->QU p.head):∀(l:List Pr) (hs:List Hd) (g:Bool),(∀p∈l,p∈ps)->(∀X,(Q1k hs X).fru=true->QU X)->∀X,(Q1k (Q48 l hs g).1 X).fru=true->QU X
 | [],_,_,_,h=>h
 |p::l,hs,g,hl,h=>by
  unfold Q48;refine fuFL hq l _ _ (fun q hq=>hl q (by simp[hq])) ?_;intro X hX;unfold Q4t at hX;rw[z1d]at hX;split at hX
  ·rename_i e;dsimp only at hX;rw[qAt]at hX;rw[e.1];rcases hX with hX|hX
   ·exact h _ hX
   refine hq p (hl p (by simp)) (fun s hs1 hs2=>h _ ?_);unfold Q45 at hX;rw[qAy]at hX;have:=hX s hs1;unfold fruB at this;rw[hs2]at this;simpa using this
  exact h X hX
theorem x57{ps:List Pr}{R H:Nat}(hT:Q1d ps R H)(hR:R<=8){QO:Int->Nat->Prop}{QR QU:Int->Prop}
  (q0:QO 0 R) (qo:∀p∈ps,∀a s b,p.syms=a++s::b->s.isH=true->∀t,(Q3y (hN (Q33 ps (Q0z R H))) (fun X=>hF (Q33 ps (Q0z R H)) X t) t b=true∨(b.all (Q4c (hN (Q33 ps (Q0z R H))))=true/\QO p.head t))->QO s.num t)
  (qr0:QR 0) (qr:∀p∈ps,QR p.head->∀s∈p.syms,s.isH=true->QR s.num) (qu:∀p∈ps,(∀s∈p.syms,s.isH=true->QU s.num)->QU p.head) :
  (∀X t,hO (Q33 ps (Q0z R H)) X t=true->QO X t)/\(∀X,(Q1k (Q33 ps (Q0z R H)) X).rch=true->QR X)/\(∀X,(Q1k (Q33 ps (Q0z R H)) X).fru=true->QU X):=by
 have jh:=z8d (R:Int) H;have hz:∀n,(Q1k (Q0z (R:Int) H) n).fru=false/\((Q1k (Q0z (R:Int) H) n).rch=true->n=0)/\(∀t,(Q1k (Q0z (R:Int) H) n).fo.getD t false=true->n=0/\t=R):=fun n=>by
  rw[z37];split
  ·rename_i e;unfold Q5e;split
   ·rename_i e0;refine⟨rfl,fun _=>by omega,fun t ht=>?_⟩;dsimp only at ht;rw[y0o rfl (by omega) (by omega),z4u]at ht;simp at ht;omega
   refine⟨rfl,fun q=>(by cases q),fun t ht=>?_⟩;have:zeroHd.fo=zero9:=rfl;rw[this,z4u]at ht;cases ht
  refine⟨rfl,fun q=>(by cases q),fun t ht=>?_⟩;have:zeroHd.fo=zero9:=rfl;rw[this,z4u]at ht;cases ht
 obtain⟨⟨j6,j8,j4⟩,j1,_,_⟩:=z1o (z22 ps) (I:=fun hs=>Q0o Hd.rch (Q0z (R:Int) H) hs/\Q0o Hd.fru (Q0z (R:Int) H) hs/\Q0o Hd.fo (Q0z (R:Int) H) hs)
  (fun hs _ h=>⟨h.1.trans (z1v (fun _ _ _=>rfl) ps hs false),h.2.1.trans (z1v (fun _ _ _=>rfl) ps hs false),h.2.2.trans (z1v (fun _ _ _=>rfl) ps hs false)⟩) jh ⟨Q0o.refl _ _,Q0o.refl _ _,Q0o.refl _ _⟩
 have j0:Q33 ps (Q0z (R:Int) H)=Q47 (Q73 ps) (Q47 (Q64 ps) (Q47 (Q5q ps) (Q47 (Q8h ps) (Q0z (R:Int) H)))):=rfl;generalize hq1:Q47 (Q8h ps) (Q0z (R:Int) H)=hs1 at j6 j8 j4 j1 j0; -- what later steps keep
 have k2:=z1o (z2h ps) (I:=fun hs=>Q0o Hd.nul hs1 hs/\Q0o Hd.fi hs1 hs) (fun hs _ h=>⟨h.1.trans (z1e (fun _ _=>rfl) ps hs false),h.2.trans (z1e (fun _ _=>rfl) ps hs false)⟩) j1 ⟨Q0o.refl _ _,Q0o.refl _ _⟩;obtain⟨⟨jd,jb⟩,j9,_,_⟩:=k2;obtain⟨⟨je,jc,jf,jg⟩,ja,_,_⟩:=z1o (z2g ps) (I:=fun hs=>Q0o Hd.nul (Q47 (Q5q ps) hs1) hs/\Q0o Hd.fi (Q47 (Q5q ps) hs1) hs/\Q0o Hd.fo (Q47 (Q5q ps) hs1) hs/\Q0o Hd.fru (Q47 (Q5q ps) hs1) hs) (fun hs _ h=>⟨h.1.trans (z0y (fun _ _=>rfl) ps hs false),h.2.1.trans (z0y (fun _ _=>rfl) ps hs false),h.2.2.1.trans (z0y (fun _ _=>rfl) ps hs false),h.2.2.2.trans (z0y (fun _ _=>rfl) ps hs false)⟩) j9 ⟨Q0o.refl _ _,Q0o.refl _ _,Q0o.refl _ _,Q0o.refl _ _⟩;obtain⟨⟨j3,j2,j5,j7⟩,ji,_,_⟩:=z1o (z2i ps) (I:=fun hs=>Q0o Hd.nul (Q47 (Q64 ps) (Q47 (Q5q ps) hs1)) hs/\Q0o Hd.fi (Q47 (Q64 ps) (Q47 (Q5q ps) hs1)) hs/\Q0o Hd.fo (Q47 (Q64 ps) (Q47 (Q5q ps) hs1)) hs/\Q0o Hd.rch (Q47 (Q64 ps) (Q47 (Q5q ps) hs1)) hs) (fun hs _ h=>⟨h.1.trans (z02 (fun _ _=>rfl) ps hs false),h.2.1.trans (z02 (fun _ _=>rfl) ps hs false),h.2.2.1.trans (z02 (fun _ _=>rfl) ps hs false),h.2.2.2.trans (z02 (fun _ _=>rfl) ps hs false)⟩) ja ⟨Q0o.refl _ _,Q0o.refl _ _,Q0o.refl _ _,Q0o.refl _ _⟩;rw[← j0]at j3 j2 j5 j7 ji;have eN:hN (Q33 ps (Q0z (R:Int) H))=hN hs1:=x80 ((jd.trans je).trans j3);have eF:hF (Q33 ps (Q0z (R:Int) H))=hF hs1:=x8z ((jb.trans jc).trans j2);rw[eN,eF]at qo;have i1:FoI hs1 QO hs1:=⟨j1,Q0o.refl _ _,Q0o.refl _ _,Q0o.refl _ _,Q0o.refl _ _,fun X t h=>by
  unfold hO at h;rw[j4 X]at h;obtain⟨e1,e2⟩:=(hz X).2.2 t h;rw[e1,e2];exact q0⟩
 obtain⟨i2,_,_,_⟩:=z1o (z2h ps) (I:=FoI hs1 QO) (fun hs _ h=>foSL hT hR qo ps hs false (fun _ hp=>hp) h) j1 i1;have r2:∀X,(Q1k (Q47 (Q5q ps) hs1) X).rch=true->QR X:=fun X h=>by
  rw[i2.kr X,j6 X]at h;rw[(hz X).2.1 h];exact qr0
 obtain⟨r3,_,_,_⟩:=z1o (z2g ps) (I:=fun hs=>∀X,(Q1k hs X).rch=true->QR X) (fun hs _ h=>rcRL qr ps hs false (fun _ hp=>hp) h) j9 r2;have u3:∀X,(Q1k (Q47 (Q64 ps) (Q47 (Q5q ps) hs1)) X).fru=true->QU X:=fun X h=>by
  rw[jg X,i2.ku X,j8 X,(hz X).1]at h;cases h
 obtain⟨u4,_,_,_⟩:=z1o (z2i ps) (I:=fun hs=>∀X,(Q1k hs X).fru=true->QU X) (fun hs _ h=>fuFL qu ps hs false (fun _ hp=>hp) h) ja u3;rw[← j0]at u4;refine⟨fun X t h=>i2.o X t ?_,fun X h=>r3 X ?_,u4⟩
 ·unfold hO at h ⊢;rw[j5 X,jf X]at h;exact h
 rw[j7 X]at h;exact h
def Q0w(R:Nat)(s:Sy):Int:=if s.isH then(R:Int)+1+s.num else s.num
def Pth(r:Int->Int->Prop):Nat->Int->Int->Prop
 |0,i,j=>r i j
 |n+1,i,j=>∃k,r i k/\Pth r n k j
def TC(r:Int->Int->Prop)(i j:Int):Prop:=∃n,Pth r n i j
section
variable {r:Int->Int->Prop}
theorem TC.one{i j:Int}(h:r i j):TC r i j:=⟨0,h⟩
theorem TC.cons{i k j:Int}(h:r i k)(h2:TC r k j):TC r i j:=by
 obtain⟨n,h2⟩:=h2;exact⟨n+1,k,h,h2⟩
theorem y46:∀(n m:Nat) (i k j:Int),Pth r n i k->Pth r m k j->Pth r (n+m+1) i j
 |0,m,i,k,j,h,h2=>by
  rw[qBy];exact⟨k,h,h2⟩
 |n+1,m,i,k,j,⟨x,h1,h2⟩,h3=>by
  have:=y46 n m x k j h2 h3;rw[show n+1+m+1=(n+m+1)+1 by omega];exact⟨x,h1,this⟩
theorem TC.trans{i k j:Int}(h:TC r i k)(h2:TC r k j):TC r i j:=by
 obtain⟨n,h⟩:=h;obtain⟨m,h2⟩:=h2;exact⟨_,y46 n m i k j h h2⟩
theorem TC.snoc{i k j:Int}(h:TC r i k)(h2:r k j):TC r i j:=h.trans (TC.one h2)
theorem TC.ind{Q:Int->Prop}(hq:∀i j,Q i->r i j->Q j){i j:Int}(h:TC r i j)(hi:Q i):Q j:=by
 obtain⟨n,h⟩:=h;induction n generalizing i with
 |zero=>exact hq i j hi h
 |succ n ih =>
  obtain⟨k,h1,h2⟩:=h;exact ih (hq i k hi h1) h2
end
section
variable (ps:List Pr) (R:Nat) (N:Int->Bool) (F:Int->Nat->Bool)
def Ld(c e:Int):Prop:=∃p∈ps,c=(R:Int)+1+p.head/\∃a s b,p.syms=a++s::b/\a.all (Q4c N)=true/\e=Q0w R s
def Ls(A B:Int):Prop:=∃p∈ps,p.head=A/\∃a s b,p.syms=a++s::b/\s.isH=true/\s.num=B/\b.all (Q4c N)=true
def Rc(A B:Int):Prop:=∃p∈ps,p.head=A/\∃s∈p.syms,s.isH=true/\s.num=B
def Nx(A:Int)(t:Nat):Prop:=(A=0/\t=R)∨∃p∈ps,∃a s b,p.syms=a++s::b/\s.isH=true/\s.num=A/\Q3y N (fun X=>F X t) t b=true
def Fo(A:Int)(t:Nat):Prop:=Nx ps R N F A t∨∃h,TC (Ls ps N) h A/\Nx ps R N F h t
def US:Nat->Int->Bool
 |0,_=>false
 |n+1,X=>ps.any fun p=>p.head==X&&p.syms.all fun s=>!s.isH||US n s.num
end
section
variable {ps:List Pr}{R H:Nat}{N:Int->Bool}{F:Int->Nat->Bool}
theorem v17(t:Nat):∀(n:Nat) (X:Int),FS ps N t n X=true->TC (Ld ps R N) ((R:Int)+1+X) t
 |0,X,h=>by cases h
 |n+1,X,h=>by
  unfold FS at h;rw[qBb]at h;obtain⟨p,hp,h⟩:=h;rw[qAd,qBi]at h;obtain⟨h1,h2⟩:=h;obtain⟨a,s,b,e,ha,hs⟩:=z1s h2;have st:Ld ps R N ((R:Int)+1+X) (Q0w R s):=⟨p,hp,by rw[h1],a,s,b,e,ha,rfl⟩;cases hb:s.isH
  ·rw[hb,qAa (by simp),qBi]at hs;refine TC.one ?_;have:Q0w R s=t:=by unfold Q0w;rw[hb,qAa (by simp)];exact hs
   rw[this]at st;exact st
  rw[hb,qAb rfl]at hs;have:Q0w R s=(R:Int)+1+s.num:=by unfold Q0w;rw[hb,qAb rfl]
  rw[this]at st;exact TC.cons st (v17 t n s.num hs)
theorem v2v(hT:Q1d ps R H){t:Nat}(ht:t<R):∀(n:Nat) (X:Int),Pth (Ld ps R N) n ((R:Int)+1+X) t->FS ps N t (n+1) X=true
 |0,X,h=>by
  obtain⟨p,hp,e1,a,s,b,e2,ha,e3⟩:=h;have hv:=hT.sy p hp s (by rw[e2];simp);unfold Q0w at e3;cases hb:s.isH
  ·rw[hb,qAa (by simp)]at e3;unfold FS;rw[qBb];refine⟨p,hp,?_⟩;rw[qAd,qBi];refine⟨by omega,?_⟩;rw[e2];exact z28 s b (by rw[hb,qAa (by simp),qBi];exact e3.symm) a ha
  rw[hb,qAb rfl]at e3;omega
 |n+1,X,⟨k,h1,h2⟩=>by
  obtain⟨p,hp,e1,a,s,b,e2,ha,e3⟩:=h1;have hv:=hT.sy p hp s (by rw[e2];simp);unfold Q0w at e3;cases hb:s.isH
  ·exfalso;rw[hb,qAa (by simp)]at e3 hv;have hq:∃q∈ps,k=(R:Int)+1+q.head:=by
    cases n with
    |zero=>obtain⟨q,hq,e,_⟩:=h2;exact⟨q,hq,e⟩
    |succ n=>obtain⟨_,⟨q,hq,e,_⟩,_⟩:=h2;exact⟨q,hq,e⟩
   obtain⟨q,hq,e⟩:=hq;have:=hT.hd q hq;omega
  rw[hb,qAb rfl]at e3;rw[e3]at h2;have ih:=v2v hT ht n s.num h2;unfold FS;rw[qBb];refine⟨p,hp,?_⟩;rw[qAd,qBi];refine⟨by omega,?_⟩;rw[e2];exact z28 s b (by rw[hb,qAb rfl];exact ih) a ha
theorem x8w(hT:Q1d ps R H){t:Nat}(ht:t<R){X:Int}(h0:0<=X)(h1:X<H):FS ps N t H X=true↔TC (Ld ps R N) ((R:Int)+1+X) t :=
 ⟨v17 t H X,fun⟨n,h⟩=>x8r hT N t (n+1) X h0 h1 (v2v hT ht n X h)⟩
theorem x9y(hT:Q1d ps R H){t:Nat}(ht:t<R){l:List Sy}(hv:∀s∈l,0<=s.num/\s.num<(if s.isH then(H:Int) else R)) :
  Q3y N (fun X=>FS ps N t H X) t l=true↔∃a s b,l=a++s::b/\a.all (Q4c N)=true/\(Q0w R s=t∨TC (Ld ps R N) (Q0w R s) t):=by
 constructor
 ·intro h;obtain⟨a,s,b,e,ha,hs⟩:=z1s h;have j0:=hv s (by rw[e];simp);refine⟨a,s,b,e,ha,?_⟩;unfold Q0w;cases hb:s.isH
  ·rw[hb,qAa (by simp),qBi]at hs;left;rw[qAa (by simp)];exact hs
  rw[hb,qAb rfl]at hs j0;right;rw[qAb rfl];exact(x8w hT ht j0.1 j0.2).1 hs
 rintro⟨a,s,b,e,ha,hs⟩;have j0:=hv s (by rw[e];simp);rw[e];refine z28 s b ?_ a ha;unfold Q0w at hs;cases hb:s.isH
 ·rw[hb,qAa (by simp)]at hs j0;rw[qAa (by simp),qBi];rcases hs with hs|⟨n,hs⟩
  ·exact hs
  exfalso;have hq:∃q∈ps,s.num=(R:Int)+1+q.head:=by
   cases n with
   |zero=>obtain⟨q,hq,e,_⟩:=hs;exact⟨q,hq,e⟩
   |succ n=>obtain⟨_,⟨q,hq,e,_⟩,_⟩:=hs;exact⟨q,hq,e⟩
  obtain⟨q,hq,e⟩:=hq;have:=hT.hd q hq;omega
 rw[hb,qAb rfl]at hs j0;rw[qAb rfl];rcases hs with hs|hs
 ·omega
 exact(x8w hT ht j0.1 j0.2).2 hs
structure SetsAre(ps:List Pr)(R H:Nat)(hs:List Hd):Prop where
 n:∀X,hN hs X=NS ps H X
 f:∀X t,hF hs X t=FS ps (NS ps H) t H X
 o:∀X t,hO hs X t=true↔Fo ps R (NS ps H) (fun X t=>FS ps (NS ps H) t H X) X t
 r:∀X,(Q1k hs X).rch=true↔X=0∨TC (Rc ps) 0 X
 u:∀X,(Q1k hs X).fru=true↔∃n,US ps n X=true
theorem v2i(hs:List Hd)(hS:Q90 ps R H hs):∀(n:Nat) (X:Int),NS ps n X=true->hN hs X=true
 |0,X,h=>by cases h
 |n+1,X,h=>by
  unfold NS at h;rw[qBb]at h;obtain⟨p,hp,h⟩:=h;rw[qAd,qBi]at h;obtain⟨h1,h2⟩:=h;rw[← h1];refine hS.clN p hp ?_;rw[z4h,qAy];rw[qAy]at h2;intro s j0;have:=h2 s j0;rw[qAd]at this;unfold Q4c;rw[qAd];exact⟨this.1,v2i hs hS n _ this.2⟩
theorem v15(hT:Q1d ps R H)(hR:R<=8)(hs:List Hd)(hS:Q90 ps R H hs)(hn:hN hs=N)(t:Nat):∀(n:Nat) (X:Int),FS ps N t n X=true->hF hs X t=true
 |0,X,h=>by cases h
 |n+1,X,h=>by
  unfold FS at h;rw[qBb]at h;obtain⟨p,hp,h⟩:=h;rw[qAd,qBi]at h;obtain⟨h1,h2⟩:=h;rw[← h1];refine hS.clF p hp t ?_;rw[z61 hS.ok hR t p.syms zero9 rfl (hT.sy p hp),z4u,qDj,hn];exact z33 (fun Y hY=>v15 hT hR hs hS hn t n Y hY) _ h2
theorem y7u:∀(n:Nat) (X:Int),US ps n X=true->US ps (n+1) X=true
 |0,X,h=>by cases h
 |n+1,X,h=>by
  unfold US at h ⊢;rw[qBb]at h ⊢;obtain⟨p,hp,h⟩:=h;refine⟨p,hp,?_⟩;rw[qAd,qAy]at h ⊢;refine⟨h.1,fun s hs=>?_⟩;have:=h.2 s hs;rw[qAt]at this ⊢;rcases this with q|q
  ·exact .inl q
  exact .inr (y7u n _ q)
theorem v22{n m:Nat}(h:n<=m){X:Int}(hx:US ps n X=true):US ps m X=true:=by
 obtain⟨k,rfl⟩:∃k,m=n+k:=⟨m-n,by omega⟩;clear h;induction k with
 |zero=>exact hx
 |succ k ih=>exact y7u _ _ ih
theorem v20(l:List Sy)(h:∀s∈l,s.isH=true->∃n,US ps n s.num=true):∃n,(l.all fun s=>!s.isH||US ps n s.num)=true:=by
 induction l with
 |nil=>exact⟨0,rfl⟩
 |cons s l ih =>
  obtain⟨n,hn⟩:=ih (fun x hx=>h x (by simp[hx]));rw[qAy]at hn;cases hb:s.isH
  ·refine⟨n,?_⟩;rw[qDv,hb];simp only[Bool.not_false,Bool.true_or,qBm];rw[qAy];exact hn
  obtain⟨m,hm⟩:=h s (by simp) hb;refine⟨max n m,?_⟩;rw[qDv,qAd,qAy];refine⟨by rw[v22 (Nat.le_max_right n m) hm];simp,fun x hx=>?_⟩;have:=hn x hx;rw[qAt]at this ⊢;rcases this with q|q
  ·exact .inl q
  exact .inr (v22 (Nat.le_max_left n m) q)
theorem v21(hs:List Hd)(hS:Q90 ps R H hs):∀(n:Nat) (X:Int),US ps n X=true->(Q1k hs X).fru=true
 |0,X,h=>by cases h
 |n+1,X,h=>by
  unfold US at h;rw[qBb]at h;obtain⟨p,hp,h⟩:=h;rw[qAd,qBi]at h;obtain⟨h1,h2⟩:=h;rw[← h1];refine hS.clU p hp ?_;unfold Q45;rw[qAy]at h2 ⊢;intro s j0;have:=h2 s j0;unfold fruB;rw[qAt]at this ⊢;rcases this with q|q
  ·exact .inl q
  exact .inr (v21 hs hS n _ q)
theorem x71(hT:Q1d ps R H)(hR:R<=8)(hH:0<H):SetsAre ps R H (Q33 ps (Q0z R H)):=by
 have hS:=z8o hT hR;have hD:=x1v hT hR;have en:∀X,hN (Q33 ps (Q0z R H)) X=NS ps H X:=fun X=>by
  rw[qBc];exact⟨hD.n X,v2i _ hS H X⟩
 have j0:hN (Q33 ps (Q0z R H))=NS ps H:=funext en;have ef:∀X t,hF (Q33 ps (Q0z R H)) X t=FS ps (NS ps H) t H X:=fun X t=>by
  rw[qBc];exact⟨hD.f X t,v15 hT hR _ hS j0 t H X⟩
 have j1:hF (Q33 ps (Q0z R H))=fun X t=>FS ps (NS ps H) t H X:=funext fun X=>funext fun t=>ef X t;have low:=x57 hT hR (QO:=Fo ps R (NS ps H) (fun X t=>FS ps (NS ps H) t H X)) (QR:=fun X=>X=0∨TC (Rc ps) 0 X) (QU:=fun X=>∃n,US ps n X=true)
  (.inl (.inl ⟨rfl,rfl⟩)) (by
   intro p hp a s b e hs t h;rw[j0,j1]at h;rcases h with h|⟨hb,h⟩
   ·exact .inl (.inr ⟨p,hp,a,s,b,e,hs,rfl,h⟩)
   ·have st:Ls ps (NS ps H) p.head s.num:=⟨p,hp,rfl,a,s,b,e,hs,rfl,hb⟩;rcases h with h|⟨k,h1,h2⟩
    ·exact .inr ⟨p.head,TC.one st,h⟩
    exact .inr ⟨k,h1.snoc st,h2⟩) (.inl rfl) (by
   intro p hp h s hs hb;have st:Rc ps p.head s.num:=⟨p,hp,rfl,s,hs,hb,rfl⟩;right;rcases h with h|h
   ·rw[h]at st;exact TC.one st
   ·exact h.snoc st) (by
   intro p hp h;obtain⟨n,hn⟩:=v20 p.syms h;refine⟨n+1,?_⟩;unfold US;rw[qBb];exact⟨p,hp,by rw[qAd,qBi];exact⟨rfl,hn⟩⟩)
 have j2:∀p∈ps,∀a s b,p.syms=a++s::b->s.isH=true->∀t:Nat,(Q3y (NS ps H) (fun X=>FS ps (NS ps H) t H X) t b=true∨(b.all (Q4c (NS ps H))=true/\hO (Q33 ps (Q0z R H)) p.head t=true))->hO (Q33 ps (Q0z R H)) s.num t=true:=by
  intro p hp a s b e hs t h;refine hS.clS p hp a s b e hs t ?_;rw[z89 hS.ok hR t p.head b (fun x hx=>hT.sy p hp x (by rw[e];simp[hx])),j0,j1,qAt,qAd];exact h
 have j3:∀X t,Nx ps R (NS ps H) (fun X t=>FS ps (NS ps H) t H X) X t->hO (Q33 ps (Q0z R H)) X t=true:=by
  rintro X t (⟨rfl,rfl⟩|⟨p,hp,a,s,b,e,hs,rfl,hb⟩)
  ·exact hS.st2 hH
  exact j2 p hp a s b e hs t (.inl hb)
 refine⟨en,ef,fun X t=>⟨low.1 X t,?_⟩,fun X=>⟨low.2.1 X,?_⟩,fun X=>⟨low.2.2 X,fun⟨n,h⟩=>v21 _ hS n X h⟩⟩
 ·rintro(h|⟨k,h1,h2⟩)
  ·exact j3 X t h
  refine TC.ind (Q:=fun A=>hO (Q33 ps (Q0z R H)) A t=true) (fun i j hi hij=>?_) h1 (j3 k t h2);obtain⟨p,hp,e1,a,s,b,e2,hs,e3,hb⟩:=hij;rw[← e3];exact j2 p hp a s b e2 hs t (.inr ⟨hb,by rw[e1];exact hi⟩)
 rintro(rfl|h)
 ·exact hS.st1 hH
 refine TC.ind (Q:=fun A=>(Q1k (Q33 ps (Q0z R H)) A).rch=true) (fun i j hi hij=>?_) h (hS.st1 hH);obtain⟨p,hp,e1,s,hs,hb,e2⟩:=hij;rw[← e2];exact hS.clR p hp (by rw[e1];exact hi) s hs hb
end
abbrev Mat:=List (List Bool)
def atM(M:Mat)(i j:Nat):Bool:=(M.getD i []).getD j false
def Q72(M:Mat)(i j:Nat)(b:Bool):Mat:=M.set i ((M.getD i []).set j b)
structure Sq(n:Nat)(M:Mat):Prop where
 len:M.length=n
 row:∀i,i<n->(M.getD i []).length=n
theorem Sq.atM_lt{n:Nat}{M:Mat}(h:Sq n M){i j:Nat}(e:atM M i j=true):i<n/\j<n:=by
 by_cases hi:i<n
 ·refine⟨hi,?_⟩;by_cases hj:j<n
  ·exact hj
  exfalso;unfold atM at e;rw[qD (i:=j),qN (by rw[h.row i hi];omega)]at e;cases e
 exfalso;unfold atM at e;rw[qD (i:=i),qN (by rw[h.len];omega)]at e;cases e
theorem z2a{α:Type}(l:List α)(i x:Nat)(a d:α)(hi:i<l.length):(l.set i a).getD x d=if x=i then a else l.getD x d:=by
 rw[qD,qD,qCs];by_cases e:i=x
 ·rw[qAb e,qAb (by omega),qAb e.symm];rfl
 rw[qAa e,qAa (fun q=>e q.symm)]
theorem x45{n:Nat}{M:Mat}(h:Sq n M){i j:Nat}(hi:i<n)(hj:j<n)(b:Bool)(x y:Nat):atM (Q72 M i j b) x y=if x=i/\y=j then b else atM M x y:=by
 unfold atM Q72;rw[z2a _ _ _ _ _ (by rw[h.len];exact hi)];by_cases e:x=i
 ·rw[qAb e,z2a _ _ _ _ _ (by rw[h.row i hi];exact hj)];by_cases e2:y=j
  ·rw[qAb e2,qAb ⟨e,e2⟩]
  rw[qAa e2,qAa (fun q=>e2 q.2),e]
 rw[qAa e,qAa (fun q=>e q.1)]
theorem y0b{n:Nat}{M:Mat}(h:Sq n M){i j:Nat}(hi:i<n)(b:Bool):Sq n (Q72 M i j b):=by
 refine⟨by unfold Q72;rw[qBr];exact h.len,fun x hx=>?_⟩;unfold Q72;rw[z2a _ _ _ _ _ (by rw[h.len];exact hi)];split
 ·rw[qBr];exact h.row i hi
 exact h.row x hx
def wJ(k i:Nat):Nat->Nat->Mat->Mat
 |0,_,M=>M
 |f+1,j,M=>wJ k i f (j+1) (Q72 M i j (atM M i j||(atM M i k&&atM M k j)))
def wI(k n:Nat):Nat->Nat->Mat->Mat
 |0,_,M=>M
 |f+1,i,M=>wI k n f (i+1) (wJ k i n 0 M)
def wK(n:Nat):Nat->Nat->Mat->Mat
 |0,_,M=>M
 |f+1,k,M=>wK n f (k+1) (wI k n n 0 M)
def Q5j(M:Mat):Mat:=wK M.length M.length 0 M
section
variable {n:Nat}{Q:Nat->Nat->Prop}
theorem x9i(hq:∀x k y,Q x k->Q k y->Q x y){k i:Nat}(hk:k<n)(hi:i<n):∀(f j:Nat) (M:Mat),j+f<=n->Sq n M->(∀x y,atM M x y=true->Q x y) ->
  Sq n (wJ k i f j M)/\(∀x y,atM M x y=true->atM (wJ k i f j M) x y=true)/\(∀x y,atM (wJ k i f j M) x y=true->Q x y)/\(∀y,j<=y->y<j+f->atM M i k=true->atM M k y=true->atM (wJ k i f j M) i y=true)
 |0,j,M,hf,hs,h=>⟨hs,fun _ _ e=>e,h,fun y h1 h2=>by omega⟩
 |f+1,j,M,hf,hs,h=>by
  have hs':=y0b hs (j:=j) hi (atM M i j||(atM M i k&&atM M k j));have ha:=x45 hs hi (show j<n by omega) (atM M i j||(atM M i k&&atM M k j));have mono:∀x y,atM M x y=true->atM (Q72 M i j (atM M i j||(atM M i k&&atM M k j))) x y=true:=fun x y e=>by
   rw[ha x y];split
   ·rename_i q;rw[q.1,q.2]at e;rw[e];rfl
   exact e
  have j0:∀x y,atM (Q72 M i j (atM M i j||(atM M i k&&atM M k j))) x y=true->Q x y:=fun x y e=>by
   rw[ha x y]at e;split at e
   ·rename_i q;rw[q.1,q.2];rw[qAt,qAd]at e;rcases e with e|e
    ·exact h _ _ e
    exact hq i k j (h _ _ e.1) (h _ _ e.2)
   exact h x y e
  obtain⟨r1,r2,r3,r4⟩:=x9i hq hk hi f (j+1) _ (by omega) hs' j0;unfold wJ;refine⟨r1,fun x y e=>r2 x y (mono x y e),r3,fun y h1 h2 e1 e2=>?_⟩;by_cases c:y=j
  ·subst c;refine r2 i y ?_;rw[ha i y,qAb ⟨rfl,rfl⟩,e1,e2];simp
  exact r4 y (by omega) (by omega) (mono _ _ e1) (mono _ _ e2)
theorem x9h(hq:∀x k y,Q x k->Q k y->Q x y){k:Nat}(hk:k<n):∀(f i:Nat) (M:Mat),i+f<=n->Sq n M->(∀x y,atM M x y=true->Q x y) ->
  Sq n (wI k n f i M)/\(∀x y,atM M x y=true->atM (wI k n f i M) x y=true)/\(∀x y,atM (wI k n f i M) x y=true->Q x y)/\(∀x y,i<=x->x<i+f->y<n->atM M x k=true->atM M k y=true->atM (wI k n f i M) x y=true)
 |0,i,M,hf,hs,h=>⟨hs,fun _ _ e=>e,h,fun x y h1 h2=>by omega⟩
 |f+1,i,M,hf,hs,h=>by
  obtain⟨q1,q2,q3,q4⟩:=x9i hq hk (show i<n by omega) n 0 M (by omega) hs h;obtain⟨r1,r2,r3,r4⟩:=x9h hq hk f (i+1) _ (by omega) q1 q3;unfold wI;refine⟨r1,fun x y e=>r2 x y (q2 x y e),r3,fun x y h1 h2 hy e1 e2=>?_⟩;by_cases c:x=i
  ·subst c;exact r2 x y (q4 y (by omega) (by omega) e1 e2)
  exact r4 x y (by omega) (by omega) hy (q2 _ _ e1) (q2 _ _ e2)
def ViaM(r:Nat->Nat->Prop):Nat->Nat->Nat->Prop
 |0,i,j=>r i j
 |k+1,i,j=>ViaM r k i j∨(ViaM r k i k/\ViaM r k k j)
theorem z6v{r:Nat->Nat->Prop}:∀(k i x j:Nat),x<k->ViaM r k i x->ViaM r k x j->ViaM r k i j
 |0,i,x,j,hx,_,_=>by omega
 |k+1,i,x,j,hx,h1,h2=>by
  by_cases c:x=k
  ·subst c;refine .inr ⟨?_,?_⟩
   ·rcases h1 with h|h
    ·exact h
    exact h.1
   rcases h2 with h|h
   ·exact h
   exact h.2
  have hx':x<k:=by omega
  rcases h1 with h1|⟨a1,a2⟩
  ·rcases h2 with h2|⟨b1,b2⟩
   ·exact .inl (z6v k i x j hx' h1 h2)
   exact .inr ⟨z6v k i x k hx' h1 b1,b2⟩
  rcases h2 with h2|⟨b1,b2⟩
  ·exact .inr ⟨a1,z6v k k x j hx' a2 h2⟩
  exact .inr ⟨a1,b2⟩
theorem x9j(hq:∀x k y,Q x k->Q k y->Q x y){r:Nat->Nat->Prop}(hr:∀i j,r i j->i<n/\j<n):∀(f k:Nat) (M:Mat),k+f=n->Sq n M->(∀x y,atM M x y=true->Q x y)->(∀x y,x<n->y<n->ViaM r k x y->atM M x y=true) ->
  Sq n (wK n f k M)/\(∀x y,atM (wK n f k M) x y=true->Q x y)/\(∀x y,x<n->y<n->ViaM r n x y->atM (wK n f k M) x y=true)
 |0,k,M,hf,hs,h,hv=>by
  have e:k=n:=by omega
  subst e;exact⟨hs,h,hv⟩
 |f+1,k,M,hf,hs,h,hv=>by
  obtain⟨q1,q2,q3,q4⟩:=x9h hq (show k<n by omega) n 0 M (by omega) hs h;unfold wK;refine x9j hq hr f (k+1) _ (by omega) q1 q3 (fun x y hx hy j0=>?_);rcases j0 with j0|⟨a1,a2⟩
  ·exact q2 x y (hv x y hx hy j0)
  exact q4 x y (by omega) (by omega) hy (hv x k hx (by omega) a1) (hv k y (by omega) hy a2)
end
def relM(M:Mat)(i j:Int):Prop:=0<=i/\0<=j/\atM M i.toNat j.toNat=true
theorem z8v{n:Nat}{M:Mat}(h:Sq n M):Sq n (Q5j M)/\∀i j:Nat,atM (Q5j M) i j=true↔TC (relM M) i j:=by
 have hr:∀i j,(fun i j=>atM M i j=true) i j->i<n/\j<n:=fun i j e=>h.atM_lt e;obtain⟨q1,q2,q3⟩:=x9j (n:=n) (Q:=fun x y:Nat=>TC (relM M) x y) (fun x k y h1 h2=>h1.trans h2) (r:=fun i j=>atM M i j=true) hr n 0 M (by omega) h
  (fun x y e=>TC.one ⟨by omega,by omega,by simpa using e⟩) (fun x y _ _ e=>e)
 have e:Q5j M=wK n n 0 M:=by unfold Q5j;rw[h.len]
 rw[e];refine⟨q1,fun i j=>⟨q2 i j,fun ht=>?_⟩⟩;have vz:∀(k i j:Nat),atM M i j=true->ViaM (fun i j=>atM M i j=true) k i j:=fun k=>by
  induction k with
  |zero=>exact fun i j e=>e
  |succ k ih=>exact fun i j e=>.inl (ih i j e)
 have j0:∀(m:Nat) (a b:Int),Pth (relM M) m a b->0<=a/\0<=b/\a.toNat<n/\b.toNat<n/\ViaM (fun i j=>atM M i j=true) n a.toNat b.toNat:=fun m=>by
  induction m with
  |zero =>
   rintro a b⟨h1,h2,h3⟩;have:=h.atM_lt h3;exact⟨h1,h2,this.1,this.2,vz n _ _ h3⟩
  |succ m ih =>
   rintro a b⟨c,⟨h1,h2,h3⟩,h4⟩;obtain⟨g1,g2,g3,g4,g5⟩:=ih c b h4;have:=h.atM_lt h3;exact⟨h1,g2,this.1,g4,z6v n _ _ _ g3 (vz n _ _ h3) g5⟩
 obtain⟨m,hm⟩:=ht;obtain⟨g1,g2,g3,g4,g5⟩:=j0 m i j hm;simp only[qAo]at g3 g4 g5;exact q3 i j g3 g4 g5
abbrev Q1:=Int × List Int
def Q0e(R:Nat)(ps:List Pr):List Q1:=ps.map fun p=>(p.head,p.syms.map (Q0w R))
def Q6r(base:Int)(rules:Bool)(out:List Bool)(c:Int):Bool:=(decide (c-base<0)&&rules)||(decide (0<=c-base)&&out.getD (c-base).toNat false)
def W0a(base:Int)(rules:Bool)(out:List Bool):List Q1->List Bool->List Bool
 | [],next=>next
 |x::r,next=>W0a base rules out r (next.set x.1.toNat (next.getD x.1.toNat false||x.2.all (Q6r base rules out)))
def derN(base:Int)(rules:Bool)(q:List Q1):Nat->List Bool->List Bool
 |0,out=>out
 |n+1,out=>derN base rules q n (W0a base rules out q out)
def Q4q(base:Int)(rules:Bool)(q:List Q1)(H:Nat):List Bool:=derN base rules q H (List.replicate H false)
def Q4b(base:Int)(null:List Bool)(l:List Int):Bool:=l.all fun c=>decide (0<=c-base)&&null.getD (c-base).toNat false
section
variable {ps:List Pr}{R H:Nat}
theorem z1r{s:Sy}(hb:s.isH=true):Q0w R s-((R:Int)+1)=s.num:=by unfold Q0w;rw[hb,qAb rfl];omega
theorem z35{s:Sy}(hb:s.isH=false):Q0w R s=s.num:=by unfold Q0w;rw[hb,qAa (by simp)]
theorem y8h(base:Int)(rules:Bool)(out:List Bool):∀(q:List Q1) (next:List Bool),(W0a base rules out q next).length=next.length
 | [],_=>rfl
 |x::r,next=>by unfold W0a;rw[y8h base rules out r,qBr]
theorem x2k(base:Int)(rules:Bool)(out:List Bool)(h:Nat):∀(q:List Q1) (next:List Bool),(∀x∈q,0<=x.1/\x.1<next.length) ->
  (W0a base rules out q next).getD h false=(next.getD h false||q.any fun x=>x.1==(h:Int)&&x.2.all (Q6r base rules out))
 | [],next,_=>by simp[W0a]
 |x::r,next,hq=>by
  have hx:=hq x (by simp);unfold W0a;rw[x2k base rules out h r _ (fun y hy=>by rw[qBr];exact hq y (by simp[hy])),z2a _ _ _ _ _ (by omega),List.any_cons];by_cases e:h=x.1.toNat
  ·rw[qAb e];have e2:(x.1==(h:Int))=true:=by rw[qBi];omega
   rw[e2,e,qBm,Bool.or_assoc]
  rw[qAa e];have e2:(x.1==(h:Int))=false:=by rw[beq_eq_false_iff_ne];omega
  rw[e2,qDh,qDj]
theorem v1v{out:List Bool}{rules:Bool}{s:Sy}(hv:0<=s.num/\s.num<(if s.isH then(H:Int) else R)):Q6r ((R:Int)+1) rules out (Q0w R s)=if s.isH then out.getD s.num.toNat false else rules:=by
 unfold Q6r;cases hb:s.isH
 ·rw[hb,qAa (by simp)]at hv;rw[z35 hb,qAa (by simp),qCj (by omega),qCa (by omega)];simp
 rw[z1r hb,qAb rfl,qCa (by omega),qCj (by omega)];simp
theorem y8e(hT:Q1d ps R H):∀x∈Q0e R ps,0<=x.1/\x.1<H:=by
 intro x hx;unfold Q0e at hx;rw[qBj]at hx;obtain⟨p,hp,rfl⟩:=hx;exact hT.hd p hp
theorem y6t(hT:Q1d ps R H){rules:Bool}{D:Nat->Int->Bool}(hm:∀n X,D n X=true->D (n+1) X=true)
  (hD:∀n X,D (n+1) X=ps.any fun p=>p.head==X&&p.syms.all fun s=>if s.isH then D n s.num else rules):∀(n m:Nat) (out:List Bool),out.length=H->(∀h:Nat,h<H->out.getD h false=D m h) ->
  (derN ((R:Int)+1) rules (Q0e R ps) n out).length=H/\∀h:Nat,h<H->(derN ((R:Int)+1) rules (Q0e R ps) n out).getD h false=D (m+n) h
 |0,m,out,hl,h=>⟨hl,h⟩
 |n+1,m,out,hl,h=>by
  unfold derN;have:=y6t hT hm hD n (m+1) (W0a ((R:Int)+1) rules out (Q0e R ps) out) (by rw[y8h];exact hl) (fun k hk=>by
   rw[x2k _ _ _ _ _ _ (by rw[hl];exact y8e hT),h k hk,hD];have e:(Q0e R ps).any (fun x=>x.1==(k:Int)&&x.2.all (Q6r ((R:Int)+1) rules out))=ps.any fun p=>p.head==(k:Int)&&p.syms.all fun s=>if s.isH then D m s.num else rules:=by
    unfold Q0e;rw[List.any_map];refine z32 (fun p hp=>?_);dsimp only[Function.comp];congr 1;rw[List.all_map];refine z31 (fun s hs=>?_);dsimp only[Function.comp];have hv:=hT.sy p hp s hs;rw[v1v hv];cases hb:s.isH
    ·simp
    rw[hb,qAb rfl]at hv;rw[qAb rfl,qAb rfl,h s.num.toNat (by omega),show((s.num.toNat:Nat):Int)=s.num by omega]
   rw[e,← hD];cases c:D m (k:Int)
   ·simp
   rw[hm m _ c];simp)
  rw[show m+(n+1)=m+1+n by omega];exact this
theorem z83(hT:Q1d ps R H):(Q4q ((R:Int)+1) false (Q0e R ps) H).length=H/\∀h:Nat,h<H->(Q4q ((R:Int)+1) false (Q0e R ps) H).getD h false=NS ps H h:=by
 have:=y6t hT (rules:=false) (D:=NS ps) (y6i ps) (fun n X=>by
  rw[NS];refine z32 (fun p hp=>?_);congr 1;refine z31 (fun s hs=>?_);cases s.isH<;>simp) H 0 (List.replicate H false) (by simp) (fun h hh=>by rw[qD];simp[hh,NS])
 rw[qBy]at this;exact this
theorem x6f(hT:Q1d ps R H):(Q4q ((R:Int)+1) true (Q0e R ps) H).length=H/\∀h:Nat,h<H->(Q4q ((R:Int)+1) true (Q0e R ps) H).getD h false=US ps H h:=by
 have:=y6t hT (rules:=true) (D:=US ps) y7u (fun n X=>by
  rw[US];refine z32 (fun p hp=>?_);congr 1;refine z31 (fun s hs=>?_);cases s.isH<;>simp) H 0 (List.replicate H false) (by simp) (fun h hh=>by rw[qD];simp[hh,US])
 rw[qBy]at this;exact this
structure Q7g(ps:List Pr)(H:Nat)(null:List Bool):Prop where
 len:null.length=H
 at':∀h:Nat,h<H->null.getD h false=NS ps H h
theorem y2u{null:List Bool}(hn:Q7g ps H null){l:List Sy}(hv:∀s∈l,0<=s.num/\s.num<(if s.isH then(H:Int) else R)):Q4b ((R:Int)+1) null (l.map (Q0w R))=l.all (Q4c (NS ps H)):=by
 unfold Q4b;rw[List.all_map];refine z31 (fun s hs=>?_);dsimp only[Function.comp];have h:=hv s hs;unfold Q4c;cases hb:s.isH
 ·rw[hb,qAa (by simp)]at h;rw[z35 hb,qCa (by omega)];simp
 rw[hb,qAb rfl]at h;rw[z1r hb,qCj (by omega),hn.at' s.num.toNat (by omega),show((s.num.toNat:Nat):Int)=s.num by omega]
end
def Q9t(fs:List Bool):Nat:=(fs.filter (fun b=>!b)).length
theorem y69:∀{as' bs:List Bool},as'.length=bs.length->(∀j,On as' j->On bs j)->Q9t bs<=Q9t as'
 | [],[],_,_=>qR _
 |a::as',b::bs,hl,h=>by
  have hl':as'.length=bs.length:=by simpa using hl
  have ih:=y69 hl' (fun j hj=>by have:=h (j+1) (by simpa [On]using hj);simpa [On]using this);unfold Q9t at ih ⊢;rw[qAq,qAq];cases a
  ·cases b<;>simp<;>omega
  have:=h 0 (by simp[On]);simp[On]at this;subst this;simpa using ih
 | [],b::bs,hl,_=>by simp at hl
 |a::as',[],hl,_=>by simp at hl
theorem x39:∀{as' bs:List Bool},as'.length=bs.length->(∀j,On as' j->On bs j)->(∃j,On bs j/\¬On as' j)->Q9t bs<Q9t as'
 | [],[],_,_,⟨j,h,_⟩=>by simp[On]at h
 |a::as',b::bs,hl,h,hex=>by
  have hl':as'.length=bs.length:=by simpa using hl
  have hs:∀j,On as' j->On bs j:=fun j hj=>by have:=h (j+1) (by simpa [On]using hj);simpa [On]using this
  have ih:=y69 hl' hs;obtain⟨j,h1,h2⟩:=hex;unfold Q9t at ih ⊢;rw[qAq,qAq];cases j with
  |zero =>
   simp[On]at h1 h2;subst h1;have j1:a=false:=by simpa using h2
   subst j1;simp;omega
  |succ j =>
   have j0:=x39 hl' hs ⟨j,by simpa [On]using h1,by simpa [On]using h2⟩;unfold Q9t at j0;cases a
   ·cases b<;>simp<;>omega
   have:=h 0 (by simp[On]);simp[On]at this;subst this;simpa using j0
 | [],b::bs,hl,_,_=>by simp at hl
 |a::as',[],hl,_,_=>by simp at hl
theorem v0r{xs ys:List Bool}{n:Nat}(h:moI xs ys n=true):∃j,On ys j/\¬On xs j:=by
 unfold moI at h;rw[qBb]at h;obtain⟨j,_,hj⟩:=h;rw[qAd,Bool.not_eq_true']at hj;exact⟨j,z2e.2 hj.1,fun q=>by rw[z2e,hj.2]at q;cases q⟩
theorem x62{xs ys:List Bool}{n:Nat}(h:moI xs ys n=false)(hl:ys.length=n):∀j,On ys j->On xs j:=by
 intro j hj;cases hx:xs.getD j false
 ·exfalso;have:moI xs ys n=true:=by
   unfold moI;rw[qBb];exact⟨j,by have:=hj.lt;simp;omega,by rw[hx,z2e.1 hj];rfl⟩
  rw[this]at h;cases h
 exact z2e.2 hx
theorem v0v(fs:List Bool):Q9t fs<=fs.length:=qCc _ _
theorem x4h{q:ByteArray}{L:Q03}(h:PceIs q L):∃(n:Nat) (A:Q03),Am q 0=⟨(n:Int),true,A⟩/\0<n/\n<=q.size/\Q86 (q.extract 0 n) A/\∀w,L w↔Q5x (Q8z q (q.size+1) n (false,false)).1 (Q8z q (q.size+1) n (false,false)).2 A w:=by
 have j1:(Pc q 0).ok=true:=by rw[h]
 have ha:(Am q 0).ok=true:=y2v j1;have g:=v2f q 0 (by omega) (by omega) ha;obtain⟨n,hn⟩:∃n:Nat,(Am q 0).next=n:=⟨(Am q 0).next.toNat,by omega⟩;have e:Am q 0=⟨(n:Int),true,(Am q 0).lang⟩:=by rw[← hn];exact z2r ha
 obtain⟨h1,h2,h3⟩:=x9x e;refine⟨n,(Am q 0).lang,e,h2,h3,h1,?_⟩;have h':Q2g q (q.size+5) (Am q 0)=⟨q.size,true,L⟩:=h;rw[e]at h';have j0:=z90 (s:=q) (A:=(Am q 0).lang) (q.size+5) (q.size+1) n (Am q 0).lang (false,false) (fun w=>(y8l _ w).symm) (by omega) (by omega) h3 (by rw[h']);rw[h']at j0;exact j0
theorem Q6j.same{A:Q03}{t:ByteArray}{fs gs hs:List Bool}(h:Q6j A t fs gs)(hl:hs.length=t.size+1)(e:∀j,On hs j↔On gs j):Q6j A t fs hs:=⟨hl,fun j hj=>by rw[e,h.on j hj]⟩
structure Way(A:Q03)(t:ByteArray)(fs os:List Bool):Prop where
 len:os.length=t.size+1
 lo:∀j,j<=t.size->Q5o A t (On fs) j->On os j
 hi:∀j,On os j->j<=t.size->Q5o (Q5x false true A) t (On fs) j
theorem x5p{A:Q03}{t:ByteArray}{fs os:List Bool}(h:Q6j A t fs os):Way A t fs os :=
 ⟨h.len,fun j hj r=>(h.on j hj).2 r,fun j ho hj=>x7k ((h.on j hj).1 ho)⟩
theorem x8h{A:Q03}{t:ByteArray}{fs os ns:List Bool}(h:Way A t fs os)(hn:Q6j A t os ns):Way A t fs (orI os ns (t.size+1) (t.size+1))/\Q9t (orI os ns (t.size+1) (t.size+1))<=Q9t os/\(moI os ns (t.size+1)=true->Q9t (orI os ns (t.size+1) (t.size+1))<Q9t os)/\(moI os ns (t.size+1)=false->Q6j (Q5x false true A) t fs (orI os ns (t.size+1) (t.size+1))):=by
 have u:=v02 (xs:=os) (ys:=ns) h.len;have j0:∀j,On os j->On (orI os ns (t.size+1) (t.size+1)) j:=fun j hj=>(u.on j).2 (.inl hj);have j1:os.length=(orI os ns (t.size+1) (t.size+1)).length:=u.len.symm;have hL:=h.len;refine⟨⟨by rw[z2s],fun j hj r=>j0 j (h.lo j hj r),fun j ho hj=>?_⟩,y69 j1 j0,fun hm=>?_,fun hm=>?_⟩
 ·rcases(u.on j).1 ho with q|⟨_,q⟩
  ·exact h.hi j q hj
  obtain⟨i,i1,i2,i3⟩:=(hn.on j hj).1 q;exact x4j hj ⟨i,i1,h.hi i i2 (by omega),i3⟩
 ·obtain⟨j,q1,q2⟩:=v0r hm;refine x39 j1 j0 ⟨j,(u.on j).2 (.inr ⟨?_,q1⟩),q2⟩;have:=q1.lt;rw[hn.len]at this;omega
 have j2:=x62 hm hn.len;have hc:=y7e h.len h.lo h.hi hn j2;refine hc.same (by rw[z2s]) (fun j=>⟨fun q=>?_,j0 j⟩);rcases(u.on j).1 q with z|⟨_,z⟩
 ·exact z
 exact j2 j z
theorem x2v{A:Q03}{t:ByteArray}{fs os:List Bool}(m:Bool)(h:Q6j (Q5x false m A) t fs os)(hl:fs.length=t.size+1):Q6j (Q5x true m A) t fs (orI os fs (t.size+1) (t.size+1)):=by
 have u:=v02 (xs:=os) (ys:=fs) h.len;refine(Q6j.alt h (y8o hl) u).iff (fun w=>?_);unfold Q03.alt Q5x epsL;constructor
 ·rintro((⟨q,_⟩|q)|q)
  ·cases q
  ·exact .inr q
  exact .inl ⟨rfl,q⟩
 rintro(⟨_,q⟩|q)
 ·exact .inr q
 exact .inl (.inr q)
theorem x55(q:ByteArray)(L:Q03)(hs:q.size<=1000)(h:PceIs q L)(hone:∀a A,a.size<=q.size->Q86 a A->SetC 131 a A):SetC 125 q L:=by
 obtain⟨n,A,he,jq,jk,hA,jd⟩:=x4h h;have jr:=z3t (s:=q) (a:=0) (e:=n) jk;have ON:=hone _ A (by omega) hA;intro t g fs w ht hg hl;have AT:=hid (fun w=>y9z q (by omega) 0 w (by omega));have e0:((0:Nat):Int)=0:=rfl;have jg:Q3w (zgK q 6) q 0=n:=by
  have:=z7l (p:=q) 6 (x:=0) (by omega);unfold Q7h at this;have e1:(Q3m (lgK q 6) q 0)=⟨(n:Int),true,A⟩:=he;rw[e1]at this;exact this
 rw[e0,jg]at AT;have ja:=hid (fun(g:Nat) (fs:List Bool) (w:World) (h1:Q1x w g fs) (h2:fs.length=t.size+1)=>ON t g fs w ht h1 h2);have HG:=hid hg;have HL:=hid hl;have j5:=hid jd;generalize hM:Q8z q (q.size+1) n (false,false)=M at j5;have HM:=hid hM;have p1:(n:Int)<=(q.size:Int):=by omega
 clear h he hA jd ON hg hl e0 jg hM hone;go_enter Tryz.func125,Tryz.ntmps125
 go_wp2_with (first
  |(go_at_call 126;refine csm (AT.out _) ?_))
 go_loopw [8,9,10] (fun x8 x9 x10 wr=>∃(i f:Nat) (b:Bool × Bool),x10=.int .i64 i/\x8=.bool b.1/\x9=.bool b.2/\wr=w/\n<=i/\i<=q.size/\q.size+1<=f+i/\Q8z q f i b=M)
   (fun _ _ x _=>1001-(intOf x).toNat)
 case atStart=>exact⟨n,q.size+1,(false,false),rfl,rfl,rfl,rfl,by omega,by omega,by omega,HM.out⟩
 obtain⟨i,f,⟨bn,bm⟩,rfl,rfl,rfl,rfl,jn,jo,hf,j0⟩:=hrel;obtain⟨f,rfl⟩:∃k,f=k+1:=⟨f-1,by omega⟩;rw[x3y]at j0;clear HM;by_cases j8:i<q.size
 ·rw[qAb j8,z1u j8]at j0;have k1:(i:Int)<(q.size:Int):=by omega
  have jm:q[i].toNat<256:=q[i].toNat_lt;have HR:=hid j0;clear j0;cases bn<;>cases bm;all_goals
   go_wp2;go_roundw
   case rel=>exact⟨i+1,f,(_,_),by go_num,rfl,rfl,by first|rfl|trivial,by omega,by omega,by omega,HR.out⟩
   simp[intOf];omega
 rw[qAa j8]at j0;subst j0;have k1:¬(i:Int)<(q.size:Int):=by omega
 dsimp only at j5;obtain⟨wo,jl⟩:∃wo,wo=wr:=⟨_,rfl⟩;subst jl;have UN:=hid (fun(w:World) (ga gb:Nat) (xs ys:List Bool) (ha:Q1x w ga xs) (hb:Q1x w gb ys) (la:xs.length=t.size+1) (lb:ys.length=t.size+1)=>z23 w ga gb (t.size+1) xs ys ha hb la lb (by omega));have OX:=hid (ja.out g fs wo HG.out HL.out);go_wp2_with (first
  |(go_at_call 131;refine(OX.out).mono ?_;rintro e w1⟨g1,jb,rfl,q1,q2,q3⟩;have HQ:=hid (And.intro q1 (And.intro q2 q3));clear q1 q2 q3))
 go_loopg [11,12,13] (2*(t.size+1)+1) (fun k x11 x12 _ wx=>∃(g2:Nat) (os:List Bool) (mo:Bool),x11=bsl g2 (t.size+1)/\x12=.bool mo/\2*Q9t os+(if mo=true then 1 else 0)<=k/\Q1x wx g2 os/\Q0a wo wx/\Way A t fs os/\(mo=true->bm=true)/\(mo=false->Q6j (Q5x false bm A) t fs os))
 case atStart =>
  obtain⟨q1,q2,q3⟩:=HQ.out;refine⟨g1,jb,bm,rfl,rfl,?_,q2,q1,x5p q3,fun e=>e,fun e=>?_⟩
  ·have:=v0v jb;rw[q3.len]at this;split<;>omega
  rw[e];exact q3.iff (fun w=>(y8l A w).symm)
 obtain⟨g2,os,mo,rfl,rfl,hk,hB,je,hW,jc,jf⟩:=hrel;have j3:=hid hB;have j4:=hid je;have HW:=hid hW;have j7:=hid jf;have j6:=hid jc;clear hB je hW jf jc HQ OX;cases mo
 ·have j9:=hid (j7.out rfl);clear j7 j6;cases bn
  ·go_wp2;go_ret;exact⟨g2,os,rfl,j4.out,j3.out,j9.iff (fun w=>(j5.out w).symm)⟩
  have UX:=hid (UN.out wr g2 g os fs j3.out (HG.fresh j4.out) HW.len HL.out);go_wp2_with (first
   |(go_at_call 80;refine(UX.out).mono ?_;rintro e w3⟨rfl,j2,j1⟩;have HU:=hid (And.intro j2 j1);clear j2 j1))
  go_ret;exact⟨_,_,rfl,j4.trans HU.1,HU.2,(x2v bm j9.out HL.out).iff (fun w=>(j5.out w).symm)⟩
 have jj:=j6.out rfl;subst jj;clear j7 j6;have ji:=hid (ja.out g2 os wr j3.out HW.len);go_wp2_with (first
  |(go_at_call 80;have jh:=HN.1;refine(UN.out w1 g2 g3 os ns (j3.fresh HN.1) HN.2.1 HW.len HN.2.2.len).mono ?_;rintro e w3⟨rfl,j2,j1⟩;have HU:=hid (And.intro j2 j1);clear j2 j1)
  |(go_at_call 131;refine(ji.out).mono ?_;rintro e w1⟨g3,ns,rfl,q1,q2,q3⟩;have HN:=hid (And.intro q1 (And.intro q2 q3));clear q1 q2 q3))
 obtain⟨y1,y2,y3,y4⟩:=x8h HW.out HN.2.2;go_roundg (2*Q9t (orI os ns (t.size+1) (t.size+1))+(if moI os ns (t.size+1)=true then 1 else 0))
 case measure =>
  have jp:2*Q9t os+1<=gk:=by simpa using hk
  split
  ·have:=y3 (by assumption);omega
  omega
 exact⟨_,_,_,rfl,rfl,qR _,HU.2,(j4.trans HN.1).trans HU.1,y1,fun _=>(by first|rfl|trivial),y4⟩
theorem y70(u:ByteArray)(As:List Q03)(hs:u.size<=1000)(h:Row (Pc u) 0 As u.size)(hsome:∀q L,q.size<=u.size->PceIs q L->SetC 125 q L):SetC 111 u (Q9q As):=by
 intro t g fs w ht hg hl;have j8:=hid hsome;have PC:=hid (fun(i:Nat) (w:World) (hi:i<=u.size)=>y95 u (by omega) i w (by omega));have HG:=hid hg;have HL:=hid hl;have HR:=hid h;clear hsome hg hl h;go_enter Tryz.func111,Tryz.ntmps111
 go_wp2;go_loopw [2,7,8] (fun x2 x7 _ wr=>∃(i g1:Nat) (gs:List Bool) (Ds Rs:List Q03),x7=.int .i64 i/\x2=bsl g1 (t.size+1)/\i<=u.size/\As=Ds++Rs/\Row (Pc u) i Rs u.size/\Q1x wr g1 gs/\Q0a w wr/\Q6j (Q9q Ds) t fs gs)
   (fun _ x _ _=>2001-(intOf x).toNat)
 case atStart=>exact⟨0,g,fs,[],As,rfl,rfl,by omega,rfl,HR.out,HG.out,mRf _ _,y8o HL.out⟩
 obtain⟨i,g1,gs,Ds,Rs,rfl,rfl,hi,j3,j0,hB,j4,j5⟩:=hrel;have j2:=hid j3;have HB:=hid hB;have HF:=hid j4;have j1:=hid j5;clear j3 hB j4 j5 HR;cases Rs with
 |nil =>
  have j9:(i:Int)=u.size:=j0;have k1:¬(i:Int)<(u.size:Int):=by omega
  clear j9 j0;go_wp2;go_ret;refine⟨g1,gs,rfl,HF.out,HB.out,?_⟩;rw[j2.out,qBd];exact j1.out
 |cons A Rs =>
  obtain⟨r1,r2,r3⟩:=j0;have jb:=z0r (s:=u) (i:=(i:Int)) (y3y (z3e r1));have g0:=x3q u i (by omega) (by omega) r1;obtain⟨j,hj⟩:∃j:Nat,(Pc u i).next=j:=⟨(Pc u i).next.toNat,by omega⟩;have e:Pc u i=⟨(j:Int),true,A⟩:=by rw[← hj,← r2];exact z2r r1
  obtain⟨p1,p2,p3⟩:=v06 e hi;have ja:=z3t (s:=u) (a:=i) (e:=j) p3;have SX:=hid (j8.out _ A (by omega) p1 t g1 gs wr ht HB.out j1.len);have PX:=hid (fun w=>PC.out i w hi);have j6:Q4i (Q3w (zgK u 6) u) u i=j:=by
   have:=z56 (p:=u) 6 (x:=(i:Int)) (by omega) (by omega);unfold Q7h at this;have e1:Q1u (Q3m (lgK u 6) u) u i=⟨(j:Int),true,A⟩:=e;rw[e1]at this;exact this
  rw[j6]at PX;rw[hj]at r3;have j7:=hid r3;have k1:(i:Int)<(u.size:Int):=by omega
  have k2:(i:Int)<=(j:Int):=by omega
  have k3:(j:Int)<=(u.size:Int):=by omega
  clear r1 r2 r3 e p1 j6 hj g0 ja;go_wp2_with (first
   |(go_at_call 112;refine csm (PX.out _) ?_)
   |(go_at_call 125;refine(SX.out).mono ?_;rintro e w1⟨g3,ns,rfl,q1,q2,q3⟩;have HN:=hid (And.intro q1 (And.intro q2 q3));clear q1 q2 q3))
  go_roundw
  case rel =>
   refine⟨j,g3,ns,Ds++[A],Rs,rfl,rfl,by omega,by rw[j2.out];simp,j7.out,HN.2.1,HF.trans HN.1,?_⟩;exact(j1.cat HN.2.2).iff (fun w=>(y31 Ds A w).symm)
  simp[intOf];omega
def W0f(Bs:List (List Q03)):Q03:=fun w=>∃B∈Bs,Q9q B w
theorem x0u(Bs:List (List Q03))(B:List Q03)(w:List Nat):W0f (Bs++[B]) w↔Q03.alt (W0f Bs) (Q9q B) w:=by
 unfold W0f Q03.alt;constructor
 ·rintro⟨D,hD,q⟩;rcases qBs.1 hD with hD|hD
  ·exact .inl ⟨D,hD,q⟩
  simp at hD;subst hD;exact .inr q
 rintro(⟨D,hD,q⟩|q)
 ·exact⟨D,by simp[hD],q⟩
 exact⟨B,by simp,q⟩
def Rest(p:ByteArray)(z:Int)(Bs:List (List Q03)):Prop:=(Bs=[]/\z=p.size)∨(atB p z=124/\Alts (Pc p) p (z+1) Bs p.size)
theorem y3u(p:ByteArray)(Bs:List (List Q03))(hs:p.size<=1000)(h:Alts (Pc p) p 0 Bs p.size)(hbr:∀u As,u.size<=p.size->Row (Pc u) 0 As u.size->SetC 111 u (Q9q As)):SetC 81 p (W0f Bs):=by
 intro t g fs w ht hg hl;have jf:=hid hbr;have PC:=hid (fun(i:Nat) (w:World) (hi:i<=p.size)=>y95 p (by omega) i w (by omega));have UN:=hid (fun(w:World) (ga gb:Nat) (xs ys:List Bool) (ha:Q1x w ga xs) (hb:Q1x w gb ys) (la:xs.length=t.size+1) (lb:ys.length=t.size+1)=>z23 w ga gb (t.size+1) xs ys ha hb la lb (by omega));have HG:=hid hg;have HL:=hid hl;have HA:=hid h;have mk:=fun w=>run_make_row' (P:=Tryz.prog) 118 4 (.bool false) 1 qCw (by kernel_rfl) rfl .i64 .i64 (t.size+1) (by omega) (by omega) w;simp only[Int.natCast_add,Int.cast_ofNat_Int]at mk;clear hbr hg hl h;go_enter Tryz.func81,Tryz.ntmps81
 go_wp2;go_loopw [7,8,9,10] (fun x7 x8 x9 _ wr=>∃(b i g1:Nat) (os:List Bool) (Ds:List (List Q03)),x8=.int .i64 b/\x9=.int .i64 i/\x7=bsl g1 (t.size+1)/\Q1x wr g1 os/\Q0a w wr/\Q6j (W0f Ds) t fs os/\i<=p.size+1 /\
    ((i=p.size+1/\Ds=Bs)∨(∃(z:Nat) (Ls Rs:List Q03) (Ts:List (List Q03)),Bs=Ds++(Ls++Rs)::Ts/\b<=i/\i<=p.size/\Row (Pc p) b Ls i/\Row (Pc p) i Rs z/\Rest p z Ts)))
   (fun _ _ x _ _=>2001-(intOf x).toNat)
 case atStart =>
  have hA:=HA.out;cases Bs with
  |nil=>exact hA.elim
  |cons B Ts =>
   obtain⟨z,_,q1,q2⟩:=hA;have hz:=y9e q1 (by omega) (by omega);obtain⟨zn,rfl⟩:∃n:Nat,z=n:=⟨z.toNat,by omega⟩;refine⟨0,0,w.heap.size,List.replicate (t.size+1) false,[],rfl,rfl,rfl,?_,(mRf _ w).alloc _,?_,by omega,.inr ⟨zn,[],B,Ts,rfl,by omega,by omega,rfl,q1,q2⟩⟩
   ·rw[z03];exact z0a _ _
   refine(x2w (by simp) (fun j q=>?_)).iff (fun w=>⟨fun q=>q.elim,fun⟨B,hB,_⟩=>by cases hB⟩);unfold On at q;rw[qEb]at q;split at q<;>simp at q
 obtain⟨b,i,g1,os,Ds,rfl,rfl,rfl,hB,jj,jk,jx,jt⟩:=hrel;have HB:=hid hB;have HF:=hid jj;have j1:=hid jk;clear hB jj jk HA mk;rcases jt with⟨j6,ji⟩|⟨z,Ls,Rs,Ts,jh,jw,j6,r1,r2,r3⟩
 ·have k1:¬(i:Int)<=(p.size:Int):=by omega
  have HD:=hid ji;clear j6 ji;go_wp2;go_ret;exact⟨g1,os,rfl,HF.out,HB.out,by rw[← HD.out];exact j1.out⟩
 have k1:(i:Int)<=(p.size:Int):=by omega
 have ja:=hid jh;have j8:=hid r1;have j9:=hid r3;clear jh r1 r3;cases Rs with
 |nil =>
  have js:(i:Int)=z:=r2;have jb:i=z:=by omega
  subst jb;clear r2 js;have j0:=x4y j6 j8.out (b:=b) (Int.le_refl _);have ju:=z3t (s:=p) (a:=b) (e:=i) j6;rw[Int.sub_self,show(i:Int)-b=((p.extract b i).size:Int) by omega]at j0;have BX:=hid (fun(w:World) (hg:Q1x w g fs)=>jf.out _ Ls (by omega) j0 t g fs w ht hg HL.out);have k2:(b:Int)<=(i:Int):=by omega
  clear j0 ju;have je:Hid (∀(wb:World) (g3:Nat) (ns:List Bool),True->Q6j (Q9q Ls) t fs ns->Q6j (W0f (Ds++[Ls])) t fs (orI os ns (t.size+1) (t.size+1))):=fun wb g3 ns _ hn=>(j1.alt hn (v02 j1.len)).iff (fun w=>(x0u Ds Ls w).symm);have jd:i=p.size∨(∃j2:i<p.size,((p[i].toNat:Int)==124)=true):=by
   rcases j9.out with⟨_,q⟩|⟨q,_⟩
   ·left;omega
   right;have jr:=z0r (s:=p) (i:=(i:Int)) (by omega);have j2:i<p.size:=by omega
   refine⟨j2,?_⟩;rw[z1u j2]at q;simp[q]
  have jg:Hid ((i+1=p.size+1/\Ds++[Ls]=Bs)∨(∃(z:Nat) (Ls' Rs:List Q03) (Ts:List (List Q03)),Bs=(Ds++[Ls])++(Ls'++Rs)::Ts/\i+1<=i+1/\i+1<=p.size/\Row (Pc p) ((i+1:Nat):Int) Ls' ((i+1:Nat):Int)/\Row (Pc p) ((i+1:Nat):Int) Rs z/\Rest p z Ts)):=by
   have hB:=ja.out;rw[qBd]at hB;rcases j9.out with⟨q1,q2⟩|⟨q1,q2⟩
   ·left;refine⟨by omega,?_⟩;rw[hB,q1]
   right;have jr:=z0r (s:=p) (i:=(i:Int)) (by omega);cases Ts with
   |nil=>exact q2.elim
   |cons B Ts =>
    obtain⟨z2,_,y1,y2⟩:=q2;have hz:=y9e y1 (by omega) (by omega);obtain⟨zn,rfl⟩:∃n:Nat,z2=n:=⟨z2.toNat,by omega⟩;exact⟨zn,[],B,Ts,by rw[hB];simp,by omega,by omega,rfl,y1,y2⟩
  clear ja j8 j9 jf;rcases jd with jd|⟨j2,jp⟩
  ·have k3:((i:Int)==(p.size:Int))=true:=by simp;omega
   clear jd;go_wp2_with (first
    |(go_at_call 80;have j7:=HN.1;refine(UN.out w1 g1 g3 os ns (HB.fresh HN.1) HN.2.1 j1.len HN.2.2.len).mono ?_;rintro e w3⟨rfl,j5,j3⟩;have HU:=hid (And.intro j5 j3);clear j5 j3)
    |(go_at_call 111;refine(BX.out _ (HG.fresh HF.out)).mono ?_;rintro e w1⟨g3,ns,rfl,q1,q2,q3⟩;have HN:=hid (And.intro q1 (And.intro q2 q3));clear q1 q2 q3))
   go_roundw
   case rel=>exact⟨i+1,i+1,_,_,Ds++[Ls],by go_num,by go_num,rfl,HU.2,(HF.trans HN.1).trans HU.1,je.out w1 g3 ns trivial HN.2.2,by omega,jg.out⟩
   simp[intOf];omega
  have k3:((i:Int)==(p.size:Int))=false:=by simp;omega
  have k4:(i:Int)<(p.size:Int):=by omega
  have jq:p[i].toNat<256:=p[i].toNat_lt;go_wp2_with (first
   |(go_at_call 80;have j7:=HN.1;refine(UN.out w1 g1 g3 os ns (HB.fresh HN.1) HN.2.1 j1.len HN.2.2.len).mono ?_;rintro e w3⟨rfl,j5,j3⟩;have HU:=hid (And.intro j5 j3);clear j5 j3)
   |(go_at_call 111;refine(BX.out _ (HG.fresh HF.out)).mono ?_;rintro e w1⟨g3,ns,rfl,q1,q2,q3⟩;have HN:=hid (And.intro q1 (And.intro q2 q3));clear q1 q2 q3))
  go_roundw
  case rel=>exact⟨i+1,i+1,_,_,Ds++[Ls],by go_num,by go_num,rfl,HU.2,(HF.trans HN.1).trans HU.1,je.out w1 g3 ns trivial HN.2.2,by omega,jg.out⟩
  simp[intOf];omega
 |cons A Rs =>
  obtain⟨y1,y2,y3⟩:=r2;have j4:=z3e y1;have jc:=z0r (s:=p) (i:=(i:Int)) (y3y j4);have j2:i<p.size:=by omega
  have g0:=x3q p i (by omega) (by omega) y1;obtain⟨j,hj⟩:∃j:Nat,(Pc p i).next=j:=⟨(Pc p i).next.toNat,by omega⟩;have PX:=hid (fun w=>PC.out i w j6);have jm:Q4i (Q3w (zgK p 6) p) p i=j:=by
   have:=z56 (p:=p) 6 (x:=(i:Int)) (by omega) (by omega);unfold Q7h at this;have e1:Q1u (Q3m (lgK p 6) p) p i=⟨(j:Int),true,A⟩:=by
    show Pc p i=_;rw[← hj,← y2];exact z2r y1
   rw[e1]at this;exact this
  rw[jm]at PX;have jl:Row (Pc p) b (Ls++[A]) ((j:Nat):Int):=by
   have:=Row.snoc j8.out y1;rw[y2,hj]at this;exact this
  rw[hj]at y3;have jo:=hid y3;have jn:=hid jl;have jv:((p[i].toNat:Int)==124)=false:=by
   rw[z1u j2]at j4;cases q:((p[i].toNat:Int)==124)
   ·rfl
   have:(p[i].toNat:Int)=124:=by simpa using q
   rw[this]at j4;revert j4;decide
  have k3:((i:Int)==(p.size:Int))=false:=by simp;omega
  have k4:(i:Int)<(p.size:Int):=by omega
  have jq:p[i].toNat<256:=p[i].toNat_lt;have k5:¬(j:Int)<0:=by omega
  have b1:i<j:=by omega
  have b2:j<=p.size:=by omega
  clear y1 y2 y3 j4 jm hj jl j8 g0 jc;go_wp2_with (first
   |(go_at_call 112;refine csm (PX.out _) ?_))
  go_roundw
  case rel=>exact⟨b,j,g1,os,Ds,rfl,rfl,rfl,HB.out,HF.out,j1.out,by omega,.inr ⟨z,Ls++[A],Rs,Ts,by rw[ja.out];simp,by omega,by omega,jn.out,jo.out,j9.out⟩⟩
  simp[intOf];omega
theorem z77:∀(N:Nat) (p:ByteArray) (L:Q03),p.size<=N->p.size<=1000->Q8u p L->SetC 81 p L
 |0,p,L,hN,hs,h=>by
  exfalso;have g:=y4t p 6 0 (by omega) (by omega) (by rw[h]);rw[h]at g;dsimp only at g;omega
 |N+1,p,L,hN,hs,h=>by
  have j0:(Q61 p 6 0).ok=true:=by rw[h]
  obtain⟨Bs,h1,h2⟩:=y6q (P:=Pc p) (s:=p) (x:=0) j0;have e:Q25 (Q00 (Pc p) p) p 0=⟨p.size,true,L⟩:=h;rw[e]at h1 h2;dsimp only at h1 h2;have j1:=y3u p Bs hs h1 (fun u As hu hr=>y70 u As (by omega) hr (fun q M hq hM=>x55 q M (by omega) hM (fun a A ha hA=>x8q a A (by omega) hA (fun c C hc hC=>z77 N c C (by omega) (by omega) hC))));intro t g fs w ht hg hl;refine(j1 t g fs w ht hg hl).mono ?_;rintro e w'⟨g',gs,q1,q2,q3,q4⟩;exact⟨g',gs,q1,q2,q3,q4.iff (fun w=>(h2 w).symm)⟩
theorem x00{L:Q03}{t:ByteArray}{n j:Nat}:Q5o L t (On ((List.replicate (n+1) false).set 0 true)) j↔L (Q1n t 0 j):=by
 constructor
 ·rintro⟨i,h1,h2,h3⟩;have:i=0:=by
   unfold On at h2;rw[qCs]at h2;by_cases e:0=i
   ·exact e.symm
   rw[qAa e,qEb]at h2;split at h2<;>simp at h2
  subst this;exact h3
 intro h;exact⟨0,by omega,by unfold On;simp,h⟩
def LenRet(L:Q03)(t:ByteArray)(w:World)(e:Ending)(w':World):Prop :=
 ∃g gs,e=.returned (bsl g (t.size+1))/\Q0a w w'/\Q1x w' g gs/\gs.length=t.size+1/\∀j,j<=t.size->(On gs j↔L (Q1n t 0 j))
theorem z75(p t:ByteArray)(L:Q03)(w:World)(hs:p.size<=1000)(ht:t.size<=210)(h:Q8u p L) :
  Calls Tryz.prog 48 #[.string p,.string t] w fun e w'=>LenRet L t w e w':=by
 have TH:=hid (z77 p.size p L (qR _) hs h t);have mk:=fun w=>run_make_row' (P:=Tryz.prog) 118 4 (.bool false) 1 qCw (by kernel_rfl) rfl .i64 .i64 (t.size+1) (by omega) (by omega) w;simp only[Int.natCast_add,Int.cast_ofNat_Int]at mk;have hB:Q1x (w.alloc (.cells (madeCells #[.bool false] (t.size+1)) 4)) w.heap.size (List.replicate (t.size+1) false):=by
  rw[z03];exact z0a _ _
 have c0:=hB.cell (j:=0) (by simp);have f0:=hB.frozen 0;have e0:(List.replicate (t.size+1) false).getD 0 false=false:=by simp
 rw[e0]at c0;have HB:Hid (Q1x (w.alloc (.cells ((madeCells #[.bool false] (t.size+1)).setIfInBounds 0 (.bool true)) 4)) w.heap.size ((List.replicate (t.size+1) false).set 0 true)):=by
  unfold Hid Q1x;rw[z0a,z03];congr 2
 have k1:(0:Int)<(t.size:Int)+1:=by omega
 clear hB e0;go_enter Tryz.func48,Tryz.ntmps48
 go_wp2_with (first
  |(go_at_call 81;refine(TH.out w.heap.size _ _ ht HB.out (by simp)).mono ?_;rintro e w1⟨g3,ns,rfl,q1,q2,q3⟩;have HN:=hid (And.intro q1 (And.intro q2 q3));clear q1 q2 q3))
 go_ret;obtain⟨q1,q2,q3⟩:=HN.out;refine⟨g3,ns,rfl,((mRf _ w).alloc _).trans q1,q2,q3.len,fun j hj=>?_⟩;rw[q3.on j hj];exact x00
def MatRet(L:Q03)(t:ByteArray)(w:World)(e:Ending)(w':World):Prop :=
 ∃b:Bool,e=.returned (.bool b)/\(b=true↔L (Q36 t))/\Q0a w w'
theorem y6f(p t:ByteArray)(L:Q03)(w:World)(hs:p.size<=1000)(ht:t.size<=210)(h:Q8u p L) :
  Calls Tryz.prog 43 #[.string p,.string t] w fun e w'=>MatRet L t w e w':=by
 have LE:=hid (z75 p t L w hs ht h);have k1:(t.size:Int)<(t.size:Int)+1:=by omega
 clear h;go_enter Tryz.func43,Tryz.ntmps43
 go_wp2_with (first
  |(go_at_call 48;refine(LE.out).mono ?_;rintro e w1⟨g3,ns,rfl,q1,q2,q3,q4⟩;have hc:=q2.cell (j:=t.size) (by omega);have HN:=hid (And.intro q1 (q4 t.size (qR _)));clear q1 q2 q3 q4))
 go_ret;obtain⟨q1,q2⟩:=HN.out;refine⟨_,rfl,?_,q1⟩;show _↔L (Q1n t 0 t.size);rw[← q2,z2e,qD]
theorem z9x:∀(n:Nat) (l:List Nat),l.Nodup->(∀x∈l,x<n)->l.length<=n
 |0,l,_,h=>by
  cases l with
  |nil=>simp
  |cons a l=>exact absurd (h a (by simp)) (by omega)
 |n+1,l,hd,h=>by
  by_cases hm:n∈l
  ·have h1:=List.length_erase_of_mem hm;have:=z9x n (l.erase n) (hd.erase n) (fun x hx=>by
    have h2:=hd.mem_erase_iff.1 hx;have:=h x h2.2;have:=h2.1;omega)
   have:0<l.length:=List.length_pos_of_mem hm;omega
  have:=z9x n l hd (fun x hx=>by
   have:=h x hx;have:x≠n:=fun e=>hm (e▸hx);omega)
  omega
def ItB(m:Itm):Prop:=m.p<20/\m.d<=6/\m.f<=60
theorem v0i{X:List Itm}(hd:X.Nodup)(hb:∀m∈X,ItB m):X.length<=8540:=by
 have h:=z9x 8540 (X.map fun m=>(m.p*7+m.d)*61+m.f) ?_ ?_
 ·simpa using h
 ·unfold List.Nodup at hd ⊢;rw[List.pairwise_map];refine List.Pairwise.imp_of_mem ?_ hd;intro a b ha j0 j1 e;obtain⟨a1,a2,a3⟩:=a;obtain⟨b1,b2,b3⟩:=b;have h1:=hb _ ha;have h2:=hb _ j0;simp only[ItB]at h1 h2 e;have e3:a3=b3:=by omega
  have e2:a2=b2:=by omega
  have e1:a1=b1:=by omega
  subst e1 e2 e3;exact j1 rfl
 intro x hx;rw[qBj]at hx;obtain⟨m,hm,rfl⟩:=hx;have h1:=hb m hm;simp only[ItB]at h1;omega
def Q81(X:List Itm)(m:Itm):List Itm:=if inI X m=true then X else X++[m]
def mvI(m:Itm):Itm:=⟨m.p,m.d+1,m.f⟩
theorem y2r(X:List Itm)(m:Itm):m∈Q81 X m:=by
 unfold Q81;split
 ·rename_i h;exact(x3a _ _).1 h
 simp
structure Q4y(Q:Itm->Prop)(X X':List Itm):Prop where
 pre:∃Y,X'=X++Y
 nd:X'.Nodup
 q:∀m∈X',Q m
section
variable {Q:Itm->Prop}{X X' X2:List Itm}
theorem Q4y.put{m:Itm}(h:Q4y Q X X')(hm:Q m):Q4y Q X (Q81 X' m):=by
 unfold Q81;split
 ·exact h
 rename_i c;have hn:m ∉ X':=fun e=>c ((x3a _ _).2 e);obtain⟨Y,e⟩:=h.pre;refine⟨⟨Y++[m],by rw[e,qAs]⟩,?_,fun x hx=>?_⟩
 ·rw[List.nodup_append];exact⟨h.nd,by simp,fun a ha b hb=>by simp at hb;subst hb;exact fun e=>hn (e▸ha)⟩
 rw[qU,qM]at hx;rcases hx with hx|rfl
 ·exact h.q x hx
 exact hm
theorem Q4y.le(h:Q4y Q X X'):X.length<=X'.length:=by
 obtain⟨Y,e⟩:=h.pre;rw[e,qP];omega
theorem Q4y.same(h:Q4y Q X X')(hl:X'.length=X.length):X'=X:=by
 obtain⟨Y,e⟩:=h.pre;rw[e,qP]at hl;rw[e,qCm (by omega:Y.length=0),qBd]
theorem Q4y.mem(h:Q4y Q X X'){m:Itm}(hm:m∈X):m∈X':=by
 obtain⟨Y,e⟩:=h.pre;rw[e];simp[hm]
theorem Q4y.trans(h:Q4y Q X X')(h2:Q4y Q X' X2):Q4y Q X X2:=by
 obtain⟨Y,e⟩:=h.pre;obtain⟨Z,e2⟩:=h2.pre;exact⟨⟨Y++Z,by rw[e2,e,qAs]⟩,h2.nd,h2.q⟩
theorem Q4y.refl(h:Q4y Q X X'):Q4y Q X' X':=⟨⟨[],by simp⟩,h.nd,h.q⟩
theorem y84(hl:X.length<=X'.length)(m:Itm):decide (X.length<(Q81 X' m).length)=(decide (X.length<X'.length)||!inI X' m):=by
 unfold Q81;cases h:inI X' m
 ·simp;omega
 simp
theorem x0o(h:Q4y Q X X')(h2:Q4y Q X' X2):decide (X.length<X2.length)=(decide (X.length<X'.length)||decide (X'.length<X2.length)):=by
 have h1:=h.le;have h2:=h2.le;rw[qBc];simp;omega
end
def atS(P:List (List Itm))(X:List Itm)(s:Nat):List Itm:=(P++[X]).getD s []
section
variable {P:List (List Itm)}{X X':List Itm}{s:Nat}
theorem z2o:atS P X P.length=X:=by unfold atS;simp
theorem y19(h:s<P.length):atS P X s=P.getD s []:=by
 unfold atS;rw[qD,qD,qAl h]
theorem x1y(h:s<=P.length):(P++[X])[s]? = some (atS P X s):=by
 unfold atS;rw[qD];have:s<(P++[X]).length:=by simp;omega
 rw[qE this];rfl
theorem v0q(h:s<=P.length){m:Itm}(hm:m∈atS P X s):m∈P.getD s []∨(s=P.length/\m∈X):=by
 rcases qCk s P.length with q|q
 ·rw[y19 q]at hm;exact .inl hm
 obtain rfl:s=P.length:=by omega
 rw[z2o]at hm;exact .inr ⟨rfl,hm⟩
theorem x9v(h:s<=P.length)(e:∃Y,X'=X++Y):∃Z,atS P X' s=atS P X s++Z:=by
 obtain⟨Y,e⟩:=e;rcases qCk s P.length with q|q
 ·rw[y19 q,y19 q];exact⟨[],by simp⟩
 obtain rfl:s=P.length:=by omega
 rw[z2o,z2o];exact⟨Y,e⟩
end
def St.cells(s:St):List Value:=[.bool s.leaf,.int .i8 s.num]
abbrev StOwn(w:World)(base:Nat)(v:Value)(l:List St):Prop:=w.ownsRow base 158 2 v l.length (Q0y St.cells l)
theorem infoSt:(Tryz.prog.info? 158).map (fun i=>(i.zero,i.size,i.bytes))=some (some (.agg #[.bool false,.int .i8 0]),2,2):=by kernel_rfl
theorem infoSt':∃i,Tryz.prog.info? 158=some i/\i.zero=some (.agg #[.bool false,.int .i8 0])/\i.size=2/\i.bytes=2:=nfoE infoSt
theorem z65{α:Type}(f:α->List Value)(l:List α)(x:α):Q0y f (l++[x])=Q0y f l++f x:=by simp[Q0y]
structure GA(w:World)(b B:Nat)(R H:Int)(vp vg vk vs:Value)(k:List Sy)(st:List St):Prop where
 lo:B<=b
 blk:w.heap[b]? = some (.cells #[.int .i64 R,.int .i64 H,vp,vg,vk,vs] 97 (0,0))
 ks:SyOwn w B vk k.reverse
 ss:StOwn w B vs st
 kb:vk.ownBlock≠some b
 sb:vs.ownBlock≠some b
 ap:∀j,vk.ownBlock=some j->vs.ownBlock≠some j
section
variable {w W w1:World}{b B:Nat}{R H:Int}{vp vg vk vs v':Value}{k:List Sy}{st:List St}
theorem GA.lt(h:GA w b B R H vp vg vk vs k st):b<w.heap.size:=z0j h.blk
theorem GA.cell(h:GA w b B R H vp vg vk vs k st)(o:Nat):w.cell? ⟨b,o,none⟩=#[.int .i64 R,.int .i64 H,vp,vg,vk,vs][o]? := Q0b h.blk o
theorem GA.frozen(h:GA w b B R H vp vg vk vs k st)(o:Nat):w.frozen? ⟨b,o,none⟩=false:=Q0f h.blk o
theorem GA.fresh(h:GA w b B R H vp vg vk vs k st)(hf:Q0a w W):GA W b B R H vp vg vk vs k st :=
 ⟨h.lo,hf.at h.blk id,z0d h.ks (fun g hg=>hf.block g (h.ks.lt g hg).2 id),z0d h.ss (fun g hg=>hf.block g (h.ss.lt g hg).2 id),h.kb,h.sb,h.ap⟩
theorem GA.grown5(h:GA w b B R H vp vg vk vs k st)(hW:Q0a w W)(hg:W.grownBy w1 vs.ownBlock):w1.heap[b]? = some (.cells #[.int .i64 R,.int .i64 H,vp,vg,vk,vs] 97 (0,0)):=by
 have j0:=hW.at h.blk id;rw[hg.block b (z0j j0) (fun e=>h.sb e.symm)];exact j0
theorem GA.grown4(h:GA w b B R H vp vg vk vs k st)(hW:Q0a w W)(hg:W.grownBy w1 vk.ownBlock):w1.heap[b]? = some (.cells #[.int .i64 R,.int .i64 H,vp,vg,vk,vs] 97 (0,0)):=by
 have j0:=hW.at h.blk id;rw[hg.block b (z0j j0) (fun e=>h.kb e.symm)];exact j0
theorem GA.step(h:GA w b B R H vp vg vk vs k st)(hW:Q0a w W){x:St}(hown:w1.ownsRow B 158 2 v' (st.length+1) (Q0y St.cells st++x.cells))(hg:W.grownBy w1 vs.ownBlock)
  (hb:∀j,v'.ownBlock=some j->vs.ownBlock=some j∨W.heap.size<=j) :
  GA (w1.setCell ⟨b,5,none⟩ v') b B R H vp vg vk v' k (st++[x])/\UpB B w (w1.setCell ⟨b,5,none⟩ v'):=by
 have h1:=h.grown5 hW hg;have j1:=h.lt;have j2:=hW.size;have hv'b:v'.ownBlock≠some b:=fun e=>by
  rcases hb b e with h2|h2
  ·exact h.sb h2
  omega
 refine⟨⟨h.lo,?_,?_,?_,h.kb,hv'b,?_⟩,?_⟩
 ·rw[zhs h1 5 v'];rfl
 ·refine z0d h.ks (fun g hg'=>?_);have hl:=h.ks.lt g hg';rw[Proofs.YtbdpfmalabgmbaaGreat.heap_setCell_other _ (by intro e;exact h.kb (by rw[hg'];exact qEn some e)),hg.block g (by omega) (fun e=>h.ap g hg' e.symm),hW.block g hl.2 id]
 ·show World.ownsRow _ _ _ _ _ (st++[x]).length _;rw[z65,qP,qAj];exact z0d hown (fun g hg'=>by rw[Proofs.YtbdpfmalabgmbaaGreat.heap_setCell_other _ (by intro e;exact hv'b (by rw[hg'];exact qEn some e))])
 ·intro j hj j0;rcases hb j j0 with h2|h2
  ·exact h.ap j hj h2
  have:=(h.ks.lt j hj).2;omega
 have m1:UpB B w W:=hW.mono (fun _ _ x=>x.elim);exact(m1.grown hg (fun j hj _=>(h.ss.lt j hj).1)).setCell (fun _=>h.lo) _
theorem GA.push(h:GA w b B R H vp vg vk vs k st)(hW:Q0a w W){x:Sy}(hown:w1.ownsRow B 93 2 v' (k.reverse.length+1) (Q0y Sy.cells k.reverse++x.cells))(hg:W.grownBy w1 vk.ownBlock)
  (hb:∀j,v'.ownBlock=some j->vk.ownBlock=some j∨W.heap.size<=j) :
  GA (w1.setCell ⟨b,4,none⟩ v') b B R H vp vg v' vs (x::k) st/\UpB B w (w1.setCell ⟨b,4,none⟩ v'):=by
 have h1:=h.grown4 hW hg;have j1:=h.lt;have j2:=hW.size;have hv'b:v'.ownBlock≠some b:=fun e=>by
  rcases hb b e with h2|h2
  ·exact h.kb h2
  omega
 refine⟨⟨h.lo,?_,?_,?_,hv'b,h.sb,?_⟩,?_⟩
 ·rw[zhs h1 4 v'];rfl
 ·show World.ownsRow _ _ _ _ _ (x::k).reverse.length _;rw[List.reverse_cons,z65,qP,qAj];exact z0d hown (fun g hg'=>by rw[Proofs.YtbdpfmalabgmbaaGreat.heap_setCell_other _ (by intro e;exact hv'b (by rw[hg'];exact qEn some e))])
 ·refine z0d h.ss (fun g hg'=>?_);have hl:=h.ss.lt g hg';rw[Proofs.YtbdpfmalabgmbaaGreat.heap_setCell_other _ (by intro e;exact h.sb (by rw[hg'];exact qEn some e)),hg.block g (by omega) (fun e=>h.ap g e.symm hg'),hW.block g hl.2 id]
 ·intro j hj j0;rcases hb j hj with h2|h2
  ·exact h.ap j h2 j0
  have:=(h.ss.lt j j0).2;omega
 have m1:UpB B w W:=hW.mono (fun _ _ x=>x.elim);exact(m1.grown hg (fun j hj _=>(h.ks.lt j hj).1)).setCell (fun _=>h.lo) _
theorem y7c{e:TypeId}{size n cap:Nat}{ao:Option Addr}{xs ys:List Value}(h:w.ownsRow B e size (.slice ao (n+1) cap) (n+1) (xs++ys))(hy:ys.length=size):w.ownsRow B e size (.slice ao n cap) n xs:=by
 obtain⟨h1,h2⟩:=h;have hx:xs.length=n*size:=by
  rw[qP,hy,qFc,Nat.one_mul]at h1;omega
 refine⟨hx,?_⟩;rcases h2 with⟨_,h0⟩|⟨g,j0,j1,hv,hb,hg,j4,j2,j3,ht⟩
 ·omega
 rw[qI]at hv;obtain⟨rfl,_,rfl⟩:=hv;refine .inr ⟨g,cap,j1,rfl,hb,hg,by omega,j2,j3,?_⟩;have e1:(xs++ys).take (n*size)=xs:=by rw[List.take_append_of_le_length (by omega),qDg (by omega)]
 rw[← ht,List.take_take,qFe (by rw[qFc];omega)]at e1;exact e1
theorem GA.pop{ao:Option Addr}{cap:Nat}{s:Sy}(h:GA w b B R H vp vg (.slice ao (k.length+1) cap) vs (s::k) st) :
  GA (w.setCell ⟨b,4,none⟩ (.slice ao k.length cap)) b B R H vp vg (.slice ao k.length cap) vs k st/\UpB B w (w.setCell ⟨b,4,none⟩ (.slice ao k.length cap)):=by
 have j0:=h.ks;unfold SyOwn at j0;rw[List.reverse_cons,z65,qP,qAj,qEr]at j0;have hp:=y7c j0 rfl;have j1:Value.ownBlock (.slice ao k.length cap)=Value.ownBlock (.slice ao (k.length+1) cap):=by cases ao<;>rfl
 refine⟨⟨h.lo,?_,?_,?_,by rw[j1];exact h.kb,h.sb,fun j hj=>h.ap j (by rw[j1]at hj;exact hj)⟩,(mRf _ w).setCell (fun _=>h.lo) _⟩
 ·rw[zhs h.blk 4 _];rfl
 ·show World.ownsRow _ _ _ _ _ k.reverse.length _;rw[qEr];exact z0d hp (fun g hg'=>by rw[Proofs.YtbdpfmalabgmbaaGreat.heap_setCell_other _ (by intro e;exact h.kb (by rw[← j1,hg'];exact qEn some e))])
 exact z0d h.ss (fun g hg'=>by rw[Proofs.YtbdpfmalabgmbaaGreat.heap_setCell_other _ (by intro e;exact h.sb (by rw[hg'];exact qEn some e))])
end
end Go.Proofs.YtbdpfmalabgmbaaGreat
