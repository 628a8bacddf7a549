import Derived.Test.YtcpceafmlgaodaaGreatSef
namespace Go.Proofs.YtcpceafmlgaodaaGreat
open Go.RowKit
set_option maxRecDepth 99999
set_option maxHeartbeats 0
set_option linter.all false
structure Cl where
  h:Int
  t:Int
  a:Int
  b:Int
def Cl.cells(c:Cl):List Value:=[.int .i64 c.h,.int .i64 c.t,.int .i64 c.a,.int .i64 c.b]
def Q6b(n t:Int):List Int->List Cl
  | []=>[]
  |f::r=>(r.map fun s=>⟨n,t,f,s⟩)++Q6b n t r
def clT(z:List (Pr × List Bool))(n R:Nat):Nat->Nat->List Cl
  |0,_=>[]
  |f+1,t=>if t<=R then Q6b n t (ovL n t z 0)++clT z n R f (t+1) else []
def clN(z:List (Pr × List Bool))(R H:Nat):Nat->Nat->List Cl
  |0,_=>[]
  |f+1,n=>if n<H then clT z n R (R+2) 0++clN z R H f (n+1) else []
def Q55(z:List (Pr × List Bool))(R H:Nat):List Cl:=clN z R H (H+1) 0
theorem y4m(n t:Int):∀l:List Int,(Q6b n t l).length<=l.length*l.length
  | []=>by simp[Q6b]
  |f::r=>by
    have ih:=y4m n t r;simp only[Q6b,qP,qAo,qAy];have:(r.length+1)*(r.length+1)=r.length*r.length+2*r.length+1:=by
      rw[qDt,Nat.mul_add];omega
    omega
theorem v0f(z:List (Pr × List Bool))(hz:z.length<=1000)(n t:Int):(Q6b n t (ovL n t z 0)).length<=1000000:=by
  have h1:=y4m n t (ovL n t z 0);have h2:=y6t n t z 0;have h3:(ovL n t z 0).length*(ovL n t z 0).length<=1000*1000:=Nat.mul_le_mul (by omega) (by omega);omega
theorem x1o(z:List (Pr × List Bool))(hz:z.length<=1000)(n R:Nat):∀(f t:Nat),(clT z n R f t).length<=f*1000000
  |0,_=>by simp[clT]
  |f+1,t=>by
    unfold clT;have h1:=v0f z hz n t;have h2:=x1o z hz n R f (t+1);split
    · rw[qP];omega
    simp
theorem y59(z:List (Pr × List Bool))(hz:z.length<=1000)(R H:Nat)(hR:R<=1000):∀(f n:Nat),(clN z R H f n).length<=f*1002000000
  |0,_=>by simp[clN]
  |f+1,n=>by
    unfold clN;have h1:=x1o z hz n R (R+2) 0;have h2:=y59 z hz R H hR f (n+1);split
    · rw[qP];omega
    simp
abbrev Q6x(w:World)(base:Nat)(v:Value)(l:List Cl):Prop:=w.ownsRow base 94 4 v l.length (Q00 Cl.cells l)
theorem infoCl:(Tryz.prog.info? 94).map (fun i=>(i.zero,i.size,i.bytes))=some (some (.agg #[.int .i64 0,.int .i64 0,.int .i64 0,.int .i64 0]),4,32):=by kernel_rfl
theorem infoCl':∃i,Tryz.prog.info? 94=some i/\i.zero=some (.agg #[.int .i64 0,.int .i64 0,.int .i64 0,.int .i64 0])/\i.size=4/\i.bytes=32:=nfoE infoCl
theorem z4l{w:World}{base:Nat}{g n cap:Nat}{l:List Int}(h:IntOwn w base (.slice (some ⟨g,0,none⟩) n cap) l)(i:Nat)(hi:i<l.length):w.cell? ⟨g,i,none⟩=some (.int .i64 l[i]):=by
  have:=h.cells (g:=g) rfl i (.int .i64 l[i]) (by simp[hi]);rwa [Addr.add_mid,qBi]at this
theorem y5z(w:World)(R H:Nat)(vp:Value)(ps:List PV)(hp:Q3c w w.heap.size vp ps)(hps:ps.length<=1000)(hH:H<=1000)(hR:R<=1000)(hok:∀x∈Q3w (Q0j ps) (Q0v R H),x.ok) :
    Calls Tryz.prog 21 #[.agg #[.int .i64 R,.int .i64 H,vp]] w fun e w'=>∃v,e=.returned v/\Q0a w w'/\Q6x w' w.heap.size v (Q55 ((Q0j ps).zip (Q0p (Q3w (Q0j ps) (Q0v R H)) (Q0j ps))) R H):=by
  obtain⟨i0,hi0,iz0,iz1,iz2⟩:=infoCl';obtain⟨pa,pc,hvp⟩:=z0d hp.row.own;subst hvp;have HP:=hid hp;have FI:=hid (y3u (w.alloc (.cells #[.int .i64 R,.int .i64 H,.slice pa ps.length pc] 41 (0,0))) R H (.slice pa ps.length pc) ps ((hp.kept (qR _) ((mRf (fun _=>False) w).alloc _) (fun _ _ x=>x)).up (by simp)) hps hH hR);generalize Q3w (Q0j ps) (Q0v R H)=AL at FI hok;have jp:((Q0j ps).zip (Q0p AL (Q0j ps))).length<=1000:=by simp[Q0p,Q0j];omega
  have jm:(Q0p AL (Q0j ps)).length=ps.length:=by simp[Q0p,Q0j]
  have jl:∀a∈Q0p AL (Q0j ps),a.length=9:=fun a ha=>by
    obtain⟨p,_,rfl⟩:=qBp.1 ha;exact z3d hok _ _
  have k8:=y59 _ jp R H hR (H+1) 0;generalize hRES:Q55 ((Q0j ps).zip (Q0p AL (Q0j ps))) R H=RES;have j1:=hid hRES;have k9:RES.length<=1003002000000:=by
    rw[← hRES];unfold Q55;omega
  clear hp hRES k8 hok;go_enter Tryz.func21,Tryz.ntmps21
  go_wp2_with (first
    |(go_at_call 51;refine(z55 w1 b R H (.slice pa ps.length pc) vh ps AL hF1 hps).mono ?_;rintro e w2⟨va,rfl,hf2,hoa⟩)
    |(go_at_call 50;refine FI.mono ?_;rintro e w1⟨b,vh,rfl,hf1,hF1⟩))
  have j2:=hid (hf2.at (hf1.at (z0a _ _) (fun x=>x)) (fun x=>x));have j7:Hid (Q0a w w2):=Mod.trans ((mRf _ w).alloc _) (hf1.trans hf2);have kc:=hid hoa;have PO:=hid (fun(W:World) (hW:Q0a w2 W) (n t:Nat)=>z6g W R H (.slice pa ps.length pc) ps ((HP.kept (qR _) (j7.trans hW) (fun _ _ x=>x)).up ((j7.trans hW).size)) hps va (Q0p AL (Q0j ps)) _ (z0c hoa (fun g hg=>hW.block g (hoa.lt g hg).2 (fun x=>x))) jm jl (n:Int) (t:Int));have ks:=hf2.size;have ka:=j7.size;generalize(Q0j ps).zip (Q0p AL (Q0j ps))=z at j1 jp PO;clear hoa hF1 hf1 hf2 FI jm jl;go_loopw [5,6,7,8,9,10,12,36,46] (fun x5 x6 _ _ _ _ _ _ _ wr=>∃(n:Nat) (acc:List Cl),x6=.int .i64 n/\n<=H/\acc++clN z R H (H+1-n) n=RES/\Q6x wr w2.heap.size x5 acc/\Q0a w2 wr)
      (fun _ x _ _ _ _ _ _ _ _=>H+1-(intOf x).toNat)
  case atStart=>exact⟨0,[],rfl,by omega,j1.out,World.ownsRow_nil _ _ _ _,mRf _ _⟩
  obtain⟨n,acc,rfl,hn,hres,hown,hfr⟩:=hrel;have jx:=hid (Q15 (B:=H+1) n (by omega));have jh:=hid hfr;have c1:=Q0b (hfr.at j2.out (fun x=>x)) 1;have c0:=Q0b (hfr.at j2.out (fun x=>x)) 0;simp at c1 c0;obtain⟨ro,rc,hro⟩:=z0d hown;have HO:=hid hown;subst hro;clear hown hfr;by_cases hlt:n<H
  · have kl:(n:Int)<(H:Int):=by omega
    rw[show H+1-n=(H-n)+1 by omega]at hres;unfold clN at hres;rw[qAb hlt]at hres;have k2:=hid hres;clear hres;obtain⟨wn,hwn⟩:∃wn,wn=wr:=⟨_,rfl⟩;subst hwn;go_wp2;go_loopw [5,7,8,9,10,12,36,46] (fun x5 x7 _ _ _ _ _ _ wr=>∃(t:Nat) (acc:List Cl),x7=.int .i64 t/\t<=R+1/\acc++(clT z n R (R+2-t) t++clN z R H (H-n) (n+1))=RES/\Q6x wr w2.heap.size x5 acc/\Q0a w2 wr)
        (fun _ x _ _ _ _ _ _ _=>R+2-(intOf x).toNat)
    case atStart=>exact⟨0,acc,rfl,by omega,k2.out,HO.out,jh.out⟩
    obtain⟨t,acc,rfl,ht,hres,hown,hfr⟩:=hrel;have jy:=hid (Q15 (B:=R+2) t (by omega));have j4:=hid hfr;have kd:=z0j (hfr.at j2.out (fun x=>x));have c1:=Q0b (hfr.at j2.out (fun x=>x)) 1;have c0:=Q0b (hfr.at j2.out (fun x=>x)) 0;have c2:=Q0b (hfr.at j2.out (fun x=>x)) 2;simp at c1 c0 c2;obtain⟨so,sc,hso⟩:=z0d hown;have j8:=hid hown;subst hso;clear hown hfr;by_cases hlt2:t<=R
    · have ko:(t:Int)<=(R:Int):=by omega
      rw[show R+2-t=(R+1-t)+1 by omega]at hres;unfold clT at hres;rw[qAb hlt2,qAh]at hres;obtain⟨wt,hwt⟩:∃wt,wt=wr:=⟨_,rfl⟩;subst hwt;have jk:=hid (PO.out wt j4.out n t);generalize hov:ovL (n:Int) (t:Int) z 0=able at hres jk;have k3:able.length<=1000:=by rw[← hov];have:=y6t n t z 0;omega
      generalize hREST:clT z n R (R+1-t) (t+1)++clN z R H (H-n) (n+1)=REST at hres;have j6:=hid hREST;clear hREST;have jf:=hid hres;clear hres hov;have jv:=j4;go_wp2_with (first
        |(go_at_call 52;refine jk.mono ?_;rintro e w3⟨v8,rfl,hf3,ho8⟩;obtain⟨a8,c8,e8⟩:=z0d ho8;subst e8;have k0:=hid ho8;have jt:=hid (j4.trans hf3);have k1:=hid (z0c j8.out (fun g hg=>hf3.block g (j8.lt g hg).2 (fun x=>x)));have js:Hid (∀k,(Value.slice so acc.length sc).ownBlock=some k->(Value.slice a8 able.length c8).ownBlock≠some k):=(fun k hk e=>by have q1:=(j8.lt k hk).2;have q2:=(ho8.lt k e).1;omega);clear ho8 hf3)
        |(refine wpList_load_row rfl 41 _ rfl w.heap.size rfl _ #[.int .i64 R,.int .i64 H,.slice pa ps.length pc] _ _ (j4.at j2.out (fun x=>x)) Tryz.underlying41 rfl Q9g ?_))
      clear c0 c1 c2;go_loopw [5,9,10,12,36,46] (fun x5 _ _ _ x36 _ wr=>∃(i:Nat) (acc:List Cl),x36=.int .i64 i/\i<=able.length/\acc++(Q6b n t (able.drop i)++REST)=RES/\Q6x wr w2.heap.size x5 acc/\IntOwn wr wt.heap.size (.slice a8 able.length c8) able/\(∀k,x5.ownBlock=some k->(Value.slice a8 able.length c8).ownBlock≠some k)/\Q0a w2 wr)
          (fun _ _ _ _ x _ _=>1001-(intOf x).toNat)
      case atStart=>exact⟨0,acc,rfl,by omega,jf.out,k1.out,k0.out,js.out,jt.out⟩
      obtain⟨i,acc,rfl,hi,hres,hown,ho8,hdi,hfr⟩:=hrel;have ji:=hid (Q15 (B:=1001) i (by omega));have jb:=hid hfr;have jc:=hid hown;have j5:=hid ho8;have j3:=hid hdi;obtain⟨qo,qc,hqo⟩:=z0d hown;subst hqo;clear hown hfr hdi;by_cases hlti:i<able.length
      · have kg:(i:Int)<(able.length:Int):=by omega
        obtain⟨g8,c8',hv8⟩:=Joins.ownsRow_form ho8 (by omega);rw[qI]at hv8;obtain⟨rfl,_,rfl⟩:=hv8;have k4:able.length<=c8:=by
          rcases ho8.2 with⟨h1,_⟩|⟨g',cap',cur,h1,_,_,h4,_⟩
          · cases h1
          rw[qI]at h1;omega
        have kf:c8<=2 ^ 63-1:=by
          rcases ho8.2 with⟨h1,_⟩|⟨g',cap',cur,h1,_,_,_,h5,_⟩
          · cases h1
          rw[qI]at h1;unfold maxLen at h5;omega
        have d1:=z4l ho8 i hlti;rw[qC hlti]at hres;unfold Q6b at hres;rw[qAh]at hres;generalize able[i]=fst at hres d1;generalize hR2:Q6b n t (able.drop (i+1))++REST=REST2 at hres;have jj:=hid hR2;have j9:=hid hres;clear hres ho8 hR2;obtain⟨wi,hwi⟩:∃wi,wi=wr:=⟨_,rfl⟩;subst hwi;rcases(show c8=i+1∨¬c8=i+1 by omega)with hc8|hc8
        · have jo:able.length=i+1:=by omega
          have HE:Hid (acc++REST2=RES):=by
            have:=j9.out;rw[qAi (by omega)]at this;unfold Hid;simpa using this
          have h0:able.length-(i+1)=0:=by omega
          subst hc8;have kb:=hid jo;clear jo;go_wp2;go_loopw [5,12,46] (fun x5 _ x46 wr=>x5=.slice qo acc.length qc/\x46=.int .i64 0/\wr=wi)
              (fun _ _ _ _=>0)
          case atStart=>exact⟨rfl,rfl,rfl⟩
          obtain⟨rfl,rfl,hwr⟩:=hrel;subst hwr;go_wp2;go_roundw
          case rel=>exact⟨i+1,acc,by go_num,by omega,by rw[jj.out];exact HE.out,jc.out,j5.out,j3.out,jb.out⟩
          exact ji.out
        have ke:¬c8-(i+1)=0:=by omega
        go_wp2;go_loopw [5,12,46] (fun x5 _ x46 wr=>∃(j:Nat) (acc:List Cl),x46=.int .i64 j/\j<=able.length-(i+1)/\acc++((((able.drop (i+1)).drop j).map fun s=>(⟨n,t,fst,s⟩:Cl))++REST2)=RES/\Q6x wr w2.heap.size x5 acc/\IntOwn wr wt.heap.size (.slice (some ⟨g8,0,none⟩) able.length c8) able/\(∀k,x5.ownBlock=some k->(Value.slice (some ⟨g8,0,none⟩) able.length c8).ownBlock≠some k)/\Q0a w2 wr)
            (fun _ _ x _=>1001-(intOf x).toNat)
        case atStart=>exact⟨0,acc,rfl,by omega,j9.out,jc.out,j5.out,j3.out,jb.out⟩
        obtain⟨j,acc,rfl,hj,hres,hown,ho8,hdi,hfr⟩:=hrel;have jw:=hid (Q15 (B:=1001) j (by omega));have jg:=hid hfr;have jd:=hid hown;have j0:=hid ho8;have ja:=hid hdi;have jn:acc.length<=RES.length:=by rw[← hres];simp
        obtain⟨qo,qc,hqo⟩:=z0d hown;subst hqo;have kr:=hfr.size;clear hown hfr hdi;by_cases hltj:j<able.length-(i+1)
        · have ki:(j:Int)<((able.length-(i+1):Nat):Int):=by omega
          have k5:j<(able.drop (i+1)).length:=by simp;omega
          rw[qC k5,qCl]at hres;have d2:=z4l ho8 (i+1+j) (by omega);have k6:(able.drop (i+1))[j]=able[i+1+j]'(by omega):=by simp
          rw[k6]at hres;generalize able[i+1+j]'(by omega)=snd at hres d2;have je:=hid hres;clear hres ho8;go_wp2_with (first
            |(at_builtin;refine z0g _ rfl _ _ 55 rfl w2.heap.size 94 i0 _ 4 32 Tryz.underlying55 hi0 iz0 iz1 iz2 rfl (by decide) _ _ _ rfl (jd.alloc _) ⟨wr.heap.size,0,none⟩ 1 1 [.int .i64 n,.int .i64 t,.int .i64 fst,.int .i64 snd] rfl rfl (z0l rfl) (by intro u hu;simp at hu;rcases hu with rfl|rfl|rfl|rfl<;>rfl) (by unfold maxLen;omega) (by omega) (by simp;omega) ?_))
          intro v' w5 hown2 hgrow hblk;have ju:Hid (Q0a w2 w5):=Mod.grown (S:=fun _=>False) (jg.alloc _) hgrow (fun k hk hlt=>by have:=(jd.lt k hk).1;omega);have jq:Hid (IntOwn w5 wt.heap.size (.slice (some ⟨g8,0,none⟩) able.length c8) able):=z0c (j0.alloc _) (fun g hg=>hgrow.block g ((j0.alloc _).lt g hg).2 (fun e=>ja.out g e.symm hg));have jr:Hid (∀k,v'.ownBlock=some k->(Value.slice (some ⟨g8,0,none⟩) able.length c8).ownBlock≠some k):=fun k hk e=>by
            rcases hblk k hk with q1|q1
            · exact ja.out k q1 e
            have q2:=(j0.lt k e).2;first|omega|(simp at q1;omega)
          have jz:=hid hown2;clear hown2 hgrow hblk;go_wp2;go_roundw
          case rel =>
            refine⟨j+1,acc++[⟨n,t,fst,snd⟩],by go_num,by omega,?_,?_,jq.out,jr.out,ju.out⟩
            · rw[qAh];exact je.out
            unfold Q6x;rw[z0y,qP,qAf];exact jz.out
          exact jw.out
        have kk:j=able.length-(i+1):=by omega
        have kj:¬(j:Int)<((able.length-(i+1):Nat):Int):=by omega
        rw[qAi (by simp;omega),List.map_nil,qBq]at hres;have je:=hid hres;clear hres ho8;go_wp2;go_roundw
        case rel=>exact⟨i+1,acc,by go_num,by omega,by rw[jj.out];exact je.out,jd.out,j0.out,ja.out,jg.out⟩
        exact ji.out
      have k7:i=able.length:=by omega
      have kh:¬(i:Int)<(able.length:Int):=by omega
      rw[k7,qBw]at hres;have j9:Hid (acc++REST=RES):=by unfold Hid;simpa [Q6b]using hres
      clear hres ho8;go_wp2;go_roundw
      case rel=>exact⟨t+1,acc,by go_num,by omega,by rw[show R+2-(t+1)=R+1-t by omega,j6.out];exact j9.out,jc.out,jb.out⟩
      exact jy.out
    have kq:t=R+1:=by omega
    have kp:¬(t:Int)<=(R:Int):=by omega
    rw[show R+2-t=1 by omega]at hres;unfold clT at hres;rw[qAa hlt2,qBq]at hres;have jf:=hid hres;clear hres;go_wp2;go_roundw
    case rel=>exact⟨n+1,acc,by go_num,by omega,by rw[show H+1-(n+1)=H-n by omega];exact jf.out,j8.out,j4.out⟩
    exact jx.out
  have kn:n=H:=by omega
  have km:¬(n:Int)<(H:Int):=by omega
  rw[show H+1-n=1 by omega]at hres;unfold clN at hres;rw[qAa hlt,qAt]at hres;subst hres;go_wp2;go_ret;exact⟨_,rfl,j7.trans jh.out,z0f HO.out ka⟩
def NS(ps:List Pr):Nat->Int->Bool
  |0,_=>false
  |n+1,X=>ps.any fun p=>p.head==X&&p.syms.all fun s=>s.isH&&NS ps n s.num
def Q3s(N:Int->Bool)(F:Int->Bool)(t:Nat):List Sy->Bool
  | []=>false
  |s::l=>(if s.isH then F s.num else s.num==(t:Int))||(s.isH&&N s.num&&Q3s N F t l)
def FS(ps:List Pr)(N:Int->Bool)(t:Nat):Nat->Int->Bool
  |0,_=>false
  |n+1,X=>ps.any fun p=>p.head==X&&Q3s N (FS ps N t n) t p.syms
def Q35(N:Int->Bool)(s:Sy):Bool:=s.isH&&N s.num
theorem z3z{N F F':Int->Bool}{t:Nat}(h:∀X,F X=true->F' X=true):∀l:List Sy,Q3s N F t l=true->Q3s N F' t l=true
  | [],e=>e
  |s::l,e=>by
    unfold Q3s at e ⊢;cases hs:s.isH
    · rw[hs]at e;simpa using e
    rw[hs]at e;simp only[qBb,qBa,qAk,qAc]at e ⊢;rcases e with e|⟨e1,e2⟩
    · exact .inl (h _ e)
    exact .inr ⟨e1,z3z h l e2⟩
theorem z1q{N F:Int->Bool}{t:Nat}:∀{l:List Sy},Q3s N F t l=true->∃a s b,l=a++s::b/\a.all (Q35 N)=true/\(if s.isH then F s.num else s.num==(t:Int))=true
  | [],e=>by cases e
  |s::l,e=>by
    unfold Q3s at e;simp only[qAk,qAc]at e;rcases e with e|⟨e1,e2⟩
    · exact⟨[],s,l,rfl,rfl,e⟩
    obtain⟨a,s',b,h1,h2,h3⟩:=z1q e2;refine⟨s::a,s',b,by rw[h1];rfl,?_,h3⟩;simp[Q35,e1.1,e1.2,h2]
theorem z22{N F:Int->Bool}{t:Nat}(s:Sy)(b:List Sy)(h:(if s.isH then F s.num else s.num==(t:Int))=true):∀a:List Sy,a.all (Q35 N)=true->Q3s N F t (a++s::b)=true
  | [],_=>by simp only[qBq,Q3s,qAk];exact .inl h
  |x::a,e=>by
    simp only[qCp,qAc]at e;simp only[qAw,Q3s,qAk,qAc];have e1:=e.1;simp only[Q35,qAc]at e1;exact .inr ⟨e1,z22 s b h a e.2⟩
theorem z2o{N F:Int->Bool}{t:Nat}:∀(a b:List Sy),Q3s N F t (a++b)=(Q3s N F t a||(a.all (Q35 N)&&Q3s N F t b))
  | [],b=>by simp[Q3s]
  |x::a,b=>by
    simp only[qAw,Q3s,z2o a b,qCp,Q35];cases x.isH<;>cases N x.num<;>simp[Bool.or_assoc]
theorem y50(ps:List Pr):∀(n:Nat) (X:Int),NS ps n X=true->NS ps (n+1) X=true
  |0,_,h=>by cases h
  |n+1,X,h=>by
    unfold NS at h ⊢;rw[qAq]at h ⊢;obtain⟨p,hp,h⟩:=h;refine⟨p,hp,?_⟩;simp only[qAc,qAn]at h ⊢;exact⟨h.1,fun s hs=>⟨(h.2 s hs).1,y50 ps n _ (h.2 s hs).2⟩⟩
theorem x1a(ps:List Pr)(N:Int->Bool)(t:Nat):∀(n:Nat) (X:Int),FS ps N t n X=true->FS ps N t (n+1) X=true
  |0,_,h=>by cases h
  |n+1,X,h=>by
    unfold FS at h ⊢;rw[qAq]at h ⊢;obtain⟨p,hp,h⟩:=h;refine⟨p,hp,?_⟩;simp only[qAc]at h ⊢;exact⟨h.1,z3z (x1a ps N t n) _ h.2⟩
theorem x5w(l:List Bool):Q9b l<=l.length:=by unfold Q9b;exact qCw _ _
theorem y3m{H:Nat}{a:Nat->List Bool}(hl:∀n,(a n).length=H)(hm:∀n,leB (a n) (a (n+1)))(hs:∀n,a n=a (n+1)->a (n+1)=a (n+2)):∀m,leB (a m) (a H):=by
  have h1:∀n,a n=a (n+1)∨Q9b (a n)+n<=H:=by
    intro n;induction n with
    |zero=>right;have:=x5w (a 0);rw[hl 0]at this;omega
    |succ n ih =>
      by_cases e:a n=a (n+1)
      · exact .inl (hs n e)
      right;have:=(y1u (hm n)).2 e;rcases ih with ih|ih
      · exact absurd ih e
      omega
  have h2:a H=a (H+1):=by
    by_cases e:a H=a (H+1)
    · exact e
    have:=(y1u (hm H)).2 e;rcases h1 H with h|h
    · exact absurd h e
    omega
  have h3:∀k,a (H+k)=a (H+k+1):=by
    intro k;induction k with
    |zero=>exact h2
    |succ k ih=>exact hs _ ih
  have h4:∀k,a (H+k)=a H:=by
    intro k;induction k with
    |zero=>rfl
    |succ k ih=>rw[← ih];exact(h3 k).symm
  have h5:∀k m,m+k=H->leB (a m) (a H):=by
    intro k;induction k with
    |zero =>
      intro m e;have:m=H:=by omega
      subst this;exact z17 _
    |succ k ih=>intro m e;exact z43 (hm m) (ih (m+1) (by omega))
  intro m;by_cases e:m<=H
  · exact h5 (H-m) m (by omega)
  have:=h4 (m-H);rw[show H+(m-H)=m by omega]at this;rw[this];exact z17 _
def Q4z(H:Nat)(f:Int->Bool):List Bool:=(List.range H).map fun i=>f (i:Nat)
theorem z30{H:Nat}{f:Int->Bool}{X:Int}(h0:0<=X)(h1:X<H):(Q4z H f).getD X.toNat false=f X:=by
  have e:((X.toNat:Nat):Int)=X:=by omega
  unfold Q4z;rw[qD,qBe,qEg (by omega)];simp[e]
theorem y3j{H:Nat}{f g:Int->Bool}(h:∀X,f X=true->g X=true):leB (Q4z H f) (Q4z H g):=by
  unfold Q4z;generalize List.range H=l;induction l with
  |nil=>trivial
  |cons x l ih=>exact⟨h _,ih⟩
theorem y3i{H:Nat}{f g:Int->Bool}(h:Q4z H f=Q4z H g){X:Int}(h0:0<=X)(h1:X<H):f X=g X:=by
  rw[← z30 h0 h1 (f:=f),h,z30 h0 h1]
theorem z8h{H:Nat}{f g:Int->Bool}(h:∀X,0<=X->X<H->f X=g X):Q4z H f=Q4z H g:=by
  unfold Q4z;apply qEh;intro i hi;have:=List.mem_range.1 hi;exact h _ (by omega) (by omega)
theorem z3y{α:Type}{l:List α}{f g:α->Bool}(h:∀x∈l,f x=g x):l.any f=l.any g:=by
  induction l with
  |nil=>rfl
  |cons x l ih=>simp only[List.any_cons,h x (by simp),ih (fun y hy=>h y (by simp[hy]))]
theorem z3x{α:Type}{l:List α}{f g:α->Bool}(h:∀x∈l,f x=g x):l.all f=l.all g:=by
  induction l with
  |nil=>rfl
  |cons x l ih=>simp only[qCp,h x (by simp),ih (fun y hy=>h y (by simp[hy]))]
theorem y0m{N F F':Int->Bool}{t:Nat}:∀(l:List Sy),(∀s∈l,s.isH=true->F s.num=F' s.num)->Q3s N F t l=Q3s N F' t l
  | [],_=>rfl
  |s::l,h=>by
    unfold Q3s;rw[y0m l (fun x hx=>h x (by simp[hx]))];cases hs:s.isH
    · rfl
    rw[h s (by simp) hs]
variable {ps:List Pr}{R H:Nat}
theorem v02(hT:Q1b ps R H)(n:Nat)(X:Int)(h0:0<=X)(h1:X<H)(h:NS ps n X=true):NS ps H X=true:=by
  have hc:=y3m (a:=fun n=>Q4z H (NS ps n)) (H:=H) (fun n=>by simp[Q4z]) (fun n=>y3j (y50 ps n)) (by
    intro n e;refine z8h (fun X _ _=>?_);show NS ps (n+1) X=NS ps (n+2) X;unfold NS;refine z3y (fun p hp=>?_);congr 1;refine z3x (fun s hs=>?_);cases hsh:s.isH
    · rfl
    have:=hT.sy p hp s hs;rw[hsh]at this;simp only[qBb]at this;rw[y3i e this.1 this.2]) n
  have:=z4v hc X.toNat (by rw[z30 h0 h1];exact h);rwa [z30 h0 h1]at this
theorem x73(hT:Q1b ps R H)(N:Int->Bool)(t:Nat)(n:Nat)(X:Int)(h0:0<=X)(h1:X<H)(h:FS ps N t n X=true):FS ps N t H X=true:=by
  have hc:=y3m (a:=fun n=>Q4z H (FS ps N t n)) (H:=H) (fun n=>by simp[Q4z]) (fun n=>y3j (x1a ps N t n)) (by
    intro n e;refine z8h (fun X _ _=>?_);show FS ps N t (n+1) X=FS ps N t (n+2) X;unfold FS;refine z3y (fun p hp=>?_);congr 1;refine y0m _ (fun s hs hsh=>?_);have:=hT.sy p hp s hs;rw[hsh]at this;simp only[qBb]at this;exact y3i e this.1 this.2) n
  have:=z4v hc X.toNat (by rw[z30 h0 h1];exact h);rwa [z30 h0 h1]at this
structure St where
  leaf:Bool
  num:Int
def ahd(N:Int->Bool)(F O:Int->Nat->Bool)(p:Pr)(t:Nat):Bool:=Q3s N (fun X=>F X t) t p.syms||(p.syms.all (Q35 N)&&O p.head t)
structure LLG(ps:List Pr)(R H:Nat)(N:Int->Bool)(F O:Int->Nat->Bool)(ch:Int->Nat->Int):Prop where
  tab:Q1b ps R H
  mx:∀p∈ps,p.syms.length<=6
  clN:∀p∈ps,p.syms.all (Q35 N)=true->N p.head=true
  clF:∀p∈ps,∀t,Q3s N (fun X=>F X t) t p.syms=true->F p.head t=true
  clO:∀p∈ps,∀a s b,p.syms=a++s::b->s.isH=true->∀t,(Q3s N (fun X=>F X t) t b||(b.all (Q35 N)&&O p.head t))=true->O s.num t=true
  leN:∀X,N X=true->NS ps H X=true
  leF:∀X t,F X t=true->FS ps N t H X=true
  st:O 0 R=true
  bF:∀X t,F X t=true->t<R
  one:∀(i:Nat) p,ps[i]? = some p->∀t,t<=R->ahd N F O p t=true->ch p.head t=i
  chr:∀X t,0<=ch X t->∃p,ps[(ch X t).toNat]? = some p/\p.head=X/\ahd N F O p t=true
def gTo(ps:List Pr)(ch:Int->Nat->Int)(t:Nat):Nat->List Sy->List St->Option (List Sy × List St)
  |0,_,_=>none
  |_+1,[],st=>some ([],st)
  | f + 1,s::k,st=>if s.isH=false then some (k,st++[⟨true,s.num⟩]) else
      if 0<=ch s.num t then(match ps[(ch s.num t).toNat]? with
        |some p=>gTo ps ch t f (p.syms++k) (st++[⟨false,ch s.num t⟩])
        |none=>none) else none
theorem z15{ps:List Pr}{ch:Int->Nat->Int}{t:Nat}:∀(f:Nat) (k:List Sy) (st:List St) (r:List Sy × List St),gTo ps ch t f k st=some r->∀g,f<=g->gTo ps ch t g k st=some r
  |0,_,_,_,h,_,_=>by cases h
  |f+1,[],st,r,h,g,hg=>by
    obtain⟨g,rfl⟩:∃k,g=k+1:=⟨g-1,by omega⟩;exact h
  |f+1,s::k,st,r,h,g,hg=>by
    obtain⟨g,rfl⟩:∃k,g=k+1:=⟨g-1,by omega⟩;unfold gTo at h ⊢;split
    · rename_i e;rw[qAb e]at h;exact h
    rename_i e;rw[qAa e]at h;split
    · rename_i e2
      rw[qAb e2]at h;cases hp:ps[(ch s.num t).toNat]? with
      |none=>rw[hp]at h;cases h
      |some p =>
        rw[hp]at h;exact z15 f _ _ r h g (by omega)
    rename_i e2;rw[qAa e2]at h;exact h
theorem y1y{ps:List Pr}{ch:Int->Nat->Int}{t:Nat}:∀(f:Nat) (k:List Sy) (st:List St) (r:List Sy × List St),gTo ps ch t f k st=some r->st.length<=r.2.length
  |0,_,_,_,h=>by cases h
  |f+1,[],st,r,h=>by cases h;exact qR _
  |f+1,s::k,st,r,h=>by
    unfold gTo at h;split at h
    · cases h;simp
    split at h
    · split at h
      · have:=y1y f _ _ r h;simp at this;omega
      cases h
    cases h
def szN:Nat->Nat
  |0=>0
  |n+1=>1+6*szN n
theorem y81:∀n,szN n<=szN (n+1)
  |0=>by decide
  |n+1=>by have:=y81 n;simp only[szN]at *;omega
theorem v1z{n m:Nat}(h:n<=m):szN n<=szN m:=by
  obtain⟨k,rfl⟩:∃k,m=n+k:=⟨m-n,by omega⟩;induction k with
  |zero=>exact qR _
  |succ k ih=>exact qCd (ih (by omega)) (y81 _)
section
variable {ps:List Pr}{R H:Nat}{N:Int->Bool}{F O:Int->Nat->Bool}{ch:Int->Nat->Int}
theorem LLG.nsN(g:LLG ps R H N F O ch):∀(n:Nat) (X:Int),NS ps n X=true->N X=true
  |0,_,h=>by cases h
  |n+1,X,h=>by
    unfold NS at h;rw[qAq]at h;obtain⟨p,hp,h⟩:=h;simp only[qAc,qAn,qAx]at h;rw[← h.1];refine g.clN p hp ?_;rw[qAn];intro s hs;simp only[Q35,qAc];exact⟨(h.2 s hs).1,g.nsN n _ (h.2 s hs).2⟩
theorem LLG.fsF(g:LLG ps R H N F O ch)(t:Nat):∀(n:Nat) (X:Int),FS ps N t n X=true->F X t=true
  |0,_,h=>by cases h
  |n+1,X,h=>by
    unfold FS at h;rw[qAq]at h;obtain⟨p,hp,h⟩:=h;simp only[qAc,qAx]at h;rw[← h.1];exact g.clF p hp t (z3z (g.fsF t n) _ h.2)
theorem x88{p:Pr}(h:p∈ps):∃i:Nat,ps[i]? = some p:=by
  obtain⟨i,hi,rfl⟩:=qAv h;exact⟨i,by simp⟩
theorem LLG.nul1(g:LLG ps R H N F O ch){n:Nat}{X:Int}(h:NS ps (n+1) X=true){t:Nat}(ht:t<=R)(ho:O X t=true) :
    ∃(i:Nat) (p:Pr),ps[i]? = some p/\p.head=X/\ch X t=i/\p.syms.length<=6/\∀s∈p.syms,s.isH=true/\NS ps n s.num=true/\O s.num t=true:=by
  unfold NS at h;rw[qAq]at h;obtain⟨p,hp,h⟩:=h;simp only[qAc,qAn,qAx]at h;obtain⟨i,hi⟩:=x88 hp;have j0:p.syms.all (Q35 N)=true:=by
    rw[qAn];intro s hs;simp only[Q35,qAc];exact⟨(h.2 s hs).1,g.nsN n _ (h.2 s hs).2⟩
  have ha:ahd N F O p t=true:=by unfold ahd;rw[j0,h.1,ho];simp
  refine⟨i,p,hi,h.1,?_,g.mx p hp,fun s hs=>⟨(h.2 s hs).1,(h.2 s hs).2,?_⟩⟩
  · rw[← h.1];exact g.one i p hi t ht ha
  obtain⟨a,b,e⟩:=qDw hs;refine g.clO p hp a s b e (h.2 s hs).1 t ?_;have hb:b.all (Q35 N)=true:=by
    rw[qAn]at j0 ⊢;intro x hx;exact j0 x (by rw[e];simp[hx])
  rw[hb,h.1,ho];simp
theorem z5d{i:Nat}{p:Pr}{s:Sy}{t:Nat}(hi:ps[i]? = some p)(hs:s.isH=true)(hc:ch s.num t=i)(f:Nat)(k:List Sy)(st:List St) :
    gTo ps ch t (f+1) (s::k) st=gTo ps ch t f (p.syms++k) (st++[⟨false,i⟩]):=by
  rw[gTo,qAa (by rw[hs];simp),hc,qAb (by omega),qAl,hi]
theorem z70{t B:Nat}:∀(l:List Sy),(∀s∈l,∃(c:Nat) (ns:List St),ns.length=c/\c<=B/\∀f k st,gTo ps ch t (c+f) (s::k) st=gTo ps ch t f k (st++ns)) ->
    ∃(c:Nat) (ns:List St),ns.length=c/\c<=l.length*B/\∀f k st,gTo ps ch t (c+f) (l++k) st=gTo ps ch t f k (st++ns)
  | [],_=>⟨0,[],rfl,by simp,fun f k st=>by simp⟩
  |s::l,h=>by
    obtain⟨c1,n1,h1,h2,h3⟩:=h s (by simp);obtain⟨c2,n2,h4,h5,h6⟩:=z70 l (fun x hx=>h x (by simp[hx]));refine⟨c1+c2,n1++n2,by simp[h1,h4],?_,fun f k st=>?_⟩
    · simp only[qAy,qDt,Nat.one_mul];omega
    rw[qCm,qAw,h3,h6,qAh]
theorem LLG.null(g:LLG ps R H N F O ch){t:Nat}(ht:t<=R):∀(n:Nat) (s:Sy),s.isH=true->NS ps n s.num=true->O s.num t=true ->
    ∃(c:Nat) (ns:List St),ns.length=c/\c<=szN n/\∀f k st,gTo ps ch t (c+f) (s::k) st=gTo ps ch t f k (st++ns)
  |0,_,_,h,_=>by cases h
  |n+1,s,hs,h,ho=>by
    obtain⟨i,p,hi,hp,hc,hl,hall⟩:=g.nul1 h ht ho;obtain⟨c,ns,h1,h2,h3⟩:=z70 (ps:=ps) (ch:=ch) (t:=t) (B:=szN n) p.syms (fun x hx=>g.null ht n x (hall x hx).1 (hall x hx).2.1 (hall x hx).2.2);refine⟨c+1,⟨false,i⟩::ns,by simp[h1],?_,fun f k st=>?_⟩
    · have:=qBv (szN n) hl
      simp only[szN];omega
    rw[show c+1+f=c+f+1 by omega,z5d hi hs hc,h3,qAh];rfl
def szF(B:Nat):Nat->Nat
  |0=>0
  |n+1=>1+6*B+szF B n
theorem LLG.first(g:LLG ps R H N F O ch){t:Nat}(ht:t<=R):∀(n:Nat) (s:Sy),s.isH=true->FS ps N t n s.num=true ->
    ∃(c:Nat) (ns:List St) (k':List Sy),ns.length=c/\c<=szF (szN H) n/\k'.length<=6*n/\∀f k st,gTo ps ch t (c+f+1) (s::k) st=some (k'++k,st++ns++[⟨true,t⟩])
  |0,_,_,h=>by cases h
  |n+1,s,hs,h=>by
    unfold FS at h;rw[qAq]at h;obtain⟨p,hp,h⟩:=h;simp only[qAc,qAx]at h;obtain⟨i,hi⟩:=x88 hp;have hb:=z3z (g.fsF t n) _ h.2;have ha:ahd N F O p t=true:=by unfold ahd;rw[hb];rfl
    have hc:=g.one i p hi t ht ha;rw[h.1]at hc;obtain⟨a,x,b,e,h1,h2⟩:=z1q h.2;have hl:=g.mx p hp;have j1:a.length+b.length+1<=6:=by rw[e]at hl;simp at hl;omega
    have j2:(if x.isH then F x.num t else x.num==(t:Int))=true:=by
      cases hx:x.isH
      · rw[hx]at h2;exact h2
      rw[hx]at h2;exact g.fsF t n _ h2
    obtain⟨c,ns,k1,k2,k3⟩:=z70 (ps:=ps) (ch:=ch) (t:=t) (B:=szN H) a (fun y hy=>by
      have j0:=(qAn.1 h1) y hy;simp only[Q35,qAc]at j0;refine g.null ht H y j0.1 (g.leN _ j0.2) ?_;obtain⟨a1,a2,ea⟩:=qDw hy;refine g.clO p hp a1 y (a2++x::b) (by rw[e,ea];simp) j0.1 t ?_;have:Q3s N (fun X=>F X t) t (a2++x::b)=true:=z22 x b j2 a2 (by
        rw[qAn]at h1 ⊢;intro z hz;exact h1 z (by rw[ea];simp[hz]))
      rw[this];rfl)
    have j3:c<=6*szN H:=qCd k2 (qBv _ (by omega));cases hx:x.isH
    · rw[hx]at h2
      simp only[qF,qAp,qAx]at h2;refine⟨c+1,⟨false,i⟩::ns,b,by simp[k1],by simp only[szF];omega,by omega,fun f k st=>?_⟩;rw[show c+1+f+1=c+(f+1)+1 by omega,z5d hi hs hc,e,qAh,k3,qAw,gTo,qAb hx,h2];simp
    rw[hx]at h2;simp only[qBb]at h2;obtain⟨c',ns',k',m1,m2,m3,m4⟩:=g.first ht n x hx h2;refine⟨c+1+c',⟨false,i⟩::(ns++ns'),k'++b,by simp[k1,m1];omega,by simp only[szF];omega,by simp;omega,fun f k st=>?_⟩;rw[show c+1+c'+f+1=c+(c'+f+1)+1 by omega,z5d hi hs hc,e,qAh,k3,qAw,m4];simp
def Q6j(N:Int->Bool)(F:Int->Nat->Bool)(R:Nat)(k:List Sy)(t:Nat):Bool:=Q3s N (fun X=>F X t) t k||(k.all (Q35 N)&&(t==R))
def Q4t(N:Int->Bool)(F O:Int->Nat->Bool)(R:Nat)(k:List Sy):Prop:=∀a s b,k=a++s::b->s.isH=true->∀t,Q6j N F R b t=true->O s.num t=true
theorem LLG.stk0(g:LLG ps R H N F O ch):Q4t N F O R [⟨true,0⟩]:=by
  intro a s b e hs t ht;cases a with
  |nil =>
    simp only[qBq,qAu]at e;obtain⟨rfl,rfl⟩:=e;simp only[Q6j,Q3s,List.all_nil,qBa,qCj,qAx]at ht;rw[ht];exact g.st
  |cons x a=>simp at e
theorem Q4t.tail{s:Sy}{k:List Sy}(h:Q4t N F O R (s::k)):Q4t N F O R k:=fun a x b e hx t ht=>h (s::a) x b (by rw[e];rfl) hx t ht
theorem x1e{α:Type}{l k a b:List α}{s:α}(h:l++k=a++s::b):(∃c,k=c++s::b)∨∃b',b=b'++k/\l=a++s::b':=by
  rcases List.append_eq_append_iff.1 h with⟨c,h1,h2⟩|⟨c,h1,h2⟩
  · exact .inl ⟨c,h2⟩
  cases c with
  |nil=>simp only[qBq]at h2;exact .inl ⟨[],h2.symm⟩
  |cons x c =>
    simp only[qAw,qAu]at h2;obtain⟨rfl,rfl⟩:=h2;exact .inr ⟨c,rfl,h1⟩
theorem LLG.stkOpen(g:LLG ps R H N F O ch){p:Pr}(hp:p∈ps){s:Sy}{k:List Sy}(hs:s.isH=true)(he:p.head=s.num)(h:Q4t N F O R (s::k)):Q4t N F O R (p.syms++k):=by
  intro a x b e hx t ht;rcases x1e e with⟨c,hc⟩|⟨b',rfl,hb⟩
  · exact h (s::c) x b (by rw[hc];rfl) hx t ht
  refine g.clO p hp a x b' hb hx t ?_;unfold Q6j at ht;rw[z2o]at ht;cases hq:Q3s N (fun X=>F X t) t b'
  · rw[hq]at ht
    simp only[qCj,qEk]at ht ⊢;have hw:b'.all (Q35 N)=true/\Q6j N F R k t=true:=by
      unfold Q6j;cases h1:b'.all (Q35 N)
      · rw[h1]at ht;simp at ht
      rw[h1]at ht;simp only[qBa]at ht;exact⟨rfl,ht⟩
    rw[hw.1,he,h [] s k rfl hs t hw.2];rfl
  rfl
theorem LLG.stkTo(g:LLG ps R H N F O ch){t:Nat}:∀(f:Nat) (k:List Sy) (st:List St) (r:List Sy × List St),gTo ps ch t f k st=some r->Q4t N F O R k->Q4t N F O R r.1
  |0,_,_,_,h,_=>by cases h
  |f+1,[],st,r,h,hk=>by cases h;exact hk
  |f+1,s::k,st,r,h,hk=>by
    unfold gTo at h;split at h
    · cases h;exact hk.tail
    rename_i hs;split at h
    · rename_i h0
      obtain⟨p,hp,he,_⟩:=g.chr _ _ h0;rw[hp]at h;exact g.stkTo f _ _ r h (g.stkOpen (qAd hp) (by simpa using hs) he hk)
    cases h
def Q2u(H n:Nat):Nat:=n*szN H+szF (szN H) H+1
theorem LLG.grows(g:LLG ps R H N F O ch){t:Nat}(ht:t<=R)(k:List Sy)(hk:Q4t N F O R k)(hw:Q6j N F R k t=true)(st:List St) :
    ∃r,gTo ps ch t (Q2u H k.length) k st=some r/\r.1.length<=k.length+6*H/\r.2.length<=st.length+Q2u H k.length:=by
  have j1:∀(a:List Sy) (x:List Sy),k=a++x->a.all (Q35 N)=true->Q6j N F R x t=true->∃(c:Nat) (ns:List St),ns.length=c/\c<=a.length*szN H/\∀f k st,gTo ps ch t (c+f) (a++k) st=gTo ps ch t f k (st++ns):=by
    intro a x e ha hx;refine z70 a (fun y hy=>?_);have j0:=(qAn.1 ha) y hy;simp only[Q35,qAc]at j0;refine g.null ht H y j0.1 (g.leN _ j0.2) ?_;obtain⟨a1,a2,ea⟩:=qDw hy;refine hk a1 y (a2++x) (by rw[e,ea];simp) j0.1 t ?_;have j2:a2.all (Q35 N)=true:=by
      rw[qAn]at ha ⊢;intro z hz;exact ha z (by rw[ea];simp[hz])
    unfold Q6j at hx ⊢;rw[z2o,qEk,j2];simp only[qBa];rw[Bool.or_assoc,hx];simp
  unfold Q6j at hw;cases hb:Q3s N (fun X=>F X t) t k
  · rw[hb]at hw
    simp only[qCj,qAc,qAx]at hw;obtain⟨hw1,rfl⟩:=hw;obtain⟨c,ns,h1,h2,h3⟩:=j1 k [] (by simp) hw1 (by simp[Q6j,Q3s]);refine⟨([],st++ns),?_,by simp,by simp only[qP,h1,Q2u];omega⟩;have h4:=h3 1 [] st;rw[qAt]at h4;refine z15 (c+1) k st _ (by rw[h4];rfl) _ (by unfold Q2u;omega)
  obtain⟨a,s,b,rfl,ha,hs⟩:=z1q hb;obtain⟨c,ns,h1,h2,h3⟩:=j1 a (s::b) rfl ha (by
    unfold Q6j;have:Q3s N (fun X=>F X t) t ([]++s::b)=true:=z22 s b hs [] rfl;rw[qBq]at this;rw[this];rfl)
  have j3:a.length*szN H<=(a++s::b).length*szN H:=qBv _ (by simp);cases hx:s.isH
  · rw[hx]at hs
    refine⟨(b,st++ns++[⟨true,s.num⟩]),?_,by simp;omega,by simp only[qP,h1,Q2u,qAf]at *;omega⟩;refine z15 (c+1) _ st _ ?_ _ (by unfold Q2u;omega);rw[h3,gTo,qAb hx]
  rw[hx]at hs;simp only[qBb]at hs;obtain⟨c',ns',k',m1,m2,m3,m4⟩:=g.first ht H s hx (g.leF _ _ hs);refine⟨(k'++b,st++ns++ns'++[⟨true,t⟩]),?_,by simp;omega,by simp only[qP,h1,m1,Q2u,qAf]at *;omega⟩;refine z15 (c+(c'+0+1)) _ st _ ?_ _ (by unfold Q2u;omega);rw[h3];exact m4 0 b (st++ns)
end
def St.cells(s:St):List Value:=[.bool s.leaf,.int .i8 s.num]
abbrev StOwn(w:World)(base:Nat)(v:Value)(l:List St):Prop:=w.ownsRow base 141 2 v l.length (Q00 St.cells l)
theorem infoSt:(Tryz.prog.info? 141).map (fun i=>(i.zero,i.size,i.bytes))=some (some (.agg #[.bool false,.int .i8 0]),2,2):=by kernel_rfl
theorem infoSt':∃i,Tryz.prog.info? 141=some i/\i.zero=some (.agg #[.bool false,.int .i8 0])/\i.size=2/\i.bytes=2:=nfoE infoSt
theorem z6x{α:Type}(f:α->List Value)(l:List α)(x:α):Q00 f (l++[x])=Q00 f l++f x:=by simp[Q00]
structure GA(w:World)(b B:Nat)(R H:Int)(vp vg vk vs:Value)(k:List Sy)(st:List St):Prop where
  lo:B<=b
  blk:w.heap[b]? = some (.cells #[.int .i64 R,.int .i64 H,vp,vg,vk,vs] 74 (0,0))
  ks:SyOwn w B vk k.reverse
  ss:StOwn w B vs st
  kb:vk.ownBlock≠some b
  sb:vs.ownBlock≠some b
  ap:∀j,vk.ownBlock=some j->vs.ownBlock≠some j
section
variable {w W w1:World}{b B:Nat}{R H:Int}{vp vg vk vs v':Value}{k:List Sy}{st:List St}
theorem GA.lt(h:GA w b B R H vp vg vk vs k st):b<w.heap.size:=z0j h.blk
theorem GA.cell(h:GA w b B R H vp vg vk vs k st)(o:Nat):w.cell? ⟨b,o,none⟩=#[.int .i64 R,.int .i64 H,vp,vg,vk,vs][o]? := Q0b h.blk o
theorem GA.frozen(h:GA w b B R H vp vg vk vs k st)(o:Nat):w.frozen? ⟨b,o,none⟩=false:=Q0g h.blk o
theorem GA.fresh(h:GA w b B R H vp vg vk vs k st)(hf:Q0a w W):GA W b B R H vp vg vk vs k st :=
  ⟨h.lo,hf.at h.blk (fun x=>x),z0c h.ks (fun g hg=>hf.block g (h.ks.lt g hg).2 (fun x=>x)),z0c h.ss (fun g hg=>hf.block g (h.ss.lt g hg).2 (fun x=>x)),h.kb,h.sb,h.ap⟩
theorem GA.grown5(h:GA w b B R H vp vg vk vs k st)(hW:Q0a w W)(hg:W.grownBy w1 vs.ownBlock):w1.heap[b]? = some (.cells #[.int .i64 R,.int .i64 H,vp,vg,vk,vs] 74 (0,0)):=by
  have j0:=hW.at h.blk (fun x=>x);rw[hg.block b (z0j j0) (fun e=>h.sb e.symm)];exact j0
theorem GA.grown4(h:GA w b B R H vp vg vk vs k st)(hW:Q0a w W)(hg:W.grownBy w1 vk.ownBlock):w1.heap[b]? = some (.cells #[.int .i64 R,.int .i64 H,vp,vg,vk,vs] 74 (0,0)):=by
  have j0:=hW.at h.blk (fun x=>x);rw[hg.block b (z0j j0) (fun e=>h.kb e.symm)];exact j0
theorem GA.step(h:GA w b B R H vp vg vk vs k st)(hW:Q0a w W){x:St}(hown:w1.ownsRow B 141 2 v' (st.length+1) (Q00 St.cells st++x.cells))(hg:W.grownBy w1 vs.ownBlock)
    (hb:∀j,v'.ownBlock=some j->vs.ownBlock=some j∨W.heap.size<=j) :
    GA (w1.setCell ⟨b,5,none⟩ v') b B R H vp vg vk v' k (st++[x])/\UpB B w (w1.setCell ⟨b,5,none⟩ v'):=by
  have h1:=h.grown5 hW hg;have j0:=h.lt;have j1:=hW.size;have hv'b:v'.ownBlock≠some b:=fun e=>by
    rcases hb b e with h2|h2
    · exact h.sb h2
    omega
  refine⟨⟨h.lo,?_,?_,?_,h.kb,hv'b,?_⟩,?_⟩
  · rw[zhs h1 5 v'];rfl
  · refine z0c h.ks (fun g hg'=>?_)
    have hl:=h.ks.lt g hg';rw[Proofs.YtcpceafmlgaodaaGreat.heap_setCell_other _ (by intro e;exact h.kb (by rw[hg'];exact qDn some e)),hg.block g (by omega) (fun e=>h.ap g hg' e.symm),hW.block g hl.2 (fun x=>x)]
  · show World.ownsRow _ _ _ _ _ (st++[x]).length _
    rw[z6x,qP,qAf];exact z0c hown (fun g hg'=>by rw[Proofs.YtcpceafmlgaodaaGreat.heap_setCell_other _ (by intro e;exact hv'b (by rw[hg'];exact qDn some e))])
  · intro j hj hj'
    rcases hb j hj' with h2|h2
    · exact h.ap j hj h2
    have:=(h.ks.lt j hj).2;omega
  have m1:UpB B w W:=hW.mono (fun _ _ x=>x.elim);exact(m1.grown hg (fun j hj _=>(h.ss.lt j hj).1)).setCell (fun _=>h.lo) _
theorem GA.push(h:GA w b B R H vp vg vk vs k st)(hW:Q0a w W){x:Sy}(hown:w1.ownsRow B 69 2 v' (k.reverse.length+1) (Q00 Sy.cells k.reverse++x.cells))(hg:W.grownBy w1 vk.ownBlock)
    (hb:∀j,v'.ownBlock=some j->vk.ownBlock=some j∨W.heap.size<=j) :
    GA (w1.setCell ⟨b,4,none⟩ v') b B R H vp vg v' vs (x::k) st/\UpB B w (w1.setCell ⟨b,4,none⟩ v'):=by
  have h1:=h.grown4 hW hg;have j0:=h.lt;have j1:=hW.size;have hv'b:v'.ownBlock≠some b:=fun e=>by
    rcases hb b e with h2|h2
    · exact h.kb h2
    omega
  refine⟨⟨h.lo,?_,?_,?_,hv'b,h.sb,?_⟩,?_⟩
  · rw[zhs h1 4 v'];rfl
  · show World.ownsRow _ _ _ _ _ (x::k).reverse.length _
    rw[List.reverse_cons,z6x,qP,qAf];exact z0c hown (fun g hg'=>by rw[Proofs.YtcpceafmlgaodaaGreat.heap_setCell_other _ (by intro e;exact hv'b (by rw[hg'];exact qDn some e))])
  · refine z0c h.ss (fun g hg'=>?_)
    have hl:=h.ss.lt g hg';rw[Proofs.YtcpceafmlgaodaaGreat.heap_setCell_other _ (by intro e;exact h.sb (by rw[hg'];exact qDn some e)),hg.block g (by omega) (fun e=>h.ap g e.symm hg'),hW.block g hl.2 (fun x=>x)]
  · intro j hj hj'
    rcases hb j hj with h2|h2
    · exact h.ap j h2 hj'
    have:=(h.ss.lt j hj').2;omega
  have m1:UpB B w W:=hW.mono (fun _ _ x=>x.elim);exact(m1.grown hg (fun j hj _=>(h.ks.lt j hj).1)).setCell (fun _=>h.lo) _
theorem y6v{e:TypeId}{size n cap:Nat}{ao:Option Addr}{xs ys:List Value}(h:w.ownsRow B e size (.slice ao (n+1) cap) (n+1) (xs++ys))(hy:ys.length=size):w.ownsRow B e size (.slice ao n cap) n xs:=by
  obtain⟨h1,h2⟩:=h;have hx:xs.length=n*size:=by
    rw[qP,hy,qDt,Nat.one_mul]at h1;omega
  refine⟨hx,?_⟩;rcases h2 with⟨_,h0⟩|⟨g,cap',cur,hv,hb,hg,hnc,hcm,hcs,ht⟩
  · omega
  rw[qI]at hv;obtain⟨rfl,_,rfl⟩:=hv;refine .inr ⟨g,cap,cur,rfl,hb,hg,by omega,hcm,hcs,?_⟩;have e1:(xs++ys).take (n*size)=xs:=by rw[List.take_append_of_le_length (by omega),qCh (by omega)]
  rw[← ht,qEf,qDq (by rw[qDt];omega)]at e1;exact e1
theorem GA.pop{ao:Option Addr}{cap:Nat}{s:Sy}(h:GA w b B R H vp vg (.slice ao (k.length+1) cap) vs (s::k) st) :
    GA (w.setCell ⟨b,4,none⟩ (.slice ao k.length cap)) b B R H vp vg (.slice ao k.length cap) vs k st/\UpB B w (w.setCell ⟨b,4,none⟩ (.slice ao k.length cap)):=by
  have j0:=h.ks;unfold SyOwn at j0;rw[List.reverse_cons,z6x,qP,qAf,qDs]at j0;have hp:=y6v j0 rfl;have j1:Value.ownBlock (.slice ao k.length cap)=Value.ownBlock (.slice ao (k.length+1) cap):=by cases ao<;>rfl
  refine⟨⟨h.lo,?_,?_,?_,by rw[j1];exact h.kb,h.sb,fun j hj=>h.ap j (by rw[j1]at hj;exact hj)⟩,(mRf _ w).setCell (fun _=>h.lo) _⟩
  · rw[zhs h.blk 4 _];rfl
  · show World.ownsRow _ _ _ _ _ k.reverse.length _
    rw[qDs];exact z0c hp (fun g hg'=>by rw[Proofs.YtcpceafmlgaodaaGreat.heap_setCell_other _ (by intro e;exact h.kb (by rw[← j1,hg'];exact qDn some e))])
  exact z0c h.ss (fun g hg'=>by rw[Proofs.YtcpceafmlgaodaaGreat.heap_setCell_other _ (by intro e;exact h.sb (by rw[hg'];exact qDn some e))])
end
end Go.Proofs.YtcpceafmlgaodaaGreat
