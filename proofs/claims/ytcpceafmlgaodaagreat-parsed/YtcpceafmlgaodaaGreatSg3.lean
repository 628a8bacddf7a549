import Derived.Test.YtcpceafmlgaodaaGreatKc9
namespace Go.Proofs.YtcpceafmlgaodaaGreat
open Go.RowKit
set_option maxRecDepth 100000
set_option maxHeartbeats 16000000
set_option linter.unusedVariables false
set_option linter.unusedSimpArgs false
structure Cl where
  h:Int
  t:Int
  a:Int
  b:Int
def Cl.cells(c:Cl):List Value:=[.int .i64 c.h,.int .i64 c.t,.int .i64 c.a,.int .i64 c.b]
def Q6k(n t:Int):List Int->List Cl
  | []=>[]
  |f::r=>(r.map fun s=>⟨n,t,f,s⟩)++Q6k n t r
def clT(z:List(Pr × List Bool))(n R:Nat):Nat->Nat->List Cl
  |0,_=>[]
  |f+1,t=>if t<=R then Q6k n t(ovL n t z 0)++clT z n R f(t+1)else []
def clN(z:List(Pr × List Bool))(R H:Nat):Nat->Nat->List Cl
  |0,_=>[]
  |f+1,n=>if n<H then clT z n R(R+2)0++clN z R H f(n+1)else []
def Q6e(z:List(Pr × List Bool))(R H:Nat):List Cl:=clN z R H(H+1)0
theorem y5c(n t:Int):∀l:List Int,(Q6k n t l).length<=l.length*l.length
  | []=>by simp[Q6k]
  |f::r=>by
    have ih:=y5c n t r;simp only[Q6k,List.length_append,List.length_map,List.length_cons];have:(r.length+1)*(r.length+1)=r.length*r.length+2*r.length+1:=by
      rw[Nat.add_mul,Nat.mul_add];omega
    omega
theorem x95(z:List(Pr × List Bool))(hz:z.length<=1000)(n t:Int):(Q6k n t(ovL n t z 0)).length<=1000000:=by
  have h1:=y5c n t(ovL n t z 0);have h2:=y6g n t z 0;have h3:(ovL n t z 0).length*(ovL n t z 0).length<=1000*1000:=Nat.mul_le_mul(by omega)(by omega);omega
theorem x2t(z:List(Pr × List Bool))(hz:z.length<=1000)(n R:Nat):∀(f t:Nat),(clT z n R f t).length<=f*1000000
  |0,_=>by simp[clT]
  |f+1,t=>by
    unfold clT;have h1:=x95 z hz n t;have h2:=x2t z hz n R f(t+1);split
    · rw[List.length_append];omega
    simp
theorem y6q(z:List(Pr × List Bool))(hz:z.length<=1000)(R H:Nat)(hR:R<=1000):∀(f n:Nat),(clN z R H f n).length<=f*1002000000
  |0,_=>by simp[clN]
  |f+1,n=>by
    unfold clN;have h1:=x2t z hz n R(R+2)0;have h2:=y6q z hz R H hR f(n+1);split
    · rw[List.length_append];omega
    simp
abbrev Q67(w:World)(base:Nat)(v:Value)(l:List Cl):Prop:=w.ownsRow base 94 4 v l.length(Q01 Cl.cells l)
theorem infoCl:(Tryz.prog.info? 94).map(fun i=>(i.zero,i.size,i.bytes))=some(some(.agg#[.int .i64 0,.int .i64 0,.int .i64 0,.int .i64 0]),4,32):=by kernel_rfl
theorem infoCl':∃i,Tryz.prog.info? 94=some i/\i.zero=some(.agg#[.int .i64 0,.int .i64 0,.int .i64 0,.int .i64 0])/\i.size=4/\i.bytes=32:=by
  have h:=infoCl;cases hq:Tryz.prog.info? 94 with
  |none=>simp[hq]at h
  |some i=>simp[hq]at h;exact⟨i,rfl,h.1,h.2.1,h.2.2⟩
theorem z4i{w:World}{base:Nat}{g n cap:Nat}{l:List Int}(h:Q2c w base(.slice(some⟨g,0,none⟩)n cap)l)(i:Nat)(hi:i<l.length):w.cell?⟨g,i,none⟩=some(.int .i64 l[i]):=by
  have:=h.cells(g:=g)rfl i(.int .i64 l[i])(by simp[hi]);rwa [Addr.add_mid,Nat.zero_add]at this
theorem y54(w:World)(R H:Nat)(vp:Value)(ps:List PV)(hp:Q3p w w.heap.size vp ps)(hps:ps.length<=1000)(hH:H<=1000)(hR:R<=1000)(hok:∀x∈Q34(Q0k ps)(Q0x R H),x.ok) :
    Calls Tryz.prog 21#[.agg#[.int .i64 R,.int .i64 H,vp]]w fun e w'=>∃v,e=.returned v/\Q0a w w'/\Q67 w' w.heap.size v(Q6e((Q0k ps).zip(Q0q(Q34(Q0k ps)(Q0x R H))(Q0k ps)))R H):=by
  obtain⟨i0,hi0,iz0,iz1,iz2⟩:=infoCl';obtain⟨pa,pc,hvp⟩:=z0d hp.row.own;subst hvp;have HP:=hid hp;have FI:=hid(y4f(w.alloc(.cells#[.int .i64 R,.int .i64 H,.slice pa ps.length pc]41(0,0)))R H(.slice pa ps.length pc)ps((hp.kept(qR _)((mRf(fun _=>False)w).alloc _)(fun _ _ x=>x)).up(by simp))hps hH hR);generalize Q34(Q0k ps)(Q0x R H)=AL at FI hok;have jm:((Q0k ps).zip(Q0q AL(Q0k ps))).length<=1000:=by simp[Q0q,Q0k];omega
  have jo:(Q0q AL(Q0k ps)).length=ps.length:=by simp[Q0q,Q0k]
  have jp:∀a∈Q0q AL(Q0k ps),a.length=9:=fun a ha=>by
    obtain⟨p,_,rfl⟩:=List.mem_map.1 ha;exact z3d hok _ _
  have k5:=y6q _ jm R H hR(H+1)0;generalize hRES:Q6e((Q0k ps).zip(Q0q AL(Q0k ps)))R H=RES;have j1:=hid hRES;have ju:RES.length<=1003002000000:=by
    rw[← hRES];unfold Q6e;omega
  clear hp hRES k5 hok;go_enter Tryz.func21,Tryz.ntmps21
  go_wp2_with(first
    |(go_at_call 51;refine(z6f w1 b R H(.slice pa ps.length pc)vh ps AL hF1 hps).mono ?_;rintro e w2⟨va,rfl,hf2,hoa⟩)
    |(go_at_call 50;refine FI.out.mono ?_;rintro e w1⟨b,vh,rfl,hf1,hF1⟩))
  have j2:=hid(hf2.at(hf1.at(z0a _ _)(fun x=>x))(fun x=>x));have j8:Hid(Q0a w w2):=Mod.trans((mRf _ w).alloc _)(hf1.trans hf2);have kh:=hid hoa;have PO:=hid(fun(W:World)(hW:Q0a w2 W)(n t:Nat)=>z6h W R H(.slice pa ps.length pc)ps((HP.out.kept(qR _)(j8.out.trans hW)(fun _ _ x=>x)).up((j8.out.trans hW).size))hps va(Q0q AL(Q0k ps))_(z0c hoa(fun g hg=>hW.block g(hoa.lt g hg).2(fun x=>x)))jo jp(n:Int)(t:Int));have ke:=hf2.size;have jv:=j8.out.size;generalize(Q0k ps).zip(Q0q AL(Q0k ps))=z at j1 jm PO;clear hoa hF1 hf1 hf2 FI jo jp;go_loopw [5,6,7,8,9,10,12,36,46](fun x5 x6 _ _ _ _ _ _ _ wr=>∃(n:Nat)(acc:List Cl),x6=.int .i64 n/\n<=H/\acc++clN z R H(H+1-n)n=RES/\Q67 wr w2.heap.size x5 acc/\Q0a w2 wr)
      (fun _ x _ _ _ _ _ _ _ _=>H+1-(intOf x).toNat)
  case atStart=>exact⟨0,[],rfl,by omega,j1.out,World.ownsRow_nil _ _ _ _,mRf _ _⟩
  obtain⟨n,acc,rfl,hn,hres,hown,hfr⟩:=hrel;have k0:=hid(Q2a(B:=H+1)n(by omega));have jh:=hid hfr;have c1:=Q0b(hfr.at j2.out(fun x=>x))1;have c0:=Q0b(hfr.at j2.out(fun x=>x))0;simp at c1 c0;obtain⟨ro,rc,hro⟩:=z0d hown;have HO:=hid hown;subst hro;clear hown hfr;by_cases hlt:n<H
  · have kr:(n:Int)<(H:Int):=by omega
    rw[show H+1-n=(H-n)+1 by omega]at hres;unfold clN at hres;rw[if_pos hlt]at hres;have ka:=hid hres;clear hres;obtain⟨wn,hwn⟩:∃wn,wn=wr:=⟨_,rfl⟩;subst hwn;go_wp2;go_loopw [5,7,8,9,10,12,36,46](fun x5 x7 _ _ _ _ _ _ wr=>∃(t:Nat)(acc:List Cl),x7=.int .i64 t/\t<=R+1/\acc++(clT z n R(R+2-t)t++clN z R H(H-n)(n+1))=RES/\Q67 wr w2.heap.size x5 acc/\Q0a w2 wr)
        (fun _ x _ _ _ _ _ _ _=>R+2-(intOf x).toNat)
    case atStart=>exact⟨0,acc,rfl,by omega,ka.out,HO.out,jh.out⟩
    obtain⟨t,acc,rfl,ht,hres,hown,hfr⟩:=hrel;have k9:=hid(Q2a(B:=R+2)t(by omega));have j3:=hid hfr;have kn:=z0j(hfr.at j2.out(fun x=>x));have c1:=Q0b(hfr.at j2.out(fun x=>x))1;have c0:=Q0b(hfr.at j2.out(fun x=>x))0;have c2:=Q0b(hfr.at j2.out(fun x=>x))2;simp at c1 c0 c2;obtain⟨so,sc,hso⟩:=z0d hown;have j7:=hid hown;subst hso;clear hown hfr;by_cases hlt2:t<=R
    · have ks:(t:Int)<=(R:Int):=by omega
      rw[show R+2-t=(R+1-t)+1 by omega]at hres;unfold clT at hres;rw[if_pos hlt2,List.append_assoc]at hres;obtain⟨wt,hwt⟩:∃wt,wt=wr:=⟨_,rfl⟩;subst hwt;have jl:=hid(PO.out wt j3.out n t);generalize hov:ovL(n:Int)(t:Int)z 0=able at hres jl;have k1:able.length<=1000:=by rw[← hov];have:=y6g n t z 0;omega
      generalize hREST:clT z n R(R+1-t)(t+1)++clN z R H(H-n)(n+1)=REST at hres;have j4:=hid hREST;clear hREST;have jc:=hid hres;clear hres hov;have k8:=j3;go_wp2_with(first
        |(go_at_call 52;refine jl.out.mono ?_;rintro e w3⟨v8,rfl,hf3,ho8⟩;obtain⟨a8,c8,e8⟩:=z0d ho8;subst e8;have k6:=hid ho8;have jw:=hid(j3.out.trans hf3);have k4:=hid(z0c j7.out(fun g hg=>hf3.block g(j7.out.lt g hg).2(fun x=>x)));have k3:Hid(∀k,(Value.slice so acc.length sc).ownBlock=some k->(Value.slice a8 able.length c8).ownBlock≠some k):=(fun k hk e=>by have q1:=(j7.out.lt k hk).2;have q2:=(ho8.lt k e).1;omega);clear ho8 hf3)
        |(refine wpList_load_row rfl 41 _ rfl w.heap.size rfl _#[.int .i64 R,.int .i64 H,.slice pa ps.length pc]_ _(j3.out.at j2.out(fun x=>x))Tryz.underlying41 rfl Q9r ?_))
      clear c0 c1 c2;go_loopw [5,9,10,12,36,46](fun x5 _ _ _ x36 _ wr=>∃(i:Nat)(acc:List Cl),x36=.int .i64 i/\i<=able.length/\acc++(Q6k n t(able.drop i)++REST)=RES/\Q67 wr w2.heap.size x5 acc/\Q2c wr wt.heap.size(.slice a8 able.length c8)able/\(∀k,x5.ownBlock=some k->(Value.slice a8 able.length c8).ownBlock≠some k)/\Q0a w2 wr)
          (fun _ _ _ _ x _ _=>1001-(intOf x).toNat)
      case atStart=>exact⟨0,acc,rfl,by omega,jc.out,k4.out,k6.out,k3.out,jw.out⟩
      obtain⟨i,acc,rfl,hi,hres,hown,ho8,hdi,hfr⟩:=hrel;have jj:=hid(Q2a(B:=1001)i(by omega));have ja:=hid hfr;have je:=hid hown;have j6:=hid ho8;have j5:=hid hdi;obtain⟨qo,qc,hqo⟩:=z0d hown;subst hqo;clear hown hfr hdi;by_cases hlti:i<able.length
      · have ko:(i:Int)<(able.length:Int):=by omega
        obtain⟨g8,c8',hv8⟩:=Q1d.ownsRow_form ho8(by omega);rw[qI]at hv8;obtain⟨rfl,_,rfl⟩:=hv8;have jy:able.length<=c8:=by
          rcases ho8.2 with⟨h1,_⟩|⟨g',cap',cur,h1,_,_,h4,_⟩
          · cases h1
          rw[qI]at h1;omega
        have kg:c8<=2 ^ 63-1:=by
          rcases ho8.2 with⟨h1,_⟩|⟨g',cap',cur,h1,_,_,_,h5,_⟩
          · cases h1
          rw[qI]at h1;unfold maxLen at h5;omega
        have d1:=z4i ho8 i hlti;rw[qC hlti]at hres;unfold Q6k at hres;rw[List.append_assoc]at hres;generalize able[i]=fst at hres d1;generalize hR2:Q6k n t(able.drop(i+1))++REST=REST2 at hres;have ji:=hid hR2;have j9:=hid hres;clear hres ho8 hR2;obtain⟨wi,hwi⟩:∃wi,wi=wr:=⟨_,rfl⟩;subst hwi;rcases(show c8=i+1∨¬c8=i+1 by omega)with hc8|hc8
        · have jn:able.length=i+1:=by omega
          have HE:Hid(acc++REST2=RES):=by
            have:=j9.out;rw[List.drop_eq_nil_of_le(by omega)]at this;unfold Hid;simpa using this
          have h0:able.length-(i+1)=0:=by omega
          subst hc8;have km:=hid jn;clear jn;go_wp2;go_loopw [5,12,46](fun x5 _ x46 wr=>x5=.slice qo acc.length qc/\x46=.int .i64 0/\wr=wi)
              (fun _ _ _ _=>0)
          case atStart=>exact⟨rfl,rfl,rfl⟩
          obtain⟨rfl,rfl,hwr⟩:=hrel;subst hwr;go_wp2;go_roundw
          case rel=>exact⟨i+1,acc,by go_num,by omega,by rw[ji.out];exact HE.out,je.out,j6.out,j5.out,ja.out⟩
          exact jj.out
        have kk:¬c8-(i+1)=0:=by omega
        go_wp2;go_loopw [5,12,46](fun x5 _ x46 wr=>∃(j:Nat)(acc:List Cl),x46=.int .i64 j/\j<=able.length-(i+1)/\acc++((((able.drop(i+1)).drop j).map fun s=>(⟨n,t,fst,s⟩:Cl))++REST2)=RES/\Q67 wr w2.heap.size x5 acc/\Q2c wr wt.heap.size(.slice(some⟨g8,0,none⟩)able.length c8)able/\(∀k,x5.ownBlock=some k->(Value.slice(some⟨g8,0,none⟩)able.length c8).ownBlock≠some k)/\Q0a w2 wr)
            (fun _ _ x _=>1001-(intOf x).toNat)
        case atStart=>exact⟨0,acc,rfl,by omega,j9.out,je.out,j6.out,j5.out,ja.out⟩
        obtain⟨j,acc,rfl,hj,hres,hown,ho8,hdi,hfr⟩:=hrel;have k2:=hid(Q2a(B:=1001)j(by omega));have jg:=hid hfr;have jb:=hid hown;have j0:=hid ho8;have jd:=hid hdi;have jk:acc.length<=RES.length:=by rw[← hres];simp
        obtain⟨qo,qc,hqo⟩:=z0d hown;subst hqo;have kp:=hfr.size;clear hown hfr hdi;by_cases hltj:j<able.length-(i+1)
        · have kd:(j:Int)<((able.length-(i+1):Nat):Int):=by omega
          have k7:j<(able.drop(i+1)).length:=by simp;omega
          rw[qC k7,List.map_cons]at hres;have d2:=z4i ho8(i+1+j)(by omega);have jx:(able.drop(i+1))[j]=able[i+1+j]'(by omega):=by simp
          rw[jx]at hres;generalize able[i+1+j]'(by omega)=snd at hres d2;have jf:=hid hres;clear hres ho8;go_wp2_with(first
            |(at_builtin;refine z0g _ rfl _ _ 55 rfl w2.heap.size 94 i0 _ 4 32 Tryz.underlying55 hi0 iz0 iz1 iz2 rfl(by decide)_ _ _ rfl(jb.out.alloc _)⟨wr.heap.size,0,none⟩1 1 [.int .i64 n,.int .i64 t,.int .i64 fst,.int .i64 snd]rfl rfl(z0l rfl)(by intro u hu;simp at hu;rcases hu with rfl|rfl|rfl|rfl<;>rfl)(by unfold maxLen;omega)(by omega)(by simp;omega)?_))
          intro v' w5 hown2 hgrow hblk;have jt:Hid(Q0a w2 w5):=Mod.grown(S:=fun _=>False)(jg.out.alloc _)hgrow(fun k hk hlt=>by have:=(jb.out.lt k hk).1;omega);have jr:Hid(Q2c w5 wt.heap.size(.slice(some⟨g8,0,none⟩)able.length c8)able):=z0c(j0.out.alloc _)(fun g hg=>hgrow.block g((j0.out.alloc _).lt g hg).2(fun e=>jd.out g e.symm hg));have jq:Hid(∀k,v'.ownBlock=some k->(Value.slice(some⟨g8,0,none⟩)able.length c8).ownBlock≠some k):=fun k hk e=>by
            rcases hblk k hk with q1|q1
            · exact jd.out k q1 e
            have q2:=(j0.out.lt k e).2;first|omega|(simp at q1;omega)
          have jz:=hid hown2;clear hown2 hgrow hblk;go_wp2;go_roundw
          case rel =>
            refine⟨j+1,acc++[⟨n,t,fst,snd⟩],by go_num,by omega,?_,?_,jr.out,jq.out,jt.out⟩
            · rw[List.append_assoc];exact jf.out
            unfold Q67;rw[z0y,List.length_append,List.length_singleton];exact jz.out
          exact k2.out
        have kj:j=able.length-(i+1):=by omega
        have kq:¬(j:Int)<((able.length-(i+1):Nat):Int):=by omega
        rw[List.drop_eq_nil_of_le(by simp;omega),List.map_nil,List.nil_append]at hres;have jf:=hid hres;clear hres ho8;go_wp2;go_roundw
        case rel=>exact⟨i+1,acc,by go_num,by omega,by rw[ji.out];exact jf.out,jb.out,j0.out,jd.out,jg.out⟩
        exact jj.out
      have js:i=able.length:=by omega
      have ki:¬(i:Int)<(able.length:Int):=by omega
      rw[js,List.drop_length]at hres;have j9:Hid(acc++REST=RES):=by unfold Hid;simpa [Q6k]using hres
      clear hres ho8;go_wp2;go_roundw
      case rel=>exact⟨t+1,acc,by go_num,by omega,by rw[show R+2-(t+1)=R+1-t by omega,j4.out];exact j9.out,je.out,ja.out⟩
      exact k9.out
    have kc:t=R+1:=by omega
    have kf:¬(t:Int)<=(R:Int):=by omega
    rw[show R+2-t=1 by omega]at hres;unfold clT at hres;rw[if_neg hlt2,List.nil_append]at hres;have jc:=hid hres;clear hres;go_wp2;go_roundw
    case rel=>exact⟨n+1,acc,by go_num,by omega,by rw[show H+1-(n+1)=H-n by omega];exact jc.out,j7.out,j3.out⟩
    exact k0.out
  have kb:n=H:=by omega
  have kl:¬(n:Int)<(H:Int):=by omega
  rw[show H+1-n=1 by omega]at hres;unfold clN at hres;rw[if_neg hlt,List.append_nil]at hres;subst hres;go_wp2;go_ret;exact⟨_,rfl,j8.out.trans jh.out,z0f HO.out jv⟩
def Q3c(s:ByteArray):List Cl:=Q6e((Q0r(Q0c s).1).zip(Q0q(Q7u s)(Q0r(Q0c s).1)))(Q0g(Q0c s).1).length(Q0i(Q0c s).1).length
section
variable{ps:List Pr}{R H:Nat}{hs:List Hd}
end
theorem isAggI(w:World):(isAgg 3).run Tryz.prog w=.ok false w:=by
  unfold isAgg;rw[Sem.run_bind,run_underlying Tryz.underlying3];rfl
theorem partI(xs:Array Value)(i:Nat)(v:Value)(h:xs[i]? = some v)(w:World):(part 3 xs i).run Tryz.prog w=.ok v w:=by
  simp[part,isAggI,h]
def NS(ps:List Pr):Nat->Int->Bool
  |0,_=>false
  |n+1,X=>ps.any fun p=>p.head==X&&p.syms.all fun s=>s.isH&&NS ps n s.num
def Q30(N:Int->Bool)(F:Int->Bool)(t:Nat):List Sy->Bool
  | []=>false
  |s::l=>(if s.isH then F s.num else s.num==(t:Int))||(s.isH&&N s.num&&Q30 N F t l)
def FS(ps:List Pr)(N:Int->Bool)(t:Nat):Nat->Int->Bool
  |0,_=>false
  |n+1,X=>ps.any fun p=>p.head==X&&Q30 N(FS ps N t n)t p.syms
def Q4a(N:Int->Bool)(s:Sy):Bool:=s.isH&&N s.num
theorem z33{N F F':Int->Bool}{t:Nat}(h:∀X,F X=true->F' X=true):∀l:List Sy,Q30 N F t l=true->Q30 N F' t l=true
  | [],e=>e
  |s::l,e=>by
    unfold Q30 at e ⊢;cases hs:s.isH
    · rw[hs]at e;simpa using e
    rw[hs]at e;simp only[if_true,Bool.true_and,Bool.or_eq_true,Bool.and_eq_true]at e ⊢;rcases e with e|⟨e1,e2⟩
    · exact .inl(h _ e)
    exact .inr⟨e1,z33 h l e2⟩
theorem z1q{N F:Int->Bool}{t:Nat}:∀{l:List Sy},Q30 N F t l=true->∃a s b,l=a++s::b/\a.all(Q4a N)=true/\(if s.isH then F s.num else s.num==(t:Int))=true
  | [],e=>by cases e
  |s::l,e=>by
    unfold Q30 at e;simp only[Bool.or_eq_true,Bool.and_eq_true]at e;rcases e with e|⟨e1,e2⟩
    · exact⟨[],s,l,rfl,rfl,e⟩
    obtain⟨a,s',b,h1,h2,h3⟩:=z1q e2;refine⟨s::a,s',b,by rw[h1];rfl,?_,h3⟩;simp[Q4a,e1.1,e1.2,h2]
theorem z23{N F:Int->Bool}{t:Nat}(s:Sy)(b:List Sy)(h:(if s.isH then F s.num else s.num==(t:Int))=true):∀a:List Sy,a.all(Q4a N)=true->Q30 N F t(a++s::b)=true
  | [],_=>by simp only[List.nil_append,Q30,Bool.or_eq_true];exact .inl h
  |x::a,e=>by
    simp only[List.all_cons,Bool.and_eq_true]at e;simp only[List.cons_append,Q30,Bool.or_eq_true,Bool.and_eq_true];have e1:=e.1;simp only[Q4a,Bool.and_eq_true]at e1;exact .inr⟨e1,z23 s b h a e.2⟩
theorem z2s{N F:Int->Bool}{t:Nat}:∀(a b:List Sy),Q30 N F t(a++b)=(Q30 N F t a||(a.all(Q4a N)&&Q30 N F t b))
  | [],b=>by simp[Q30]
  |x::a,b=>by
    simp only[List.cons_append,Q30,z2s a b,List.all_cons,Q4a];cases x.isH<;>cases N x.num<;>simp[Bool.or_assoc]
theorem y7c(ps:List Pr):∀(n:Nat)(X:Int),NS ps n X=true->NS ps(n+1)X=true
  |0,_,h=>by cases h
  |n+1,X,h=>by
    unfold NS at h ⊢;rw[List.any_eq_true]at h ⊢;obtain⟨p,hp,h⟩:=h;refine⟨p,hp,?_⟩;simp only[Bool.and_eq_true,List.all_eq_true]at h ⊢;exact⟨h.1,fun s hs=>⟨(h.2 s hs).1,y7c ps n _(h.2 s hs).2⟩⟩
theorem x2b(ps:List Pr)(N:Int->Bool)(t:Nat):∀(n:Nat)(X:Int),FS ps N t n X=true->FS ps N t(n+1)X=true
  |0,_,h=>by cases h
  |n+1,X,h=>by
    unfold FS at h ⊢;rw[List.any_eq_true]at h ⊢;obtain⟨p,hp,h⟩:=h;refine⟨p,hp,?_⟩;simp only[Bool.and_eq_true]at h ⊢;exact⟨h.1,z33(x2b ps N t n)_ h.2⟩
theorem x7q(l:List Bool):Q9o l<=l.length:=by unfold Q9o;exact List.length_filter_le _ _
theorem y4x{H:Nat}{a:Nat->List Bool}(hl:∀n,(a n).length=H)(hm:∀n,leB(a n)(a(n+1)))(hs:∀n,a n=a(n+1)->a(n+1)=a(n+2)):∀m,leB(a m)(a H):=by
  have h1:∀n,a n=a(n+1)∨Q9o(a n)+n<=H:=by
    intro n;induction n with
    |zero=>right;have:=x7q(a 0);rw[hl 0]at this;omega
    |succ n ih =>
      by_cases e:a n=a(n+1)
      · exact .inl(hs n e)
      right;have:=(y22(hm n)).2 e;rcases ih with ih|ih
      · exact absurd ih e
      omega
  have h2:a H=a(H+1):=by
    by_cases e:a H=a(H+1)
    · exact e
    have:=(y22(hm H)).2 e;rcases h1 H with h|h
    · exact absurd h e
    omega
  have h3:∀k,a(H+k)=a(H+k+1):=by
    intro k;induction k with
    |zero=>exact h2
    |succ k ih=>exact hs _ ih
  have h4:∀k,a(H+k)=a H:=by
    intro k;induction k with
    |zero=>rfl
    |succ k ih=>rw[← ih];exact(h3 k).symm
  have h5:∀k m,m+k=H->leB(a m)(a H):=by
    intro k;induction k with
    |zero =>
      intro m e;have:m=H:=by omega
      subst this;exact z17 _
    |succ k ih=>intro m e;exact z43(hm m)(ih(m+1)(by omega))
  intro m;by_cases e:m<=H
  · exact h5(H-m)m(by omega)
  have:=h4(m-H);rw[show H+(m-H)=m by omega]at this;rw[this];exact z17 _
def Q49(H:Nat)(f:Int->Bool):List Bool:=(List.range H).map fun i=>f(i:Nat)
theorem z39{H:Nat}{f:Int->Bool}{X:Int}(h0:0<=X)(h1:X<H):(Q49 H f).getD X.toNat false=f X:=by
  have e:((X.toNat:Nat):Int)=X:=by omega
  unfold Q49;rw[qD,List.getElem?_map,List.getElem?_range(by omega)];simp[e]
theorem y5d{H:Nat}{f g:Int->Bool}(h:∀X,f X=true->g X=true):leB(Q49 H f)(Q49 H g):=by
  unfold Q49;generalize List.range H=l;induction l with
  |nil=>trivial
  |cons x l ih=>exact⟨h _,ih⟩
theorem y40{H:Nat}{f g:Int->Bool}(h:Q49 H f=Q49 H g){X:Int}(h0:0<=X)(h1:X<H):f X=g X:=by
  rw[← z39 h0 h1(f:=f),h,z39 h0 h1]
theorem z8e{H:Nat}{f g:Int->Bool}(h:∀X,0<=X->X<H->f X=g X):Q49 H f=Q49 H g:=by
  unfold Q49;apply List.map_congr_left;intro i hi;have:=List.mem_range.1 hi;exact h _(by omega)(by omega)
theorem z30{α:Type}{l:List α}{f g:α->Bool}(h:∀x∈l,f x=g x):l.any f=l.any g:=by
  induction l with
  |nil=>rfl
  |cons x l ih=>simp only[List.any_cons,h x(by simp),ih(fun y hy=>h y(by simp[hy]))]
theorem z35{α:Type}{l:List α}{f g:α->Bool}(h:∀x∈l,f x=g x):l.all f=l.all g:=by
  induction l with
  |nil=>rfl
  |cons x l ih=>simp only[List.all_cons,h x(by simp),ih(fun y hy=>h y(by simp[hy]))]
theorem y1n{N F F':Int->Bool}{t:Nat}:∀(l:List Sy),(∀s∈l,s.isH=true->F s.num=F' s.num)->Q30 N F t l=Q30 N F' t l
  | [],_=>rfl
  |s::l,h=>by
    unfold Q30;rw[y1n l(fun x hx=>h x(by simp[hx]))];cases hs:s.isH
    · rfl
    rw[h s(by simp)hs]
variable{ps:List Pr}{R H:Nat}
theorem v1e(hT:Q1c ps R H)(n:Nat)(X:Int)(h0:0<=X)(h1:X<H)(h:NS ps n X=true):NS ps H X=true:=by
  have hc:=y4x(a:=fun n=>Q49 H(NS ps n))(H:=H)(fun n=>by simp[Q49])(fun n=>y5d(y7c ps n))(by
    intro n e;refine z8e(fun X _ _=>?_);show NS ps(n+1)X=NS ps(n+2)X;unfold NS;refine z30(fun p hp=>?_);congr 1;refine z35(fun s hs=>?_);cases hsh:s.isH
    · rfl
    have:=hT.sy p hp s hs;rw[hsh]at this;simp only[if_true]at this;rw[y40 e this.1 this.2])n
  have:=z4v hc X.toNat(by rw[z39 h0 h1];exact h);rwa [z39 h0 h1]at this
theorem x8y(hT:Q1c ps R H)(N:Int->Bool)(t:Nat)(n:Nat)(X:Int)(h0:0<=X)(h1:X<H)(h:FS ps N t n X=true):FS ps N t H X=true:=by
  have hc:=y4x(a:=fun n=>Q49 H(FS ps N t n))(H:=H)(fun n=>by simp[Q49])(fun n=>y5d(x2b ps N t n))(by
    intro n e;refine z8e(fun X _ _=>?_);show FS ps N t(n+1)X=FS ps N t(n+2)X;unfold FS;refine z30(fun p hp=>?_);congr 1;refine y1n _(fun s hs hsh=>?_);have:=hT.sy p hp s hs;rw[hsh]at this;simp only[if_true]at this;exact y40 e this.1 this.2)n
  have:=z4v hc X.toNat(by rw[z39 h0 h1];exact h);rwa [z39 h0 h1]at this
structure St where
  leaf:Bool
  num:Int
def ahd(N:Int->Bool)(F O:Int->Nat->Bool)(p:Pr)(t:Nat):Bool:=Q30 N(fun X=>F X t)t p.syms||(p.syms.all(Q4a N)&&O p.head t)
structure LLG(ps:List Pr)(R H:Nat)(N:Int->Bool)(F O:Int->Nat->Bool)(ch:Int->Nat->Int):Prop where
  tab:Q1c ps R H
  mx:∀p∈ps,p.syms.length<=6
  clN:∀p∈ps,p.syms.all(Q4a N)=true->N p.head=true
  clF:∀p∈ps,∀t,Q30 N(fun X=>F X t)t p.syms=true->F p.head t=true
  clO:∀p∈ps,∀a s b,p.syms=a++s::b->s.isH=true->∀t,(Q30 N(fun X=>F X t)t b||(b.all(Q4a N)&&O p.head t))=true->O s.num t=true
  leN:∀X,N X=true->NS ps H X=true
  leF:∀X t,F X t=true->FS ps N t H X=true
  st:O 0 R=true
  bF:∀X t,F X t=true->t<R
  one:∀(i:Nat)p,ps[i]? = some p->∀t,t<=R->ahd N F O p t=true->ch p.head t=i
  chr:∀X t,0<=ch X t->∃p,ps[(ch X t).toNat]? = some p/\p.head=X/\ahd N F O p t=true
def gTo(ps:List Pr)(ch:Int->Nat->Int)(t:Nat):Nat->List Sy->List St->Option(List Sy × List St)
  |0,_,_=>none
  |_+1,[],st=>some([],st)
  | f + 1,s::k,st=>if s.isH=false then some(k,st++[⟨true,s.num⟩])else
      if 0<=ch s.num t then(match ps[(ch s.num t).toNat]? with
        |some p=>gTo ps ch t f(p.syms++k)(st++[⟨false,ch s.num t⟩])
        |none=>none)else none
theorem z14{ps:List Pr}{ch:Int->Nat->Int}{t:Nat}:∀(f:Nat)(k:List Sy)(st:List St)(r:List Sy × List St),gTo ps ch t f k st=some r->∀g,f<=g->gTo ps ch t g k st=some r
  |0,_,_,_,h,_,_=>by cases h
  |f+1,[],st,r,h,g,hg=>by
    obtain⟨g,rfl⟩:∃k,g=k+1:=⟨g-1,by omega⟩;exact h
  |f+1,s::k,st,r,h,g,hg=>by
    obtain⟨g,rfl⟩:∃k,g=k+1:=⟨g-1,by omega⟩;unfold gTo at h ⊢;split
    · rename_i e;rw[if_pos e]at h;exact h
    rename_i e;rw[if_neg e]at h;split
    · rename_i e2
      rw[if_pos e2]at h;cases hp:ps[(ch s.num t).toNat]? with
      |none=>rw[hp]at h;cases h
      |some p =>
        rw[hp]at h;exact z14 f _ _ r h g(by omega)
    rename_i e2;rw[if_neg e2]at h;exact h
theorem y28{ps:List Pr}{ch:Int->Nat->Int}{t:Nat}:∀(f:Nat)(k:List Sy)(st:List St)(r:List Sy × List St),gTo ps ch t f k st=some r->st.length<=r.2.length
  |0,_,_,_,h=>by cases h
  |f+1,[],st,r,h=>by cases h;exact qR _
  |f+1,s::k,st,r,h=>by
    unfold gTo at h;split at h
    · cases h;simp
    split at h
    · split at h
      · have:=y28 f _ _ r h;simp at this;omega
      cases h
    cases h
def szN:Nat->Nat
  |0=>0
  |n+1=>1+6*szN n
theorem y9b:∀n,szN n<=szN(n+1)
  |0=>by decide
  |n+1=>by have:=y9b n;simp only[szN]at *;omega
theorem v1n{n m:Nat}(h:n<=m):szN n<=szN m:=by
  obtain⟨k,rfl⟩:∃k,m=n+k:=⟨m-n,by omega⟩;induction k with
  |zero=>exact qR _
  |succ k ih=>exact Nat.le_trans(ih(by omega))(y9b _)
section
variable{ps:List Pr}{R H:Nat}{N:Int->Bool}{F O:Int->Nat->Bool}{ch:Int->Nat->Int}
theorem LLG.nsN(g:LLG ps R H N F O ch):∀(n:Nat)(X:Int),NS ps n X=true->N X=true
  |0,_,h=>by cases h
  |n+1,X,h=>by
    unfold NS at h;rw[List.any_eq_true]at h;obtain⟨p,hp,h⟩:=h;simp only[Bool.and_eq_true,List.all_eq_true,beq_iff_eq]at h;rw[← h.1];refine g.clN p hp ?_;rw[List.all_eq_true];intro s hs;simp only[Q4a,Bool.and_eq_true];exact⟨(h.2 s hs).1,g.nsN n _(h.2 s hs).2⟩
theorem LLG.fsF(g:LLG ps R H N F O ch)(t:Nat):∀(n:Nat)(X:Int),FS ps N t n X=true->F X t=true
  |0,_,h=>by cases h
  |n+1,X,h=>by
    unfold FS at h;rw[List.any_eq_true]at h;obtain⟨p,hp,h⟩:=h;simp only[Bool.and_eq_true,beq_iff_eq]at h;rw[← h.1];exact g.clF p hp t(z33(g.fsF t n)_ h.2)
theorem x9c{p:Pr}(h:p∈ps):∃i:Nat,ps[i]? = some p:=by
  obtain⟨i,hi,rfl⟩:=List.getElem_of_mem h;exact⟨i,by simp⟩
theorem LLG.nul1(g:LLG ps R H N F O ch){n:Nat}{X:Int}(h:NS ps(n+1)X=true){t:Nat}(ht:t<=R)(ho:O X t=true) :
    ∃(i:Nat)(p:Pr),ps[i]? = some p/\p.head=X/\ch X t=i/\p.syms.length<=6/\∀s∈p.syms,s.isH=true/\NS ps n s.num=true/\O s.num t=true:=by
  unfold NS at h;rw[List.any_eq_true]at h;obtain⟨p,hp,h⟩:=h;simp only[Bool.and_eq_true,List.all_eq_true,beq_iff_eq]at h;obtain⟨i,hi⟩:=x9c hp;have j0:p.syms.all(Q4a N)=true:=by
    rw[List.all_eq_true];intro s hs;simp only[Q4a,Bool.and_eq_true];exact⟨(h.2 s hs).1,g.nsN n _(h.2 s hs).2⟩
  have ha:ahd N F O p t=true:=by unfold ahd;rw[j0,h.1,ho];simp
  refine⟨i,p,hi,h.1,?_,g.mx p hp,fun s hs=>⟨(h.2 s hs).1,(h.2 s hs).2,?_⟩⟩
  · rw[← h.1];exact g.one i p hi t ht ha
  obtain⟨a,b,e⟩:=List.append_of_mem hs;refine g.clO p hp a s b e(h.2 s hs).1 t ?_;have hb:b.all(Q4a N)=true:=by
    rw[List.all_eq_true]at j0 ⊢;intro x hx;exact j0 x(by rw[e];simp[hx])
  rw[hb,h.1,ho];simp
theorem z5l{i:Nat}{p:Pr}{s:Sy}{t:Nat}(hi:ps[i]? = some p)(hs:s.isH=true)(hc:ch s.num t=i)(f:Nat)(k:List Sy)(st:List St) :
    gTo ps ch t(f+1)(s::k)st=gTo ps ch t f(p.syms++k)(st++[⟨false,i⟩]):=by
  rw[gTo,if_neg(by rw[hs];simp),hc,if_pos(by omega),Int.toNat_natCast,hi]
theorem z8b{t B:Nat}:∀(l:List Sy),(∀s∈l,∃(c:Nat)(ns:List St),ns.length=c/\c<=B/\∀f k st,gTo ps ch t(c+f)(s::k)st=gTo ps ch t f k(st++ns)) ->
    ∃(c:Nat)(ns:List St),ns.length=c/\c<=l.length*B/\∀f k st,gTo ps ch t(c+f)(l++k)st=gTo ps ch t f k(st++ns)
  | [],_=>⟨0,[],rfl,by simp,fun f k st=>by simp⟩
  |s::l,h=>by
    obtain⟨c1,n1,h1,h2,h3⟩:=h s(by simp);obtain⟨c2,n2,h4,h5,h6⟩:=z8b l(fun x hx=>h x(by simp[hx]));refine⟨c1+c2,n1++n2,by simp[h1,h4],?_,fun f k st=>?_⟩
    · simp only[List.length_cons,Nat.add_mul,Nat.one_mul];omega
    rw[Nat.add_assoc,List.cons_append,h3,h6,List.append_assoc]
theorem LLG.null(g:LLG ps R H N F O ch){t:Nat}(ht:t<=R):∀(n:Nat)(s:Sy),s.isH=true->NS ps n s.num=true->O s.num t=true ->
    ∃(c:Nat)(ns:List St),ns.length=c/\c<=szN n/\∀f k st,gTo ps ch t(c+f)(s::k)st=gTo ps ch t f k(st++ns)
  |0,_,_,h,_=>by cases h
  |n+1,s,hs,h,ho=>by
    obtain⟨i,p,hi,hp,hc,hl,hall⟩:=g.nul1 h ht ho;obtain⟨c,ns,h1,h2,h3⟩:=z8b(ps:=ps)(ch:=ch)(t:=t)(B:=szN n)p.syms(fun x hx=>g.null ht n x(hall x hx).1(hall x hx).2.1(hall x hx).2.2);refine⟨c+1,⟨false,i⟩::ns,by simp[h1],?_,fun f k st=>?_⟩
    · have:=Nat.mul_le_mul_right(szN n)hl
      simp only[szN];omega
    rw[show c+1+f=c+f+1 by omega,z5l hi hs hc,h3,List.append_assoc];rfl
def szF(B:Nat):Nat->Nat
  |0=>0
  |n+1=>1+6*B+szF B n
theorem LLG.first(g:LLG ps R H N F O ch){t:Nat}(ht:t<=R):∀(n:Nat)(s:Sy),s.isH=true->FS ps N t n s.num=true ->
    ∃(c:Nat)(ns:List St)(k':List Sy),ns.length=c/\c<=szF(szN H)n/\k'.length<=6*n/\∀f k st,gTo ps ch t(c+f+1)(s::k)st=some(k'++k,st++ns++[⟨true,t⟩])
  |0,_,_,h=>by cases h
  |n+1,s,hs,h=>by
    unfold FS at h;rw[List.any_eq_true]at h;obtain⟨p,hp,h⟩:=h;simp only[Bool.and_eq_true,beq_iff_eq]at h;obtain⟨i,hi⟩:=x9c hp;have hb:=z33(g.fsF t n)_ h.2;have ha:ahd N F O p t=true:=by unfold ahd;rw[hb];rfl
    have hc:=g.one i p hi t ht ha;rw[h.1]at hc;obtain⟨a,x,b,e,h1,h2⟩:=z1q h.2;have hl:=g.mx p hp;have j1:a.length+b.length+1<=6:=by rw[e]at hl;simp at hl;omega
    have j2:(if x.isH then F x.num t else x.num==(t:Int))=true:=by
      cases hx:x.isH
      · rw[hx]at h2;exact h2
      rw[hx]at h2;exact g.fsF t n _ h2
    obtain⟨c,ns,k1,k2,k3⟩:=z8b(ps:=ps)(ch:=ch)(t:=t)(B:=szN H)a(fun y hy=>by
      have j0:=(List.all_eq_true.1 h1)y hy;simp only[Q4a,Bool.and_eq_true]at j0;refine g.null ht H y j0.1(g.leN _ j0.2)?_;obtain⟨a1,a2,ea⟩:=List.append_of_mem hy;refine g.clO p hp a1 y(a2++x::b)(by rw[e,ea];simp)j0.1 t ?_;have:Q30 N(fun X=>F X t)t(a2++x::b)=true:=z23 x b j2 a2(by
        rw[List.all_eq_true]at h1 ⊢;intro z hz;exact h1 z(by rw[ea];simp[hz]))
      rw[this];rfl)
    have j3:c<=6*szN H:=Nat.le_trans k2(Nat.mul_le_mul_right _(by omega));cases hx:x.isH
    · rw[hx]at h2
      simp only[Bool.false_eq_true,if_false,beq_iff_eq]at h2;refine⟨c+1,⟨false,i⟩::ns,b,by simp[k1],by simp only[szF];omega,by omega,fun f k st=>?_⟩;rw[show c+1+f+1=c+(f+1)+1 by omega,z5l hi hs hc,e,List.append_assoc,k3,List.cons_append,gTo,if_pos hx,h2];simp
    rw[hx]at h2;simp only[if_true]at h2;obtain⟨c',ns',k',m1,m2,m3,m4⟩:=g.first ht n x hx h2;refine⟨c+1+c',⟨false,i⟩::(ns++ns'),k'++b,by simp[k1,m1];omega,by simp only[szF];omega,by simp;omega,fun f k st=>?_⟩;rw[show c+1+c'+f+1=c+(c'+f+1)+1 by omega,z5l hi hs hc,e,List.append_assoc,k3,List.cons_append,m4];simp
def Q6s(N:Int->Bool)(F:Int->Nat->Bool)(R:Nat)(k:List Sy)(t:Nat):Bool:=Q30 N(fun X=>F X t)t k||(k.all(Q4a N)&&(t==R))
def Q41(N:Int->Bool)(F O:Int->Nat->Bool)(R:Nat)(k:List Sy):Prop:=∀a s b,k=a++s::b->s.isH=true->∀t,Q6s N F R b t=true->O s.num t=true
theorem LLG.stk0(g:LLG ps R H N F O ch):Q41 N F O R [⟨true,0⟩]:=by
  intro a s b e hs t ht;cases a with
  |nil =>
    simp only[List.nil_append,List.cons.injEq]at e;obtain⟨rfl,rfl⟩:=e;simp only[Q6s,Q30,List.all_nil,Bool.true_and,Bool.false_or,beq_iff_eq]at ht;rw[ht];exact g.st
  |cons x a=>simp at e
theorem Q41.tail{s:Sy}{k:List Sy}(h:Q41 N F O R(s::k)):Q41 N F O R k:=fun a x b e hx t ht=>h(s::a)x b(by rw[e];rfl)hx t ht
theorem x4q{α:Type}{l k a b:List α}{s:α}(h:l++k=a++s::b):(∃c,k=c++s::b)∨∃b',b=b'++k/\l=a++s::b':=by
  rcases List.append_eq_append_iff.1 h with⟨c,h1,h2⟩|⟨c,h1,h2⟩
  · exact .inl⟨c,h2⟩
  cases c with
  |nil=>simp only[List.nil_append]at h2;exact .inl⟨[],h2.symm⟩
  |cons x c =>
    simp only[List.cons_append,List.cons.injEq]at h2;obtain⟨rfl,rfl⟩:=h2;exact .inr⟨c,rfl,h1⟩
theorem LLG.stkOpen(g:LLG ps R H N F O ch){p:Pr}(hp:p∈ps){s:Sy}{k:List Sy}(hs:s.isH=true)(he:p.head=s.num)(h:Q41 N F O R(s::k)):Q41 N F O R(p.syms++k):=by
  intro a x b e hx t ht;rcases x4q e with⟨c,hc⟩|⟨b',rfl,hb⟩
  · exact h(s::c)x b(by rw[hc];rfl)hx t ht
  refine g.clO p hp a x b' hb hx t ?_;unfold Q6s at ht;rw[z2s]at ht;cases hq:Q30 N(fun X=>F X t)t b'
  · rw[hq]at ht
    simp only[Bool.false_or,List.all_append]at ht ⊢;have hw:b'.all(Q4a N)=true/\Q6s N F R k t=true:=by
      unfold Q6s;cases h1:b'.all(Q4a N)
      · rw[h1]at ht;simp at ht
      rw[h1]at ht;simp only[Bool.true_and]at ht;exact⟨rfl,ht⟩
    rw[hw.1,he,h []s k rfl hs t hw.2];rfl
  rfl
theorem LLG.stkTo(g:LLG ps R H N F O ch){t:Nat}:∀(f:Nat)(k:List Sy)(st:List St)(r:List Sy × List St),gTo ps ch t f k st=some r->Q41 N F O R k->Q41 N F O R r.1
  |0,_,_,_,h,_=>by cases h
  |f+1,[],st,r,h,hk=>by cases h;exact hk
  |f+1,s::k,st,r,h,hk=>by
    unfold gTo at h;split at h
    · cases h;exact hk.tail
    rename_i hs;split at h
    · rename_i h0
      obtain⟨p,hp,he,_⟩:=g.chr _ _ h0;rw[hp]at h;exact g.stkTo f _ _ r h(g.stkOpen(List.mem_of_getElem? hp)(by simpa using hs)he hk)
    cases h
def Q22(H n:Nat):Nat:=n*szN H+szF(szN H)H+1
theorem LLG.grows(g:LLG ps R H N F O ch){t:Nat}(ht:t<=R)(k:List Sy)(hk:Q41 N F O R k)(hw:Q6s N F R k t=true)(st:List St) :
    ∃r,gTo ps ch t(Q22 H k.length)k st=some r/\r.1.length<=k.length+6*H/\r.2.length<=st.length+Q22 H k.length:=by
  have j1:∀(a:List Sy)(x:List Sy),k=a++x->a.all(Q4a N)=true->Q6s N F R x t=true->∃(c:Nat)(ns:List St),ns.length=c/\c<=a.length*szN H/\∀f k st,gTo ps ch t(c+f)(a++k)st=gTo ps ch t f k(st++ns):=by
    intro a x e ha hx;refine z8b a(fun y hy=>?_);have j0:=(List.all_eq_true.1 ha)y hy;simp only[Q4a,Bool.and_eq_true]at j0;refine g.null ht H y j0.1(g.leN _ j0.2)?_;obtain⟨a1,a2,ea⟩:=List.append_of_mem hy;refine hk a1 y(a2++x)(by rw[e,ea];simp)j0.1 t ?_;have j2:a2.all(Q4a N)=true:=by
      rw[List.all_eq_true]at ha ⊢;intro z hz;exact ha z(by rw[ea];simp[hz])
    unfold Q6s at hx ⊢;rw[z2s,List.all_append,j2];simp only[Bool.true_and];rw[Bool.or_assoc,hx];simp
  unfold Q6s at hw;cases hb:Q30 N(fun X=>F X t)t k
  · rw[hb]at hw
    simp only[Bool.false_or,Bool.and_eq_true,beq_iff_eq]at hw;obtain⟨hw1,rfl⟩:=hw;obtain⟨c,ns,h1,h2,h3⟩:=j1 k [](by simp)hw1(by simp[Q6s,Q30]);refine⟨([],st++ns),?_,by simp,by simp only[List.length_append,h1,Q22];omega⟩;have h4:=h3 1 []st;rw[List.append_nil]at h4;refine z14(c+1)k st _(by rw[h4];rfl)_(by unfold Q22;omega)
  obtain⟨a,s,b,rfl,ha,hs⟩:=z1q hb;obtain⟨c,ns,h1,h2,h3⟩:=j1 a(s::b)rfl ha(by
    unfold Q6s;have:Q30 N(fun X=>F X t)t([]++s::b)=true:=z23 s b hs []rfl;rw[List.nil_append]at this;rw[this];rfl)
  have j3:a.length*szN H<=(a++s::b).length*szN H:=Nat.mul_le_mul_right _(by simp);cases hx:s.isH
  · rw[hx]at hs
    refine⟨(b,st++ns++[⟨true,s.num⟩]),?_,by simp;omega,by simp only[List.length_append,h1,Q22,List.length_singleton]at *;omega⟩;refine z14(c+1)_ st _ ?_ _(by unfold Q22;omega);rw[h3,gTo,if_pos hx]
  rw[hx]at hs;simp only[if_true]at hs;obtain⟨c',ns',k',m1,m2,m3,m4⟩:=g.first ht H s hx(g.leF _ _ hs);refine⟨(k'++b,st++ns++ns'++[⟨true,t⟩]),?_,by simp;omega,by simp only[List.length_append,h1,m1,Q22,List.length_singleton]at *;omega⟩;refine z14(c+(c'+0+1))_ st _ ?_ _(by unfold Q22;omega);rw[h3];exact m4 0 b(st++ns)
end
end Go.Proofs.YtcpceafmlgaodaaGreat
