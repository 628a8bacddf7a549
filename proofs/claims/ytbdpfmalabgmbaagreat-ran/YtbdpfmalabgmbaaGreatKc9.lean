import Derived.Test.YtbdpfmalabgmbaaGreatMu8
namespace Go.Proofs.YtbdpfmalabgmbaaGreat
open Go.RowKit
set_option maxRecDepth 99999
set_option maxHeartbeats 0
set_option linter.all false
def Q8l{α β:Type}(R:α->β->Prop):List α->List β->Prop
 | [],[]=>True
 |a::us,b::zs=>R a b/\Q8l R us zs
 |_,_=>False
theorem Q8l.len{α β:Type}{R:α->β->Prop}:∀{us:List α}{zs:List β},Q8l R us zs->us.length=zs.length
 | [],[],_=>rfl
 |_::us,_::zs,h=>by simp[Q8l.len h.2]
theorem Q8l.snoc{α β:Type}{R:α->β->Prop}:∀{us:List α}{zs:List β}{a:α}{b:β},Q8l R us zs->R a b->Q8l R (us++[a]) (zs++[b])
 | [],[],_,_,_,h=>⟨h,trivial⟩
 |_::us,_::zs,_,_,h,k=>⟨h.1,Q8l.snoc h.2 k⟩
def Tw(s:ByteArray)(d:Wd)(y:ByteArray):Prop:=∃i m:Nat,WordAt s i m d/\y=s.extract i (i+m)
theorem x1h{s:ByteArray}{a b m n:Nat}{d d':Wd}(h:WordAt s a m d)(h':WordAt s b n d')(ha:a+m<=s.size)(hb:b+n<=s.size)(hl:(s.extract a (a+m)).toList=(s.extract b (b+n)).toList):d.ls=d'.ls:=by
 have hA:(s.extract a (a+m)).size=m:=by rw[qBl];omega
 have hB:(s.extract b (b+n)).size=n:=by rw[qBl];omega
 have j1:m=n:=by
  have:=qEn List.length hl;rw[btl,btl,Array.length_toList,Array.length_toList]at this;have e1:(s.extract a (a+m)).data.size=m:=hA;have e2:(s.extract b (b+n)).data.size=n:=hB;omega
 subst j1;rw[h.ls,h'.ls];apply qEs;intro k hk;by_cases j0:k<m
 ·rw[qAb j0,qAb j0];have e1:=z3x s a (a+m) k ha (by omega);have e2:=z3x s b (b+m) k hb (by omega);have e3:s.extract a (a+m)=s.extract b (b+m):=by
   apply qFi;apply Array.toList_inj.1;rw[← btl,← btl];exact hl
  rw[e3]at e1;rw[← e1,← e2]
 rw[qAa j0,qAa j0]
theorem v3f{s:ByteArray}{d d':Wd}{y y':ByteArray}(h:Tw s d y)(h':Tw s d' y'):(d.ls==d'.ls)=(y.toList==y'.toList):=by
 obtain⟨i,m,hw,rfl⟩:=h;obtain⟨j,n,j0,rfl⟩:=h';have h1:=hw.in';have h2:=j0.in';rw[qBc,qBi,qBi];exact⟨fun e=>y53 hw j0 (by omega) (by omega) e,fun e=>x1h hw j0 (by omega) (by omega) e⟩
theorem x82{s:ByteArray}{d:Wd}{y:ByteArray}(hd:Tw s d y):∀{ds:List Wd}{ys:List ByteArray},Q8l (Tw s) ds ys->ds.findIdx (fun x=>x.ls==d.ls)=ys.findIdx (fun x=>x.toList==y.toList)
 | [],[],_=>rfl
 |a::us,b::zs,h=>by
  rw[qFj,qFj,v3f h.1 hd,x82 hd h.2]
theorem x6j{s:ByteArray}{d:Wd}{y:ByteArray}(hd:Tw s d y){ds:List Wd}{ys:List ByteArray}(h:Q8l (Tw s) ds ys):Q1y ys y=if Q1m ds d.ls<ds.length then(Q1m ds d.ls:Int) else -1:=by
 unfold Q1y Q1m;rw[← x82 hd h,← h.len]
theorem z1x:∀(l:List Ln) (acc:List Wd) (y:Ln),Q14 (l++[y]) acc=if Q0x y then Q14 l acc else if Q1m (Q14 l acc) y.front.ls<(Q14 l acc).length then Q14 l acc else Q14 l acc++[y.front]
 | [],acc,y=>by
  simp only[qCh,Q14];rfl
 |x::l,acc,y=>by
  rw[qBh];unfold Q14;split
  ·exact z1x l acc y
  split
  ·exact z1x l acc y
  exact z1x l _ y
theorem z5r{ds:List Wd}{ls:List Int}(h:Q1m ds ls<ds.length)(t:List Wd):Q1m (ds++t) ls=Q1m ds ls:=by
 unfold Q1m at h ⊢;rw[List.findIdx_append,qAb h]
structure Inv2(s:ByteArray)(lns:List Ln)(x:LO):Prop where
 ru:Q8l (Tw s) (Q0g lns) x.rules
 he:Q8l (Tw s) (Q0j lns) x.heads
 hd:x.head=(Q05 lns).map (fun y=>(Q1m (Q0j lns) y.front.ls:Int))
 na:Q8l (fun(y:Ln) (ns:List ByteArray)=>Q8l (Tw s) y.syms ns) (Q05 lns) x.names
 mem:∀y∈Q05 lns,Q1m (Q0j lns) y.front.ls<(Q0j lns).length
 cap:∀d∈Q0j lns,Q16 d=true
theorem v2m{s:ByteArray}{p q:Nat}{ds:List Wd}{ns:List ByteArray}(h:PN s p ds ns q):Q8l (Tw s) ds ns:=by
 refine PN.ind (M:=fun _ ds ns=>Q8l (Tw s) ds ns) trivial ?_ ds p ns h;intro p m d ds ns j0 hw j1 h ih;exact⟨⟨p+1,m,hw,rfl⟩,ih⟩
theorem x3b{s:ByteArray}{lns:List Ln}{x:LO}{y:Ln}{i e:Nat}(h:Inv2 s lns x)(he:e<=s.size)(hl:Q87 s i y e):Inv2 s (lns++[y]) (Q9w (s.extract i e) x):=by
 rcases hl with⟨m,hw,hs,hr,j3,hc,hm,hk,j6⟩|⟨m,ns,hw,hs,hr,hc,hm,hp⟩
 ·rw[z73 s i e m _ x he hw hs j3 hm];have e1:Q0j (lns++[y])=Q0j lns:=by unfold Q0j;rw[z1x,qAb hr]
  have e2:Q05 (lns++[y])=Q05 lns:=by unfold Q05;rw[qBx];simp[qAq,hr]
  have e3:Q0g (lns++[y])=Q0g lns++[y.front]:=by unfold Q0g;rw[qBx,qBp];simp[qAq,hr]
  refine⟨?_,?_,?_,?_,?_,?_⟩
  ·rw[e3];exact h.ru.snoc ⟨i,m,hw,rfl⟩
  ·rw[e1];exact h.he
  ·rw[e1,e2];exact h.hd
  ·rw[e2];exact h.na
  ·rw[e1,e2];exact h.mem
  rw[e1];exact h.cap
 rw[z72 s i e m _ _ ns x he hw hs hm hp];have j2:Q16 y.front=true:=by
  unfold Q0x at hr;simpa using hr
 have hT:Tw s y.front (s.extract i (i+m)):=⟨i,m,hw,rfl⟩;have e2:Q05 (lns++[y])=Q05 lns++[y]:=by unfold Q05;rw[qBx];simp[qAq,hr]
 have e3:Q0g (lns++[y])=Q0g lns:=by unfold Q0g;rw[qBx,qBp];simp[qAq,hr]
 have hf:=x6j hT h.he;by_cases j0:Q1m (Q0j lns) y.front.ls<(Q0j lns).length
 ·rw[qAb j0]at hf;have e1:Q0j (lns++[y])=Q0j lns:=by
   unfold Q0j at j0 ⊢;rw[z1x,qAa (by simp[hr]),qAb j0]
  have j4:¬Q1y x.heads (s.extract i (i+m))<0:=by rw[hf];omega
  simp only[j4,qAz];refine⟨?_,?_,?_,?_,?_,?_⟩
  ·rw[e3];exact h.ru
  ·rw[e1];exact h.he
  ·rw[e1,e2,qBp,h.hd,hf];rfl
  ·rw[e2];exact h.na.snoc (v2m hp)
  ·rw[e1,e2];intro z hz;simp only[qU,qM]at hz;rcases hz with hz|rfl
   ·exact h.mem z hz
   exact j0
  rw[e1];exact h.cap
 rw[qAa j0]at hf;have e1:Q0j (lns++[y])=Q0j lns++[y.front]:=by
  unfold Q0j at j0 ⊢;rw[z1x,qAa (by simp[hr]),qAa j0]
 have j4:Q1y x.heads (s.extract i (i+m))<0:=by rw[hf];omega
 simp only[j4,qBn];have j1:Q1m (Q0j lns++[y.front]) y.front.ls=(Q0j lns).length:=by
  have j3:=y3n (Q0j lns) y.front.ls;have j5:(Q0j lns).findIdx (fun x=>x.ls==y.front.ls)=(Q0j lns).length:=by unfold Q1m at j3 j0;omega
  unfold Q1m;rw[List.findIdx_append,j5,qAa (by omega),qFj];simp
 refine⟨?_,?_,?_,?_,?_,?_⟩
 ·rw[e3];exact h.ru
 ·rw[e1];exact h.he.snoc hT
 ·rw[e1,e2,qBp,qDb,j1,h.hd,h.he.len];dsimp only;congr 1;apply qEs;intro z hz;rw[z5r (h.mem z hz)]
 ·rw[e2];exact h.na.snoc (v2m hp)
 ·rw[e1,e2];intro z hz;simp only[qU,qM]at hz;rw[qP,qAj];rcases hz with hz|rfl
  ·rw[z5r (h.mem z hz)];have:=h.mem z hz;omega
  rw[j1];omega
 rw[e1];intro d hd;simp only[qU,qM]at hd;rcases hd with hd|rfl
 ·exact h.cap d hd
 exact j2
theorem y1f(s:ByteArray):∀(f i:Nat) (acc:List Ln) (g:Nat) (x:LO),(Q1l s f i acc).2.2=true->i<=s.size->s.size+1<=g+i->Inv2 s acc x->Inv2 s (Q1l s f i acc).1 (W0e s g i x)
 |0,i,acc,g,x,h,hi,hg,hI=>by simp[Q1l]at h
 |f+1,i,acc,g,x,h,hi,hg,hI=>by
  obtain⟨g,rfl⟩:∃k,g=k+1:=⟨g-1,by omega⟩;unfold Q1l at h ⊢;unfold W0e;by_cases j1:i<s.size
  ·rw[qAb (by omega)]at h ⊢;rw[qAb j1];cases hok:(Q2w s i).2.2
   ·rw[qAb hok]at h;cases h
   rw[qAa (by simp[hok])]at h ⊢;obtain⟨e,j3,j7,j4,j5,j0⟩:=y20 s i hok;rw[j5]at h ⊢;have j2:Q1j s i e:=j0.clean;have j6:Q4d (s.extract i s.size) 10 10=e-i:=by
    refine z7j s i s.size (e-i) 10 10 (by omega) (by omega) ?_ ?_
    ·intro k hk;have:=j2 ((i:Int)+k) (by omega) (by omega);exact⟨by omega,by omega⟩
    right;left;have e1:(i:Int)+((e-i:Nat):Int)=(e:Nat):=by omega
    rw[e1];exact j4
   rw[j6,show i+(e-i)=e by omega,qAb j3];exact y1f s f (e+1) _ g _ h (by omega) (by omega) (x3b hI (by omega) j0)
  rw[qAa (by omega)]at h ⊢;rw[qAa j1];exact hI
theorem Q7y{s:ByteArray}(h:Q0u s=(0,0)):Inv2 s (Q0c s).1 (linesX s):=by
 obtain⟨h1,h2,h3,h4,h5⟩:=z2d h;have j0:(Q1l s (s.size+5) ((0:Nat):Int) []).2.2=true:=h2;exact y1f s (s.size+5) 0 [] (s.size+1) Q9n j0 (by omega) (by omega) ⟨trivial,trivial,rfl,trivial,(by intro y hy;cases hy),(by intro d hd;cases hd)⟩
theorem z4c{lns:List Ln}(hp:∀y∈lns,0<=y.front.place):∀(f i:Nat),Q4p lns f i=-1->lns.length+1<=f+i->∀k (hk:k<lns.length),i<=k->Q7z lns k lns[k]=false
 |0,i,_,hf,k,hk,hi=>by omega
 |f+1,i,h,hf,k,hk,hi=>by
  unfold Q4p at h;have hil:i<lns.length:=by omega
  rw[qE hil]at h;simp only[]at h;cases ho:Q7z lns i lns[i]
  ·rw[ho]at h;simp only[qF,qAz]at h;by_cases e:i=k
   ·subst e;exact ho
   exact z4c hp f (i+1) h (by omega) k hk (by omega)
  rw[ho]at h;simp only[qBn]at h;have:=hp lns[i] (by simp);omega
theorem y28{lns:List Ln}(hp:∀y∈lns,0<=y.front.place)(h:Q3v lns=-1):(Q0g lns).length<=8:=by
 have e:(Q0g lns).length=Q23 lns lns.length:=by unfold Q0g Q23;rw[qAw,qAv]
 rw[e];by_cases h0:lns.length=0
 ·rw[h0];simp[Q23]
 have:=z4c hp _ 0 h (by omega) (lns.length-1) (by omega) (by omega);unfold Q7z at this;simp only[qCb,qCe]at this;have h1:=this.1.1.1;rw[show lns.length-1+1=lns.length by omega]at h1;omega
theorem y8s{d d':Wd}(h:d.ls=d'.ls):Q16 d=Q16 d':=by unfold Q16;rw[h]
theorem x5k{lns:List Ln}(hw:Q2b lns=-1)(hpl:∀y∈lns,0<=y.front.place/\∀d∈y.syms,0<=d.place)(hmem:∀y∈Q05 lns,Q1m (Q0j lns) y.front.ls<(Q0j lns).length){y:Ln}(hy:y∈lns){d:Wd}(hd:d∈y.syms) :
  (Q16 d=true->Q1m (Q0j lns) d.ls<(Q0j lns).length)/\(Q16 d=false->Q1m (Q0g lns) d.ls<(Q0g lns).length):=by
 obtain⟨k,hk,rfl⟩:=qBf hy;have h1:=z7k hpl _ 0 hw (by omega) k hk (by omega);obtain⟨q,hq,rfl⟩:=qBf hd;have h2:=y0h (hpl _ hy).2 _ 0 h1 (by omega) q hq (by omega);unfold W0h at h2;by_cases hf:Q2i lns (lns[k].syms[q]).ls<lns.length
 ·have h3:(lns[Q2i lns (lns[k].syms[q]).ls]).front.ls=(lns[k].syms[q]).ls:=by
   have:=qDz (xs:=lns) (p:=fun x:Ln=>x.front.ls==(lns[k].syms[q]).ls) (w:=hf);exact qBi.1 this
  have h4:=y8s h3;have hz:=qG hf;generalize lns[Q2i lns (lns[k].syms[q]).ls]=z at h3 h4 hz;refine⟨fun e=>?_,fun e=>?_⟩
  ·rw[← h3];refine hmem z ?_;unfold Q05 Q0x;rw[qDi];exact⟨hz,by rw[h4,e];rfl⟩
  unfold Q1m;refine qFw ⟨z.front,?_,by rw[h3];simp⟩;unfold Q0g Q0x;rw[qBj];exact⟨z,qDi.2 ⟨hz,by rw[h4,e];rfl⟩,rfl⟩
 rw[qN (by omega)]at h2;cases h2
theorem tabOk{lns:List Ln}(hw:Q2b lns=-1)(hpl:∀y∈lns,0<=y.front.place/\∀d∈y.syms,0<=d.place)(hmem:∀y∈Q05 lns,Q1m (Q0j lns) y.front.ls<(Q0j lns).length) :
  Q1d (Q0p lns) (Q0g lns).length (Q0j lns).length:=by
 refine⟨fun p hp=>?_,fun p hp s hs=>?_⟩
 ·obtain⟨y,hy,rfl⟩:=qBj.1 hp;have:=hmem y hy;simp only[Q8a];omega
 obtain⟨y,hy,rfl⟩:=qBj.1 hp;obtain⟨d,hd,rfl⟩:=qBj.1 hs;have j1:y∈lns:=(qDi.1 hy).1;obtain⟨h1,h2⟩:=x5k hw hpl hmem j1 hd;simp only[Q9v];by_cases hq:Q16 d=true
 ·have:=h1 hq;simp only[hq,qBn];omega
 have j0:Q16 d=false:=by simpa using hq
 have:=h2 j0;simp only[j0,qF,qAz];omega
theorem z2w{s:ByteArray}(hc:(Q0u s).1=0):Q0u s=(0,0):=by
 unfold Q0u at hc ⊢;repeat' split at hc
 all_goals first
  |(simp at hc;done)
  |skip
 rename_i a b c d e f;rw[qAa a,qAa b,qAa c,qAa d,qAa e,qAa f]
def Q0r(hs:List Hd)(ps:List Pr):List (List Bool):=ps.map fun p=>Q8n hs p.head p.syms
abbrev Q89(w:World)(base:Nat)(v:Value)(al:List (List Bool)):Prop:=w.ownsRow base 147 9 v al.length (Q0y bls al)
theorem infoTk:(Tryz.prog.info? 147).map (fun i=>(i.zero,i.size,i.bytes))=some (some (.agg (tkA zero9)),9,9):=by kernel_rfl
theorem infoTk':∃i,Tryz.prog.info? 147=some i/\i.zero=some (.agg (tkA zero9))/\i.size=9/\i.bytes=9:=nfoE infoTk
abbrev Q26(a0 a1 a2 a3 a4 a5 a6 a7 a8:Bool):Array Value:=#[.bool a0,.bool a1,.bool a2,.bool a3,.bool a4,.bool a5,.bool a6,.bool a7,.bool a8]
theorem x1z(l:List Bool):∀u∈bls l,u.oneCell'=true:=by
 intro u hu;simp[bls]at hu;rcases hu with⟨_,rfl⟩|⟨_,rfl⟩<;>rfl
theorem z6e(w:World)(b:Nat)(R H:Int)(vp vh:Value)(ps:List PV)(hs:List Hd)(h:FA w b R H vp vh ps hs)(hps:ps.length<=1000) :
  Calls Tryz.prog 62 #[Q3c b] w fun e w'=>∃v,e=.returned v/\Q0a w w'/\Q89 w' w.heap.size v (Q0r hs (Q0k ps)):=by
 have jv:=hid h;obtain⟨i0,jp,jr,js,jt⟩:=infoTk';obtain⟨ao,cap,hv⟩:=z0c h.prs.row.own;subst hv;have k2:=h.cell 2;simp at k2;clear h;go_enter Tryz.func62,Tryz.ntmps62
 go_wp2;go_loopw [3,5,6,7,8,15] (fun x3 _ _ _ _ x15 wr=>∃(i:Nat),x15=.int .i64 i/\i<=ps.length/\Q89 wr w.heap.size x3 (Q0r hs (Q0k (ps.take i)))/\Q0a w wr)
   (fun _ _ _ _ _ x _=>ps.length+1-(intOf x).toNat)
 case atStart=>exact⟨0,rfl,by omega,qAh _ _ _ _,mRf _ w⟩
 obtain⟨i,rfl,hi,j4,jh⟩:=hrel;have jm:=hid (Q19 (B:=ps.length+1) i (by omega));have ja:=hid jh;have hF:=jv.fresh jh;have HF:=hid hF;have k3:(Q0r hs (Q0k (ps.take i))).length<=1000:=by simp[Q0r,Q0k];omega
 have jw:Hid (i=ps.length->ps.take i=ps):=fun e=>by rw[e,qAw]
 have jx:Hid (∀j9:i<ps.length,Q0r hs (Q0k (ps.take (i+1)))=Q0r hs (Q0k (ps.take i))++[Q8n hs ps[i].pr.head ps[i].pr.syms]):=fun j9=>by
  rw[Q6e j9];unfold Q0r Q0k;rw[qBp,qBp];rfl
 generalize hy:Q0r hs (Q0k (ps.take i))=ys at *;have HY:=hid hy;have HO:=hid j4;have jf:=hid j4.lt;obtain⟨ro,rc,k4⟩:=z0c j4;subst k4;clear j4 hy;by_cases j9:i<ps.length
 ·have ka:(i:Int)<(ps.length:Int):=by omega
  obtain⟨gp,jz,jq⟩:=Joins.ownsRow_form hF.prs.row.own (by omega);rw[qI]at jq;obtain⟨rfl,_,rfl⟩:=jq;have RG:Hid (wr.rangeAt gp (i*2) [.int .i64 ps[i].pr.head,ps[i].vs]):=hF.prs.row.range i j9;have k9:=hF.size;have jb:=hid (hF.fresh ((mRf _ wr).alloc (.cells #[.int .i64 ps[i].pr.head,ps[i].vs] 85 (0,0))));have jc:=hid (jb.prs.syms ps[i] (by simp));have j2:=jx.out j9;generalize ps[i].pr=pr at j2 RG jc jb;generalize ps[i].vs=pvs at RG jc jb;obtain⟨ph,jd⟩:=pr;dsimp only at j2 RG jc jb;obtain⟨ju,je,k6,_⟩:=jc.out;subst k6;have j3:=hid (z1a hF.ok jd zero9 rfl);have j5:=hid (z0k hF.ok ph);have BA:=hid (z6a _ b R H _ vh ps hs b _ jd jb.out (by simp;omega) jc.out);have GA:=hid (fun w (h:FA w b R H (.slice (some ⟨gp,0,none⟩) ps.length cap) vh ps hs)=>z4l w b R H _ vh ps hs ph h);unfold Q8n at j2;generalize Q2q hs jd zero9=bg at j2 j3 BA;generalize Q1k hs ph=hd at j2 j5 GA;obtain⟨jg,jy⟩:=bg;dsimp only at j2 j3 BA;clear hF jh;cases jy
  ·simp only[qF,qAz]at j2;have j6:=hid j2;obtain⟨a0,a1,a2,a3,a4,a5,a6,a7,a8,e9⟩:=Q7n j3.out;subst e9;clear j2;go_wp2_with (first
    |(at_builtin;refine z0f _ rfl _ _ 139 rfl w.heap.size 147 i0 _ 9 9 Tryz.underlying139 jp jr js jt rfl (by decide) _ _ _ rfl (ji.alloc _) ⟨w1.heap.size+1,0,none⟩ 1 1 (bls [a0,a1,a2,a3,a4,a5,a6,a7,a8]) rfl rfl (z13 rfl) (x1z _) (by unfold maxLen;omega) (by omega) (by have h3:=ja.size;have h4:=j8.size;simp at h4;simp;omega) ?_)
    |(refine qAf rfl 147 _ rfl w1.heap.size rfl _ (Q26 a0 a1 a2 a3 a4 a5 a6 a7 a8) _ _ (z0a _ _) qAk rfl Q75 ?_)
    |(refine z0e rfl 147 _ _ rfl w1 _ (Q26 a0 a1 a2 a3 a4 a5 a6 a7 a8) _ rfl rfl rfl Q75 rfl (z1h [a0,a1,a2,a3,a4,a5,a6,a7,a8]) ?_)
    |(go_at_call 64;refine BA.mono ?_;rintro e w1⟨rfl,j8⟩;have ji:=hid ((z0d HO.out (fun g hg=>(Mod.trans ((mRf (fun _=>False) wr).alloc _) j8).block g (jf.out g hg).2 id)).alloc (.cells (Q26 a0 a1 a2 a3 a4 a5 a6 a7 a8) 147 (0,0))))
    |(refine qAe rfl 85 _ rfl gp (i*2) rfl [.int .i64 ph,.slice ju jd.length je] _ RG.out qCz rfl W0n ?_))
   intro v' w5 j1 j0 j7;have jk:Q0a w w5:=Mod.grown (S:=fun _=>False) (((ja.alloc _).trans j8).alloc _ |>.alloc _) j0 (fun k hk j9=>by have:=(jf.out k hk).1;omega);have jj:=hid j1;clear j1 j0 j7;go_wp2;go_roundw
   case rel =>
    refine⟨i+1,by go_num,by omega,?_,jk⟩;unfold Q89;rw[j6.out,z0v,qP,qAj];exact jj.out
   exact jm.out
  simp only[qBn]at j2;have jn:=hid (z04 j3.out j5.fo);have TU:=hid (fun w=>z1c w jg hd.fo j3.out j5.fo);generalize orL jg hd.fo=OO at j2 jn TU;have j6:=hid j2;obtain⟨a0,a1,a2,a3,a4,a5,a6,a7,a8,e9⟩:=Q7n jn.out;subst e9;clear j2;go_wp2_with (first
   |(at_builtin;refine z0f _ rfl _ _ 139 rfl w.heap.size 147 i0 _ 9 9 Tryz.underlying139 jp jr js jt rfl (by decide) _ _ _ rfl (ji.alloc _) ⟨w3.heap.size,0,none⟩ 1 1 (bls [a0,a1,a2,a3,a4,a5,a6,a7,a8]) rfl rfl (by have q:=@z0m (w3.setRow w1.heap.size (Q26 a0 a1 a2 a3 a4 a5 a6 a7 a8)) (Q26 a0 a1 a2 a3 a4 a5 a6 a7 a8) (bls [a0,a1,a2,a3,a4,a5,a6,a7,a8]) 147 rfl;rw[k5]at q;exact q) (x1z _) (by unfold maxLen;omega) (by omega) (by have h3:=ja.size;have h4:=f3.size;simp at h4;simp;omega) ?_)
   |(refine qAf rfl 147 _ rfl w1.heap.size rfl _ (Q26 a0 a1 a2 a3 a4 a5 a6 a7 a8) _ _ k8.out qAk rfl Q75 ?_)
   |(refine qAg rfl 147 _ _ rfl w1.heap.size (Q26 a0 a1 a2 a3 a4 a5 a6 a7 a8) rfl rfl _ _ t3.out Q75 (Q0l (z0u j3.out) rfl) (z1h [a0,a1,a2,a3,a4,a5,a6,a7,a8]) ?_)
   |(go_at_call 65;refine(TU.out _).mono ?_;rintro e w3⟨rfl,jo⟩;have t3:=hid (jo.at (z0b t2.out) id);have f3:Hid (Q0a wr (w3.setRow w1.heap.size (Q26 a0 a1 a2 a3 a4 a5 a6 a7 a8))):=(Mod.trans (f2.alloc _) jo).setRow (by intro q;omega) _;have k8:=hid (qAn _ _ _ (Q26 a0 a1 a2 a3 a4 a5 a6 a7 a8) _ _ t3.out);have k5:(w3.setRow w1.heap.size (Q26 a0 a1 a2 a3 a4 a5 a6 a7 a8)).heap.size=w3.heap.size:=(by simp);have ji:=hid (z0d HO.out (fun g hg=>f3.block g (jf.out g hg).2 id)))
   |(refine qAe rfl 147 _ rfl w2.heap.size 12 rfl (bls hd.fo) _ (Q4u j5.out (z0a _ _)) qAk rfl (Q5u j5.fo) ?_)
   |(refine qAf rfl 147 _ rfl w1.heap.size rfl _ _ _ _ (z0b t2.out) qAk rfl (Q0t j3.out) ?_)
   |(refine z0e rfl 200 _ _ rfl w2 _ (hdA hd) _ rfl rfl rfl (Q1q j5.out) (Q0l rfl (z07 j5.out)) (z1w _) ?_)
   |(go_at_call 101;refine(GA.out _ (HF.fresh (f1.alloc _))).mono ?_;rintro e w2⟨rfl,jl⟩;have kd:w1.heap.size<w2.heap.size:=(by have:=jl.size;simp at this;omega);have f2:Hid (Q0a wr w2):=Mod.trans (f1.alloc _) jl;have t2:=hid (jl.at (z0a w1 _) id))
   |(refine z0e rfl 147 _ _ rfl w1 _ (tkA jg) _ rfl rfl rfl (Q0t j3.out) (Q0l rfl (z0u j3.out)) (z1h _) ?_)
   |(go_at_call 64;refine BA.mono ?_;rintro e w1⟨rfl,j8⟩;have kc:wr.heap.size<w1.heap.size:=(by have:=j8.size;simp at this;omega);have f1:Hid (Q0a wr w1):=Mod.trans ((mRf _ wr).alloc _) j8;have k1:(w1.alloc (.cells (tkA jg) 147 (0,0))).cell? ⟨wr.heap.size,0,none⟩=some (.int .i64 ph):=(by rw[Q0b (z0b (j8.at (z0a _ _) id)) 0];rfl))
   |(refine qAe rfl 85 _ rfl gp (i*2) rfl [.int .i64 ph,.slice ju jd.length je] _ RG.out qCz rfl W0n ?_))
  intro v' w5 j1 j0 j7;have jk:Q0a w w5:=Mod.grown (S:=fun _=>False) ((ja.trans f3.out).alloc _) j0 (fun k hk j9=>by have:=(jf.out k hk).1;omega);have jj:=hid j1;clear j1 j0 j7;go_wp2;go_roundw
  case rel =>
   refine⟨i+1,by go_num,by omega,?_,jk⟩;unfold Q89;rw[j6.out,z0v,qP,qAj];exact jj.out
  exact jm.out
 have k0:i=ps.length:=by omega
 have kb:¬(i:Int)<(ps.length:Int):=by omega
 have k7:=jw.out k0;clear hF jh;go_wp2;go_ret;refine⟨_,rfl,ja.out,?_⟩;rw[← k7,HY.out];exact HO.out
def ldT(v:Value):Sem Value:=Instr.loadAt 147 v
theorem x6v(v:Value):Instr.loadAt 147 v=ldT v:=rfl
theorem v0j{w:World}{g o:Nat}{l:List Bool}(hl:l.length=9)(hr:w.rangeAt g o (bls l)):(ldT (.pointer (some ⟨g,o,none⟩))).run Tryz.prog w=.ok (.agg (tkA l)) w :=
 qFo w g o _ _ _ hr qAk rfl (Q5u hl)
def ovL(n t:Int):List (Pr × List Bool)->Nat->List Int
 | [],_=>[]
 |p::l,i=>if p.1.head=n/\Q9e p.2 t=true then(i:Int)::ovL n t l (i+1) else ovL n t l (i+1)
theorem y7a(n t:Int):∀(l:List (Pr × List Bool)) (i:Nat),(ovL n t l i).length<=l.length
 | [],_=>by simp[ovL]
 |p::l,i=>by
  unfold ovL;have:=y7a n t l (i+1);split<;>simp<;>omega
attribute [local go_sem ↓] x6v
theorem z6p(w:World)(R H:Int)(vp:Value)(ps:List PV)(hp:Q2e w w.heap.size vp ps)(hps:ps.length<=1000)(va:Value)(al:List (List Bool))(base:Nat)(ha:Q89 w base va al)(hal:al.length=ps.length)(ha9:∀a∈al,a.length=9)(n t:Int) :
  Calls Tryz.prog 63 #[.agg #[.int .i64 R,.int .i64 H,vp],va,.int .i64 n,.int .i64 t] w fun e w'=>∃v,e=.returned v/\Q0a w w'/\IntOwn w' w.heap.size v (ovL n t ((Q0k ps).zip al) 0):=by
 obtain⟨i0,jx,k2,k3,k4⟩:=infoI';have HP:=hid hp;obtain⟨pa,pc,k1⟩:=z0c hp.row.own;subst k1;obtain⟨aa,ac,k0⟩:=z0c ha;subst k0;have jr:Hid (Q18 bls 9 147 w (.slice aa al.length ac) al):=⟨z0g ha (qBq _),fun x hx=>by simp[bls,ha9 x hx]⟩;have jq:=hid ha9;generalize hR:ovL n t ((Q0k ps).zip al) 0=RES;have HR:=hid hR;rw[hal];have je:=hid hal;clear hp ha ha9 hR hal;go_enter Tryz.func63,Tryz.ntmps63
 go_wp2;go_loopw [9,10,11,15] (fun x9 _ _ x15 wr=>∃(i:Nat) (j3:List Int),x15=.int .i64 i/\i<=ps.length/\j3.length<=i/\j3++ovL n t (((Q0k ps).zip al).drop i) i=RES/\IntOwn wr w.heap.size x9 j3/\Q0a w wr)
   (fun _ _ _ x _=>1001-(intOf x).toNat)
 case atStart=>exact⟨0,[],rfl,by omega,by simp,HR.out,qAh _ _ _ _,(mRf _ w).alloc _⟩
 obtain⟨i,j3,rfl,hi,jw,j0,j4,j9⟩:=hrel;have jf:=hid (Q19 (B:=1001) i (by omega));have j8:=hid j9;have HO:=hid j4;have jg:=hid j4.lt;obtain⟨ro,rc,jz⟩:=z0c j4;subst jz;clear j4;by_cases jk:i<ps.length
 ·have jy:(i:Int)<(ps.length:Int):=by omega
  have jj:i<al.length:=by have:=je.out;omega
  have jp:i<((Q0k ps).zip al).length:=by have:=je.out;simp[Q0k];omega
  rw[qC jp]at j0;have jo:((Q0k ps).zip al)[i]=(ps[i].pr,al[i]):=by simp[Q0k]
  rw[jo]at j0;unfold ovL at j0;dsimp only at j0;have jd:=HP.kept (qR _) j9 (fun _ _ x=>x);obtain⟨gp,ju,jn⟩:=Joins.ownsRow_form jd.row.own (by omega);rw[qI]at jn;obtain⟨rfl,_,rfl⟩:=jn;have RG:Hid (wr.rangeAt gp (i*2) [.int .i64 ps[i].pr.head,ps[i].vs]):=jd.row.range i jk;obtain⟨jc,j2,jm,_⟩:=jd.syms ps[i] (by simp);have ji:=(jr.fresh j9);obtain⟨ga,k5,jb⟩:=Joins.ownsRow_form ji.own (by omega);rw[qI]at jb;obtain⟨rfl,_,rfl⟩:=jb;have jl:=ji.range i jj;have h9:=jq.out al[i] (by simp);have TH:=hid (fun w=>x78 w al[i] t h9);generalize hpl:ps[i].pr.syms.length=pl at jm;generalize ps[i].pr.head=ph at j0 RG;rw[jm]at RG;have l1:(ldT (.pointer (some ⟨ga,i*9,none⟩))).run Tryz.prog (wr.alloc (.cells #[.int .i64 ph,.slice jc pl j2] 85 (0,0)))=.ok (.agg (tkA al[i])) (wr.alloc (.cells #[.int .i64 ph,.slice jc pl j2] 85 (0,0))) :=
   v0j h9 (World.rangeAt_alloc jl _)
  generalize al[i]=ai at j0 TH l1;have b4:decide ((i:Int)<(ps.length:Int))=true:=by simpa using jy
  clear jd ji jl h9 j9 jo jj jp;by_cases hh:ph=n
  ·subst hh;generalize Q9e ai t=tv at j0 TH;cases tv
   ·rw[qAa (by simp)]at j0;have j1:=hid j0;clear j0;go_wp2_with (first
     |(go_at_call 102;refine(TH.out _).mono ?_;rintro e w1⟨rfl,j7⟩)
     |(refine qAe rfl 85 _ rfl gp (i*2) rfl [.int .i64 ph,.slice jc pl j2] _ RG.out qCz rfl W0n ?_))
    go_roundw
    case rel =>
     refine⟨i+1,j3,by go_num,by omega,by omega,j1.out,?_,(j8.alloc _).trans j7⟩;exact z0d HO.out (fun g hg=>(Mod.trans ((mRf (fun _=>False) wr).alloc _) j7).block g (jg.out g hg).2 id)
    exact jf.out
   rw[qAb ⟨rfl,rfl⟩]at j0;have j1:=hid j0;clear j0;go_wp2_with (first
    |(at_builtin;refine z0f _ rfl _ _ 24 rfl w.heap.size 3 i0 _ 1 8 qDq jx k2 k3 k4 rfl (by decide) _ _ _ rfl (js.alloc _) ⟨w1.heap.size,0,none⟩ 1 1 [.int .i64 i] rfl rfl (z0m rfl) (by intro u hu;simp at hu;subst hu;rfl) (by unfold maxLen;omega) (by omega) (by have h3:=j8.size;have h4:=j7.size;simp at h4;simp;omega) ?_)
    |(go_at_call 102;refine(TH.out _).mono ?_;rintro e w1⟨rfl,j7⟩;have js:=hid (z0d HO.out (fun g hg=>(Mod.trans ((mRf (fun _=>False) wr).alloc _) j7).block g (jg.out g hg).2 id)))
    |(refine qAe rfl 85 _ rfl gp (i*2) rfl [.int .i64 ph,.slice jc pl j2] _ RG.out qCz rfl W0n ?_))
   intro v' w5 j6 j5 jh;have jv:Q0a w w5:=Mod.grown (S:=fun _=>False) (((j8.alloc _).trans j7).alloc _) j5 (fun k hk jk=>by have:=(jg.out k hk).1;omega);have jt:=hid j6;clear j6 j5 jh;go_wp2;go_roundw
   case rel =>
    refine⟨i+1,j3++[(i:Int)],by go_num,by omega,by simp;omega,by rw[qAs];exact j1.out,?_,jv⟩;unfold IntOwn;rw[qP,qAj,show Q9p (j3++[(i:Int)])=Q9p j3++[.int .i64 i] from by simp];exact jt.out
   exact jf.out
  have b1:(ph==n)=false:=by simp[hh]
  rw[qAa (fun h=>hh h.1)]at j0;have j1:=hid j0;clear j0;go_wp2_with (first
   |(refine qAe rfl 85 _ rfl gp (i*2) rfl [.int .i64 ph,.slice jc pl j2] _ RG.out qCz rfl W0n ?_))
  go_roundw
  case rel =>
   refine⟨i+1,j3,by go_num,by omega,by omega,j1.out,?_,j8.alloc _⟩;exact HO.alloc _
  exact jf.out
 have k7:i=ps.length:=by omega
 have k6:¬(i:Int)<(ps.length:Int):=by omega
 rw[qAp (by have:=je.out;simp[Q0k];omega)]at j0;have ja:j3=RES:=by simpa [ovL]using j0
 subst ja;clear j0 j9;go_wp2;go_ret;exact⟨_,rfl,j8.out,HO.out⟩
structure Cl where
 h:Int
 t:Int
 a:Int
 b:Int
def Cl.cells(c:Cl):List Value:=[.int .i64 c.h,.int .i64 c.t,.int .i64 c.a,.int .i64 c.b]
def Q6l(n t:Int):List Int->List Cl
 | []=>[]
 |f::r=>(r.map fun s=>⟨n,t,f,s⟩)++Q6l n t r
def clT(z:List (Pr × List Bool))(n R:Nat):Nat->Nat->List Cl
 |0,_=>[]
 |f+1,t=>if t<=R then Q6l n t (ovL n t z 0)++clT z n R f (t+1) else []
def clN(z:List (Pr × List Bool))(R H:Nat):Nat->Nat->List Cl
 |0,_=>[]
 |f+1,n=>if n<H then clT z n R (R+2) 0++clN z R H f (n+1) else []
def Q6g(z:List (Pr × List Bool))(R H:Nat):List Cl:=clN z R H (H+1) 0
theorem y45(n t:Int):∀l:List Int,(Q6l n t l).length<=l.length*l.length
 | []=>by simp[Q6l]
 |f::r=>by
  have ih:=y45 n t r;simp only[Q6l,qP,qAv,qBk];have:(r.length+1)*(r.length+1)=r.length*r.length+2*r.length+1:=by
   rw[qFc,Nat.mul_add];omega
  omega
theorem v05(z:List (Pr × List Bool))(hz:z.length<=1000)(n t:Int):(Q6l n t (ovL n t z 0)).length<=1000000:=by
 have h1:=y45 n t (ovL n t z 0);have h2:=y7a n t z 0;have h3:(ovL n t z 0).length*(ovL n t z 0).length<=1000*1000:=Nat.mul_le_mul (by omega) (by omega);omega
theorem x2f(z:List (Pr × List Bool))(hz:z.length<=1000)(n R:Nat):∀(f t:Nat),(clT z n R f t).length<=f*1000000
 |0,_=>by simp[clT]
 |f+1,t=>by
  unfold clT;have h1:=v05 z hz n t;have h2:=x2f z hz n R f (t+1);split
  ·rw[qP];omega
  simp
theorem y6r(z:List (Pr × List Bool))(hz:z.length<=1000)(R H:Nat)(hR:R<=1000):∀(f n:Nat),(clN z R H f n).length<=f*1002000000
 |0,_=>by simp[clN]
 |f+1,n=>by
  unfold clN;have h1:=x2f z hz n R (R+2) 0;have h2:=y6r z hz R H hR f (n+1);split
  ·rw[qP];omega
  simp
abbrev Q69(w:World)(base:Nat)(v:Value)(l:List Cl):Prop:=w.ownsRow base 122 4 v l.length (Q0y Cl.cells l)
theorem infoCl:(Tryz.prog.info? 122).map (fun i=>(i.zero,i.size,i.bytes))=some (some (.agg #[.int .i64 0,.int .i64 0,.int .i64 0,.int .i64 0]),4,32):=by kernel_rfl
theorem infoCl':∃i,Tryz.prog.info? 122=some i/\i.zero=some (.agg #[.int .i64 0,.int .i64 0,.int .i64 0,.int .i64 0])/\i.size=4/\i.bytes=32:=nfoE infoCl
theorem z50{w:World}{base:Nat}{g n cap:Nat}{l:List Int}(h:IntOwn w base (.slice (some ⟨g,0,none⟩) n cap) l)(i:Nat)(hi:i<l.length):w.cell? ⟨g,i,none⟩=some (.int .i64 l[i]):=by
 have:=h.cells (g:=g) rfl i (.int .i64 l[i]) (by simp[hi]);rwa [qDd,qBy]at this
theorem y6h(w:World)(R H:Nat)(vp:Value)(ps:List PV)(hp:Q2e w w.heap.size vp ps)(hps:ps.length<=1000)(hH:H<=1000)(hR:R<=1000)(hok:∀x∈Q33 (Q0k ps) (Q0z R H),x.ok) :
  Calls Tryz.prog 32 #[.agg #[.int .i64 R,.int .i64 H,vp]] w fun e w'=>∃v,e=.returned v/\Q0a w w'/\Q69 w' w.heap.size v (Q6g ((Q0k ps).zip (Q0r (Q33 (Q0k ps) (Q0z R H)) (Q0k ps))) R H):=by
 obtain⟨i0,ks,x8,x9,xa⟩:=infoCl';obtain⟨pa,pc,kz⟩:=z0c hp.row.own;subst kz;have HP:=hid hp;have FI:=hid (y4c (w.alloc (.cells #[.int .i64 R,.int .i64 H,.slice pa ps.length pc] 42 (0,0))) R H (.slice pa ps.length pc) ps ((hp.kept (qR _) ((mRf (fun _=>False) w).alloc _) (fun _ _ x=>x)).up (by simp)) hps hH hR);generalize Q33 (Q0k ps) (Q0z R H)=AL at FI hok;have k9:((Q0k ps).zip (Q0r AL (Q0k ps))).length<=1000:=by simp[Q0r,Q0k];omega
 have k5:(Q0r AL (Q0k ps)).length=ps.length:=by simp[Q0r,Q0k]
 have k4:∀a∈Q0r AL (Q0k ps),a.length=9:=fun a ha=>by
  obtain⟨p,_,rfl⟩:=qBj.1 ha;exact z3j hok _ _
 have ku:=y6r _ k9 R H hR (H+1) 0;generalize hRES:Q6g ((Q0k ps).zip (Q0r AL (Q0k ps))) R H=RES;have j7:=hid hRES;have kv:RES.length<=1003002000000:=by
  rw[← hRES];unfold Q6g;omega
 clear hp hRES ku hok;go_enter Tryz.func32,Tryz.ntmps32
 go_wp2_with (first
  |(go_at_call 62;refine(z6e w1 b R H (.slice pa ps.length pc) vh ps AL k3 hps).mono ?_;rintro e w2⟨va,rfl,jl,jm⟩)
  |(go_at_call 61;refine FI.mono ?_;rintro e w1⟨b,vh,rfl,ju,k3⟩))
 have j9:=hid (jl.at (ju.at (z0a _ _) id) id);have ji:Hid (Q0a w w2):=Mod.trans ((mRf _ w).alloc _) (ju.trans jl);have xc:=hid jm;have PO:=hid (fun(W:World) (hW:Q0a w2 W) (n t:Nat)=>z6p W R H (.slice pa ps.length pc) ps ((HP.kept (qR _) (ji.trans hW) (fun _ _ x=>x)).up ((ji.trans hW).size)) hps va (Q0r AL (Q0k ps)) _ (z0d jm (fun g hg=>hW.block g (jm.lt g hg).2 id)) k5 k4 (n:Int) (t:Int));have xt:=jl.size;have x4:=ji.size;generalize(Q0k ps).zip (Q0r AL (Q0k ps))=z at j7 k9 PO;clear jm k3 ju jl FI k5 k4;go_loopw [5,6,7,8,9,10,12,36,46] (fun x5 x6 _ _ _ _ _ _ _ wr=>∃(n:Nat) (j2:List Cl),x6=.int .i64 n/\n<=H/\j2++clN z R H (H+1-n) n=RES/\Q69 wr w2.heap.size x5 j2/\Q0a w2 wr)
   (fun _ x _ _ _ _ _ _ _ _=>H+1-(intOf x).toNat)
 case atStart=>exact⟨0,[],rfl,by omega,j7.out,qAh _ _ _ _,mRf _ _⟩
 obtain⟨n,j2,rfl,hn,j0,j1,j3⟩:=hrel;have kh:=hid (Q19 (B:=H+1) n (by omega));have jz:=hid j3;have c1:=Q0b (j3.at j9.out id) 1;have c0:=Q0b (j3.at j9.out id) 0;simp at c1 c0;obtain⟨ro,rc,kx⟩:=z0c j1;have HO:=hid j1;subst kx;clear j1 j3;by_cases jw:n<H
 ·have xm:(n:Int)<(H:Int):=by omega
  rw[show H+1-n=(H-n)+1 by omega]at j0;unfold clN at j0;rw[qAb jw]at j0;have km:=hid j0;clear j0;obtain⟨wn,x1⟩:∃wn,wn=wr:=⟨_,rfl⟩;subst x1;go_wp2;go_loopw [5,7,8,9,10,12,36,46] (fun x5 x7 _ _ _ _ _ _ wr=>∃(t:Nat) (j2:List Cl),x7=.int .i64 t/\t<=R+1/\j2++(clT z n R (R+2-t) t++clN z R H (H-n) (n+1))=RES/\Q69 wr w2.heap.size x5 j2/\Q0a w2 wr)
    (fun _ x _ _ _ _ _ _ _=>R+2-(intOf x).toNat)
  case atStart=>exact⟨0,j2,rfl,by omega,km.out,HO.out,jz.out⟩
  obtain⟨t,j2,rfl,ht,j0,j1,j3⟩:=hrel;have ki:=hid (Q19 (B:=R+2) t (by omega));have jb:=hid j3;have xe:=z0j (j3.at j9.out id);have c1:=Q0b (j3.at j9.out id) 1;have c0:=Q0b (j3.at j9.out id) 0;have c2:=Q0b (j3.at j9.out id) 2;simp at c1 c0 c2;obtain⟨so,sc,ky⟩:=z0c j1;have jj:=hid j1;subst ky;clear j1 j3;by_cases jg:t<=R
  ·have xp:(t:Int)<=(R:Int):=by omega
   rw[show R+2-t=(R+1-t)+1 by omega]at j0;unfold clT at j0;rw[qAb jg,qAs]at j0;obtain⟨wt,x3⟩:∃wt,wt=wr:=⟨_,rfl⟩;subst x3;have k2:=hid (PO.out wt jb.out n t);generalize hov:ovL (n:Int) (t:Int) z 0=able at j0 k2;have ko:able.length<=1000:=by rw[← hov];have:=y7a n t z 0;omega
   generalize hREST:clT z n R (R+1-t) (t+1)++clN z R H (H-n) (n+1)=REST at j0;have jd:=hid hREST;clear hREST;have js:=hid j0;clear j0 hov;have kf:=jb;go_wp2_with (first
    |(go_at_call 63;refine k2.mono ?_;rintro e w3⟨v8,rfl,jv,j4⟩;obtain⟨a8,c8,e8⟩:=z0c j4;subst e8;have kk:=hid j4;have kd:=hid (jb.trans jv);have kl:=hid (z0d jj.out (fun g hg=>jv.block g (jj.lt g hg).2 id));have kc:Hid (∀k,(Value.slice so j2.length sc).ownBlock=some k->(Value.slice a8 able.length c8).ownBlock≠some k):=(fun k hk e=>by have q1:=(jj.lt k hk).2;have q2:=(j4.lt k e).1;omega);clear j4 jv)
    |(refine qAf rfl 42 _ rfl w.heap.size rfl _ #[.int .i64 R,.int .i64 H,.slice pa ps.length pc] _ _ (jb.at j9.out id) Tryz.underlying42 rfl szTab ?_))
   clear c0 c1 c2;go_loopw [5,9,10,12,36,46] (fun x5 _ _ _ x36 _ wr=>∃(i:Nat) (j2:List Cl),x36=.int .i64 i/\i<=able.length/\j2++(Q6l n t (able.drop i)++REST)=RES/\Q69 wr w2.heap.size x5 j2/\IntOwn wr wt.heap.size (.slice a8 able.length c8) able/\(∀k,x5.ownBlock=some k->(Value.slice a8 able.length c8).ownBlock≠some k)/\Q0a w2 wr)
     (fun _ _ _ _ x _ _=>1001-(intOf x).toNat)
   case atStart=>exact⟨0,j2,rfl,by omega,js.out,kl.out,kk.out,kc.out,kd.out⟩
   obtain⟨i,j2,rfl,hi,j0,j1,j4,jf,j3⟩:=hrel;have k0:=hid (Q19 (B:=1001) i (by omega));have jo:=hid j3;have jp:=hid j1;have jc:=hid j4;have ja:=hid jf;obtain⟨qo,qc,jx⟩:=z0c j1;subst jx;clear j1 j3 jf;by_cases jh:i<able.length
   ·have xh:(i:Int)<(able.length:Int):=by omega
    obtain⟨g8,xd,k8⟩:=Joins.ownsRow_form j4 (by omega);rw[qI]at k8;obtain⟨rfl,_,rfl⟩:=k8;have kp:able.length<=c8:=by
     rcases j4.2 with⟨h1,_⟩|⟨g',jt,kn,h1,_,_,h4,_⟩
     ·cases h1
     rw[qI]at h1;omega
    have xg:c8<=2 ^ 63-1:=by
     rcases j4.2 with⟨h1,_⟩|⟨g',jt,kn,h1,_,_,_,h5,_⟩
     ·cases h1
     rw[qI]at h1;unfold maxLen at h5;omega
    have d1:=z50 j4 i jh;rw[qC jh]at j0;unfold Q6l at j0;rw[qAs]at j0;generalize able[i]=fst at j0 d1;generalize hR2:Q6l n t (able.drop (i+1))++REST=REST2 at j0;have k1:=hid hR2;have jk:=hid j0;clear j0 j4 hR2;obtain⟨wi,x0⟩:∃wi,wi=wr:=⟨_,rfl⟩;subst x0;rcases(show c8=i+1∨¬c8=i+1 by omega)with hc8|hc8
    ·have k7:able.length=i+1:=by omega
     have HE:Hid (j2++REST2=RES):=by
      have:=jk.out;rw[qAp (by omega)]at this;unfold Hid;simpa using this
     have h0:able.length-(i+1)=0:=by omega
     subst hc8;have xb:=hid k7;clear k7;go_wp2;go_loopw [5,12,46] (fun x5 _ x46 wr=>x5=.slice qo j2.length qc/\x46=.int .i64 0/\wr=wi)
       (fun _ _ _ _=>0)
     case atStart=>exact⟨rfl,rfl,rfl⟩
     obtain⟨rfl,rfl,x2⟩:=hrel;subst x2;go_wp2;go_roundw
     case rel=>exact⟨i+1,j2,by go_num,by omega,by rw[k1.out];exact HE.out,jp.out,jc.out,ja.out,jo.out⟩
     exact k0.out
    have xf:¬c8-(i+1)=0:=by omega
    go_wp2;go_loopw [5,12,46] (fun x5 _ x46 wr=>∃(j:Nat) (j2:List Cl),x46=.int .i64 j/\j<=able.length-(i+1)/\j2++((((able.drop (i+1)).drop j).map fun s=>(⟨n,t,fst,s⟩:Cl))++REST2)=RES/\Q69 wr w2.heap.size x5 j2/\IntOwn wr wt.heap.size (.slice (some ⟨g8,0,none⟩) able.length c8) able/\(∀k,x5.ownBlock=some k->(Value.slice (some ⟨g8,0,none⟩) able.length c8).ownBlock≠some k)/\Q0a w2 wr)
      (fun _ _ x _=>1001-(intOf x).toNat)
    case atStart=>exact⟨0,j2,rfl,by omega,jk.out,jp.out,jc.out,ja.out,jo.out⟩
    obtain⟨j,j2,rfl,hj,j0,j1,j4,jf,j3⟩:=hrel;have kg:=hid (Q19 (B:=1001) j (by omega));have jy:=hid j3;have jq:=hid j1;have j6:=hid j4;have jn:=hid jf;have k6:j2.length<=RES.length:=by rw[← j0];simp
    obtain⟨qo,qc,jx⟩:=z0c j1;subst jx;have xs:=j3.size;clear j1 j3 jf;by_cases kw:j<able.length-(i+1)
    ·have xj:(j:Int)<((able.length-(i+1):Nat):Int):=by omega
     have kq:j<(able.drop (i+1)).length:=by simp;omega
     rw[qC kq,qDl]at j0;have d2:=z50 j4 (i+1+j) (by omega);have kr:(able.drop (i+1))[j]=able[i+1+j]'(by omega):=by simp
     rw[kr]at j0;generalize able[i+1+j]'(by omega)=snd at j0 d2;have jr:=hid j0;clear j0 j4;go_wp2_with (first
      |(at_builtin;refine z0f _ rfl _ _ 57 rfl w2.heap.size 122 i0 _ 4 32 Tryz.underlying57 ks x8 x9 xa rfl (by decide) _ _ _ rfl (jq.alloc _) ⟨wr.heap.size,0,none⟩ 1 1 [.int .i64 n,.int .i64 t,.int .i64 fst,.int .i64 snd] rfl rfl (z0m rfl) (by intro u hu;simp at hu;rcases hu with rfl|rfl|rfl|rfl<;>rfl) (by unfold maxLen;omega) (by omega) (by simp;omega) ?_))
     intro v' w5 j8 j5 je;have ke:Hid (Q0a w2 w5):=Mod.grown (S:=fun _=>False) (jy.alloc _) j5 (fun k hk jw=>by have:=(jq.lt k hk).1;omega);have ka:Hid (IntOwn w5 wt.heap.size (.slice (some ⟨g8,0,none⟩) able.length c8) able):=z0d (j6.alloc _) (fun g hg=>j5.block g ((j6.alloc _).lt g hg).2 (fun e=>jn.out g e.symm hg));have kb:Hid (∀k,v'.ownBlock=some k->(Value.slice (some ⟨g8,0,none⟩) able.length c8).ownBlock≠some k):=fun k hk e=>by
      rcases je k hk with q1|q1
      ·exact jn.out k q1 e
      have q2:=(j6.lt k e).2;first|omega|(simp at q1;omega)
     have kj:=hid j8;clear j8 j5 je;go_wp2;go_roundw
     case rel =>
      refine⟨j+1,j2++[⟨n,t,fst,snd⟩],by go_num,by omega,?_,?_,ka.out,kb.out,ke.out⟩
      ·rw[qAs];exact jr.out
      unfold Q69;rw[z0v,qP,qAj];exact kj.out
     exact kg.out
    have xl:j=able.length-(i+1):=by omega
    have xk:¬(j:Int)<((able.length-(i+1):Nat):Int):=by omega
    rw[qAp (by simp;omega),List.map_nil,qCh]at j0;have jr:=hid j0;clear j0 j4;go_wp2;go_roundw
    case rel=>exact⟨i+1,j2,by go_num,by omega,by rw[k1.out];exact jr.out,jq.out,j6.out,jn.out,jy.out⟩
    exact k0.out
   have kt:i=able.length:=by omega
   have xi:¬(i:Int)<(able.length:Int):=by omega
   rw[kt,qCy]at j0;have jk:Hid (j2++REST=RES):=by unfold Hid;simpa [Q6l]using j0
   clear j0 j4;go_wp2;go_roundw
   case rel=>exact⟨t+1,j2,by go_num,by omega,by rw[show R+2-(t+1)=R+1-t by omega,jd.out];exact jk.out,jp.out,jo.out⟩
   exact ki.out
  have xr:t=R+1:=by omega
  have xq:¬(t:Int)<=(R:Int):=by omega
  rw[show R+2-t=1 by omega]at j0;unfold clT at j0;rw[qAa jg,qCh]at j0;have js:=hid j0;clear j0;go_wp2;go_roundw
  case rel=>exact⟨n+1,j2,by go_num,by omega,by rw[show H+1-(n+1)=H-n by omega];exact js.out,jj.out,jb.out⟩
  exact kh.out
 have xo:n=H:=by omega
 have xn:¬(n:Int)<(H:Int):=by omega
 rw[show H+1-n=1 by omega]at j0;unfold clN at j0;rw[qAa jw,qBd]at j0;subst j0;go_wp2;go_ret;exact⟨_,rfl,ji.trans jz.out,z0g HO.out x4⟩
def Q13(s:ByteArray):List Cl:=Q6g ((Q0p (Q0c s).1).zip (Q0r (Q7p s) (Q0p (Q0c s).1))) (Q0g (Q0c s).1).length (Q0j (Q0c s).1).length
section
variable {ps:List Pr}{R H:Nat}{hs:List Hd}
end
theorem isAggI(w:World):(isAgg 3).run Tryz.prog w=.ok false w:=by
 unfold isAgg;rw[Sem.run_bind,run_underlying qEj];rfl
theorem partI(xs:Array Value)(i:Nat)(v:Value)(h:xs[i]? = some v)(w:World):(part 3 xs i).run Tryz.prog w=.ok v w:=by
 simp[part,isAggI,h]
end Go.Proofs.YtbdpfmalabgmbaaGreat
