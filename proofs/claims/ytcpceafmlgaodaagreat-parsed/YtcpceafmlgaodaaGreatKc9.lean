import Derived.Test.YtcpceafmlgaodaaGreatMua
namespace Go.Proofs.YtcpceafmlgaodaaGreat
open Go.RowKit
set_option maxRecDepth 100000
set_option maxHeartbeats 16000000
set_option linter.unusedVariables false
set_option linter.unusedSimpArgs false
def Q8m{α β:Type}(R:α->β->Prop):List α->List β->Prop
 | [],[]=>True
 |a::us,b::zs=>R a b/\Q8m R us zs
 |_,_=>False
theorem Q8m.len{α β:Type}{R:α->β->Prop}:∀{us:List α}{zs:List β},Q8m R us zs->us.length=zs.length
 | [],[],_=>rfl
 |_::us,_::zs,h=>by simp[Q8m.len h.2]
theorem Q8m.snoc{α β:Type}{R:α->β->Prop}:∀{us:List α}{zs:List β}{a:α}{b:β},Q8m R us zs->R a b->Q8m R(us++[a])(zs++[b])
 | [],[],_,_,_,h=>⟨h,trivial⟩
 |_::us,_::zs,_,_,h,k=>⟨h.1,Q8m.snoc h.2 k⟩
def Tw(s:ByteArray)(d:Wd)(y:ByteArray):Prop:=∃i m:Nat,Q10 s i m d/\y=s.extract i(i+m)
theorem x0j{s:ByteArray}{a b m n:Nat}{d d':Wd}(h:Q10 s a m d)(h':Q10 s b n d')(ha:a+m<=s.size)(hb:b+n<=s.size)(hl:(s.extract a(a+m)).toList=(s.extract b(b+n)).toList):d.ls=d'.ls:=by
 have hA:(s.extract a(a+m)).size=m:=by rw[ByteArray.size_extract];omega
 have hB:(s.extract b(b+n)).size=n:=by rw[ByteArray.size_extract];omega
 have j0:m=n:=by
  have:=congrArg List.length hl;rw[btl,btl,Array.length_toList,Array.length_toList]at this;have e1:(s.extract a(a+m)).data.size=m:=hA;have e2:(s.extract b(b+n)).data.size=n:=hB;omega
 subst j0;rw[h.ls,h'.ls];apply List.map_congr_left;intro k hk;by_cases hkm:k<m
 ·rw[if_pos hkm,if_pos hkm];have e1:=z3w s a(a+m)k ha(by omega);have e2:=z3w s b(b+m)k hb(by omega);have e3:s.extract a(a+m)=s.extract b(b+m):=by
   apply ByteArray.ext;apply Array.toList_inj.1;rw[← btl,← btl];exact hl
  rw[e3]at e1;rw[← e1,← e2]
 rw[if_neg hkm,if_neg hkm]
theorem v2m{s:ByteArray}{d d':Wd}{y y':ByteArray}(h:Tw s d y)(h':Tw s d' y'):(d.ls==d'.ls)=(y.toList==y'.toList):=by
 obtain⟨i,m,hw,rfl⟩:=h;obtain⟨j,n,hw',rfl⟩:=h';have h1:=hw.in';have h2:=hw'.in';rw[Bool.eq_iff_iff,beq_iff_eq,beq_iff_eq];exact⟨fun e=>y3q hw hw'(by omega)(by omega)e,fun e=>x0j hw hw'(by omega)(by omega)e⟩
theorem x74{s:ByteArray}{d:Wd}{y:ByteArray}(hd:Tw s d y):∀{ds:List Wd}{ys:List ByteArray},Q8m(Tw s)ds ys->ds.findIdx(fun x=>x.ls==d.ls)=ys.findIdx(fun x=>x.toList==y.toList)
 | [],[],_=>rfl
 |a::us,b::zs,h=>by
  rw[List.findIdx_cons,List.findIdx_cons,v2m h.1 hd,x74 hd h.2]
theorem x6d{s:ByteArray}{d:Wd}{y:ByteArray}(hd:Tw s d y){ds:List Wd}{ys:List ByteArray}(h:Q8m(Tw s)ds ys):Q1z ys y=if Q1p ds d.ls<ds.length then(Q1p ds d.ls:Int)else -1:=by
 unfold Q1z Q1p;rw[← x74 hd h,← h.len]
theorem z1u:∀(l:List Ln)(acc:List Wd)(y:Ln),Q17(l++[y])acc=if Q1g y then Q17 l acc else if Q1p(Q17 l acc)y.front.ls<(Q17 l acc).length then Q17 l acc else Q17 l acc++[y.front]
 | [],acc,y=>by
  simp only[List.nil_append,Q17];rfl
 |x::l,acc,y=>by
  rw[List.cons_append];unfold Q17;split
  ·exact z1u l acc y
  split
  ·exact z1u l acc y
  exact z1u l _ y
theorem z5b{ds:List Wd}{ls:List Int}(h:Q1p ds ls<ds.length)(t:List Wd):Q1p(ds++t)ls=Q1p ds ls:=by
 unfold Q1p at h ⊢;rw[List.findIdx_append,if_pos h]
structure Inv2(s:ByteArray)(lns:List Ln)(x:LO):Prop where
 ru:Q8m(Tw s)(Q0g lns)x.rules
 he:Q8m(Tw s)(Q0i lns)x.heads
 hd:x.head=(Q06 lns).map(fun y=>(Q1p(Q0i lns)y.front.ls:Int))
 na:Q8m(fun(y:Ln)(ns:List ByteArray)=>Q8m(Tw s)y.syms ns)(Q06 lns)x.names
 mem:∀y∈Q06 lns,Q1p(Q0i lns)y.front.ls<(Q0i lns).length
 cap:∀d∈Q0i lns,Q3m d=true
theorem v04{s:ByteArray}{p q:Nat}{ds:List Wd}{ns:List ByteArray}(h:PN s p ds ns q):Q8m(Tw s)ds ns:=by
 refine PN.ind(M:=fun _ ds ns=>Q8m(Tw s)ds ns)trivial ?_ ds p ns h;intro p m d ds ns h32 hw hle h ih;exact⟨⟨p+1,m,hw,rfl⟩,ih⟩
theorem x18{s:ByteArray}{lns:List Ln}{x:LO}{y:Ln}{i e:Nat}(h:Inv2 s lns x)(he:e<=s.size)(hl:Q88 s i y e):Inv2 s(lns++[y])(Q9m(s.extract i e)x):=by
 rcases hl with⟨m,hw,hs,hr,j1,hc,hm,hk,hsy⟩|⟨m,ns,hw,hs,hr,hc,hm,hp⟩
 ·rw[z7p s i e m _ x he hw hs j1 hm];have e1:Q0i(lns++[y])=Q0i lns:=by unfold Q0i;rw[z1u,if_pos hr]
  have e2:Q06(lns++[y])=Q06 lns:=by unfold Q06;rw[List.filter_append];simp[List.filter_cons,hr]
  have e3:Q0g(lns++[y])=Q0g lns++[y.front]:=by unfold Q0g;rw[List.filter_append,List.map_append];simp[List.filter_cons,hr]
  refine⟨?_,?_,?_,?_,?_,?_⟩
  ·rw[e3];exact h.ru.snoc⟨i,m,hw,rfl⟩
  ·rw[e1];exact h.he
  ·rw[e1,e2];exact h.hd
  ·rw[e2];exact h.na
  ·rw[e1,e2];exact h.mem
  rw[e1];exact h.cap
 rw[z7u s i e m _ _ ns x he hw hs hm hp];have j3:Q3m y.front=true:=by
  unfold Q1g at hr;simpa using hr
 have hT:Tw s y.front(s.extract i(i+m)):=⟨i,m,hw,rfl⟩;have e2:Q06(lns++[y])=Q06 lns++[y]:=by unfold Q06;rw[List.filter_append];simp[List.filter_cons,hr]
 have e3:Q0g(lns++[y])=Q0g lns:=by unfold Q0g;rw[List.filter_append,List.map_append];simp[List.filter_cons,hr]
 have hf:=x6d hT h.he;by_cases hlt:Q1p(Q0i lns)y.front.ls<(Q0i lns).length
 ·rw[if_pos hlt]at hf;have e1:Q0i(lns++[y])=Q0i lns:=by
   unfold Q0i at hlt ⊢;rw[z1u,if_neg(by simp[hr]),if_pos hlt]
  have j2:¬Q1z x.heads(s.extract i(i+m))<0:=by rw[hf];omega
  simp only[j2,if_false];refine⟨?_,?_,?_,?_,?_,?_⟩
  ·rw[e3];exact h.ru
  ·rw[e1];exact h.he
  ·rw[e1,e2,List.map_append,h.hd,hf];rfl
  ·rw[e2];exact h.na.snoc(v04 hp)
  ·rw[e1,e2];intro z hz;simp only[List.mem_append,List.mem_singleton]at hz;rcases hz with hz|rfl
   ·exact h.mem z hz
   exact hlt
  rw[e1];exact h.cap
 rw[if_neg hlt]at hf;have e1:Q0i(lns++[y])=Q0i lns++[y.front]:=by
  unfold Q0i at hlt ⊢;rw[z1u,if_neg(by simp[hr]),if_neg hlt]
 have j2:Q1z x.heads(s.extract i(i+m))<0:=by rw[hf];omega
 simp only[j2,if_true];have j0:Q1p(Q0i lns++[y.front])y.front.ls=(Q0i lns).length:=by
  have j1:=y2v(Q0i lns)y.front.ls;have j4:(Q0i lns).findIdx(fun x=>x.ls==y.front.ls)=(Q0i lns).length:=by unfold Q1p at j1 hlt;omega
  unfold Q1p;rw[List.findIdx_append,j4,if_neg(by omega),List.findIdx_cons];simp
 refine⟨?_,?_,?_,?_,?_,?_⟩
 ·rw[e3];exact h.ru
 ·rw[e1];exact h.he.snoc hT
 ·rw[e1,e2,List.map_append,List.map_singleton,j0,h.hd,h.he.len];dsimp only;congr 1;apply List.map_congr_left;intro z hz;rw[z5b(h.mem z hz)]
 ·rw[e2];exact h.na.snoc(v04 hp)
 ·rw[e1,e2];intro z hz;simp only[List.mem_append,List.mem_singleton]at hz;rw[List.length_append,List.length_singleton];rcases hz with hz|rfl
  ·rw[z5b(h.mem z hz)];have:=h.mem z hz;omega
  rw[j0];omega
 rw[e1];intro d hd;simp only[List.mem_append,List.mem_singleton]at hd;rcases hd with hd|rfl
 ·exact h.cap d hd
 exact j3
theorem y0n(s:ByteArray):∀(f i:Nat)(acc:List Ln)(g:Nat)(x:LO),(Q1o s f i acc).2.2=true->i<=s.size->s.size+1<=g+i->Inv2 s acc x->Inv2 s(Q1o s f i acc).1(Q94 s g i x)
 |0,i,acc,g,x,h,hi,hg,hI=>by simp[Q1o]at h
 |f+1,i,acc,g,x,h,hi,hg,hI=>by
  obtain⟨g,rfl⟩:∃k,g=k+1:=⟨g-1,by omega⟩;unfold Q1o at h ⊢;unfold Q94;by_cases hlt:i<s.size
  ·rw[if_pos(by omega)]at h ⊢;rw[if_pos hlt];cases hok:(Q2x s i).2.2
   ·rw[if_pos hok]at h;cases h
   rw[if_neg(by simp[hok])]at h ⊢;obtain⟨e,he1,he2,he3,he4,he5⟩:=y2y s i hok;rw[he4]at h ⊢;have j1:Q1j s i e:=he5.clean;have j0:Q36(s.extract i s.size)10 10=e-i:=by
    refine z6w s i s.size(e-i)10 10(by omega)(by omega)?_ ?_
    ·intro k hk;have:=j1((i:Int)+k)(by omega)(by omega);exact⟨by omega,by omega⟩
    right;left;have e1:(i:Int)+((e-i:Nat):Int)=(e:Nat):=by omega
    rw[e1];exact he3
   rw[j0,show i+(e-i)=e by omega,if_pos he1];exact y0n s f(e+1)_ g _ h(by omega)(by omega)(x18 hI(by omega)he5)
  rw[if_neg(by omega)]at h ⊢;rw[if_neg hlt];exact hI
theorem Q73{s:ByteArray}(h:Q0u s=(0,0)):Inv2 s(Q0c s).1(linesX s):=by
 obtain⟨h1,h2,h3,h4,h5⟩:=z18 h;have j0:(Q1o s(s.size+5)((0:Nat):Int) []).2.2=true:=h2;exact y0n s(s.size+5)0 [](s.size+1)Q9a j0(by omega)(by omega)⟨trivial,trivial,rfl,trivial,(by intro y hy;cases hy),(by intro d hd;cases hd)⟩
theorem z4d{lns:List Ln}(hp:∀y∈lns,0<=y.front.place):∀(f i:Nat),Q4l lns f i=-1->lns.length+1<=f+i->∀k(hk:k<lns.length),i<=k->Q7p lns k lns[k]=false
 |0,i,_,hf,k,hk,hi=>by omega
 |f+1,i,h,hf,k,hk,hi=>by
  unfold Q4l at h;have hil:i<lns.length:=by omega
  rw[qE hil]at h;simp only[]at h;cases ho:Q7p lns i lns[i]
  ·rw[ho]at h;simp only[Bool.false_eq_true,if_false]at h;by_cases e:i=k
   ·subst e;exact ho
   exact z4d hp f(i+1)h(by omega)k hk(by omega)
  rw[ho]at h;simp only[if_true]at h;have:=hp lns[i](by simp);omega
theorem y1r{lns:List Ln}(hp:∀y∈lns,0<=y.front.place)(h:Q3s lns=-1):(Q0g lns).length<=8:=by
 have e:(Q0g lns).length=Q25 lns lns.length:=by unfold Q0g Q25;rw[List.take_length,List.length_map]
 rw[e];by_cases h0:lns.length=0
 ·rw[h0];simp[Q25]
 have:=z4d hp _ 0 h(by omega)(lns.length-1)(by omega)(by omega);unfold Q7p at this;simp only[Bool.or_eq_false_iff,decide_eq_false_iff_not]at this;have h1:=this.1.1.1;rw[show lns.length-1+1=lns.length by omega]at h1;omega
theorem y8r{d d':Wd}(h:d.ls=d'.ls):Q3m d=Q3m d':=by unfold Q3m;rw[h]
theorem x26{lns:List Ln}(hw:Q2b lns=-1)(hpl:∀y∈lns,0<=y.front.place/\∀d∈y.syms,0<=d.place)(hmem:∀y∈Q06 lns,Q1p(Q0i lns)y.front.ls<(Q0i lns).length){y:Ln}(hy:y∈lns){d:Wd}(hd:d∈y.syms) :
  (Q3m d=true->Q1p(Q0i lns)d.ls<(Q0i lns).length)/\(Q3m d=false->Q1p(Q0g lns)d.ls<(Q0g lns).length):=by
 obtain⟨k,hk,rfl⟩:=List.getElem_of_mem hy;have h1:=z6z hpl _ 0 hw(by omega)k hk(by omega);obtain⟨q,hq,rfl⟩:=List.getElem_of_mem hd;have h2:=z98(hpl _ hy).2 _ 0 h1(by omega)q hq(by omega);unfold Q97 at h2;by_cases hf:Q2i lns(lns[k].syms[q]).ls<lns.length
 ·have h3:(lns[Q2i lns(lns[k].syms[q]).ls]).front.ls=(lns[k].syms[q]).ls:=by
   have:=List.findIdx_getElem(xs:=lns)(p:=fun x:Ln=>x.front.ls==(lns[k].syms[q]).ls)(w:=hf);exact beq_iff_eq.1 this
  have h4:=y8r h3;have hz:=List.getElem_mem hf;generalize lns[Q2i lns(lns[k].syms[q]).ls]=z at h3 h4 hz;refine⟨fun e=>?_,fun e=>?_⟩
  ·rw[← h3];refine hmem z ?_;unfold Q06 Q1g;rw[List.mem_filter];exact⟨hz,by rw[h4,e];rfl⟩
  unfold Q1p;refine List.findIdx_lt_length_of_exists⟨z.front,?_,by rw[h3];simp⟩;unfold Q0g Q1g;rw[List.mem_map];exact⟨z,List.mem_filter.2⟨hz,by rw[h4,e];rfl⟩,rfl⟩
 rw[qN(by omega)]at h2;cases h2
theorem tabOk{lns:List Ln}(hw:Q2b lns=-1)(hpl:∀y∈lns,0<=y.front.place/\∀d∈y.syms,0<=d.place)(hmem:∀y∈Q06 lns,Q1p(Q0i lns)y.front.ls<(Q0i lns).length) :
  Q1c(Q0r lns)(Q0g lns).length(Q0i lns).length:=by
 refine⟨fun p hp=>?_,fun p hp s hs=>?_⟩
 ·obtain⟨y,hy,rfl⟩:=List.mem_map.1 hp;have:=hmem y hy;simp only[Q75];omega
 obtain⟨y,hy,rfl⟩:=List.mem_map.1 hp;obtain⟨d,hd,rfl⟩:=List.mem_map.1 hs;have j1:y∈lns:=(List.mem_filter.1 hy).1;obtain⟨h1,h2⟩:=x26 hw hpl hmem j1 hd;simp only[Q9l];by_cases hq:Q3m d=true
 ·have:=h1 hq;simp only[hq,if_true];omega
 have j0:Q3m d=false:=by simpa using hq
 have:=h2 j0;simp only[j0,Bool.false_eq_true,if_false];omega
theorem z4b{s:ByteArray}(hc:(Q0u s).1=0):Q0u s=(0,0):=by
 unfold Q0u at hc ⊢;repeat' split at hc
 all_goals first
  |(simp at hc;done)
  |skip
 rename_i a b c d e f;rw[if_neg a,if_neg b,if_neg c,if_neg d,if_neg e,if_neg f]
def Q0q(hs:List Hd)(ps:List Pr):List(List Bool):=ps.map fun p=>Q8k hs p.head p.syms
abbrev Q87(w:World)(base:Nat)(v:Value)(al:List(List Bool)):Prop:=w.ownsRow base 130 9 v al.length(Q01 bls al)
theorem infoTk:(Tryz.prog.info? 130).map(fun i=>(i.zero,i.size,i.bytes))=some(some(.agg(tkA Q0w)),9,9):=by kernel_rfl
theorem infoTk':∃i,Tryz.prog.info? 130=some i/\i.zero=some(.agg(tkA Q0w))/\i.size=9/\i.bytes=9:=by
 have h:=infoTk;cases hq:Tryz.prog.info? 130 with
 |none=>simp[hq]at h
 |some i=>simp[hq]at h;exact⟨i,rfl,h.1,h.2.1,h.2.2⟩
abbrev Q29(a0 a1 a2 a3 a4 a5 a6 a7 a8:Bool):Array Value:=#[.bool a0,.bool a1,.bool a2,.bool a3,.bool a4,.bool a5,.bool a6,.bool a7,.bool a8]
theorem x38(l:List Bool):∀u∈bls l,u.oneCell'=true:=by
 intro u hu;simp[bls]at hu;rcases hu with⟨_,rfl⟩|⟨_,rfl⟩<;>rfl
theorem z6f(w:World)(b:Nat)(R H:Int)(vp vh:Value)(ps:List PV)(hs:List Hd)(h:FA w b R H vp vh ps hs)(hps:ps.length<=1000) :
  Calls Tryz.prog 51#[Q3b b]w fun e w'=>∃v,e=.returned v/\Q0a w w'/\Q87 w' w.heap.size v(Q0q hs(Q0k ps)):=by
 have jh:=hid h;obtain⟨i0,hi0,iz0,iz1,iz2⟩:=infoTk';obtain⟨ao,cap,hv⟩:=z0d h.prs.row.own;subst hv;have k2:=h.cell 2;simp at k2;clear h;go_enter Tryz.func51,Tryz.ntmps51
 go_wp2;go_loopw [3,5,6,7,8,15](fun x3 _ _ _ _ x15 wr=>∃(i:Nat),x15=.int .i64 i/\i<=ps.length/\Q87 wr w.heap.size x3(Q0q hs(Q0k(ps.take i)))/\Q0a w wr)
   (fun _ _ _ _ _ x _=>ps.length+1-(intOf x).toNat)
 case atStart=>exact⟨0,rfl,by omega,World.ownsRow_nil _ _ _ _,mRf _ w⟩
 obtain⟨i,rfl,hi,hown,hfr⟩:=hrel;have jc:=hid(Q2a(B:=ps.length+1)i(by omega));have j5:=hid hfr;have hF:=jh.out.fresh hfr;have HF:=hid hF;have ji:(Q0q hs(Q0k(ps.take i))).length<=1000:=by simp[Q0q,Q0k];omega
 have jf:Hid(i=ps.length->ps.take i=ps):=fun e=>by rw[e,List.take_length]
 have jd:Hid(∀hlt:i<ps.length,Q0q hs(Q0k(ps.take(i+1)))=Q0q hs(Q0k(ps.take i))++[Q8k hs ps[i].pr.head ps[i].pr.syms]):=fun hlt=>by
  rw[Q6g hlt];unfold Q0q Q0k;rw[List.map_append,List.map_append];rfl
 generalize hy:Q0q hs(Q0k(ps.take i))=ys at *;have HY:=hid hy;have HO:=hid hown;have j7:=hid hown.lt;obtain⟨ro,rc,hro⟩:=z0d hown;subst hro;clear hown hy;by_cases hlt:i<ps.length
 ·have jn:(i:Int)<(ps.length:Int):=by omega
  obtain⟨gp,cap',hv'⟩:=Q1d.ownsRow_form hF.prs.row.own(by omega);rw[qI]at hv';obtain⟨rfl,_,rfl⟩:=hv';have RG:Hid(wr.rangeAt gp(i*2) [.int .i64 ps[i].pr.head,ps[i].vs]):=hF.prs.row.range i hlt;have jo:=hF.size;have j4:=hid(hF.fresh((mRf _ wr).alloc(.cells#[.int .i64 ps[i].pr.head,ps[i].vs]118(0,0))));have j6:=hid(j4.out.prs.syms ps[i](by simp));have j0:=jd.out hlt;generalize ps[i].pr=pr at j0 RG j6 j4;generalize ps[i].vs=pvs at RG j6 j4;obtain⟨ph,psy⟩:=pr;dsimp only at j0 RG j6 j4;obtain⟨sao,scap,hsv,_⟩:=j6.out;subst hsv;have j1:=hid(z1a hF.ok psy Q0w rfl);have j2:=hid(z0k hF.ok ph);have BA:=hid(z6k _ b R H _ vh ps hs b _ psy j4.out(by simp;omega)j6.out);have GA:=hid(fun w(h:FA w b R H(.slice(some⟨gp,0,none⟩)ps.length cap)vh ps hs)=>z4s w b R H _ vh ps hs ph h);unfold Q8k at j0;generalize Q2u hs psy Q0w=bg at j0 j1 BA;generalize Q1l hs ph=hd at j0 j2 GA;obtain⟨bg1,bg2⟩:=bg;dsimp only at j0 j1 BA;clear hF hfr;cases bg2
  ·simp only[Bool.false_eq_true,if_false]at j0;have j3:=hid j0;obtain⟨a0,a1,a2,a3,a4,a5,a6,a7,a8,e9⟩:=Q7i j1.out;subst e9;clear j0;go_wp2_with(first
    |(at_builtin;refine z0g _ rfl _ _ 122 rfl w.heap.size 130 i0 _ 9 9 Tryz.underlying122 hi0 iz0 iz1 iz2 rfl(by decide)_ _ _ rfl(j9.out.alloc _)⟨w1.heap.size+1,0,none⟩1 1(bls [a0,a1,a2,a3,a4,a5,a6,a7,a8])rfl rfl(z2w rfl)(x38 _)(by unfold maxLen;omega)(by omega)(by have h3:=j5.out.size;have h4:=hf1.size;simp at h4;simp;omega)?_)
    |(refine wpList_load_row rfl 130 _ rfl w1.heap.size rfl _(Q29 a0 a1 a2 a3 a4 a5 a6 a7 a8)_ _(z0a _ _)Tryz.underlying130 rfl Q7s ?_)
    |(refine z0e rfl 130 _ _ rfl w1 _(Q29 a0 a1 a2 a3 a4 a5 a6 a7 a8)_ rfl rfl rfl Q7s rfl(z1e [a0,a1,a2,a3,a4,a5,a6,a7,a8])?_)
    |(go_at_call 53;refine BA.out.mono ?_;rintro e w1⟨rfl,hf1⟩;have j9:=hid((z0c HO.out(fun g hg=>(Mod.trans((mRf(fun _=>False)wr).alloc _)hf1).block g(j7.out g hg).2(fun x=>x))).alloc(.cells(Q29 a0 a1 a2 a3 a4 a5 a6 a7 a8)130(0,0))))
    |(refine wpList_load_mid rfl 118 _ rfl gp(i*2)rfl [.int .i64 ph,.slice sao psy.length scap]_ RG.out Tryz.underlying118 rfl W0g ?_))
   intro v' w5 hown2 hgrow hblk;have j8:Q0a w w5:=Mod.grown(S:=fun _=>False)(((j5.out.alloc _).trans hf1).alloc _ |>.alloc _)hgrow(fun k hk hlt=>by have:=(j7.out k hk).1;omega);have ja:=hid hown2;clear hown2 hgrow hblk;go_wp2;go_roundw
   case rel =>
    refine⟨i+1,by go_num,by omega,?_,j8⟩;unfold Q87;rw[j3.out,z0y,List.length_append,List.length_singleton];exact ja.out
   exact jc.out
  simp only[if_true]at j0;have jb:=hid(z04 j1.out j2.out.fo);have TU:=hid(fun w=>z1b w bg1 hd.fo j1.out j2.out.fo);generalize orL bg1 hd.fo=OO at j0 jb TU;have j3:=hid j0;obtain⟨a0,a1,a2,a3,a4,a5,a6,a7,a8,e9⟩:=Q7i jb.out;subst e9;clear j0;go_wp2_with(first
   |(at_builtin;refine z0g _ rfl _ _ 122 rfl w.heap.size 130 i0 _ 9 9 Tryz.underlying122 hi0 iz0 iz1 iz2 rfl(by decide)_ _ _ rfl(j9.out.alloc _)⟨w3.heap.size,0,none⟩1 1(bls [a0,a1,a2,a3,a4,a5,a6,a7,a8])rfl rfl(by have q:=@z0l(w3.setRow w1.heap.size(Q29 a0 a1 a2 a3 a4 a5 a6 a7 a8))(Q29 a0 a1 a2 a3 a4 a5 a6 a7 a8)(bls [a0,a1,a2,a3,a4,a5,a6,a7,a8])130 rfl;rw[jk]at q;exact q)(x38 _)(by unfold maxLen;omega)(by omega)(by have h3:=j5.out.size;have h4:=f3.out.size;simp at h4;simp;omega)?_)
   |(refine wpList_load_row rfl 130 _ rfl w1.heap.size rfl _(Q29 a0 a1 a2 a3 a4 a5 a6 a7 a8)_ _ je.out Tryz.underlying130 rfl Q7s ?_)
   |(refine wpList_store_row rfl 130 _ _ rfl w1.heap.size(Q29 a0 a1 a2 a3 a4 a5 a6 a7 a8)rfl rfl _ _ t3.out Q7s(Q0l(z0u j1.out)rfl)(z1e [a0,a1,a2,a3,a4,a5,a6,a7,a8])?_)
   |(go_at_call 54;refine(TU.out _).mono ?_;rintro e w3⟨rfl,hf3⟩;have t3:=hid(hf3.at(z0b t2.out)(fun x=>x));have f3:Hid(Q0a wr(w3.setRow w1.heap.size(Q29 a0 a1 a2 a3 a4 a5 a6 a7 a8))):=(Mod.trans(f2.out.alloc _)hf3).setRow(by intro q;omega)_;have je:=hid(setRow_heap _ _ _(Q29 a0 a1 a2 a3 a4 a5 a6 a7 a8)_ _ t3.out);have jk:(w3.setRow w1.heap.size(Q29 a0 a1 a2 a3 a4 a5 a6 a7 a8)).heap.size=w3.heap.size:=(by simp);have j9:=hid(z0c HO.out(fun g hg=>f3.out.block g(j7.out g hg).2(fun x=>x))))
   |(refine wpList_load_mid rfl 130 _ rfl w2.heap.size 12 rfl(bls hd.fo)_(Q4y j2.out(z0a _ _))Tryz.underlying130 rfl(Q5p j2.out.fo)?_)
   |(refine wpList_load_row rfl 130 _ rfl w1.heap.size rfl _ _ _ _(z0b t2.out)Tryz.underlying130 rfl(Q0t j1.out)?_)
   |(refine z0e rfl 179 _ _ rfl w2 _(hdA hd)_ rfl rfl rfl(Q1q j2.out)(Q0l rfl(z07 j2.out))(z1x _)?_)
   |(go_at_call 84;refine(GA.out _(HF.out.fresh(f1.out.alloc _))).mono ?_;rintro e w2⟨rfl,hf2⟩;have jm:w1.heap.size<w2.heap.size:=(by have:=hf2.size;simp at this;omega);have f2:Hid(Q0a wr w2):=Mod.trans(f1.out.alloc _)hf2;have t2:=hid(hf2.at(z0a w1 _)(fun x=>x)))
   |(refine z0e rfl 130 _ _ rfl w1 _(tkA bg1)_ rfl rfl rfl(Q0t j1.out)(Q0l rfl(z0u j1.out))(z1e _)?_)
   |(go_at_call 53;refine BA.out.mono ?_;rintro e w1⟨rfl,hf1⟩;have jp:wr.heap.size<w1.heap.size:=(by have:=hf1.size;simp at this;omega);have f1:Hid(Q0a wr w1):=Mod.trans((mRf _ wr).alloc _)hf1;have k1:(w1.alloc(.cells(tkA bg1)130(0,0))).cell?⟨wr.heap.size,0,none⟩=some(.int .i64 ph):=(by rw[Q0b(z0b(hf1.at(z0a _ _)(fun x=>x)))0];rfl))
   |(refine wpList_load_mid rfl 118 _ rfl gp(i*2)rfl [.int .i64 ph,.slice sao psy.length scap]_ RG.out Tryz.underlying118 rfl W0g ?_))
  intro v' w5 hown2 hgrow hblk;have j8:Q0a w w5:=Mod.grown(S:=fun _=>False)((j5.out.trans f3.out).alloc _)hgrow(fun k hk hlt=>by have:=(j7.out k hk).1;omega);have ja:=hid hown2;clear hown2 hgrow hblk;go_wp2;go_roundw
  case rel =>
   refine⟨i+1,by go_num,by omega,?_,j8⟩;unfold Q87;rw[j3.out,z0y,List.length_append,List.length_singleton];exact ja.out
  exact jc.out
 have jg:i=ps.length:=by omega
 have jl:¬(i:Int)<(ps.length:Int):=by omega
 have jj:=jf.out jg;clear hF hfr;go_wp2;go_ret;refine⟨_,rfl,j5.out,?_⟩;rw[← jj,HY.out];exact HO.out
def ldT(v:Value):Sem Value:=Instr.loadAt 130 v
theorem x7d(v:Value):Instr.loadAt 130 v=ldT v:=rfl
theorem x9x{w:World}{g o:Nat}{l:List Bool}(hl:l.length=9)(hr:w.rangeAt g o(bls l)):(ldT(.pointer(some⟨g,o,none⟩))).run Tryz.prog w=.ok(.agg(tkA l))w :=
 run_loadAt_mid w g o _ _ _ hr Tryz.underlying130 rfl(Q5p hl)
def ovL(n t:Int):List(Pr × List Bool)->Nat->List Int
 | [],_=>[]
 |p::l,i=>if p.1.head=n/\Q9d p.2 t=true then(i:Int)::ovL n t l(i+1)else ovL n t l(i+1)
theorem y6g(n t:Int):∀(l:List(Pr × List Bool))(i:Nat),(ovL n t l i).length<=l.length
 | [],_=>by simp[ovL]
 |p::l,i=>by
  unfold ovL;have:=y6g n t l(i+1);split<;>simp<;>omega
attribute [local go_sem ↓] x7d
theorem z6h(w:World)(R H:Int)(vp:Value)(ps:List PV)(hp:Q3p w w.heap.size vp ps)(hps:ps.length<=1000)(va:Value)(al:List(List Bool))(base:Nat)(ha:Q87 w base va al)(hal:al.length=ps.length)(ha9:∀a∈al,a.length=9)(n t:Int) :
  Calls Tryz.prog 52#[.agg#[.int .i64 R,.int .i64 H,vp],va,.int .i64 n,.int .i64 t]w fun e w'=>∃v,e=.returned v/\Q0a w w'/\Q2c w' w.heap.size v(ovL n t((Q0k ps).zip al)0):=by
 obtain⟨i0,hi0,iz0,iz1,iz2⟩:=infoI';have HP:=hid hp;obtain⟨pa,pc,hvp⟩:=z0d hp.row.own;subst hvp;obtain⟨aa,ac,hva⟩:=z0d ha;subst hva;have jh:Hid(Q2k bls 9 130 w(.slice aa al.length ac)al):=⟨z0f ha(Nat.zero_le _),fun x hx=>by simp[bls,ha9 x hx]⟩;have jg:=hid ha9;generalize hR:ovL n t((Q0k ps).zip al)0=RES;have HR:=hid hR;rw[hal];have j4:=hid hal;clear hp ha ha9 hR hal;go_enter Tryz.func52,Tryz.ntmps52
 go_wp2;go_loopw [9,10,11,15](fun x9 _ _ x15 wr=>∃(i:Nat)(acc:List Int),x15=.int .i64 i/\i<=ps.length/\acc.length<=i/\acc++ovL n t(((Q0k ps).zip al).drop i)i=RES/\Q2c wr w.heap.size x9 acc/\Q0a w wr)
   (fun _ _ _ x _=>1001-(intOf x).toNat)
 case atStart=>exact⟨0,[],rfl,by omega,by simp,HR.out,World.ownsRow_nil _ _ _ _,(mRf _ w).alloc _⟩
 obtain⟨i,acc,rfl,hi,hacc,hres,hown,hfr⟩:=hrel;have j7:=hid(Q2a(B:=1001)i(by omega));have j1:=hid hfr;have HO:=hid hown;have j6:=hid hown.lt;obtain⟨ro,rc,hro⟩:=z0d hown;subst hro;clear hown;by_cases hlt:i<ps.length
 ·have je:(i:Int)<(ps.length:Int):=by omega
  have ja:i<al.length:=by have:=j4.out;omega
  have j9:i<((Q0k ps).zip al).length:=by have:=j4.out;simp[Q0k];omega
  rw[qC j9]at hres;have j8:((Q0k ps).zip al)[i]=(ps[i].pr,al[i]):=by simp[Q0k]
  rw[j8]at hres;unfold ovL at hres;dsimp only at hres;have j3:=HP.out.kept(qR _)hfr(fun _ _ x=>x);obtain⟨gp,cap',hv'⟩:=Q1d.ownsRow_form j3.row.own(by omega);rw[qI]at hv';obtain⟨rfl,_,rfl⟩:=hv';have RG:Hid(wr.rangeAt gp(i*2) [.int .i64 ps[i].pr.head,ps[i].vs]):=j3.row.range i hlt;obtain⟨sao,scap,hsv,_⟩:=j3.syms ps[i](by simp);have j5:=(jh.out.fresh hfr);obtain⟨ga,ac',hva'⟩:=Q1d.ownsRow_form j5.own(by omega);rw[qI]at hva';obtain⟨rfl,_,rfl⟩:=hva';have jb:=j5.range i ja;have h9:=jg.out al[i](by simp);have TH:=hid(fun w=>x6w w al[i]t h9);generalize hpl:ps[i].pr.syms.length=pl at hsv;generalize ps[i].pr.head=ph at hres RG;rw[hsv]at RG;have l1:(ldT(.pointer(some⟨ga,i*9,none⟩))).run Tryz.prog(wr.alloc(.cells#[.int .i64 ph,.slice sao pl scap]118(0,0)))=.ok(.agg(tkA al[i]))(wr.alloc(.cells#[.int .i64 ph,.slice sao pl scap]118(0,0))) :=
   x9x h9(World.rangeAt_alloc jb _)
  generalize al[i]=ai at hres TH l1;have b4:decide((i:Int)<(ps.length:Int))=true:=by simpa using je
  clear j3 j5 jb h9 hfr j8 ja j9;by_cases hh:ph=n
  ·subst hh;generalize Q9d ai t=tv at hres TH;cases tv
   ·rw[if_neg(by simp)]at hres;have j0:=hid hres;clear hres;go_wp2_with(first
     |(go_at_call 85;refine(TH.out _).mono ?_;rintro e w1⟨rfl,hf1⟩)
     |(refine wpList_load_mid rfl 118 _ rfl gp(i*2)rfl [.int .i64 ph,.slice sao pl scap]_ RG.out Tryz.underlying118 rfl W0g ?_))
    go_roundw
    case rel =>
     refine⟨i+1,acc,by go_num,by omega,by omega,j0.out,?_,(j1.out.alloc _).trans hf1⟩;exact z0c HO.out(fun g hg=>(Mod.trans((mRf(fun _=>False)wr).alloc _)hf1).block g(j6.out g hg).2(fun x=>x))
    exact j7.out
   rw[if_pos⟨rfl,rfl⟩]at hres;have j0:=hid hres;clear hres;go_wp2_with(first
    |(at_builtin;refine z0g _ rfl _ _ 22 rfl w.heap.size 3 i0 _ 1 8 Tryz.underlying22 hi0 iz0 iz1 iz2 rfl(by decide)_ _ _ rfl(jd.out.alloc _)⟨w1.heap.size,0,none⟩1 1 [.int .i64 i]rfl rfl(z0l rfl)(by intro u hu;simp at hu;subst hu;rfl)(by unfold maxLen;omega)(by omega)(by have h3:=j1.out.size;have h4:=hf1.size;simp at h4;simp;omega)?_)
    |(go_at_call 85;refine(TH.out _).mono ?_;rintro e w1⟨rfl,hf1⟩;have jd:=hid(z0c HO.out(fun g hg=>(Mod.trans((mRf(fun _=>False)wr).alloc _)hf1).block g(j6.out g hg).2(fun x=>x))))
    |(refine wpList_load_mid rfl 118 _ rfl gp(i*2)rfl [.int .i64 ph,.slice sao pl scap]_ RG.out Tryz.underlying118 rfl W0g ?_))
   intro v' w5 hown2 hgrow hblk;have jc:Q0a w w5:=Mod.grown(S:=fun _=>False)(((j1.out.alloc _).trans hf1).alloc _)hgrow(fun k hk hlt=>by have:=(j6.out k hk).1;omega);have jf:=hid hown2;clear hown2 hgrow hblk;go_wp2;go_roundw
   case rel =>
    refine⟨i+1,acc++[(i:Int)],by go_num,by omega,by simp;omega,by rw[List.append_assoc];exact j0.out,?_,jc⟩;unfold Q2c;rw[List.length_append,List.length_singleton,show Q56(acc++[(i:Int)])=Q56 acc++[.int .i64 i]from by simp];exact jf.out
   exact j7.out
  have b1:(ph==n)=false:=by simp[hh]
  rw[if_neg(fun h=>hh h.1)]at hres;have j0:=hid hres;clear hres;go_wp2_with(first
   |(refine wpList_load_mid rfl 118 _ rfl gp(i*2)rfl [.int .i64 ph,.slice sao pl scap]_ RG.out Tryz.underlying118 rfl W0g ?_))
  go_roundw
  case rel =>
   refine⟨i+1,acc,by go_num,by omega,by omega,j0.out,?_,j1.out.alloc _⟩;exact HO.out.alloc _
  exact j7.out
 have ji:i=ps.length:=by omega
 have jj:¬(i:Int)<(ps.length:Int):=by omega
 rw[List.drop_eq_nil_of_le(by have:=j4.out;simp[Q0k];omega)]at hres;have j2:acc=RES:=by simpa [ovL]using hres
 subst j2;clear hres hfr;go_wp2;go_ret;exact⟨_,rfl,j1.out,HO.out⟩
end Go.Proofs.YtcpceafmlgaodaaGreat
