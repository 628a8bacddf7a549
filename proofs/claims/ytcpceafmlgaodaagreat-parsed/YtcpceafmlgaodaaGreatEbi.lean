import Derived.Test.YtcpceafmlgaodaaGreatRbe
namespace Go.Proofs.YtcpceafmlgaodaaGreat
open Go.RowKit
set_option maxRecDepth 100000
set_option maxHeartbeats 16000000
set_option linter.unusedVariables false
set_option linter.unusedSimpArgs false
theorem x7w{s:ByteArray}(h:800<s.size):(Q0u s).1=1:=by unfold Q0u;rw[if_pos h]
theorem y9m{R:Int}{l:List Int}{i:Nat}(hi:i<l.length)(h:Q0y R(l.take i)=true)(h0:0<=l[i])(h1:l[i]<R):Q0y R(l.take(i+1))=true:=by
 unfold Q0y at h ⊢;rw[Q6g hi,List.all_append,h];simp[h0,h1]
theorem x3y{R:Int}{l:List Int}{i:Nat}(hi:i<l.length)(h:l[i]<0∨R<=l[i]):Q0y R l=false:=by
 cases hk:Q0y R l with
 |false=>rfl
 |true =>
  unfold Q0y at hk;rw[List.all_eq_true]at hk;have:=hk l[i](List.getElem_mem hi);simp at this;omega
theorem z9h(s:ByteArray)(kinds:List Int)(vk:Value)(w:World)(hs:s.size<=maxLen)(hk:Q02 w vk kinds)(hl:800<s.size∨60<kinds.length)(hm:kinds.length<=maxLen) :
  Calls Tryz.prog 5#[.string s,vk]w fun e w'=>Q2j s(Q7h 1)w e w':=by
 obtain⟨ka,kc,rfl,hkc,_⟩:=hk;unfold maxLen at hm hs;by_cases h8:800<s.size
 ·have h1:(800:Int)<(s.size:Int):=by omega
  clear hl;go_enter Tryz.func5,Tryz.ntmps5
  go_wp2;exact bodyPost_ret(z0m rfl _ _ w.heap.size 25(Q3y(.slice none 0 0)(.slice none 0 0)0)(0,0)_ rfl(z0a _ _)Tryz.underlying25 rfl Q2o)rfl(Q2j.bad((mRf _ w).alloc _))
 have h1:¬(800:Int)<(s.size:Int):=by omega
 have h2:(60:Int)<(kinds.length:Int):=by omega
 clear hl;go_enter Tryz.func5,Tryz.ntmps5
 go_wp2;exact bodyPost_ret(z0m rfl _ _ w.heap.size 25(Q3y(.slice none 0 0)(.slice none 0 0)0)(0,0)_ rfl(z0a _ _)Tryz.underlying25 rfl Q2o)rfl(Q2j.bad((mRf _ w).alloc _))
theorem y9x(s:ByteArray)(kinds:List Int)(vk:Value)(w:World)(hs:s.size<=800)(hk:Q02 w vk kinds)(hl:kinds.length<=60)(hc:(Q0u s).1≠0) :
  Calls Tryz.prog 5#[.string s,vk]w fun e w'=>Q2j s(Q7h(Q0u s).1)w e w':=by
 obtain⟨ka,kc,rfl,hkc,_⟩:=hk;have RD:=hid(fun w=>y4t s w(by unfold maxLen;omega));unfold Q92 at RD;have c0:((Q0u s).1 != 0)=true:=by simpa using hc
 have j4:¬(60:Int)<(kinds.length:Int):=by omega
 have j3:¬(800:Int)<(s.size:Int):=by omega
 have j0:Hid(∀w,Calls Tryz.prog 15#[.string s]w fun e w'=>∃(p:Value)(pl:Int),e=.returned(.tuple#[p,.int .i64(Q0u s).1,.int .i64 pl])/\Q0a w w'):=hid(fun w=>(RD.out w).mono(by
  rintro e w'⟨p,pl,h1,h2,_⟩;exact⟨p,pl,h1,h2⟩))
 generalize(Q0u s).1=E at j0 c0;clear hc RD;go_enter Tryz.func5,Tryz.ntmps5
 go_wp2_with(first
  |(refine wpList_store_row rfl 25 _ _ rfl w.heap.size(Q3y(.slice none 0 0)(.slice none 0 0)0)rfl rfl _ _ j1.out Q2o rfl(z1r _ _ _ rfl rfl)?_)
  |(go_at_call 15;refine(j0.out _).mono ?_;rintro e w1⟨p,pl,rfl,hf1⟩;have j2:=hid hf1;have j1:=hid(hf1.at(z0a w _)(fun x=>x));clear hf1))
 refine bodyPost_ret(z0m rfl _ _ w.heap.size 25(Q3y(.slice none 0 0)(.slice none 0 0)0)(0,0)_ rfl(setRow_heap _ _ _ _ _ _ j1.out)Tryz.underlying25 rfl Q2o)rfl(Q2j.bad ?_);exact(Mod.trans((mRf _ w).alloc _)j2.out).setRow(fun h=>absurd h(Nat.lt_irrefl _))_
theorem y6t(s:ByteArray)(kinds:List Int)(vk:Value)(w:World)(hs:s.size<=800)(hk:Q02 w vk kinds)(hl:kinds.length<=60)(hc:(Q0u s).1=0) :
  Calls Tryz.prog 5#[.string s,vk]w fun e w'=>Q2j s(Q2m s kinds)w e w':=by
 have j9:=z4b hc;have RD:=hid(fun w=>v0y s w(by unfold maxLen;omega)j9);have jh:=x6o j9;have j6:=y9r hc;have j2:=x8f j9;have CL:=hid(fun(W:World)(b:Nat)(hS:Q35 W b(Q0g(Q0c s).1).length(Q0i(Q0c s).1).length(Q0e(Q0g(Q0c s).1).length(Q0r(Q0c s).1)))=>y4m W b _ _ _ j2 hS(by rw[jh];exact j6));rw[jh]at CL;have HK:=hid hk;obtain⟨ka,kc,hvk,hkc,hcell⟩:=hk;have ZP:Hid(Q3c s=[]->Q0y(nR s)kinds=true->∀(W:World)(b:Nat),Q0a w W->Q35 W b(Q0g(Q0c s).1).length(Q0i(Q0c s).1).length(Q0e(Q0g(Q0c s).1).length(Q0r(Q0c s).1))->Calls Tryz.prog 17#[.pointer(some⟨b,0,none⟩),.slice ka kinds.length kc]W fun e w'=>Q2j s(Q8d s kinds)W e w'):=hid(fun hcl j8 W b hW hS=>y94 W b _ _ _ _(x4y hc hcl)hS j2.qk ka kc kinds(by rw[← hvk];exact HK.out.fresh hW)hl j8);have jk:Q2m s kinds=if Q0y(nR s)kinds=false then Q7h 7 else if Q3c s≠[]then Q7h 8 else Q8d s kinds:=by
  unfold Q2m;rw[if_neg(by omega),if_neg(by simp[hc])]
 rw[jk];generalize hRES:(if Q0y(nR s)kinds=false then Q7h 7 else if Q3c s≠[]then Q7h 8 else Q8d s kinds)=RES;have j1:=hid hRES;unfold ReadN at RD;subst hvk;have k2:nR s<=8:=j2.qk.r8;have e1:((Q0g(Q0c s).1).length:Nat)=nR s:=rfl;rw[e1]at RD CL ZP;have jy:=hid hcell;have jv:¬(60:Int)<(kinds.length:Int):=by omega
 have k1:¬(800:Int)<(s.size:Int):=by omega
 have k4:decide((60:Int)<(kinds.length:Int))=false:=decide_eq_false jv;have k3:decide((800:Int)<(s.size:Int))=false:=decide_eq_false k1;generalize nR s=R at *;clear jk hc j9 jh j6 j2 e1 hcell HK hRES;go_enter Tryz.func5,Tryz.ntmps5
 go_upto_region 6 with(first
  |(go_at_call 15;refine(RD.out _).mono ?_;rintro e w1⟨b,pl,rfl,hS1,hf1⟩;have ju:=hid hS1;have jb:=hid(Mod.trans((mRf _ w).alloc _)hf1);have ji:=hid(hf1.at(z0a w _)(fun x=>x));clear hS1 hf1))
 go_wp2;go_loopw [9](fun x9 wr=>∃i:Nat,x9=.int .i64 i/\i<=kinds.length/\Q0y R(kinds.take i)=true/\Q0a w1 wr)
   (fun x _=>1001-(intOf x).toNat)
 case atStart=>exact⟨0,rfl,by omega,by simp[Q0y],mRf _ _⟩
 obtain⟨i,rfl,hi,hok,hfr⟩:=hrel;have jz:=hid(Q2a(B:=1001)i(by omega));have HF:=hid hfr;have jn:=hid hok;have jj:=ju.out.fresh hfr;obtain⟨a0,c0,a1,c1,a2,c2,v3,v4,sv,hN⟩:=id jj;have z0:=hN.k0;have jm:=hid jj;clear hok hN jj;by_cases hlt:i<kinds.length
 ·have s1:(i:Int)<(kinds.length:Int):=by omega
  obtain⟨g,o,rfl,y0⟩:=jy.out i hlt;have y1:=Q0j(jb.out.trans hfr)y0;have jt:=y9m(R:=R)hlt jn.out;have jo:=x3y(R:=R)hlt;have jl:=hid jt;have jf:=hid jo;generalize kinds[i]=c at y1 y0 jl jf;clear jt jo y0 hfr;by_cases hneg:c<0
  ·have d1:decide(c<0)=true:=decide_eq_true hneg;have HB:=hid(jf.out(.inl hneg));have j4:=hid(HF.out.at ji.out(fun x=>x));go_wp2_with fail
   go_quiet(fail);have j0:=hid((Q0s wr nq).at j4.out(fun x=>x));have j7:=hid((jb.out.trans HF.out).trans(Q0s wr nq));generalize wr.drewN nq=W at j0 j7 ⊢;go_wp2_with(first
    |(refine wpList_store_row rfl 25 _ _ rfl w.heap.size(Q3y(.slice none 0 0)(.slice none 0 0)0)rfl rfl _ _ j0.out Q2o rfl(z1r _ _ _ rfl rfl)?_))
   refine bodyPost_ret(z0m rfl _ _ w.heap.size 25(Q3y(.slice none 0 0)(.slice none 0 0)0)(0,0)_ rfl(setRow_heap _ _ _ _ _ _ j0.out)Tryz.underlying25 rfl Q2o)rfl ?_;rw[show RES=Q7h 7 by rw[← j1.out,HB.out,if_pos rfl]];exact Q2j.bad(j7.out.setRow(fun h=>absurd h(Nat.lt_irrefl _))_)
  have d1:decide(c<0)=false:=decide_eq_false hneg;by_cases hge:(R:Int)<=c
  ·have HB:=hid(jf.out(.inr hge));have j4:=hid(HF.out.at ji.out(fun x=>x));go_wp2_with fail
   go_quiet(fail);have j0:=hid((Q0s wr nq).at j4.out(fun x=>x));have j7:=hid((jb.out.trans HF.out).trans(Q0s wr nq));generalize wr.drewN nq=W at j0 j7 ⊢;go_wp2_with(first
    |(refine wpList_store_row rfl 25 _ _ rfl w.heap.size(Q3y(.slice none 0 0)(.slice none 0 0)0)rfl rfl _ _ j0.out Q2o rfl(z1r _ _ _ rfl rfl)?_))
   refine bodyPost_ret(z0m rfl _ _ w.heap.size 25(Q3y(.slice none 0 0)(.slice none 0 0)0)(0,0)_ rfl(setRow_heap _ _ _ _ _ _ j0.out)Tryz.underlying25 rfl Q2o)rfl ?_;rw[show RES=Q7h 7 by rw[← j1.out,HB.out,if_pos rfl]];exact Q2j.bad(j7.out.setRow(fun h=>absurd h(Nat.lt_irrefl _))_)
  have jw:=hid(jl.out(by omega)(by omega));go_wp2_with fail
  go_quiet(fail);go_wp2;go_roundw
  case rel=>exact⟨i+1,by go_num,by omega,jw.out,HF.out.trans(Q0s _ _)⟩
  exact jz.out
 have s1:¬(i:Int)<(kinds.length:Int):=by omega
 have j8:Q0y R kinds=true:=by
  have:=jn.out;rw[List.take_of_length_le(by omega)]at this;exact this
 have j3:=j1.out;rw[j8,if_neg(by simp)]at j3;have jg:=hid(fun hcl=>ZP.out hcl j8);have ja:=hid(CL.out wr b jm.out);have j4:=hid(hfr.at ji.out(fun x=>x));have jd:=hid(jb.out.trans hfr);clear j8 ZP CL hfr j1;by_cases hcl:Q3c s=[]
 ·rw[if_neg(by simp[hcl])]at j3;have je:=hid(jg.out hcl);rw[hcl]at ja;generalize Q8d s kinds=GS at je j3;have jc:=hid j3;unfold Q2j at je;clear hcl jg j3;go_wp2_with(first
   |(refine wpList_store_row rfl 25 _ _ rfl w.heap.size(Q3y(.slice na(Q2d(tabF s)GS.st).length nc)(.slice wa GS.wanted.length wc)GS.place)rfl rfl _ _ j0.out Q2o rfl(z1r _ _ _ rfl rfl)?_)
   |(go_at_call 16;refine(ja.out).mono ?_;rintro e w2⟨v,rfl,hO,hf2⟩;obtain⟨ao,cp,hv⟩:=z0d hO;subst hv;have j5:=hid hf2;clear hO hf2)
   |(go_at_call 17;refine(je.out _ b(jd.out.trans j5.out)(jm.out.fresh j5.out)).mono ?_;rintro e w4⟨vn,vw,rfl,hf4,hn4,hw4⟩;obtain⟨na,nc,hvn⟩:=z0d hn4;subst hvn;obtain⟨wa,wc,hvw⟩:=z0d hw4;subst hvw;have js:=hid hn4;have jq:=hid hw4;have jp:=hid(j5.out.trans hf4);have j0:=hid(jp.out.at j4.out(fun x=>x));have jr:w.heap.size<w2.heap.size:=z0j(j5.out.at j4.out(fun x=>x));clear hn4 hw4 hf4))
  refine bodyPost_ret(z0m rfl _ _ w.heap.size 25(Q3y(.slice na(Q2d(tabF s)GS.st).length nc)(.slice wa GS.wanted.length wc)GS.place)(0,0)_ rfl(setRow_heap _ _ _ _ _ _ j0.out)Tryz.underlying25 rfl Q2o)rfl ?_;rw[← jc.out];refine⟨_,_,rfl,(jd.out.trans jp.out).setRow(fun h=>absurd h(Nat.lt_irrefl _))_,?_,?_⟩
  ·refine z0f(z0c js.out(fun g hg=>?_))(Nat.le_of_lt jr);have:=(js.out.lt g hg).1;exact setRow_other _ _ _ _(by omega)
  refine z0f(z0c jq.out(fun g hg=>?_))(Nat.le_of_lt jr);have:=(jq.out.lt g hg).1;exact setRow_other _ _ _ _(by omega)
 rw[if_pos hcl]at j3;have jc:=hid j3;have jx:(0:Int)<((Q3c s).length:Int):=by have:=List.length_pos_iff.2 hcl;omega
 clear hcl jg j3;generalize Q3c s=CF at ja jx;go_wp2_with(first
  |(refine wpList_store_row rfl 25 _ _ rfl w.heap.size(Q3y(.slice none 0 0)(.slice none 0 0)0)rfl rfl _ _ j0.out Q2o rfl(z1r _ _ _ rfl rfl)?_)
  |(go_at_call 16;refine(ja.out).mono ?_;rintro e w2⟨v,rfl,hO,hf2⟩;obtain⟨ao,cp,hv⟩:=z0d hO;subst hv;have j5:=hid hf2;have j0:=hid(hf2.at j4.out(fun x=>x));clear hO hf2))
 refine bodyPost_ret(z0m rfl _ _ w.heap.size 25(Q3y(.slice none 0 0)(.slice none 0 0)0)(0,0)_ rfl(setRow_heap _ _ _ _ _ _ j0.out)Tryz.underlying25 rfl Q2o)rfl ?_;rw[← jc.out];refine Q2j.bad ?_;exact(jd.out.trans j5.out).setRow(fun h=>absurd h(Nat.lt_irrefl _))_
theorem x04(s:ByteArray)(kinds:List Int)(vk:Value)(w:World)(hs:s.size<=maxLen)(hk:Q02 w vk kinds)(hm:kinds.length<=maxLen) :
  Calls Tryz.prog 5#[.string s,vk]w fun e w'=>Q2j s(Q2m s kinds)w e w':=by
 by_cases hl:60<kinds.length
 ·have e:Q2m s kinds=Q7h 1:=by unfold Q2m;rw[if_pos hl]
  rw[e];exact z9h s kinds vk w hs hk(.inr hl)hm
 by_cases h8:800<s.size
 ·have e:Q2m s kinds=Q7h 1:=by unfold Q2m;rw[if_neg hl,x7w h8,if_pos(by decide)]
  rw[e];exact z9h s kinds vk w hs hk(.inl h8)hm
 by_cases hc:(Q0u s).1=0
 ·exact y6t s kinds vk w(by omega)hk(by omega)hc
 have e:Q2m s kinds=Q7h(Q0u s).1:=by unfold Q2m;rw[if_neg hl,if_pos hc]
 rw[e];exact y9x s kinds vk w(by omega)hk(by omega)hc
section
variable{P:Program}(w:World)
theorem x5z{l news:List Value}{x:Value}{N o:Nat}(hfit:N+news.length<=l.length)(hx:∀u∈news,u=x)(ho:l[o]? = some x):(l.take N++news++l.drop(N+news.length))[o]? = some x:=by
 have j0:o<l.length:=by
  rcases Nat.lt_or_ge o l.length with h|h
  ·exact h
  rw[qN h]at ho;cases ho
 have ht:(l.take N).length=N:=by rw[List.length_take];omega
 by_cases h1:o<N
 ·rw[List.append_assoc,List.getElem?_append_left(by omega),List.getElem?_take,if_pos h1];exact ho
 by_cases h2:o<N+news.length
 ·rw[List.getElem?_append_left(by rw[List.length_append];omega),List.getElem?_append_right(by omega),ht];have hm:o-N<news.length:=by omega
  rw[qE hm,hx _(List.getElem_mem hm)]
 rw[List.getElem?_append_right(by rw[List.length_append];omega),List.length_append,ht,List.getElem?_drop];rw[show N+news.length+(o-(N+news.length))=o by omega];exact ho
theorem z3p(base:Nat)(t ty e:TypeId)(i:TypeInfo)(z:Value)(size bytes:Nat)(ht:P.underlying t=some(.slice e))(hi:P.info? e=some i)(hz:i.zero=some z)
  (hsize:i.size=size)(hby:i.bytes=bytes)(hzs:z.cells.size=size)(hsz:0<size)
  (v:Value)(n:Nat)(xs:List Value)(hown:w.ownsRow base e size v n xs)
  (a:Addr)(m c:Nat)(news:List Value)(hl:news.length=m*size)(hnews:∀j u,news[j]? = some u->w.cell?(a.add j)=some u)(h1:∀u∈news,u.oneCell'=true)
  (h63:n+m<=maxLen)(hbytes:(n+m)*bytes<=140737488355328)(hbase:base<=w.heap.size)(x:Value)(hx:∀u∈news,u=x) :
  ∃v' w',(Builtin.append_#[t,t]ty#[v,.slice(some a)m c]).run P w=.ok v' w'/\w'.ownsRow base e size v'(n+m)(xs++news)/\w.grownBy w' v.ownBlock /\
   (∀k,v'.ownBlock=some k->v.ownBlock=some k∨w.heap.size<=k)/\(∀b o,w.cell?⟨b,o,none⟩=some x->w'.cell?⟨b,o,none⟩=some x)/\w'.ownsRow base e size v n xs:=by
 have old:∀w':World,w.grownBy w' none->∀b o,w.cell?⟨b,o,none⟩=some x->w'.cell?⟨b,o,none⟩=some x:=fun w' hg b o hc=>by
  have hb:b<w.heap.size:=by
   rcases Nat.lt_or_ge b w.heap.size with h|h
   ·exact h
   simp[World.cell?,Array.getElem?_eq_none h]at hc
  rw[World.cell?_of_block(hg.block b hb(by simp))];exact hc
 rcases hown.2 with⟨rfl,rfl⟩|⟨g,cap,cur,rfl,hbg,hg,hnc,hcm,hcs,htake⟩
 ·have j4:xs=[]:=List.eq_nil_of_length_eq_zero(by simpa using hown.1);subst j4;obtain⟨v',w',hr,h2,h3,_⟩:=run_append_own(P:=P)w w.heap.size t ty e i z size bytes ht hi hz hsize hby hzs hsz _ 0 [](World.ownsRow_nil w _ e size)a m c news hl hnews h1 h63 hbytes(qR _);exact⟨v',w',hr,z0f h2 hbase,h3,fun k hk=>.inr(h2.lt k hk).1,old w' h3,World.ownsRow_nil _ _ _ _⟩
 by_cases hroom:n+m<=cap
 ·obtain⟨v',w',hr,h2,h3,_⟩:=run_append_own(P:=P)w base t ty e i z size bytes ht hi hz hsize hby hzs hsz _ n xs hown a m c news hl hnews h1 h63 hbytes hbase;subst hsize;have j1:n*i.size+news.length<=cur.size:=by rw[hl,hcs,← Nat.add_mul];exact Nat.mul_le_mul_right _ hroom
  have j2:=run_append_room(P:=P)w t ty e i ht hi g n cap cur hg a m c news hl hnews h1 hroom j1;rw[hr]at j2;injection j2 with e1 e2;have hh:(w.setRow g(cur.toList.take(n*i.size)++news++cur.toList.drop(n*i.size+news.length)).toArray).heap[g]? = some(.cells(cur.toList.take(n*i.size)++news++cur.toList.drop(n*i.size+news.length)).toArray e(0,0)):=setRow_heap _ _ _ _ _ _ hg;rw[← e2]at hh;refine⟨v',w',hr,h2,h3,fun k hk=>by rw[e1]at hk;exact .inl hk,fun b o hc=>?_,?_⟩
  ·by_cases hb:b=g
   ·subst hb;have q:cur[o]? = some x:=by rw[← Q0b hg o];exact hc
    rw[Q0b hh o];rw[List.getElem?_toArray];exact x5z(by simpa using j1)hx(by simpa using q)
   have j3:b<w.heap.size:=by
    rcases Nat.lt_or_ge b w.heap.size with h|h
    ·exact h
    simp[World.cell?,Array.getElem?_eq_none h]at hc
   rw[World.cell?_of_block(h3.block b j3(by simp[Value.ownBlock];exact hb))];exact hc
  refine⟨hown.1,.inr⟨g,cap,_,rfl,hbg,hh,hnc,hcm,?_,?_⟩⟩
  ·simp only[List.size_toArray,List.length_append,List.length_take,List.length_drop,Array.length_toList];omega
  rw[List.append_assoc,List.take_append_of_le_length(by rw[List.length_take,Array.length_toList];omega),List.take_take,Nat.min_self];exact htake
 have j0:∀j u,xs[j]? = some u->w.cell?((⟨g,0,none⟩:Addr).add j)=some u:=hown.cells(g:=g)rfl;obtain⟨v',w',hr,h2,h3⟩:=run_append_arg_grows(P:=P)w t ty e i z size bytes ht hi hz hsize hby hzs hsz⟨g,0,none⟩n cap xs hown.1 j0 a m c news hl hnews(by omega)h63 hbytes;exact⟨v',w',hr,z0f h2 hbase,z7r h3 _,fun k hk=>.inr(h2.lt k hk).1,old w' h3,z0c hown(fun k hk=>h3.block k(hown.lt k hk).2(by simp))⟩
theorem z2t{ops:Array Oper}{rest:List Oper}{o:Oper}{a:Act}{Q:Exit->Act->World->Prop}(hgd:o.guard=none)(s x:Operand)(t:TypeId)
  (ho:o.op=.call{callee:=.builtin .append,args:=#[s,x],argTypes:=#[t,t]})(v xv:Value)(hs:a.eval s=v)(hx:a.eval x=xv)(v':Value)(w':World)
  (hr:(Builtin.append_#[t,t]o.type#[v,xv]).run P w=.ok v' w')(h:wpList P ops Q rest(a.put o.dst v')w'):wpList P ops Q(o::rest)a w :=
 wpList_plain hgd fun _ hK=>by
  unfold Oper.wp execOp;simp only[ho,resolve,invoke,builtin,Sem.run_bind,Sem.run_pure,Result.andThen_ok,List.map_toArray,List.map_cons,List.map_nil,hs,hx,hr];exact hK _ _ h
end
theorem y37{P:Program}{fn:Func}{p:Tmp}{ty:TypeId}(h:fn.results=#[.cell p ty])(tmps:Array Value)(w:World)(g:Nat)(t:TypeId)(cs:Array Value)(fr:Nat × Nat)(d:TypeDesc)
  (hp:tmps.getD p undef=.pointer(some⟨g,0,none⟩))(hg:w.heap[g]? = some(.cells cs t fr))
  (hu:P.underlying ty=some d)(hd:(match d with | .struct _ | .array _ _=>true|_=>false)=true)(hi:(P.info? ty).map(·.size)=some cs.size) :
  (results fn tmps).run P w=.ok(.agg cs)w:=by
 have j0:tmps[p]?.getD undef=.pointer(some⟨g,0,none⟩):=by simpa using hp
 simp[results,h,j0,asAddr,run_loadVar_row w g t ty cs fr d hg hu hd hi]
abbrev Q3o(w:World)(v:Value)(n:Nat)(mk:Int):Prop:=Q02 w v(List.replicate n mk)
theorem Q3o.keep{w w':World}{v:Value}{n:Nat}{mk:Int}(h:Q3o w v n mk)(hk:∀b o,w.cell?⟨b,o,none⟩=some(.int .i64 mk)->w'.cell?⟨b,o,none⟩=some(.int .i64 mk)):Q3o w' v n mk:=by
 obtain⟨ao,cap,h1,h2,h3⟩:=h;refine⟨ao,cap,h1,h2,fun j hj=>?_⟩;obtain⟨g,o,h4,h5⟩:=h3 j hj;rw[List.getElem_replicate]at h5 ⊢;exact⟨g,o,h4,hk _ _ h5⟩
theorem Q3o.of{w:World}{base:Nat}{v:Value}{n:Nat}{mk:Int}(h:w.ownsRow base 3 1 v n(Q56(List.replicate n mk))):Q3o w v n mk:=by
 have:Q2c w base v(List.replicate n mk):=by unfold Q2c;rw[List.length_replicate];exact h
 exact Q2c.at' this
theorem Q02.kept{w w':World}{v:Value}{l:List Int}(h:Q02 w v l)(hk:∀k,v.ownBlock=some k->k<w.heap.size->w'.heap[k]? = w.heap[k]?):Q02 w' v l:=by
 obtain⟨ao,cap,h1,h2,h3⟩:=h;refine⟨ao,cap,h1,h2,fun j hj=>?_⟩;obtain⟨g,o,h4,h5⟩:=h3 j hj;refine⟨g,o,h4,?_⟩;have hb:g<w.heap.size:=by
  rcases Nat.lt_or_ge g w.heap.size with h|h
  ·exact h
  simp[World.cell?,Array.getElem?_eq_none h]at h5
 rw[World.cell?_of_block(hk g(by rw[h1,h4];rfl)hb)];exact h5
theorem x4o{l:List Int}{i:Nat}{mk:Int}(hi:i<l.length):(List.replicate i mk++l.drop i).set i mk=List.replicate(i+1)mk++l.drop(i+1):=by
 rw[List.set_append_right _ _(by simp),List.length_replicate,Nat.sub_self,qC hi,List.set_cons_zero,List.replicate_succ',List.append_assoc];rfl
theorem y1i(w:World)(va vb:Value)(l:List Int)(ha:Q02 w va l)(hb:Q02 w vb l)(hl:l.length<=1000000000000000) :
  Calls Tryz.prog 7#[va,vb]w fun e w'=>e=.returned(.bool true)/\∃m,w'=w.drewN m:=by
 obtain⟨aa,ca,rfl,hca,cella⟩:=ha;obtain⟨ab,cb,rfl,hcb,cellb⟩:=hb;have CA:=hid cella;have CB:=hid cellb;clear cella cellb;go_enter Tryz.func7,Tryz.ntmps7
 go_wp2;go_loopw [5](fun x5 wr=>∃(i m:Nat),x5=.int .i64 i/\wr=w.drewN m/\i<=l.length)(fun x _=>1000000000000001-(intOf x).toNat)
 case atStart=>exact⟨0,0,rfl,rfl,by omega⟩
 obtain⟨i,m,rfl,rfl,hi⟩:=hrel;have j0:=hid(Q2a(B:=1000000000000001)i(by omega));by_cases hlt:i<l.length
 ·have k1:(i:Int)<(l.length:Int):=by omega
  obtain⟨g,o,rfl,hc1⟩:=CA.out i hlt;obtain⟨g2,o2,rfl,hc2⟩:=CB.out i hlt;have u1:=Q0j(Q0s w m)hc1;have u2:=Q0j(Q0s w m)hc2;generalize l[i]=c at u1 u2;generalize hW:w.drewN m=wr at u1 u2 ⊢;have HW:=hid hW;clear hW hc1 hc2;go_wp2;go_quiet(fail);go_wp2;go_roundw
  case rel=>exact⟨i+1,m+nq,by go_num,by rw[← HW.out,World.drewN_drewN],by omega⟩
  exact j0.out
 have k1:¬(i:Int)<(l.length:Int):=by omega
 go_wp2;go_ret;exact⟨rfl,m,rfl⟩
theorem x3p(w:World)(v:Value)(n:Nat)(mk:Int)(h:Q3o w v n mk)(hn:n<=1000) :
  Calls Tryz.prog 18#[v,.int .i64 mk]w fun e w'=>e=.returned(.bool true)/\w'=w:=by
 obtain⟨ao,cap,rfl,hc,cell⟩:=h;have CC:=hid cell;rw[List.length_replicate]at hc ⊢;have CD:Hid(∀j,j<n->∃g o,ao=some⟨g,o,none⟩/\w.cell?⟨g,o+j,none⟩=some(.int .i64 mk)):=hid(fun j hj=>by
  obtain⟨g,o,h1,h2⟩:=CC.out j(by rw[List.length_replicate];exact hj);rw[List.getElem_replicate]at h2;exact⟨g,o,h1,h2⟩)
 clear cell CC;go_enter Tryz.func18,Tryz.ntmps18
 go_wp2;go_loopw [5](fun x5 wr=>∃(i:Nat),x5=.int .i64 i/\wr=w/\i<=n)(fun x _=>1001-(intOf x).toNat)
 case atStart=>exact⟨0,rfl,rfl,by omega⟩
 obtain⟨i,rfl,rfl,hi⟩:=hrel;have j0:=hid(Q2a(B:=1001)i(by omega));by_cases hlt:i<n
 ·have k1:(i:Int)<(n:Int):=by omega
  obtain⟨g,o,rfl,hc1⟩:=CD.out i hlt;go_wp2;go_roundw
  case rel=>exact⟨i+1,by go_num,by first|rfl|trivial,by omega⟩
  exact j0.out
 have k1:¬(i:Int)<(n:Int):=by omega
 go_wp2;go_ret;exact⟨rfl,rfl⟩
abbrev Q95(v v1 v2 v3:Value)(mk:Int):Array Value:=#[v,v1,v2,v3,.int .i64 mk]
theorem szOwn:(Tryz.prog.info? 35).map(·.size)=some 5:=by kernel_rfl
theorem x1s(a a1 a2 a3:Option Addr)(n n1 n2 n3 c c1 c2 c3:Nat)(mk:Int):(Q95(.slice a n c)(.slice a1 n1 c1)(.slice a2 n2 c2)(.slice a3 n3 c3)mk).all(·.oneCell')=true :=
 all_oneCell_toArray(cs:=[.slice a n c,.slice a1 n1 c1,.slice a2 n2 c2,.slice a3 n3 c3,.int .i64 mk])(by intro v hv;simp only[List.mem_cons,List.not_mem_nil,or_false]at hv;rcases hv with rfl|rfl|rfl|rfl|rfl<;>rfl)
theorem asz(W:World)(o:Obj):(W.alloc o).heap.size=W.heap.size+1:=by simp
def Q8w(v:Value)(w:World)(x:Value):Prop:=∀k,x.ownBlock=some k->v.ownBlock=some k∨w.heap.size<=k
structure Q9q(w:World)(v v1 v2 v3:Value)(n:Nat)(mk:Int):Prop where
 m0:Q3o w v n mk
 m1:Q3o w v1(n+1)mk
 m2:Q3o w v2(n+2)mk
 m3:Q3o w v3(n+6)mk
theorem Q9q.kept{w w':World}{v v1 v2 v3:Value}{n:Nat}{mk:Int}(h:Q9q w v v1 v2 v3 n mk)(hk:∀x,x=v∨x=v1∨x=v2∨x=v3->∀k,x.ownBlock=some k->k<w.heap.size->w'.heap[k]? = w.heap[k]?):Q9q w' v v1 v2 v3 n mk :=
 ⟨h.m0.kept(hk _(.inl rfl)),h.m1.kept(hk _(.inr(.inl rfl))),h.m2.kept(hk _(.inr(.inr(.inl rfl)))),h.m3.kept(hk _(.inr(.inr(.inr rfl))))⟩
def OwnRet(w:World)(v:Value)(n:Nat)(mk:Int)(e:Ending)(w':World):Prop :=
 ∃a1 c1 a2 c2 a3 c3,e=.returned(.agg(Q95 v(.slice a1(n+1)c1)(.slice a2(n+2)c2)(.slice a3(n+6)c3)mk))/\Q9q w' v(.slice a1(n+1)c1)(.slice a2(n+2)c2)(.slice a3(n+6)c3)n mk/\Mod(fun k=>v.ownBlock=some k)w w' /\
  Q8w v w(.slice a1(n+1)c1)/\Q8w v w(.slice a2(n+2)c2)/\Q8w v w(.slice a3(n+6)c3)
theorem y2z(n:Nat)(mk:Int)(m:Nat):Q56(List.replicate n mk)++List.replicate m(.int .i64 mk)=Q56(List.replicate(n+m)mk):=by
 rw[← List.replicate_append_replicate];simp[Q56]
theorem v0h(w:World)(v:Value)(l:List Int)(mk:Int)(ho:Q2c w 0 v l)(hl:l.length<=100) :
  Calls Tryz.prog 9#[v,.int .i64 mk]w fun e w'=>OwnRet w v l.length mk e w':=by
 obtain⟨i1,hi1,hy0,hy1,hy2⟩:=Q63;obtain⟨ao,cp,hv⟩:=z0d ho;subst hv;have HO:=hid ho;have j1:Hid(∀k,(Value.slice ao l.length cp).ownBlock=some k->k<w.heap.size):=hid(fun k hk=>(ho.lt k hk).2);clear ho;go_enter Tryz.func9,Tryz.ntmps9
 go_wp2;go_loopw [5](fun x5 wr=>∃(i:Nat),x5=.int .i64 i/\i<=l.length/\wr.ownsRow 0 3 1(.slice ao l.length cp)l.length(Q56(List.replicate i mk++l.drop i))/\Mod(fun k=>(Value.slice ao l.length cp).ownBlock=some k)w wr/\w.heap.size<wr.heap.size/\wr.heap[w.heap.size]? = some(.cells(Q95(.slice none 0 0)(.slice none 0 0)(.slice none 0 0)(.slice none 0 0)0)35(0,0)))
   (fun x _=>1001-(intOf x).toNat)
 case atStart=>exact⟨0,rfl,by omega,HO.out.alloc _,(mRf _ w).alloc _,by simp,z0a _ _⟩
 obtain⟨i,rfl,hi,hown,hmod,hsz,hblk⟩:=hrel;have jg:=hid(Q2a(B:=1001)i(by omega));have j9:=hid hown;have jb:=hid hmod;have jf:=hid hblk;by_cases hlt:i<l.length
 ·have k1:(i:Int)<(l.length:Int):=by omega
  obtain⟨g,cv,hv⟩:=Q1d.ownsRow_form hown(by omega);rw[qI]at hv;obtain⟨rfl,_,rfl⟩:=hv;have j2:(List.replicate i mk++l.drop i).length=l.length:=by simp;omega
  have c1:∃c:Int,wr.cell?⟨g,i,none⟩=some(.int .i64 c):=⟨_,z4i(l:=List.replicate i mk++l.drop i)(n:=l.length)(base:=0)(by unfold Q2c;rw[j2];exact hown)i(by rw[j2];exact hlt)⟩;obtain⟨c,c1⟩:=c1;have c2:wr.frozen?⟨g,i,none⟩=false:=by
   rcases hown.2 with⟨e,_⟩|⟨g',cap,cur,e,_,hg,_⟩
   ·simp at e
   rw[qI]at e;simp only[Option.some.injEq,Addr.mk.injEq]at e;obtain⟨⟨rfl,_,_⟩,_⟩:=e;exact Q0h hg i
  have j8:Hid((wr.setCell⟨g,i,none⟩(.int .i64 mk)).ownsRow 0 3 1(.slice(some⟨g,0,none⟩)l.length cp)l.length(Q56(List.replicate(i+1)mk++l.drop(i+1)))):=hid(by
   have:=z4t hown(g:=g)rfl i(.int .i64 mk)(by simp[Q56];omega);have e:(Q56(List.replicate i mk++l.drop i)).set i(.int .i64 mk)=Q56(List.replicate(i+1)mk++l.drop(i+1)):=by
    rw[← x4o hlt];unfold Q56;rw[List.map_set]
   rw[e]at this;exact this)
  have jh:=j1.out g rfl;have jd:Hid(Mod(fun k=>(Value.slice(some⟨g,0,none⟩)l.length cp).ownBlock=some k)w(wr.setCell⟨g,i,none⟩(.int .i64 mk))):=hid(Mod.setCell hmod(p:=⟨g,i,none⟩)(fun _=>rfl)_);have j7:Hid((wr.setCell⟨g,i,none⟩(.int .i64 mk)).heap[w.heap.size]? = some(.cells(Q95(.slice none 0 0)(.slice none 0 0)(.slice none 0 0)(.slice none 0 0)0)35(0,0))):=hid(by
   rw[Proofs.YtcpceafmlgaodaaGreat.heap_setCell_other _(by simp;omega)];exact hblk)
  have ja:Hid(w.heap.size<(wr.setCell⟨g,i,none⟩(.int .i64 mk)).heap.size):=hid(by
   have:=(mRf(fun _=>True)wr).setCell(p:=⟨g,i,none⟩)(fun _=>trivial)(.int .i64 mk);have:=this.size;omega)
  clear hown hmod hblk j2;go_wp2;go_roundw
  case rel=>exact⟨i+1,by go_num,by omega,j8.out,jd.out,ja.out,j7.out⟩
  exact jg.out
 have k1:¬(i:Int)<(l.length:Int):=by omega
 have j6:i=l.length:=by omega
 subst j6;rw[List.drop_length,List.append_nil]at hown;have je:maxLen=9223372036854775807:=rfl;obtain⟨v1,w6,r1,o6,g6,b6,k6,q6⟩:=z3p(P:=Tryz.prog)(wr.alloc(.cells#[.int .i64 mk]3))0 22 22 3 i1 _ 1 8 Tryz.underlying22 hi1 hy0 hy1 hy2 rfl(by decide)(.slice ao l.length cp)l.length _(hown.alloc _)⟨wr.heap.size,0,none⟩1 1 [.int .i64 mk]rfl(z0l rfl)(by intro u hu;simp at hu;subst hu;rfl)(by omega)(by omega)(by omega)(.int .i64 mk)(by simp);obtain⟨v2,w7,r2,o7,g7,b7,k7,q7⟩:=z3p(P:=Tryz.prog)(w6.alloc(.cells#[.int .i64 mk,.int .i64 mk]3))0 22 22 3 i1 _ 1 8 Tryz.underlying22 hi1 hy0 hy1 hy2 rfl(by decide)(.slice ao l.length cp)l.length _(q6.alloc _)⟨w6.heap.size,0,none⟩2 2 [.int .i64 mk,.int .i64 mk]rfl(z0l rfl)(by intro u hu;simp at hu;subst hu;rfl)(by omega)(by omega)(by omega)(.int .i64 mk)(by simp);obtain⟨v3,w8,r3,o8,g8,b8,k8,q8⟩:=z3p(P:=Tryz.prog)(w7.alloc(.cells#[.int .i64 mk,.int .i64 mk,.int .i64 mk,.int .i64 mk,.int .i64 mk,.int .i64 mk]3))0 22 22 3 i1 _ 1 8 Tryz.underlying22 hi1 hy0 hy1 hy2 rfl(by decide)(.slice ao l.length cp)l.length _(q7.alloc _)⟨w7.heap.size,0,none⟩6 6 [.int .i64 mk,.int .i64 mk,.int .i64 mk,.int .i64 mk,.int .i64 mk,.int .i64 mk]rfl(z0l rfl)(by intro u hu;simp at hu;subst hu;rfl)(by omega)(by omega)(by omega)(.int .i64 mk)(by simp);obtain⟨a1,c1,hv1⟩:=z0d o6;obtain⟨a2,c2,hv2⟩:=z0d o7;obtain⟨a3,c3,hv3⟩:=z0d o8;subst hv1 hv2 hv3;have al:∀(W:World)(o:Obj)(b oo:Nat)(x:Value),W.cell?⟨b,oo,none⟩=some x->(W.alloc o).cell?⟨b,oo,none⟩=some x:=fun W o b oo x h=>Q0j((mRf(fun _=>False)W).alloc o)h;have M0:Q3o w8(.slice ao l.length cp)l.length mk:=Q3o.of q8;have M1:Q3o w8(.slice a1(l.length+1)c1)(l.length+1)mk:=by
  have e:=y2z l.length mk 1;rw[show List.replicate 1(Value.int .i64 mk)=[.int .i64 mk]from rfl]at e;rw[e]at o6;exact((Q3o.of o6).keep(fun b o h=>k7 b o(al _ _ _ _ _ h))).keep(fun b o h=>k8 b o(al _ _ _ _ _ h))
 have M2:Q3o w8(.slice a2(l.length+2)c2)(l.length+2)mk:=by
  have e:=y2z l.length mk 2;rw[show List.replicate 2(Value.int .i64 mk)=[.int .i64 mk,.int .i64 mk]from rfl]at e;rw[e]at o7;exact(Q3o.of o7).keep(fun b o h=>k8 b o(al _ _ _ _ _ h))
 have M3:Q3o w8(.slice a3(l.length+6)c3)(l.length+6)mk:=by
  have e:=y2z l.length mk 6;rw[show List.replicate 6(Value.int .i64 mk)=[.int .i64 mk,.int .i64 mk,.int .i64 mk,.int .i64 mk,.int .i64 mk,.int .i64 mk]from rfl]at e;rw[e]at o8;exact Q3o.of o8
 have z1:=g6.size;have z2:=g7.size;have z3:=g8.size;rw[asz]at z1 z2 z3;have j3:Mod(fun k=>(Value.slice ao l.length cp).ownBlock=some k)w w8:=Mod.grown((Mod.grown((Mod.grown(hmod.alloc _)g6(fun k hk _=>hk)).alloc _)g7(fun k hk _=>hk)).alloc _)g8(fun k hk _=>hk);have j0:¬(Value.slice ao l.length cp).ownBlock=some w.heap.size:=fun e=>by have:=j1.out _ e;omega
 have j4:Mod(fun k=>(Value.slice ao l.length cp).ownBlock=some k)wr w8:=Mod.grown((Mod.grown((Mod.grown((mRf _ wr).alloc _)g6(fun k hk _=>hk)).alloc _)g7(fun k hk _=>hk)).alloc _)g8(fun k hk _=>hk);have j5:=hid(j4.at hblk j0);have B1:Q8w(.slice ao l.length cp)w(.slice a1(l.length+1)c1):=fun k hk=>(b6 k hk).imp id(fun h=>by rw[asz]at h;omega);have B2:Q8w(.slice ao l.length cp)w(.slice a2(l.length+2)c2):=fun k hk=>(b7 k hk).imp id(fun h=>by rw[asz]at h;omega);have B3:Q8w(.slice ao l.length cp)w(.slice a3(l.length+6)c3):=fun k hk=>(b8 k hk).imp id(fun h=>by rw[asz]at h;omega);have N1:¬(Value.slice a1(l.length+1)c1).ownBlock=some w.heap.size:=fun e=>by
  rcases b6 _ e with h|h
  ·exact j0 h
  rw[asz]at h;omega
 have N2:¬(Value.slice a2(l.length+2)c2).ownBlock=some w.heap.size:=fun e=>by
  rcases b7 _ e with h|h
  ·exact j0 h
  rw[asz]at h;omega
 have N3:¬(Value.slice a3(l.length+6)c3).ownBlock=some w.heap.size:=fun e=>by
  rcases b8 _ e with h|h
  ·exact j0 h
  rw[asz]at h;omega
 have jc:Hid(Q9q(w8.setRow w.heap.size(Q95(.slice ao l.length cp)(.slice a1(l.length+1)c1)(.slice a2(l.length+2)c2)(.slice a3(l.length+6)c3)mk))(.slice ao l.length cp)(.slice a1(l.length+1)c1)(.slice a2(l.length+2)c2)(.slice a3(l.length+6)c3)l.length mk/\Mod(fun k=>(Value.slice ao l.length cp).ownBlock=some k)w(w8.setRow w.heap.size(Q95(.slice ao l.length cp)(.slice a1(l.length+1)c1)(.slice a2(l.length+2)c2)(.slice a3(l.length+6)c3)mk))/\Q8w(.slice ao l.length cp)w(.slice a1(l.length+1)c1)/\Q8w(.slice ao l.length cp)w(.slice a2(l.length+2)c2)/\Q8w(.slice ao l.length cp)w(.slice a3(l.length+6)c3)):=hid⟨Q9q.kept⟨M0,M1,M2,M3⟩(fun x hx k hk _=>setRow_other _ _ _ _(by
   intro e;subst e;rcases hx with rfl|rfl|rfl|rfl
   ·exact j0 hk
   ·exact N1 hk
   ·exact N2 hk
   exact N3 hk)),j3.setRow(fun h=>absurd h(Nat.lt_irrefl _))_,B1,B2,B3⟩
 have R1:=hid r1;have R2:=hid r2;have R3:=hid r3;clear o6 g6 b6 k6 q6 o7 g7 b7 k7 q7 o8 g8 b8 k8 q8 M0 M1 M2 M3 B1 B2 B3 N1 N2 N3 j3 j4 z1 z2 z3 al hown hmod hblk r1 r2 r3 j0 j9 jb jf;go_wp2_with(first
  |(at_builtin;refine z2t _ rfl _ _ 22 rfl _ _ rfl rfl _ _ R1.out ?_;clear R1)
  |(at_builtin;refine z2t _ rfl _ _ 22 rfl _ _ rfl rfl _ _ R2.out ?_;clear R2)
  |(at_builtin;refine z2t _ rfl _ _ 22 rfl _ _ rfl rfl _ _ R3.out ?_;clear R3)
  |(refine wpList_store_row rfl 35 _ _ rfl w.heap.size(Q95(.slice ao l.length cp)(.slice a1(l.length+1)c1)(.slice a2(l.length+2)c2)(.slice a3(l.length+6)c3)mk)rfl rfl _ _ j5.out szOwn rfl(x1s _ _ _ _ _ _ _ _ _ _ _ _ _)?_))
 refine bodyPost_ret(y37 rfl _ _ w.heap.size 35(Q95(.slice ao l.length cp)(.slice a1(l.length+1)c1)(.slice a2(l.length+2)c2)(.slice a3(l.length+6)c3)mk)(0,0)_ rfl(setRow_heap _ _ _ _ _ _ j5.out)Tryz.underlying35 rfl szOwn)rfl ?_;exact⟨a1,c1,a2,c2,a3,c3,rfl,jc.out⟩
theorem y9k(w:World)(ao a1 a2 a3:Option Addr)(n cp c1 c2 c3:Nat)(mk:Int)(h:Q9q w(.slice ao n cp)(.slice a1(n+1)c1)(.slice a2(n+2)c2)(.slice a3(n+6)c3)n mk)(hn:n<=100) :
  Calls Tryz.prog 10#[.agg(Q95(.slice ao n cp)(.slice a1(n+1)c1)(.slice a2(n+2)c2)(.slice a3(n+6)c3)mk)]w fun e w'=>e=.returned(.bool true)/\Q0a w w':=by
 have FU:=hid(fun(W:World)(v:Value)(k:Nat)(hm:Q3o W v k mk)(hk:k<=1000)=>x3p W v k mk hm hk);have hf:∀o:Obj,Q0a w(w.alloc o):=fun o=>(mRf _ w).alloc o;have F0:=hid(fun o=>FU.out(w.alloc o)_ n(h.m0.fresh(hf o))(by omega));have F1:=hid(fun o=>FU.out(w.alloc o)_(n+1)(h.m1.fresh(hf o))(by omega));have F2:=hid(fun o=>FU.out(w.alloc o)_(n+2)(h.m2.fresh(hf o))(by omega));have F3:=hid(fun o=>FU.out(w.alloc o)_(n+6)(h.m3.fresh(hf o))(by omega));clear h hf FU;generalize n+1=n1 at F1 ⊢;generalize n+2=n2 at F2 ⊢;generalize n+6=n6 at F3 ⊢;go_enter Tryz.func10,Tryz.ntmps10
 go_wp2_with(first
  |(go_at_call 18;refine(F0.out _).mono ?_;rintro e w'⟨rfl,hw⟩;rw[hw];clear hw F0)
  |(go_at_call 18;refine(F1.out _).mono ?_;rintro e w'⟨rfl,hw⟩;rw[hw];clear hw F1)
  |(go_at_call 18;refine(F2.out _).mono ?_;rintro e w'⟨rfl,hw⟩;rw[hw];clear hw F2)
  |(go_at_call 18;refine(F3.out _).mono ?_;rintro e w'⟨rfl,hw⟩;rw[hw];clear hw F3))
 go_ret;exact⟨z0s(by simp),(mRf _ w).alloc _⟩
end Go.Proofs.YtcpceafmlgaodaaGreat
