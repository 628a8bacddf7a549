import Derived.Test.YtcpceafmlgaodaaGreatRb2
import Derived.StillTailTactics
namespace Go.Proofs.YtcpceafmlgaodaaGreat
open Go.RowKit
set_option maxRecDepth 100000
set_option maxHeartbeats 16000000
set_option linter.unusedVariables false
set_option linter.unusedSimpArgs false
theorem Q02.take{w:World}{ao:Option Addr}{n cap:Nat}{l:List Int}(h:Q02 w(.slice ao n cap)l)(hn:n=l.length){j:Nat}(hj:j<=l.length):Q02 w(.slice ao j cap)(l.take j):=by
 obtain⟨a1,c1,e,hc,hcell⟩:=h;rw[qI]at e;obtain⟨rfl,_,rfl⟩:=e;refine⟨ao,cap,by rw[List.length_take,Nat.min_eq_left hj],by rw[List.length_take];omega,fun k hk=>?_⟩;rw[List.length_take]at hk;obtain⟨g,o,e1,e2⟩:=hcell k(by omega);exact⟨g,o,e1,by rw[List.getElem_take];exact e2⟩
theorem v1p(c:Nat->Bool)(x:Nat)(y:Nat->Nat)(n j:Nat)(M:Mat)(h:j<n):cdJ c x y(n-j)j M=cdJ c x y(n-(j+1))(j+1)(if c j=true then Q7w M x(y j)true else M):=by
 rw[show n-j=(n-(j+1))+1 by omega];rfl
theorem v1x(c:Q1->Nat->Bool)(x:Q1->Nat)(y:Q1->Nat->Nat)(q:List Q1)(i:Nat)(M:Mat)(h:i<q.length):cdI c x y(q.drop i)M=cdI c x y(q.drop(i+1))(cdJ(c q[i])(x q[i])(y q[i])q[i].2.length 0 M):=by
 rw[qC h];rfl
structure PrAt(w:World)(b:Nat)(P i:Nat)(x:Q1)(g3 o3 c3 g4 o4 n4 c4:Nat)(al:Option Addr)(cl:Nat):Prop where
 q3:w.cell?⟨b,3,none⟩=some(.slice(some⟨g3,o3,none⟩)P c3)
 y3:w.cell?⟨g3,o3+i,none⟩=some(.int .i64 x.1)
 q4:w.cell?⟨b,4,none⟩=some(.slice(some⟨g4,o4,none⟩)n4 c4)
 n4:i<n4
 y4:w.cell?⟨g4,o4+i,none⟩=some(.slice al x.2.length cl)
 l:Q02 w(.slice al x.2.length cl)x.2
theorem NV.pr{w:World}{b R H:Nat}{q:List Q1}{a0 a1 a2:Option Addr}{c0 c1 c2:Nat}{v3 v4:Value}{sv:List Value}(h:NV w b R H q a0 c0 a1 c1 a2 c2 v3 v4 sv){i:Nat}(hi:i<q.length) :
  ∃g3 o3 c3 g4 o4 n4 c4 al cl,PrAt w b q.length i q[i]g3 o3 c3 g4 o4 n4 c4 al cl:=by
 have j0:i<sv.length:=by rw[h.len];exact hi
 obtain⟨ao4,cp4,e4,hc4,cell4⟩:=h.r4;obtain⟨g4,o4,rfl,y4⟩:=cell4 i j0;have q4:=h.k4;rw[e4]at q4;have hl:=h.each i sv[i]q[i](qE j0)(qE hi);obtain⟨aol,cpl,el,hcl,celll⟩:=id hl;rw[el]at y4 hl;obtain⟨ao3,cp3,e3,hc3,cell3⟩:=h.r3;obtain⟨g3,o3,rfl,y3⟩:=cell3 i(by rw[List.length_map];exact hi);rw[List.getElem_map]at y3;rw[List.length_map]at e3;have q3:=h.k3;rw[e3]at q3;exact⟨g3,o3,cp3,g4,o4,sv.length,cp4,aol,cpl,q3,y3,q4,j0,y4,hl⟩
theorem PrAt.fresh{w w':World}{b P i:Nat}{x:Q1}{g3 o3 c3 g4 o4 n4 c4:Nat}{al:Option Addr}{cl:Nat}(h:PrAt w b P i x g3 o3 c3 g4 o4 n4 c4 al cl)(hf:Q0a w w'):PrAt w' b P i x g3 o3 c3 g4 o4 n4 c4 al cl :=
 ⟨Q0j hf h.q3,Q0j hf h.y3,Q0j hf h.q4,h.n4,Q0j hf h.y4,h.l.fresh hf⟩
theorem x1g(w:World)(b R H gn:Nat)(q:List Q1)(null:List Bool)(hS:Q35 w b R H q)(hQ:QOk R H q)(hn:Q13 w gn null)(hnl:null.length=H) :
  Calls Tryz.prog 66#[.pointer(some⟨b,0,none⟩),bsl gn H]w fun e w'=>MxRet w(R+1+H)(ldF R H null q)e w':=by
 obtain⟨a0,c0,a1,c1,a2,c2,v3,v4,sv,hN⟩:=hS;have r8:=hQ.r8;have h8:=hQ.h8;have p20:=hQ.p20;have HQ:=hid hQ;have HN:=hid hN;have jt:=hid hn;have jv:=hid hnl;have k0:=hN.k0;have k1:=hN.k1;have k2:=hN.k2;have BA:=hid(fun(W:World)(hW:Q0a w W)=>z1i W b R a0 c0(Q0j hW k0)(by omega));have SQ:Hid(∀W:World,Q0a w W->W.heap.size=w.heap.size->Calls Tryz.prog 74#[.int .i64((R+1+H:Nat):Int)]W fun e w'=>∃v gs,e=.returned v/\Q1v w' w.heap.size(R+1+H)v gs(sqF(R+1+H))/\Q0a w w'):=hid(fun W hW hz=>by
  refine(z65 W(R+1+H)(by omega)).mono ?_;rintro e w'⟨v,gs,he,hm,hf⟩;rw[hz]at hm;exact⟨v,gs,he,hm,hW.trans hf⟩)
 have CH:=hid(fun(W:World)(B:Nat)(v:Value)(gs:List Nat)(M:Mat)(h1:Q1v W B(R+1+H)v gs M)(h2:Sq(R+1+H)M)=>z9r W B(R+1+H)v gs M h1 h2(by omega));have ji:IntKind.i64.wrap(bs R+(H:Int))=((R+1+H:Nat):Int):=by rw[IntKind.wrap_i64];unfold bs;omega
 have hV:Q5k(cdI(ldZc R null)(ldX R)Q96 q(sqF(R+1+H)))=ldF R H null q:=rfl;have jw:R+1+H<=100:=by omega
 generalize ldF R H null q=V at hV;generalize j7:R+1+H=n at hV SQ CH ji jw ⊢;have k3:=hid j7;have HV:=hid hV;clear hN hQ hV hn hnl k0 j7;go_enter Tryz.func66,Tryz.ntmps66
 go_upto_region 1 with fail
 go_cut [5](fun s5 wx=>∃gs,Q1v wx w.heap.size n s5 gs(sqF n)/\Q0a w wx)
 case first =>
  go_region_with(first
   |(go_at_call 34;refine(BA.out _(by first|exact mRf _ w|exact(mRf _ w).drew|exact((mRf _ w).drew).drew)).mono ?_;rintro e w'⟨rfl,hw⟩;rw[hw];clear hw)
   |(go_at_call 74;refine(SQ.out _(by first|exact mRf _ w|exact(mRf _ w).drew|exact((mRf _ w).drew).drew)(by rfl)).mono ?_;rintro e w3⟨v,gs,rfl,hm3,hf3⟩))
  all_goals
   go_wp2_with fail
   go_meet;exact⟨gs,hm3,hf3⟩
 obtain⟨gs,hm,hfx⟩:=hcut;have HM:=hid hm;have HF:=hid hfx;generalize hL0:cdI(ldZc R null)(ldX R)Q96 q(sqF n)=L0 at HV;have jk:=hid hL0;obtain⟨ao,cp,hv⟩:=z0d hm.own;subst hv;clear hL0 hm hfx SQ ji;go_wp2;go_loopw [6,7,8](fun x6 _ _ wr=>∃(i:Nat)(M:Mat),x6=.int .i64 i/\i<=q.length/\Q1v wr w.heap.size n(.slice ao gs.length cp)gs M/\Sq n M/\Q0a w wr/\cdI(ldZc R null)(ldX R)Q96(q.drop i)M=L0)
   (fun x _ _ _=>1001-(intOf x).toNat)
 case atStart=>exact⟨0,_,rfl,by omega,HM.out,y1c n,HF.out,jk.out⟩
 obtain⟨i,M,rfl,hi,hm,hs,hfr,hrec⟩:=hrel;have ju:=hid(Q2a(B:=1001)i(by omega));have j9:=hid hm;have ja:=hid hs;have jf:=hid hfr;have k5:=Q0j hfr k1;clear HM HF jk hm hs;by_cases hlt:i<q.length
 ·have s1:(i:Int)<(q.length:Int):=by omega
  rw[v1x _ _ _ _ _ _ hlt]at hrec;generalize hF2:cdJ(ldZc R null q[i])(ldX R q[i])(Q96 q[i])q[i].2.length 0 M=F2 at hrec;have j2:=hid hrec;have j5:=HQ.out.hd q[i](List.getElem_mem hlt);have j8:=HQ.out.sy q[i](List.getElem_mem hlt);obtain⟨g3,o3,c3,g4,o4,n4,c4,al,cl,hP⟩:=HN.out.pr hlt;generalize q[i]=z at hF2 j5 j8 hP;have jj:=hid hF2;have HP:=hid hP;have k6:=j8.1;have s4:(i:Int)<(n4:Int):=by have:=hP.n4;omega
  have q4:=(hP.fresh hfr).q4;have y4:=(hP.fresh hfr).y4;have jo:=hid j8.2;have js:=hid j5;clear hrec hF2 hP j8 j5 hfr;go_wp2;go_loopw [7,8](fun x7 _ wr=>∃(j:Nat)(M:Mat),x7=.int .i64 j/\j<=z.2.length/\Q1v wr w.heap.size n(.slice ao gs.length cp)gs M/\Sq n M/\Q0a w wr/\cdJ(ldZc R null z)(ldX R z)(Q96 z)(z.2.length-j)j M=F2)
    (fun x _ _=>1001-(intOf x).toNat)
  case atStart=>exact⟨0,M,rfl,by omega,j9.out,ja.out,jf.out,jj.out⟩
  obtain⟨j,M2,rfl,hj,hm,hs,hfr,hrec⟩:=hrel;have jm:=hid(Q2a(B:=1001)j(by omega));have jc:=hid hm;have j4:=hid hs;have jb:=hid hfr;have j3:=HP.out.fresh hfr;have q4:=j3.q4;have y4:=j3.y4;have jh:=j3.l;clear j9 ja jf jj q4 y4;have q4:=j3.q4;have y4:=j3.y4;by_cases hlt2:j<z.2.length
  ·have s2:(j:Int)<(z.2.length:Int):=by omega
   have s3:(j:Int)<=(z.2.length:Int):=by omega
   rw[v1p _ _ _ _ _ _ hlt2]at hrec;have j0:=hid hrec;have NO:=hid(z4r wr b R H gn a0 c0(.slice al j cl)(z.2.take j)null(Q0j hfr HN.out.k0)(by omega)(by omega)(jh.take rfl(by omega))(by rw[List.length_take];omega)(jt.out.fresh hfr)jv.out(fun c hc=>jo.out c(List.mem_of_mem_take hc)));obtain⟨ao5,cp5,e5,hc5,cell5⟩:=jh;rw[qI]at e5;obtain⟨rfl,_,rfl⟩:=e5;obtain⟨gl,ol,rfl,y5⟩:=cell5 j hlt2;have s6:z.2.length<=cl:=hc5;have s7:(j:Int)<=(cl:Int):=by omega
   have HC:Hid(ldZc R null z j=Q4e(bs R)null(z.2.take j)):=hid rfl;generalize Q4e(bs R)null(z.2.take j)=nb at NO HC;clear hrec hm hs hfr cell5 j3;cases nb
   ·go_wp2_with(first
     |(go_at_call 68;refine(NO.out).mono ?_;rintro e w'⟨rfl,m,hw⟩;have HW:=hid hw;clear hw))
    go_roundw
    case rel =>
     have hf:=Q0s wr m;rw[← HW.out]at hf;refine⟨j+1,M2,by go_num,by omega,jc.out.fresh hf,j4.out,jb.out.trans hf,?_⟩;have:=j0.out;rw[HC.out,if_neg(by simp)]at this;exact this
    exact jm.out
   go_upto_region 10 with(first
    |(go_at_call 68;refine(NO.out).mono ?_;rintro e W1⟨rfl,m,hw⟩;have HW:=hid hw;clear hw))
   have hf:Q0a wr W1:=by rw[HW.out];exact Q0s wr m
   have jd:=hid(jb.out.trans hf);have je:=HP.out.fresh jd.out;have p3:=je.q3;have e3:=je.y3;have p4:=Q0j hf q4;have e4:=Q0j hf y4;have e5:=Q0j hf y5;have j1:=jc.out.fresh hf;have j5:=js.out;obtain⟨hdn,hhn⟩:∃a:Nat,z.1=a:=⟨z.1.toNat,by omega⟩;have jq:=jo.out z.2[j](List.getElem_mem hlt2);obtain⟨yn,hyn⟩:∃a:Nat,z.2[j]=a:=⟨z.2[j].toNat,by omega⟩;have j6:ldX R z=R+1+hdn:=by unfold ldX bs;omega
   have jn:Q96 z j=yn:=by unfold Q96;rw[qD,qE hlt2,Option.getD_some,hyn,Int.toNat_natCast]
   have j7:=k3.out;obtain⟨xn,hx⟩:∃a,a=R+1+hdn:=⟨_,rfl⟩;rw[← hx]at j6;have k4:xn<n:=by omega
   have jx:yn<n:=by omega
   have jz:gs.length=n:=by rw[j1.len,j4.out.len]
   obtain⟨gx,hgx⟩:∃g,gs[xn]? = some g:=⟨_,qE(by omega)⟩;obtain⟨gv,cv,hv⟩:=Q1d.ownsRow_form j1.own(by omega);rw[qI]at hv;obtain⟨rfl,_,rfl⟩:=hv;have r1:=j1.row hgx;have d1:=j1.cell j4.out hgx jx;have d2:=(j1.blk xn gx hgx).2.frozen yn;rw[hhn]at e3;rw[hyn]at e5;have t1:(xn:Int)<(gs.length:Int):=by omega
   have t2:(yn:Int)<(n:Int):=by omega
   have k7:IntKind.i64.wrap(bs R+(hdn:Int))=(xn:Int):=by rw[IntKind.wrap_i64];unfold bs;omega
   have jg:Hid(Q1v(W1.setCell⟨gx,yn,none⟩(.bool true)).drew w.heap.size n(.slice(some⟨gv,0,none⟩)gs.length cp)gs(Q7w M2 xn yn true)/\Sq n(Q7w M2 xn yn true)/\Q0a w(W1.setCell⟨gx,yn,none⟩(.bool true)).drew):=hid
    ⟨(j1.put hgx yn true).drew,z9b j4.out k4 true,(jd.out.setCell(fun hlt=>by have:=(j1.blk xn gx hgx).1;exact absurd hlt(by show ¬gx<w.heap.size;omega))_).drew⟩
   have jr:Hid(cdJ(ldZc R null z)(ldX R z)(Q96 z)(z.2.length-(j+1))(j+1)(Q7w M2 xn yn true)=F2):=hid(by
    have:=j0.out;rw[HC.out,if_pos rfl,j6,jn]at this;have e:ldX R z=xn:=j6;rw[e];exact this)
   clear hf je j1 j5 hhn jq hyn j6 jn j7 hx jz hgx q4 y4 y5 NO j0;refine wp_region_still_tail 24(by kernel_rfl)(by kernel_rfl)?_;change wpStill _ _ W1.drew _ _ _;simp only[List.take_succ_cons,List.take_zero,List.drop_succ_cons,List.drop_zero];still_step
   still_step
   still_call(BA.out _ jd.out.drew)
   repeat still_step
   refine wpStill_nil ?_;change wpList _ _ _ _ _ W1.drew;go_wp2;go_roundw
   case rel=>exact⟨j+1,_,by go_num,by omega,jg.out.1,jg.out.2.1,jg.out.2.2,jr.out⟩
   exact jm.out
  have s2:¬(j:Int)<(z.2.length:Int):=by omega
  have jl:z.2.length-j=0:=by omega
  rw[jl]at hrec;have j0:=hid hrec;clear hrec jl hm hs hfr jh j3;go_wp2;go_roundw
  case rel=>exact⟨i+1,M2,by go_num,by omega,jc.out,j4.out,jb.out,by have:=j0.out;unfold cdJ at this;rw[this];exact j2.out⟩
  exact ju.out
 have s1:¬(i:Int)<(q.length:Int):=by omega
 rw[List.drop_eq_nil_of_le(by omega)]at hrec;have j2:=hid hrec;clear hrec hfr;go_wp2_with(first
  |(go_at_call 92;refine(CH.out _ _ _ _ _ j9.out ja.out).mono ?_;rintro e w3⟨rfl,hm3,hu3⟩;have jy:=hid hm3;have jp:=hid hu3;clear hm3 hu3))
 go_ret;refine⟨_,gs,rfl,?_,?_⟩
 ·rw[← HV.out,← j2.out];exact jy.out
 have hz:=jf.out;exact hz.trans' jp.out(fun k hlt2 hk=>by
  obtain⟨j,hj,rfl⟩:=List.getElem_of_mem hk;have:=(j9.out.blk j _(qE hj)).1;omega)
def Q4r(q:List Q1)(m:Itm):Int:=((q[m.p]?).bind fun x=>x.2[m.d]?).getD(-1)
theorem z5f(w:World)(cb b R H:Nat)(q:List Q1)(m:Itm)(kx:w.cell?⟨cb,0,none⟩=some(.pointer(some⟨b,0,none⟩)))(hS:Q35 w b R H q)(hQ:QOk R H q)(hm:m.p<q.length)(hd:m.d<=1000) :
  Calls Tryz.prog 73#[.pointer(some⟨cb,0,none⟩),.agg(itA m.p m.d m.f)]w fun e w'=>e=.returned(.int .i64(Q4r q m))/\Q0a w w':=by
 obtain⟨p,d,f⟩:=m;dsimp only at hm hd ⊢;obtain⟨a0,c0,a1,c1,a2,c2,v3,v4,sv,hN⟩:=hS;obtain⟨g3,o3,c3,g4,o4,n4,c4,al,cl,hP⟩:=hN.pr hm;have j2:=hQ.p20;have j3:=(hQ.sy q[p](List.getElem_mem hm)).1;have j1:Q4r q⟨p,d,f⟩=(q[p].2[d]?).getD(-1):=by unfold Q4r;simp[qE hm]
 rw[j1];have j0:Q0a w(w.alloc(.cells(itA p d f)163(0,0))):=(mRf _ w).alloc _;have i0:=Q0b(z0a w(.cells(itA p d f)163(0,0)))0;have i1:=Q0b(z0a w(.cells(itA p d f)163(0,0)))1;simp at i0 i1;have x0:=Q0j j0 kx;have q4:=Q0j j0 hP.q4;have y4:=Q0j j0 hP.y4;have s4:(p:Int)<(n4:Int):=by have:=hP.n4;omega
 have hl:=hP.l.fresh j0;have HF:Hid(∀k,Q0a w((w.alloc(.cells(itA p d f)163(0,0))).drewN k)):=fun k=>j0.trans(Q0s _ k);have j4:p<20:=by omega
 clear j0 j1 kx hN hQ hP;generalize q[p]=x at j3 y4 hl ⊢;clear hm j2;obtain⟨ao,cap,e,hc,hcell⟩:=hl;rw[qI]at e;obtain⟨rfl,_,rfl⟩:=e;have HC:=hid hcell;clear hcell;by_cases hlt:d<x.2.length
 ·obtain⟨g,o,rfl,hcl⟩:=HC.out d hlt;have h1:¬((x.2.length:Int)<=(d:Int)):=by omega
  have h2:(d:Int)<(x.2.length:Int):=by omega
  rw[qE hlt,Option.getD_some];have c1:=hcl;generalize x.2[d]=c at c1 ⊢;clear hcl HC;go_enter Tryz.func73,Tryz.ntmps73
  go_wp2_with fail
  go_quiet(fail);go_wp2_with fail
  go_quiet(fail);go_wp2;go_ret;exact⟨rfl,(HF.out _).trans(Q0s _ _)⟩
 have h1:((x.2.length:Int)<=(d:Int)):=by omega
 rw[qN(by omega),Option.getD_none];clear HC;go_enter Tryz.func73,Tryz.ntmps73
 go_wp2_with fail
 go_quiet(fail);go_wp2;go_ret;exact⟨rfl,HF.out _⟩
structure Q76(w0 w:World)(cb gs cap b:Nat)(vs:List Value)(L:List(List Itm)):Prop where
 fr:Q0a w0 w
 c:w.heap[cb]? = some(.cells#[.pointer(some⟨b,0,none⟩),.slice(some⟨gs,0,none⟩)vs.length cap]160(0,0))
 cB:w0.heap.size<=cb
 gB:w0.heap.size<=gs
 ne:gs≠cb
 row:w.ownsRow 0 164 1(.slice(some⟨gs,0,none⟩)vs.length cap)vs.length vs
 len:vs.length=L.length
 each:∀(k:Nat)(v:Value)(X:List Itm),vs[k]? = some v->L[k]? = some X->ItsAt w v X
 low:∀(k:Nat)(v:Value)(g:Nat),vs[k]? = some v->v.ownBlock=some g->w0.heap.size<=g/\g≠cb/\g≠gs
 sep:∀(j k:Nat)(v u:Value)(g:Nat),vs[j]? = some v->vs[k]? = some u->v.ownBlock=some g->u.ownBlock=some g->j=k
section
variable{w0 w w':World}{cb gs cap b:Nat}{vs:List Value}{L:List(List Itm)}
theorem Q76.fresh(h:Q76 w0 w cb gs cap b vs L)(hf:Q0a w w'):Q76 w0 w' cb gs cap b vs L :=
 ⟨h.fr.trans hf,by rw[hf.block cb(z0j h.c)(fun x=>x)];exact h.c,h.cB,h.gB,h.ne,z0c h.row(fun g hg=>hf.block g(h.row.lt g hg).2(fun x=>x)),h.len,fun k v X h1 h2=>(h.each k v X h1 h2).fresh hf,h.low,h.sep⟩
theorem Q76.x(h:Q76 w0 w cb gs cap b vs L):w.cell?⟨cb,0,none⟩=some(.pointer(some⟨b,0,none⟩)):=by rw[Q0b h.c 0];rfl
theorem Q76.s(h:Q76 w0 w cb gs cap b vs L):w.cell?⟨cb,1,none⟩=some(.slice(some⟨gs,0,none⟩)vs.length cap):=by rw[Q0b h.c 1];rfl
theorem Q76.at(h:Q76 w0 w cb gs cap b vs L){k:Nat}{v:Value}(hk:vs[k]? = some v):w.cell?⟨gs,k,none⟩=some v:=by
 obtain⟨h1,h2⟩:=h.row;rcases h2 with⟨e,_⟩|⟨g,cp,cur,e,_,hg,_,_,hs,ht⟩
 ·cases e
 rw[qI]at e;obtain⟨e1,_,_⟩:=e;cases e1;rw[Q0b hg k];have j0:=(qS hk).1;have:=congrArg(·[k]?)ht;simp only[Nat.mul_one,List.getElem?_take]at this;rw[if_pos j0,hk]at this;simpa using this
theorem Q55{α:Type}{l:List α}{n k:Nat}{a u:α}(h:(l.set n a)[k]? = some u):(k=n/\u=a)∨(k≠n/\l[k]? = some u):=by
 rw[List.getElem?_set]at h;split at h
 ·rename_i e;split at h
  ·rw[Option.some.injEq]at h;exact .inl⟨e.symm,h.symm⟩
  cases h
 rename_i e;exact .inr⟨fun x=>e x.symm,h⟩
theorem Q76.put(h:Q76 w0 w cb gs cap b vs L){n:Nat}{v v':Value}{X:List Itm}{m:Itm}(hn:vs[n]? = some v)(hX:L[n]? = some X){W w2:World}(hf:Q0a w W)
  (ho:w2.ownsRow 0 163 3 v'(X.length+1)(Q01 Itm.cells X++m.cells))(hg:W.grownBy w2 v.ownBlock)(hb:∀k,v'.ownBlock=some k->v.ownBlock=some k∨W.heap.size<=k) :
  Q76 w0(w2.setCell⟨gs,n,none⟩v')cb gs cap b(vs.set n v')(L.set n(X++[m])):=by
 have j3:gs<w.heap.size:=(h.row.lt gs rfl).2;have j5:cb<w.heap.size:=z0j h.c;have j7:=hf.size;have j6:=hg.size;have keep:∀x,x<w.heap.size->v.ownBlock≠some x->w2.heap[x]? = w.heap[x]? := fun x hx hne=>(hg.block x(by omega)(fun e=>hne e.symm)).trans(hf.block x hx(fun q=>q));have j4:v.ownBlock≠some gs:=fun e=>(h.low n v gs hn e).2.2 rfl;have j2:v.ownBlock≠some cb:=fun e=>(h.low n v cb hn e).2.1 rfl;have j0:∀g,v'.ownBlock=some g->w0.heap.size<=g/\g≠cb/\g≠gs:=fun g e=>by
  rcases hb g e with q|q
  ·exact h.low n v g hn q
  have:=h.fr.size;exact⟨by omega,by omega,by omega⟩
 have F:Q0a w0 w2:=⟨hg.os.trans(hf.os.trans h.fr.os),hg.tape.trans(hf.tape.trans h.fr.tape),hg.output.trans(hf.output.trans h.fr.output),by have:=h.fr.size;omega,fun x hx _=>by
  rw[keep x(by have:=h.fr.size;omega)(fun e=>by have:=(h.low n v x hn e).1;omega)];exact h.fr.block x hx(fun q=>q)⟩
 have j1:n<vs.length:=(qS hn).1;refine⟨F.setCell(p:=⟨gs,n,none⟩)(fun hlt=>absurd hlt(by have:=h.gB;dsimp only;omega))v',?_,h.cB,h.gB,h.ne,?_,?_,fun k u Y h1 h2=>?_,fun k u g h1 h2=>?_,fun j k u u' g h1 h2 h3 h4=>?_⟩
 ·rw[List.length_set];exact z0i(by rw[keep cb j5 j2];exact h.c)(fun e=>h.ne e.symm)
 ·rw[List.length_set];exact z4t(z0c h.row(fun g e=>by cases e;exact keep gs j3 j4))rfl n v' j1
 ·rw[List.length_set,List.length_set];exact h.len
 ·rcases Q55 h1 with⟨e1,e2⟩|⟨e1,e2⟩
  ·subst e1 e2;rcases Q55 h2 with⟨_,e3⟩|⟨e3,_⟩
   ·subst e3;refine⟨?_,fun x _=>rfl⟩;rw[List.length_append,List.length_singleton,z0y];exact z0c ho(fun g e=>heap_setCell_other _(j0 g e).2.2)
   exact absurd rfl e3
  rcases Q55 h2 with⟨e3,_⟩|⟨_,e3⟩
  ·exact absurd e3 e1
  have hE:=h.each k u Y e2 e3;refine⟨z0c hE.own(fun g e=>?_),hE.wf⟩;rw[heap_setCell_other _(h.low k u g e2 e).2.2];exact keep g(hE.own.lt g e).2(fun q=>e1(h.sep k n u v g e2 hn e q))
 ·rcases Q55 h1 with⟨e1,e2⟩|⟨e1,e2⟩
  ·subst e2;exact j0 g h2
  exact h.low k u g e2 h2
 have old:∀(j:Nat)(u:Value),j≠n->vs[j]? = some u->u.ownBlock=some g->v'.ownBlock=some g->False:=fun j u hj hu h3 h4=>by
  rcases hb g h4 with q|q
  ·exact hj(h.sep j n u v g hu hn h3 q)
  have hl:j<L.length:=by rw[← h.len];exact(qS hu).1
  have:=((h.each j u _ hu(qE hl)).own.lt g h3).2;omega
 rcases Q55 h1 with⟨e1,e2⟩|⟨e1,e2⟩<;>rcases Q55 h2 with⟨e3,e4⟩|⟨e3,e4⟩
 ·rw[e1,e3]
 ·exact(old k u' e3 e4 h4(e2▸h3)).elim
 ·exact(old j u e1 e2 h3(e4▸h4)).elim
 exact h.sep j k u u' g e2 e4 h3 h4
end
theorem z87:∀(n:Nat)(l:List Nat),l.Nodup->(∀x∈l,x<n)->l.length<=n
 |0,l,_,h=>by
  cases l with
  |nil=>simp
  |cons a l=>exact absurd(h a(by simp))(by omega)
 |n+1,l,hd,h=>by
  by_cases hm:n∈l
  ·have h1:=List.length_erase_of_mem hm;have:=z87 n(l.erase n)(hd.erase n)(fun x hx=>by
    have h2:=hd.mem_erase_iff.1 hx;have:=h x h2.2;have:=h2.1;omega)
   have:0<l.length:=List.length_pos_of_mem hm;omega
  have:=z87 n l hd(fun x hx=>by
   have:=h x hx;have:x≠n:=fun e=>hm(e▸hx);omega)
  omega
def ItB(m:Itm):Prop:=m.p<20/\m.d<=6/\m.f<=60
theorem v0n{X:List Itm}(hd:X.Nodup)(hb:∀m∈X,ItB m):X.length<=8540:=by
 have h:=z87 8540(X.map fun m=>(m.p*7+m.d)*61+m.f)?_ ?_
 ·simpa using h
 ·unfold List.Nodup at hd ⊢;rw[List.pairwise_map];refine List.Pairwise.imp_of_mem ?_ hd;intro a b ha hb' hne e;obtain⟨a1,a2,a3⟩:=a;obtain⟨b1,b2,b3⟩:=b;have h1:=hb _ ha;have h2:=hb _ hb';simp only[ItB]at h1 h2 e;have e3:a3=b3:=by omega
  have e2:a2=b2:=by omega
  have e1:a1=b1:=by omega
  subst e1 e2 e3;exact hne rfl
 intro x hx;rw[List.mem_map]at hx;obtain⟨m,hm,rfl⟩:=hx;have h1:=hb m hm;simp only[ItB]at h1;omega
def Q8q(X:List Itm)(m:Itm):List Itm:=if inI X m=true then X else X++[m]
def mvI(m:Itm):Itm:=⟨m.p,m.d+1,m.f⟩
theorem y2l(X:List Itm)(m:Itm):m∈Q8q X m:=by
 unfold Q8q;split
 ·rename_i h;exact(x1u _ _).1 h
 simp
structure Q4z(Q:Itm->Prop)(X X':List Itm):Prop where
 pre:∃Y,X'=X++Y
 nd:X'.Nodup
 q:∀m∈X',Q m
section
variable{Q:Itm->Prop}{X X' X2:List Itm}
theorem Q4z.put{m:Itm}(h:Q4z Q X X')(hm:Q m):Q4z Q X(Q8q X' m):=by
 unfold Q8q;split
 ·exact h
 rename_i c;have hn:m ∉ X':=fun e=>c((x1u _ _).2 e);obtain⟨Y,e⟩:=h.pre;refine⟨⟨Y++[m],by rw[e,List.append_assoc]⟩,?_,fun x hx=>?_⟩
 ·rw[List.nodup_append];exact⟨h.nd,by simp,fun a ha b hb=>by simp at hb;subst hb;exact fun e=>hn(e▸ha)⟩
 rw[List.mem_append,List.mem_singleton]at hx;rcases hx with hx|rfl
 ·exact h.q x hx
 exact hm
theorem Q4z.le(h:Q4z Q X X'):X.length<=X'.length:=by
 obtain⟨Y,e⟩:=h.pre;rw[e,List.length_append];omega
theorem Q4z.same(h:Q4z Q X X')(hl:X'.length=X.length):X'=X:=by
 obtain⟨Y,e⟩:=h.pre;rw[e,List.length_append]at hl;rw[e,List.eq_nil_of_length_eq_zero(by omega:Y.length=0),List.append_nil]
theorem Q4z.mem(h:Q4z Q X X'){m:Itm}(hm:m∈X):m∈X':=by
 obtain⟨Y,e⟩:=h.pre;rw[e];simp[hm]
theorem Q4z.trans(h:Q4z Q X X')(h2:Q4z Q X' X2):Q4z Q X X2:=by
 obtain⟨Y,e⟩:=h.pre;obtain⟨Z,e2⟩:=h2.pre;exact⟨⟨Y++Z,by rw[e2,e,List.append_assoc]⟩,h2.nd,h2.q⟩
theorem Q4z.refl(h:Q4z Q X X'):Q4z Q X' X':=⟨⟨[],by simp⟩,h.nd,h.q⟩
theorem y8g(hl:X.length<=X'.length)(m:Itm):decide(X.length<(Q8q X' m).length)=(decide(X.length<X'.length)||!inI X' m):=by
 unfold Q8q;cases h:inI X' m
 ·simp;omega
 simp
theorem x0i(h:Q4z Q X X')(h2:Q4z Q X' X2):decide(X.length<X2.length)=(decide(X.length<X'.length)||decide(X'.length<X2.length)):=by
 have h1:=h.le;have h2:=h2.le;rw[Bool.eq_iff_iff];simp;omega
end
def atS(P:List(List Itm))(X:List Itm)(s:Nat):List Itm:=(P++[X]).getD s []
section
variable{P:List(List Itm)}{X X':List Itm}{s:Nat}
theorem z2m:atS P X P.length=X:=by unfold atS;simp
theorem y1t(h:s<P.length):atS P X s=P.getD s []:=by
 unfold atS;rw[qD,qD,List.getElem?_append_left h]
theorem x37(h:s<=P.length):(P++[X])[s]? = some(atS P X s):=by
 unfold atS;rw[qD];have:s<(P++[X]).length:=by simp;omega
 rw[qE this];rfl
theorem v01(h:s<=P.length){m:Itm}(hm:m∈atS P X s):m∈P.getD s []∨(s=P.length/\m∈X):=by
 rcases Nat.lt_or_ge s P.length with q|q
 ·rw[y1t q]at hm;exact .inl hm
 obtain rfl:s=P.length:=by omega
 rw[z2m]at hm;exact .inr⟨rfl,hm⟩
theorem x97(h:s<=P.length)(e:∃Y,X'=X++Y):∃Z,atS P X' s=atS P X s++Z:=by
 obtain⟨Y,e⟩:=e;rcases Nat.lt_or_ge s P.length with q|q
 ·rw[y1t q,y1t q];exact⟨[],by simp⟩
 obtain rfl:s=P.length:=by omega
 rw[z2m,z2m];exact⟨Y,e⟩
end
theorem infoIt:(Tryz.prog.info? 163).map(fun i=>(i.zero,i.size,i.bytes))=some(some(.agg(itA 0 0 0)),3,24):=by kernel_rfl
theorem infoIt':∃i,Tryz.prog.info? 163=some i/\i.zero=some(.agg(itA 0 0 0))/\i.size=3/\i.bytes=24:=by
 have h:=infoIt;cases hq:Tryz.prog.info? 163 with
 |none=>simp[hq]at h
 |some i=>simp[hq]at h;exact⟨i,rfl,h.1,h.2.1,h.2.2⟩
def ChG(w0 w:World)(cb gs cap b:Nat)(L:List(List Itm)):Prop:=∃vs,Q76 w0 w cb gs cap b vs L
theorem ChG.fresh{w0 w w':World}{cb gs cap b:Nat}{L:List(List Itm)}(h:ChG w0 w cb gs cap b L)(hf:Q0a w w'):ChG w0 w' cb gs cap b L:=by
 obtain⟨vs,h⟩:=h;exact⟨vs,h.fresh hf⟩
theorem Q76.fz{w0 w:World}{cb gs cap b:Nat}{vs:List Value}{L:List(List Itm)}(h:Q76 w0 w cb gs cap b vs L)(k:Nat):w.frozen?⟨gs,k,none⟩=false:=by
 obtain⟨h1,h2⟩:=h.row;rcases h2 with⟨e,_⟩|⟨g,cp,cur,e,_,hg,_,_,hs,ht⟩
 ·cases e
 rw[qI]at e;obtain⟨e1,_,_⟩:=e;cases e1;exact Q0h hg k
theorem ChG.set{w0 w:World}{cb gs cap b:Nat}{P:List(List Itm)}{X:List Itm}(h:ChG w0 w cb gs cap b(P++[X])){s:Nat}(hs:s<=P.length):∃vs a c,Q76 w0 w cb gs cap b vs(P++[X])/\vs.length=P.length+1/\vs[s]? = some(.slice a(atS P X s).length c)/\ItsAt w(.slice a(atS P X s).length c)(atS P X s):=by
 obtain⟨vs,h⟩:=h;have hl:vs.length=P.length+1:=by rw[h.len];simp
 have hk:s<vs.length:=by omega
 have hI:=h.each s vs[s](atS P X s)(qE hk)(x37 hs);obtain⟨a,c,e⟩:=z0d hI.own;refine⟨vs,a,c,h,hl,?_,?_⟩
 ·rw[qE hk,e]
 rw[← e];exact hI
attribute [local go_sem ↓] z5j z16
theorem y15(w0 w:World)(cb gs cap b:Nat)(P:List(List Itm))(X:List Itm)(m:Itm)(h:ChG w0 w cb gs cap b(P++[X]))(hP:P.length<=1000)(hX:X.length<=10000) :
  Calls Tryz.prog 71#[.pointer(some⟨cb,0,none⟩),.agg(itA m.p m.d m.f)]w fun e w'=>e=.returned(.bool(!inI X m))/\ChG w0 w' cb gs cap b(P++[Q8q X m]):=by
 obtain⟨i0,hi0,hz0,hz1,hz2⟩:=infoIt';obtain⟨vs,a,c,hC,hl,hv,hI⟩:=h.set(qR _);rw[z2m]at hv hI;have HC:=hid hC;have HI:=hid hI;have HV:=hid hv;have HN:=hid(W0e w m 163);have j1:Q0a w(w.alloc(.cells(itA m.p m.d m.f)163(0,0))):=(mRf _ w).alloc _;have j2:=hid j1;have k1:=(hC.fresh j1).s;have k2:=(hC.fresh j1).at hv;have jc:cb<w.heap.size:=z0j hC.c;have ja:gs<w.heap.size:=(hC.row.lt gs rfl).2;have IN:=hid(fun W(hW:Q0a w W)=>v1f W _ X m(hI.fresh hW)(by omega));generalize hp:P.length=p at hl hv k2 HV hP;have j3:=hid hp;have j9:((vs.length:Nat):Int)=(p:Int)+1:=by omega
 rw[show vs.length=p+1 from hl]at k1;have l1:(ldI(.pointer(some⟨w.heap.size,0,none⟩))).run Tryz.prog(w.alloc(.cells(itA m.p m.d m.f)163(0,0))).drew=.ok(.agg(itA m.p m.d m.f))(w.alloc(.cells(itA m.p m.d m.f)163(0,0))).drew:=z3a HN.out;have jb:IntKind.i64.wrap((p:Int)+1-1)=(p:Int):=by rw[IntKind.wrap_i64];omega
 have ji:IntKind.i64.wrap(((p+1:Nat):Int)-1)=(p:Int):=by rw[IntKind.wrap_i64];omega
 have s1:(p:Int)<((p+1:Nat):Int):=by omega
 clear hC hI hv h j9 hp hl j1;go_enter Tryz.func71,Tryz.ntmps71
 go_upto_region 2 with fail
 go_cut [6](fun s6 wx=>s6=.bool(inI X m)/\Q0a(w.alloc(.cells(itA m.p m.d m.f)163(0,0)))wx)
 case first =>
  go_region_with(first
   |(go_at_call 95;refine(IN.out _ j2.out.drew).mono ?_;rintro e w3⟨rfl,hf3⟩))
  all_goals
   go_wp2_with fail
   go_meet;exact⟨rfl,((mRf _ _).drew).trans hf3⟩
 obtain⟨rfl,hfx⟩:=hcut;have j5:=hid(j2.out.trans hfx);have j0:wc.rangeAt w.heap.size 0 m.cells:=fun j v hj=>Q0j hfx(HN.out j v hj);have jj:w.heap.size<wc.heap.size:=z0j(hfx.at(z0a w _)(fun x=>x));have l2:(ldI(.pointer(some⟨w.heap.size,0,none⟩))).run Tryz.prog wc.drew=.ok(.agg(itA m.p m.d m.f))wc.drew:=z3a j0;clear l1 k1 k2 IN hfx j0 HN j2;have hC:=HC.out.fresh j5.out;have jd:cb<wc.heap.size:=by omega
 have jh:gs<wc.heap.size:=by omega
 have s2:(p:Int)<(p:Int)+1:=by omega
 have k1:=hC.s;have k2:=hC.at HV.out;have j7:vs.length=p+1:=by have:=hC.len;rw[this,List.length_append,j3.out];rfl
 rw[j7]at k1;cases hin:inI X m
 ·obtain⟨v',w2,hrun,hown,hgrow,hblk⟩:=z2z(P:=Tryz.prog)(wc.alloc(.cells(itA m.p m.d m.f)163)).drew 0 164 164 163 i0 _ 3 24 Tryz.underlying164 hi0 hz0 hz1 hz2 rfl(by decide)(.slice a X.length c)X.length(Q01 Itm.cells X)(((HI.out.fresh j5.out).own.alloc _))⟨wc.heap.size,0,none⟩1 1 m.cells rfl(z0l rfl)(by intro u hu;simp[Itm.cells]at hu;rcases hu with rfl|rfl|rfl<;>rfl)(by unfold maxLen;omega)(by omega)(by omega);obtain⟨a',cap',hv'⟩:=z0d hown;have j8:=hid(hC.put(m:=m)HV.out(by rw[← j3.out];exact x37(qR _))(((mRf _ wc).alloc(.cells(itA m.p m.d m.f)163)).drew)(by rw[z2m];exact hown)hgrow hblk);have j4:w2.heap[gs]? = wc.heap[gs]? := by
   rw[hgrow.block gs(by simp[World.drew];omega)(fun e=>by have:=(hC.low p _ gs HV.out e.symm).2.2;exact this rfl)];exact z0w(by omega)
  have je:w2.cell?⟨gs,p,none⟩=some(.slice a X.length c):=by rw[← k2];simp[World.cell?,j4]
  have jg:w2.frozen?⟨gs,p,none⟩=false:=by have:=hC.fz p;simp[World.frozen?,j4]at this ⊢;exact this
  have j6:w2.heap[cb]? = wc.heap[cb]? := by
   rw[hgrow.block cb(by simp[World.drew];omega)(fun e=>by have:=(hC.low p _ cb HV.out e.symm).2.1;exact this rfl)];exact z0w(by omega)
  have jf:w2.cell?⟨cb,1,none⟩=some(.slice(some⟨gs,0,none⟩)(p+1:Nat)cap):=by rw[← k1];simp[World.cell?,j6]
  clear hown hgrow hblk j4 j6 hC HC HI HV j7;subst hv';go_wp2_with fail
  go_region;all_goals
   go_wp2;go_ret;refine⟨by rw[hin];rfl,vs.set p(.slice a'(X.length+1)cap'),?_⟩;have:=j8.out;rw[show(P++[X]).set p(atS P X P.length++[m])=P++[Q8q X m]by rw[z2m,← j3.out,List.set_append_right _ _(qR _),Nat.sub_self,show Q8q X m=X++[m]by unfold Q8q;rw[hin];rfl];rfl]at this;exact this
 go_wp2;go_ret;refine⟨by rw[hin];rfl,vs,?_⟩;rw[show Q8q X m=X by unfold Q8q;rw[hin];rfl];exact HC.out.fresh j5.out
end Go.Proofs.YtcpceafmlgaodaaGreat
