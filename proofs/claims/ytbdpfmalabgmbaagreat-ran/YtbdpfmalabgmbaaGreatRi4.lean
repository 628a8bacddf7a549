import Derived.Test.YtbdpfmalabgmbaaGreatRh7
import Derived.Laws.CopyOwn
import Derived.BigRegion
namespace Go.Proofs.YtbdpfmalabgmbaaGreat
open Go.RowKit
set_option maxRecDepth 99999
set_option maxHeartbeats 0
set_option linter.all false
theorem y1v{rs:List ZLV}{t:ByteArray}:∀(f i:Nat),rs.length+1<=f+i->(∀j (z:ZLV),i<=j->rs[j]? = some z->z.ln.name.toList≠t.toList)->Q9i rs t f i=-1
 |0,i,hf,h=>rfl
 |f+1,i,hf,h=>by
  rw[y7g];cases hq:rs[i]? with
  |none=>rfl
  |some z =>
   dsimp only;rw[qAa (by have:=h i z (qR _) hq;simpa using this)];exact y1v f (i+1) (by omega) (fun j z hj=>h j z (by omega))
theorem z7c{rs:List ZLV}{t:ByteArray}{k:Nat}{z:ZLV}(hk:rs[k]? = some z)(hz:z.ln.name.toList=t.toList)(hb:∀j (y:ZLV),j<k->rs[j]? = some y->y.ln.name.toList≠t.toList) :
  ∀(f i:Nat),rs.length+1<=f+i->i<=k->Q9i rs t f i=if z.ln.skip=true then -1 else(k:Int)
 |0,i,hf,hi=>by
  have:=(qS hk).1;omega
 |f+1,i,hf,hi=>by
  rw[y7g];by_cases e:i=k
  ·subst e;rw[hk];dsimp only;rw[qAb (by simpa using hz)]
  have j0:i<rs.length:=by have:=(qS hk).1;omega
  rw[qE j0];dsimp only;rw[qAa (by have:=hb i rs[i] (by omega) (qE j0);simpa using this)];exact z7c hk hz hb f (i+1) (by omega) (by omega)
section
variable {s:ByteArray}{lns:List Ln}{xs:List ZLV}{X:SP}
theorem y1a(t:ByteArray):∀(xs:List ZLV) (f:Nat) (hf:f<xs.length),(xs[f]'hf).ln.rule=true->(xs[f]'hf).ln.name.toList=t.toList->(∀(j:Nat) (z:ZLV),j<f->xs[j]? = some z->z.ln.name.toList≠t.toList) ->
  ∃k:Nat,(xs.filter (fun z=>z.ln.rule))[k]? = some (xs[f]'hf)/\∀(j:Nat) (y:ZLV),j<k->(xs.filter (fun z=>z.ln.rule))[j]? = some y->y.ln.name.toList≠t.toList
 | [],f,hf,h1,h2,h3=>by simp at hf
 |x::xs,0,hf,h1,h2,h3=>by
  have h1':x.ln.rule=true:=h1;exact⟨0,by simp[qAq,h1'],fun j y hj=>by omega⟩
 |x::xs,f+1,hf,h1,h2,h3=>by
  obtain⟨k,q1,q2⟩:=y1a t xs f (by simpa using hf) h1 h2 (fun j z hj hz=>h3 (j+1) z (by omega) (by simpa using hz));have hx:=h3 0 x (by omega) rfl;cases hr:x.ln.rule
  ·exact⟨k,by simpa [qAq,hr]using q1,fun j y hj hy=>q2 j y hj (by simpa [qAq,hr]using hy)⟩
  refine⟨k+1,by simpa [qAq,hr]using q1,fun j y hj hy=>?_⟩;cases j with
  |zero =>
   simp[qAq,hr]at hy;subst hy;exact hx
  |succ j=>exact q2 j y (by omega) (by simpa [qAq,hr]using hy)
theorem x5j(h:Q4f s lns xs)(hS:SI lns xs xs.length X){d:Wd}{n:ByteArray}(hw:Q6w s d.ls n):Q80 X n<0↔W0h lns d=false:=by
 have hl:=h.len;have j2:=hw.cap;unfold W0h;by_cases hf:Q2i lns d.ls<lns.length
 ·have j1:Q2i lns d.ls<xs.length:=by omega
  obtain⟨x,p,g1,g2,g3,g4,g5⟩:=h.get j1;have j7:x.front.ls=d.ls:=by
   have hg:=qDz (w:=hf);have e:lns[Q2i lns d.ls]=x:=by rw[qE hf]at g1;injection g1
   unfold Q2i at e;rw[e]at hg;simpa using hg
  have j5:xs[Q2i lns d.ls].ln.name.toList=n.toList:=(g3.word.eq_iff hw).1 j7;have j9:∀(j:Nat) (z:ZLV),j<Q2i lns d.ls->xs[j]? = some z->z.ln.name.toList≠n.toList:=by
   intro j z hj hz e;obtain⟨j3,j6⟩:=qS hz;obtain⟨y,q,k1,k2,k3,k4,k5⟩:=h.get j3;rw[j6]at k3;have:=(k3.word.eq_iff hw).2 e;have:=(z79 (lns:=lns) (ls:=d.ls) (i:=j+1) (by omega)).2 ⟨j,y,by omega,k1,this⟩;omega
  have j0:=g3.rule;rw[z98,j7,j2]at j0;rw[g1];dsimp only;rw[← g3.skip];unfold Q80;generalize Q2i lns d.ls=fi at *;cases hc:Q1a (atB n 0)
  ·rw[hc]at j0;rw[qAa (by simp)];obtain⟨k,q1,q2⟩:=y1a n xs _ j1 j0 j5 j9;have ja:X.rules=xs.filter (fun z=>z.ln.rule):=by rw[hS.rl,qAw]
   rw[← ja]at q1 q2;rw[z7c q1 j5 q2 _ 0 (by omega) (by omega)];cases xs[fi].ln.skip<;>simp
  rw[hc]at j0;rw[qAb rfl];have j4:¬Q1y X.heads n<0:=by
   have:=y8k ((hS.mem n).2 ⟨fi,xs[fi],j1,qE j1,j0,j5⟩);omega
  rw[qAa j4,g3.noskip j0];simp;omega
 have j8:∀(j:Nat) (z:ZLV),xs[j]? = some z->z.ln.name.toList≠n.toList:=by
  intro j z hz e;obtain⟨j3,j6⟩:=qS hz;obtain⟨y,q,k1,k2,k3,k4,k5⟩:=h.get j3;rw[j6]at k3;have:=(k3.word.eq_iff hw).2 e;have:=(z79 (lns:=lns) (ls:=d.ls) (i:=j+1) (by omega)).2 ⟨j,y,by omega,k1,this⟩;omega
 rw[qN (by omega)];refine⟨fun _=>rfl,fun _=>?_⟩;unfold Q80;cases hc:Q1a (atB n 0)
 ·rw[qAa (by simp)];rw[y1v _ 0 (by omega) (fun j z _ hz=>?_)]
  ·omega
  have hm:z∈X.rules:=qAi hz;rw[hS.rl,qAw]at hm;obtain⟨i,hi,e⟩:=qBf (qDi.1 hm).1;exact j8 i z (by rw[qE hi,e])
 rw[qAb rfl];have:Q1y X.heads n<0:=by
  by_cases q:Q1y X.heads n<0
  ·exact q
  exfalso;obtain⟨j,z,_,q2,_,q4⟩:=(hS.mem n).1 (z6f q);exact j8 j z q2 q4
 rw[qAb this];omega
theorem y9n(h:Q4f s lns xs)(hS:SI lns xs xs.length X){x:Ln}{z:ZLV}{i:Nat}(hz:ZRel s i x z.ln)(hp:z.pl=i):∀(f g j:Nat),x.syms.length+1<=f+j->x.syms.length+1<=g+j->Q7c lns x.syms f j=Q7q X z g j
 |0,g,j,hf,hg=>by
  cases g with
  |zero=>rfl
  |succ g =>
   rw[y3g,qN (by rw[← hz.syms.1];omega)];rfl
 |f+1,0,j,hf,hg=>by
  unfold Q7c;rw[qN (by omega)];rfl
 |f+1,g+1,j,hf,hg=>by
  rw[y3g];unfold Q7c;by_cases hj:j<x.syms.length
  ·have hj':j<z.ln.syms.length:=by rw[← hz.syms.1];exact hj
   rw[qE hj,qE hj'];dsimp only;have j0:=x5j h hS (hz.sword (qE hj) (qE hj'));cases hb:W0h lns x.syms[j]
   ·rw[qAa (by simp),qAb (j0.2 hb),hz.places,hp];congr 1;rw[qD,qBt,qE hj];simp;omega
   rw[qAb rfl,qAa (fun q=>by rw[j0.1 q]at hb;cases hb)];exact y9n h hS hz hp f g (j+1) (by omega) (by omega)
  rw[qN (by omega),qN (by rw[← hz.syms.1];omega)]
theorem y43(h:Q4f s lns xs)(hS:SI lns xs xs.length X):∀(f i:Nat) (ah:List ByteArray),i<=xs.length->xs.length+1<=f+i ->
  (∀t:ByteArray,(∃y∈ah,y.toList=t.toList)↔∃(j:Nat) (z:ZLV),j<i/\xs[j]? = some z/\z.ln.rule=true/\z.ln.name.toList=t.toList)->Q3k X (xs.drop i) ah=Q65 lns f i
 |0,i,ah,hi,hf,hA=>by omega
 |f+1,i,ah,hi,hf,hA=>by
  unfold Q65;by_cases hlt:i<xs.length
  ·obtain⟨x,p,g1,g2,g3,g4,g5⟩:=h.get hlt;rw[g1,qC hlt,Q3k];dsimp only;have j3:=y9n h hS g3 g4 (x.syms.length+1) (xs[i].ln.syms.length+1) 0 (by omega) (by rw[g3.syms.1];omega);unfold Q74;rw[j3];have j2:∀j1:List ByteArray,j1=(if xs[i].ln.rule=true then ah++[xs[i].ln.name] else ah)->∀t:ByteArray,(∃y∈j1,y.toList=t.toList)↔∃(j:Nat) (z:ZLV),j<i+1/\xs[j]? = some z/\z.ln.rule=true/\z.ln.name.toList=t.toList:=by
    intro j1 he t;have hm:(∃(j:Nat) (z:ZLV),j<i+1/\xs[j]? = some z/\z.ln.rule=true/\z.ln.name.toList=t.toList)↔((∃y∈ah,y.toList=t.toList)∨(xs[i].ln.rule=true/\xs[i].ln.name.toList=t.toList)):=by
     rw[hA t];constructor
     ·rintro⟨j,z,q1,q2,q3,q4⟩;by_cases e:j=i
      ·subst e;rw[qE hlt]at q2;injection q2 with q2;subst q2;exact .inr ⟨q3,q4⟩
      exact .inl ⟨j,z,by omega,q2,q3,q4⟩
     rintro(⟨j,z,q1,q2⟩|⟨q1,q2⟩)
     ·exact⟨j,z,by omega,q2⟩
     exact⟨i,xs[i],by omega,qE hlt,q1,q2⟩
    rw[hm,he];cases hr:xs[i].ln.rule
    ·simp
    simp only[qBn,qU,qM,true_and];constructor
    ·rintro⟨y,hy|rfl,e⟩
     ·exact .inl ⟨y,hy,e⟩
     exact .inr e
    rintro(⟨y,hy,e⟩|e)
    ·exact⟨y,.inl hy,e⟩
    exact⟨_,.inr rfl,e⟩
   have rc:=fun j1 he=>y43 h hS f (i+1) j1 (by omega) (by omega) (j2 j1 he);have j0:(Q0x x&&Q3b lns i)=true↔(xs[i].ln.rule=true/\0<=Q1y ah xs[i].ln.name):=by
    rw[qAd,← g3.rule];constructor
    ·rintro⟨q1,q2⟩;exact⟨q1,by rw[z88,hA];exact(y0z h hlt q1).1 q2⟩
    rintro⟨q1,q2⟩;exact⟨q1,(y0z h hlt q1).2 ((hA _).1 (z88.1 q2))⟩
   by_cases q:xs[i].ln.rule=true/\0<=Q1y ah xs[i].ln.name
   ·rw[qAb q,qAb (j0.2 q),g4,g5]
   rw[qAa q,qAa (fun z=>q (j0.1 z))];cases Q7q X xs[i] (xs[i].ln.syms.length+1) 0 with
   |some p=>rfl
   |none=>exact rc _ rfl
  rw[qN (by rw[h.len];omega),qAp (by omega)];rfl
theorem x63(h:Q4f s lns xs)(hS:SI lns xs xs.length X):Q3k X xs []=Q2b lns:=by
 have:=y43 h hS (lns.length+1) 0 [] (by omega) (by rw[h.len];omega) (fun t=>by
  constructor
  ·rintro⟨y,hy,_⟩;cases hy
  rintro⟨j,z,q,_⟩;omega)
 exact this
theorem y37(h:Q4f s lns xs){em:ByteArray->Bool}(hem:∀(k:Nat) (x:Ln) (z:ZLV),lns[k]? = some x->xs[k]? = some z->z.ln.rule=true->(em z.ln.pat=true↔(Q5f x.ns x.st x.en ByteArray.empty 0==0)=true)):∀(f i:Nat),i<=xs.length->xs.length+1<=f+i ->
  (match Q5s em ((xs.drop i).filter (fun z=>z.ln.rule))with|some p=>p|none=>-1)=Q7t lns f i/\(∀p,Q5s em ((xs.drop i).filter (fun z=>z.ln.rule))=some p->0<=p)
 |0,i,hi,hf=>by omega
 |f+1,i,hi,hf=>by
  unfold Q7t;by_cases hlt:i<xs.length
  ·obtain⟨x,p,g1,g2,g3,g4,g5⟩:=h.get hlt;rw[g1,qC hlt,qAq];dsimp only;have rc:=y37 h hem f (i+1) (by omega) (by omega);unfold emptyB;rw[← g3.rule];cases hr:xs[i].ln.rule
   ·rw[qAa (by simp),qAa (by simp)];exact rc
   have he:=hem i x xs[i] g1 (qE hlt) hr;rw[qAb rfl,Q5s,qBm];by_cases q:em xs[i].ln.pat=true
   ·rw[qAb q,qAb (he.1 q)];exact⟨by dsimp only;rw[g4,g5],fun p hp=>by injection hp with hp;omega⟩
   rw[qAa q,qAa (fun z=>q (he.2 z))];exact rc
  rw[qN (by rw[h.len];omega),qAp (by omega)];exact⟨rfl,fun p hp=>by cases hp⟩
theorem x7l(h:Q4f s lns xs)(hS:SI lns xs xs.length X):X.prods.length=0↔Q4a lns=false:=by
 rw[hS.pr,qAw];unfold Q4a;rw[List.length_eq_zero_iff,List.filter_eq_nil_iff,List.any_eq_false];constructor
 ·intro q x hx;obtain⟨k,hk,rfl⟩:=qBf hx;have j0:k<xs.length:=by rw[← h.len];exact hk
  obtain⟨y,p,g1,g2,g3,g4,g5⟩:=h.get j0;have e:lns[k]=y:=by rw[qE hk]at g1;injection g1
  have:=q xs[k] (by simp);rw[e,← g3.rule];simpa using this
 intro q z hz;obtain⟨k,hk,rfl⟩:=qBf hz;obtain⟨y,p,g1,g2,g3,g4,g5⟩:=h.get hk;have:=q y (qAi g1);rw[g3.rule];simpa using this
end
theorem y9m{X:SP}{x:ZLV}(h0:0<=x.pl)(hp:∀p∈x.ln.places,0<=p):∀(f j:Nat) (q:Int),Q7q X x f j=some q->0<=q
 |0,j,q,h=>by simp[Q7q]at h
 |f+1,j,q,h=>by
  rw[y3g]at h;cases hs:x.ln.syms[j]? with
  |none=>rw[hs]at h;cases h
  |some n =>
   rw[hs]at h;dsimp only at h;split at h
   ·injection h with h;have:0<=x.ln.places.getD j 0:=by
     rw[qD];cases hq:x.ln.places[j]? with
     |none=>simp
     |some v=>simp;exact hp v (qAi hq)
    omega
   exact y9m h0 hp f (j+1) q h
theorem y42{X:SP}:∀(xs:List ZLV) (ah:List ByteArray),(∀x∈xs,0<=x.pl/\∀p∈x.ln.places,0<=p)->-1<=Q3k X xs ah
 | [],ah,h=>by simp[Q3k]
 |x::xs,ah,h=>by
  obtain⟨h1,h2⟩:=h x (by simp);unfold Q3k;split
  ·omega
  cases hs:Q7q X x (x.ln.syms.length+1) 0 with
  |some p=>have:=y9m h1 h2 _ _ _ hs;dsimp only;omega
  |none=>exact y42 xs _ (fun y hy=>h y (by simp[hy]))
structure Q88(s:ByteArray)(xs:List ZLV):Prop where
 l2:Q4f s (Q0c s).1 xs
 si:SI (Q0c s).1 xs xs.length (Q1b Q2m xs).1
 bd:SPbd (Q1b Q2m xs).1
theorem v1c{s:ByteArray}(hs:s.size<=800){xs:List ZLV}(hx:xs.map ZLV.both=(Q4x s).1){em:ByteArray->ByteArray->Bool}(hem:∀p t,em p t=true↔(Q61 p 6 0).lang (Q36 t)) :
  (Q6b (fun p=>em p ⟨#[]⟩) s xs (Q4x s).2).1=(Q0u s).1/\((Q0u s).1≠2->(Q6b (fun p=>em p ⟨#[]⟩) s xs (Q4x s).2).2=(Q0u s).2)/\((Q0u s).1=2->(Q6b (fun p=>em p ⟨#[]⟩) s xs (Q4x s).2).2=(Q4x s).2)/\((Q0u s).1=0->Q88 s xs):=by
 have hY:=y8m hs hem;have hc:=z8x s;rw[qAa (by omega)]at hc;unfold Q6b;rw[qAa (by omega)];cases hk:(Q0c s).2.2
 ·have h1:=(z6g s).2 hk;rw[hk,qAb rfl]at hc;rw[hc,qAb h1];exact⟨rfl,fun q=>absurd rfl q,fun _=>rfl,fun q=>by cases q⟩
 obtain⟨h1,h2⟩:=(z6g s).1 hk;rw[hk,qAa (by simp)]at hc;rw[← hx]at h2;have l2:=x3r h2;have j1:∀x∈xs,0<=x.pl/\∀p∈x.ln.places,0<=p:=fun x hxm=>by
  have:=hY x.both (by rw[← hx];exact List.mem_map_of_mem hxm);exact⟨this.pl.1,fun p hp=>(this.pls p hp).1⟩
 obtain⟨m1,m2⟩:=x3x l2;have j4:=y3c xs Q2m (fun x h=>(j1 x h).1);rw[h1,qAa (by omega)];by_cases c3:Q3v (Q0c s).1=-1
 ·rw[qAa (by simp[c3])]at hc;rw[m1,c3,qAa (by omega)];have si:=m2 (by rw[m1,c3]);have bd:=y3b xs Q2m x33 (by rw[m1,c3];omega) (fun x h=>(j1 x h).1);have n1:=x63 l2 si;have j3:=y42 (X:=(Q1b Q2m xs).1) xs [] j1;by_cases c4:Q2b (Q0c s).1=-1
  ·rw[qAa (by simp[c4])]at hc;rw[n1,c4,qAa (by omega)];have j2:(Q1b Q2m xs).1.rules=(xs.drop 0).filter (fun z=>z.ln.rule):=by rw[si.rl,qAw];rfl
   obtain⟨e1,e2⟩:=y37 l2 (em:=fun p=>em p ⟨#[]⟩) (fun k x z g1 g2 g3=>by
    obtain⟨i,i1,i2,i3⟩:=l2.at' k x z g1 g2;obtain⟨L,q1,q2,q3⟩:=i2.pat g3;rw[hem,q1];exact(q3 ⟨#[]⟩).symm) ((Q0c s).1.length+1) 0 (by omega) (by rw[l2.len];omega)
   rw[← j2]at e1 e2;have j0:(match Q5s (fun p=>em p ⟨#[]⟩) (Q1b Q2m xs).1.rules with|some p=>p|none=>-1)=Q6x (Q0c s).1:=e1;cases he:Q5s (fun p=>em p ⟨#[]⟩) (Q1b Q2m xs).1.rules with
   |some p =>
    rw[he]at j0;dsimp only at j0;have:=e2 p he;rw[qAb (by rw[← j0];omega)]at hc;rw[hc,← j0];exact⟨rfl,fun _=>rfl,fun q=>by simp at q,fun q=>by simp at q⟩
   |none =>
    rw[he]at j0;dsimp only at j0;rw[qAa (by rw[← j0];simp)]at hc;have pz:=x7l l2 si;unfold tailZ;by_cases c6:Q4a (Q0c s).1=false
    ·rw[qAb c6]at hc;rw[qAb (pz.2 c6),hc];exact⟨rfl,fun _=>rfl,fun q=>by simp at q,fun q=>by simp at q⟩
    rw[qAa c6]at hc;rw[qAa (fun q=>c6 (pz.1 q)),hc];exact⟨rfl,fun _=>rfl,fun q=>by simp at q,fun _=>⟨l2,si,bd⟩⟩
  rw[qAb c4]at hc;rw[n1]at j3;rw[n1,qAb (by omega),hc];exact⟨rfl,fun _=>rfl,fun q=>by simp at q,fun q=>by simp at q⟩
 rw[qAb c3]at hc;rw[m1]at j4;rw[m1,qAb (by omega),hc];exact⟨rfl,fun _=>rfl,fun q=>by simp at q,fun q=>by simp at q⟩
def Q9y(s:ByteArray)(w:World)(e:Ending)(w':World):Prop :=
 ∃(p:Value) (pl:Int),e=.returned (.tuple #[p,.int .i64 (Q0u s).1,.int .i64 pl])/\Q0a w w'/\((Q0u s).1≠2->pl=(Q0u s).2)/\((Q0u s).1=2->pl=(Q4x s).2) /\
  ((Q0u s).1=0->∃(b:Nat) (xs:List ZLV),w.heap.size<=b/\p=.pointer (some ⟨b,0,none⟩)/\SpecX w' b (Q1b Q2m xs).1/\Q88 s xs)
theorem y6g(s:ByteArray)(w:World)(hs:s.size<=maxLen):Calls Tryz.prog 18 #[.string s] w fun e w'=>Q9y s w e w':=by
 obtain⟨em,j1⟩:=v13;by_cases hl:800<s.size
 ·have hc:Q0u s=(1,0):=by unfold Q0u;rw[qAb hl]
  refine(x1r (fun p=>em p ⟨#[]⟩) s w hs hl).mono ?_;rintro e w'⟨p,xs,h1,h2,h3,h4,h5⟩;have hz:Q6b (fun p=>em p ⟨#[]⟩) s xs (Q4x s).2=(1,0):=by unfold Q6b;rw[qAb hl]
  rw[hz]at h3;refine⟨p,0,by rw[hc];exact h3,h4,fun _=>by rw[hc],fun q=>by(rw[hc]at q;simp at q),fun q=>by(rw[hc]at q;simp at q)⟩
 have j0:s.size<=800:=by omega
 refine(y72 (fun p=>em p ⟨#[]⟩) s w j0 (y8m j0 j1)).mono ?_;rintro e w'⟨p,xs,h1,h2,h3,h4,h5⟩;obtain⟨r1,r2,r3,r4⟩:=v1c j0 (h1 j0) j1;rw[r1]at h3 h5;refine⟨p,_,h3,h4,r2,r3,fun q=>?_⟩;obtain⟨b,b1,b2,b3⟩:=h5 q;exact⟨b,xs,b1,b2,b3,r4 q⟩
theorem z5i{α β:Type}{p:α->Bool}{q:β->Bool}:∀{l:List α}{m:List β},l.length=m.length->(∀(k:Nat) (a:α) (b:β),l[k]? = some a->m[k]? = some b->p a=q b) ->
  (l.filter p).length=(m.filter q).length/\∀(k:Nat) (a:α) (b:β),(l.filter p)[k]? = some a->(m.filter q)[k]? = some b->∃j:Nat,l[j]? = some a/\m[j]? = some b
 | [],[],_,_=>⟨rfl,fun k a b h=>by simp at h⟩
 |x::l,y::m,hl,h=>by
  have hl':l.length=m.length:=by simpa using hl
  have j0:=h 0 x y rfl rfl;obtain⟨i1,i2⟩:=z5i (l:=l) (m:=m) hl' (fun k a b ha hb=>h (k+1) a b (by simpa using ha) (by simpa using hb));cases hp:p x
  ·rw[qAq,qAa (by rw[hp];simp),qAq,qAa (by rw[← j0,hp];simp)];refine⟨i1,fun k a b ha hb=>?_⟩;obtain⟨j,q1,q2⟩:=i2 k a b ha hb;exact⟨j+1,by simpa using q1,by simpa using q2⟩
  rw[qAq,qAb hp,qAq,qAb (by rw[← j0];exact hp)];refine⟨by simp[i1],fun k a b ha hb=>?_⟩;cases k with
  |zero=>exact⟨0,by simpa using ha,by simpa using hb⟩
  |succ k =>
   obtain⟨j,q1,q2⟩:=i2 k a b (by simpa using ha) (by simpa using hb);exact⟨j+1,by simpa using q1,by simpa using q2⟩
 | [],y::m,hl,_=>by simp at hl
 |x::l,[],hl,_=>by simp at hl
theorem x40{s:ByteArray}{xs:List ZLV}(h:Q88 s xs):(Q0i s).length=(Q1b Q2m xs).1.rules.length/\∀(k:Nat) (x:Ln) (z:ZLV),(Q0i s)[k]? = some x->(Q1b Q2m xs).1.rules[k]? = some z ->
  z.ln.skip=x.skip/\∃L,Q8u z.ln.pat L/\z.ln.pat.size<=s.size/\∀t,Q31 x t=true↔L (Q36 t):=by
 have j0:(Q1b Q2m xs).1.rules=xs.filter (fun z=>z.ln.rule):=by rw[h.si.rl,qAw]
 rw[j0];unfold Q0i;obtain⟨f1,f2⟩:=z5i (p:=Q0x) (q:=fun z:ZLV=>z.ln.rule) h.l2.len (fun k a b ha hb=>by
  obtain⟨i,i1,i2,i3⟩:=h.l2.at' k a b ha hb;exact i2.rule.symm)
 refine⟨f1,fun k x z hx hz=>?_⟩;obtain⟨j,q1,q2⟩:=f2 k x z hx hz;obtain⟨i,i1,i2,i3⟩:=h.l2.at' j x z q1 q2;have hr:z.ln.rule=true:=(qDi.1 (qAi hz)).2;exact⟨i2.skip,i2.pat hr⟩
theorem SpecX.at{w:World}{b:Nat}{X:SP}(h:SpecX w b X):∃v0 v1 v2 v3 v4 sv,Q2f w b X v0 v1 v2 v3 v4 sv:=by
 obtain⟨v0,v1,v2,v3,v4,sv,h1,_⟩:=h;exact⟨v0,v1,v2,v3,v4,sv,h1.sp⟩
theorem v0t(e:Int)(w:World):Calls Tryz.prog 9 #[.int .i64 e] w fun r w'=>r=.returned (.int .i64 e)/\w'=w:=by
 go_enter Tryz.func9,Tryz.ntmps9
 go_wp2;go_ret;exact⟨rfl,rfl⟩
def Wn(s:ByteArray)(d:Wd)(y:ByteArray):Prop:=Q6w s d.ls y
section
variable {s:ByteArray}
theorem v3h{d d':Wd}{y y':ByteArray}(h:Wn s d y)(h':Wn s d' y'):(d.ls==d'.ls)=(y.toList==y'.toList):=by
 rw[qBc,qBi,qBi];exact Q6w.eq_iff h h'
theorem x9l{d:Wd}{y:ByteArray}(hd:Wn s d y):∀{ds:List Wd}{ys:List ByteArray},Q8l (Wn s) ds ys->ds.findIdx (fun x=>x.ls==d.ls)=ys.findIdx (fun x=>x.toList==y.toList)
 | [],[],_=>rfl
 |a::us,b::zs,h=>by
  rw[qFj,qFj,v3h h.1 hd,x9l hd h.2]
theorem x5s{d:Wd}{y:ByteArray}(hd:Wn s d y){ds:List Wd}{ys:List ByteArray}(h:Q8l (Wn s) ds ys):Q1y ys y=if Q1m ds d.ls<ds.length then(Q1m ds d.ls:Int) else -1:=by
 unfold Q1y Q1m;rw[← x9l hd h,← h.len]
structure HI(s:ByteArray)(lns:List Ln)(X:SP):Prop where
 he:Q8l (Wn s) (Q0j lns) X.heads
 hd:X.head=(Q05 lns).map (fun y=>(Q1m (Q0j lns) y.front.ls:Int))
 mem:∀y∈Q05 lns,Q1m (Q0j lns) y.front.ls<(Q0j lns).length
theorem v0g{lns:List Ln}{X:SP}{x:Ln}{z:ZLV}{i:Nat}(h:HI s lns X)(hz:ZRel s i x z.ln):HI s (lns++[x]) (Q01 X z):=by
 have j2:=z1x lns [] x;have hr:=hz.rule;have hw:Wn s x.front z.ln.name:=hz.word;unfold Q01;cases hb:Q0x x
 ·rw[hb]at hr;rw[qAa (by rw[hr];simp)];rw[hb,qAa (by simp)]at j2;have ep:Q05 (lns++[x])=Q05 lns++[x]:=by unfold Q05;rw[qBx];simp[hb]
  have hf:=x5s hw h.he;by_cases c:Q1m (Q0j lns) x.front.ls<(Q0j lns).length
  ·have eh:Q0j (lns++[x])=Q0j lns:=by
    show Q14 (lns++[x]) []=Q14 lns [];rw[j2];exact qAb c
   rw[qAb c]at hf;have j1:¬Q1y X.heads z.ln.name<0:=by omega
   refine⟨?_,?_,?_⟩
   ·dsimp only;rw[eh,qAa j1];exact h.he
   ·dsimp only;rw[eh,ep,qAa j1,hf,qBp,← h.hd];rfl
   rw[eh,ep];intro y hy;rw[qU,qM]at hy;rcases hy with hy|rfl
   ·exact h.mem y hy
   exact c
  have eh:Q0j (lns++[x])=Q0j lns++[x.front]:=by
   show Q14 (lns++[x]) []=Q14 lns []++[x.front];rw[j2];exact qAa c
  rw[qAa c]at hf;have j1:Q1y X.heads z.ln.name<0:=by omega
  have j3:=y3n (Q0j lns) x.front.ls;have j0:Q1m (Q0j lns++[x.front]) x.front.ls=(Q0j lns).length:=by
   unfold Q1m at c j3 ⊢;rw[List.findIdx_append,qAa c];simp[qFj]
  refine⟨?_,?_,?_⟩
  ·dsimp only;rw[eh,qAb j1];exact h.he.snoc hw
  ·dsimp only;rw[eh,ep,qAb j1,qBp,h.hd,← h.he.len];congr 1
   ·apply qEs;intro y hy;rw[z5r (h.mem y hy)]
   simp only[qDl,List.map_nil];rw[j0]
  rw[eh,ep];intro y hy;rw[qU,qM]at hy;rcases hy with hy|rfl
  ·rw[z5r (h.mem y hy),qP];have:=h.mem y hy;omega
  rw[j0,qP];simp
 rw[hb]at hr;rw[qAb hr];rw[hb,qAb rfl]at j2;have eh:Q0j (lns++[x])=Q0j lns:=j2;have ep:Q05 (lns++[x])=Q05 lns:=by unfold Q05;rw[qBx];simp[hb]
 exact⟨by rw[eh];exact h.he,by rw[eh,ep];exact h.hd,by rw[eh,ep];exact h.mem⟩
theorem y10:∀(xs:List ZLV) (X:SP),(∀x∈xs,0<=x.pl)->(Q1b X xs).2=-1->(Q1b X xs).1=xs.foldl Q01 X
 | [],X,_,_=>rfl
 |x::l,X,hp,h=>by
  unfold Q1b at h ⊢;by_cases c:Q8f (Q01 X x) x=true
  ·rw[qAb c]at h;have:=hp x (by simp);dsimp only at h;omega
  rw[qAa c]at h ⊢;exact y10 l _ (fun y hy=>hp y (by simp[hy])) h
theorem x81{lns:List Ln}{xs:List ZLV}(h:Q4f s lns xs):∀i:Nat,i<=xs.length->HI s (lns.take i) ((xs.take i).foldl Q01 Q2m)
 |0,_=>⟨by simp[Q0j,Q14,Q2m,Q8l],by simp[Q2m,Q05],fun y hy=>by simp[Q05]at hy⟩
 |i+1,hi=>by
  have hl:=h.len;obtain⟨x,p,g1,g2,g3,g4,g5⟩:=h.get (k:=i) (by omega);have e:lns[i]'(by omega)=x:=by rw[qE (by omega)]at g1;injection g1
  rw[Q6e (by omega:i<lns.length),Q6e (by omega:i<xs.length),List.foldl_append,e];exact v0g (x81 h i (by omega)) g3
structure SpecTab(X:SP)(ps:List Pr)(R H:Nat):Prop where
 rules:X.rules.length=R
 heads:X.heads.length=H
 prods:X.prods.length=ps.length
 head:X.head=ps.map Pr.head
 syms:X.prods.map (Q8q X)=ps.map (fun p=>p.syms.map (Q0w R))
 tab:Q1d ps R H
theorem x72{xs:List ZLV}(hc:Q0u s=(0,0))(hO:Q88 s xs):SpecTab (Q1b Q2m xs).1 (Q0p (Q0c s).1) (Q0g (Q0c s).1).length (Q0j (Q0c s).1).length:=by
 obtain⟨c1,c2,c3,c4,c5⟩:=z2d hc;have j5:=(Q62 hc).places;have l2:=hO.l2;have j9:=l2.len;have hm:=x3x l2;have j2:=y10 xs Q2m (fun x hx=>by
  obtain⟨k,hk,rfl⟩:=qBf hx;obtain⟨y,p,g1,g2,g3,g4,g5⟩:=l2.get hk;omega) (by rw[hm.1];exact c5)
 have hI:=x81 l2 xs.length (qR _);rw[qAw,← j2,← j9,qAw]at hI;have j4:=hI.mem;have jf:(Q1b Q2m xs).1.rules=xs.filter (fun z=>z.ln.rule):=by rw[hO.si.rl,qAw]
 have je:(Q1b Q2m xs).1.prods=xs.filter (fun z=>!z.ln.rule):=by rw[hO.si.pr,qAw]
 obtain⟨r1,r2⟩:=z5i (p:=Q0x) (q:=fun z:ZLV=>z.ln.rule) l2.len (fun k a b ha hb=>by
  obtain⟨i,i1,i2,i3⟩:=l2.at' k a b ha hb;exact i2.rule.symm)
 obtain⟨p1,p2⟩:=z5i (p:=fun x=>!Q0x x) (q:=fun z:ZLV=>!z.ln.rule) l2.len (fun k a b ha hb=>by
  obtain⟨i,i1,i2,i3⟩:=l2.at' k a b ha hb;rw[i2.rule])
 rw[← jf]at r1 r2;rw[← je]at p1 p2;have hR:(Q0g (Q0c s).1).length=(Q1b Q2m xs).1.rules.length:=by unfold Q0g;rw[qAv,r1]
 -- a symbol's number
 have num:∀y∈(Q0c s).1,∀d∈y.syms,∀n,Q6w s d.ls n->Q80 (Q1b Q2m xs).1 n=Q0w (Q0g (Q0c s).1).length (Q9v (Q0g (Q0c s).1) (Q0j (Q0c s).1) d):=by
  intro y hy d hd n hw;obtain⟨n1,n2⟩:=x5k c3 j5 j4 hy hd;have j6:Q1a (atB n 0)=Q16 d:=hw.cap.symm;have j1:¬Q80 (Q1b Q2m xs).1 n<0:=by
   intro q;have q2:=(x5j l2 hO.si hw).1 q;obtain⟨k,hk,rfl⟩:=qBf hy;have h1:=z7k j5 _ 0 c3 (by omega) k hk (by omega);obtain⟨j,hj,rfl⟩:=qBf hd;have h2:=y0h (j5 _ hy).2 _ 0 h1 (by omega) j hj (by omega);rw[q2]at h2;cases h2
  unfold Q80 at j1 ⊢;rw[j6]at j1 ⊢;cases hb:Q16 d
  ·rw[hb]at j1;rw[qAa (by simp)]at j1 ⊢;have ja:=n2 hb;have j3:Q1m (Q0g (Q0c s).1) d.ls<(Q1b Q2m xs).1.rules.length:=by omega
   have j7:=qDz (xs:=Q0g (Q0c s).1) (p:=fun x:Wd=>x.ls==d.ls) (w:=ja);have jb:∀(j:Nat) (z:ZLV),(Q1b Q2m xs).1.rules[j]? = some z->∃hj:j<(Q0g (Q0c s).1).length,Q6w s (Q0g (Q0c s).1)[j].ls z.ln.name:=by
    intro j z hz;have hj:=(qS hz).1;have jc:j<(Q0g (Q0c s).1).length:=by omega
    have j8:j<((Q0c s).1.filter Q0x).length:=by omega
    obtain⟨q,q1,q2⟩:=r2 j _ z (qE j8) hz;obtain⟨i,i1,i2,i3⟩:=l2.at' q _ z q1 q2;refine⟨jc,?_⟩;have e:(Q0g (Q0c s).1)[j]=((Q0c s).1.filter Q0x)[j].front:=by simp only[Q0g,qCd]
    rw[e];exact i2.word
   obtain⟨_,hk⟩:=jb _ _ (qE j3);have jg:=z7c (qE j3) (t:=n) ((Q6w.eq_iff hk hw).1 (by unfold Q1m;exact qBi.1 j7)) (fun j z hj hz e=>by
    obtain⟨jc,j8⟩:=jb j z hz;have e2:=(Q6w.eq_iff j8 hw).2 e;have:=List.not_of_lt_findIdx (xs:=Q0g (Q0c s).1) (p:=fun x:Wd=>x.ls==d.ls) hj;simp[e2]at this) ((Q1b Q2m xs).1.rules.length+1) 0 (by omega) (by omega)
   rw[jg]at j1 ⊢;by_cases jd:((Q1b Q2m xs).1.rules[Q1m (Q0g (Q0c s).1) d.ls]'hlt').ln.skip=true
   ·rw[qAb jd]at j1;omega
   rw[qAa jd];simp[Q0w,Q9v,hb]
  rw[qAb rfl];have ja:=n1 hb;have hf:=x5s (d:=d) (y:=n) hw hI.he;rw[qAb ja]at hf;rw[hf,qAa (by omega),← hR];simp[Q0w,Q9v,hb]
 have j0:(Q0p (Q0c s).1).length=(Q05 (Q0c s).1).length:=by unfold Q0p;rw[qAv]
 refine⟨hR.symm,hI.he.len.symm,by rw[j0];exact p1.symm,?_,?_,tabOk c3 j5 j4⟩
 ·rw[hI.hd];unfold Q0p;rw[List.map_map];rfl
 apply qEu
 ·rw[qAv,qAv,j0];exact p1.symm
 intro k h1 h2;rw[qAv]at h1 h2;have h3:k<(Q05 (Q0c s).1).length:=by omega
 rw[qCd,qCd];obtain⟨q,q1,q2⟩:=p2 k _ _ (qE h3) (qE h1);obtain⟨i,i1,i2,i3⟩:=l2.at' q _ _ q1 q2;have ji:(Q05 (Q0c s).1)[k]∈(Q0c s).1:=qAi q1;have e:(Q0p (Q0c s).1)[k]=Q8a (Q0g (Q0c s).1) (Q0j (Q0c s).1) (Q05 (Q0c s).1)[k]:=by simp only[Q0p,qCd]
 rw[e];have jh:(Q05 (Q0c s).1)[k].syms.length=((Q1b Q2m xs).1.prods[k]).ln.syms.length:=i2.syms.1;unfold Q8q Q8a;dsimp only;rw[List.map_map];apply qEu
 ·simp only[qAv];exact jh.symm
 intro j g1 g2;simp only[qAv]at g1 g2;simp only[qCd];exact num _ ji _ (qG _) _ (i2.sword (qE g2) (qE g1))
end
theorem infoBS:(Tryz.prog.info? 118).map (fun i=>(i.zero,i.size,i.bytes))=some (some (.slice none 0 0),1,24):=by kernel_rfl
theorem infoBS':∃i,Tryz.prog.info? 118=some i/\i.zero=some (.slice none 0 0)/\i.size=1/\i.bytes=24:=nfoE infoBS
def SlAt(w:World)(v:Value)(l:List Value):Prop :=
 ∃ao cap,v=.slice ao l.length cap/\l.length<=cap/\∀j (h:j<l.length),∃g o,ao=some ⟨g,o,none⟩/\w.cell? ⟨g,o+j,none⟩=some l[j]
theorem SlAt.fresh{w w':World}{v:Value}{l:List Value}(h:SlAt w v l)(hf:Q0a w w'):SlAt w' v l:=by
 obtain⟨ao,cap,h1,h2,h3⟩:=h;refine⟨ao,cap,h1,h2,fun j hj=>?_⟩;obtain⟨g,o,h4,h5⟩:=h3 j hj;exact⟨g,o,h4,Q0h hf h5⟩
structure NV(w:World)(b:Nat)(R H:Nat)(q:List Q1)(a0:Option Addr)(c0:Nat)(a1:Option Addr)(c1:Nat)(a2:Option Addr)(c2:Nat)(v3 v4:Value)(sv:List Value):Prop where
 k0:w.cell? ⟨b,0,none⟩=some (.slice a0 R c0)
 k1:w.cell? ⟨b,1,none⟩=some (.slice a1 q.length c1)
 k2:w.cell? ⟨b,2,none⟩=some (.slice a2 H c2)
 k3:w.cell? ⟨b,3,none⟩=some v3
 k4:w.cell? ⟨b,4,none⟩=some v4
 r3:Q1c w v3 (q.map Prod.fst)
 r4:SlAt w v4 sv
 len:sv.length=q.length
 each:∀(i:Nat) (v:Value) (x:Q1),sv[i]? = some v->q[i]? = some x->Q1c w v x.2
theorem NV.fresh{w w':World}{b R H:Nat}{q:List Q1}{a0 a1 a2:Option Addr}{c0 c1 c2:Nat}{v3 v4:Value}{sv:List Value}(h:NV w b R H q a0 c0 a1 c1 a2 c2 v3 v4 sv)(hf:Q0a w w'):NV w' b R H q a0 c0 a1 c1 a2 c2 v3 v4 sv :=
 ⟨Q0h hf h.k0,Q0h hf h.k1,Q0h hf h.k2,Q0h hf h.k3,Q0h hf h.k4,h.r3.fresh hf,h.r4.fresh hf,h.len,fun i v x h1 h2=>(h.each i v x h1 h2).fresh hf⟩
structure QOk(R H:Nat)(q:List Q1):Prop where
 r8:R<=8
 h8:H<=8
 p20:q.length<=20
 pos:0<q.length
 hd:∀x∈q,0<=x.1/\x.1<H
 sy:∀x∈q,x.2.length<=6/\∀c∈x.2,0<=c/\c<(R:Int)+1+H
def Q3q(w:World)(b:Nat)(R H:Nat)(q:List Q1):Prop:=∃a0 c0 a1 c1 a2 c2 v3 v4 sv,NV w b R H q a0 c0 a1 c1 a2 c2 v3 v4 sv
theorem Q3q.fresh{w w':World}{b R H:Nat}{q:List Q1}(h:Q3q w b R H q)(hf:Q0a w w'):Q3q w' b R H q:=by
 obtain⟨a0,c0,a1,c1,a2,c2,v3,v4,sv,h⟩:=h;exact⟨a0,c0,a1,c1,a2,c2,v3,v4,sv,h.fresh hf⟩
theorem Q0v(w:World)(n:Nat):Q0a w (w.drewN n):=⟨rfl,rfl,rfl,qR _,fun _ _ _=>rfl⟩
theorem z1j(w:World)(b R:Nat)(a0:Option Addr)(c0:Nat)(k0:w.cell? ⟨b,0,none⟩=some (.slice a0 R c0))(hR:R<=1000) :
  Calls Tryz.prog 47 #[.pointer (some ⟨b,0,none⟩)] w fun e w'=>e=.returned (.int .i64 (bs R))/\w'=w:=by
 go_enter Tryz.func47,Tryz.ntmps47
 go_wp2;go_ret;exact⟨by unfold bs;rfl,rfl⟩
theorem x35(base:Int)(null:List Bool)(l:List Int)(i:Nat)(hi:i<l.length):Q4b base null (l.drop i)=((decide (0<=l[i]-base)&&null.getD (l[i]-base).toNat false)&&Q4b base null (l.drop (i+1))):=by
 unfold Q4b;rw[qC hi,qDv]
theorem z4q(w:World)(b R H gn:Nat)(a0:Option Addr)(c0:Nat)(v:Value)(l:List Int)(null:List Bool)(k0:w.cell? ⟨b,0,none⟩=some (.slice a0 R c0))(hR:R<=1000)(hH:H<=1000)(hv:Q1c w v l)(hl:l.length<=1000)(hn:Q1x w gn null)(hnl:null.length=H)
  (hc:∀c∈l,0<=c/\c<(R:Int)+1+H) :
  Calls Tryz.prog 78 #[.pointer (some ⟨b,0,none⟩),v,bsl gn H] w fun e w'=>e=.returned (.bool (Q4b (bs R) null l))/\∃m,w'=w.drewN m:=by
 obtain⟨ao,cap,rfl,jh,j2⟩:=hv;have BA:=hid (fun w' (h:w'.cell? ⟨b,0,none⟩=some (.slice a0 R c0))=>z1j w' b R a0 c0 h hR);have HK:=hid k0;have HC:=hid j2;have HN:=hid hn;have jg:=hid hnl;have je:=hid hc;generalize hV:Q4b (bs R) null l=V;have HV:=hid hV;clear j2 hn hnl hc hV k0;go_enter Tryz.func78,Tryz.ntmps78
 go_wp2;go_loopw [7] (fun x7 wr=>∃(i m:Nat),x7=.int .i64 i/\wr=w.drewN m/\i<=l.length/\Q4b (bs R) null (l.drop i)=V)
   (fun x _=>1001-(intOf x).toNat)
 case atStart=>exact⟨0,0,rfl,rfl,by omega,HV.out⟩
 obtain⟨i,m,rfl,rfl,hi,j0⟩:=hrel;have jf:=hid (Q19 (B:=1001) i (by omega));have hk:=Q0h (Q0v w m) HK.out;have j4:=hid (Q0v w m);generalize hW:w.drewN m=wr at hk j4 ⊢;have HW:=hid hW;clear hW;by_cases j9:i<l.length
 ·have k1:(i:Int)<(l.length:Int):=by omega
  rw[x35 _ _ _ _ j9]at j0;obtain⟨g,o,rfl,j7⟩:=HC.out i j9;have j8:=Q0h j4.out j7;have jc:=je.out l[i] (qG j9);have ja:=fun(j:Nat) (hj:j<H)=>(HN.fresh j4.out).cell (j:=j) (by rw[jg.out];exact hj);have jb:=fun(j:Nat)=>(HN.fresh j4.out).frozen j;generalize hcv:l[i]=c at j0 j7 j8 jc;clear hcv j7;have BQ:=hid (fun n=>BA.out (wr.drewN n) (Q0h (Q0v wr n) hk));by_cases j3:c-bs R<0
  ·rw[qCa (by omega),qDh,qDh]at j0;have j1:=hid j0;have s1:decide (c-bs R<0)=true:=qCj j3;have jj:IntKind.i64.wrap (c-bs R)=c-bs R:=by rw[qBv];unfold bs;omega
   clear ja jb j0;go_wp2;go_quiet (first|(go_at_call 47;refine Calls.quiet_of_same (BQ.out _)));go_wp2;go_ret;rw[← j1.out];exact⟨rfl,by rw[← HW.out,qDu];exact⟨_,rfl⟩⟩
  rw[qCj (by omega),qBm]at j0;obtain⟨j,hj⟩:∃j:Nat,c-bs R=j:=⟨(c-bs R).toNat,by omega⟩;have ji:j<H:=by unfold bs at hj;omega
  have j5:=ja j ji;have jk:=jb j;rw[hj,qAo]at j0;have s1:¬(j:Int)<0:=by omega
  have s2:(j:Int)<(H:Int):=by omega
  have jj:IntKind.i64.wrap (c-bs R)=(j:Int):=by rw[qBv];unfold bs at hj ⊢;omega
  generalize null.getD j false=nj at j0 j5;clear ja jb hj j3 jc;cases nj
  ·rw[qDh]at j0;have j1:=hid j0;clear j0;go_wp2;go_quiet (first|(go_at_call 47;refine Calls.quiet_of_same (BQ.out _)));have j6:=Q0h (Q0v wr nq) j5;go_wp2;go_ret;rw[← j1.out];exact⟨rfl,by rw[← HW.out,qDu];exact⟨_,rfl⟩⟩
  rw[qBm]at j0;have j1:=hid j0;clear j0;go_wp2;go_quiet (first|(go_at_call 47;refine Calls.quiet_of_same (BQ.out _)));have j6:=Q0h (Q0v wr nq) j5;go_wp2;go_roundw
  case rel=>exact⟨i+1,m+nq,by go_num,by rw[← HW.out,qDu],by omega,j1.out⟩
  exact jf.out
 have k1:¬(i:Int)<(l.length:Int):=by omega
 have jd:l.drop i=[]:=qAp (by omega);rw[jd]at j0;have j1:=hid j0;clear j0 jd;go_wp2;go_ret;rw[← j1.out];exact⟨rfl,m,HW.symm⟩
theorem x0d(w:World)(ga gb n:Nat)(xs ys:List Bool)(ha:Q1x w ga xs)(hb:Q1x w gb ys)(la:xs.length=n)(lb:ys.length=n)(ty:TypeId) :
  (Builtin.copy_ #[118,118] ty #[bsl gb n,bsl ga n]).run Tryz.prog w=.ok (goInt n) (w.setRow gb (Q34 xs).toArray):=by
 have h:=run_copy_row (P:=Tryz.prog) w 118 118 ty 4 gb 0 n n ⟨ga,0,none⟩ n n (Q34 ys).toArray 4 (Q34 xs) qCw (by kernel_rfl) hb (by simp[Q34,la]) (fun j v hj=>by
  have j0:j<xs.length:=by have:=(qS hj).1;simpa [Q34]using this
  have:=ha.cell j0;rw[qDd,qBy,this];simp[Q34,j0]at hj;rw[← hj];simp[j0]) (by simp[Q34,la,lb]) (by intro v hv;simp[Q34]at hv;rcases hv with⟨_,rfl⟩|⟨_,rfl⟩<;>rfl)
 have e1:(Q34 xs).length=n:=by simp[Q34,la]
 have e2:((Q34 ys).toArray.toList.take 0++Q34 xs++(Q34 ys).toArray.toList.drop (0+n)).toArray=(Q34 xs).toArray:=by
  rw[qAp (by simp[Q34,lb])];simp
 rw[e1,e2]at h;exact h
theorem x5r(base:Int)(rules:Bool)(out:List Bool)(l:List Int)(i:Nat)(hi:i<l.length):(l.drop i).all (Q6r base rules out)=(Q6r base rules out l[i]&&(l.drop (i+1)).all (Q6r base rules out)):=by
 rw[qC hi,qDv]
theorem x2l(base:Int)(rules:Bool)(out:List Bool)(q:List Q1)(i:Nat)(hi:i<q.length)(nx:List Bool):W0a base rules out (q.drop i) nx=W0a base rules out (q.drop (i+1)) (nx.set q[i].1.toNat (nx.getD q[i].1.toNat false||q[i].2.all (Q6r base rules out))):=by
 rw[qC hi];rfl
theorem y6u(w:World)(b R H:Nat)(q:List Q1)(rules:Bool)(hS:Q3q w b R H q)(hQ:QOk R H q) :
  Calls Tryz.prog 75 #[.pointer (some ⟨b,0,none⟩),.bool rules] w fun e w'=>∃g,w.heap.size<=g/\e=.returned (bsl g H)/\Q1x w' g (Q4q (bs R) rules q H)/\Q0a w w':=by
 obtain⟨a0,c0,a1,c1,a2,c2,v3,v4,sv,hN⟩:=hS;have r8:=hQ.r8;have h8:=hQ.h8;have p20:=hQ.p20;have HQ:=hid hQ;have HN:=hid hN;have k2:=hN.k2;have mk:=fun w=>run_make_row' (P:=Tryz.prog) 118 4 (.bool false) 1 qCw (by kernel_rfl) rfl .i64 .i64 H (by omega) (by omega) w;generalize hV:Q4q (bs R) rules q H=V;have HV:=hid hV;clear hN hQ hV;go_enter Tryz.func75,Tryz.ntmps75
 go_wp2;go_loopw [5,6,7,8,9,10,11] (fun x5 x6 _ _ _ _ _ wr=>∃(n g:Nat) (out:List Bool),x6=.int .i64 n/\x5=bsl g H/\n<=H/\w.heap.size<=g/\Q1x wr g out/\out.length=H/\Q0a w wr/\derN (bs R) rules q (H-n) out=V)
   (fun _ x _ _ _ _ _ _=>1001-(intOf x).toNat)
 case atStart =>
  refine⟨0,w.heap.size,List.replicate H false,rfl,rfl,by omega,qR _,?_,by simp,(mRf _ w).alloc _,HV.out⟩;rw[z03];exact z0a _ _
 obtain⟨n,g,out,rfl,rfl,hn,hg,hB,jk,j3,j0⟩:=hrel;have kb:=hid (Q19 (B:=1001) n (by omega));have HF:=hid j3;have HB:=hid hB;have jv:=hid jk;have kq:=Q0h j3 k2;by_cases kx:n<H
 ·have k1:(n:Int)<(H:Int):=by omega
  rw[show H-n=(H-(n+1))+1 by omega]at j0;unfold derN at j0;have j7:=hid j0;have kd:=hB.lt;have CP:=x0d (wr.alloc (.cells (madeCells #[.bool false] H) 4)) g wr.heap.size H out (List.replicate H false) (hB.fresh ((mRf _ wr).alloc _)) (by rw[z03];exact z0a _ _) jk (by simp);have jg:Hid (Q1x ((wr.alloc (.cells (madeCells #[.bool false] H) 4)).setRow wr.heap.size (Q34 out).toArray) wr.heap.size out):=hid (qAn _ _ _ _ _ _ (z0a _ _));have jl:Hid (Q1x ((wr.alloc (.cells (madeCells #[.bool false] H) 4)).setRow wr.heap.size (Q34 out).toArray) g out):=hid (by
   have:=(hB.fresh ((mRf (fun _=>False) wr).alloc (.cells (madeCells #[.bool false] H) 4)));unfold Q1x at this ⊢;rw[qCx _ _ _ _ (by omega)];exact this)
  have jm:Hid (Q0a w ((wr.alloc (.cells (madeCells #[.bool false] H) 4)).setRow wr.heap.size (Q34 out).toArray)):=hid ((j3.alloc _).setRow (by have:=j3.size;simp;omega) _);generalize hW2:(wr.alloc (.cells (madeCells #[.bool false] H) 4)).setRow wr.heap.size (Q34 out).toArray=W2 at CP jg jl jm;have jo:=hid (show w.heap.size<=wr.heap.size from j3.size);have ju:=hid (show g≠wr.heap.size by omega);clear hW2 j3 hB jk j0 kd;go_wp2;generalize hNX:W0a (bs R) rules out q out=NX at j7;have kc:=hid hNX;clear hNX;generalize hgx:wr.heap.size=gx at CP jg jo ju ⊢;clear hgx CP mk kq HF HB;go_loopw [8,9,10,11] (fun x8 _ _ _ wr=>∃(i:Nat) (nx:List Bool),x8=.int .i64 i/\i<=q.length/\Q1x wr gx nx/\nx.length=H/\Q1x wr g out/\Q0a w wr/\W0a (bs R) rules out (q.drop i) nx=NX)
    (fun x _ _ _ _=>1001-(intOf x).toNat)
  case atStart=>exact⟨0,out,rfl,by omega,jg.out,jv.out,jl.out,jm.out,kc.out⟩
  obtain⟨i,nx,rfl,hi,hX,js,hB,j3,j0⟩:=hrel;have jp:=hid (Q19 (B:=1001) i (by omega));have HX:=hid hX;have jq:=hid js;have k8:=hid j3;have HB:=hid hB;have kp:=Q0h j3 HN.k1;clear jg jl jm;by_cases j4:i<q.length
  ·have s1:(i:Int)<(q.length:Int):=by omega
   rw[x2l _ _ _ _ _ j4]at j0;have j1:=hid j0;clear j0;have jb:=HN.fresh j3;have jf:i<sv.length:=by rw[HN.len];exact j4
   have s4:(i:Int)<(sv.length:Int):=by omega
   obtain⟨ks,kv,e4,kf,j9⟩:=jb.r4;obtain⟨g4,o4,rfl,y4⟩:=j9 i jf;have q4:=jb.k4;rw[e4]at q4;obtain⟨kt,kw,el,kh,ja⟩:=jb.each i sv[i] q[i] (qE jf) (qE j4);rw[el]at y4;obtain⟨kr,ku,e3,ke,j8⟩:=jb.r3;obtain⟨g3,o3,rfl,y3⟩:=j8 i (by rw[qAv];exact j4);rw[qCd]at y3;rw[qAv]at e3;have q3:=jb.k3;rw[e3]at q3;have kj:=HQ.hd q[i] (qG j4);have jr:=HQ.sy q[i] (qG j4);have k5:=jb.k0;have kl:=jb.k1;obtain⟨j5,jz⟩:∃m:Nat,q[i].1=m:=⟨q[i].1.toNat,by omega⟩;rw[jz]at y3 kj j1;rw[qAo]at j1;have kn:j5<H:=by omega
   have km:=jr.1;have jw:=hid jr.2;have jt:=hid ja;generalize q[i].2=l at y4 jt jw j1 km kh;generalize hFIN:l.all (Q6r (bs R) rules out)=FIN at j1;have jn:=hid hFIN;clear hFIN jr ja j8 j9 ke kf e3 e4 el jb jz hX js hB kp;obtain⟨wo,ko⟩:∃wo,wo=wr:=⟨_,rfl⟩;subst ko;have jx:=hid (And.intro q3 y3);have ka:=hid j3;clear j3 y3 q3;go_wp2;go_loopw [9,10,11] (fun x9 x10 _ wi=>∃(j m:Nat) (A:Bool),x10=.int .i64 j/\x9=.bool A/\j<=l.length/\wi=wo.drewN m/\(A&&(l.drop j).all (Q6r (bs R) rules out))=FIN)
     (fun _ x _ _=>1001-(intOf x).toNat)
   case atStart=>exact⟨0,0,true,rfl,rfl,by omega,rfl,by rw[qBm];exact jn.out⟩
   obtain⟨j,m,A,rfl,rfl,hj,rfl,j0⟩:=hrel;have jc:=hid (Q19 (B:=1001) j (by omega));have z4:=Q0h (Q0v wo m) q4;have x4:=Q0h (Q0v wo m) y4;have z0:=Q0h (Q0v wo m) k5;have j6:=hid (Q0v wo m);generalize hW:wo.drewN m=wr at z4 x4 z0 j6 ⊢;have HW:=hid hW;clear hW q4 y4 k5 kl;by_cases jd:j<l.length
   ·have s3:(j:Int)<(l.length:Int):=by omega
    rw[x5r _ _ _ _ _ jd]at j0;obtain⟨gl,ol,rfl,y5⟩:=jt.out j jd;have z5:=Q0h j6.out y5;have jh:=jw.out l[j] (qG jd);have jj:=fun(k:Nat) (hk:k<H)=>(HB.fresh j6.out).cell (j:=k) (by rw[jv.out];exact hk);have BQ:=hid (fun n=>z1j (wr.drewN n) b R a0 c0 (Q0h (Q0v wr n) z0) (by omega));generalize l[j]=c at j0 z5 jh;clear y5;cases A
    ·rw[qDh]at j0;have j2:=hid j0;obtain⟨dz,k6⟩:∃dz:Int,IntKind.i64.wrap (c-bs R)=dz:=⟨_,rfl⟩;clear j0 jj jh;go_wp2;go_quiet (first|(go_at_call 47;refine Calls.quiet_of_same (BQ.out _)));go_wp2;go_roundw
     case rel=>exact⟨j+1,m+nq,false,by go_num,rfl,by omega,by rw[← HW.out,qDu],j2.out⟩
     exact jc.out
    rw[qBm]at j0;by_cases je:c-bs R<0
    ·have e1:Q6r (bs R) rules out c=rules:=by unfold Q6r;rw[qCj je,qCa (by omega)];simp
     rw[e1]at j0;have j2:=hid j0;have s1:decide (c-bs R<0)=true:=qCj je;have s6:¬0<=c-bs R:=by omega
     have k6:IntKind.i64.wrap (c-bs R)=c-bs R:=by rw[qBv];unfold bs;omega
     clear j0 jj jh e1;cases rules;all_goals
      go_wp2;go_quiet (first|(go_at_call 47;refine Calls.quiet_of_same (BQ.out _)));go_wp2;go_roundw
      case rel=>exact⟨j+1,m+nq,_,by go_num,rfl,by omega,by rw[← HW.out,qDu],j2.out⟩
      exact jc.out
    obtain⟨dz,ji⟩:∃dz:Nat,c-bs R=dz:=⟨(c-bs R).toNat,by omega⟩;have ki:dz<H:=by unfold bs at ji;omega
    have e1:Q6r (bs R) rules out c=out.getD dz false:=by unfold Q6r;rw[ji,qCa (by omega),qCj (by omega),qAo];simp
    rw[e1]at j0;have jy:=jj dz ki;have s1:¬(dz:Int)<0:=by omega
    have s6:(0:Int)<=(dz:Int):=by omega
    have s7:(dz:Int)<(H:Int):=by omega
    have k6:IntKind.i64.wrap (c-bs R)=(dz:Int):=by rw[qBv];unfold bs at ji ⊢;omega
    generalize out.getD dz false=oj at j0 jy;have j2:=hid j0;clear j0 jj jh e1 ji je;cases oj;all_goals
     go_wp2;go_quiet (first|(go_at_call 47;refine Calls.quiet_of_same (BQ.out _)));have kg:=Q0h (Q0v wr nq) jy;go_wp2;go_roundw
     case rel=>exact⟨j+1,m+nq,_,by go_num,rfl,by omega,by rw[← HW.out,qDu],j2.out⟩
     exact jc.out
   have s3:¬(j:Int)<(l.length:Int):=by omega
   rw[qAp (by omega),List.all_nil,Bool.and_true]at j0;have j2:=hid j0;have b1:=(HX.fresh j6.out).cell (j:=j5) (by rw[jq.out];exact kn);have b2:=(HX.fresh j6.out).frozen j5;have u3:=Q0h j6.out jx.1;have u4:=Q0h j6.out jx.2;have s5:(j5:Int)<(H:Int):=by omega
   have HP:Hid (∀c:Bool,Q1x (wr.setCell ⟨gx,j5,none⟩ (.bool c)).drew gx (nx.set j5 c)):=hid (fun c=>(HX.fresh j6.out).put j5 c);have k7:Hid (∀c:Bool,Q1x (wr.setCell ⟨gx,j5,none⟩ (.bool c)).drew g out):=hid (fun c=>by
    have:=HB.fresh j6.out;unfold Q1x at this ⊢;show(wr.setCell ⟨gx,j5,none⟩ (.bool c)).heap[g]? = _;rw[heap_setCell_other _ ju.out];exact this)
   have k9:Hid (∀c:Bool,Q0a w (wr.setCell ⟨gx,j5,none⟩ (.bool c)).drew):=hid (fun c=>((ka.trans j6.out).setCell (by have:=jo.out;simp;omega) _).drew);generalize nx.getD j5 false=nb at j1 b1;clear j0 z0;cases nb<;>cases A;all_goals
    go_wp2_with fail
    go_region;all_goals
     go_wp2;go_roundw
     case rel=>exact⟨i+1,_,by go_num,by omega,HP.out _,by simp[jq.out],k7.out _,k9.out _,by have:=j1.out;rw[← j2.out]at this;simpa using this⟩
     exact jp.out
  have s1:¬(i:Int)<(q.length:Int):=by omega
  rw[qAp (by omega)]at j0;have j1:=hid j0;clear j0 hX js j3 hB;go_wp2;go_roundw
  case rel=>exact⟨n+1,gx,nx,by go_num,rfl,by omega,jo.out,HX.out,jq.out,k8.out,by have:=j1.out;unfold W0a at this;rw[this];exact j7.out⟩
  exact kb.out
 have k1:¬(n:Int)<(H:Int):=by omega
 have kk:n=H:=by omega
 rw[kk,qEm]at j0;have j7:=hid j0;clear j0 j3 hB jk;go_wp2;go_ret;exact⟨g,hg,rfl,by rw[← j7.out];exact HB.out,HF.out⟩
end Go.Proofs.YtbdpfmalabgmbaaGreat
