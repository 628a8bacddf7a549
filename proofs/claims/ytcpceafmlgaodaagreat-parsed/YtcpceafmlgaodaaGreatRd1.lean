import Derived.Test.YtcpceafmlgaodaaGreatRbc
namespace Go.Proofs.YtcpceafmlgaodaaGreat
open Go.RowKit
set_option maxRecDepth 99999
set_option maxHeartbeats 0
set_option linter.all false
section
variable {P:Program}(w:World)
theorem x6k{l news:List Value}{x:Value}{N o:Nat}(hfit:N+news.length<=l.length)(hx:∀u∈news,u=x)(ho:l[o]? = some x):(l.take N++news++l.drop (N+news.length))[o]? = some x:=by
 have j0:o<l.length:=by
  rcases qBn o l.length with h|h
  ·exact h
  rw[qN h]at ho;cases ho
 have ht:(l.take N).length=N:=by rw[qBo];omega
 by_cases h1:o<N
 ·rw[qAh,qAe (by omega),List.getElem?_take,qAb h1];exact ho
 by_cases h2:o<N+news.length
 ·rw[qAe (by rw[qP];omega),qAg (by omega),ht];have hm:o-N<news.length:=by omega
  rw[qE hm,hx _ (qG hm)]
 rw[qAg (by rw[qP];omega),qP,ht,qCq];rw[show N+news.length+(o-(N+news.length))=o by omega];exact ho
theorem z3n(base:Nat)(t ty e:TypeId)(i:TypeInfo)(z:Value)(size bytes:Nat)(ht:P.underlying t=some (.slice e))(hi:P.info? e=some i)(hz:i.zero=some z)
  (hsize:i.size=size) (hby:i.bytes=bytes) (hzs:z.cells.size=size) (hsz:0<size)
  (v:Value) (n:Nat) (xs:List Value) (hown:w.ownsRow base e size v n xs)
  (a:Addr) (m c:Nat) (news:List Value) (hl:news.length=m*size) (hnews:∀j u,news[j]? = some u->w.cell? (a.add j)=some u) (h1:∀u∈news,u.oneCell'=true)
  (h63:n+m<=maxLen) (hbytes:(n+m)*bytes<=140737488355328) (hbase:base<=w.heap.size) (x:Value) (hx:∀u∈news,u=x) :
  ∃v' w',(Builtin.append_ #[t,t] ty #[v,.slice (some a) m c]).run P w=.ok v' w'/\w'.ownsRow base e size v' (n+m) (xs++news)/\w.grownBy w' v.ownBlock /\
   (∀k,v'.ownBlock=some k->v.ownBlock=some k∨w.heap.size<=k)/\(∀b o,w.cell? ⟨b,o,none⟩=some x->w'.cell? ⟨b,o,none⟩=some x)/\w'.ownsRow base e size v n xs:=by
 have old:∀w':World,w.grownBy w' none->∀b o,w.cell? ⟨b,o,none⟩=some x->w'.cell? ⟨b,o,none⟩=some x:=fun w' hg b o hc=>by
  have hb:b<w.heap.size:=by
   rcases qBn b w.heap.size with h|h
   ·exact h
   simp[World.cell?,Array.getElem?_eq_none h]at hc
  rw[World.cell?_of_block (hg.block b hb (by simp))];exact hc
 rcases hown.2 with⟨rfl,rfl⟩|⟨g,cap,cur,rfl,hbg,hg,hnc,hcm,hcs,htake⟩
 ·have j4:xs=[]:=qBs (by simpa using hown.1);subst j4;obtain⟨v',w',hr,h2,h3,_⟩:=run_append_own (P:=P) w w.heap.size t ty e i z size bytes ht hi hz hsize hby hzs hsz _ 0 [] (World.ownsRow_nil w _ e size) a m c news hl hnews h1 h63 hbytes (qR _);exact⟨v',w',hr,z0f h2 hbase,h3,fun k hk=>.inr (h2.lt k hk).1,old w' h3,World.ownsRow_nil _ _ _ _⟩
 by_cases hroom:n+m<=cap
 ·obtain⟨v',w',hr,h2,h3,_⟩:=run_append_own (P:=P) w base t ty e i z size bytes ht hi hz hsize hby hzs hsz _ n xs hown a m c news hl hnews h1 h63 hbytes hbase;subst hsize;have j0:n*i.size+news.length<=cur.size:=by rw[hl,hcs,← qDt];exact qBv _ hroom
  have j2:=run_append_room (P:=P) w t ty e i ht hi g n cap cur hg a m c news hl hnews h1 hroom j0;rw[hr]at j2;injection j2 with e1 e2;have hh:(w.setRow g (cur.toList.take (n*i.size)++news++cur.toList.drop (n*i.size+news.length)).toArray).heap[g]? = some (.cells (cur.toList.take (n*i.size)++news++cur.toList.drop (n*i.size+news.length)).toArray e (0,0)):=setRow_heap _ _ _ _ _ _ hg;rw[← e2]at hh;refine⟨v',w',hr,h2,h3,fun k hk=>by rw[e1]at hk;exact .inl hk,fun b o hc=>?_,?_⟩
  ·by_cases hb:b=g
   ·subst hb;have q:cur[o]? = some x:=by rw[← Q0b hg o];exact hc
    rw[Q0b hh o];rw[qCb];exact x6k (by simpa using j0) hx (by simpa using q)
   have j3:b<w.heap.size:=by
    rcases qBn b w.heap.size with h|h
    ·exact h
    simp[World.cell?,Array.getElem?_eq_none h]at hc
   rw[World.cell?_of_block (h3.block b j3 (by simp[Value.ownBlock];exact hb))];exact hc
  refine⟨hown.1,.inr ⟨g,cap,_,rfl,hbg,hh,hnc,hcm,?_,?_⟩⟩
  ·simp only[List.size_toArray,qP,qBo,qBx,qDr];omega
  rw[qAh,List.take_append_of_le_length (by rw[qBo,qDr];omega),qEf,Nat.min_self];exact htake
 have j1:∀j u,xs[j]? = some u->w.cell? ((⟨g,0,none⟩:Addr).add j)=some u:=hown.cells (g:=g) rfl;obtain⟨v',w',hr,h2,h3⟩:=run_append_arg_grows (P:=P) w t ty e i z size bytes ht hi hz hsize hby hzs hsz ⟨g,0,none⟩ n cap xs hown.1 j1 a m c news hl hnews (by omega) h63 hbytes;exact⟨v',w',hr,z0f h2 hbase,z7n h3 _,fun k hk=>.inr (h2.lt k hk).1,old w' h3,z0c hown (fun k hk=>h3.block k (hown.lt k hk).2 (by simp))⟩
theorem z2w{ops:Array Oper}{rest:List Oper}{o:Oper}{a:Act}{Q:Exit->Act->World->Prop}(hgd:o.guard=none)(s x:Operand)(t:TypeId)
  (ho:o.op=.call {callee:=.builtin .append,args:=#[s,x],argTypes:=#[t,t]}) (v xv:Value) (hs:a.eval s=v) (hx:a.eval x=xv) (v':Value) (w':World)
  (hr:(Builtin.append_ #[t,t] o.type #[v,xv]).run P w=.ok v' w') (h:wpList P ops Q rest (a.put o.dst v') w'):wpList P ops Q (o::rest) a w :=
 wpList_plain hgd fun _ hK=>by
  unfold Oper.wp execOp;simp only[ho,resolve,invoke,builtin,Sem.run_bind,Sem.run_pure,Result.andThen_ok,List.map_toArray,qCl,List.map_nil,hs,hx,hr];exact hK _ _ h
end
theorem y48{P:Program}{fn:Func}{p:Tmp}{ty:TypeId}(h:fn.results=#[.cell p ty])(tmps:Array Value)(w:World)(g:Nat)(t:TypeId)(cs:Array Value)(fr:Nat × Nat)(d:TypeDesc)
  (hp:tmps.getD p undef=.pointer (some ⟨g,0,none⟩)) (hg:w.heap[g]? = some (.cells cs t fr))
  (hu:P.underlying ty=some d) (hd:(match d with | .struct _ | .array _ _=>true|_=>false)=true) (hi:(P.info? ty).map (·.size)=some cs.size) :
  (results fn tmps).run P w=.ok (.agg cs) w:=by
 have j0:tmps[p]?.getD undef=.pointer (some ⟨g,0,none⟩):=by simpa using hp
 simp[results,h,j0,asAddr,run_loadVar_row w g t ty cs fr d hg hu hd hi]
abbrev Q3b(w:World)(v:Value)(n:Nat)(mk:Int):Prop:=Q0z w v (List.replicate n mk)
theorem Q3b.keep{w w':World}{v:Value}{n:Nat}{mk:Int}(h:Q3b w v n mk)(hk:∀b o,w.cell? ⟨b,o,none⟩=some (.int .i64 mk)->w'.cell? ⟨b,o,none⟩=some (.int .i64 mk)):Q3b w' v n mk:=by
 obtain⟨ao,cap,h1,h2,h3⟩:=h;refine⟨ao,cap,h1,h2,fun j hj=>?_⟩;obtain⟨g,o,h4,h5⟩:=h3 j hj;rw[List.getElem_replicate]at h5 ⊢;exact⟨g,o,h4,hk _ _ h5⟩
theorem Q3b.of{w:World}{base:Nat}{v:Value}{n:Nat}{mk:Int}(h:w.ownsRow base 3 1 v n (Q5w (List.replicate n mk))):Q3b w v n mk:=by
 have:IntOwn w base v (List.replicate n mk):=by unfold IntOwn;rw[List.length_replicate];exact h
 exact IntOwn.at' this
theorem Q0z.kept{w w':World}{v:Value}{l:List Int}(h:Q0z w v l)(hk:∀k,v.ownBlock=some k->k<w.heap.size->w'.heap[k]? = w.heap[k]?):Q0z w' v l:=by
 obtain⟨ao,cap,h1,h2,h3⟩:=h;refine⟨ao,cap,h1,h2,fun j hj=>?_⟩;obtain⟨g,o,h4,h5⟩:=h3 j hj;refine⟨g,o,h4,?_⟩;have hb:g<w.heap.size:=by
  rcases qBn g w.heap.size with h|h
  ·exact h
  simp[World.cell?,Array.getElem?_eq_none h]at h5
 rw[World.cell?_of_block (hk g (by rw[h1,h4];rfl) hb)];exact h5
theorem x3h{l:List Int}{i:Nat}{mk:Int}(hi:i<l.length):(List.replicate i mk++l.drop i).set i mk=List.replicate (i+1) mk++l.drop (i+1):=by
 rw[qCy _ _ (by simp),List.length_replicate,qCu,qC hi,qEn,List.replicate_succ',qAh];rfl
theorem y06(w:World)(va vb:Value)(l:List Int)(ha:Q0z w va l)(hb:Q0z w vb l)(hl:l.length<=1000000000000000) :
  Calls Tryz.prog 7 #[va,vb] w fun e w'=>e=.returned (.bool true)/\∃m,w'=w.drewN m:=by
 obtain⟨aa,ca,rfl,hca,cella⟩:=ha;obtain⟨ab,cb,rfl,hcb,cellb⟩:=hb;have CA:=hid cella;have CB:=hid cellb;clear cella cellb;go_enter Tryz.func7,Tryz.ntmps7
 go_wp2;go_loopw [5] (fun x5 wr=>∃(i m:Nat),x5=.int .i64 i/\wr=w.drewN m/\i<=l.length) (fun x _=>1000000000000001-(intOf x).toNat)
 case atStart=>exact⟨0,0,rfl,rfl,by omega⟩
 obtain⟨i,m,rfl,rfl,hi⟩:=hrel;have j0:=hid (Q15 (B:=1000000000000001) i (by omega));by_cases hlt:i<l.length
 ·have k1:(i:Int)<(l.length:Int):=by omega
  obtain⟨g,o,rfl,hc1⟩:=CA.out i hlt;obtain⟨g2,o2,rfl,hc2⟩:=CB.out i hlt;have u1:=Q0i (Q0r w m) hc1;have u2:=Q0i (Q0r w m) hc2;generalize l[i]=c at u1 u2;generalize hW:w.drewN m=wr at u1 u2 ⊢;have HW:=hid hW;clear hW hc1 hc2;go_wp2;go_quiet (fail);go_wp2;go_roundw
  case rel=>exact⟨i+1,m+nq,by go_num,by rw[← HW.out,World.drewN_drewN],by omega⟩
  exact j0.out
 have k1:¬(i:Int)<(l.length:Int):=by omega
 go_wp2;go_ret;exact⟨rfl,m,rfl⟩
theorem x2c(w:World)(v:Value)(n:Nat)(mk:Int)(h:Q3b w v n mk)(hn:n<=1000) :
  Calls Tryz.prog 18 #[v,.int .i64 mk] w fun e w'=>e=.returned (.bool true)/\w'=w:=by
 obtain⟨ao,cap,rfl,hc,cell⟩:=h;have CC:=hid cell;rw[List.length_replicate]at hc ⊢;have CD:Hid (∀j,j<n->∃g o,ao=some ⟨g,o,none⟩/\w.cell? ⟨g,o+j,none⟩=some (.int .i64 mk)):=hid (fun j hj=>by
  obtain⟨g,o,h1,h2⟩:=CC.out j (by rw[List.length_replicate];exact hj);rw[List.getElem_replicate]at h2;exact⟨g,o,h1,h2⟩)
 clear cell CC;go_enter Tryz.func18,Tryz.ntmps18
 go_wp2;go_loopw [5] (fun x5 wr=>∃(i:Nat),x5=.int .i64 i/\wr=w/\i<=n) (fun x _=>1001-(intOf x).toNat)
 case atStart=>exact⟨0,rfl,rfl,by omega⟩
 obtain⟨i,rfl,rfl,hi⟩:=hrel;have j0:=hid (Q15 (B:=1001) i (by omega));by_cases hlt:i<n
 ·have k1:(i:Int)<(n:Int):=by omega
  obtain⟨g,o,rfl,hc1⟩:=CD.out i hlt;go_wp2;go_roundw
  case rel=>exact⟨i+1,by go_num,by first|rfl|trivial,by omega⟩
  exact j0.out
 have k1:¬(i:Int)<(n:Int):=by omega
 go_wp2;go_ret;exact⟨rfl,rfl⟩
abbrev Q91(v v1 v2 v3:Value)(mk:Int):Array Value:=#[v,v1,v2,v3,.int .i64 mk]
theorem szOwn:(Tryz.prog.info? 35).map (·.size)=some 5:=by kernel_rfl
theorem x3w(a a1 a2 a3:Option Addr)(n n1 n2 n3 c c1 c2 c3:Nat)(mk:Int):(Q91 (.slice a n c) (.slice a1 n1 c1) (.slice a2 n2 c2) (.slice a3 n3 c3) mk).all (·.oneCell')=true :=
 all_oneCell_toArray (cs:=[.slice a n c,.slice a1 n1 c1,.slice a2 n2 c2,.slice a3 n3 c3,.int .i64 mk]) (by intro v hv;simp only[qBc,qCt,or_false]at hv;rcases hv with rfl|rfl|rfl|rfl|rfl<;>rfl)
theorem asz(W:World)(o:Obj):(W.alloc o).heap.size=W.heap.size+1:=by simp
def Q8f(v:Value)(w:World)(x:Value):Prop:=∀k,x.ownBlock=some k->v.ownBlock=some k∨w.heap.size<=k
structure Q88(w:World)(v v1 v2 v3:Value)(n:Nat)(mk:Int):Prop where
 m0:Q3b w v n mk
 m1:Q3b w v1 (n+1) mk
 m2:Q3b w v2 (n+2) mk
 m3:Q3b w v3 (n+6) mk
theorem Q88.kept{w w':World}{v v1 v2 v3:Value}{n:Nat}{mk:Int}(h:Q88 w v v1 v2 v3 n mk)(hk:∀x,x=v∨x=v1∨x=v2∨x=v3->∀k,x.ownBlock=some k->k<w.heap.size->w'.heap[k]? = w.heap[k]?):Q88 w' v v1 v2 v3 n mk :=
 ⟨h.m0.kept (hk _ (.inl rfl)),h.m1.kept (hk _ (.inr (.inl rfl))),h.m2.kept (hk _ (.inr (.inr (.inl rfl)))),h.m3.kept (hk _ (.inr (.inr (.inr rfl))))⟩
def OwnRet(w:World)(v:Value)(n:Nat)(mk:Int)(e:Ending)(w':World):Prop :=
 ∃a1 c1 a2 c2 a3 c3,e=.returned (.agg (Q91 v (.slice a1 (n+1) c1) (.slice a2 (n+2) c2) (.slice a3 (n+6) c3) mk))/\Q88 w' v (.slice a1 (n+1) c1) (.slice a2 (n+2) c2) (.slice a3 (n+6) c3) n mk/\Mod (fun k=>v.ownBlock=some k) w w' /\
  Q8f v w (.slice a1 (n+1) c1)/\Q8f v w (.slice a2 (n+2) c2)/\Q8f v w (.slice a3 (n+6) c3)
theorem y2b(n:Nat)(mk:Int)(m:Nat):Q5w (List.replicate n mk)++List.replicate m (.int .i64 mk)=Q5w (List.replicate (n+m) mk):=by
 rw[← List.replicate_append_replicate];simp[Q5w]
theorem v0c(w:World)(v:Value)(l:List Int)(mk:Int)(ho:IntOwn w 0 v l)(hl:l.length<=100) :
  Calls Tryz.prog 9 #[v,.int .i64 mk] w fun e w'=>OwnRet w v l.length mk e w':=by
 obtain⟨i1,hi1,hy0,hy1,hy2⟩:=Q6o;obtain⟨ao,cp,hv⟩:=z0d ho;subst hv;have HO:=hid ho;have j1:Hid (∀k,(Value.slice ao l.length cp).ownBlock=some k->k<w.heap.size):=hid (fun k hk=>(ho.lt k hk).2);clear ho;go_enter Tryz.func9,Tryz.ntmps9
 go_wp2;go_loopw [5] (fun x5 wr=>∃(i:Nat),x5=.int .i64 i/\i<=l.length/\wr.ownsRow 0 3 1 (.slice ao l.length cp) l.length (Q5w (List.replicate i mk++l.drop i))/\Mod (fun k=>(Value.slice ao l.length cp).ownBlock=some k) w wr/\w.heap.size<wr.heap.size/\wr.heap[w.heap.size]? = some (.cells (Q91 (.slice none 0 0) (.slice none 0 0) (.slice none 0 0) (.slice none 0 0) 0) 35 (0,0)))
   (fun x _=>1001-(intOf x).toNat)
 case atStart=>exact⟨0,rfl,by omega,HO.alloc _,(mRf _ w).alloc _,by simp,z0a _ _⟩
 obtain⟨i,rfl,hi,hown,hmod,hsz,hblk⟩:=hrel;have j9:=hid (Q15 (B:=1001) i (by omega));have je:=hid hown;have j8:=hid hmod;have j7:=hid hblk;by_cases hlt:i<l.length
 ·have k1:(i:Int)<(l.length:Int):=by omega
  obtain⟨g,cv,hv⟩:=Joins.ownsRow_form hown (by omega);rw[qI]at hv;obtain⟨rfl,_,rfl⟩:=hv;have j2:(List.replicate i mk++l.drop i).length=l.length:=by simp;omega
  have c1:∃c:Int,wr.cell? ⟨g,i,none⟩=some (.int .i64 c):=⟨_,z4l (l:=List.replicate i mk++l.drop i) (n:=l.length) (base:=0) (by unfold IntOwn;rw[j2];exact hown) i (by rw[j2];exact hlt)⟩;obtain⟨c,c1⟩:=c1;have c2:wr.frozen? ⟨g,i,none⟩=false:=by
   rcases hown.2 with⟨e,_⟩|⟨g',cap,cur,e,_,hg,_⟩
   ·simp at e
   rw[qI]at e;simp only[qO,Addr.mk.injEq]at e;obtain⟨⟨rfl,_,_⟩,_⟩:=e;exact Q0g hg i
  have jd:Hid ((wr.setCell ⟨g,i,none⟩ (.int .i64 mk)).ownsRow 0 3 1 (.slice (some ⟨g,0,none⟩) l.length cp) l.length (Q5w (List.replicate (i+1) mk++l.drop (i+1)))):=hid (by
   have:=z4p hown (g:=g) rfl i (.int .i64 mk) (by simp[Q5w];omega);have e:(Q5w (List.replicate i mk++l.drop i)).set i (.int .i64 mk)=Q5w (List.replicate (i+1) mk++l.drop (i+1)):=by
    rw[← x3h hlt];unfold Q5w;rw[qDy]
   rw[e]at this;exact this)
  have jh:=j1.out g rfl;have ja:Hid (Mod (fun k=>(Value.slice (some ⟨g,0,none⟩) l.length cp).ownBlock=some k) w (wr.setCell ⟨g,i,none⟩ (.int .i64 mk))):=hid (Mod.setCell hmod (p:=⟨g,i,none⟩) (fun _=>rfl) _);have jb:Hid ((wr.setCell ⟨g,i,none⟩ (.int .i64 mk)).heap[w.heap.size]? = some (.cells (Q91 (.slice none 0 0) (.slice none 0 0) (.slice none 0 0) (.slice none 0 0) 0) 35 (0,0))):=hid (by
   rw[Proofs.YtcpceafmlgaodaaGreat.heap_setCell_other _ (by simp;omega)];exact hblk)
  have jc:Hid (w.heap.size<(wr.setCell ⟨g,i,none⟩ (.int .i64 mk)).heap.size):=hid (by
   have:=(mRf (fun _=>True) wr).setCell (p:=⟨g,i,none⟩) (fun _=>trivial) (.int .i64 mk);have:=this.size;omega)
  clear hown hmod hblk j2;go_wp2;go_roundw
  case rel=>exact⟨i+1,by go_num,by omega,jd.out,ja.out,jc.out,jb.out⟩
  exact j9.out
 have k1:¬(i:Int)<(l.length:Int):=by omega
 have jf:i=l.length:=by omega
 subst jf;rw[qBw,qAt]at hown;have jg:maxLen=9223372036854775807:=rfl;obtain⟨v1,w6,r1,o6,g6,b6,k6,q6⟩:=z3n (P:=Tryz.prog) (wr.alloc (.cells #[.int .i64 mk] 3)) 0 22 22 3 i1 _ 1 8 Tryz.underlying22 hi1 hy0 hy1 hy2 rfl (by decide) (.slice ao l.length cp) l.length _ (hown.alloc _) ⟨wr.heap.size,0,none⟩ 1 1 [.int .i64 mk] rfl (z0l rfl) (by intro u hu;simp at hu;subst hu;rfl) (by omega) (by omega) (by omega) (.int .i64 mk) (by simp);obtain⟨v2,w7,r2,o7,g7,b7,k7,q7⟩:=z3n (P:=Tryz.prog) (w6.alloc (.cells #[.int .i64 mk,.int .i64 mk] 3)) 0 22 22 3 i1 _ 1 8 Tryz.underlying22 hi1 hy0 hy1 hy2 rfl (by decide) (.slice ao l.length cp) l.length _ (q6.alloc _) ⟨w6.heap.size,0,none⟩ 2 2 [.int .i64 mk,.int .i64 mk] rfl (z0l rfl) (by intro u hu;simp at hu;subst hu;rfl) (by omega) (by omega) (by omega) (.int .i64 mk) (by simp);obtain⟨v3,w8,r3,o8,g8,b8,k8,q8⟩:=z3n (P:=Tryz.prog) (w7.alloc (.cells #[.int .i64 mk,.int .i64 mk,.int .i64 mk,.int .i64 mk,.int .i64 mk,.int .i64 mk] 3)) 0 22 22 3 i1 _ 1 8 Tryz.underlying22 hi1 hy0 hy1 hy2 rfl (by decide) (.slice ao l.length cp) l.length _ (q7.alloc _) ⟨w7.heap.size,0,none⟩ 6 6 [.int .i64 mk,.int .i64 mk,.int .i64 mk,.int .i64 mk,.int .i64 mk,.int .i64 mk] rfl (z0l rfl) (by intro u hu;simp at hu;subst hu;rfl) (by omega) (by omega) (by omega) (.int .i64 mk) (by simp);obtain⟨a1,c1,hv1⟩:=z0d o6;obtain⟨a2,c2,hv2⟩:=z0d o7;obtain⟨a3,c3,hv3⟩:=z0d o8;subst hv1 hv2 hv3;have al:∀(W:World) (o:Obj) (b oo:Nat) (x:Value),W.cell? ⟨b,oo,none⟩=some x->(W.alloc o).cell? ⟨b,oo,none⟩=some x:=fun W o b oo x h=>Q0i ((mRf (fun _=>False) W).alloc o) h;have M0:Q3b w8 (.slice ao l.length cp) l.length mk:=Q3b.of q8;have M1:Q3b w8 (.slice a1 (l.length+1) c1) (l.length+1) mk:=by
  have e:=y2b l.length mk 1;rw[show List.replicate 1 (Value.int .i64 mk)=[.int .i64 mk] from rfl]at e;rw[e]at o6;exact((Q3b.of o6).keep (fun b o h=>k7 b o (al _ _ _ _ _ h))).keep (fun b o h=>k8 b o (al _ _ _ _ _ h))
 have M2:Q3b w8 (.slice a2 (l.length+2) c2) (l.length+2) mk:=by
  have e:=y2b l.length mk 2;rw[show List.replicate 2 (Value.int .i64 mk)=[.int .i64 mk,.int .i64 mk] from rfl]at e;rw[e]at o7;exact(Q3b.of o7).keep (fun b o h=>k8 b o (al _ _ _ _ _ h))
 have M3:Q3b w8 (.slice a3 (l.length+6) c3) (l.length+6) mk:=by
  have e:=y2b l.length mk 6;rw[show List.replicate 6 (Value.int .i64 mk)=[.int .i64 mk,.int .i64 mk,.int .i64 mk,.int .i64 mk,.int .i64 mk,.int .i64 mk] from rfl]at e;rw[e]at o8;exact Q3b.of o8
 have z1:=g6.size;have z2:=g7.size;have z3:=g8.size;rw[asz]at z1 z2 z3;have j4:Mod (fun k=>(Value.slice ao l.length cp).ownBlock=some k) w w8:=Mod.grown ((Mod.grown ((Mod.grown (hmod.alloc _) g6 (fun k hk _=>hk)).alloc _) g7 (fun k hk _=>hk)).alloc _) g8 (fun k hk _=>hk);have j0:¬(Value.slice ao l.length cp).ownBlock=some w.heap.size:=fun e=>by have:=j1.out _ e;omega
 have j3:Mod (fun k=>(Value.slice ao l.length cp).ownBlock=some k) wr w8:=Mod.grown ((Mod.grown ((Mod.grown ((mRf _ wr).alloc _) g6 (fun k hk _=>hk)).alloc _) g7 (fun k hk _=>hk)).alloc _) g8 (fun k hk _=>hk);have j5:=hid (j3.at hblk j0);have B1:Q8f (.slice ao l.length cp) w (.slice a1 (l.length+1) c1):=fun k hk=>(b6 k hk).imp id (fun h=>by rw[asz]at h;omega);have B2:Q8f (.slice ao l.length cp) w (.slice a2 (l.length+2) c2):=fun k hk=>(b7 k hk).imp id (fun h=>by rw[asz]at h;omega);have B3:Q8f (.slice ao l.length cp) w (.slice a3 (l.length+6) c3):=fun k hk=>(b8 k hk).imp id (fun h=>by rw[asz]at h;omega);have N1:¬(Value.slice a1 (l.length+1) c1).ownBlock=some w.heap.size:=fun e=>by
  rcases b6 _ e with h|h
  ·exact j0 h
  rw[asz]at h;omega
 have N2:¬(Value.slice a2 (l.length+2) c2).ownBlock=some w.heap.size:=fun e=>by
  rcases b7 _ e with h|h
  ·exact j0 h
  rw[asz]at h;omega
 have N3:¬(Value.slice a3 (l.length+6) c3).ownBlock=some w.heap.size:=fun e=>by
  rcases b8 _ e with h|h
  ·exact j0 h
  rw[asz]at h;omega
 have j6:Hid (Q88 (w8.setRow w.heap.size (Q91 (.slice ao l.length cp) (.slice a1 (l.length+1) c1) (.slice a2 (l.length+2) c2) (.slice a3 (l.length+6) c3) mk)) (.slice ao l.length cp) (.slice a1 (l.length+1) c1) (.slice a2 (l.length+2) c2) (.slice a3 (l.length+6) c3) l.length mk/\Mod (fun k=>(Value.slice ao l.length cp).ownBlock=some k) w (w8.setRow w.heap.size (Q91 (.slice ao l.length cp) (.slice a1 (l.length+1) c1) (.slice a2 (l.length+2) c2) (.slice a3 (l.length+6) c3) mk))/\Q8f (.slice ao l.length cp) w (.slice a1 (l.length+1) c1)/\Q8f (.slice ao l.length cp) w (.slice a2 (l.length+2) c2)/\Q8f (.slice ao l.length cp) w (.slice a3 (l.length+6) c3)):=hid ⟨Q88.kept ⟨M0,M1,M2,M3⟩ (fun x hx k hk _=>setRow_other _ _ _ _ (by
   intro e;subst e;rcases hx with rfl|rfl|rfl|rfl
   ·exact j0 hk
   ·exact N1 hk
   ·exact N2 hk
   exact N3 hk)),j4.setRow (fun h=>absurd h (qBk _)) _,B1,B2,B3⟩
 have R1:=hid r1;have R2:=hid r2;have R3:=hid r3;clear o6 g6 b6 k6 q6 o7 g7 b7 k7 q7 o8 g8 b8 k8 q8 M0 M1 M2 M3 B1 B2 B3 N1 N2 N3 j4 j3 z1 z2 z3 al hown hmod hblk r1 r2 r3 j0 je j8 j7;go_wp2_with (first
  |(at_builtin;refine z2w _ rfl _ _ 22 rfl _ _ rfl rfl _ _ R1.out ?_;clear R1)
  |(at_builtin;refine z2w _ rfl _ _ 22 rfl _ _ rfl rfl _ _ R2.out ?_;clear R2)
  |(at_builtin;refine z2w _ rfl _ _ 22 rfl _ _ rfl rfl _ _ R3.out ?_;clear R3)
  |(refine wpList_store_row rfl 35 _ _ rfl w.heap.size (Q91 (.slice ao l.length cp) (.slice a1 (l.length+1) c1) (.slice a2 (l.length+2) c2) (.slice a3 (l.length+6) c3) mk) rfl rfl _ _ j5.out szOwn rfl (x3w _ _ _ _ _ _ _ _ _ _ _ _ _) ?_))
 refine bodyPost_ret (y48 rfl _ _ w.heap.size 35 (Q91 (.slice ao l.length cp) (.slice a1 (l.length+1) c1) (.slice a2 (l.length+2) c2) (.slice a3 (l.length+6) c3) mk) (0,0) _ rfl (setRow_heap _ _ _ _ _ _ j5.out) Tryz.underlying35 rfl szOwn) rfl ?_;exact⟨a1,c1,a2,c2,a3,c3,rfl,j6.out⟩
theorem y9x(w:World)(ao a1 a2 a3:Option Addr)(n cp c1 c2 c3:Nat)(mk:Int)(h:Q88 w (.slice ao n cp) (.slice a1 (n+1) c1) (.slice a2 (n+2) c2) (.slice a3 (n+6) c3) n mk)(hn:n<=100) :
  Calls Tryz.prog 10 #[.agg (Q91 (.slice ao n cp) (.slice a1 (n+1) c1) (.slice a2 (n+2) c2) (.slice a3 (n+6) c3) mk)] w fun e w'=>e=.returned (.bool true)/\Q0a w w':=by
 have FU:=hid (fun(W:World) (v:Value) (k:Nat) (hm:Q3b W v k mk) (hk:k<=1000)=>x2c W v k mk hm hk);have hf:∀o:Obj,Q0a w (w.alloc o):=fun o=>(mRf _ w).alloc o;have F0:=hid (fun o=>FU.out (w.alloc o) _ n (h.m0.fresh (hf o)) (by omega));have F1:=hid (fun o=>FU.out (w.alloc o) _ (n+1) (h.m1.fresh (hf o)) (by omega));have F2:=hid (fun o=>FU.out (w.alloc o) _ (n+2) (h.m2.fresh (hf o)) (by omega));have F3:=hid (fun o=>FU.out (w.alloc o) _ (n+6) (h.m3.fresh (hf o)) (by omega));clear h hf FU;generalize n+1=n1 at F1 ⊢;generalize n+2=n2 at F2 ⊢;generalize n+6=n6 at F3 ⊢;go_enter Tryz.func10,Tryz.ntmps10
 go_wp2_with (first
  |(go_at_call 18;refine(F0.out _).mono ?_;rintro e w'⟨rfl,hw⟩;rw[hw];clear hw F0)
  |(go_at_call 18;refine(F1.out _).mono ?_;rintro e w'⟨rfl,hw⟩;rw[hw];clear hw F1)
  |(go_at_call 18;refine(F2.out _).mono ?_;rintro e w'⟨rfl,hw⟩;rw[hw];clear hw F2)
  |(go_at_call 18;refine(F3.out _).mono ?_;rintro e w'⟨rfl,hw⟩;rw[hw];clear hw F3))
 go_ret;exact⟨z0s (by simp),(mRf _ w).alloc _⟩
end Go.Proofs.YtcpceafmlgaodaaGreat
