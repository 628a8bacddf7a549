import Derived.Test.YtcpceafmlgaodaaGreatSeb0
namespace Go.Proofs.YtcpceafmlgaodaaGreat
open Go.RowKit
set_option maxRecDepth 99999
set_option maxHeartbeats 0
set_option linter.all false
theorem y6i(w:World)(b:Nat)(R H:Int)(vp vh:Value)(ps:List PV)(hs:List Hd)(h:FA w b R H vp vh ps hs)(hps:ps.length<=1000) :
  Calls Tryz.prog 83 #[Q25 b] w fun e w'=>e=.returned (.tuple #[])/\FA w' b R H vp vh ps (Q3w (Q0j ps) hs)/\Mod (Q18 vh) w w':=by
 have jk:=hid h;generalize hR1:Q40 (Q75 (Q0j ps)) hs=R1;have jl:Hid (Q3k (Q75 (Q0j ps)) R1 true hs):=by unfold Hid;rw[← hR1];exact Q3k.start _ _
 generalize hR2:Q40 (Q5f (Q0j ps)) R1=R2;have jm:Hid (Q3k (Q5f (Q0j ps)) R2 true R1):=by unfold Hid;rw[← hR2];exact Q3k.start _ _
 generalize hR3:Q40 (Q6t (Q0j ps)) R2=R3;have jn:Hid (Q3k (Q6t (Q0j ps)) R3 true R2):=by unfold Hid;rw[← hR3];exact Q3k.start _ _
 generalize hR4:Q40 (Q7q (Q0j ps)) R3=R4;have jo:Hid (Q3k (Q7q (Q0j ps)) R4 true R3):=by unfold Hid;rw[← hR4];exact Q3k.start _ _
 have ji:Hid (Q3w (Q0j ps) hs=R4):=by unfold Hid Q3w;rw[hR1,hR2,hR3,hR4]
 clear hR1 hR2 hR3 hR4 h;have GB:=hid (fun w hs (h:FA w b R H vp vh ps hs)=>x2h w b R H vp vh ps hs h hps);have GS:=hid (fun w hs (h:FA w b R H vp vh ps hs)=>x2l w b R H vp vh ps hs h hps);have GR:=hid (fun w hs (h:FA w b R H vp vh ps hs)=>x2k w b R H vp vh ps hs h hps);have GU:=hid (fun w hs (h:FA w b R H vp vh ps hs)=>x2j w b R H vp vh ps hs h hps);go_enter Tryz.func83,Tryz.ntmps83
 go_wp2;go_loopw [2] (fun x2 wr=>∃(g:Bool) (hs':List Hd),x2=.bool g/\FA wr b R H vp vh ps hs'/\hs'.length=hs.length/\Q3k (Q75 (Q0j ps)) R1 g hs'/\Mod (Q18 vh) w wr)
   (fun x wr=>2*muW vh hs.length wr+Q7z x)
 case atStart=>exact⟨true,hs,rfl,jk.out,rfl,jl.out,mRf _ w⟩
 obtain⟨g,hs',rfl,hF,hlen,hloop,hmod⟩:=hrel;have HF:=hid hF;have jj:=hid hloop;have jh:=hid hmod;have j4:=hid hlen;clear hF hloop hmod hlen;cases g
 ·have e1:hs'=R1:=jj.out;subst e1;obtain⟨wo,hwo⟩:∃wo,wo=wr:=⟨_,rfl⟩;subst hwo;go_wp2;go_loopw [2] (fun x2 wr=>∃(g:Bool) (hs2:List Hd),x2=.bool g/\FA wr b R H vp vh ps hs2/\hs2.length=hs.length/\Q3k (Q5f (Q0j ps)) R2 g hs2/\Mod (Q18 vh) w wr)
    (fun x wr=>2*muW vh hs.length wr+Q7z x)
  case atStart=>exact⟨true,hs',rfl,HF.out,j4.out,jm.out,jh.out⟩
  obtain⟨g,hs2,rfl,hF,hlen,hloop,hmod⟩:=hrel;have jb:=hid hF;have je:=hid hloop;have j5:=hid hmod;have j0:=hid hlen;clear hF hloop hmod hlen;cases g
  ·have e1:hs2=R2:=je.out;subst e1;obtain⟨wo2,hwo⟩:∃wo,wo=wr:=⟨_,rfl⟩;subst hwo;go_wp2;go_loopw [2] (fun x2 wr=>∃(g:Bool) (hs3:List Hd),x2=.bool g/\FA wr b R H vp vh ps hs3/\hs3.length=hs.length/\Q3k (Q6t (Q0j ps)) R3 g hs3/\Mod (Q18 vh) w wr)
     (fun x wr=>2*muW vh hs.length wr+Q7z x)
   case atStart=>exact⟨true,hs2,rfl,jb.out,j0.out,jn.out,j5.out⟩
   obtain⟨g,hs3,rfl,hF,hlen,hloop,hmod⟩:=hrel;have jc:=hid hF;have jf:=hid hloop;have j6:=hid hmod;have j1:=hid hlen;clear hF hloop hmod hlen;cases g
   ·have e1:hs3=R3:=jf.out;subst e1;obtain⟨wo3,hwo⟩:∃wo,wo=wr:=⟨_,rfl⟩;subst hwo;go_wp2;go_loopw [2] (fun x2 wr=>∃(g:Bool) (hs4:List Hd),x2=.bool g/\FA wr b R H vp vh ps hs4/\hs4.length=hs.length/\Q3k (Q7q (Q0j ps)) R4 g hs4/\Mod (Q18 vh) w wr)
      (fun x wr=>2*muW vh hs.length wr+Q7z x)
    case atStart=>exact⟨true,hs3,rfl,jc.out,j1.out,jo.out,j6.out⟩
    obtain⟨g,hs4,rfl,hF,hlen,hloop,hmod⟩:=hrel;have jd:=hid hF;have jg:=hid hloop;have j7:=hid hmod;have j2:=hid hlen;clear hF hloop hmod hlen;cases g
    ·have e1:hs4=R4:=jg.out;subst e1;go_wp2;refine bodyPost_end (results_none rfl _ _ _) rfl ⟨rfl,?_,j7.out⟩;rw[ji.out];exact jd.out
    go_wp2_with (first
     |(go_at_call 113;refine(GU.out _ hs4 jd.out).mono ?_;rintro e w1⟨rfl,hF1,hm1⟩))
    have j3:=z2c (Q0j ps) hs4 jd.ok;have j9:=jd.mu' j2.out;have ja:=hF1.mu' (j3.len.trans j2.out);have j8:=Q3k.less (z2c (Q0j ps)) jd.ok;go_roundw
    case rel=>exact⟨_,_,rfl,hF1,j3.len.trans j2.out,Q3k.next (z2c _) jd.ok jg.out,Mod.trans j7.out hm1⟩
    rw[j9,ja];exact j8
   go_wp2_with (first
    |(go_at_call 112;refine(GR.out _ hs3 jc.out).mono ?_;rintro e w1⟨rfl,hF1,hm1⟩))
   have j3:=z2a (Q0j ps) hs3 jc.ok;have j9:=jc.mu' j1.out;have ja:=hF1.mu' (j3.len.trans j1.out);have j8:=Q3k.less (z2a (Q0j ps)) jc.ok;go_roundw
   case rel=>exact⟨_,_,rfl,hF1,j3.len.trans j1.out,Q3k.next (z2a _) jc.ok jf.out,Mod.trans j6.out hm1⟩
   rw[j9,ja];exact j8
  go_wp2_with (first
   |(go_at_call 111;refine(GS.out _ hs2 jb.out).mono ?_;rintro e w1⟨rfl,hF1,hm1⟩))
  have j3:=z2b (Q0j ps) hs2 jb.ok;have j9:=jb.mu' j0.out;have ja:=hF1.mu' (j3.len.trans j0.out);have j8:=Q3k.less (z2b (Q0j ps)) jb.ok;go_roundw
  case rel=>exact⟨_,_,rfl,hF1,j3.len.trans j0.out,Q3k.next (z2b _) jb.ok je.out,Mod.trans j5.out hm1⟩
  rw[j9,ja];exact j8
 go_wp2_with (first
  |(go_at_call 110;refine(GB.out _ hs' HF.out).mono ?_;rintro e w1⟨rfl,hF1,hm1⟩))
 have j3:=z2v (Q0j ps) hs' HF.ok;have j9:=HF.mu' j4.out;have ja:=hF1.mu' (j3.len.trans j4.out);have j8:=Q3k.less (z2v (Q0j ps)) HF.ok;go_roundw
 case rel=>exact⟨_,_,rfl,hF1,j3.len.trans j4.out,Q3k.next (z2v _) HF.ok jj.out,Mod.trans jh.out hm1⟩
 rw[j9,ja];exact j8
abbrev Q7t(r:Wd × Int × Bool):Value:=.tuple #[.agg r.1.cells.toArray,.int .i64 r.2.1,.bool r.2.2]
theorem x8x(p:Int)(ls:List Int)(n:Nat)(c:Int):(Wd.cells ⟨p,ls⟩).toArray.setIfInBounds (n+1) (.int .u8 c)=(Wd.cells ⟨p,ls.set n c⟩).toArray:=by
 simp[Wd.cells,qDy]
theorem v2j(p:Int)(ls:List Int)(n:Nat)(h:n<ls.length):(Wd.cells ⟨p,ls⟩).toArray[n+1]? = some (.int .u8 (ls.getD n 0)):=by
 simp[Wd.cells,h]
theorem y2r{c:Int}(h:Q0l c=true):97<=c/\c<=122:=by simp[Q0l]at h;omega
theorem x1j{c:Int}(h:Q1a c=true):65<=c/\c<=90:=by simp[Q1a]at h;omega
theorem y64(s:ByteArray)(i:Int)(w:World)(hs:s.size<=1000)(h0:0<=i)(h1:i<=2000)(hc:(!Q0l (atB s i)&&!Q1a (atB s i))=true) :
  Calls Tryz.prog 98 #[.string s,.int .i64 i] w fun e w'=>e=.returned (Q7t (Q06 s i))/\Q0a w w':=by
 have e1:Q06 s i=(⟨0,zero8⟩,i,false):=by unfold Q06;rw[qAb hc]
 rw[e1];simp only[qAc,Bool.not_eq_true']at hc;obtain⟨c1,c2⟩:=hc;clear e1;go_enter Tryz.func98,Tryz.ntmps98
 go_wp2_with (first
  |(go_at_call 107;refine csm (z0v _ _ _ (by unfold maxLen;omega)) ?_)
  |(go_at_call 117;refine(z3j _ _).mono ?_;rw[c1];rintro e w'⟨rfl,hw⟩;rw[hw];clear hw)
  |(go_at_call 109;refine(z6a _ _).mono ?_;rw[c2];rintro e w'⟨rfl,hw⟩;rw[hw];clear hw))
 refine bodyPost_ret (z0h rfl _ _ w.heap.size 111 (Wd.cells ⟨0,zero8⟩).toArray (0,0) _ rfl ?_ Tryz.underlying111 rfl Q2o) rfl ⟨rfl,?_⟩
 ·exact heap_alloc2_old _ _ _
 exact((mRf _ w).alloc _).alloc _
theorem y46(s:ByteArray)(i:Int)(w:World)(hs:s.size<=1000)(h0:0<=i)(h1:i<=2000)(hc:(!Q0l (atB s i)&&!Q1a (atB s i))=false) :
  Calls Tryz.prog 98 #[.string s,.int .i64 i] w fun e w'=>e=.returned (Q7t (Q06 s i))/\Q0a w w':=by
 have e1:Q06 s i=(⟨i,(Q2h s i 9 1 (zero8.set 0 (atB s i))).1⟩,(Q2h s i 9 1 (zero8.set 0 (atB s i))).2,true):=by unfold Q06;rw[qAa (by simp[hc])]
 rw[e1];have j0:=z64 s i 9 1 (zero8.set 0 (atB s i)) rfl;generalize hR:Q2h s i 9 1 (zero8.set 0 (atB s i))=R at j0;have HR:=hid hR;have j4:=hid j0;have j8:0<=atB s i/\atB s i<=255:=by
  have:=z8f s i;refine⟨?_,by omega⟩;simp only[Bool.and_eq_false_iff,Bool.not_eq_false']at hc;rcases hc with h|h
  ·have:=y2r h;omega
  have:=x1j h;omega
 obtain⟨cb0,cb1⟩:=j8;have j7:Q0l (atB s i)=true∨Q0l (atB s i)=false/\Q1a (atB s i)=true:=by
  simp only[Bool.and_eq_false_iff,Bool.not_eq_false']at hc;cases h:Q0l (atB s i)
  ·right;rcases hc with h2|h2
   ·rw[h]at h2;cases h2
   exact⟨rfl,h2⟩
  exact .inl rfl
 clear e1 hR hc j0;rcases j7 with c1|⟨c1,c2⟩;all_goals
  go_enter Tryz.func98,Tryz.ntmps98
  go_wp2_with (first
   |(go_at_call 107;refine csm (z0v _ _ _ (by unfold maxLen;omega)) ?_)
   |(go_at_call 117;refine(z3j _ _).mono ?_;rw[c1];rintro e w'⟨rfl,hw⟩;rw[hw];clear hw)
   |(go_at_call 109;refine(z6a _ _).mono ?_;rw[c2];rintro e w'⟨rfl,hw⟩;rw[hw];clear hw))
  go_loopw [8,9] (fun x8 x9 wr=>∃(f n:Nat) (ls:List Int) (c:Int),x8=.int .i64 c/\x9=.int .i64 n/\Q2h s i f n ls=R/\ls.length=8/\n<=8/\10<=f+n /\
    wr.heap[w.heap.size]? = some (.cells (Wd.cells ⟨0,zero8⟩).toArray 111 (0,0))/\wr.heap[w.heap.size+1]? = some (.cells (Wd.cells ⟨i,ls⟩).toArray 111 (0,0))/\Q0a w wr)
    (fun _ x _=>9-(intOf x).toNat)
  case atStart =>
   refine⟨9,1,zero8.set 0 (atB s i),_,rfl,rfl,HR.out,rfl,by omega,by omega,heap_alloc2_old _ _ _,?_,((mRf _ w).alloc _).alloc _⟩;exact heap_alloc2_new _ _ _
  obtain⟨f,n,ls,c,rfl,rfl,hR,hl,hn8,hfu,hb0,hb1,hfr⟩:=hrel;obtain⟨f,rfl⟩:∃g,f=g+1:=⟨f-1,by omega⟩;unfold Q2h at hR;have j5:=hid (Q15 (B:=9) n (by omega));have j1:=hid hb0;have j2:=hid hb1;have HL:=hid hl;have j6:=z8f s (i+n);obtain⟨hab0,hab1⟩:=j6;clear hb0 hb1 hl;by_cases h8:n<8
  ·rw[qAb h8]at hR;cases hsm:Q0l (atB s (i+n))
   ·rw[hsm]at hR;simp only[qF,qAp]at hR;have j3:=hid hR;clear hR;go_wp2_with (first
     |(go_at_call 107;refine csm (z0v _ _ _ (by unfold maxLen;omega)) ?_)
     |(go_at_call 117;refine(z3j _ _).mono ?_;rw[hsm];rintro e w'⟨rfl,hw⟩;rw[hw];clear hw)
     |(refine wpList_load_row rfl 111 _ rfl (w.heap.size+1) rfl _ _ _ _ j2.out Tryz.underlying111 rfl (Q1u HL.out) ?_)
     |(refine wpList_store_row rfl 111 _ _ rfl w.heap.size _ rfl rfl _ _ j1.out (Q1u HL.out) (Q0k rfl (Wd.size HL.out)) (Wd.one _) ?_))
    refine bodyPost_ret (z0h rfl _ _ w.heap.size 111 _ (0,0) _ rfl (setRow_heap _ _ _ _ _ _ j1.out) Tryz.underlying111 rfl (Q1u HL.out)) rfl ⟨?_,hfr.setRow (by simp) _⟩;rw[← j3.out];rfl
   rw[hsm]at hR;simp only[qBb]at hR;have j3:=hid hR;have j9:=y2r hsm;have k1:wr.cell? ⟨w.heap.size+1,n+1,none⟩=some (.int .u8 (ls.getD n 0)):=by rw[Q0b j2.out,v2j _ _ _ (by rw[HL.out];omega)]
   have ja:wr.cell? ⟨w.heap.size+1,1+n,none⟩=some (.int .u8 (ls.getD n 0)):=by rw[Nat.add_comm 1 n];exact k1
   have k2:=Q0g j2.out;clear hR;go_wp2_with (first
    |(go_at_call 107;refine csm (z0v _ _ _ (by unfold maxLen;omega)) ?_)
    |(go_at_call 117;refine(z3j _ _).mono ?_;rw[hsm];rintro e w'⟨rfl,hw⟩;rw[hw];clear hw))
   go_roundw
   case rel =>
    refine⟨f,n+1,_,_,rfl,by go_num,j3.out,by simpa using HL.out,by omega,by omega,?_,?_,hfr.setCell (by simp) _⟩
    ·exact z0i j1.out (by simp)
    rw[zhs j2.out];first
     |rw[x8x]
     |rw[Nat.add_comm 1 n,x8x]
   exact j5.out
  rw[qAa h8]at hR;have hn:n=8:=by omega
  subst hn;have j3:=hid hR;clear hR;go_wp2_with (first
   |(refine wpList_load_row rfl 111 _ rfl (w.heap.size+1) rfl _ _ _ _ j2.out Tryz.underlying111 rfl (Q1u HL.out) ?_)
   |(refine wpList_store_row rfl 111 _ _ rfl w.heap.size _ rfl rfl _ _ j1.out (Q1u HL.out) (Q0k rfl (Wd.size HL.out)) (Wd.one _) ?_))
  refine bodyPost_ret (z0h rfl _ _ w.heap.size 111 _ (0,0) _ rfl (setRow_heap _ _ _ _ _ _ j1.out) Tryz.underlying111 rfl (Q1u HL.out)) rfl ⟨?_,hfr.setRow (by simp) _⟩;rw[← j3.out];rfl
theorem z7t(s:ByteArray)(i:Int)(w:World)(hs:s.size<=1000)(h0:0<=i)(h1:i<=2000) :
  Calls Tryz.prog 98 #[.string s,.int .i64 i] w fun e w'=>e=.returned (Q7t (Q06 s i))/\Q0a w w':=by
 cases hc:(!Q0l (atB s i)&&!Q1a (atB s i))
 ·exact y46 s i w hs h0 h1 hc
 exact y64 s i w hs h0 h1 hc
structure Ln where
 front:Wd
 skip:Bool
 ns:List Q0o
 st:Int
 en:Int
 syms:List Wd
structure LV where
 ln:Ln
 vn:Value
 vs:Value
def LV.cells(x:LV):List Value:=x.ln.front.cells++[.bool x.ln.skip,x.vn,.int .i64 x.ln.st,.int .i64 x.ln.en,x.vs]
def Q4c:Ln:=⟨⟨0,zero8⟩,false,[],0,0,[]⟩
abbrev Q3u:=Q2e Wd.cells 9 111
structure LV.At(w:World)(x:LV):Prop where
 nodes:Q12 w x.vn x.ln.ns
 syms:Q3u w x.vs x.ln.syms
 front:x.ln.front.ls.length=8
 small:x.ln.ns.length<=5000
theorem z6j{w:World}{base size n:Nat}{e:TypeId}{v:Value}{xs:List Value}(h:w.ownsRow base e size v n xs):v.oneCell'=true:=by
 obtain⟨a,c,rfl⟩:=z0d h;rfl
theorem LV.cells_len{x:LV}(h:x.ln.front.ls.length=8):x.cells.length=14:=by simp[LV.cells,Wd.cells,h]
theorem LV.At.one{w:World}{x:LV}(h:x.At w):x.cells.toArray.all (·.oneCell')=true:=by
 apply all_oneCell_toArray;have h1:=z6j h.nodes.own;have h2:=z6j h.syms.own;intro v hv;simp[LV.cells,Wd.cells]at hv;rcases hv with rfl|⟨a,_,rfl⟩|rfl|rfl|rfl|rfl|rfl
 ·rfl
 ·rfl
 ·rfl
 ·exact h1
 ·rfl
 ·rfl
 exact h2
theorem LV.At.fresh{w w':World}{x:LV}(h:x.At w)(hm:Q0a w w'):x.At w':=⟨h.nodes.fresh hm,h.syms.fresh hm,h.front,h.small⟩
theorem Q1j:(Tryz.prog.info? 116).map (·.size)=some 14:=by kernel_rfl
theorem Q09{x:LV}(h:x.ln.front.ls.length=8):(Tryz.prog.info? 116).map (·.size)=some x.cells.toArray.size:=by rw[List.size_toArray,LV.cells_len h];exact Q1j
theorem LV.size{x:LV}(h:x.ln.front.ls.length=8):x.cells.toArray.size=14:=by rw[List.size_toArray,LV.cells_len h]
def zeroLV:LV:=⟨Q4c,.slice none 0 0,.slice none 0 0⟩
theorem z4c(w:World):zeroLV.At w:=⟨⟨World.ownsRow_nil _ _ _ _,fun _ h=>by cases h⟩,Q2e.nil _ _ _ _,rfl,by simp[zeroLV,Q4c]⟩
theorem Q59{ls:List Int}(h:ls.length=8):∃a b c d e f g k,ls=[a,b,c,d,e,f,g,k]:=by
 match ls,h with
 | [a,b,c,d,e,f,g,k],_=>exact⟨a,b,c,d,e,f,g,k,rfl⟩
def Q14(d:Wd):Bool:=Q1a (d.ls.getD 0 0)
theorem z5g(d:Wd)(w:World)(hl:d.ls.length=8)(hb:0<=d.ls.getD 0 0/\d.ls.getD 0 0<=255) :
  Calls Tryz.prog 82 #[.agg d.cells.toArray] w fun e w'=>e=.returned (.bool (Q14 d))/\Q0a w w':=by
 obtain⟨p,ls⟩:=d;obtain⟨a,b,c,d,e,f,g,k,rfl⟩:=Q59 hl;have e1:(Wd.cells ⟨p,[a,b,c,d,e,f,g,k]⟩).toArray=#[.int .i64 p,.int .u8 a,.int .u8 b,.int .u8 c,.int .u8 d,.int .u8 e,.int .u8 f,.int .u8 g,.int .u8 k]:=rfl;have e2:Q14 ⟨p,[a,b,c,d,e,f,g,k]⟩=Q1a a:=rfl;rw[e1,e2];simp at hb;obtain⟨hb0,hb1⟩:=hb;clear e1 e2 hl;go_enter Tryz.func82,Tryz.ntmps82
 go_wp2_with (go_at_call 109;refine csm (z6a _ _) ?_)
 go_ret;exact⟨rfl,(mRf _ _).alloc _⟩
theorem z2p(x:LV)(w:World)(hl:x.ln.front.ls.length=8)(hb:0<=x.ln.front.ls.getD 0 0/\x.ln.front.ls.getD 0 0<=255) :
  Calls Tryz.prog 48 #[.agg x.cells.toArray] w fun e w'=>e=.returned (.bool (!Q14 x.ln.front))/\Q0a w w':=by
 have RG:Hid ((w.alloc (.cells x.cells.toArray 116)).rangeAt w.heap.size 0 x.ln.front.cells):=by
  intro j v hj;rw[Q0b (z0a _ _)];simp only[LV.cells,qBi,qCb];rw[qAe (qS hj).1];exact hj
 go_enter Tryz.func48,Tryz.ntmps48
 go_wp2_with (first
  |(go_at_call 82;refine(z5g _ _ hl hb).mono ?_;rintro e w1⟨rfl,hf⟩)
  |(refine wpList_load_mid rfl 111 _ rfl w.heap.size 0 rfl x.ln.front.cells _ RG.out Tryz.underlying111 rfl (by rw[Wd.cells_len hl];exact Q2o) ?_))
 go_ret;exact⟨rfl,((mRf _ w).alloc _).trans hf⟩
def Q6f(s:ByteArray)(i:Int)(d:Wd):Ln × Int × Bool :=
 if atB s i≠61/\atB s i≠126 then(Q4c,i,false)
 else if(Q1o s (i+1)).ok=false then(Q4c,(Q1o s (i+1)).next,false)
 else if atB s (Q1o s (i+1)).next≠10 then(Q4c,(Q1o s (i+1)).next,false)
 else(⟨d,atB s i==126,(Q1o s (i+1)).ns,(Q1o s (i+1)).st,(Q1o s (i+1)).en,[]⟩,(Q1o s (i+1)).next+1,true)
def Q7d(w:World)(r:Ln × Int × Bool)(e:Ending)(w':World):Prop :=
 ∃x:LV,x.ln=r.1/\e=.returned (.tuple #[.agg x.cells.toArray,.int .i64 r.2.1,.bool r.2.2])/\Q0a w w'/\x.At w'/\(∀k,x.vn.ownBlock=some k->w.heap.size<=k)/\(∀k,x.vs.ownBlock=some k->w.heap.size<=k)
theorem z1y{w w':World}{i:Int}{e:Ending}(he:e=.returned (.tuple #[.agg zeroLV.cells.toArray,.int .i64 i,.bool false]))(hf:Q0a w w'):Q7d w (Q4c,i,false) e w' :=
 ⟨zeroLV,rfl,he,hf,z4c _,by simp[zeroLV,Value.ownBlock],by simp[zeroLV,Value.ownBlock]⟩
theorem y30(s:ByteArray)(i:Int)(h0:0<=i)(h1:i<=s.size):Q8h s i 0 (Q1o s i):=z5e s 6 i [] h0 h1
abbrev Q61(p a b c d e f g k:Int):Array Value:=#[.int .i64 p,.int .u8 a,.int .u8 b,.int .u8 c,.int .u8 d,.int .u8 e,.int .u8 f,.int .u8 g,.int .u8 k]
theorem y44(s:ByteArray)(i:Int)(dd:Wd)(w:World)(hs:s.size<=1000)(h0:0<=i)(h1:i<=2000)(hl:dd.ls.length=8) :
  Calls Tryz.prog 100 #[.string s,.int .i64 i,.agg dd.cells.toArray] w fun e w'=>Q7d w (Q6f s i dd) e w':=by
 obtain⟨p,ls⟩:=dd;obtain⟨a,b,c,d,e,f,g,k,rfl⟩:=Q59 hl;have e1:(Wd.cells ⟨p,[a,b,c,d,e,f,g,k]⟩).toArray=Q61 p a b c d e f g k:=rfl;rw[e1];generalize hR:Q6f s i ⟨p,[a,b,c,d,e,f,g,k]⟩=R;unfold Q6f at hR;clear e1 hl;by_cases hc:atB s i≠61/\atB s i≠126
 ·rw[qAb hc]at hR;have c1:(atB s i != 61)=true:=by simpa using hc.1
  have c2:(atB s i != 126)=true:=by simpa using hc.2
  have HR:=hid hR;clear hR hc;go_enter Tryz.func100,Tryz.ntmps100
  go_wp2_with (first
   |(go_at_call 107;refine csm (z0v _ _ _ (by unfold maxLen;omega)) ?_))
  refine bodyPost_ret (z0h rfl _ _ (w.heap.size+1) 116 zeroLV.cells.toArray (0,0) _ rfl (heap_alloc2_new _ _ _) Tryz.underlying116 rfl Q1j) rfl ?_;rw[← HR.out];exact z1y rfl (((mRf _ w).alloc _).alloc _)
 rw[qAa hc]at hR;have j1:(atB s i != 61)=false∨((atB s i != 61)=true/\(atB s i != 126)=false):=by
  by_cases h:atB s i=61
  ·left;simpa using h
  right;exact⟨by simpa using h,by simp;omega⟩
 have j2:=z0q (s:=s) (i:=i) (by omega);have hG:=y30 s (i+1) (by omega) (by omega);obtain⟨g1,g2,g3,g4⟩:=hG;cases hok:(Q1o s (i+1)).ok
 ·rw[qAb hok]at hR;have HR:=hid hR;clear hR hc g3;have RB:=hid (fun w=>x7d s (i+1) w hs (by omega) (by omega) hok);generalize Q1o s (i+1)=pp at g1 g2 g4 HR RB;rcases j1 with c1|⟨c1,c2⟩;all_goals
   go_enter Tryz.func100,Tryz.ntmps100
   go_wp2_with (first
    |(go_at_call 107;refine csm (z0v _ _ _ (by unfold maxLen;omega)) ?_)
    |(go_at_call 118;refine(RB.out _).mono ?_;rintro e w1⟨rfl,hf1⟩;have hz:w.heap.size+1<w1.heap.size:=(by have:=hf1.size;simp at this;omega))
    |(refine wpList_store_row rfl 116 _ _ rfl (w.heap.size+1) zeroLV.cells.toArray rfl rfl _ _ (z0b (hf1.at (heap_alloc2_new _ _ _) (fun x=>x))) Q1j rfl (z4c w).one ?_))
   refine bodyPost_ret (z0h rfl _ _ (w.heap.size+1) 116 zeroLV.cells.toArray (0,0) _ rfl (setRow_heap _ _ _ _ _ _ (z0b (hf1.at (heap_alloc2_new _ _ _) (fun x=>x)))) Tryz.underlying116 rfl Q1j) rfl ?_;rw[← HR.out];exact z1y rfl (((((((mRf _ w).alloc _).alloc _).trans hf1).alloc _)).setRow (by simp) _)
 rw[qAa (by simp[hok])]at hR;have g5:=g3 hok;have RG:=hid (fun w=>x4k s (i+1) w hs (by omega) (by omega) hok);generalize Q1o s (i+1)=pp at g1 g2 g4 g5 hR RG;by_cases hnl:atB s pp.next=10
 ·rw[qAa (by simp[hnl])]at hR;have HR:=hid hR;have c3:(atB s pp.next != 10)=false:=by simp[hnl]
  clear hR hc g3 hok hnl;rcases j1 with c1|⟨c1,c2⟩;all_goals
   go_enter Tryz.func100,Tryz.ntmps100
   go_wp2_with (first
    |(go_at_call 107;refine csm (z0v _ _ _ (by unfold maxLen;omega)) ?_)
    |(go_at_call 118;refine(RG.out _).mono ?_;rintro e w1⟨v,rfl,hf1,hN1,hk1⟩;obtain⟨ao,cap,hv⟩:=z0d hN1.own;subst hv;have hz:w.heap.size+1<w1.heap.size:=(by have:=hf1.size;simp at this;omega);have H0:=hid (hf1.at (heap_alloc2_old _ _ _) (fun x=>x)))
    |(refine wpList_load_row rfl 111 _ rfl w.heap.size rfl _ _ _ _ (z0b H0.out) Tryz.underlying111 rfl Q2o ?_)
    |(refine wpList_store_row rfl 116 _ _ rfl (w.heap.size+1) (LV.cells ⟨⟨⟨p,[a,b,c,d,e,f,g,k]⟩,atB s i==126,pp.ns,pp.st,pp.en,[]⟩,.slice ao pp.ns.length cap,.slice none 0 0⟩).toArray rfl rfl _ _ (z0b (hf1.at (heap_alloc2_new _ _ _) (fun x=>x))) Q1j rfl ?_ ?_))
   case refine_1 =>
    refine LV.At.one (w:=w1) ⟨hN1,Q2e.nil _ _ _ _,rfl,?_⟩;show pp.ns.length<=5000;simp at g4;omega
   refine bodyPost_ret (z0h rfl _ _ (w.heap.size+1) 116 _ (0,0) _ rfl (setRow_heap _ _ _ _ _ _ (z0b (hf1.at (heap_alloc2_new _ _ _) (fun x=>x)))) Tryz.underlying116 rfl Q1j) rfl ?_;rw[← HR.out];have m1:Q0a w1 ((w1.alloc (.cells #[.slice ao pp.ns.length cap,.int .i64 pp.st,.int .i64 pp.en] 114 (0,0)))):=(mRf _ w1).alloc _;have j0:∀k,(Value.slice ao pp.ns.length cap).ownBlock=some k->w.heap.size+2<=k:=fun k hk=>by have:=hk1 k hk;simpa using this
   refine⟨⟨⟨⟨p,[a,b,c,d,e,f,g,k]⟩,atB s i==126,pp.ns,pp.st,pp.en,[]⟩,.slice ao pp.ns.length cap,.slice none 0 0⟩,rfl,rfl,(((((((mRf _ w).alloc _).alloc _).trans hf1).alloc _)).setRow (by simp) _),⟨?_,Q2e.nil _ _ _ _,rfl,by show pp.ns.length<=5000;simp at g4;omega⟩,fun k hk=>by have:=j0 k hk;omega,by simp[Value.ownBlock]⟩;exact(hN1.fresh m1).kept (S:=fun k=>k=w.heap.size+1) (Mod.setRow (S:=fun k=>k=w.heap.size+1) (mRf _ _) (fun _=>rfl) _) (fun k hk e=>by have:=j0 k hk;omega)
 rw[qAb hnl]at hR;have HR:=hid hR;have c3:(atB s pp.next != 10)=true:=by simpa using hnl
 clear hR hc g3 hok hnl;rcases j1 with c1|⟨c1,c2⟩;all_goals
  go_enter Tryz.func100,Tryz.ntmps100
  go_wp2_with (first
   |(go_at_call 107;refine csm (z0v _ _ _ (by unfold maxLen;omega)) ?_)
   |(go_at_call 118;refine(RG.out _).mono ?_;rintro e w1⟨v,rfl,hf1,hN1,hk1⟩;obtain⟨ao,cap,hv⟩:=z0d hN1.own;subst hv;have hz:w.heap.size+1<w1.heap.size:=(by have:=hf1.size;simp at this;omega))
   |(refine wpList_store_row rfl 116 _ _ rfl (w.heap.size+1) zeroLV.cells.toArray rfl rfl _ _ (z0b (hf1.at (heap_alloc2_new _ _ _) (fun x=>x))) Q1j rfl (z4c w).one ?_))
  refine bodyPost_ret (z0h rfl _ _ (w.heap.size+1) 116 zeroLV.cells.toArray (0,0) _ rfl (setRow_heap _ _ _ _ _ _ (z0b (hf1.at (heap_alloc2_new _ _ _) (fun x=>x)))) Tryz.underlying116 rfl Q1j) rfl ?_;rw[← HR.out];exact z1y rfl (((((((mRf _ w).alloc _).alloc _).trans hf1).alloc _)).setRow (by simp) _)
def Q2w(s:ByteArray)(d:Wd):Nat->Int->List Wd->Ln × Int × Bool
 |0,next,_=>(Q4c,next,false)
 |f+1,next,syms =>
  if atB s next=32 then
   if(Q06 s (next+1)).2.2=false then(Q4c,(Q06 s (next+1)).2.1,false)
   else Q2w s d f (Q06 s (next+1)).2.1 (syms++[(Q06 s (next+1)).1])
  else if atB s next≠10 then(Q4c,next,false)
  else(⟨d,false,[],0,0,syms⟩,next+1,true)
def Q6e(s:ByteArray)(i:Int)(d:Wd):Ln × Int × Bool :=
 if atB s i≠58 then(Q4c,i,false) else Q2w s d (s.size+5) (i+1) []
theorem infoWord:(Tryz.prog.info? 111).map (fun i=>(i.zero,i.size,i.bytes))=some (some (.agg #[.int .i64 0,.int .u8 0,.int .u8 0,.int .u8 0,.int .u8 0,.int .u8 0,.int .u8 0,.int .u8 0,.int .u8 0]),9,16):=by kernel_rfl
theorem infoWord':∃i,Tryz.prog.info? 111=some i/\i.zero=some (.agg #[.int .i64 0,.int .u8 0,.int .u8 0,.int .u8 0,.int .u8 0,.int .u8 0,.int .u8 0,.int .u8 0,.int .u8 0])/\i.size=9/\i.bytes=16:=nfoE infoWord
theorem z0y{α:Type}(cells:α->List Value)(xs:List α)(x:α):Q00 cells (xs++[x])=Q00 cells xs++cells x:=by simp[Q00]
theorem z2s{w:World}{A:Obj}{cs:Array Value}{l:List Value}{e:TypeId}(h:cs.toList=l):∀(j:Nat) (u:Value),l[j]? = some u->((w.alloc A).alloc (.cells cs e)).cell? ((⟨w.heap.size+1,0,none⟩:Addr).add j)=some u:=by
 intro j u hj;rw[Addr.add_mid,qBi,Q0b (heap_alloc2_new _ _ _)];subst h;simpa using hj
theorem y43(s:ByteArray)(i:Int)(dd:Wd)(w:World)(hs:s.size<=1000)(h0:0<=i)(h1:i<=2000)(hl:dd.ls.length=8) :
  Calls Tryz.prog 99 #[.string s,.int .i64 i,.agg dd.cells.toArray] w fun e w'=>Q7d w (Q6e s i dd) e w':=by
 obtain⟨p,ls⟩:=dd;obtain⟨a,b,c,d,e,f,g,k,rfl⟩:=Q59 hl;have e1:(Wd.cells ⟨p,[a,b,c,d,e,f,g,k]⟩).toArray=Q61 p a b c d e f g k:=rfl;rw[e1];generalize hR:Q6e s i ⟨p,[a,b,c,d,e,f,g,k]⟩=R;unfold Q6e at hR;clear e1 hl;by_cases hc:atB s i≠58
 ·rw[qAb hc]at hR;have c1:(atB s i != 58)=true:=by simpa using hc
  have HR:=hid hR;clear hR hc;go_enter Tryz.func99,Tryz.ntmps99
  go_wp2_with (first
   |(go_at_call 107;refine csm (z0v _ _ _ (by unfold maxLen;omega)) ?_))
  refine bodyPost_ret (z0h rfl _ _ (w.heap.size+1) 116 zeroLV.cells.toArray (0,0) _ rfl (heap_alloc2_new _ _ _) Tryz.underlying116 rfl Q1j) rfl ?_;rw[← HR.out];exact z1y rfl (((mRf _ w).alloc _).alloc _)
 rw[qAa hc]at hR;have c1:(atB s i != 58)=false:=by simpa using hc
 have ja:=z0q (s:=s) (i:=i) (by omega);have HR:=hid hR;obtain⟨i0,hi,hz0,hz1,hz2⟩:=infoWord';clear hR hc;go_enter Tryz.func99,Tryz.ntmps99
 go_wp2_with (first
  |(go_at_call 107;refine csm (z0v _ _ _ (by unfold maxLen;omega)) ?_))
 go_loopw [9,10] (fun x9 x10 wr=>∃(ff:Nat) (next:Int) (syms:List Wd),x10=.int .i64 next/\Q2w s ⟨p,[a,b,c,d,e,f,g,k]⟩ ff next syms=R/\0<=next/\next<=s.size/\(s.size:Int)+5<=ff+next/\(syms.length:Int)<=next/\(∀x∈syms,x.cells.length=9) /\
   wr.ownsRow (w.heap.size+2) 111 9 x9 syms.length (Q00 Wd.cells syms) /\
   wr.heap[w.heap.size]? = some (.cells (Q61 p a b c d e f g k) 111 (0,0))/\wr.heap[w.heap.size+1]? = some (.cells zeroLV.cells.toArray 116 (0,0))/\Q0a w wr)
   (fun _ x _=>2001-(intOf x).toNat)
 case atStart =>
  exact⟨s.size+5,i+1,[],rfl,HR.out,by omega,by omega,by omega,by simp;omega,by simp,World.ownsRow_nil _ _ _ _,heap_alloc2_old _ _ _,heap_alloc2_new _ _ _,((mRf _ w).alloc _).alloc _⟩
 obtain⟨ff,next,syms,rfl,hR,hn0,hn1,hfu,hcnt,hwf,hown,hb0,hb1,hfr⟩:=hrel;obtain⟨ff,rfl⟩:∃g,ff=g+1:=⟨ff-1,by omega⟩;unfold Q2w at hR;have j5:=hid hb0;have j0:=hid hb1;have HO:=hid hown;have j6:=hid hwf;obtain⟨ao,cap,hv⟩:=z0d hown;have j3:=hown.lt;have j2:=hid j3;clear hb0 hb1 hown hwf j3;subst hv;by_cases h32:atB s next=32
 ·rw[qAb h32]at hR;have c2:(atB s next==32)=true:=by simpa using h32
  have jb:=z0q (s:=s) (i:=next) (by omega);obtain⟨b1,b2,b3⟩:=z5j s (next+1) (by omega);have j4:=y4z s (next+1);have RW:=hid (fun w=>z7t s (next+1) w hs (by omega) (by omega));generalize Q06 s (next+1)=rr at b1 b2 b3 j4 RW hR;obtain⟨⟨pp,ls⟩,nx,okk⟩:=rr;obtain⟨a1,a2,a3,a4,a5,a6,a7,a8,rfl⟩:=Q59 j4;simp only[Q7t]at RW;have e2:(Wd.cells ⟨pp,[a1,a2,a3,a4,a5,a6,a7,a8]⟩).toArray=Q61 pp a1 a2 a3 a4 a5 a6 a7 a8:=rfl;rw[e2]at RW;dsimp only at b1 b2 b3 hR;clear h32 j4 e2;cases okk
  ·simp only[qBb]at hR;have j1:=hid hR;clear hR b3;go_wp2_with (first
    |(go_at_call 107;refine csm (z0v _ _ _ (by unfold maxLen;omega)) ?_)
    |(go_at_call 98;refine(RW.out _).mono ?_;rintro e w1⟨rfl,hf1⟩;have hz:w.heap.size+1<w1.heap.size:=(by have:=hf1.size;have:=z0j j0.out;omega))
    |(refine z0e rfl 111 _ _ rfl w1 _ _ _ rfl rfl rfl Q2o rfl rfl ?_)
    |(refine wpList_store_row rfl 116 _ _ rfl (w.heap.size+1) zeroLV.cells.toArray rfl rfl _ _ (z0b (hf1.at j0.out (fun x=>x))) Q1j rfl (z4c w).one ?_))
   refine bodyPost_ret (z0h rfl _ _ (w.heap.size+1) 116 zeroLV.cells.toArray (0,0) _ rfl (setRow_heap _ _ _ _ _ _ (z0b (hf1.at j0.out (fun x=>x)))) Tryz.underlying116 rfl Q1j) rfl ?_;rw[← j1.out];exact z1y rfl (((hfr.trans hf1).alloc _).setRow (by simp) _)
  simp only[qCe,qAp]at hR;have j1:=hid hR;have b4:=b3 rfl;have j7:Hid (2001-(intOf (.int .i64 nx)).toNat<2001-(intOf (.int .i64 next)).toNat):=by unfold Hid;simp[intOf];omega
  clear hR b3;go_wp2_with (first
   |(go_at_call 107;refine csm (z0v _ _ _ (by unfold maxLen;omega)) ?_)
   |(go_at_call 98;refine(RW.out _).mono ?_;rintro e w1⟨rfl,hf1⟩;have hz:w.heap.size+1<w1.heap.size:=(by have:=hf1.size;have:=z0j j0.out;omega);have j8:=hid (z0c HO.out (fun g hg=>hf1.block g (j2.out g hg).2 (fun x=>x))))
   |(refine z0e rfl 111 _ _ rfl w1 _ _ _ rfl rfl rfl Q2o rfl rfl ?_)
   |(refine wpList_load_row rfl 111 _ rfl w1.heap.size rfl _ _ _ _ (z0a _ _) Tryz.underlying111 rfl Q2o ?_)
   |(at_builtin;refine z0g _ rfl _ _ 107 rfl (w.heap.size+2) 111 i0 _ 9 16 Tryz.underlying107 hi hz0 hz1 hz2 rfl (by decide) _ _ _ rfl ((j8.alloc _).alloc _) ⟨w1.heap.size+1,0,none⟩ 1 1 (Wd.cells ⟨pp,[a1,a2,a3,a4,a5,a6,a7,a8]⟩) rfl rfl ?c1 ?c2 ?c3 ?c4 ?c5 ?_))
  case c1=>exact z2s rfl
  case c2=>intro u hu;exact(qCa.1 (Wd.one ⟨pp,[a1,a2,a3,a4,a5,a6,a7,a8]⟩)) u (by simpa using hu)
  case c3=>unfold maxLen;omega
  case c4=>omega
  case c5=>simp;omega
  intro v' w2 hown2 hgrow hblk;have j9:=hid hown2;have jc:=hid hgrow;have q0:w2.heap[w.heap.size]? = some (.cells (Q61 p a b c d e f g k) 111 (0,0)):=by
   rw[hgrow.block _ (by simp;omega) (fun e=>by have:=(j2.out _ e.symm).1;omega)];exact z0b (z0b (hf1.at j5.out (fun x=>x)))
  have q1:w2.heap[w.heap.size+1]? = some (.cells zeroLV.cells.toArray 116 (0,0)):=by
   rw[hgrow.block _ (by simp;omega) (fun e=>by have:=(j2.out _ e.symm).1;omega)];exact z0b (z0b (hf1.at j0.out (fun x=>x)))
  have q2:Q0a w w2:=Mod.grown (S:=fun _=>False) (((hfr.trans hf1).alloc _).alloc _) hgrow (fun k hk ja=>by have:=(j2.out k hk).1;omega);have Q0:=hid q0;have Q1:=hid q1;clear hown2 hgrow q0 q1 hblk;go_wp2;go_roundw
  case rel =>
   refine⟨ff,nx,syms++[⟨pp,[a1,a2,a3,a4,a5,a6,a7,a8]⟩],rfl,j1.out,by omega,by omega,by omega,by simp;omega,?_,?_,Q0.out,Q1.out,q2⟩
   ·intro x hx;rcases qBj.1 hx with h|h
    ·exact j6.out x h
    simp at h;subst h;rfl
   rw[z0y,qP,qAf];exact j9.out
  exact j7.out
 rw[qAa h32]at hR;have c2:(atB s next==32)=false:=by simpa using h32
 by_cases h10:atB s next=10
 ·rw[qAa (by simp[h10])]at hR;have c3:(atB s next != 10)=false:=by simp[h10]
  have j1:=hid hR;have r1:Q3u wr (.slice ao syms.length cap) syms:=⟨z0f HO.out (qBg _),j6.out⟩;have ON:=hid (LV.At.one (w:=wr) (x:=⟨⟨⟨p,[a,b,c,d,e,f,g,k]⟩,false,[],0,0,syms⟩,.slice none 0 0,.slice ao syms.length cap⟩) ⟨⟨World.ownsRow_nil _ _ _ _,fun _ h=>by cases h⟩,r1,rfl,by simp⟩);clear hR h10 h32;go_wp2_with (first
   |(go_at_call 107;refine csm (z0v _ _ _ (by unfold maxLen;omega)) ?_)
   |(refine wpList_load_row rfl 111 _ rfl w.heap.size rfl _ _ _ _ j5.out Tryz.underlying111 rfl Q2o ?_)
   |(refine wpList_store_row rfl 116 _ _ rfl (w.heap.size+1) (LV.cells ⟨⟨⟨p,[a,b,c,d,e,f,g,k]⟩,false,[],0,0,syms⟩,.slice none 0 0,.slice ao syms.length cap⟩).toArray rfl rfl _ _ j0.out Q1j rfl ON.out ?_))
  refine bodyPost_ret (z0h rfl _ _ (w.heap.size+1) 116 _ (0,0) _ rfl (setRow_heap _ _ _ _ _ _ j0.out) Tryz.underlying116 rfl Q1j) rfl ?_;rw[← j1.out];refine⟨⟨⟨⟨p,[a,b,c,d,e,f,g,k]⟩,false,[],0,0,syms⟩,.slice none 0 0,.slice ao syms.length cap⟩,rfl,rfl,hfr.setRow (by simp) _,⟨⟨World.ownsRow_nil _ _ _ _,fun _ h=>by cases h⟩,?_,rfl,by simp⟩,by simp[Value.ownBlock],fun k hk=>by have:=(j2.out k hk).1;omega⟩;exact r1.kept (S:=fun k=>k=w.heap.size+1) (Mod.setRow (S:=fun k=>k=w.heap.size+1) (mRf _ _) (fun _=>rfl) _) (fun k hk e=>by have:=(j2.out k hk).1;omega)
 rw[qAb h10]at hR;have c3:(atB s next != 10)=true:=by simpa using h10
 have j1:=hid hR;clear hR h10 h32;go_wp2_with (first
  |(go_at_call 107;refine csm (z0v _ _ _ (by unfold maxLen;omega)) ?_)
  |(refine wpList_store_row rfl 116 _ _ rfl (w.heap.size+1) zeroLV.cells.toArray rfl rfl _ _ j0.out Q1j rfl (z4c w).one ?_))
 refine bodyPost_ret (z0h rfl _ _ (w.heap.size+1) 116 zeroLV.cells.toArray (0,0) _ rfl (setRow_heap _ _ _ _ _ _ j0.out) Tryz.underlying116 rfl Q1j) rfl ?_;rw[← j1.out];exact z1y rfl (hfr.setRow (by simp) _)
theorem z9q(s:ByteArray)(i:Int):∀(f n:Nat) (ls:List Int),1<=n->(Q2h s i f n ls).1.getD 0 0=ls.getD 0 0
 |0,_,_,_=>rfl
 |f+1,n,ls,h=>by
  unfold Q2h;split
  ·split
   ·rw[z9q s i f (n+1) _ (by omega)];simp[qBy,show ¬n=0 by omega]
   rfl
  rfl
theorem z65(s:ByteArray)(i:Int):0<=(Q06 s i).1.ls.getD 0 0/\(Q06 s i).1.ls.getD 0 0<=255:=by
 unfold Q06;split
 ·simp[zero8]
 rename_i h;dsimp only;rw[z9q _ _ _ _ _ (by omega)];have hb:=z8f s i;have hn:atB s i≠-1:=by intro e;rw[e]at h;simp[Q0l,Q1a]at h
 simp[zero8];omega
def Q2s(s:ByteArray)(i:Int):Ln × Int × Bool :=
 if(Q06 s i).2.2=false then(Q4c,(Q06 s i).2.1,false)
 else if Q14 (Q06 s i).1=true then Q6e s (Q06 s i).2.1 (Q06 s i).1
 else Q6f s (Q06 s i).2.1 (Q06 s i).1
theorem y41(s:ByteArray)(i:Int)(w:World)(hs:s.size<=1000)(h0:0<=i)(h1:i<=1900) :
  Calls Tryz.prog 77 #[.string s,.int .i64 i] w fun e w'=>Q7d w (Q2s s i) e w':=by
 generalize hR:Q2s s i=R;unfold Q2s at hR;obtain⟨b1,b2,b3⟩:=z5j s i h0;have j1:=y4z s i;have hz:=z65 s i;have RW:=hid (fun w=>z7t s i w hs h0 (by omega));have HP:=hid (fun w=>y43 s (Q06 s i).2.1 (Q06 s i).1 w hs (by omega) (by omega) j1);have j2:=hid (fun w=>y44 s (Q06 s i).2.1 (Q06 s i).1 w hs (by omega) (by omega) j1);have HZ:=hid hz;have j0:=hid j1;simp only[Q7t]at RW;clear j1 hz b3;cases hok:(Q06 s i).2.2
 ·rw[qAb hok]at hR;rw[hok]at RW;have HR:=hid hR;clear hR;go_enter Tryz.func77,Tryz.ntmps77
  go_wp2_with (first
   |(go_at_call 98;refine(RW.out _).mono ?_;rintro e w1⟨rfl,hf1⟩;have hz:w.heap.size<w1.heap.size:=(by have:=hf1.size;simp at this;omega))
   |(refine z0e rfl 111 _ _ rfl w1 _ _ _ rfl rfl rfl (Q1u j0.out) (Q0k rfl (Wd.size j0.out)) (Wd.one _) ?_)
   |(refine wpList_store_row rfl 116 _ _ rfl w.heap.size zeroLV.cells.toArray rfl rfl _ _ (z0b (hf1.at (z0a _ _) (fun x=>x))) Q1j rfl (z4c w).one ?_))
  refine bodyPost_ret (z0h rfl _ _ w.heap.size 116 zeroLV.cells.toArray (0,0) _ rfl (setRow_heap _ _ _ _ _ _ (z0b (hf1.at (z0a _ _) (fun x=>x)))) Tryz.underlying116 rfl Q1j) rfl ?_;rw[← HR.out];exact z1y rfl (((((mRf _ w).alloc _).trans hf1).alloc _).setRow (by simp) _)
 rw[qAa (by simp[hok])]at hR;rw[hok]at RW;have fin:∀(w1 w2 w3:World) (r:Ln × Int × Bool),Hid (r=R->Q0a (w.alloc (.cells zeroLV.cells.toArray 116 (0,0))) w2->∀x:LV,x.ln=r.1->Q0a w2 w3->x.At w3->(∀k,x.vn.ownBlock=some k->w2.heap.size<=k)->(∀k,x.vs.ownBlock=some k->w2.heap.size<=k) ->
   Q7d w R (.returned (.tuple #[.agg x.cells.toArray,.int .i64 r.2.1,.bool r.2.2])) (w3.setRow w.heap.size x.cells.toArray)):=by
  intro w1 w2 w3 r hr hf2 x hx hf3 hA hk1 hk2;subst hr;have j3:w.heap.size<w2.heap.size:=by have:=hf2.size;simp at this;omega
  refine⟨x,hx,rfl,((((mRf _ w).alloc _).trans hf2).trans hf3).setRow (by simp) _,⟨?_,?_,hA.front,hA.small⟩,fun k hk=>by have:=hk1 k hk;omega,fun k hk=>by have:=hk2 k hk;omega⟩
  ·exact hA.nodes.kept (S:=fun k=>k=w.heap.size) (Mod.setRow (S:=fun k=>k=w.heap.size) (mRf _ _) (fun _=>rfl) _) (fun k hk e=>by have:=hk1 k hk;omega)
  exact hA.syms.kept (S:=fun k=>k=w.heap.size) (Mod.setRow (S:=fun k=>k=w.heap.size) (mRf _ _) (fun _=>rfl) _) (fun k hk e=>by have:=hk2 k hk;omega)
 cases hh:Q14 (Q06 s i).1
 ·rw[qAa (by simp[hh])]at hR;have HR:=hid hR;clear hR HP;go_enter Tryz.func77,Tryz.ntmps77
  go_wp2_with (first
   |(go_at_call 98;refine(RW.out _).mono ?_;rintro e w1⟨rfl,hf1⟩;have hz:w.heap.size<w1.heap.size:=(by have:=hf1.size;simp at this;omega))
   |(go_at_call 82;refine(z5g _ _ j0.out HZ.out).mono ?_;rw[hh];rintro e w2⟨rfl,hf2⟩)
   |(go_at_call 100;refine(j2.out _).mono ?_;rintro e w3⟨x,hx,rfl,hf3,hA,hk1,hk2⟩;have H3:=hid (hf3.at (hf2.at (z0b (hf1.at (z0a _ _) (fun x=>x))) (fun x=>x)) (fun x=>x)))
   |(refine z0e rfl 111 _ _ rfl w1 _ _ _ rfl rfl rfl (Q1u j0.out) (Q0k rfl (Wd.size j0.out)) (Wd.one _) ?_)
   |(refine wpList_load_row rfl 111 _ rfl w1.heap.size rfl _ _ _ _ (z0a _ _) Tryz.underlying111 rfl (Q1u j0.out) ?_)
   |(refine wpList_load_row rfl 111 _ rfl w1.heap.size rfl _ _ _ _ (hf2.at (z0a _ _) (fun x=>x)) Tryz.underlying111 rfl (Q1u j0.out) ?_)
   |(refine wpList_store_row rfl 116 _ _ rfl w.heap.size x.cells.toArray rfl rfl _ _ H3.out (Q09 hA.front) (Q0k rfl (LV.size hA.front)) hA.one ?_))
  refine bodyPost_ret (z0h rfl _ _ w.heap.size 116 x.cells.toArray (0,0) _ rfl (setRow_heap _ _ _ _ _ _ H3.out) Tryz.underlying116 rfl (Q09 hA.front)) rfl ?_;exact(fin w1 w2 w3 _).out HR.out ((hf1.alloc _).trans hf2) x hx hf3 hA hk1 hk2
 rw[qAb hh]at hR;have HR:=hid hR;clear hR j2;go_enter Tryz.func77,Tryz.ntmps77
 go_wp2_with (first
  |(go_at_call 98;refine(RW.out _).mono ?_;rintro e w1⟨rfl,hf1⟩;have hz:w.heap.size<w1.heap.size:=(by have:=hf1.size;simp at this;omega))
  |(go_at_call 82;refine(z5g _ _ j0.out HZ.out).mono ?_;rw[hh];rintro e w2⟨rfl,hf2⟩)
  |(go_at_call 99;refine(HP.out _).mono ?_;rintro e w3⟨x,hx,rfl,hf3,hA,hk1,hk2⟩;have H3:=hid (hf3.at (hf2.at (z0b (hf1.at (z0a _ _) (fun x=>x))) (fun x=>x)) (fun x=>x)))
  |(refine z0e rfl 111 _ _ rfl w1 _ _ _ rfl rfl rfl (Q1u j0.out) (Q0k rfl (Wd.size j0.out)) (Wd.one _) ?_)
  |(refine wpList_load_row rfl 111 _ rfl w1.heap.size rfl _ _ _ _ (z0a _ _) Tryz.underlying111 rfl (Q1u j0.out) ?_)
  |(refine wpList_load_row rfl 111 _ rfl w1.heap.size rfl _ _ _ _ (hf2.at (z0a _ _) (fun x=>x)) Tryz.underlying111 rfl (Q1u j0.out) ?_)
  |(refine wpList_store_row rfl 116 _ _ rfl w.heap.size x.cells.toArray rfl rfl _ _ H3.out (Q09 hA.front) (Q0k rfl (LV.size hA.front)) hA.one ?_))
 refine bodyPost_ret (z0h rfl _ _ w.heap.size 116 x.cells.toArray (0,0) _ rfl (setRow_heap _ _ _ _ _ _ H3.out) Tryz.underlying116 rfl (Q09 hA.front)) rfl ?_;exact(fin w1 w2 w3 _).out HR.out ((hf1.alloc _).trans hf2) x hx hf3 hA hk1 hk2
end Go.Proofs.YtcpceafmlgaodaaGreat
