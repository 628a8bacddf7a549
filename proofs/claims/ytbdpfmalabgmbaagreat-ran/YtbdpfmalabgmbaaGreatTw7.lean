import Derived.Test.YtbdpfmalabgmbaaGreatTw5
namespace Go.Proofs.YtbdpfmalabgmbaaGreat
open Go.RowKit
set_option maxRecDepth 99999
set_option maxHeartbeats 0
set_option linter.all false
def wanL(hs:List Hd)(R:Nat):List Sy->List Bool->List Bool
 | [],acc=>Q2h acc R
 |s::l,acc=>if(Q2q hs [s] zero9).2 then wanL hs R l (orL acc (Q2q hs [s] zero9).1) else orL acc (Q2q hs [s] zero9).1
theorem x7f{a:List Bool}(h:a.length=9):orL a zero9=a:=by
 obtain⟨a0,a1,a2,a3,a4,a5,a6,a7,a8,rfl⟩:=Q7n h;simp[orL,zero9]
theorem y94{a:List Bool}(h:a.length=9):orL zero9 a=a:=by
 obtain⟨a0,a1,a2,a3,a4,a5,a6,a7,a8,rfl⟩:=Q7n h;simp[orL,zero9]
theorem x7e{a:List Bool}(h:a.length=9)(n:Int):orL a (Q2h zero9 n)=Q2h a n:=by
 unfold Q2h;split
 ·rename_i hn;obtain⟨k,rfl⟩:∃k:Nat,n=k:=⟨n.toNat,by omega⟩;rw[qAo];have hk:k<9:=by omega
  obtain⟨a0,a1,a2,a3,a4,a5,a6,a7,a8,rfl⟩:=Q7n h;rcases k with _|_|_|_|_|_|_|_|_|k;all_goals first|(simp[orL,zero9];done)|omega
 exact x7f h
theorem x5o{hs:List Hd}(hok:∀x∈hs,x.ok)(R:Nat):∀(k:List Sy) (acc:List Bool),acc.length=9->wanL hs R k acc=if(Q2q hs k acc).2 then Q2h (Q2q hs k acc).1 R else(Q2q hs k acc).1
 | [],acc,_=>rfl
 |s::l,acc,ha=>by
  unfold wanL;have hf:=(z0k hok s.num).fi;cases h1:s.isH
  ·have e1:Q2q hs [s] zero9=(Q2h zero9 s.num,false):=by simp[Q2q,h1]
   have e2:Q2q hs (s::l) acc=(Q2h acc s.num,false):=by simp[Q2q,h1]
   rw[e1,e2];simp only[qF,qAz];exact x7e ha _
  cases h2:(Q1k hs s.num).nul
  ·have e1:Q2q hs [s] zero9=(orL zero9 (Q1k hs s.num).fi,false):=by simp[Q2q,h1,h2]
   have e2:Q2q hs (s::l) acc=(orL acc (Q1k hs s.num).fi,false):=by simp[Q2q,h1,h2]
   rw[e1,e2,y94 hf];simp
  have e1:Q2q hs [s] zero9=(orL zero9 (Q1k hs s.num).fi,true):=by simp[Q2q,h1,h2]
  have e2:Q2q hs (s::l) acc=Q2q hs l (orL acc (Q1k hs s.num).fi):=by simp[Q2q,h1,h2]
  rw[e1,e2,y94 hf];simp only[qBn];exact x5o hok R l _ (z04 ha hf)
theorem z7a{S:Nat->Prop}{wr w1:World}{p:Nat}(c0 c1 c2 c3 c4 c5 c6 c7 c8:Bool)(hA:w1.heap[p]? = some (.cells (Q26 c0 c1 c2 c3 c4 c5 c6 c7 c8) 147 (0,0)))(hm:Mod S wr w1)(hp:p<wr.heap.size->S p)(a0 a1 a2 a3 a4 a5 a6 a7 a8:Bool) :
  Mod S wr (((((((((w1.setCell ⟨p,0,none⟩ (.bool a0)).setCell ⟨p,1,none⟩ (.bool a1)).setCell ⟨p,2,none⟩ (.bool a2)).setCell ⟨p,3,none⟩ (.bool a3)).setCell ⟨p,4,none⟩ (.bool a4)).setCell ⟨p,5,none⟩ (.bool a5)).setCell ⟨p,6,none⟩ (.bool a6)).setCell ⟨p,7,none⟩ (.bool a7)).setCell ⟨p,8,none⟩ (.bool a8))/\(((((((((w1.setCell ⟨p,0,none⟩ (.bool a0)).setCell ⟨p,1,none⟩ (.bool a1)).setCell ⟨p,2,none⟩ (.bool a2)).setCell ⟨p,3,none⟩ (.bool a3)).setCell ⟨p,4,none⟩ (.bool a4)).setCell ⟨p,5,none⟩ (.bool a5)).setCell ⟨p,6,none⟩ (.bool a6)).setCell ⟨p,7,none⟩ (.bool a7)).setCell ⟨p,8,none⟩ (.bool a8)).heap[p]? = some (.cells (Q26 a0 a1 a2 a3 a4 a5 a6 a7 a8) 147 (0,0)):=by
 refine⟨((((((((hm.setCell hp _).setCell hp _).setCell hp _).setCell hp _).setCell hp _).setCell hp _).setCell hp _).setCell hp _).setCell hp _,?_⟩;have h0:(w1.setCell ⟨p,0,none⟩ (.bool a0)).heap[p]? = some (.cells (Q26 a0 c1 c2 c3 c4 c5 c6 c7 c8) 147 (0,0)):=zhs hA 0 (.bool a0);have h1:((w1.setCell ⟨p,0,none⟩ (.bool a0)).setCell ⟨p,1,none⟩ (.bool a1)).heap[p]? = some (.cells (Q26 a0 a1 c2 c3 c4 c5 c6 c7 c8) 147 (0,0)):=zhs h0 1 (.bool a1);have h2:(((w1.setCell ⟨p,0,none⟩ (.bool a0)).setCell ⟨p,1,none⟩ (.bool a1)).setCell ⟨p,2,none⟩ (.bool a2)).heap[p]? = some (.cells (Q26 a0 a1 a2 c3 c4 c5 c6 c7 c8) 147 (0,0)):=zhs h1 2 (.bool a2);have h3:((((w1.setCell ⟨p,0,none⟩ (.bool a0)).setCell ⟨p,1,none⟩ (.bool a1)).setCell ⟨p,2,none⟩ (.bool a2)).setCell ⟨p,3,none⟩ (.bool a3)).heap[p]? = some (.cells (Q26 a0 a1 a2 a3 c4 c5 c6 c7 c8) 147 (0,0)):=zhs h2 3 (.bool a3);have h4:(((((w1.setCell ⟨p,0,none⟩ (.bool a0)).setCell ⟨p,1,none⟩ (.bool a1)).setCell ⟨p,2,none⟩ (.bool a2)).setCell ⟨p,3,none⟩ (.bool a3)).setCell ⟨p,4,none⟩ (.bool a4)).heap[p]? = some (.cells (Q26 a0 a1 a2 a3 a4 c5 c6 c7 c8) 147 (0,0)):=zhs h3 4 (.bool a4);have h5:((((((w1.setCell ⟨p,0,none⟩ (.bool a0)).setCell ⟨p,1,none⟩ (.bool a1)).setCell ⟨p,2,none⟩ (.bool a2)).setCell ⟨p,3,none⟩ (.bool a3)).setCell ⟨p,4,none⟩ (.bool a4)).setCell ⟨p,5,none⟩ (.bool a5)).heap[p]? = some (.cells (Q26 a0 a1 a2 a3 a4 a5 c6 c7 c8) 147 (0,0)):=zhs h4 5 (.bool a5);have h6:(((((((w1.setCell ⟨p,0,none⟩ (.bool a0)).setCell ⟨p,1,none⟩ (.bool a1)).setCell ⟨p,2,none⟩ (.bool a2)).setCell ⟨p,3,none⟩ (.bool a3)).setCell ⟨p,4,none⟩ (.bool a4)).setCell ⟨p,5,none⟩ (.bool a5)).setCell ⟨p,6,none⟩ (.bool a6)).heap[p]? = some (.cells (Q26 a0 a1 a2 a3 a4 a5 a6 c7 c8) 147 (0,0)):=zhs h5 6 (.bool a6);have h7:((((((((w1.setCell ⟨p,0,none⟩ (.bool a0)).setCell ⟨p,1,none⟩ (.bool a1)).setCell ⟨p,2,none⟩ (.bool a2)).setCell ⟨p,3,none⟩ (.bool a3)).setCell ⟨p,4,none⟩ (.bool a4)).setCell ⟨p,5,none⟩ (.bool a5)).setCell ⟨p,6,none⟩ (.bool a6)).setCell ⟨p,7,none⟩ (.bool a7)).heap[p]? = some (.cells (Q26 a0 a1 a2 a3 a4 a5 a6 a7 c8) 147 (0,0)):=zhs h6 7 (.bool a7);have h8:(((((((((w1.setCell ⟨p,0,none⟩ (.bool a0)).setCell ⟨p,1,none⟩ (.bool a1)).setCell ⟨p,2,none⟩ (.bool a2)).setCell ⟨p,3,none⟩ (.bool a3)).setCell ⟨p,4,none⟩ (.bool a4)).setCell ⟨p,5,none⟩ (.bool a5)).setCell ⟨p,6,none⟩ (.bool a6)).setCell ⟨p,7,none⟩ (.bool a7)).setCell ⟨p,8,none⟩ (.bool a8)).heap[p]? = some (.cells (Q26 a0 a1 a2 a3 a4 a5 a6 a7 a8) 147 (0,0)):=zhs h7 8 (.bool a8);exact h8
theorem x1f(w:World)(gb fb:Nat)(L:List Int)(R H:Nat)(vp vh:Value)(ps:List PV)(hs:List Hd)(k:List Sy)(v:Value)(base:Nat)
  (hb:w.heap[gb]? = some (.cells (gdA (Q3c fb) L) 145 (0,0))) (hF:FA w fb R H vp vh ps hs) (hk:SyOwn w base v k.reverse) (hkl:k.length<=10000000) (hR:R<=8) :
  Calls Tryz.prog 36 #[Q3c gb,v] w fun e w'=>∃v',e=.returned v'/\Q0a w w'/\IntOwn w' w.heap.size v' (Q3e (Q57 hs R k)):=by
 have HW:Hid (wanL hs R k zero9=Q57 hs R k):=by unfold Hid;rw[x5o hF.ok R k zero9 rfl];rfl
 rw[← HW.out];have jv:k=k.reverse.reverse:=by simp
 have jp:k.reverse.length<=10000000:=by simpa using hkl
 rw[jv];generalize k.reverse=l at hk jp;clear jv hkl HW;unfold SyOwn at hk;obtain⟨ka,kc,ko⟩:=z0c hk;subst ko;have HF:=hid hF;have HB:=hid hb;have HK:=hid hk;have k2:=hid hF.ok;generalize hRES:wanL hs R l.reverse zero9=RES;have jk:=hid hRES;have kr:=z0j hb;have kp:=z0j hF.blk;clear hb hF hk hRES;go_enter Tryz.func36,Tryz.ntmps36
 go_wp2;go_loopw [6] (fun x6 wr=>∃(m:Nat) (q:Int) (j3:List Bool),x6=.int .i64 q/\q=(m:Int)-1/\m<=l.length/\wanL hs R (l.take m).reverse j3=RES/\j3.length=9/\Q0a w wr/\wr.heap[w.heap.size]? = some (.cells (tkA j3) 147 (0,0)))
   (fun x _=>(intOf x+1).toNat)
 case atStart=>exact⟨l.length,_,zero9,rfl,rfl,qR _,by rw[qAw];exact jk.out,rfl,(mRf _ w).alloc _,by rw[z0a];rfl⟩
 obtain⟨m,q,j3,rfl,hq,hm,j0,jd,jf,jb⟩:=hrel;have j6:=hid jf;have jt:=hid jb;have j5:=hid jd;have g0:wr.cell? ⟨gb,0,none⟩=some (Q3c fb):=by
  have:=Q0b (jf.at HB.out id) 0;rw[this];rfl
 have kw:=z0j jb;have ks:gb<wr.heap.size:=by have:=jf.size;omega
 have kq:fb<wr.heap.size:=by have:=jf.size;omega
 clear jf jb jd;by_cases kl:m=0
 ·have km:q=-1:=by omega
  subst km;subst kl;simp only[List.take_zero,List.reverse_nil,wanL]at j0;have j9:=hid j0;have r0:wr.cell? ⟨fb,0,none⟩=some (.int .i64 R):=by
   have:=(HF.fresh j6.out).cell 0;rw[this];rfl
  clear j0 hq;obtain⟨c0,c1,c2,c3,c4,c5,c6,c7,c8,e9⟩:=Q7n j5.out;subst e9;have jm:=z2t (n:=(R:Int)) (show [c0,c1,c2,c3,c4,c5,c6,c7,c8].length=9 from rfl);have TW:Hid (∀W:World,Calls Tryz.prog 67 #[.agg (Q26 c0 c1 c2 c3 c4 c5 c6 c7 c8),.int .i64 R] W fun e w'=>e=.returned (.agg (tkA (Q2h [c0,c1,c2,c3,c4,c5,c6,c7,c8] R)))/\Q0a W w'):=fun W=>y0k W [c0,c1,c2,c3,c4,c5,c6,c7,c8] R rfl;generalize Q2h [c0,c1,c2,c3,c4,c5,c6,c7,c8] (R:Int)=wt at jm TW j9;obtain⟨d0,d1,d2,d3,d4,d5,d6,d7,d8,e9⟩:=Q7n jm;subst e9;have k3:Hid (∀W:World,Calls Tryz.prog 67 #[.agg (Q26 c0 c1 c2 c3 c4 c5 c6 c7 c8),.int .i64 R] W fun e w'=>e=.returned (.agg (Q26 d0 d1 d2 d3 d4 d5 d6 d7 d8))/\Q0a W w'):=TW.out;have j1:wr.heap[w.heap.size]? = some (.cells (Q26 c0 c1 c2 c3 c4 c5 c6 c7 c8) 147 (0,0)):=jt.out;have jz:=hid j1;have x0:=Q0b j1 0;have x1:=Q0b j1 1;have x2:=Q0b j1 2;have x3:=Q0b j1 3;have x4:=Q0b j1 4;have x5:=Q0b j1 5;have x6:=Q0b j1 6;have x7:=Q0b j1 7;have x8:=Q0b j1 8;simp at x0 x1 x2 x3 x4 x5 x6 x7 x8;clear TW jm j1;go_upto_region 9 with fail
  go_cut [] (fun wx=>Q0a w wx/\wx.heap[w.heap.size]? = some (.cells (Q26 d0 d1 d2 d3 d4 d5 d6 d7 d8) 147 (0,0)))
  case first =>
   go_region_with (first
    |(go_at_call 67;refine(k3.out _).mono ?_;rintro e w1⟨rfl,j4⟩;have hA:=j4.at jz.out id;have k4:w1.cell? ⟨w.heap.size,0,none⟩=some (.bool c0):=Q0b hA 0;have k5:w1.cell? ⟨w.heap.size,1,none⟩=some (.bool c1):=Q0b hA 1;have k6:w1.cell? ⟨w.heap.size,2,none⟩=some (.bool c2):=Q0b hA 2;have k7:w1.cell? ⟨w.heap.size,3,none⟩=some (.bool c3):=Q0b hA 3;have k8:w1.cell? ⟨w.heap.size,4,none⟩=some (.bool c4):=Q0b hA 4;have k9:w1.cell? ⟨w.heap.size,5,none⟩=some (.bool c5):=Q0b hA 5;have kb:w1.cell? ⟨w.heap.size,6,none⟩=some (.bool c6):=Q0b hA 6;have kd:w1.cell? ⟨w.heap.size,7,none⟩=some (.bool c7):=Q0b hA 7;have ke:w1.cell? ⟨w.heap.size,8,none⟩=some (.bool c8):=Q0b hA 8;have fa:=fun o=>Q0f hA o))
   all_goals
    go_wp2_with fail
    go_meet;exact z7a _ _ _ _ _ _ _ _ _ hA (j6.trans (Mod.trans (Mod.drew (mRf _ wr)) j4)) (fun h=>absurd h (qBw _)) d0 d1 d2 d3 d4 d5 d6 d7 d8
  obtain⟨j8,jb⟩:=hcut;have jj:=hid j8;have k0:=hid jb;clear j8 jb x0 x1 x2 x3 x4 x5 x6 x7 x8 g0 r0;go_wp2_with (first
   |(go_at_call 66;refine(y5y _ [d0,d1,d2,d3,d4,d5,d6,d7,d8] rfl).mono ?_;rintro e w3⟨v3,rfl,jo,jq⟩)
   |(refine qAf rfl 147 _ rfl w.heap.size rfl _ (Q26 d0 d1 d2 d3 d4 d5 d6 d7 d8) _ _ k0.out qAk rfl Q75 ?_))
  go_ret;refine⟨v3,rfl,jj.trans jo,?_⟩;rw[← j9.out];exact z0g jq jj.size
 obtain⟨m',rfl⟩:∃m',m=m'+1:=⟨m-1,by omega⟩;have kn:q=(m':Int):=by omega
 clear hq;subst kn;have jw:m'<l.length:=by omega
 have ku:(m':Int)<(l.length:Int):=by omega
 have k1:Hid (((m':Int)-1+1).toNat<((m':Int)+1).toNat):=by unfold Hid;omega
 rw[Q6e jw,List.reverse_append,List.reverse_singleton,List.singleton_append]at j0;unfold wanL at j0;obtain⟨g,kf,jx⟩:=Joins.ownsRow_form HK.out (by omega);rw[qI]at jx;obtain⟨rfl,_,rfl⟩:=jx;have kt:l.length<=kc:=by
  rcases HK.2 with⟨h1,_⟩|⟨g',c',kg,h1,_,_,h2,_⟩
  ·cases h1
  rw[qI]at h1;obtain⟨_,_,rfl⟩:=h1;exact h2
 have kh:kc<=maxLen:=by
  rcases HK.2 with⟨h1,_⟩|⟨g',c',kg,h1,_,_,_,h2,_⟩
  ·cases h1
  rw[qI]at h1;obtain⟨_,_,rfl⟩:=h1;exact h2
 unfold maxLen at kh;have kj:(m':Int)+1<=(kc:Int):=by omega
 have kk:¬kc=m':=by omega
 have kx:IntKind.i64.wrap ((m':Int)+1)=(m':Int)+1:=by rw[qBv];omega
 have jl:=z1a k2.out [l[m']] zero9 rfl;have BA:Hid (∀W:World,Q0a w W->Calls Tryz.prog 64 #[Q3c fb,.slice (some ⟨g,m'*2,none⟩) 1 (kc-m')] W fun e w'=>e=.returned (.tuple #[.agg (tkA (Q2q hs [l[m']] zero9).1),.bool (Q2q hs [l[m']] zero9).2])/\Q0a W w'):=fun W hW =>
  z6a W fb R H vp vh ps hs w.heap.size _ [l[m']] (HF.fresh hW) hW.size ⟨some ⟨g,m'*2,none⟩,kc-m',rfl,by simp;omega,by unfold maxLen;omega,fun i hi=>by
   have ki:i=0:=by simpa using hi
   subst ki;refine⟨g,m'*2,rfl,(HK.lt g rfl).2,?_⟩;have jr:Q18 Sy.cells 2 93 w (.slice (some ⟨g,0,none⟩) l.length kc) l:=⟨z0g HK.out (qBq _),fun _ _=>rfl⟩;have:=jr.range m' jw;simpa using z0t this (hW.block g (HK.lt g rfl).2 id)⟩
 generalize Q2q hs [l[m']] zero9=bg at j0 jl BA;obtain⟨b1,b2⟩:=bg;dsimp only at j0 jl BA;obtain⟨a0,a1,a2,a3,a4,a5,a6,a7,a8,e9⟩:=Q7n jl;subst e9;have jy:Hid (∀W:World,Q0a w W->Calls Tryz.prog 64 #[Q3c fb,.slice (some ⟨g,m'*2,none⟩) 1 (kc-m')] W fun e w'=>e=.returned (.tuple #[.agg (Q26 a0 a1 a2 a3 a4 a5 a6 a7 a8),.bool b2])/\Q0a W w'):=BA.out;have j9:=hid j0;clear j0 BA;go_upto_region 5 with fail
 go_cut [7,8] (fun s7 s8 wx=>∃p,s7=.pointer (some ⟨p,0,none⟩)/\s8=.bool b2/\Q0a wr wx/\wr.heap.size<=p/\wx.heap[p]? = some (.cells (Q26 a0 a1 a2 a3 a4 a5 a6 a7 a8) 147 (0,0)))
 case first =>
  go_region_with (first
   |(go_at_call 64;refine(jy.out _ (by first|exact j6.drew|exact(j6.alloc _).drew|exact(j6.drew).alloc _|exact j6.out)).mono ?_;rintro e w1⟨rfl,j4⟩;(try (have hA:w1.heap[wr.heap.size]? = some (.cells #[.bool false,.bool false,.bool false,.bool false,.bool false,.bool false,.bool false,.bool false,.bool false] 147 (0,0)):=j4.at (z0a wr _) id;have k4:w1.cell? ⟨wr.heap.size,0,none⟩=some (.bool false):=Q0b hA 0;have k5:w1.cell? ⟨wr.heap.size,1,none⟩=some (.bool false):=Q0b hA 1;have k6:w1.cell? ⟨wr.heap.size,2,none⟩=some (.bool false):=Q0b hA 2;have k7:w1.cell? ⟨wr.heap.size,3,none⟩=some (.bool false):=Q0b hA 3;have k8:w1.cell? ⟨wr.heap.size,4,none⟩=some (.bool false):=Q0b hA 4;have k9:w1.cell? ⟨wr.heap.size,5,none⟩=some (.bool false):=Q0b hA 5;have kb:w1.cell? ⟨wr.heap.size,6,none⟩=some (.bool false):=Q0b hA 6;have kd:w1.cell? ⟨wr.heap.size,7,none⟩=some (.bool false):=Q0b hA 7;have ke:w1.cell? ⟨wr.heap.size,8,none⟩=some (.bool false):=Q0b hA 8;have fa:=fun o=>Q0f hA o))))
  all_goals
   go_wp2_with fail
   go_meet;first
    |(have jg:=hA;exact⟨wr.heap.size,rfl,rfl,(z7a _ _ _ _ _ _ _ _ _ hA (((mRf _ wr).alloc _).drew.trans j4) (fun h=>absurd h (qBw _)) a0 a1 a2 a3 a4 a5 a6 a7 a8).1,qR _,(z7a _ _ _ _ _ _ _ _ _ hA (((mRf (fun _=>False) wr).alloc _).drew.trans j4) (fun h=>absurd h (qBw _)) a0 a1 a2 a3 a4 a5 a6 a7 a8).2⟩)
    |exact⟨w1.heap.size,rfl,rfl,((Mod.drew (mRf _ wr)).trans j4).alloc _,((Mod.drew (mRf (fun _=>False) wr)).trans j4).size,z0a _ _⟩
 obtain⟨p,rfl,rfl,j8,hp,ju⟩:=hcut;have jc:=hid (j8.at jt.out id);have js:=hid ju;have jj:=hid j8;have ji:Hid (Q0a w wc):=j6.trans j8;have kv:=z0j jc.out;have TU:=hid (z1c wc j3 [a0,a1,a2,a3,a4,a5,a6,a7,a8] j5.out rfl);have j2:=hid (z04 j5.out (show [a0,a1,a2,a3,a4,a5,a6,a7,a8].length=9 from rfl));generalize orL j3 [a0,a1,a2,a3,a4,a5,a6,a7,a8]=acc2 at TU j2 j9;clear j8 ju g0;cases b2
 ·have j7:Hid (acc2=RES):=by unfold Hid;have:=j9.out;simpa using this
  go_wp2_with (first
   |(go_at_call 66;have jg:=ja.out;refine(y5y _ acc2 j2.out).mono ?_;rintro e w3⟨v3,rfl,jo,jq⟩)
   |(go_at_call 65;refine TU.mono ?_;rintro e w2⟨rfl,je⟩;have ja:=hid (je.at jc.out id);have jh:=hid je)
   |(refine qAg rfl 147 _ _ rfl w.heap.size (tkA acc2) rfl rfl _ _ ja.out (Q0t j2.out) (Q0l (z0u j5.out) (z0u j2.out)) (z1h _) ?_;have jn:=hid (qAn _ _ _ (tkA acc2) _ _ ja.out))
   |(refine qAf rfl 147 _ rfl w.heap.size rfl _ (tkA acc2) _ _ jn.out qAk rfl (Q0t j2.out) ?_)
   |(refine qAf rfl 147 _ rfl w.heap.size rfl _ (tkA j3) _ _ jc.out qAk rfl (Q0t j5.out) ?_)
   |(refine qAf rfl 147 _ rfl p rfl _ (Q26 a0 a1 a2 a3 a4 a5 a6 a7 a8) _ _ js.out qAk rfl Q75 ?_))
  go_ret;refine⟨v3,rfl,((ji.trans jh.out).setRow (fun h=>absurd h (qBw _)) _).trans jo,?_⟩;rw[← j7.out];exact z0g jq (by have:=(ji.trans jh.out).size;simpa using this)
 have j7:Hid (wanL hs R (l.take m').reverse acc2=RES):=by unfold Hid;have:=j9.out;simpa using this
 go_wp2_with (first
  |(go_at_call 65;refine TU.mono ?_;rintro e w2⟨rfl,je⟩;have ja:=hid (je.at jc.out id);have jh:=hid je)
  |(refine qAg rfl 147 _ _ rfl w.heap.size (tkA acc2) rfl rfl _ _ ja.out (Q0t j2.out) (Q0l (z0u j5.out) (z0u j2.out)) (z1h _) ?_;have jn:=hid (qAn _ _ _ (tkA acc2) _ _ ja.out))
  |(refine qAf rfl 147 _ rfl w.heap.size rfl _ (tkA j3) _ _ jc.out qAk rfl (Q0t j5.out) ?_)
  |(refine qAf rfl 147 _ rfl p rfl _ (Q26 a0 a1 a2 a3 a4 a5 a6 a7 a8) _ _ js.out qAk rfl Q75 ?_))
 go_roundw
 case rel=>exact⟨m',_,acc2,rfl,rfl,by omega,j7.out,j2.out,(ji.trans jh.out).setRow (fun h=>absurd h (qBw _)) _,jn.out⟩
 exact k1.out
end Go.Proofs.YtbdpfmalabgmbaaGreat
