import Derived.Test.YtcpceafmlgaodaaGreatTw5
namespace Go.Proofs.YtcpceafmlgaodaaGreat
open Go.RowKit
set_option maxRecDepth 99999
set_option maxHeartbeats 0
set_option linter.all false
def wanL(hs:List Hd)(R:Nat):List Sy->List Bool->List Bool
 | [],acc=>Q2b acc R
 |s::l,acc=>if(Q2m hs [s] zero9).2 then wanL hs R l (orL acc (Q2m hs [s] zero9).1) else orL acc (Q2m hs [s] zero9).1
theorem x6z{a:List Bool}(h:a.length=9):orL a zero9=a:=by
 obtain⟨a0,a1,a2,a3,a4,a5,a6,a7,a8,rfl⟩:=Q7a h;simp[orL,zero9]
theorem y9f{a:List Bool}(h:a.length=9):orL zero9 a=a:=by
 obtain⟨a0,a1,a2,a3,a4,a5,a6,a7,a8,rfl⟩:=Q7a h;simp[orL,zero9]
theorem x6y{a:List Bool}(h:a.length=9)(n:Int):orL a (Q2b zero9 n)=Q2b a n:=by
 unfold Q2b;split
 ·rename_i hn;obtain⟨k,rfl⟩:∃k:Nat,n=k:=⟨n.toNat,by omega⟩;rw[qAl];have hk:k<9:=by omega
  obtain⟨a0,a1,a2,a3,a4,a5,a6,a7,a8,rfl⟩:=Q7a h;rcases k with _|_|_|_|_|_|_|_|_|k;all_goals first|(simp[orL,zero9];done)|omega
 exact x6z h
theorem x5b{hs:List Hd}(hok:∀x∈hs,x.ok)(R:Nat):∀(k:List Sy) (acc:List Bool),acc.length=9->wanL hs R k acc=if(Q2m hs k acc).2 then Q2b (Q2m hs k acc).1 R else(Q2m hs k acc).1
 | [],acc,_=>rfl
 |s::l,acc,ha=>by
  unfold wanL;have hf:=(z0k hok s.num).fi;cases h1:s.isH
  ·have e1:Q2m hs [s] zero9=(Q2b zero9 s.num,false):=by simp[Q2m,h1]
   have e2:Q2m hs (s::l) acc=(Q2b acc s.num,false):=by simp[Q2m,h1]
   rw[e1,e2];simp only[qF,qAp];exact x6y ha _
  cases h2:(Q1i hs s.num).nul
  ·have e1:Q2m hs [s] zero9=(orL zero9 (Q1i hs s.num).fi,false):=by simp[Q2m,h1,h2]
   have e2:Q2m hs (s::l) acc=(orL acc (Q1i hs s.num).fi,false):=by simp[Q2m,h1,h2]
   rw[e1,e2,y9f hf];simp
  have e1:Q2m hs [s] zero9=(orL zero9 (Q1i hs s.num).fi,true):=by simp[Q2m,h1,h2]
  have e2:Q2m hs (s::l) acc=Q2m hs l (orL acc (Q1i hs s.num).fi):=by simp[Q2m,h1,h2]
  rw[e1,e2,y9f hf];simp only[qBb];exact x5b hok R l _ (z04 ha hf)
theorem z61{S:Nat->Prop}{wr w1:World}{p:Nat}(c0 c1 c2 c3 c4 c5 c6 c7 c8:Bool)(hA:w1.heap[p]? = some (.cells (Q21 c0 c1 c2 c3 c4 c5 c6 c7 c8) 130 (0,0)))(hm:Mod S wr w1)(hp:p<wr.heap.size->S p)(a0 a1 a2 a3 a4 a5 a6 a7 a8:Bool) :
  Mod S wr (((((((((w1.setCell ⟨p,0,none⟩ (.bool a0)).setCell ⟨p,1,none⟩ (.bool a1)).setCell ⟨p,2,none⟩ (.bool a2)).setCell ⟨p,3,none⟩ (.bool a3)).setCell ⟨p,4,none⟩ (.bool a4)).setCell ⟨p,5,none⟩ (.bool a5)).setCell ⟨p,6,none⟩ (.bool a6)).setCell ⟨p,7,none⟩ (.bool a7)).setCell ⟨p,8,none⟩ (.bool a8))/\(((((((((w1.setCell ⟨p,0,none⟩ (.bool a0)).setCell ⟨p,1,none⟩ (.bool a1)).setCell ⟨p,2,none⟩ (.bool a2)).setCell ⟨p,3,none⟩ (.bool a3)).setCell ⟨p,4,none⟩ (.bool a4)).setCell ⟨p,5,none⟩ (.bool a5)).setCell ⟨p,6,none⟩ (.bool a6)).setCell ⟨p,7,none⟩ (.bool a7)).setCell ⟨p,8,none⟩ (.bool a8)).heap[p]? = some (.cells (Q21 a0 a1 a2 a3 a4 a5 a6 a7 a8) 130 (0,0)):=by
 refine⟨((((((((hm.setCell hp _).setCell hp _).setCell hp _).setCell hp _).setCell hp _).setCell hp _).setCell hp _).setCell hp _).setCell hp _,?_⟩;have h0:(w1.setCell ⟨p,0,none⟩ (.bool a0)).heap[p]? = some (.cells (Q21 a0 c1 c2 c3 c4 c5 c6 c7 c8) 130 (0,0)):=zhs hA 0 (.bool a0);have h1:((w1.setCell ⟨p,0,none⟩ (.bool a0)).setCell ⟨p,1,none⟩ (.bool a1)).heap[p]? = some (.cells (Q21 a0 a1 c2 c3 c4 c5 c6 c7 c8) 130 (0,0)):=zhs h0 1 (.bool a1);have h2:(((w1.setCell ⟨p,0,none⟩ (.bool a0)).setCell ⟨p,1,none⟩ (.bool a1)).setCell ⟨p,2,none⟩ (.bool a2)).heap[p]? = some (.cells (Q21 a0 a1 a2 c3 c4 c5 c6 c7 c8) 130 (0,0)):=zhs h1 2 (.bool a2);have h3:((((w1.setCell ⟨p,0,none⟩ (.bool a0)).setCell ⟨p,1,none⟩ (.bool a1)).setCell ⟨p,2,none⟩ (.bool a2)).setCell ⟨p,3,none⟩ (.bool a3)).heap[p]? = some (.cells (Q21 a0 a1 a2 a3 c4 c5 c6 c7 c8) 130 (0,0)):=zhs h2 3 (.bool a3);have h4:(((((w1.setCell ⟨p,0,none⟩ (.bool a0)).setCell ⟨p,1,none⟩ (.bool a1)).setCell ⟨p,2,none⟩ (.bool a2)).setCell ⟨p,3,none⟩ (.bool a3)).setCell ⟨p,4,none⟩ (.bool a4)).heap[p]? = some (.cells (Q21 a0 a1 a2 a3 a4 c5 c6 c7 c8) 130 (0,0)):=zhs h3 4 (.bool a4);have h5:((((((w1.setCell ⟨p,0,none⟩ (.bool a0)).setCell ⟨p,1,none⟩ (.bool a1)).setCell ⟨p,2,none⟩ (.bool a2)).setCell ⟨p,3,none⟩ (.bool a3)).setCell ⟨p,4,none⟩ (.bool a4)).setCell ⟨p,5,none⟩ (.bool a5)).heap[p]? = some (.cells (Q21 a0 a1 a2 a3 a4 a5 c6 c7 c8) 130 (0,0)):=zhs h4 5 (.bool a5);have h6:(((((((w1.setCell ⟨p,0,none⟩ (.bool a0)).setCell ⟨p,1,none⟩ (.bool a1)).setCell ⟨p,2,none⟩ (.bool a2)).setCell ⟨p,3,none⟩ (.bool a3)).setCell ⟨p,4,none⟩ (.bool a4)).setCell ⟨p,5,none⟩ (.bool a5)).setCell ⟨p,6,none⟩ (.bool a6)).heap[p]? = some (.cells (Q21 a0 a1 a2 a3 a4 a5 a6 c7 c8) 130 (0,0)):=zhs h5 6 (.bool a6);have h7:((((((((w1.setCell ⟨p,0,none⟩ (.bool a0)).setCell ⟨p,1,none⟩ (.bool a1)).setCell ⟨p,2,none⟩ (.bool a2)).setCell ⟨p,3,none⟩ (.bool a3)).setCell ⟨p,4,none⟩ (.bool a4)).setCell ⟨p,5,none⟩ (.bool a5)).setCell ⟨p,6,none⟩ (.bool a6)).setCell ⟨p,7,none⟩ (.bool a7)).heap[p]? = some (.cells (Q21 a0 a1 a2 a3 a4 a5 a6 a7 c8) 130 (0,0)):=zhs h6 7 (.bool a7);have h8:(((((((((w1.setCell ⟨p,0,none⟩ (.bool a0)).setCell ⟨p,1,none⟩ (.bool a1)).setCell ⟨p,2,none⟩ (.bool a2)).setCell ⟨p,3,none⟩ (.bool a3)).setCell ⟨p,4,none⟩ (.bool a4)).setCell ⟨p,5,none⟩ (.bool a5)).setCell ⟨p,6,none⟩ (.bool a6)).setCell ⟨p,7,none⟩ (.bool a7)).setCell ⟨p,8,none⟩ (.bool a8)).heap[p]? = some (.cells (Q21 a0 a1 a2 a3 a4 a5 a6 a7 a8) 130 (0,0)):=zhs h7 8 (.bool a8);exact h8
theorem x0v(w:World)(gb fb:Nat)(L:List Int)(R H:Nat)(vp vh:Value)(ps:List PV)(hs:List Hd)(k:List Sy)(v:Value)(base:Nat)
  (hb:w.heap[gb]? = some (.cells (gdA (Q25 fb) L) 128 (0,0))) (hF:FA w fb R H vp vh ps hs) (hk:SyOwn w base v k.reverse) (hkl:k.length<=10000000) (hR:R<=8) :
  Calls Tryz.prog 23 #[Q25 gb,v] w fun e w'=>∃v',e=.returned v'/\Q0a w w'/\IntOwn w' w.heap.size v' (Q28 (Q5y hs R k)):=by
 have HW:Hid (wanL hs R k zero9=Q5y hs R k):=by unfold Hid;rw[x5b hF.ok R k zero9 rfl];rfl
 rw[← HW.out];have jk:k=k.reverse.reverse:=by simp
 have jg:k.reverse.length<=10000000:=by simpa using hkl
 rw[jk];generalize k.reverse=l at hk jg;clear jk hkl HW;unfold SyOwn at hk;obtain⟨ka,kc,hvk⟩:=z0d hk;subst hvk;have HF:=hid hF;have HB:=hid hb;have HK:=hid hk;have jq:=hid hF.ok;generalize hRES:wanL hs R l.reverse zero9=RES;have jc:=hid hRES;have k9:=z0j hb;have k7:=z0j hF.blk;clear hb hF hk hRES;go_enter Tryz.func23,Tryz.ntmps23
 go_wp2;go_loopw [6] (fun x6 wr=>∃(m:Nat) (q:Int) (acc:List Bool),x6=.int .i64 q/\q=(m:Int)-1/\m<=l.length/\wanL hs R (l.take m).reverse acc=RES/\acc.length=9/\Q0a w wr/\wr.heap[w.heap.size]? = some (.cells (tkA acc) 130 (0,0)))
   (fun x _=>(intOf x+1).toNat)
 case atStart=>exact⟨l.length,_,zero9,rfl,rfl,qR _,by rw[qAr];exact jc.out,rfl,(mRf _ w).alloc _,by rw[z0a];rfl⟩
 obtain⟨m,q,acc,rfl,hq,hm,hres,hacc,hfr,hbx⟩:=hrel;have j3:=hid hfr;have jj:=hid hbx;have j2:=hid hacc;have g0:wr.cell? ⟨gb,0,none⟩=some (Q25 fb):=by
  have:=Q0b (hfr.at HB.out (fun x=>x)) 0;rw[this];rfl
 have kg:=z0j hbx;have kb:gb<wr.heap.size:=by have:=hfr.size;omega
 have k8:fb<wr.heap.size:=by have:=hfr.size;omega
 clear hfr hbx hacc;by_cases hm0:m=0
 ·have k5:q=-1:=by omega
  subst k5;subst hm0;simp only[List.take_zero,List.reverse_nil,wanL]at hres;have j5:=hid hres;have r0:wr.cell? ⟨fb,0,none⟩=some (.int .i64 R):=by
   have:=(HF.fresh j3.out).cell 0;rw[this];rfl
  clear hres hq;obtain⟨c0,c1,c2,c3,c4,c5,c6,c7,c8,e9⟩:=Q7a j2.out;subst e9;have je:=z2m (n:=(R:Int)) (show [c0,c1,c2,c3,c4,c5,c6,c7,c8].length=9 from rfl);have TW:Hid (∀W:World,Calls Tryz.prog 56 #[.agg (Q21 c0 c1 c2 c3 c4 c5 c6 c7 c8),.int .i64 R] W fun e w'=>e=.returned (.agg (tkA (Q2b [c0,c1,c2,c3,c4,c5,c6,c7,c8] R)))/\Q0a W w'):=fun W=>z95 W [c0,c1,c2,c3,c4,c5,c6,c7,c8] R rfl;generalize Q2b [c0,c1,c2,c3,c4,c5,c6,c7,c8] (R:Int)=wt at je TW j5;obtain⟨d0,d1,d2,d3,d4,d5,d6,d7,d8,e9⟩:=Q7a je;subst e9;have jr:Hid (∀W:World,Calls Tryz.prog 56 #[.agg (Q21 c0 c1 c2 c3 c4 c5 c6 c7 c8),.int .i64 R] W fun e w'=>e=.returned (.agg (Q21 d0 d1 d2 d3 d4 d5 d6 d7 d8))/\Q0a W w'):=TW.out;have j0:wr.heap[w.heap.size]? = some (.cells (Q21 c0 c1 c2 c3 c4 c5 c6 c7 c8) 130 (0,0)):=jj.out;have jn:=hid j0;have x0:=Q0b j0 0;have x1:=Q0b j0 1;have x2:=Q0b j0 2;have x3:=Q0b j0 3;have x4:=Q0b j0 4;have x5:=Q0b j0 5;have x6:=Q0b j0 6;have x7:=Q0b j0 7;have x8:=Q0b j0 8;simp at x0 x1 x2 x3 x4 x5 x6 x7 x8;clear TW je j0;go_upto_region 9 with fail
  go_cut [] (fun wx=>Q0a w wx/\wx.heap[w.heap.size]? = some (.cells (Q21 d0 d1 d2 d3 d4 d5 d6 d7 d8) 130 (0,0)))
  case first =>
   go_region_with (first
    |(go_at_call 56;refine(jr.out _).mono ?_;rintro e w1⟨rfl,hf1⟩;have hA:=hf1.at jn.out (fun x=>x);have js:w1.cell? ⟨w.heap.size,0,none⟩=some (.bool c0):=Q0b hA 0;have jt:w1.cell? ⟨w.heap.size,1,none⟩=some (.bool c1):=Q0b hA 1;have ju:w1.cell? ⟨w.heap.size,2,none⟩=some (.bool c2):=Q0b hA 2;have jv:w1.cell? ⟨w.heap.size,3,none⟩=some (.bool c3):=Q0b hA 3;have jw:w1.cell? ⟨w.heap.size,4,none⟩=some (.bool c4):=Q0b hA 4;have jx:w1.cell? ⟨w.heap.size,5,none⟩=some (.bool c5):=Q0b hA 5;have jy:w1.cell? ⟨w.heap.size,6,none⟩=some (.bool c6):=Q0b hA 6;have jz:w1.cell? ⟨w.heap.size,7,none⟩=some (.bool c7):=Q0b hA 7;have k0:w1.cell? ⟨w.heap.size,8,none⟩=some (.bool c8):=Q0b hA 8;have fa:=fun o=>Q0g hA o))
   all_goals
    go_wp2_with fail
    go_meet;exact z61 _ _ _ _ _ _ _ _ _ hA (j3.trans (Mod.trans (Mod.drew (mRf _ wr)) hf1)) (fun h=>absurd h (qBk _)) d0 d1 d2 d3 d4 d5 d6 d7 d8
  obtain⟨hfx,hbx⟩:=hcut;have jb:=hid hfx;have jo:=hid hbx;clear hfx hbx x0 x1 x2 x3 x4 x5 x6 x7 x8 g0 r0;go_wp2_with (first
   |(go_at_call 55;refine(y5g _ [d0,d1,d2,d3,d4,d5,d6,d7,d8] rfl).mono ?_;rintro e w3⟨v3,rfl,hf3,ho3⟩)
   |(refine wpList_load_row rfl 130 _ rfl w.heap.size rfl _ (Q21 d0 d1 d2 d3 d4 d5 d6 d7 d8) _ _ jo.out Tryz.underlying130 rfl Q7s ?_))
  go_ret;refine⟨v3,rfl,jb.trans hf3,?_⟩;rw[← j5.out];exact z0f ho3 jb.size
 obtain⟨m',rfl⟩:∃m',m=m'+1:=⟨m-1,by omega⟩;have k6:q=(m':Int):=by omega
 clear hq;subst k6;have jl:m'<l.length:=by omega
 have ke:(m':Int)<(l.length:Int):=by omega
 have jp:Hid (((m':Int)-1+1).toNat<((m':Int)+1).toNat):=by unfold Hid;omega
 rw[Q6g jl,List.reverse_append,List.reverse_singleton,List.singleton_append]at hres;unfold wanL at hres;obtain⟨g,cap',hv'⟩:=Joins.ownsRow_form HK.out (by omega);rw[qI]at hv';obtain⟨rfl,_,rfl⟩:=hv';have kd:l.length<=kc:=by
  rcases HK.2 with⟨h1,_⟩|⟨g',c',cur,h1,_,_,h2,_⟩
  ·cases h1
  rw[qI]at h1;obtain⟨_,_,rfl⟩:=h1;exact h2
 have k1:kc<=maxLen:=by
  rcases HK.2 with⟨h1,_⟩|⟨g',c',cur,h1,_,_,_,h2,_⟩
  ·cases h1
  rw[qI]at h1;obtain⟨_,_,rfl⟩:=h1;exact h2
 unfold maxLen at k1;have k3:(m':Int)+1<=(kc:Int):=by omega
 have k4:¬kc=m':=by omega
 have kh:IntKind.i64.wrap ((m':Int)+1)=(m':Int)+1:=by rw[IntKind.wrap_i64];omega
 have jd:=z09 jq.out [l[m']] zero9 rfl;have BA:Hid (∀W:World,Q0a w W->Calls Tryz.prog 53 #[Q25 fb,.slice (some ⟨g,m'*2,none⟩) 1 (kc-m')] W fun e w'=>e=.returned (.tuple #[.agg (tkA (Q2m hs [l[m']] zero9).1),.bool (Q2m hs [l[m']] zero9).2])/\Q0a W w'):=fun W hW =>
  z52 W fb R H vp vh ps hs w.heap.size _ [l[m']] (HF.fresh hW) hW.size ⟨some ⟨g,m'*2,none⟩,kc-m',rfl,by simp;omega,by unfold maxLen;omega,fun i hi=>by
   have k2:i=0:=by simpa using hi
   subst k2;refine⟨g,m'*2,rfl,(HK.lt g rfl).2,?_⟩;have jh:Q2e Sy.cells 2 69 w (.slice (some ⟨g,0,none⟩) l.length kc) l:=⟨z0f HK.out (qBg _),fun _ _=>rfl⟩;have:=jh.range m' jl;simpa using z0t this (hW.block g (HK.lt g rfl).2 (fun x=>x))⟩
 generalize Q2m hs [l[m']] zero9=bg at hres jd BA;obtain⟨b1,b2⟩:=bg;dsimp only at hres jd BA;obtain⟨a0,a1,a2,a3,a4,a5,a6,a7,a8,e9⟩:=Q7a jd;subst e9;have jm:Hid (∀W:World,Q0a w W->Calls Tryz.prog 53 #[Q25 fb,.slice (some ⟨g,m'*2,none⟩) 1 (kc-m')] W fun e w'=>e=.returned (.tuple #[.agg (Q21 a0 a1 a2 a3 a4 a5 a6 a7 a8),.bool b2])/\Q0a W w'):=BA.out;have j5:=hid hres;clear hres BA;go_upto_region 5 with fail
 go_cut [7,8] (fun s7 s8 wx=>∃p,s7=.pointer (some ⟨p,0,none⟩)/\s8=.bool b2/\Q0a wr wx/\wr.heap.size<=p/\wx.heap[p]? = some (.cells (Q21 a0 a1 a2 a3 a4 a5 a6 a7 a8) 130 (0,0)))
 case first =>
  go_region_with (first
   |(go_at_call 53;refine(jm.out _ (by first|exact j3.drew|exact(j3.alloc _).drew|exact(j3.drew).alloc _|exact j3.out)).mono ?_;rintro e w1⟨rfl,hf1⟩;(try (have hA:w1.heap[wr.heap.size]? = some (.cells #[.bool false,.bool false,.bool false,.bool false,.bool false,.bool false,.bool false,.bool false,.bool false] 130 (0,0)):=hf1.at (z0a wr _) (fun x=>x);have js:w1.cell? ⟨wr.heap.size,0,none⟩=some (.bool false):=Q0b hA 0;have jt:w1.cell? ⟨wr.heap.size,1,none⟩=some (.bool false):=Q0b hA 1;have ju:w1.cell? ⟨wr.heap.size,2,none⟩=some (.bool false):=Q0b hA 2;have jv:w1.cell? ⟨wr.heap.size,3,none⟩=some (.bool false):=Q0b hA 3;have jw:w1.cell? ⟨wr.heap.size,4,none⟩=some (.bool false):=Q0b hA 4;have jx:w1.cell? ⟨wr.heap.size,5,none⟩=some (.bool false):=Q0b hA 5;have jy:w1.cell? ⟨wr.heap.size,6,none⟩=some (.bool false):=Q0b hA 6;have jz:w1.cell? ⟨wr.heap.size,7,none⟩=some (.bool false):=Q0b hA 7;have k0:w1.cell? ⟨wr.heap.size,8,none⟩=some (.bool false):=Q0b hA 8;have fa:=fun o=>Q0g hA o))))
  all_goals
   go_wp2_with fail
   go_meet;first
    |(have j8:=hA;exact⟨wr.heap.size,rfl,rfl,(z61 _ _ _ _ _ _ _ _ _ hA (((mRf _ wr).alloc _).drew.trans hf1) (fun h=>absurd h (qBk _)) a0 a1 a2 a3 a4 a5 a6 a7 a8).1,qR _,(z61 _ _ _ _ _ _ _ _ _ hA (((mRf (fun _=>False) wr).alloc _).drew.trans hf1) (fun h=>absurd h (qBk _)) a0 a1 a2 a3 a4 a5 a6 a7 a8).2⟩)
    |exact⟨w1.heap.size,rfl,rfl,((Mod.drew (mRf _ wr)).trans hf1).alloc _,((Mod.drew (mRf (fun _=>False) wr)).trans hf1).size,z0a _ _⟩
 obtain⟨p,rfl,rfl,hfx,hp,hbp⟩:=hcut;have j7:=hid (hfx.at jj.out (fun x=>x));have ji:=hid hbp;have jb:=hid hfx;have ja:Hid (Q0a w wc):=j3.trans hfx;have kf:=z0j j7.out;have TU:=hid (z1b wc acc [a0,a1,a2,a3,a4,a5,a6,a7,a8] j2.out rfl);have j1:=hid (z04 j2.out (show [a0,a1,a2,a3,a4,a5,a6,a7,a8].length=9 from rfl));generalize orL acc [a0,a1,a2,a3,a4,a5,a6,a7,a8]=acc2 at TU j1 j5;clear hfx hbp g0;cases b2
 ·have j4:Hid (acc2=RES):=by unfold Hid;have:=j5.out;simpa using this
  go_wp2_with (first
   |(go_at_call 55;have j8:=j6.out;refine(y5g _ acc2 j1.out).mono ?_;rintro e w3⟨v3,rfl,hf3,ho3⟩)
   |(go_at_call 54;refine TU.mono ?_;rintro e w2⟨rfl,hf2⟩;have j6:=hid (hf2.at j7.out (fun x=>x));have j9:=hid hf2)
   |(refine wpList_store_row rfl 130 _ _ rfl w.heap.size (tkA acc2) rfl rfl _ _ j6.out (Q0s j1.out) (Q0k (z0u j2.out) (z0u j1.out)) (z1g _) ?_;have jf:=hid (setRow_heap _ _ _ (tkA acc2) _ _ j6.out))
   |(refine wpList_load_row rfl 130 _ rfl w.heap.size rfl _ (tkA acc2) _ _ jf.out Tryz.underlying130 rfl (Q0s j1.out) ?_)
   |(refine wpList_load_row rfl 130 _ rfl w.heap.size rfl _ (tkA acc) _ _ j7.out Tryz.underlying130 rfl (Q0s j2.out) ?_)
   |(refine wpList_load_row rfl 130 _ rfl p rfl _ (Q21 a0 a1 a2 a3 a4 a5 a6 a7 a8) _ _ ji.out Tryz.underlying130 rfl Q7s ?_))
  go_ret;refine⟨v3,rfl,((ja.trans j9.out).setRow (fun h=>absurd h (qBk _)) _).trans hf3,?_⟩;rw[← j4.out];exact z0f ho3 (by have:=(ja.trans j9.out).size;simpa using this)
 have j4:Hid (wanL hs R (l.take m').reverse acc2=RES):=by unfold Hid;have:=j5.out;simpa using this
 go_wp2_with (first
  |(go_at_call 54;refine TU.mono ?_;rintro e w2⟨rfl,hf2⟩;have j6:=hid (hf2.at j7.out (fun x=>x));have j9:=hid hf2)
  |(refine wpList_store_row rfl 130 _ _ rfl w.heap.size (tkA acc2) rfl rfl _ _ j6.out (Q0s j1.out) (Q0k (z0u j2.out) (z0u j1.out)) (z1g _) ?_;have jf:=hid (setRow_heap _ _ _ (tkA acc2) _ _ j6.out))
  |(refine wpList_load_row rfl 130 _ rfl w.heap.size rfl _ (tkA acc) _ _ j7.out Tryz.underlying130 rfl (Q0s j2.out) ?_)
  |(refine wpList_load_row rfl 130 _ rfl p rfl _ (Q21 a0 a1 a2 a3 a4 a5 a6 a7 a8) _ _ ji.out Tryz.underlying130 rfl Q7s ?_))
 go_roundw
 case rel=>exact⟨m',_,acc2,rfl,rfl,by omega,j4.out,j1.out,(ja.trans j9.out).setRow (fun h=>absurd h (qBk _)) _,jf.out⟩
 exact jp.out
end Go.Proofs.YtcpceafmlgaodaaGreat
