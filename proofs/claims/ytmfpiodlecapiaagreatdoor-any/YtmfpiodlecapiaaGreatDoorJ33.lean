import Derived.Test.YtmfpiodlecapiaaGreatDoorJ32
import Derived.Shelf.Bytes.SlJoin
set_option maxHeartbeats 1000000
set_option maxRecDepth 20000
namespace Go.Proofs.YtmfpiodlecapiaaGreatDoor
open Go.RowKit Go.Deep Go.bB
attribute [local go_sem↓] Go.wp_at_zero Go.wp_at_succ
theorem TQ{Kn Kr:Act->World->Prop}{K V n pb po cpp Dn:Nat}{xs:List Value}{w:World}{j3 j4 j5 j6 j7 j9 l1 l3 k9 l2 b9 g8 d7 d4 b7 b5 b3 a2 g1 e6 c5 c6 d5 g4 d6 e5 f6 g3 f0 c2 c3 a1 b6 a5 i1 i2 i4 j2 g9 g7 i3 i6 j8 i8 i9 j0 i7 k0 k8 k7 j1 g5 g6 h0 h9 b2 a6 a7 b8 f7 d8 f8 c7 d9 g0 d1 d0 c4 d2 e9 d3 c9 f9 e7 g2 e8 c8 b4 a8:Value}(hn:Hid (n=K+V))(hK1:1<=K)(hK:K<=20)(hV:V<=20)(VP:n<=cpp)(hcm:cpp<=9223372036854775807)(hxl:Hid (xs.length=K))(hx1:∀u∈xs,u.oneCell'=true)(hc:∀j u,xs[j]? =some u->w.cell? ⟨pb,po+j,none⟩=some u)
  (hQ:∀(gO dA:Nat) (cur:List Value) (aM:Option Addr) (cM:Nat) (h22 h23 Lx Lu Ls h27 SG:Value) (w':World),Below w.heap.size w w'->w.heap.size<=gO->aB w' gO 28 cur->cur.take K=xs->K<=dA->dA<=maxLen->cur.length=dA->(0<V->aM=some ⟨pb,po+K,none⟩)->Kn ⟨#[.slice (some ⟨pb,po,none⟩) n cpp,.int .i64 V,.chan (some Dn),j3,j4,j5,j6,j7,.int .i64 K,.slice (some ⟨gO,0,none⟩) K dA,.slice aM V cM,l3,k9,l2,b9,g8,d7,d4,b7,b5,b3,a2,h22,h23,Lx,Lu,Ls,h27,SG,e5,f6,g3,f0,c2,c3,a1,b6,a5,i1,i2,i4,j2,g9,g7,i3,i6,j8,i8,i9,j0,i7,k0,k8,k7,j1,g5,g6,h0,h9,b2,a6,a7,b8,f7,d8,f8,c7,d9,g0,d1,d0,c4,d2,e9,d3,c9,f9,e7,g2,e8,c8,b4,a8],[]⟩ w'):
  (dP [1,1,0] (Tryz.f91.body.getD .skip)).wp Tryz.prog (xX Kn Kr) ⟨#[.slice (some ⟨pb,po,none⟩) n cpp,.int .i64 V,.chan (some Dn),j3,j4,j5,j6,j7,.int .i64 K,j9,l1,l3,k9,l2,b9,g8,d7,d4,b7,b5,b3,a2,g1,e6,c5,c6,d5,g4,d6,e5,f6,g3,f0,c2,c3,a1,b6,a5,i1,i2,i4,j2,g9,g7,i3,i6,j8,i8,i9,j0,i7,k0,k8,k7,j1,g5,g6,h0,h9,b2,a6,a7,b8,f7,d8,f8,c7,d9,g0,d1,d0,c4,d2,e9,d3,c9,f9,e7,g2,e8,c8,b4,a8],[]⟩ w:=by
 have HQ:=hide hQ;have HC:=hide hc
 clear hQ hc;have hCl:Hid (∀w1:World,(∀j u,xs[j]? =some u->w1.cell? ⟨pb,po+j,none⟩=some u)->Calls Tryz.prog 147 #[.slice (some ⟨pb,po,none⟩) K cpp] w1 fun e w'=>∃v,e= .returned v/\bM w' 28 v xs/\(∀k,v.ownBlock=some k->w1.heap.size<=k)/\Below w1.heap.size w1 w'):=fun w1 h=>JR pb po K cpp xs hxl hx1 (by omega) w1 h;have hop:Hid (∀(w':World) (v:Value),bM w' 28 v xs->(∀k,v.ownBlock=some k->w.heap.size<=k)->∃gO dA cur,v= .slice (some ⟨gO,0,none⟩) K dA/\w.heap.size<=gO/\aB w' gO 28 cur/\cur.take K=xs/\K<=dA/\dA<=maxLen/\cur.length=dA):=fun w' v h1 h2=>by
  obtain⟨g,cap,cur,rfl,k1,k2,k3,k4,k5⟩:=h1.open' (by rw[hxl.out];omega);rw[hxl.out]at k2 k5;exact⟨g,cap,cur,by rw[hxl.out],h2 g rfl,k1,k5,k2,k3,k4⟩
 have hKn:(K:Int)<=(n:Int):=by have:=hn.out;omega
 have hKc:(K:Int)<=(cpp:Int):=by omega
 have hnc:(n:Int)<=(cpp:Int):=by omega
 have hK0:(0:Int)<=(K:Int):=by omega
 have hnK:n-K=V:=by have:=hn.out;omega
 have hnK2:(n:Int)-(K:Int)=(V:Int):=by have:=hn.out;omega
 simp only[Tryz.f91,Option.getD_some,dP];by_cases hck:cpp=K
 ·have hV0:V=0:=by have:=hn.out;omega
  subst hV0;subst hck;go_region_with (go_at_call 147;refine(hCl.out w.drew HC.out).mono ?_;rintro _ w1 ⟨v,rfl,hv1,hv2,hv3⟩;obtain⟨gO,dA,cur,rfl,k1,k2,k3,k4,k5,k6⟩:=hop.out w1 v hv1 hv2;clear hv1 hv2;have k1:=hide k1;have k2:=hide k2;have k3:=hide k3;have k4:=hide k4;have k5:=hide k5;have k6:=hide k6;have hv3:=hide hv3)
  all_goals
   go_wp2;exact HQ.out gO dA cur _ _ _ _ _ _ _ _ _ w1 ((Below.refl _ w).drew.trans hv3.out) k1.out k2.out k3.out k4.out k5.out k6.out (fun h=>absurd h (Nat.lt_irrefl _))
 ·have hck2:¬(cpp:Int)=(K:Int):=by omega
  go_region_with (go_at_call 147;refine(hCl.out w.drew HC.out).mono ?_;rintro _ w1 ⟨v,rfl,hv1,hv2,hv3⟩;obtain⟨gO,dA,cur,rfl,k1,k2,k3,k4,k5,k6⟩:=hop.out w1 v hv1 hv2;clear hv1 hv2;have k1:=hide k1;have k2:=hide k2;have k3:=hide k3;have k4:=hide k4;have k5:=hide k5;have k6:=hide k6;have hv3:=hide hv3)
  all_goals
   go_wp2;exact HQ.out gO dA cur _ _ _ _ _ _ _ _ _ w1 ((Below.refl _ w).drew.trans hv3.out) k1.out k2.out k3.out k4.out k5.out k6.out (fun _=>rfl)
theorem TP{Kn Kr:Act->World->Prop}{K V n pb po cpp Dn gO dA cM:Nat}{aM:Option Addr}{cur:List Value}{pa:Nat->Option Addr}{pl pc:Nat->Nat}{w:World}{j3 j4 j5 j6 j7 l3 k9 l2 b9 g8 d7 d4 b7 b5 b3 a2 g1 e6 c5 c6 d5 g4 d6 e5 f6 g3 f0 c2 c3 a1 b6 a5 i1 i2 i4 j2 g9 g7 i3 i6 j8 i8 i9 j0 i7 k0 k8 k7 j1 g5 g6 h0 h9 b2 a6 a7 b8 f7 d8 f8 c7 d9 g0 d1 d0 c4 d2 e9 d3 c9 f9 e7 g2 e8 c8 b4 a8:Value}(hK:K<=20)(hV:V<=20)(hO:aB w gO 28 cur)(hcur:∀i,i<K->cur[i]? =some (.slice (pa i) (pl i) (pc i)))(hM:0<V->aM=some ⟨pb,po+K,none⟩)(WU:∀j,j<V->w.cell? ⟨pb,po+K+j,none⟩=some (.slice (pa (K+j)) (pl (K+j)) (pc (K+j))))
  (hQ:∀(vL vE:Value) (SF SE h31 h32:Value) (w':World),Below w.heap.size w w'->bM w' 3 vL (bW (picks pa false K))->(∀k,vL.ownBlock=some k->w.heap.size<=k)->bM w' 3 vE (bW (picks (fun j=>pa (K+j)) true V))->(∀k,vE.ownBlock=some k->w.heap.size<=k)->Kn ⟨#[.slice (some ⟨pb,po,none⟩) n cpp,.int .i64 V,.chan (some Dn),j3,j4,j5,j6,j7,.int .i64 K,.slice (some ⟨gO,0,none⟩) K dA,.slice aM V cM,vL,vE,l2,b9,g8,d7,d4,b7,b5,b3,a2,g1,e6,c5,c6,d5,g4,d6,SF,SE,h31,h32,c2,c3,a1,b6,a5,i1,i2,i4,j2,g9,g7,i3,i6,j8,i8,i9,j0,i7,k0,k8,k7,j1,g5,g6,h0,h9,b2,a6,a7,b8,f7,d8,f8,c7,d9,g0,d1,d0,c4,d2,e9,d3,c9,f9,e7,g2,e8,c8,b4,a8],[]⟩ w'):
  (dP [1,1,1,0] (Tryz.f91.body.getD .skip)).wp Tryz.prog (xX Kn Kr) ⟨#[.slice (some ⟨pb,po,none⟩) n cpp,.int .i64 V,.chan (some Dn),j3,j4,j5,j6,j7,.int .i64 K,.slice (some ⟨gO,0,none⟩) K dA,.slice aM V cM,l3,k9,l2,b9,g8,d7,d4,b7,b5,b3,a2,g1,e6,c5,c6,d5,g4,d6,e5,f6,g3,f0,c2,c3,a1,b6,a5,i1,i2,i4,j2,g9,g7,i3,i6,j8,i8,i9,j0,i7,k0,k8,k7,j1,g5,g6,h0,h9,b2,a6,a7,b8,f7,d8,f8,c7,d9,g0,d1,d0,c4,d2,e9,d3,c9,f9,e7,g2,e8,c8,b4,a8],[]⟩ w:=by
 have HQ:=hide hQ;have hL:Hid (∀(ax:Array Value) (w2:World),ax=#[.slice (some ⟨gO,0,none⟩) K dA,.bool false]->w2=w->Calls Tryz.prog 148 ax w2 fun e w'=>∃v,e= .returned v/\bM w' 3 v (bW (picks pa false K))/\(∀k,v.ownBlock=some k->w.heap.size<=k)/\Below w.heap.size w w'):=
  fun ax w2 e1 e2=>by rw[e1,e2];exact wU gO 0 K dA pa pl pc false (by omega) w (fun j hj=>by rw[Nat.zero_add];exact hO.cell j _ (hcur j hj))
 have hE:Hid (∀w1,Below w.heap.size w w1->Calls Tryz.prog 148 #[.slice aM V cM,.bool true] w1 fun e w'=>∃v,e= .returned v/\bM w' 3 v (bW (picks (fun j=>pa (K+j)) true V))/\(∀k,v.ownBlock=some k->w1.heap.size<=k)/\Below w1.heap.size w1 w'):=by
  intro w1 hb;rcases Nat.eq_zero_or_pos V with hV0|hVp
  ·subst hV0;refine(Hq aM cM true w1).mono ?_;rintro e w' ⟨rfl,rfl⟩;exact⟨_,rfl,by simpa[picks,bW]using iW _ _,by intro k hk;simp[Value.ownBlock]at hk,Below.refl _ _⟩
  ·rw[hM hVp];refine wU pb (po+K) V cM (fun j=>pa (K+j)) (fun j=>pl (K+j)) (fun j=>pc (K+j)) true (by omega) w1 (fun j hj=>?_);have h:=WU j hj;rw[hb.cell (show pb<w.heap.size from bG h)];exact h
 clear hQ hO hcur hM WU;simp only[Tryz.f91,Option.getD_some,dP];go_wp2_with first|(go_at_call 148;refine(hL.out _ _ ?e1 ?e2).mono ?_;(case e1=>exact rfl);(case e2=>exact rfl);rintro _ w1 ⟨vL,rfl,hv1,hv2,hv3⟩;have hE1:Hid (∀(ax:Array Value) (w2:World),ax=#[.slice aM V cM,.bool true]->w2=w1->Calls Tryz.prog 148 ax w2 fun e w'=>∃v,e= .returned v/\bM w' 3 v (bW (picks (fun j=>pa (K+j)) true V))/\(∀k,v.ownBlock=some k->w1.heap.size<=k)/\Below w1.heap.size w1 w'):=(fun ax w2 e1 e2=>by rw[e1,e2];exact hE.out w1 hv3);replace hv1:=hide hv1;replace hv2:=hide hv2;replace hv3:=hide hv3)|(go_at_call 148;refine(hE1.out _ _ ?e3 ?e4).mono ?_;(case e3=>exact rfl);(case e4=>exact rfl);rintro _ w2 ⟨vE,rfl,hu1,hu2,hu3⟩;replace hu1:=hide hu1;replace hu2:=hide hu2;replace hu3:=hide hu3)
 have hb2:Below w.heap.size w w2:=hv3.out.trans ⟨hu3.out.os,hu3.out.tape,hu3.out.output,hu3.out.size,fun k hk=>hu3.out.block k (Nat.lt_of_lt_of_le hk hv3.out.size)⟩;exact HQ.out vL vE _ _ _ _ w2 hb2 (hv1.out.later hu3.out) hv2.out hu1.out (fun k hk=>Nat.le_trans hv3.out.size (hu2.out k hk))
theorem TN{Kn Kr:Act->World->Prop}{K V n pb po cpp Dn gO dA cM gL mI gE oL nE m s c:Nat}{cur ji Dl:List Value}{pa:Nat->Option Addr}{pl pc:Nat->Nat}{L E:List Nat}{kn:Nat->Option (List Nat)}{V5:Nat->List Nat}{w:World}{j3 j4 j5 j6 j7 b9 g8 d7 d4 b7 b5 b3 a2 g1 e6 c5 c6 d5 g4 d6 e5 f6 g3 f0 c2 c3 a1 b6 a5 i1 i2 i4 j2 g9 g7 i3 i6 j8 i8 i9 j0 i7 k0 k8 k7 j1 g5 g6 h0 h9 b2 a6 a7 b8 f7 d8 f8 c7 d9 g0 d1 d0 c4 d2 e9 d3 c9 f9 e7 g2 e8 c8 b4 a8:Value}(hK:K<=20)(hV:V<=20)(hs0:1<=s)(hs:s<=65536)(hm1:1<=m)(hmK:m<=20)(hmE:m<=nE)(Y5:nE<=20)(hcE:nE<=oL)(hc:Hid (m+s=c))(hcc:c<=65536)(hm:Hid (L.length=m))(hEl:Hid (E.length=nE))
  (hL32:∀x∈L,x<32)(hEV:∀x∈E,x<V)(hO:aB w gO 28 cur)(hcur:∀i,i<K->∃v,cur[i]? =some v/\L8 w v (kn i))(hks:∀i b,kn i=some b->b.length=s/\∀x∈b,x<256)(hLr:aB w gL 3 ji)(YF:Hid (ji.take m=bW L))(hEr:aB w gE 3 Dl)(hEt:Hid (Dl.take nE=bW E))
  (WU:∀j,j<V->w.cell? ⟨pb,po+K+j,none⟩=some (.slice (pa (K+j)) (pl (K+j)) (pc (K+j))))(hP:∀q,q<m->Bytes w (.slice (pa (K+E[q]?.getD 0)) (pl (K+E[q]?.getD 0)) (pc (K+E[q]?.getD 0))) (V5 q)/\(V5 q).length=s)
  (hQ:∀(rv:Value) (rg:Nat->Nat) (Uy Lr Lp Lm Ll Lj h43 Lh h45 h46 h47 h48 SC h50 SB SA Sz Sv Sr Sn h57 Sm:Value) (w':World),Below w.heap.size w w'->zh w' rv m c rg->dO w' m c rg (fun i j=>(dU m s (E[i]?.getD 0) kn (L.map (Pk.weight (E[i]?.getD 0) ·)++V5 i) K)[j]?.getD 0)->(∀i,i<m->w.heap.size<=rg i)->(∀k,rv.ownBlock=some k->w.heap.size<=k)->Kn ⟨#[.slice (some ⟨pb,po,none⟩) n cpp,.int .i64 V,.chan (some Dn),j3,j4,j5,j6,j7,.int .i64 K,.slice (some ⟨gO,0,none⟩) K dA,.slice (some ⟨pb,po+K,none⟩) V cM,.slice (some ⟨gL,0,none⟩) m mI,.slice (some ⟨gE,0,none⟩) nE oL,rv,b9,Uy,d7,d4,b7,b5,b3,a2,g1,e6,c5,c6,d5,g4,d6,e5,f6,g3,f0,c2,c3,a1,b6,a5,Lr,Lp,Lm,Ll,Lj,h43,Lh,h45,h46,h47,h48,SC,h50,SB,SA,Sz,Sv,Sr,Sn,h57,Sm,b2,a6,a7,b8,f7,d8,f8,c7,d9,g0,d1,d0,c4,d2,e9,d3,c9,f9,e7,g2,e8,c8,b4,a8],[]⟩ w'):
  (dP [1,1,1,1,1,1,0] (Tryz.f91.body.getD .skip)).wp Tryz.prog (xX Kn Kr) ⟨#[.slice (some ⟨pb,po,none⟩) n cpp,.int .i64 V,.chan (some Dn),j3,j4,j5,j6,j7,.int .i64 K,.slice (some ⟨gO,0,none⟩) K dA,.slice (some ⟨pb,po+K,none⟩) V cM,.slice (some ⟨gL,0,none⟩) m mI,.slice (some ⟨gE,0,none⟩) nE oL,.slice none 0 0,b9,g8,d7,d4,b7,b5,b3,a2,g1,e6,c5,c6,d5,g4,d6,e5,f6,g3,f0,c2,c3,a1,b6,a5,i1,i2,i4,j2,g9,g7,i3,i6,j8,i8,i9,j0,i7,k0,k8,k7,j1,g5,g6,h0,h9,b2,a6,a7,b8,f7,d8,f8,c7,d9,g0,d1,d0,c4,d2,e9,d3,c9,f9,e7,g2,e8,c8,b4,a8],[]⟩ w:=by
 obtain⟨i0,hi,hz0,hz1,hz2⟩:=info_parts Tryz.infoBytes;have HQ:=hide hQ;have HO:=hide hO;have HU:=hide hcur;have HS:=hide hks;have HL:=hide hLr;have HE:=hide hEr;have HM:=hide WU;have HP:=hide hP;have HEV:=hide hEV
 have hgE:=hEr.lt;clear hQ hO hcur hks hLr hEr WU hP hEV;have hm0:(0:Int)<=(m:Int):=by omega
 have hme:(m:Int)<=(oL:Int):=by omega
 simp only[Tryz.f91,Option.getD_some,dP];go_wp2;go_loopw [13,43] (fun v x wr=>∃(q:Nat) (rg:Nat->Nat),q<=m/\x= .int .i64 q/\bM wr 28 v ((List.range q).map fun i=>Value.slice (some ⟨rg i,0,none⟩) c c)/\(∀k,v.ownBlock=some k->w.heap.size<=k)/\(∀i,i<q->w.heap.size<=rg i/\v.ownBlock≠some (rg i))/\dO wr q c rg (fun i j=>(dU m s (E[i]?.getD 0) kn (L.map (Pk.weight (E[i]?.getD 0) ·)++V5 i) K)[j]?.getD 0)/\Below w.heap.size w wr)
  (fun _ x _=>leftOf m (intOf x).toNat)
 case atStart=>exact⟨0,fun _=>0,by omega,rfl,by simpa using iW _ _,by intro k hk;simp[Value.ownBlock]at hk,fun i hi=>by omega,⟨fun i hi=>by omega,fun i j hi=>by omega,fun i j hi=>by omega⟩,Below.refl _ _⟩
 case round=>
  obtain⟨q,rg,hq,rfl,hown,hbk,RD,hrows,hb⟩:=hrel;by_cases hlt:q<m
  ·have hqE:q<E.length:=by rw[hEl.out];omega
   have YB:wr.cell? ⟨gE,q,none⟩=some (.int .i64 ((E[q]?.getD 0:Nat):Int)):=by
    apply (HE.out.below hb hgE).cell;have:(Dl.take nE)[q]? =some (.int .i64 ((E[q]?.getD 0:Nat):Int)):=by rw[hEt.out];exact pR hqE
    rw[List.getElem?_take,if_pos (by omega)]at this;exact this
   have hjV:E[q]?.getD 0<V:=getD_lt HEV.out hqE;obtain⟨⟨b0,o0,c0,hbe,hbc,hb256,Jy⟩,hbl⟩:=HP.out q hlt;have Yo:pb<w.heap.size:=bG (HM.out _ hjV);have hcM2:wr.cell? ⟨pb,po+K+E[q]?.getD 0,none⟩=some (.slice (some ⟨b0,o0,none⟩) s c0):=by
    rw[hb.cell (show pb<w.heap.size from Yo),HM.out _ hjV,hbe,hbl]
   have hb0l:b0<w.heap.size:=bG (Jy 0 (by omega));have hEq:Hid (Calls Tryz.prog 149 #[.slice (some ⟨gO,0,none⟩) K dA,.slice (some ⟨gL,0,none⟩) m mI,.int .i64 ((E[q]?.getD 0:Nat):Int),.slice (some ⟨b0,o0,none⟩) s c0] wr fun e w'=>
     e= .returned (.slice (some ⟨wr.heap.size,0,none⟩) c c)/\Below wr.heap.size wr w'/\aB w' wr.heap.size 5 (bN (dU m s (E[q]?.getD 0) kn (L.map (Pk.weight (E[q]?.getD 0) ·)++V5 q) K))):=by
    refine zZ gO dA gL mI b0 o0 c0 (E[q]?.getD 0) m s K c cur ji L kn (V5 q) hm hbl (by omega) (by omega) (by omega) hs hs0 hc (by omega) hL32 hb256 wr (HO.out.below hb HO.out.lt) (fun i hi=>?_) HS.out (HL.out.below hb HL.out.lt) YF (fun r hr=>?_) (Nat.lt_of_lt_of_le hb0l hb.size)
    ·obtain⟨v,h1,h2⟩:=HU.out i hi;refine⟨v,h1,?_⟩;cases hki:kn i with
     |none=>rw[hki]at h2;exact h2
     |some b=>
      rw[hki]at h2;obtain⟨b1,o1,c1,e1,e2,e3,e4⟩:Bytes w v b:=h2;exact⟨b1,o1,c1,e1,e2,e3,fun j hj=>by rw[hb.cell (show b1<w.heap.size from bG (e4 j hj))];exact e4 j hj⟩
    ·rw[hb.cell (show b0<w.heap.size from hb0l)];exact Jy r (by omega)
   have hEl2:Hid (((dU m s (E[q]?.getD 0) kn (L.map (Pk.weight (E[q]?.getD 0) ·)++V5 q) K)).length=c):=by
    show _=_;rw[g_,List.length_append,List.length_map,hm.out,hbl,hc.out]
   have hElt:Hid (∀x∈(dU m s (E[q]?.getD 0) kn (L.map (Pk.weight (E[q]?.getD 0) ·)++V5 q) K),x<256):=yN (by omega) (fun x hx=>by
     rcases List.mem_append.1 hx with h|h
     ·obtain⟨y,hy,rfl⟩:=List.mem_map.1 h;exact Pk.iB (by omega) (hL32 y hy)
     ·exact hb256 x h) (fun i b hk=>(HS.out i b hk).2) K (by omega)
   have hOw:=hide hown;have zq:=hide hbk;have hRg:=hide RD;have Le:=hide hrows;have hB:=hide hb
   have hxl:Hid (((List.range q).map fun i=>Value.slice (some ⟨rg i,0,none⟩) c c).length=q):=by show _=_;simp
   clear hown hbk RD hrows hb hbe hbc hb256 Jy hbl hqE;have hq0:(0:Int)<=(q:Int):=by omega
   have hq1:(q:Int)<(m:Int):=by omega
   generalize hx:E[q]?.getD 0=x at YB hjV hcM2 hEq;replace hx:=hide hx;have hx0:(0:Int)<=(x:Int):=by omega
   have hx1:(x:Int)<(V:Int):=by omega
   go_wp2_with first|(go_at_call 149;refine hEq.out.mono ?_;rintro _ w1 ⟨rfl,hw1,hr1⟩;have Zb:=hide ((hOw.out.later hw1).alloc (.cells #[.slice (some ⟨wr.heap.size,0,none⟩) c c] 28));replace hw1:=hide hw1;replace hr1:=hide hr1)|(at_builtin;refine dn _ rfl _ _ 25 rfl 28 i0 (.slice none 0 0) 24 Tryz.underlying25 hi hz0 hz1 hz2 rfl _ _ rfl Zb.out ⟨w1.heap.size,0,none⟩ 1 1 [.slice (some ⟨wr.heap.size,0,none⟩) c c] rfl rfl (cell_one_new _ _ _) (by intro u hu;simp at hu;subst hu;rfl) (by rw[hxl.out];simp[maxLen];omega) (by rw[hxl.out];omega) ?_)
   intro v' w2 happ;have hA:=hide happ;clear happ;go_wp2;go_roundw
   case rel=>
    have hsz1:=hw1.out.size;have hszw:=hB.out.size;have hq2:=hr1.out.lt;have Ry:∀k,u13.ownBlock=some k->k<wr.heap.size:=fun k hk=>hOw.out.lt hk;have VE:∀i,i<q->rg i<wr.heap.size:=fun i hi=>(Le.out.row i hi).lt;have VT:(w1.alloc (.cells #[.slice (some ⟨wr.heap.size,0,none⟩) c c] 28)).heap.size=w1.heap.size+1:=by simp
    have hst:∀g t (l:List Value),aB w1 g t l->u13.ownBlock≠some g->aB w2 g t l:=fun g t l hr hne=>hA.out.other (hr.alloc _) hne;refine⟨q+1,fun i=>if i=q then wr.heap.size else rg i,by omega,by go_num,?_,hA.out.from (by rw[VT];omega) zq.out,fun i hi=>?_,⟨fun i hi=>?_,fun i j hi hj e=>?_,fun i j hi hj=>?_⟩,?_⟩
    ·have:=hA.out.own;rw[List.range_succ,List.map_append,List.map_cons,List.map_nil];have e1:((List.range q).map fun i=>Value.slice (some ⟨if i=q then wr.heap.size else rg i,0,none⟩) c c)=(List.range q).map fun i=>Value.slice (some ⟨rg i,0,none⟩) c c:=by
      refine List.map_congr_left fun i hi=>?_;rw[if_neg (by rw[List.mem_range]at hi;omega)]
     simp only[e1,if_true];exact this
    ·by_cases e:i=q
     ·simp only[if_pos e];refine⟨by omega,fun hv=>?_⟩;rcases hA.out.block with h|h
      ·rw[h]at hv;have:=Ry _ hv;omega
      ·rw[h,VT]at hv;have:=Option.some.inj hv;omega
     ·simp only[if_neg e];have h1:=hRg.out i (by omega);refine⟨h1.1,fun hv=>?_⟩;rcases hA.out.block with h|h
      ·rw[h]at hv;exact h1.2 hv
      ·rw[h,VT]at hv;have:=Option.some.inj hv;have:=VE i (by omega);omega
    ·by_cases e:i=q
     ·subst e;simp only[if_true];rw[Rf hEl2.out];refine hst _ _ _ ?_ (fun hv=>by have:=Ry _ hv;omega);have:=hr1.out;rw[<-hx.out]at this;exact this
     ·simp only[if_neg e];have hiq:i<q:=by omega
      refine hst _ _ _ ((Le.out.row i hiq).of_block (hw1.out.block _ (VE i hiq))) (hRg.out i hiq).2
    ·by_cases e1:i=q<;>by_cases e2:j=q
     ·omega
     ·rw[if_pos e1,if_neg e2]at e;have:=VE j (by omega);omega
     ·rw[if_neg e1,if_pos e2]at e;have:=VE i (by omega);omega
     ·rw[if_neg e1,if_neg e2]at e;exact Le.out.inj i j (by omega) (by omega) e
    ·by_cases e1:i=q
     ·subst e1;exact getD_lt hElt.out (by rw[hEl2.out];exact hj)
     ·exact Le.out.lt i j (by omega) hj
    ·have hb1:Below w.heap.size w w1:=hB.out.trans ⟨hw1.out.os,hw1.out.tape,hw1.out.output,hw1.out.size,fun k hk=>hw1.out.block k (by omega)⟩;exact hA.out.below (hb1.alloc (by omega) _) (by rw[VT];omega) zq.out
   case measure=>refine aO ?_ ?_<;>simp only[intOf]<;>omega
  ·have e:q=m:=by omega
   subst e;obtain⟨g,cap,cu,rfl,f1,f2,f3,f4,f5⟩:=hown.open' (by simp;omega);have hxl:((List.range q).map fun i=>Value.slice (some ⟨rg i,0,none⟩) c c).length=q:=by simp
   have hRv:Hid (zh wr (.slice (some ⟨g,0,none⟩) ((List.range q).map fun i=>Value.slice (some ⟨rg i,0,none⟩) c c).length cap) q c rg):=by
    refine⟨_,cap,by rw[hxl],fun _=>⟨g,rfl,fun i hi=>?_,fun i hi e=>(RD i hi).2 (by rw[e];rfl)⟩⟩;apply f1.cell;exact take_at f5 (by simp[hi])
   have Le:=hide hrows;have hB:=hide hb;have hRg:=hide RD;have zq:=hide hbk
   clear hown hbk hrows hb RD f1 f2 f3 f4 f5;rw[hxl]at hRv zq⊢;go_wp2;exact HQ.out _ rg _ _ _ _ _ _ _ _ _ _ _ _ _ _ _ _ _ _ _ _ _ _ wr hB.out hRv.out Le.out (fun i hi=>(hRg.out i hi).1) zq.out
theorem OW{Kn Kr:Act->World->Prop}{K V n pb po cpp Dn gO dA mI oL nE:Nat}{aL aE:Option Addr}{w:World}{j3 j4 j5 j6 j7 l1 b9 g8 d7 d4 b7 b5 b3 a2 g1 e6 c5 c6 d5 g4 d6 e5 f6 g3 f0 c2 c3 a1 b6 a5 i1 i2 i4 j2 g9 g7 i3 i6 j8 i8 i9 j0 i7 k0 k8 k7 j1 g5 g6 h0 h9 b2 a6 a7 b8 f7 d8 f8 c7 d9 g0 d1 d0 c4 d2 e9 d3 c9 f9 e7 g2 e8 c8 b4 a8:Value}(Y5:nE<=oL)(hcE:oL<=maxLen)(haE:aE=none->nE=0/\oL=0)
  (hQ:∀(Uy Lr Lp Lm Ll Lj h43 Lh h45 h46 h47 h48 SC h50 SB SA Sz Sv Sr Sn h57 Sm:Value),Kn ⟨#[.slice (some ⟨pb,po,none⟩) n cpp,.int .i64 V,.chan (some Dn),j3,j4,j5,j6,j7,.int .i64 K,.slice (some ⟨gO,0,none⟩) K dA,l1,.slice aL 0 mI,.slice aE nE oL,.slice none 0 0,b9,Uy,d7,d4,b7,b5,b3,a2,g1,e6,c5,c6,d5,g4,d6,e5,f6,g3,f0,c2,c3,a1,b6,a5,Lr,Lp,Lm,Ll,Lj,h43,Lh,h45,h46,h47,h48,SC,h50,SB,SA,Sz,Sv,Sr,Sn,h57,Sm,b2,a6,a7,b8,f7,d8,f8,c7,d9,g0,d1,d0,c4,d2,e9,d3,c9,f9,e7,g2,e8,c8,b4,a8],[]⟩ w):
  (dP [1,1,1,1,1,1,0] (Tryz.f91.body.getD .skip)).wp Tryz.prog (xX Kn Kr) ⟨#[.slice (some ⟨pb,po,none⟩) n cpp,.int .i64 V,.chan (some Dn),j3,j4,j5,j6,j7,.int .i64 K,.slice (some ⟨gO,0,none⟩) K dA,l1,.slice aL 0 mI,.slice aE nE oL,.slice none 0 0,b9,g8,d7,d4,b7,b5,b3,a2,g1,e6,c5,c6,d5,g4,d6,e5,f6,g3,f0,c2,c3,a1,b6,a5,i1,i2,i4,j2,g9,g7,i3,i6,j8,i8,i9,j0,i7,k0,k8,k7,j1,g5,g6,h0,h9,b2,a6,a7,b8,f7,d8,f8,c7,d9,g0,d1,d0,c4,d2,e9,d3,c9,f9,e7,g2,e8,c8,b4,a8],[]⟩ w:=by
 have HQ:=hide hQ;clear hQ;simp only[maxLen]at hcE;have hce0:(0:Int)<=(oL:Int):=by omega
 simp only[Tryz.f91,Option.getD_some,dP];cases aE with
 |none=>
  obtain⟨rfl,rfl⟩:=haE rfl;go_wp2;go_loopw [13,43] (fun v x wr=>v= .slice none 0 0/\x= .int .i64 0/\wr=w) (fun _ _ _=>0)
  case atStart=>exact⟨rfl,rfl,rfl⟩
  case round=>
   obtain⟨rfl,rfl,rfl⟩:=hrel;go_wp2;exact HQ.out _ _ _ _ _ _ _ _ _ _ _ _ _ _ _ _ _ _ _ _ _ _
 |some ad=>
  go_wp2;go_loopw [13,43] (fun v x wr=>v= .slice none 0 0/\x= .int .i64 0/\wr=w) (fun _ _ _=>0)
  case atStart=>exact⟨rfl,rfl,rfl⟩
  case round=>
   obtain⟨rfl,rfl,rfl⟩:=hrel;go_wp2;exact HQ.out _ _ _ _ _ _ _ _ _ _ _ _ _ _ _ _ _ _ _ _ _ _
end Go.Proofs.YtmfpiodlecapiaaGreatDoor
namespace Go.Proofs.YtmfpiodlecapiaaGreatDoor
open Go.RowKit Go.Deep
def jren:Go.Shelf.Ren:=⟨fun|14=>94|15=>156|n=>n,fun|0=>0|3=>3|4=>4|5=>5|9=>9|20=>20|22=>28|26=>25|n=>n,fun|n=>n⟩
theorem Ro:Go.Proofs.SlLaysJ.n14 Tryz.prog jren:= {
 mixed:=by kernel_rfl
 f14:=Tryz.func94.trans (congrArg some (by kernel_rfl))
 f15:=Tryz.func156.trans (congrArg some (by kernel_rfl))
 t0:=Tryz.underlying0
 a0:=Tryz.isAgg0
 z0:=Tryz.sizeOf0
 v0:=Tryz.zeroValue0
 t3:=Tryz.underlying3
 a3:=Tryz.isAgg3
 z3:=Tryz.sizeOf3
 v3:=Tryz.zeroValue3
 t4:=Tryz.underlying4
 a4:=Tryz.isAgg4
 z4:=Tryz.sizeOf4
 v4:=Tryz.zeroValue4
 t9:=Tryz.underlying9
 a9:=Tryz.isAgg9
 z9:=Tryz.sizeOf9
 v9:=Tryz.zeroValue9
 t20:=Tryz.underlying20
 a20:=Tryz.isAgg20
 z20:=Tryz.sizeOf20
 v20:=Tryz.zeroValue20
 t22:=Tryz.underlying28
 a22:=Tryz.isAgg28
 z22:=Tryz.sizeOf28
 v22:=Tryz.zeroValue28
 t26:=Tryz.underlying25
 a26:=Tryz.isAgg25
 z26:=Tryz.sizeOf25
 v26:=Tryz.zeroValue25
 t5:=Tryz.underlying5
 z5:=Tryz.sizeOf5
 i5:=Tryz.infoByte}
theorem vX{x:Nat}(h:x<256):(UInt8.ofNat x).toNat=x:=by simp;omega
def Uk(w:World)(v:Value)(bs:List Nat):Prop:=∃b off cap,v= .slice (some ⟨b,off,none⟩) bs.length cap/\(∀x∈bs,x<256)/\∀j,j<bs.length->w.cell? ⟨b,off+j,none⟩=some (.int .u8 ((bs[j]?.getD 0:Nat):Int))
theorem GH{w:World}{v:Value}{bs:List Nat}(h:Uk w v bs):Go.Lib.HoldsBytes w v (bs.map UInt8.ofNat):=by
 obtain⟨b,off,cap,rfl,h2,h3⟩:=h;refine⟨some ⟨b,off,none⟩,cap,by simp,(fun e=>by cases e),fun a ha i x hx=>?_⟩;obtain rfl:=Option.some.inj ha;rw[List.getElem?_map]at hx;cases hb:bs[i]? with
 |none=>rw[hb]at hx;cases hx
 |some y=>
  rw[hb]at hx;simp only[Option.map_some,Option.some.injEq]at hx;subst hx;have hi:i<bs.length:=(List.getElem?_eq_some_iff.1 hb).1;have hy:y<256:=h2 y (List.mem_of_getElem? hb);rw[Addr.add_lit,vX hy];have:=h3 i hi;rw[hb]at this;exact this
theorem F6{B:Nat}{w':World}{v:Value}{bs:List Nat}(hbs:∀x∈bs,x<256)(h:Go.Lib.FreshBytes B w' v (bs.map UInt8.ofNat)):
  ∃g cap,v= .slice (some ⟨g,0,none⟩) bs.length cap/\B<=g/\bs.length<=cap/\cap<=maxLen/\(∀j,j<cap->w'.frozen? ⟨g,j,none⟩=false)/\∀j,j<bs.length->w'.cell? ⟨g,j,none⟩=some (.int .u8 ((bs[j]?.getD 0:Nat):Int)):=by
 obtain⟨g,cap,zs,rfl,h1,h2,h3,h4,h5,h6,h7,h8⟩:=h;rw[List.length_map]at h2 h6;refine⟨g,cap,by rw[List.length_map],h1,h2,h3,h8,fun j hj=>?_⟩;rw[h7 j (by omega)];have hz:j<zs.length:=by omega
 have e:=congrArg (·[j]?) h6;simp only[Go.Lib.bytesOf,List.getElem?_map,List.getElem?_take,if_pos hj,List.getElem?_eq_getElem hz,List.getElem?_eq_getElem hj,Option.map_some,Option.some.injEq]at e;have hx:=h5 zs[j] (List.getElem_mem hz);have hy:=hbs bs[j] (List.getElem_mem hj);have e2:=congrArg UInt8.toNat e;rw[vX (by omega),vX hy]at e2;have:zs.getD j 0=(bs[j]:Nat):=by
  simp only[List.getD_eq_getElem?_getD,List.getElem?_eq_getElem hz,Option.getD_some];omega
 rw[this];simp[hj]
theorem A8:∀xs:List (List UInt8),Go.Lib.join xs []=xs.flatten
 | []=>rfl
 | [x]=>by simp[Go.Lib.join,List.intercalate]
 |x::y::r=>by
  have:=A8 (y::r);simp only[Go.Lib.join,List.intercalate]at this⊢;simp[this]
theorem Ol:∀xs:List (List UInt8),Go.Lib.lens xs=xs.flatten.length
 | []=>rfl
 |x::r=>by simp[Go.Lib.lens]
theorem yh(b o n c:Nat)(vs:List Value)(ls:List (List Nat))(w:World)(hv:vs.length=n)(hl:ls.length=n)(hn:1<=n)(hn2:n<=65536)(hcap:n<=c)(hcell:∀(i:Nat) v,vs[i]? =some v->w.cell? ⟨b,o+i,none⟩=some v)(hB:∀(i:Nat) v l,vs[i]? =some v->ls[i]? =some l->Uk w v l)(hne:∀l∈ls,l≠ [])(hbs:∀l∈ls,∀x∈l,x<256)(hlen:ls.flatten.length<=4294967296):
  Calls Tryz.prog 94 #[.slice (some ⟨b,o,none⟩) n c,.slice none 0 0] w fun e w'=>∃g cap,e= .returned (.slice (some ⟨g,0,none⟩) ls.flatten.length cap)/\w.heap.size<=g/\ls.flatten.length<=cap/\cap<=maxLen/\(∀j,j<cap->w'.frozen? ⟨g,j,none⟩=false)/\
   (∀j,j<ls.flatten.length->w'.cell? ⟨g,j,none⟩=some (.int .u8 ((ls.flatten[j]?.getD 0:Nat):Int)))/\Below w.heap.size w w':=by
 have hbf:∀x∈ls.flatten,x<256:=fun x hx=>by
  obtain⟨l,h1,h2⟩:=List.mem_flatten.1 hx;exact hbs l h1 x h2
 have fin:∀(e:Ending) (w':World),(∃v',e= .returned v'/\Go.Lib.FreshBytes w.heap.size w' v' (ls.flatten.map UInt8.ofNat)/\Below w.heap.size w w')->∃g cap,e= .returned (.slice (some ⟨g,0,none⟩) ls.flatten.length cap)/\w.heap.size<=g/\ls.flatten.length<=cap/\cap<=maxLen/\(∀j,j<cap->w'.frozen? ⟨g,j,none⟩=false)/\
   (∀j,j<ls.flatten.length->w'.cell? ⟨g,j,none⟩=some (.int .u8 ((ls.flatten[j]?.getD 0:Nat):Int)))/\Below w.heap.size w w':=by
  rintro e w' ⟨v',rfl,h1,h2⟩;obtain⟨g,cap,rfl,k1,k2,k3,k4,k5⟩:=F6 hbf h1;exact⟨g,cap,rfl,k1,k2,k3,k4,k5,h2⟩
 have e0:(ls.map (List.map UInt8.ofNat)).flatten=ls.flatten.map UInt8.ofNat:=by rw[List.map_flatten]
 rcases Nat.lt_or_ge 1 n with h2|h1
 ·have:=Any.bytes_Join_many Ro b o n c vs (ls.map (List.map UInt8.ofNat)) (.slice none 0 0) [] w (by simp[hl]) h2 ⟨by simp[hv,hl],fun i v hvi=>by rw[Addr.add_lit];exact hcell i v hvi,fun i v l hvi RQ=>by
    rw[List.getElem?_map]at RQ;cases hx:ls[i]? with
    |none=>rw[hx]at RQ;cases RQ
    |some l0=>
     rw[hx]at RQ;obtain rfl:=Option.some.inj RQ;exact GH (hB i v l0 hvi hx)⟩ hcap ⟨none,0,rfl,fun _=>rfl,fun a ha=>by cases ha⟩ (by omega) (by rw[Ol,e0,List.length_map,List.length_nil];omega)
  refine this.mono fun e w' h=>fin e w' ?_;rw[A8,e0]at h;exact h
 ·obtain rfl:n=1:=by omega
  obtain⟨l0,rfl⟩:∃l0,ls= [l0]:=by
   match ls,hl with
   | [l0],_=>exact⟨l0,rfl⟩
  obtain⟨v0,rfl⟩:∃v0,vs= [v0]:=by
   match vs,hv with
   | [v0],_=>exact⟨v0,rfl⟩
  obtain⟨b0,o0,c0,rfl,hx,hy⟩:=hB 0 v0 l0 rfl rfl;have hc0:=hcell 0 _ rfl;have hl0:0<l0.length:=by
   have:=hne l0 (by simp);cases l0 with
   |nil=>exact absurd rfl this
   |cons a r=>simp
  have:=Any.bytes_Join_one Ro b o c ⟨b0,o0,none⟩ c0 (l0.map UInt8.ofNat) (.slice none 0 0) w (by simpa using hc0) (fun i x hxi=>by
    rw[List.getElem?_map]at hxi;cases hq:l0[i]? with
    |none=>rw[hq]at hxi;cases hxi
    |some y=>
     rw[hq]at hxi;simp only[Option.map_some,Option.some.injEq]at hxi;subst hxi;have hi:i<l0.length:=(List.getElem?_eq_some_iff.1 hq).1;rw[Addr.add_lit,vX (hx y (List.mem_of_getElem? hq))];have:=hy i hi;rw[hq]at this;exact this) (by simpa using hl0) (by simp at hlen⊢;omega)
  refine this.mono fun e w' h=>fin e w' ?_;simpa using h
theorem Oo(b o n c:Nat)(vs:List Value)(ls:List (List Nat))(w:World)(hv:vs.length=n)(hl:ls.length=n)(hn:1<=n)(hn2:n<=65536)(hcap:n<=c)(hcell:∀(i:Nat) v,vs[i]? =some v->w.cell? ⟨b,o+i,none⟩=some v)(hB:∀(i:Nat) v l,vs[i]? =some v->ls[i]? =some l->Bytes w v l)(hne:∀l∈ls,l≠ [])(hbs:∀l∈ls,∀x∈l,x<256)(hlen:ls.flatten.length<=4294967296):
  Calls Tryz.prog 94 #[.slice (some ⟨b,o,none⟩) n c,.slice none 0 0] w fun e w'=>∃g cap,e= .returned (.slice (some ⟨g,0,none⟩) ls.flatten.length cap)/\w.heap.size<=g/\ls.flatten.length<=cap/\cap<=maxLen/\(∀j,j<cap->w'.frozen? ⟨g,j,none⟩=false)/\
   (∀j,j<ls.flatten.length->w'.cell? ⟨g,j,none⟩=some (.int .u8 ((ls.flatten[j]?.getD 0:Nat):Int)))/\Below w.heap.size w w':=
 yh b o n c vs ls w hv hl hn hn2 hcap hcell (fun i v l h1 h2=>by
  obtain⟨b0,o0,c0,e1,_,e2,e3⟩:=hB i v l h1 h2;exact⟨b0,o0,c0,e1,e2,e3⟩) hne hbs hlen
theorem join_none(w:World):Calls Tryz.prog 94 #[.slice none 0 0,.slice none 0 0] w fun e w'=>e= .returned (.slice (some ⟨w.heap.size,0,none⟩) 0 0)/\w'=w.alloc (.cells #[] 5):=Any.bytes_Join_none Ro none 0 (.slice none 0 0) w
open Go.RowKit Go.Deep Go.bB
attribute [local go_sem↓] Go.wp_at_zero Go.wp_at_succ
def jo(cur:List Value)(L:List Nat)(rg:Nat->Nat)(m s:Nat):Nat->List Value
 |0=>cur
 |k+1=>(jo cur L rg m s k).set (L[k]?.getD 0) (.slice (some ⟨rg k,m,none⟩) s s)
theorem gW(cur:List Value)(L:List Nat)(rg:Nat->Nat)(m s:Nat):∀k,(jo cur L rg m s k).length=cur.length
 |0=>rfl
 |k+1=>by rw[jo,List.length_set];exact gW cur L rg m s k
theorem Fa{cur:List Value}{L:List Nat}{rg:Nat->Nat}{m s:Nat}(hL:∀t u,t<L.length->u<L.length->L[t]?.getD 0=L[u]?.getD 0->t=u):∀k,k<=L.length->∀i,i<cur.length->
  ((∀t,t<k->L[t]?.getD 0≠i)->(jo cur L rg m s k)[i]? =cur[i]?)/\∀t,t<k->L[t]?.getD 0=i->(jo cur L rg m s k)[i]? =some (.slice (some ⟨rg t,m,none⟩) s s)
 |0,_,i,_=>⟨fun _=>rfl,fun t ht=>by omega⟩
 |k+1,hk,i,hi=>by
  obtain⟨h1,h2⟩:=Fa (rg:=rg) (m:=m) (s:=s) hL k (by omega) i hi;constructor
  ·intro h;rw[jo,List.getElem?_set_ne (h k (by omega))];exact h1 fun t ht=>h t (by omega)
  ·intro t ht e;by_cases etk:t=k
   ·subst etk;rw[jo,e,List.getElem?_set_self (by rw[gW];exact hi)]
   ·have hne:L[k]?.getD 0≠i:=fun e2=>etk (hL t k (by omega) (by omega) (e.trans e2.symm));rw[jo,List.getElem?_set_ne hne];exact h2 t (by omega) e
theorem OX{Kn Kr:Act->World->Prop}{K V n pb po cpp Dn gO dA mI m s c:Nat}{aL:Option Addr}{cur:List Value}{L:List Nat}{rv:Value}{rg:Nat->Nat}{w:World}{j3 j4 j5 j6 j7 l1 k9 b9 g8 d7 d4 b7 b5 b3 a2 g1 e6 c5 c6 d5 g4 d6 e5 f6 g3 f0 c2 c3 a1 b6 a5 i1 i2 i4 j2 g9 g7 i3 i6 j8 i8 i9 j0 i7 k0 k8 k7 j1 g5 g6 h0 h9 b2 a6 a7 b8 f7 d8 f8 c7 d9 g0 d1 d0 c4 d2 e9 d3 c9 f9 e7 g2 e8 c8 b4 a8:Value}(hs0:1<=s)(hc:Hid (m+s=c))(hm:Hid (L.length=m))(hmK:m<=20)(hLK:∀x∈L,x<K)(hKc:K<=cur.length)
  (hO:aB w gO 28 cur)(hL:0<m->∃gL ji,aL=some ⟨gL,0,none⟩/\gL≠gO/\aB w gL 3 ji/\ji.take m=bW L)(Ba:zh w rv m c rg)(hrO:∀g,rv.ownBlock=some g->g≠gO)
  (hQ:∀(h16 ny h63 h64 W_ W9 WZ h68 h69 h70 h71 h72 h73 h74 h75 h76 h77 h78 h79 h80:Value) (w':World),Kp (fun b=>b=gO) w w'->aB w' gO 28 (jo cur L rg m s m)->Kn ⟨#[.slice (some ⟨pb,po,none⟩) n cpp,.int .i64 V,.chan (some Dn),j3,j4,j5,j6,j7,.int .i64 K,.slice (some ⟨gO,0,none⟩) K dA,l1,.slice aL m mI,k9,rv,b9,g8,h16,ny,b7,b5,b3,a2,g1,e6,c5,c6,d5,g4,d6,e5,f6,g3,f0,c2,c3,a1,b6,a5,i1,i2,i4,j2,g9,g7,i3,i6,j8,i8,i9,j0,i7,k0,k8,k7,j1,g5,g6,h0,h9,b2,a6,a7,b8,h63,h64,W_,W9,WZ,h68,h69,h70,h71,h72,h73,h74,h75,h76,h77,h78,h79,h80,b4,a8],[]⟩ w'):
  (dP [1,1,1,1,1,1,1,1,0] (Tryz.f91.body.getD .skip)).wp Tryz.prog (xX Kn Kr) ⟨#[.slice (some ⟨pb,po,none⟩) n cpp,.int .i64 V,.chan (some Dn),j3,j4,j5,j6,j7,.int .i64 K,.slice (some ⟨gO,0,none⟩) K dA,l1,.slice aL m mI,k9,rv,b9,g8,d7,d4,b7,b5,b3,a2,g1,e6,c5,c6,d5,g4,d6,e5,f6,g3,f0,c2,c3,a1,b6,a5,i1,i2,i4,j2,g9,g7,i3,i6,j8,i8,i9,j0,i7,k0,k8,k7,j1,g5,g6,h0,h9,b2,a6,a7,b8,f7,d8,f8,c7,d9,g0,d1,d0,c4,d2,e9,d3,c9,f9,e7,g2,e8,c8,b4,a8],[]⟩ w:=by
 have HQ:=hide hQ;have HO:=hide hO;have HL:=hide hL
 obtain⟨ra,XK,rfl,hrr⟩:=Ba;have HR:=hide hrr;have HRO:=hide hrO
 clear hQ hO hL hrr hrO;simp only[Tryz.f91,Option.getD_some,dP];go_wp2;go_loopw [65] (fun x wr=>∃k:Nat,k<=m/\x= .int .i64 k/\Kp (fun b=>b=gO) w wr/\aB wr gO 28 (jo cur L rg m s k))
  (fun x _=>leftOf m (intOf x).toNat)
 case atStart=>exact⟨0,by omega,rfl,Kp.refl _ _,HO.out⟩
 case round=>
  obtain⟨k,hk,rfl,hkp,hr⟩:=hrel;by_cases hlt:k<m
  ·obtain⟨gL,ji,rfl,VL,hLr,YF⟩:=HL.out (by omega);obtain⟨g,rfl,hcell,VF⟩:=HR.out (by omega);have Ld:k<L.length:=by rw[hm.out];exact hlt
   have hcL:wr.cell? ⟨gL,k,none⟩=some (.int .i64 ((L[k]?.getD 0:Nat):Int)):=by
    apply (hkp.row hLr (fun e=>VL e)).cell;have:(ji.take m)[k]? =some (.int .i64 ((L[k]?.getD 0:Nat):Int)):=by rw[YF];exact pR Ld
    rw[List.getElem?_take,if_pos hlt]at this;exact this
   have hcR:wr.cell? ⟨g,k,none⟩=some (.slice (some ⟨rg k,0,none⟩) c c):=by
    have h1:=hcell k hlt;have e:=hkp.block g (bG h1) (fun e=>HRO.out g rfl e);unfold World.cell? at h1⊢;rw[e];exact h1
   have hxK:L[k]?.getD 0<K:=getD_lt hLK Ld;have hown:wr.cell? ⟨gO,L[k]?.getD 0,none⟩=some ((jo cur L rg m s k)[L[k]?.getD 0]'(by rw[gW];omega)):=hr.cell _ _ (List.getElem?_eq_getElem _);have hfz:=hr.frozen (L[k]?.getD 0);have hnx:Hid ((jo cur L rg m s k).set (L[k]?.getD 0) (.slice (some ⟨rg k,m,none⟩) s s)=jo cur L rg m s (k+1)):=rfl;have VW:=hide hkp;have Le:=hide hr
   clear hkp hr hLr YF hcell VF Ld;generalize (jo cur L rg m s k)[L[k]?.getD 0]'(by rw[gW];omega)=ov at hown;generalize L[k]?.getD 0=x at hcL hxK hown hfz hnx;have hk0:(0:Int)<=(k:Int):=by omega
   have hk1:(k:Int)<(m:Int):=by omega
   have hx0:(0:Int)<=(x:Int):=by omega
   have hx1:(x:Int)<(K:Int):=by omega
   have hm0:(0:Int)<=(m:Int):=by omega
   have hmc:(m:Int)<=(c:Int):=by have:=hc.out;omega
   have hcs1:c-m=s:=by have:=hc.out;omega
   have hcs2:(c:Int)-(m:Int)=(s:Int):=by have:=hc.out;omega
   have hcm:¬c=m:=by have:=hc.out;omega
   go_wp2;go_roundw
   case rel=>
    refine⟨k+1,by omega,by go_num,VW.out.setCell (.inl rfl) _,?_⟩;have:=Le.out.set x (.slice (some ⟨rg k,m,none⟩) s s);rw[hnx.out]at this;exact this
   case measure=>refine aO ?_ ?_<;>simp only[intOf]<;>omega
  ·have e:k=m:=by omega
   subst e;have VW:=hide hkp;have Le:=hide hr
   clear hkp hr;go_wp2;exact HQ.out _ _ _ _ _ _ _ _ _ _ _ _ _ _ _ _ _ _ _ _ wr VW.out Le.out
end Go.Proofs.YtmfpiodlecapiaaGreatDoor
