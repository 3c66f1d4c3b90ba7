import Derived.Test.YtmfpiodlecapiaaJ31
import Derived.Shelf.Bytes.SlJoin
namespace Go.Proofs.Ytmfpiodlecapiaa
theorem sum_split(f:Nat->Nat)(p:Nat->Bool):∀K,Pk.sumN f K=Pk.sumN (fun i=>if p i then f i else 0) K ^^^ Pk.sumN (fun i=>if p i then 0 else f i) K
 |0=>by simp[Pk.sumN]
 |K+1=>by
  simp only[Pk.sumN];rw[sum_split f p K];cases p K with
  |true=>simp only[if_true,Nat.xor_zero];rw[Nat.xor_assoc,Nat.xor_assoc,Nat.xor_comm (f K)]
  |false=>simp only[Bool.false_eq_true,if_false,Nat.xor_zero];rw[Nat.xor_assoc]
theorem sum_picks(f:Nat->Nat)(p:Nat->Bool):∀K,Pk.sumN (fun i=>if p i then f i else 0) K=Pk.sumN (fun t=>f (((List.range K).filter p)[t]?.getD 0)) ((List.range K).filter p).length
 |0=>rfl
 |K+1=>by
  simp only[Pk.sumN];rw[sum_picks f p K,List.range_succ,List.filter_append];cases hp:p K with
  |true=>
   have e: [K].filter p= [K]:=by simp[hp]
   rw[e,List.length_append,List.length_singleton,Pk.sumN];congr 1
   ·refine Pk.sumN_congr fun t ht=>?_;rw[List.getElem?_append_left ht]
   ·simp
  |false=>
   have e: [K].filter p= []:=by simp[hp]
   rw[e,List.append_nil];simp
theorem lst_getD{l:List Nat}{c:Nat}(h:l.length=c):lst c (fun j=>l[j]?.getD 0)=l:=
 ext_getD (by rw[lst_length,h]) fun i hi=>by rw[lst_at (by omega)]
def knT(kn:Nat->Option (List Nat))(j q i:Nat):Nat:=match kn i with|some b=>Gf.mul (b[q]?.getD 0) (Pk.weight j i)|none=>0
theorem eqRow_data{m s j:Nat}{kn:Nat->Option (List Nat)}{R:List Nat}(hR:R.length=m+s){q:Nat}(hq:q<s):∀i,(eqRow m s j kn R i)[m+q]?.getD 0=(R[m+q]?.getD 0) ^^^ Pk.sumN (knT kn j q) i
 |0=>by simp[eqRow,Pk.sumN]
 |i+1=>by
  have ih:=eqRow_data (j:=j) (kn:=kn) hR hq i;have hl:=eqRow_length m s j kn R i;rw[Pk.sumN,<-Nat.xor_assoc,<-ih];simp only[eqRow,knT];cases hk:kn i with
  |none=>simp
  |some b=>
   simp only;rw[addUp_at (by omega),if_pos (by omega),Nat.add_sub_cancel_left]
theorem eqRow_head{m s j:Nat}{kn:Nat->Option (List Nat)}{R:List Nat}(hR:R.length=m+s){q:Nat}(hq:q<m):∀i,(eqRow m s j kn R i)[q]?.getD 0=R[q]?.getD 0
 |0=>rfl
 |i+1=>by
  have ih:=eqRow_head (j:=j) (kn:=kn) hR hq i;have hl:=eqRow_length m s j kn R i;simp only[eqRow];cases hk:kn i with
  |none=>exact ih
  |some b=>
   simp only;rw[addUp_at (by omega),if_neg (by omega)];exact ih
def knOf(blk:List Nat)(s:Nat)(hd:Nat->Bool)(i:Nat):Option (List Nat):=if hd i then some (Pk.piece blk s i)else none
def rowsOf(blk:List Nat)(s K:Nat)(hd:Nat->Bool)(E:Nat->Nat)(i:Nat):List Nat:=
 eqRow ((List.range K).filter fun i=> !hd i).length s (E i) (knOf blk s hd) (((List.range K).filter fun i=> !hd i).map (Pk.weight (E i) ·)++Pk.pieceN blk s K (K+E i)) K
theorem rows_solved{blk:List Nat}{s K:Nat}{hd:Nat->Bool}{E:Nat->Nat}(hb:blk.length=K*s)(hbl:∀x∈blk,x<256)(hK:K<=20)(hE:∀i,i<((List.range K).filter fun i=> !hd i).length->E i<20)(hEi:∀i j,i<((List.range K).filter fun i=> !hd i).length->j<((List.range K).filter fun i=> !hd i).length->E i=E j->i=j):
  ∀m,m=((List.range K).filter fun i=> !hd i).length->∀M:Nat->Nat->Nat,(∀i j,M i j=(rowsOf blk s K hd E i)[j]?.getD 0)->(∀i j,i<m->j<m+s->M i j<256)->
  (∀c,c<m->Gs.it m M c c c≠0)/\(∀c,c<=m->∀i j,i<m->j<m+s->Gs.it m M c i j<256)/\∀t q,t<m->q<s->Gs.it m M m t (m+q)=blk[(((List.range K).filter fun i=> !hd i)[t]?.getD 0)*s+q]?.getD 0:=by
 intro m hm M hM hlt;have hLlt:∀t,t<m->((List.range K).filter fun i=> !hd i)[t]?.getD 0<K/\hd (((List.range K).filter fun i=> !hd i)[t]?.getD 0)=false:=fun t ht=>by
  have h1:t<((List.range K).filter fun i=> !hd i).length:=by omega
  have h2:((List.range K).filter fun i=> !hd i)[t]?.getD 0=((List.range K).filter fun i=> !hd i)[t]:=by simp[h1]
  have h3:=List.getElem_mem h1;rw[<-h2,List.mem_filter,List.mem_range]at h3;exact⟨h3.1,by simpa using h3.2⟩
 have hLi:∀t u,t<m->u<m->((List.range K).filter fun i=> !hd i)[t]?.getD 0=((List.range K).filter fun i=> !hd i)[u]?.getD 0->t=u:=fun t u ht hu e=>by
  have h1:t<((List.range K).filter fun i=> !hd i).length:=by omega
  have h2:u<((List.range K).filter fun i=> !hd i).length:=by omega
  have hn:((List.range K).filter fun i=> !hd i).Nodup:=List.nodup_range.filter _;simp only[List.getElem?_eq_getElem h1,List.getElem?_eq_getElem h2,Option.getD_some]at e;exact(List.getElem_inj hn).1 e
 have hbk:∀i q,i<K->q<s->blk[i*s+q]?.getD 0<256:=fun i q hi hq=>by
  refine getD_lt hbl ?_;have:=Nat.mul_le_mul_right s hi;rw[Nat.succ_mul]at this;omega
 have hhead:∀i j,j<m->M i j=Pk.weight (E i) (((List.range K).filter fun i=> !hd i)[j]?.getD 0):=fun i j hj=>by
  rw[hM,rowsOf,eqRow_head (by rw[List.length_append,List.length_map,Pk.pieceN_length hb]) (by omega),List.getElem?_append_left (by rw[List.length_map];omega),List.getElem?_map];have:j<((List.range K).filter fun i=> !hd i).length:=by omega
  simp[this]
 have hS:Gs.Smalls m M:=fun i hi j hj=>hlt i j hi (by omega);have hI:∀m',m'<=m->Gs.Inj m' M:=by
  intro m' hm';refine Gs.inj_congr (R:=fun i j=>Gf.inv ((255-E i) ^^^ (((List.range K).filter fun i=> !hd i)[j]?.getD 0))) (fun i j hi hj=>?_) (Gs.cauchy_lead (n:=m) (a:=fun i=>255-E i) (b:=fun j=>((List.range K).filter fun i=> !hd i)[j]?.getD 0) (fun i hi=>?_) (fun j hj=>?_) (fun i j hi hj e=>?_) (fun i j hi hj e=>hLi i j hi hj e) (fun i j hi hj e=>?_) m' hm')
  ·rw[hhead i j (by omega)];rfl
  ·show 255-E i<256;omega
  ·have:=(hLlt j hj).1;show _<256;omega
  ·have h1:=hE i (by omega);have h2:=hE j (by omega);exact hEi i j (by omega) (by omega) (by omega)
  ·have h1:=hE i (by omega);have h2:=(hLlt j hj).1;omega
 refine⟨fun c hc=>Gs.it_pivot hS hI hc,fun c hc i j hi hj=>Gs.it_small hS hI (fun i hi=>hlt i j hi hj) c hc i hi,fun t q ht hq=>?_⟩;have hx:Gs.Small m (fun t=>blk[(((List.range K).filter fun i=> !hd i)[t]?.getD 0)*s+q]?.getD 0):=fun t ht=>hbk _ q (hLlt t ht).1 hq;refine Gs.it_end hS hI (fun i hi=>hlt i (m+q) hi (by omega)) hx (fun i hi=>?_) t ht;have hjl:(Pk.pieceN blk s K (K+E i))[q]? =some (Pk.sumN (fun i'=>Gf.mul (blk[i'*s+q]?.getD 0) (Pk.weight (E i) i')) K):=by
  rw[Pk.pieceN_at hb hbl hq,Pk.dotN];congr 1
  refine Pk.sumN_congr fun i' hi'=>?_;unfold Pk.rowAt;rw[if_neg (by omega),Nat.add_sub_cancel_left]
 have hd2:M i (m+q)=Pk.sumN (fun i'=>Gf.mul (blk[i'*s+q]?.getD 0) (Pk.weight (E i) i')) K ^^^ Pk.sumN (knT (knOf blk s hd) (E i) q) K:=by
  rw[hM,rowsOf,hm,eqRow_data (by rw[List.length_append,List.length_map,Pk.pieceN_length hb]) hq,List.getElem?_append_right (by rw[List.length_map];omega),List.length_map,Nat.add_sub_cancel_left,hjl];rfl
 have hk2:Pk.sumN (knT (knOf blk s hd) (E i) q) K=Pk.sumN (fun i'=>if hd i' then Gf.mul (blk[i'*s+q]?.getD 0) (Pk.weight (E i) i')else 0) K:=by
  refine Pk.sumN_congr fun i' hi'=>?_;unfold knT knOf;cases hd i' with
  |true=>simp only[if_true];rw[Pk.piece_at hq]
  |false=>simp
 show Gs.lin m (M i) _=M i (m+q);rw[hd2,hk2,sum_split (fun i'=>Gf.mul (blk[i'*s+q]?.getD 0) (Pk.weight (E i) i')) hd K,Nat.xor_comm,<-Nat.xor_assoc,Nat.xor_self,Nat.zero_xor];have e1:Pk.sumN (fun i'=>if hd i' then 0 else Gf.mul (blk[i'*s+q]?.getD 0) (Pk.weight (E i) i')) K=Pk.sumN (fun i'=>if !hd i' then Gf.mul (blk[i'*s+q]?.getD 0) (Pk.weight (E i) i')else 0) K:=by
  refine Pk.sumN_congr fun i' _=>?_;cases hd i'<;>simp
 rw[e1,sum_picks (fun i'=>Gf.mul (blk[i'*s+q]?.getD 0) (Pk.weight (E i) i')) (fun i=> !hd i) K,<-hm];unfold Gs.lin;refine Pk.sumN_congr fun t ht=>?_;rw[hhead i t ht]
open Go.RowKit Go.Deep Go.Frag
attribute [local go_sem↓] Go.wp_at_zero Go.wp_at_succ
set_option maxRecDepth 20000 in
set_option maxHeartbeats 400000 in
theorem block_p2{Kn Kr:Act->World->Prop}{K V n pb po cpp Dn:Nat}{xs:List Value}{w:World}{j3 j4 j5 j6 j7 j9 j10 j11 j12 j13 j14 j15 j16 j17 j18 j19 j20 j21 j22 j23 j24 j25 j26 j27 j28 j29 j30 j31 j32 j33 j34 j35 j36 j37 j38 j39 j40 j41 j42 j43 j44 j45 j46 j47 j48 j49 j50 j51 j52 j53 j54 j55 j56 j57 j58 j59 j60 j61 j62 j63 j64 j65 j66 j67 j68 j69 j70 j71 j72 j73 j74 j75 j76 j77 j78 j79 j80 j81 j82:Value}(hn:Hid (n=K+V))(hK1:1<=K)(hK:K<=20)(hV:V<=20)(hcpp:n<=cpp)(hcm:cpp<=9223372036854775807)(hxl:Hid (xs.length=K))(hx1:∀u∈xs,u.oneCell'=true)(hc:∀j u,xs[j]? =some u->w.cell? ⟨pb,po+j,none⟩=some u)
  (hQ:∀(gO capO:Nat) (cur:List Value) (aM:Option Addr) (cM:Nat) (h22 h23 h24 h25 h26 h27 h28:Value) (w':World),Below w.heap.size w w'->w.heap.size<=gO->qS w' gO 36 cur->cur.take K=xs->K<=capO->capO<=maxLen->cur.length=capO->(0<V->aM=some ⟨pb,po+K,none⟩)->Kn ⟨#[.slice (some ⟨pb,po,none⟩) n cpp,.int .i64 V,.chan (some Dn),j3,j4,j5,j6,j7,.int .i64 K,.slice (some ⟨gO,0,none⟩) K capO,.slice aM V cM,j11,j12,j13,j14,j15,j16,j17,j18,j19,j20,j21,h22,h23,h24,h25,h26,h27,h28,j29,j30,j31,j32,j33,j34,j35,j36,j37,j38,j39,j40,j41,j42,j43,j44,j45,j46,j47,j48,j49,j50,j51,j52,j53,j54,j55,j56,j57,j58,j59,j60,j61,j62,j63,j64,j65,j66,j67,j68,j69,j70,j71,j72,j73,j74,j75,j76,j77,j78,j79,j80,j81,j82],[]⟩ w'):
  (pth [1,1,0] (Try.f85.body.getD .skip)).wp Try.prog (noPan Kn Kr) ⟨#[.slice (some ⟨pb,po,none⟩) n cpp,.int .i64 V,.chan (some Dn),j3,j4,j5,j6,j7,.int .i64 K,j9,j10,j11,j12,j13,j14,j15,j16,j17,j18,j19,j20,j21,j22,j23,j24,j25,j26,j27,j28,j29,j30,j31,j32,j33,j34,j35,j36,j37,j38,j39,j40,j41,j42,j43,j44,j45,j46,j47,j48,j49,j50,j51,j52,j53,j54,j55,j56,j57,j58,j59,j60,j61,j62,j63,j64,j65,j66,j67,j68,j69,j70,j71,j72,j73,j74,j75,j76,j77,j78,j79,j80,j81,j82],[]⟩ w:=by
 have HQ:=hide hQ;have HC:=hide hc
 clear hQ hc;have hCl:Hid (∀w1:World,(∀j u,xs[j]? =some u->w1.cell? ⟨pb,po+j,none⟩=some u)->Calls Try.prog 108 #[.slice (some ⟨pb,po,none⟩) K cpp] w1 fun e w'=>∃v,e= .returned v/\OwnS w' 36 v xs/\(∀k,v.ownBlock=some k->w1.heap.size<=k)/\Below w1.heap.size w1 w'):=fun w1 h=>clone_walk pb po K cpp xs hxl hx1 (by omega) w1 h;have hop:Hid (∀(w':World) (v:Value),OwnS w' 36 v xs->(∀k,v.ownBlock=some k->w.heap.size<=k)->∃gO capO cur,v= .slice (some ⟨gO,0,none⟩) K capO/\w.heap.size<=gO/\qS w' gO 36 cur/\cur.take K=xs/\K<=capO/\capO<=maxLen/\cur.length=capO):=fun w' v h1 h2=>by
  obtain⟨g,cap,cur,rfl,k1,k2,k3,k4,k5⟩:=h1.open' (by rw[hxl.out];omega);rw[hxl.out]at k2 k5;exact⟨g,cap,cur,by rw[hxl.out],h2 g rfl,k1,k5,k2,k3,k4⟩
 have hKn:(K:Int)<=(n:Int):=by have:=hn.out;omega
 have hKc:(K:Int)<=(cpp:Int):=by omega
 have hnc:(n:Int)<=(cpp:Int):=by omega
 have hK0:(0:Int)<=(K:Int):=by omega
 have hnK:n-K=V:=by have:=hn.out;omega
 have hnK2:(n:Int)-(K:Int)=(V:Int):=by have:=hn.out;omega
 simp only[Try.f85,Option.getD_some,pth];by_cases hck:cpp=K
 ·have hV0:V=0:=by have:=hn.out;omega
  subst hV0;subst hck;go_region_with (go_at_call 108;refine(hCl.out w.drew HC.out).mono ?_;rintro _ w1 ⟨v,rfl,hv1,hv2,hv3⟩;obtain⟨gO,capO,cur,rfl,k1,k2,k3,k4,k5,k6⟩:=hop.out w1 v hv1 hv2;clear hv1 hv2;have k1:=hide k1;have k2:=hide k2;have k3:=hide k3;have k4:=hide k4;have k5:=hide k5;have k6:=hide k6;have hv3:=hide hv3)
  all_goals
   go_wp2;exact HQ.out gO capO cur _ _ _ _ _ _ _ _ _ w1 ((Below.refl _ w).drew.trans hv3.out) k1.out k2.out k3.out k4.out k5.out k6.out (fun h=>absurd h (Nat.lt_irrefl _))
 ·have hck2:¬(cpp:Int)=(K:Int):=by omega
  go_region_with (go_at_call 108;refine(hCl.out w.drew HC.out).mono ?_;rintro _ w1 ⟨v,rfl,hv1,hv2,hv3⟩;obtain⟨gO,capO,cur,rfl,k1,k2,k3,k4,k5,k6⟩:=hop.out w1 v hv1 hv2;clear hv1 hv2;have k1:=hide k1;have k2:=hide k2;have k3:=hide k3;have k4:=hide k4;have k5:=hide k5;have k6:=hide k6;have hv3:=hide hv3)
  all_goals
   go_wp2;exact HQ.out gO capO cur _ _ _ _ _ _ _ _ _ w1 ((Below.refl _ w).drew.trans hv3.out) k1.out k2.out k3.out k4.out k5.out k6.out (fun _=>rfl)
set_option maxRecDepth 20000 in
set_option maxHeartbeats 400000 in
theorem block_p3{Kn Kr:Act->World->Prop}{K V n pb po cpp Dn gO capO cM:Nat}{aM:Option Addr}{cur:List Value}{pa:Nat->Option Addr}{pl pc:Nat->Nat}{w:World}{j3 j4 j5 j6 j7 j11 j12 j13 j14 j15 j16 j17 j18 j19 j20 j21 j22 j23 j24 j25 j26 j27 j28 j29 j30 j31 j32 j33 j34 j35 j36 j37 j38 j39 j40 j41 j42 j43 j44 j45 j46 j47 j48 j49 j50 j51 j52 j53 j54 j55 j56 j57 j58 j59 j60 j61 j62 j63 j64 j65 j66 j67 j68 j69 j70 j71 j72 j73 j74 j75 j76 j77 j78 j79 j80 j81 j82:Value}(hK:K<=20)(hV:V<=20)(hO:qS w gO 36 cur)(hcur:∀i,i<K->cur[i]? =some (.slice (pa i) (pl i) (pc i)))(hM:0<V->aM=some ⟨pb,po+K,none⟩)(hcM:∀j,j<V->w.cell? ⟨pb,po+K+j,none⟩=some (.slice (pa (K+j)) (pl (K+j)) (pc (K+j))))
  (hQ:∀(vL vE:Value) (h29 h30 h31 h32:Value) (w':World),Below w.heap.size w w'->OwnS w' 3 vL (i64s (picks pa false K))->(∀k,vL.ownBlock=some k->w.heap.size<=k)->OwnS w' 3 vE (i64s (picks (fun j=>pa (K+j)) true V))->(∀k,vE.ownBlock=some k->w.heap.size<=k)->Kn ⟨#[.slice (some ⟨pb,po,none⟩) n cpp,.int .i64 V,.chan (some Dn),j3,j4,j5,j6,j7,.int .i64 K,.slice (some ⟨gO,0,none⟩) K capO,.slice aM V cM,vL,vE,j13,j14,j15,j16,j17,j18,j19,j20,j21,j22,j23,j24,j25,j26,j27,j28,h29,h30,h31,h32,j33,j34,j35,j36,j37,j38,j39,j40,j41,j42,j43,j44,j45,j46,j47,j48,j49,j50,j51,j52,j53,j54,j55,j56,j57,j58,j59,j60,j61,j62,j63,j64,j65,j66,j67,j68,j69,j70,j71,j72,j73,j74,j75,j76,j77,j78,j79,j80,j81,j82],[]⟩ w'):
  (pth [1,1,1,0] (Try.f85.body.getD .skip)).wp Try.prog (noPan Kn Kr) ⟨#[.slice (some ⟨pb,po,none⟩) n cpp,.int .i64 V,.chan (some Dn),j3,j4,j5,j6,j7,.int .i64 K,.slice (some ⟨gO,0,none⟩) K capO,.slice aM V cM,j11,j12,j13,j14,j15,j16,j17,j18,j19,j20,j21,j22,j23,j24,j25,j26,j27,j28,j29,j30,j31,j32,j33,j34,j35,j36,j37,j38,j39,j40,j41,j42,j43,j44,j45,j46,j47,j48,j49,j50,j51,j52,j53,j54,j55,j56,j57,j58,j59,j60,j61,j62,j63,j64,j65,j66,j67,j68,j69,j70,j71,j72,j73,j74,j75,j76,j77,j78,j79,j80,j81,j82],[]⟩ w:=by
 have HQ:=hide hQ;have hL:Hid (∀(ax:Array Value) (w2:World),ax=#[.slice (some ⟨gO,0,none⟩) K capO,.bool false]->w2=w->Calls Try.prog 109 ax w2 fun e w'=>∃v,e= .returned v/\OwnS w' 3 v (i64s (picks pa false K))/\(∀k,v.ownBlock=some k->w.heap.size<=k)/\Below w.heap.size w w'):=
  fun ax w2 e1 e2=>by rw[e1,e2];exact which_walk gO 0 K capO pa pl pc false (by omega) w (fun j hj=>by rw[Nat.zero_add];exact hO.cell j _ (hcur j hj))
 have hE:Hid (∀w1,Below w.heap.size w w1->Calls Try.prog 109 #[.slice aM V cM,.bool true] w1 fun e w'=>∃v,e= .returned v/\OwnS w' 3 v (i64s (picks (fun j=>pa (K+j)) true V))/\(∀k,v.ownBlock=some k->w1.heap.size<=k)/\Below w1.heap.size w1 w'):=by
  intro w1 hb;rcases Nat.eq_zero_or_pos V with hV0|hVp
  ·subst hV0;refine(which_none aM cM true w1).mono ?_;rintro e w' ⟨rfl,rfl⟩;exact⟨_,rfl,by simpa[picks,i64s]using ownS_nil _ _,by intro k hk;simp[Value.ownBlock]at hk,Below.refl _ _⟩
  ·rw[hM hVp];refine which_walk pb (po+K) V cM (fun j=>pa (K+j)) (fun j=>pl (K+j)) (fun j=>pc (K+j)) true (by omega) w1 (fun j hj=>?_);have h:=hcM j hj;rw[hb.cell (show pb<w.heap.size from cellLt h)];exact h
 clear hQ hO hcur hM hcM;simp only[Try.f85,Option.getD_some,pth];go_wp2_with first|(go_at_call 109;refine(hL.out _ _ ?e1 ?e2).mono ?_;(case e1=>exact rfl);(case e2=>exact rfl);rintro _ w1 ⟨vL,rfl,hv1,hv2,hv3⟩;have hE1:Hid (∀(ax:Array Value) (w2:World),ax=#[.slice aM V cM,.bool true]->w2=w1->Calls Try.prog 109 ax w2 fun e w'=>∃v,e= .returned v/\OwnS w' 3 v (i64s (picks (fun j=>pa (K+j)) true V))/\(∀k,v.ownBlock=some k->w1.heap.size<=k)/\Below w1.heap.size w1 w'):=(fun ax w2 e1 e2=>by rw[e1,e2];exact hE.out w1 hv3);replace hv1:=hide hv1;replace hv2:=hide hv2;replace hv3:=hide hv3)|(go_at_call 109;refine(hE1.out _ _ ?e3 ?e4).mono ?_;(case e3=>exact rfl);(case e4=>exact rfl);rintro _ w2 ⟨vE,rfl,hu1,hu2,hu3⟩;replace hu1:=hide hu1;replace hu2:=hide hu2;replace hu3:=hide hu3)
 have hb2:Below w.heap.size w w2:=hv3.out.trans ⟨hu3.out.os,hu3.out.tape,hu3.out.output,hu3.out.size,fun k hk=>hu3.out.block k (Nat.lt_of_lt_of_le hk hv3.out.size)⟩;exact HQ.out vL vE _ _ _ _ w2 hb2 (hv1.out.later hu3.out) hv2.out hu1.out (fun k hk=>Nat.le_trans hv3.out.size (hu2.out k hk))
set_option maxRecDepth 20000 in
set_option maxHeartbeats 1000000 in
theorem block_p7{Kn Kr:Act->World->Prop}{K V n pb po cpp Dn gO capO cM gL capL gE capE nE m s c:Nat}{cur curL curE:List Value}{pa:Nat->Option Addr}{pl pc:Nat->Nat}{L E:List Nat}{kn:Nat->Option (List Nat)}{bsE:Nat->List Nat}{w:World}{j3 j4 j5 j6 j7 j14 j15 j16 j17 j18 j19 j20 j21 j22 j23 j24 j25 j26 j27 j28 j29 j30 j31 j32 j33 j34 j35 j36 j37 j38 j39 j40 j41 j42 j43 j44 j45 j46 j47 j48 j49 j50 j51 j52 j53 j54 j55 j56 j57 j58 j59 j60 j61 j62 j63 j64 j65 j66 j67 j68 j69 j70 j71 j72 j73 j74 j75 j76 j77 j78 j79 j80 j81 j82:Value}(hK:K<=20)(hV:V<=20)(hs0:1<=s)(hs:s<=65536)(hm1:1<=m)(hmK:m<=20)(hmE:m<=nE)(hnE:nE<=20)(hcE:nE<=capE)(hc:Hid (m+s=c))(hcc:c<=65536)(hm:Hid (L.length=m))(hEl:Hid (E.length=nE))
  (hL32:∀x∈L,x<32)(hEV:∀x∈E,x<V)(hO:qS w gO 36 cur)(hcur:∀i,i<K->∃v,cur[i]? =some v/\KnownAt w v (kn i))(hks:∀i b,kn i=some b->b.length=s/\∀x∈b,x<256)(hLr:qS w gL 3 curL)(hLt:Hid (curL.take m=i64s L))(hEr:qS w gE 3 curE)(hEt:Hid (curE.take nE=i64s E))
  (hcM:∀j,j<V->w.cell? ⟨pb,po+K+j,none⟩=some (.slice (pa (K+j)) (pl (K+j)) (pc (K+j))))(hP:∀q,q<m->Bytes w (.slice (pa (K+E[q]?.getD 0)) (pl (K+E[q]?.getD 0)) (pc (K+E[q]?.getD 0))) (bsE q)/\(bsE q).length=s)
  (hQ:∀(rv:Value) (rg:Nat->Nat) (h15 h38 h39 h40 h41 h42 h43 h44 h45 h46 h47 h48 h49 h50 h51 h52 h53 h54 h55 h56 h57 h58:Value) (w':World),Below w.heap.size w w'->RvAt w' rv m c rg->RowsAt w' m c rg (fun i j=>(eqRow m s (E[i]?.getD 0) kn (L.map (Pk.weight (E[i]?.getD 0) ·)++bsE i) K)[j]?.getD 0)->(∀i,i<m->w.heap.size<=rg i)->(∀k,rv.ownBlock=some k->w.heap.size<=k)->Kn ⟨#[.slice (some ⟨pb,po,none⟩) n cpp,.int .i64 V,.chan (some Dn),j3,j4,j5,j6,j7,.int .i64 K,.slice (some ⟨gO,0,none⟩) K capO,.slice (some ⟨pb,po+K,none⟩) V cM,.slice (some ⟨gL,0,none⟩) m capL,.slice (some ⟨gE,0,none⟩) nE capE,rv,j14,h15,j16,j17,j18,j19,j20,j21,j22,j23,j24,j25,j26,j27,j28,j29,j30,j31,j32,j33,j34,j35,j36,j37,h38,h39,h40,h41,h42,h43,h44,h45,h46,h47,h48,h49,h50,h51,h52,h53,h54,h55,h56,h57,h58,j59,j60,j61,j62,j63,j64,j65,j66,j67,j68,j69,j70,j71,j72,j73,j74,j75,j76,j77,j78,j79,j80,j81,j82],[]⟩ w'):
  (pth [1,1,1,1,1,1,0] (Try.f85.body.getD .skip)).wp Try.prog (noPan Kn Kr) ⟨#[.slice (some ⟨pb,po,none⟩) n cpp,.int .i64 V,.chan (some Dn),j3,j4,j5,j6,j7,.int .i64 K,.slice (some ⟨gO,0,none⟩) K capO,.slice (some ⟨pb,po+K,none⟩) V cM,.slice (some ⟨gL,0,none⟩) m capL,.slice (some ⟨gE,0,none⟩) nE capE,.slice none 0 0,j14,j15,j16,j17,j18,j19,j20,j21,j22,j23,j24,j25,j26,j27,j28,j29,j30,j31,j32,j33,j34,j35,j36,j37,j38,j39,j40,j41,j42,j43,j44,j45,j46,j47,j48,j49,j50,j51,j52,j53,j54,j55,j56,j57,j58,j59,j60,j61,j62,j63,j64,j65,j66,j67,j68,j69,j70,j71,j72,j73,j74,j75,j76,j77,j78,j79,j80,j81,j82],[]⟩ w:=by
 obtain⟨i0,hi,hz0,hz1,hz2⟩:=info_parts Try.infoBytes;have HQ:=hide hQ;have HO:=hide hO;have HU:=hide hcur;have HS:=hide hks;have HL:=hide hLr;have HE:=hide hEr;have HM:=hide hcM;have HP:=hide hP;have HEV:=hide hEV
 have hgE:=hEr.lt;clear hQ hO hcur hks hLr hEr hcM hP hEV;have hm0:(0:Int)<=(m:Int):=by omega
 have hme:(m:Int)<=(capE:Int):=by omega
 simp only[Try.f85,Option.getD_some,pth];go_wp2;go_loopw [13,43] (fun v x wr=>∃(q:Nat) (rg:Nat->Nat),q<=m/\x= .int .i64 q/\OwnS wr 36 v ((List.range q).map fun i=>Value.slice (some ⟨rg i,0,none⟩) c c)/\(∀k,v.ownBlock=some k->w.heap.size<=k)/\(∀i,i<q->w.heap.size<=rg i/\v.ownBlock≠some (rg i))/\RowsAt wr q c rg (fun i j=>(eqRow m s (E[i]?.getD 0) kn (L.map (Pk.weight (E[i]?.getD 0) ·)++bsE i) K)[j]?.getD 0)/\Below w.heap.size w wr)
  (fun _ x _=>leftOf m (intOf x).toNat)
 case atStart=>exact⟨0,fun _=>0,by omega,rfl,by simpa using ownS_nil _ _,by intro k hk;simp[Value.ownBlock]at hk,fun i hi=>by omega,⟨fun i hi=>by omega,fun i j hi=>by omega,fun i j hi=>by omega⟩,Below.refl _ _⟩
 case round=>
  obtain⟨q,rg,hq,rfl,hown,hbk,hrgs,hrows,hb⟩:=hrel;by_cases hlt:q<m
  ·have hqE:q<E.length:=by rw[hEl.out];omega
   have hcE2:wr.cell? ⟨gE,q,none⟩=some (.int .i64 ((E[q]?.getD 0:Nat):Int)):=by
    apply (HE.out.below hb hgE).cell;have:(curE.take nE)[q]? =some (.int .i64 ((E[q]?.getD 0:Nat):Int)):=by rw[hEt.out];exact i64s_at hqE
    rw[List.getElem?_take,if_pos (by omega)]at this;exact this
   have hjV:E[q]?.getD 0<V:=getD_lt HEV.out hqE;obtain⟨⟨b0,o0,c0,hbe,hbc,hb256,hbcell⟩,hbl⟩:=HP.out q hlt;have hpbl:pb<w.heap.size:=cellLt (HM.out _ hjV);have hcM2:wr.cell? ⟨pb,po+K+E[q]?.getD 0,none⟩=some (.slice (some ⟨b0,o0,none⟩) s c0):=by
    rw[hb.cell (show pb<w.heap.size from hpbl),HM.out _ hjV,hbe,hbl]
   have hb0l:b0<w.heap.size:=cellLt (hbcell 0 (by omega));have hEq:Hid (Calls Try.prog 110 #[.slice (some ⟨gO,0,none⟩) K capO,.slice (some ⟨gL,0,none⟩) m capL,.int .i64 ((E[q]?.getD 0:Nat):Int),.slice (some ⟨b0,o0,none⟩) s c0] wr fun e w'=>
     e= .returned (.slice (some ⟨wr.heap.size,0,none⟩) c c)/\Below wr.heap.size wr w'/\qS w' wr.heap.size 5 (u8s (eqRow m s (E[q]?.getD 0) kn (L.map (Pk.weight (E[q]?.getD 0) ·)++bsE q) K))):=by
    refine equation_walk gO capO gL capL b0 o0 c0 (E[q]?.getD 0) m s K c cur curL L kn (bsE q) hm hbl (by omega) (by omega) (by omega) hs hs0 hc (by omega) hL32 hb256 wr (HO.out.below hb HO.out.lt) (fun i hi=>?_) HS.out (HL.out.below hb HL.out.lt) hLt (fun r hr=>?_) (Nat.lt_of_lt_of_le hb0l hb.size)
    ·obtain⟨v,h1,h2⟩:=HU.out i hi;refine⟨v,h1,?_⟩;cases hki:kn i with
     |none=>rw[hki]at h2;exact h2
     |some b=>
      rw[hki]at h2;obtain⟨b1,o1,c1,e1,e2,e3,e4⟩:Bytes w v b:=h2;exact⟨b1,o1,c1,e1,e2,e3,fun j hj=>by rw[hb.cell (show b1<w.heap.size from cellLt (e4 j hj))];exact e4 j hj⟩
    ·rw[hb.cell (show b0<w.heap.size from hb0l)];exact hbcell r (by omega)
   have hEl2:Hid (((eqRow m s (E[q]?.getD 0) kn (L.map (Pk.weight (E[q]?.getD 0) ·)++bsE q) K)).length=c):=by
    show _=_;rw[eqRow_length,List.length_append,List.length_map,hm.out,hbl,hc.out]
   have hElt:Hid (∀x∈(eqRow m s (E[q]?.getD 0) kn (L.map (Pk.weight (E[q]?.getD 0) ·)++bsE q) K),x<256):=eqRow_lt (by omega) (fun x hx=>by
     rcases List.mem_append.1 hx with h|h
     ·obtain⟨y,hy,rfl⟩:=List.mem_map.1 h;exact Pk.weight_lt (by omega) (hL32 y hy)
     ·exact hb256 x h) (fun i b hk=>(HS.out i b hk).2) K (by omega)
   have hOw:=hide hown;have hBk:=hide hbk;have hRg:=hide hrgs;have hRw:=hide hrows;have hB:=hide hb
   have hxl:Hid (((List.range q).map fun i=>Value.slice (some ⟨rg i,0,none⟩) c c).length=q):=by show _=_;simp
   clear hown hbk hrgs hrows hb hbe hbc hb256 hbcell hbl hqE;have hq0:(0:Int)<=(q:Int):=by omega
   have hq1:(q:Int)<(m:Int):=by omega
   generalize hx:E[q]?.getD 0=x at hcE2 hjV hcM2 hEq;replace hx:=hide hx;have hx0:(0:Int)<=(x:Int):=by omega
   have hx1:(x:Int)<(V:Int):=by omega
   go_wp2_with first|(go_at_call 110;refine hEq.out.mono ?_;rintro _ w1 ⟨rfl,hw1,hr1⟩;have hO1:=hide ((hOw.out.later hw1).alloc (.cells #[.slice (some ⟨wr.heap.size,0,none⟩) c c] 36));replace hw1:=hide hw1;replace hr1:=hide hr1)|(at_builtin;refine wpList_app _ rfl _ _ 33 rfl 36 i0 (.slice none 0 0) 24 Try.underlying33 hi hz0 hz1 hz2 rfl _ _ rfl hO1.out ⟨w1.heap.size,0,none⟩ 1 1 [.slice (some ⟨wr.heap.size,0,none⟩) c c] rfl rfl (cell_one_new _ _ _) (by intro u hu;simp at hu;subst hu;rfl) (by rw[hxl.out];simp[maxLen];omega) (by rw[hxl.out];omega) ?_)
   intro v' w2 happ;have hA:=hide happ;clear happ;go_wp2;go_roundw
   case rel=>
    have hsz1:=hw1.out.size;have hszw:=hB.out.size;have hq2:=hr1.out.lt;have hvlt:∀k,u13.ownBlock=some k->k<wr.heap.size:=fun k hk=>hOw.out.lt hk;have hrlt:∀i,i<q->rg i<wr.heap.size:=fun i hi=>(hRw.out.row i hi).lt;have hasz:(w1.alloc (.cells #[.slice (some ⟨wr.heap.size,0,none⟩) c c] 36)).heap.size=w1.heap.size+1:=by simp
    have hst:∀g t (l:List Value),qS w1 g t l->u13.ownBlock≠some g->qS w2 g t l:=fun g t l hr hne=>hA.out.other (hr.alloc _) hne;refine⟨q+1,fun i=>if i=q then wr.heap.size else rg i,by omega,by go_num,?_,hA.out.from (by rw[hasz];omega) hBk.out,fun i hi=>?_,⟨fun i hi=>?_,fun i j hi hj e=>?_,fun i j hi hj=>?_⟩,?_⟩
    ·have:=hA.out.own;rw[List.range_succ,List.map_append,List.map_cons,List.map_nil];have e1:((List.range q).map fun i=>Value.slice (some ⟨if i=q then wr.heap.size else rg i,0,none⟩) c c)=(List.range q).map fun i=>Value.slice (some ⟨rg i,0,none⟩) c c:=by
      refine List.map_congr_left fun i hi=>?_;rw[if_neg (by rw[List.mem_range]at hi;omega)]
     simp only[e1,if_true];exact this
    ·by_cases e:i=q
     ·simp only[if_pos e];refine⟨by omega,fun hv=>?_⟩;rcases hA.out.block with h|h
      ·rw[h]at hv;have:=hvlt _ hv;omega
      ·rw[h,hasz]at hv;have:=Option.some.inj hv;omega
     ·simp only[if_neg e];have h1:=hRg.out i (by omega);refine⟨h1.1,fun hv=>?_⟩;rcases hA.out.block with h|h
      ·rw[h]at hv;exact h1.2 hv
      ·rw[h,hasz]at hv;have:=Option.some.inj hv;have:=hrlt i (by omega);omega
    ·by_cases e:i=q
     ·subst e;simp only[if_true];rw[lst_getD hEl2.out];refine hst _ _ _ ?_ (fun hv=>by have:=hvlt _ hv;omega);have:=hr1.out;rw[<-hx.out]at this;exact this
     ·simp only[if_neg e];have hiq:i<q:=by omega
      refine hst _ _ _ ((hRw.out.row i hiq).of_block (hw1.out.block _ (hrlt i hiq))) (hRg.out i hiq).2
    ·by_cases e1:i=q<;>by_cases e2:j=q
     ·omega
     ·rw[if_pos e1,if_neg e2]at e;have:=hrlt j (by omega);omega
     ·rw[if_neg e1,if_pos e2]at e;have:=hrlt i (by omega);omega
     ·rw[if_neg e1,if_neg e2]at e;exact hRw.out.inj i j (by omega) (by omega) e
    ·by_cases e1:i=q
     ·subst e1;exact getD_lt hElt.out (by rw[hEl2.out];exact hj)
     ·exact hRw.out.lt i j (by omega) hj
    ·have hb1:Below w.heap.size w w1:=hB.out.trans ⟨hw1.out.os,hw1.out.tape,hw1.out.output,hw1.out.size,fun k hk=>hw1.out.block k (by omega)⟩;exact hA.out.below (hb1.alloc (by omega) _) (by rw[hasz];omega) hBk.out
   case measure=>refine qD ?_ ?_<;>simp only[intOf]<;>omega
  ·have e:q=m:=by omega
   subst e;obtain⟨g,cap,cu,rfl,f1,f2,f3,f4,f5⟩:=hown.open' (by simp;omega);have hxl:((List.range q).map fun i=>Value.slice (some ⟨rg i,0,none⟩) c c).length=q:=by simp
   have hRv:Hid (RvAt wr (.slice (some ⟨g,0,none⟩) ((List.range q).map fun i=>Value.slice (some ⟨rg i,0,none⟩) c c).length cap) q c rg):=by
    refine⟨_,cap,by rw[hxl],fun _=>⟨g,rfl,fun i hi=>?_,fun i hi e=>(hrgs i hi).2 (by rw[e];rfl)⟩⟩;apply f1.cell;exact take_at f5 (by simp[hi])
   have hRw:=hide hrows;have hB:=hide hb;have hRg:=hide hrgs;have hBk:=hide hbk
   clear hown hbk hrows hb hrgs f1 f2 f3 f4 f5;rw[hxl]at hRv hBk⊢;go_wp2;exact HQ.out _ rg _ _ _ _ _ _ _ _ _ _ _ _ _ _ _ _ _ _ _ _ _ _ wr hB.out hRv.out hRw.out (fun i hi=>(hRg.out i hi).1) hBk.out
set_option maxRecDepth 20000 in
set_option maxHeartbeats 1000000 in
theorem block_p7z{Kn Kr:Act->World->Prop}{K V n pb po cpp Dn gO capO capL capE nE:Nat}{aL aE:Option Addr}{w:World}{j3 j4 j5 j6 j7 j10 j14 j15 j16 j17 j18 j19 j20 j21 j22 j23 j24 j25 j26 j27 j28 j29 j30 j31 j32 j33 j34 j35 j36 j37 j38 j39 j40 j41 j42 j43 j44 j45 j46 j47 j48 j49 j50 j51 j52 j53 j54 j55 j56 j57 j58 j59 j60 j61 j62 j63 j64 j65 j66 j67 j68 j69 j70 j71 j72 j73 j74 j75 j76 j77 j78 j79 j80 j81 j82:Value}(hnE:nE<=capE)(hcE:capE<=maxLen)(haE:aE=none->nE=0/\capE=0)
  (hQ:∀(h15 h38 h39 h40 h41 h42 h43 h44 h45 h46 h47 h48 h49 h50 h51 h52 h53 h54 h55 h56 h57 h58:Value),Kn ⟨#[.slice (some ⟨pb,po,none⟩) n cpp,.int .i64 V,.chan (some Dn),j3,j4,j5,j6,j7,.int .i64 K,.slice (some ⟨gO,0,none⟩) K capO,j10,.slice aL 0 capL,.slice aE nE capE,.slice none 0 0,j14,h15,j16,j17,j18,j19,j20,j21,j22,j23,j24,j25,j26,j27,j28,j29,j30,j31,j32,j33,j34,j35,j36,j37,h38,h39,h40,h41,h42,h43,h44,h45,h46,h47,h48,h49,h50,h51,h52,h53,h54,h55,h56,h57,h58,j59,j60,j61,j62,j63,j64,j65,j66,j67,j68,j69,j70,j71,j72,j73,j74,j75,j76,j77,j78,j79,j80,j81,j82],[]⟩ w):
  (pth [1,1,1,1,1,1,0] (Try.f85.body.getD .skip)).wp Try.prog (noPan Kn Kr) ⟨#[.slice (some ⟨pb,po,none⟩) n cpp,.int .i64 V,.chan (some Dn),j3,j4,j5,j6,j7,.int .i64 K,.slice (some ⟨gO,0,none⟩) K capO,j10,.slice aL 0 capL,.slice aE nE capE,.slice none 0 0,j14,j15,j16,j17,j18,j19,j20,j21,j22,j23,j24,j25,j26,j27,j28,j29,j30,j31,j32,j33,j34,j35,j36,j37,j38,j39,j40,j41,j42,j43,j44,j45,j46,j47,j48,j49,j50,j51,j52,j53,j54,j55,j56,j57,j58,j59,j60,j61,j62,j63,j64,j65,j66,j67,j68,j69,j70,j71,j72,j73,j74,j75,j76,j77,j78,j79,j80,j81,j82],[]⟩ w:=by
 have HQ:=hide hQ;clear hQ;simp only[maxLen]at hcE;have hce0:(0:Int)<=(capE:Int):=by omega
 simp only[Try.f85,Option.getD_some,pth];cases aE with
 |none=>
  obtain⟨rfl,rfl⟩:=haE rfl;go_wp2;go_loopw [13,43] (fun v x wr=>v= .slice none 0 0/\x= .int .i64 0/\wr=w) (fun _ _ _=>0)
  case atStart=>exact⟨rfl,rfl,rfl⟩
  case round=>
   obtain⟨rfl,rfl,rfl⟩:=hrel;go_wp2;exact HQ.out _ _ _ _ _ _ _ _ _ _ _ _ _ _ _ _ _ _ _ _ _ _
 |some ad=>
  go_wp2;go_loopw [13,43] (fun v x wr=>v= .slice none 0 0/\x= .int .i64 0/\wr=w) (fun _ _ _=>0)
  case atStart=>exact⟨rfl,rfl,rfl⟩
  case round=>
   obtain⟨rfl,rfl,rfl⟩:=hrel;go_wp2;exact HQ.out _ _ _ _ _ _ _ _ _ _ _ _ _ _ _ _ _ _ _ _ _ _
end Go.Proofs.Ytmfpiodlecapiaa
namespace Go.Proofs.Ytmfpiodlecapiaa
open Go.RowKit Go.Deep
def jren:Go.Shelf.Ren:=⟨fun|14=>88|15=>117|n=>n,fun|0=>0|3=>3|4=>4|5=>5|9=>9|20=>20|22=>36|26=>33|n=>n,fun|n=>n⟩
theorem jLays:Go.Proofs.SlLaysJ.n14 Try.prog jren:= {
 mixed:=by kernel_rfl
 f14:=Try.func88.trans (congrArg some (by kernel_rfl))
 f15:=Try.func117.trans (congrArg some (by kernel_rfl))
 t0:=Try.underlying0
 a0:=Try.isAgg0
 z0:=Try.sizeOf0
 v0:=Try.zeroValue0
 t3:=Try.underlying3
 a3:=Try.isAgg3
 z3:=Try.sizeOf3
 v3:=Try.zeroValue3
 t4:=Try.underlying4
 a4:=Try.isAgg4
 z4:=Try.sizeOf4
 v4:=Try.zeroValue4
 t9:=Try.underlying9
 a9:=Try.isAgg9
 z9:=Try.sizeOf9
 v9:=Try.zeroValue9
 t20:=Try.underlying20
 a20:=Try.isAgg20
 z20:=Try.sizeOf20
 v20:=Try.zeroValue20
 t22:=Try.underlying36
 a22:=Try.isAgg36
 z22:=Try.sizeOf36
 v22:=Try.zeroValue36
 t26:=Try.underlying33
 a26:=Try.isAgg33
 z26:=Try.sizeOf33
 v26:=Try.zeroValue33
 t5:=Try.underlying5
 z5:=Try.sizeOf5
 i5:=Try.infoByte}
theorem u8_back{x:Nat}(h:x<256):(UInt8.ofNat x).toNat=x:=by simp;omega
def Bytes0(w:World)(v:Value)(bs:List Nat):Prop:=∃b off cap,v= .slice (some ⟨b,off,none⟩) bs.length cap/\(∀x∈bs,x<256)/\∀j,j<bs.length->w.cell? ⟨b,off+j,none⟩=some (.int .u8 ((bs[j]?.getD 0:Nat):Int))
theorem bytes_holds{w:World}{v:Value}{bs:List Nat}(h:Bytes0 w v bs):Go.Lib.HoldsBytes w v (bs.map UInt8.ofNat):=by
 obtain⟨b,off,cap,rfl,h2,h3⟩:=h;refine⟨some ⟨b,off,none⟩,cap,by simp,(fun e=>by cases e),fun a ha i x hx=>?_⟩;obtain rfl:=Option.some.inj ha;rw[List.getElem?_map]at hx;cases hb:bs[i]? with
 |none=>rw[hb]at hx;cases hx
 |some y=>
  rw[hb]at hx;simp only[Option.map_some,Option.some.injEq]at hx;subst hx;have hi:i<bs.length:=(List.getElem?_eq_some_iff.1 hb).1;have hy:y<256:=h2 y (List.mem_of_getElem? hb);rw[Addr.add_lit,u8_back hy];have:=h3 i hi;rw[hb]at this;exact this
theorem fresh_cells{B:Nat}{w':World}{v:Value}{bs:List Nat}(hbs:∀x∈bs,x<256)(h:Go.Lib.FreshBytes B w' v (bs.map UInt8.ofNat)):
  ∃g cap,v= .slice (some ⟨g,0,none⟩) bs.length cap/\B<=g/\bs.length<=cap/\cap<=maxLen/\(∀j,j<cap->w'.frozen? ⟨g,j,none⟩=false)/\∀j,j<bs.length->w'.cell? ⟨g,j,none⟩=some (.int .u8 ((bs[j]?.getD 0:Nat):Int)):=by
 obtain⟨g,cap,zs,rfl,h1,h2,h3,h4,h5,h6,h7,h8⟩:=h;rw[List.length_map]at h2 h6;refine⟨g,cap,by rw[List.length_map],h1,h2,h3,h8,fun j hj=>?_⟩;rw[h7 j (by omega)];have hz:j<zs.length:=by omega
 have e:=congrArg (·[j]?) h6;simp only[Go.Lib.bytesOf,List.getElem?_map,List.getElem?_take,if_pos hj,List.getElem?_eq_getElem hz,List.getElem?_eq_getElem hj,Option.map_some,Option.some.injEq]at e;have hx:=h5 zs[j] (List.getElem_mem hz);have hy:=hbs bs[j] (List.getElem_mem hj);have e2:=congrArg UInt8.toNat e;rw[u8_back (by omega),u8_back hy]at e2;have:zs.getD j 0=(bs[j]:Nat):=by
  simp only[List.getD_eq_getElem?_getD,List.getElem?_eq_getElem hz,Option.getD_some];omega
 rw[this];simp[hj]
theorem inter_nil:∀xs:List (List UInt8),Go.Lib.join xs []=xs.flatten
 | []=>rfl
 | [x]=>by simp[Go.Lib.join,List.intercalate]
 |x::y::r=>by
  have:=inter_nil (y::r);simp only[Go.Lib.join,List.intercalate]at this⊢;simp[this]
theorem lens_flat:∀xs:List (List UInt8),Go.Lib.lens xs=xs.flatten.length
 | []=>rfl
 |x::r=>by simp[Go.Lib.lens]
theorem join_walk0(b o n c:Nat)(vs:List Value)(ls:List (List Nat))(w:World)(hv:vs.length=n)(hl:ls.length=n)(hn:1<=n)(hn2:n<=65536)(hcap:n<=c)(hcell:∀(i:Nat) v,vs[i]? =some v->w.cell? ⟨b,o+i,none⟩=some v)(hB:∀(i:Nat) v l,vs[i]? =some v->ls[i]? =some l->Bytes0 w v l)(hne:∀l∈ls,l≠ [])(hbs:∀l∈ls,∀x∈l,x<256)(hlen:ls.flatten.length<=4294967296):
  Calls Try.prog 88 #[.slice (some ⟨b,o,none⟩) n c,.slice none 0 0] w fun e w'=>∃g cap,e= .returned (.slice (some ⟨g,0,none⟩) ls.flatten.length cap)/\w.heap.size<=g/\ls.flatten.length<=cap/\cap<=maxLen/\(∀j,j<cap->w'.frozen? ⟨g,j,none⟩=false)/\
   (∀j,j<ls.flatten.length->w'.cell? ⟨g,j,none⟩=some (.int .u8 ((ls.flatten[j]?.getD 0:Nat):Int)))/\Below w.heap.size w w':=by
 have hbf:∀x∈ls.flatten,x<256:=fun x hx=>by
  obtain⟨l,h1,h2⟩:=List.mem_flatten.1 hx;exact hbs l h1 x h2
 have fin:∀(e:Ending) (w':World),(∃v',e= .returned v'/\Go.Lib.FreshBytes w.heap.size w' v' (ls.flatten.map UInt8.ofNat)/\Below w.heap.size w w')->∃g cap,e= .returned (.slice (some ⟨g,0,none⟩) ls.flatten.length cap)/\w.heap.size<=g/\ls.flatten.length<=cap/\cap<=maxLen/\(∀j,j<cap->w'.frozen? ⟨g,j,none⟩=false)/\
   (∀j,j<ls.flatten.length->w'.cell? ⟨g,j,none⟩=some (.int .u8 ((ls.flatten[j]?.getD 0:Nat):Int)))/\Below w.heap.size w w':=by
  rintro e w' ⟨v',rfl,h1,h2⟩;obtain⟨g,cap,rfl,k1,k2,k3,k4,k5⟩:=fresh_cells hbf h1;exact⟨g,cap,rfl,k1,k2,k3,k4,k5,h2⟩
 have e0:(ls.map (List.map UInt8.ofNat)).flatten=ls.flatten.map UInt8.ofNat:=by rw[List.map_flatten]
 rcases Nat.lt_or_ge 1 n with h2|h1
 ·have:=Any.bytes_Join_many jLays b o n c vs (ls.map (List.map UInt8.ofNat)) (.slice none 0 0) [] w (by simp[hl]) h2 ⟨by simp[hv,hl],fun i v hvi=>by rw[Addr.add_lit];exact hcell i v hvi,fun i v l hvi hli=>by
    rw[List.getElem?_map]at hli;cases hx:ls[i]? with
    |none=>rw[hx]at hli;cases hli
    |some l0=>
     rw[hx]at hli;obtain rfl:=Option.some.inj hli;exact bytes_holds (hB i v l0 hvi hx)⟩ hcap ⟨none,0,rfl,fun _=>rfl,fun a ha=>by cases ha⟩ (by omega) (by rw[lens_flat,e0,List.length_map,List.length_nil];omega)
  refine this.mono fun e w' h=>fin e w' ?_;rw[inter_nil,e0]at h;exact h
 ·obtain rfl:n=1:=by omega
  obtain⟨l0,rfl⟩:∃l0,ls= [l0]:=by
   match ls,hl with
   | [l0],_=>exact⟨l0,rfl⟩
  obtain⟨v0,rfl⟩:∃v0,vs= [v0]:=by
   match vs,hv with
   | [v0],_=>exact⟨v0,rfl⟩
  obtain⟨b0,o0,c0,rfl,hx,hy⟩:=hB 0 v0 l0 rfl rfl;have hc0:=hcell 0 _ rfl;have hl0:0<l0.length:=by
   have:=hne l0 (by simp);cases l0 with
   |nil=>exact absurd rfl this
   |cons a r=>simp
  have:=Any.bytes_Join_one jLays b o c ⟨b0,o0,none⟩ c0 (l0.map UInt8.ofNat) (.slice none 0 0) w (by simpa using hc0) (fun i x hxi=>by
    rw[List.getElem?_map]at hxi;cases hq:l0[i]? with
    |none=>rw[hq]at hxi;cases hxi
    |some y=>
     rw[hq]at hxi;simp only[Option.map_some,Option.some.injEq]at hxi;subst hxi;have hi:i<l0.length:=(List.getElem?_eq_some_iff.1 hq).1;rw[Addr.add_lit,u8_back (hx y (List.mem_of_getElem? hq))];have:=hy i hi;rw[hq]at this;exact this) (by simpa using hl0) (by simp at hlen⊢;omega)
  refine this.mono fun e w' h=>fin e w' ?_;simpa using h
theorem join_walk(b o n c:Nat)(vs:List Value)(ls:List (List Nat))(w:World)(hv:vs.length=n)(hl:ls.length=n)(hn:1<=n)(hn2:n<=65536)(hcap:n<=c)(hcell:∀(i:Nat) v,vs[i]? =some v->w.cell? ⟨b,o+i,none⟩=some v)(hB:∀(i:Nat) v l,vs[i]? =some v->ls[i]? =some l->Bytes w v l)(hne:∀l∈ls,l≠ [])(hbs:∀l∈ls,∀x∈l,x<256)(hlen:ls.flatten.length<=4294967296):
  Calls Try.prog 88 #[.slice (some ⟨b,o,none⟩) n c,.slice none 0 0] w fun e w'=>∃g cap,e= .returned (.slice (some ⟨g,0,none⟩) ls.flatten.length cap)/\w.heap.size<=g/\ls.flatten.length<=cap/\cap<=maxLen/\(∀j,j<cap->w'.frozen? ⟨g,j,none⟩=false)/\
   (∀j,j<ls.flatten.length->w'.cell? ⟨g,j,none⟩=some (.int .u8 ((ls.flatten[j]?.getD 0:Nat):Int)))/\Below w.heap.size w w':=
 join_walk0 b o n c vs ls w hv hl hn hn2 hcap hcell (fun i v l h1 h2=>by
  obtain⟨b0,o0,c0,e1,_,e2,e3⟩:=hB i v l h1 h2;exact⟨b0,o0,c0,e1,e2,e3⟩) hne hbs hlen
theorem join_none(w:World):Calls Try.prog 88 #[.slice none 0 0,.slice none 0 0] w fun e w'=>e= .returned (.slice (some ⟨w.heap.size,0,none⟩) 0 0)/\w'=w.alloc (.cells #[] 5):=Any.bytes_Join_none jLays none 0 (.slice none 0 0) w
end Go.Proofs.Ytmfpiodlecapiaa
