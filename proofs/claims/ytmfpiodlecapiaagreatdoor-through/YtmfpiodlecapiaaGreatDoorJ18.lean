import Derived.Test.YtmfpiodlecapiaaGreatDoorJ17
import Derived.Shelf.Bytes.SlJoin
set_option maxHeartbeats 1000000
set_option maxRecDepth 20000
namespace Go.Proofs.YtmfpiodlecapiaaGreatDoor
open Go.Proofs.Tryz
section
open Go.RowKit Go.Deep
attribute [local go_sem↓] Go.wp_at_zero Go.wp_at_succ
def eU(m s j:Nat)(kn:Nat->Option (List Nat))(R:List Nat):Nat->List Nat
 |0=>R
 |i+1=>match kn i with
  |none=>eU m s j kn R i
  |some b=>iw (eU m s j kn R i) m b (Pk.weight j i) s
theorem jh(m s j:Nat)(kn:Nat->Option (List Nat))(R:List Nat):∀i,(eU m s j kn R i).length=R.length
 |0=>rfl
 |i+1=>by
  have ih:=jh m s j kn R i;simp only[eU];split
  .exact ih
  .rw[jk];exact ih
theorem Av{m s j:Nat}{kn:Nat->Option (List Nat)}{R:List Nat}(hj:j<32)(hR:∀x∈R,x<256)(hk:∀i b,kn i=some b->∀x∈b,x<256):∀i,i<=32->∀x∈eU m s j kn R i,x<256
 |0,_=>hR
 |i+1,hi=>by
  have ih:=Av (m:=m) (s:=s) hj hR hk i (by omega);simp only[eU];split
  .exact ih
  .rename_i b hb;exact V6 ih (hk i b hb) (Pk.iJ hj (by omega))
def OH(w:World)(v:Value):Option (List Nat)->Prop
 |none=>v= .slice none 0 0
 |some b=>Bytes w v b
theorem CF(gO dN gL nU pb po g_ j m s K c:Nat)(cur jZ:List Value)(L:List Nat)(kn:Nat->Option (List Nat))(bs:List Nat)(hm:Hid (L.length=m))(hs:Hid (bs.length=s))(hK:K<=32)(hj:j<32)(oe:m<=32)(dC:s<=65536)(gv:1<=s)(hc:Hid (m+s=c))(di:c<=65568)(QV:∀x∈L,x<32)(oB:∀x∈bs,x<256)(w:World)
  (hO:aB w gO 28 cur)(mB:∀i,i<K->∃v,cur[i]? =some v/\OH w v (kn i))(te:∀i b,kn i=some b->b.length=s/\∀x∈b,x<256)
  (hL:aB w gL 3 jZ)(htL:Hid (jZ.take m=dF L))(hP:∀q,q<s->w.cell? ⟨pb,po+q,none⟩=some (.int .u8 ((bs[q]?.getD 0:Nat):Int)))(Mt:pb<w.heap.size):
  Calls prog 149 #[.slice (some ⟨gO,0,none⟩) K dN,.slice (some ⟨gL,0,none⟩) m nU,.int .i64 j,.slice (some ⟨pb,po,none⟩) s g_] w fun e w'=>
   e= .returned (.slice (some ⟨w.heap.size,0,none⟩) c c)/\Below w.heap.size w w'/\aB w' w.heap.size 5 (bO (eU m s j kn (L.map (Pk.weight j ·)++bs) K)):=by
 obtain⟨i0,hi,ep,cJ,cW⟩:=info_parts Tryz.infoByte;have Yl:=hO.lt;have hgL:=hL.lt;have HO:=hide hO;have HL:=hide hL;have HP:=hide hP;have HK:=hide mB;have HS:=hide te
 clear hO hL hP mB te;obtain⟨U,Tl⟩:∃U,U=bO (L.map (Pk.weight j ·)++bs):=⟨_,rfl⟩;have N3:Hid (U.length=c):=by
  show _=_;rw[Tl,aP,List.length_append,List.length_map,hm.out,hs.out,hc.out]
 have hU:=hide Tl;clear Tl;have gh:Hid ((m:Int)+(s:Int)=(c:Int)):=by
  show _=_;have:=hc.out;omega
 have pj:(m:Int)+(s:Int)=(c:Int):=gh.out;clear gh;go_enter func149,ntmps149;go_wp2_with (at_make;refine qF _ rfl _ _ 28 rfl 5 i0 (.int .u8 0) underlying28 hi ep cJ rfl .i64 .i64 0 c rfl (by simp[Act.eval]) (by omega) (by rw[cW];omega) (by omega) ?_)
 have du:Hid (Below w.heap.size w (w.alloc (.cells (madeCells #[.int .u8 0] c) 5))):=(Below.refl _ _).alloc (Nat.le_refl _) _;have ff:Hid (aB (w.alloc (.cells (madeCells #[.int .u8 0] c) 5)) w.heap.size 5 (fill U (.int .u8 0) 0)):=by
  show aB _ _ _ _;rw[vR,N3.out];exact jA w (.int .u8 0) c 5
 go_loopw [9,22] (fun v x wr=>∃k:Nat,k<=m/\v= .slice (some ⟨w.heap.size,0,none⟩) k c/\x= .int .i64 k/\Below w.heap.size w wr/\w.heap.size<wr.heap.size/\aB wr w.heap.size 5 (fill U (.int .u8 0) k))
  (fun _ x _=>leftOf m (intOf x).toNat)
 case atStart=>exact⟨0,by omega,rfl,rfl,du.out,by simp,ff.out⟩
 case round=>
  obtain⟨k,hk,rfl,rfl,cX,cC,hr⟩:=hrel;by_cases ai:k<m
  .have Oq:k<L.length:=by rw[hm.out];exact ai
   have Bb:wr.cell? ⟨gL,k,none⟩=some (.int .i64 ((L[k]?.getD 0:Nat):Int)):=by
    apply (HL.out.below cX hgL).cell;have:(jZ.take m)[k]? =some (.int .i64 ((L[k]?.getD 0:Nat):Int)):=by rw[htL.out];exact qM Oq
    rw[List.getElem?_take,if_pos ai]at this;exact this
   have tv:L[k]?.getD 0<32:=getD_lt QV Oq;have hd:Hid ((U.drop k).take 1= [.int .u8 ((Pk.weight j (L[k]?.getD 0):Nat):Int)]):=by
    show _=_;rw[hU.out];have ME:k<(bO (L.map (Pk.weight j ·)++bs)).length:=by rw[aP,List.length_append,List.length_map];omega
    rw[List.drop_eq_getElem_cons ME];simp[bO,Oq]
   have hB:=hide cX;have hR:=hide hr;have hSz:=hide cC
   clear cX hr Oq cC;revert Bb tv hd;generalize L[k]?.getD 0=x;intro Bb tv hd;have hw:=Pk.iJ hj tv;have Vd:=hide (fun w=>oQ j x hj tv w);revert hw Vd hd;generalize Pk.weight j x=wt;intro hd hw Vd;have PQ:IntKind.u8.wrap (wt:Int)=(wt:Int):=dw _ (by omega) (by omega);have sg:(0:Int)<=(k:Int):=by omega
   have qi:(k:Int)<(m:Int):=by omega
   have eh:k+1<=c:=by have:=hc.out;omega
   go_wp2_with first|(go_at_call 171;refine(Vd.out _).mono ?_;rintro _ wq ⟨rfl,hq⟩;have cI:=hq.symm;clear hq;subst cI)|(at_builtin;refine fP _ rfl _ _ 28 rfl 5 i0 underlying28 hi cJ w.heap.size k c U (.int .u8 0) rfl N3.out (hR.out.alloc _) ⟨wr.heap.size,0,none⟩ 1 1 [.int .u8 (wt:Int)] rfl rfl (cell_one_new _ _ _) (by intro u hu;simp at hu;subst hu;rfl) hd.out eh ?_)
   intro w1 dg c_;have wj:=hide dg;have hG1:=hide c_
   clear dg c_;go_wp2;go_roundw
   case rel=>
    have dC:=hG1.out.size;have eM:=hSz.out;refine⟨k+1,by omega,rfl,by go_num,(hB.out.alloc hB.out.size _).grown hG1.out (by simp;omega) (by intro q hq;simp at hq;omega),?_,wj.out⟩;simp at dC;omega
   case measure=>refine aW ?_ ?_<;>simp only[intOf]<;>omega
  .have e:k=m:=by omega
   subst e;have hB:=hide cX;have hR:=hide hr;have hSz:=hide cC
   clear cX hr cC;have vu:Hid (∀q u,(bO bs)[q]? =some u->wr.cell? ((⟨pb,po,none⟩:Addr).add q)=some u):=fun q u hu=>by
    have hq:q<bs.length:=by have:=(List.getElem?_eq_some_iff.1 hu).1;rw[aP]at this;exact this
    rw[gX hq]at hu;rw[Addr.add_lit,hB.out.cell (by exact Mt),<-hu];exact HP.out q (by rw[<-hs.out];exact hq)
   have hd:Hid ((U.drop k).take s=bO bs):=by
    show _=_;have e1:U=bO (L.map (Pk.weight j ·))++bO bs:=by rw[hU.out];simp[bO]
    rw[e1,List.drop_left' (by rw[aP,List.length_map];exact hm.out),List.take_of_length_le (by rw[aP,hs.out];exact Nat.le_refl _)]
   have si:k+s=c:=hc.out;have Kb:Hid (k+s=c):=si;clear si;go_wp2_with (at_builtin;refine fP _ rfl _ _ 28 rfl 5 i0 underlying28 hi cJ w.heap.size k c U (.int .u8 0) rfl N3.out hR.out ⟨pb,po,none⟩ s g_ (bO bs) rfl (by rw[aP,hs.out]) vu.out (by intro u hu;obtain⟨x,_,rfl⟩:=List.mem_map.1 hu;rfl) hd.out (by rw[Kb.out];exact Nat.le_refl _) ?_)
   intro w1 dg c_;rw[Kb.out]at dg⊢;have wj:Hid (aB w1 w.heap.size 5 (bO (eU k s j kn (L.map (Pk.weight j ·)++bs) 0))):=by
    show aB _ _ _ _;have:=dg;rw[<-N3.out,Aj,hU.out]at this;exact this
   have fa:Hid (Below w.heap.size w w1):=hB.out.grown c_ hB.out.size (by intro q hq;simp at hq;omega);clear dg c_ hR hB vu hd;go_wp2;go_loopw [39] (fun x wr=>∃i:Nat,i<=K/\x= .int .i64 i/\Below w.heap.size w wr/\aB wr w.heap.size 5 (bO (eU k s j kn (L.map (Pk.weight j ·)++bs) i)))
    (fun x _=>leftOf K (intOf x).toNat)
   case atStart=>exact⟨0,by omega,rfl,fa.out,wj.out⟩
   case round=>
    obtain⟨i,EE,rfl,cX,hr⟩:=hrel;by_cases pf:i<K
    .obtain⟨v,lO,ia⟩:=HK.out i pf;have AW:wr.cell? ⟨gO,i,none⟩=some v:=(HO.out.below cX Yl).cell i v lO;have Vd:=hide (fun w=>oQ j i hj (by omega) w);have PM:=Pk.iJ (j:=j) (i:=i) hj (by omega);have Tu:=jh k s j kn (L.map (Pk.weight j ·)++bs) i;have qq:∀x∈L.map (Pk.weight j ·)++bs,x<256:=fun x hx=>by
      rcases List.mem_append.1 hx with h|h
      .obtain⟨y,hy,rfl⟩:=List.mem_map.1 h;exact Pk.iJ hj (QV y hy)
      .exact oB x h
     have hA:Hid (Calls prog 170 #[.slice (some ⟨w.heap.size,k,none⟩) s s,v,.int .i64 (Pk.weight j i:Nat)] wr.drew fun e w'=>
       e= .returned (.tuple #[])/\wr.drew.grownBy w' (some w.heap.size)/\aB w' w.heap.size 5 (bO (eU k s j kn (L.map (Pk.weight j ·)++bs) (i+1)))):=by
      show Calls ..;cases sf:kn i with
      |none=>
       rw[sf]at ia;obtain rfl:v= .slice none 0 0:=ia;refine(FV _ _ _).mono ?_;rintro e w' ⟨rfl,rfl⟩;refine⟨rfl,World.grownBy.refl _ _,?_⟩;simp only[eU,sf];exact hr.drew
      |some b=>
       rw[sf]at ia;obtain⟨b0,o0,c0,rfl,dj,yf,cF⟩:Bytes w v b:=ia;have cN:b.length=s:=(HS.out i b sf).1;have hRlt:=Av (m:=k) (s:=s) (kn:=kn) hj qq (fun i' b' cU=>(HS.out i' b' cU).2) i (by omega);have e0:eU k s j kn (L.map (Pk.weight j ·)++bs) (i+1)=iw (eU k s j kn (L.map (Pk.weight j ·)++bs) i) k b (Pk.weight j i) s:=by simp only[eU,sf]
       rw[e0,cN];refine oH w.heap.size k s s b0 o0 c0 (Pk.weight j i) s _ b cN dC (Nat.le_refl _) ?_ yf hRlt PM wr.drew ?_ hr.drew (fun q hq=>?_)
       .rw[Tu,List.length_append,List.length_map,hm.out,hs.out];exact Nat.le_refl _
       .have:=bR (cF 0 (by omega));simp only at this;omega
       .have:=bR (cF 0 (by omega));show wr.cell? _=_;rw[cX.cell (by exact this)];exact cF q (by omega)
     have hB:=hide cX;clear cX hr lO ia Tu qq;revert Vd hA PM;generalize Pk.weight j i=wt;intro Vd PM hA;have ix:(0:Int)<=(i:Int):=by omega
     have MU:(i:Int)<(K:Int):=by omega
     have ot:(k:Int)<=(c:Int):=by have:=hc.out;omega
     have hcs1:c-k=s:=by have:=hc.out;omega
     have hcs2:(c:Int)-(k:Int)=(s:Int):=by have:=hc.out;omega
     have jz:¬c=k:=by have:=hc.out;omega
     go_wp2_with fail
     go_region_with (first|(go_at_call 171;refine(Vd.out _).mono ?_;rintro _ _ ⟨rfl,rfl⟩)|(go_at_call 170;refine hA.out.mono ?_;rintro _ w1 ⟨rfl,c_,dg⟩;replace c_:=hide c_;replace dg:=hide dg))
     all_goals
      go_wp2;go_roundw
      case rel=>exact⟨i+1,by omega,by go_num,(hB.out.drew.grown c_.out hB.out.size (by intro q hq;simp at hq;omega)),dg.out⟩
      case measure=>refine aW ?_ ?_<;>simp only[intOf]<;>omega
    .have e:i=K:=by omega
     subst e;have hB:=hide cX;have hR:=hide hr
     clear cX hr;go_wp2;go_ret;exact⟨rfl,hB.out,hR.out⟩
end
section
variable{c s V n pb po cpp Dn gO dN cM nU qo nE:Nat}{Kn Kr:Act->World->Prop}{w:World}{j3 j4 j5 j6 j7 k9 l3 l1 l2 b4 j1 e8 b5 b9 a8 b7 e5 c7 c5 c9 e6 b2 b3 a7 a1 k8 k7 j0 i6 j2 i7 j8 h9 h0 i1 k0 b8 b6 e9 c6 e7 c8 a6:Value}{pa:Nat->Option Addr}
theorem Db(f:Nat->Nat)(p:Nat->Bool):∀K,Pk.sumN f K=Pk.sumN (fun i=>if p i then f i else 0) K ^^^ Pk.sumN (fun i=>if p i then 0 else f i) K
 |0=>by simp[Pk.sumN]
 |K+1=>by
  simp only[Pk.sumN];rw[Db f p K];cases p K with
  |true=>simp only[if_true,Nat.xor_zero];rw[Nat.xor_assoc,Nat.xor_assoc,Nat.xor_comm (f K)]
  |false=>simp only[Bool.false_eq_true,if_false,Nat.xor_zero];rw[Nat.xor_assoc]
theorem Dc(f:Nat->Nat)(p:Nat->Bool):∀K,Pk.sumN (fun i=>if p i then f i else 0) K=Pk.sumN (fun t=>f (((List.range K).filter p)[t]?.getD 0)) ((List.range K).filter p).length
 |0=>rfl
 |K+1=>by
  simp only[Pk.sumN];rw[Dc f p K,List.range_succ,List.filter_append];cases hp:p K with
  |true=>
   have e: [K].filter p= [K]:=by simp[hp]
   rw[e,List.length_append,List.length_singleton,Pk.sumN];congr 1
   .refine Pk.sumN_congr fun t ht=>?_;rw[List.getElem?_append_left ht]
   .simp
  |false=>
   have e: [K].filter p= []:=by simp[hp]
   rw[e,List.append_nil];simp
theorem Uo{l:List Nat}(h:l.length=c):lst c (fun j=>l[j]?.getD 0)=l:=
 Ap (by rw[bN,h]) fun i hi=>by rw[nO (by omega)]
def knT(kn:Nat->Option (List Nat))(j q i:Nat):Nat:=match kn i with|some b=>Gf.mul (b[q]?.getD 0) (Pk.weight j i)|none=>0
theorem Az{m s j:Nat}{kn:Nat->Option (List Nat)}{R:List Nat}(hR:R.length=m+s){q:Nat}(hq:q<s):∀i,(eU m s j kn R i)[m+q]?.getD 0=(R[m+q]?.getD 0) ^^^ Pk.sumN (knT kn j q) i
 |0=>by simp[eU,Pk.sumN]
 |i+1=>by
  have ih:=Az (j:=j) (kn:=kn) hR hq i;have hl:=jh m s j kn R i;rw[Pk.sumN,<-Nat.xor_assoc,<-ih];simp only[eU,knT];cases hk:kn i with
  |none=>simp
  |some b=>
   simp only;rw[qA (by omega),if_pos (by omega),Nat.add_sub_cancel_left]
theorem Aw{m s j:Nat}{kn:Nat->Option (List Nat)}{R:List Nat}(hR:R.length=m+s){q:Nat}(hq:q<m):∀i,(eU m s j kn R i)[q]?.getD 0=R[q]?.getD 0
 |0=>rfl
 |i+1=>by
  have ih:=Aw (j:=j) (kn:=kn) hR hq i;have hl:=jh m s j kn R i;simp only[eU];cases hk:kn i with
  |none=>exact ih
  |some b=>
   simp only;rw[qA (by omega),if_neg (by omega)];exact ih
def Ja(blk:List Nat)(s:Nat)(hd:Nat->Bool)(i:Nat):Option (List Nat):=if hd i then some (Pk.piece blk s i)else none
def rowsOf(blk:List Nat)(s K:Nat)(hd:Nat->Bool)(E:Nat->Nat)(i:Nat):List Nat:=
 eU ((List.range K).filter fun i=> !hd i).length s (E i) (Ja blk s hd) (((List.range K).filter fun i=> !hd i).map (Pk.weight (E i) ·)++Pk.pieceN blk s K (K+E i)) K
theorem Ik{blk:List Nat}{K:Nat}{hd:Nat->Bool}{E:Nat->Nat}(hb:blk.length=K*s)(cN:∀x∈blk,x<256)(hK:K<=20)(hE:∀i,i<((List.range K).filter fun i=> !hd i).length->E i<20)(Y6:∀i j,i<((List.range K).filter fun i=> !hd i).length->j<((List.range K).filter fun i=> !hd i).length->E i=E j->i=j):
  ∀m,m=((List.range K).filter fun i=> !hd i).length->∀M:Nat->Nat->Nat,(∀i j,M i j=(rowsOf blk s K hd E i)[j]?.getD 0)->(∀i j,i<m->j<m+s->M i j<256)->
  (∀c,c<m->Gs.it m M c c c≠0)/\(∀c,c<=m->∀i j,i<m->j<m+s->Gs.it m M c i j<256)/\∀t q,t<m->q<s->Gs.it m M m t (m+q)=blk[(((List.range K).filter fun i=> !hd i)[t]?.getD 0)*s+q]?.getD 0:=by
 intro m hm M hM ai;have QV:∀t,t<m->((List.range K).filter fun i=> !hd i)[t]?.getD 0<K/\hd (((List.range K).filter fun i=> !hd i)[t]?.getD 0)=false:=fun t ht=>by
  have h1:t<((List.range K).filter fun i=> !hd i).length:=by omega
  have h2:((List.range K).filter fun i=> !hd i)[t]?.getD 0=((List.range K).filter fun i=> !hd i)[t]:=by simp[h1]
  have h3:=List.getElem_mem h1;rw[<-h2,List.mem_filter,List.mem_range]at h3;exact⟨h3.1,by simpa using h3.2⟩
 have QW:∀t u,t<m->u<m->((List.range K).filter fun i=> !hd i)[t]?.getD 0=((List.range K).filter fun i=> !hd i)[u]?.getD 0->t=u:=fun t u ht hu e=>by
  have h1:t<((List.range K).filter fun i=> !hd i).length:=by omega
  have h2:u<((List.range K).filter fun i=> !hd i).length:=by omega
  have hn:((List.range K).filter fun i=> !hd i).Nodup:=List.nodup_range.filter _;simp only[List.getElem?_eq_getElem h1,List.getElem?_eq_getElem h2,Option.getD_some]at e;exact(List.getElem_inj hn).1 e
 have fh:∀i q,i<K->q<s->blk[i*s+q]?.getD 0<256:=fun i q hi hq=>by
  refine getD_lt cN ?_;have:=Nat.mul_le_mul_right s hi;rw[Nat.succ_mul]at this;omega
 have ve:∀i j,j<m->M i j=Pk.weight (E i) (((List.range K).filter fun i=> !hd i)[j]?.getD 0):=fun i j hj=>by
  rw[hM,rowsOf,Aw (by rw[List.length_append,List.length_map,Pk.dW hb]) (by omega),List.getElem?_append_left (by rw[List.length_map];omega),List.getElem?_map];have:j<((List.range K).filter fun i=> !hd i).length:=by omega
  simp[this]
 have hS:Gs.bV m M:=fun i hi j hj=>ai i j hi (by omega);have hI:∀m',m'<=m->Gs.Gi m' M:=by
  intro m' vz;refine Gs.DF (R:=fun i j=>Gf.inv ((255-E i) ^^^ (((List.range K).filter fun i=> !hd i)[j]?.getD 0))) (fun i j hi hj=>?_) (Gs.JJ (n:=m) (a:=fun i=>255-E i) (b:=fun j=>((List.range K).filter fun i=> !hd i)[j]?.getD 0) (fun i hi=>?_) (fun j hj=>?_) (fun i j hi hj e=>?_) (fun i j hi hj e=>QW i j hi hj e) (fun i j hi hj e=>?_) m' vz)
  .rw[ve i j (by omega)];rfl
  .show 255-E i<256;omega
  .have:=(QV j hj).1;show _<256;omega
  .have h1:=hE i (by omega);have h2:=hE j (by omega);exact Y6 i j (by omega) (by omega) (by omega)
  .have h1:=hE i (by omega);have h2:=(QV j hj).1;omega
 refine⟨fun c hc=>Gs.Uy hS hI hc,fun c hc i j hi hj=>Gs.zS hS hI (fun i hi=>ai i j hi hj) c hc i hi,fun t q ht hq=>?_⟩;have hx:Gs.Small m (fun t=>blk[(((List.range K).filter fun i=> !hd i)[t]?.getD 0)*s+q]?.getD 0):=fun t ht=>fh _ q (QV t ht).1 hq;refine Gs.it_end hS hI (fun i hi=>ai i (m+q) hi (by omega)) hx (fun i hi=>?_) t ht;have MM:(Pk.pieceN blk s K (K+E i))[q]? =some (Pk.sumN (fun i'=>Gf.mul (blk[i'*s+q]?.getD 0) (Pk.weight (E i) i')) K):=by
  rw[Pk.pieceN_at hb cN hq,Pk.dotN];congr 1
  refine Pk.sumN_congr fun i' bh=>?_;unfold Pk.rowAt;rw[if_neg (by omega),Nat.add_sub_cancel_left]
 have NB:M i (m+q)=Pk.sumN (fun i'=>Gf.mul (blk[i'*s+q]?.getD 0) (Pk.weight (E i) i')) K ^^^ Pk.sumN (knT (Ja blk s hd) (E i) q) K:=by
  rw[hM,rowsOf,hm,Az (by rw[List.length_append,List.length_map,Pk.dW hb]) hq,List.getElem?_append_right (by rw[List.length_map];omega),List.length_map,Nat.add_sub_cancel_left,MM];rfl
 have ME:Pk.sumN (knT (Ja blk s hd) (E i) q) K=Pk.sumN (fun i'=>if hd i' then Gf.mul (blk[i'*s+q]?.getD 0) (Pk.weight (E i) i')else 0) K:=by
  refine Pk.sumN_congr fun i' bh=>?_;unfold knT Ja;cases hd i' with
  |true=>simp only[if_true];rw[Pk.piece_at hq]
  |false=>simp
 show Gs.lin m (M i) _=M i (m+q);rw[NB,ME,Db (fun i'=>Gf.mul (blk[i'*s+q]?.getD 0) (Pk.weight (E i) i')) hd K,Nat.xor_comm,<-Nat.xor_assoc,Nat.xor_self,Nat.zero_xor];have e1:Pk.sumN (fun i'=>if hd i' then 0 else Gf.mul (blk[i'*s+q]?.getD 0) (Pk.weight (E i) i')) K=Pk.sumN (fun i'=>if !hd i' then Gf.mul (blk[i'*s+q]?.getD 0) (Pk.weight (E i) i')else 0) K:=by
  refine Pk.sumN_congr fun i' _=>?_;cases hd i'<;>simp
 rw[e1,Dc (fun i'=>Gf.mul (blk[i'*s+q]?.getD 0) (Pk.weight (E i) i')) (fun i=> !hd i) K,<-hm];unfold Gs.lin;refine Pk.sumN_congr fun t ht=>?_;rw[ve i t ht]
open Go.RowKit Go.Deep Go.bn
attribute [local go_sem↓] Go.wp_at_zero Go.wp_at_succ
theorem VW{K:Nat}{xs:List Value}{j9 f0 g2 d9 f7 g4 f6 d6 a2 i2 g8 g6 g9 i4 i3 g7 i8 i9 g5 c3 c2 f9 c4 d1 d0 g0 d2 g1 g3 d4 d7 f8 d8 d5 d3 a5:Value}(hn:Hid (n=K+V))(gi:1<=K)(hK:K<=20)(hV:V<=20)(Ym:n<=cpp)(gh:cpp<=9223372036854775807)(ll:Hid (xs.length=K))(ie:∀u∈xs,u.oneCell'=true)(hc:∀j u,xs[j]? =some u->w.cell? ⟨pb,po+j,none⟩=some u)
  (hQ:∀(gO dN:Nat) (cur:List Value) (aM:Option Addr) (cM:Nat) (xi H4 H0 HJ HH Hx Hv:Value) (w':World),Below w.heap.size w w'->w.heap.size<=gO->aB w' gO 28 cur->cur.take K=xs->K<=dN->dN<=maxLen->cur.length=dN->(0<V->aM=some ⟨pb,po+K,none⟩)->Kn ⟨#[.slice (some ⟨pb,po,none⟩) n cpp,.int .i64 V,.chan (some Dn),j3,j4,j5,j6,j7,.int .i64 K,.slice (some ⟨gO,0,none⟩) K dN,.slice aM V cM,l3,l1,l2,b4,j1,f0,e8,b5,b9,a8,b7,xi,H4,H0,HJ,HH,Hx,Hv,c5,c9,e6,d6,b2,b3,a7,a1,a2,k8,i2,k7,j0,i6,g8,j2,g6,g9,i7,i4,j8,h9,i3,g7,i8,i9,g5,h0,i1,k0,b8,b6,c3,c2,f9,e9,c4,d1,d0,g0,d2,g1,g3,c6,e7,d4,d7,f8,d8,d5,d3,c8,a5,a6],[]⟩ w'):
  (eO [1,1,0] (f91.body.getD .skip)).wp prog (zF Kn Kr) ⟨#[.slice (some ⟨pb,po,none⟩) n cpp,.int .i64 V,.chan (some Dn),j3,j4,j5,j6,j7,.int .i64 K,j9,k9,l3,l1,l2,b4,j1,f0,e8,b5,b9,a8,b7,g2,d9,f7,g4,e5,c7,f6,c5,c9,e6,d6,b2,b3,a7,a1,a2,k8,i2,k7,j0,i6,g8,j2,g6,g9,i7,i4,j8,h9,i3,g7,i8,i9,g5,h0,i1,k0,b8,b6,c3,c2,f9,e9,c4,d1,d0,g0,d2,g1,g3,c6,e7,d4,d7,f8,d8,d5,d3,c8,a5,a6],[]⟩ w:=by
 have HQ:=hide hQ;have HC:=hide hc
 clear hQ hc;have O':Hid (∀w1:World,(∀j u,xs[j]? =some u->w1.cell? ⟨pb,po+j,none⟩=some u)->Calls prog 147 #[.slice (some ⟨pb,po,none⟩) K cpp] w1 fun e w'=>∃v,e= .returned v/\bK w' 28 v xs/\(∀k,v.ownBlock=some k->w1.heap.size<=k)/\Below w1.heap.size w1 w'):=fun w1 h=>Nc pb po K cpp xs ll ie (by omega) w1 h;have a_:Hid (∀(w':World) (v:Value),bK w' 28 v xs->(∀k,v.ownBlock=some k->w.heap.size<=k)->∃gO dN cur,v= .slice (some ⟨gO,0,none⟩) K dN/\w.heap.size<=gO/\aB w' gO 28 cur/\cur.take K=xs/\K<=dN/\dN<=maxLen/\cur.length=dN):=fun w' v h1 h2=>by
  obtain⟨g,cap,cur,rfl,k1,k2,k3,k4,k5⟩:=h1.open' (by rw[ll.out];omega);rw[ll.out]at k2 k5;exact⟨g,cap,cur,by rw[ll.out],h2 g rfl,k1,k5,k2,k3,k4⟩
 have hKn:(K:Int)<=(n:Int):=by have:=hn.out;omega
 have hKc:(K:Int)<=(cpp:Int):=by omega
 have py:(n:Int)<=(cpp:Int):=by omega
 have hK0:(0:Int)<=(K:Int):=by omega
 have DM:n-K=V:=by have:=hn.out;omega
 have hnK2:(n:Int)-(K:Int)=(V:Int):=by have:=hn.out;omega
 simp only[f91,Option.getD_some,eO];by_cases jz:cpp=K
 .have Tk:V=0:=by have:=hn.out;omega
  subst Tk;subst jz;go_region_with (go_at_call 147;refine(O'.out w.drew HC.out).mono ?_;rintro _ w1 ⟨v,rfl,lO,ia,mq⟩;obtain⟨gO,dN,cur,rfl,k1,k2,k3,k4,k5,k6⟩:=a_.out w1 v lO ia;clear lO ia;have k1:=hide k1;have k2:=hide k2;have k3:=hide k3;have k4:=hide k4;have k5:=hide k5;have k6:=hide k6;have mq:=hide mq)
  all_goals
   go_wp2;exact HQ.out gO dN cur _ _ _ _ _ _ _ _ _ w1 ((Below.refl _ w).drew.trans mq.out) k1.out k2.out k3.out k4.out k5.out k6.out (fun h=>absurd h (Nat.lt_irrefl _))
 .have hck2:¬(cpp:Int)=(K:Int):=by omega
  go_region_with (go_at_call 147;refine(O'.out w.drew HC.out).mono ?_;rintro _ w1 ⟨v,rfl,lO,ia,mq⟩;obtain⟨gO,dN,cur,rfl,k1,k2,k3,k4,k5,k6⟩:=a_.out w1 v lO ia;clear lO ia;have k1:=hide k1;have k2:=hide k2;have k3:=hide k3;have k4:=hide k4;have k5:=hide k5;have k6:=hide k6;have mq:=hide mq)
  all_goals
   go_wp2;exact HQ.out gO dN cur _ _ _ _ _ _ _ _ _ w1 ((Below.refl _ w).drew.trans mq.out) k1.out k2.out k3.out k4.out k5.out k6.out (fun _=>rfl)
theorem VU{K:Nat}{aM:Option Addr}{cur:List Value}{pl pc:Nat->Nat}{f0 g2 d9 f7 g4 f6 d6 a2 i2 g8 g6 g9 i4 i3 g7 i8 i9 g5 c3 c2 f9 c4 d1 d0 g0 d2 g1 g3 d4 d7 f8 d8 d5 d3 a5:Value}(hK:K<=20)(hV:V<=20)(hO:aB w gO 28 cur)(bw:∀i,i<K->cur[i]? =some (.slice (pa i) (pl i) (pc i)))(hM:0<V->aM=some ⟨pb,po+K,none⟩)(Y4:∀j,j<V->w.cell? ⟨pb,po+K+j,none⟩=some (.slice (pa (K+j)) (pl (K+j)) (pc (K+j))))
  (hQ:∀(vL vE:Value) (Hs Hn Hm Hk:Value) (w':World),Below w.heap.size w w'->bK w' 3 vL (dF (picks pa false K))->(∀k,vL.ownBlock=some k->w.heap.size<=k)->bK w' 3 vE (dF (picks (fun j=>pa (K+j)) true V))->(∀k,vE.ownBlock=some k->w.heap.size<=k)->Kn ⟨#[.slice (some ⟨pb,po,none⟩) n cpp,.int .i64 V,.chan (some Dn),j3,j4,j5,j6,j7,.int .i64 K,.slice (some ⟨gO,0,none⟩) K dN,.slice aM V cM,vL,vE,l2,b4,j1,f0,e8,b5,b9,a8,b7,g2,d9,f7,g4,e5,c7,f6,Hs,Hn,Hm,Hk,b2,b3,a7,a1,a2,k8,i2,k7,j0,i6,g8,j2,g6,g9,i7,i4,j8,h9,i3,g7,i8,i9,g5,h0,i1,k0,b8,b6,c3,c2,f9,e9,c4,d1,d0,g0,d2,g1,g3,c6,e7,d4,d7,f8,d8,d5,d3,c8,a5,a6],[]⟩ w'):
  (eO [1,1,1,0] (f91.body.getD .skip)).wp prog (zF Kn Kr) ⟨#[.slice (some ⟨pb,po,none⟩) n cpp,.int .i64 V,.chan (some Dn),j3,j4,j5,j6,j7,.int .i64 K,.slice (some ⟨gO,0,none⟩) K dN,.slice aM V cM,l3,l1,l2,b4,j1,f0,e8,b5,b9,a8,b7,g2,d9,f7,g4,e5,c7,f6,c5,c9,e6,d6,b2,b3,a7,a1,a2,k8,i2,k7,j0,i6,g8,j2,g6,g9,i7,i4,j8,h9,i3,g7,i8,i9,g5,h0,i1,k0,b8,b6,c3,c2,f9,e9,c4,d1,d0,g0,d2,g1,g3,c6,e7,d4,d7,f8,d8,d5,d3,c8,a5,a6],[]⟩ w:=by
 have HQ:=hide hQ;have hL:Hid (∀(ax:Array Value) (w2:World),ax=#[.slice (some ⟨gO,0,none⟩) K dN,.bool false]->w2=w->Calls prog 148 ax w2 fun e w'=>∃v,e= .returned v/\bK w' 3 v (dF (picks pa false K))/\(∀k,v.ownBlock=some k->w.heap.size<=k)/\Below w.heap.size w w'):=
  fun ax w2 e1 e2=>by rw[e1,e2];exact yI gO 0 K dN pa pl pc false (by omega) w (fun j hj=>by rw[Nat.zero_add];exact hO.cell j _ (bw j hj))
 have hE:Hid (∀w1,Below w.heap.size w w1->Calls prog 148 #[.slice aM V cM,.bool true] w1 fun e w'=>∃v,e= .returned v/\bK w' 3 v (dF (picks (fun j=>pa (K+j)) true V))/\(∀k,v.ownBlock=some k->w1.heap.size<=k)/\Below w1.heap.size w1 w'):=by
  intro w1 hb;rcases Nat.eq_zero_or_pos V with Tk|hVp
  .subst Tk;refine(J7 aM cM true w1).mono ?_;rintro e w' ⟨rfl,rfl⟩;exact⟨_,rfl,by simpa[picks,dF]using h_ _ _,by intro k hk;simp[Value.ownBlock]at hk,Below.refl _ _⟩
  .rw[hM hVp];refine yI pb (po+K) V cM (fun j=>pa (K+j)) (fun j=>pl (K+j)) (fun j=>pc (K+j)) true (by omega) w1 (fun j hj=>?_);have h:=Y4 j hj;rw[hb.cell (show pb<w.heap.size from bR h)];exact h
 clear hQ hO bw hM Y4;simp only[f91,Option.getD_some,eO];go_wp2_with first|(go_at_call 148;refine(hL.out _ _ ?e1 ?e2).mono ?_;(case e1=>exact rfl);(case e2=>exact rfl);rintro _ w1 ⟨vL,rfl,lO,ia,mq⟩;have O2:Hid (∀(ax:Array Value) (w2:World),ax=#[.slice aM V cM,.bool true]->w2=w1->Calls prog 148 ax w2 fun e w'=>∃v,e= .returned v/\bK w' 3 v (dF (picks (fun j=>pa (K+j)) true V))/\(∀k,v.ownBlock=some k->w1.heap.size<=k)/\Below w1.heap.size w1 w'):=(fun ax w2 e1 e2=>by rw[e1,e2];exact hE.out w1 mq);replace lO:=hide lO;replace ia:=hide ia;replace mq:=hide mq)|(go_at_call 148;refine(O2.out _ _ ?e3 ?e4).mono ?_;(case e3=>exact rfl);(case e4=>exact rfl);rintro _ w2 ⟨vE,rfl,vp,mv,mu⟩;replace vp:=hide vp;replace mv:=hide mv;replace mu:=hide mu)
 have cq:Below w.heap.size w w2:=mq.out.trans ⟨mu.out.os,mu.out.tape,mu.out.output,mu.out.size,fun k hk=>mu.out.block k (Nat.lt_of_lt_of_le hk mq.out.size)⟩;exact HQ.out vL vE _ _ _ _ w2 cq (lO.out.later mu.out) ia.out vp.out (fun k hk=>Nat.le_trans mq.out.size (mv.out k hk))
theorem VT{K gL gE m:Nat}{cur jZ FI:List Value}{pl pc:Nat->Nat}{L E:List Nat}{kn:Nat->Option (List Nat)}{Yw:Nat->List Nat}{f0 g2 d9 f7 g4 f6 d6 a2 i2 g8 g6 g9 i4 i3 g7 i8 i9 g5 c3 c2 f9 c4 d1 d0 g0 d2 g1 g3 d4 d7 f8 d8 d5 d3 a5:Value}(hK:K<=20)(hV:V<=20)(gv:1<=s)(hs:s<=65536)(oe:1<=m)(El:m<=20)(hmE:m<=nE)(AK:nE<=20)(FA:nE<=qo)(hc:Hid (m+s=c))(di:c<=65536)(hm:Hid (L.length=m))(Uq:Hid (E.length=nE))
  (K5:∀x∈L,x<32)(hEV:∀x∈E,x<V)(hO:aB w gO 28 cur)(bw:∀i,i<K->∃v,cur[i]? =some v/\OH w v (kn i))(te:∀i b,kn i=some b->b.length=s/\∀x∈b,x<256)(Gb:aB w gL 3 jZ)(xa:Hid (jZ.take m=dF L))(Up:aB w gE 3 FI)(T8:Hid (FI.take nE=dF E))
  (Y4:∀j,j<V->w.cell? ⟨pb,po+K+j,none⟩=some (.slice (pa (K+j)) (pl (K+j)) (pc (K+j))))(hP:∀q,q<m->Bytes w (.slice (pa (K+E[q]?.getD 0)) (pl (K+E[q]?.getD 0)) (pc (K+E[q]?.getD 0))) (Yw q)/\(Yw q).length=s)
  (hQ:∀(rv:Value) (rg:Nat->Nat) (xj Zb Za Y_ Y9 Y8 uu Y7 Hj Hi Hh Hc Hb Ha G' GS GQ GP GO GM GG GC:Value) (w':World),Below w.heap.size w w'->Bf w' rv m c rg->eH w' m c rg (fun i j=>(eU m s (E[i]?.getD 0) kn (L.map (Pk.weight (E[i]?.getD 0) ·)++Yw i) K)[j]?.getD 0)->(∀i,i<m->w.heap.size<=rg i)->(∀k,rv.ownBlock=some k->w.heap.size<=k)->Kn ⟨#[.slice (some ⟨pb,po,none⟩) n cpp,.int .i64 V,.chan (some Dn),j3,j4,j5,j6,j7,.int .i64 K,.slice (some ⟨gO,0,none⟩) K dN,.slice (some ⟨pb,po+K,none⟩) V cM,.slice (some ⟨gL,0,none⟩) m nU,.slice (some ⟨gE,0,none⟩) nE qo,rv,b4,xj,f0,e8,b5,b9,a8,b7,g2,d9,f7,g4,e5,c7,f6,c5,c9,e6,d6,b2,b3,a7,a1,a2,Zb,Za,Y_,Y9,Y8,uu,Y7,Hj,Hi,Hh,Hc,Hb,Ha,G',GS,GQ,GP,GO,GM,GG,GC,b8,b6,c3,c2,f9,e9,c4,d1,d0,g0,d2,g1,g3,c6,e7,d4,d7,f8,d8,d5,d3,c8,a5,a6],[]⟩ w'):
  (eO [1,1,1,1,1,1,0] (f91.body.getD .skip)).wp prog (zF Kn Kr) ⟨#[.slice (some ⟨pb,po,none⟩) n cpp,.int .i64 V,.chan (some Dn),j3,j4,j5,j6,j7,.int .i64 K,.slice (some ⟨gO,0,none⟩) K dN,.slice (some ⟨pb,po+K,none⟩) V cM,.slice (some ⟨gL,0,none⟩) m nU,.slice (some ⟨gE,0,none⟩) nE qo,.slice none 0 0,b4,j1,f0,e8,b5,b9,a8,b7,g2,d9,f7,g4,e5,c7,f6,c5,c9,e6,d6,b2,b3,a7,a1,a2,k8,i2,k7,j0,i6,g8,j2,g6,g9,i7,i4,j8,h9,i3,g7,i8,i9,g5,h0,i1,k0,b8,b6,c3,c2,f9,e9,c4,d1,d0,g0,d2,g1,g3,c6,e7,d4,d7,f8,d8,d5,d3,c8,a5,a6],[]⟩ w:=by
 obtain⟨i0,hi,ep,cJ,cW⟩:=info_parts Tryz.infoBytes;have HQ:=hide hQ;have HO:=hide hO;have HU:=hide bw;have HS:=hide te;have HL:=hide Gb;have HE:=hide Up;have HM:=hide Y4;have HP:=hide hP;have HEV:=hide hEV
 have hgE:=Up.lt;clear hQ hO bw te Gb Up Y4 hP hEV;have tb:(0:Int)<=(m:Int):=by omega
 have Rr:(m:Int)<=(qo:Int):=by omega
 simp only[f91,Option.getD_some,eO];go_wp2;go_loopw [13,43] (fun v x wr=>∃(q:Nat) (rg:Nat->Nat),q<=m/\x= .int .i64 q/\bK wr 28 v ((List.range q).map fun i=>Value.slice (some ⟨rg i,0,none⟩) c c)/\(∀k,v.ownBlock=some k->w.heap.size<=k)/\(∀i,i<q->w.heap.size<=rg i/\v.ownBlock≠some (rg i))/\eH wr q c rg (fun i j=>(eU m s (E[i]?.getD 0) kn (L.map (Pk.weight (E[i]?.getD 0) ·)++Yw i) K)[j]?.getD 0)/\Below w.heap.size w wr)
  (fun _ x _=>leftOf m (intOf x).toNat)
 case atStart=>exact⟨0,fun _=>0,by omega,rfl,by simpa using h_ _ _,by intro k hk;simp[Value.ownBlock]at hk,fun i hi=>by omega,⟨fun i hi=>by omega,fun i j hi=>by omega,fun i j hi=>by omega⟩,Below.refl _ _⟩
 case round=>
  obtain⟨q,rg,hq,rfl,br,fh,UK,bu,hb⟩:=hrel;by_cases ai:q<m
  .have Q4:q<E.length:=by rw[Uq.out];omega
   have zb:wr.cell? ⟨gE,q,none⟩=some (.int .i64 ((E[q]?.getD 0:Nat):Int)):=by
    apply (HE.out.below hb hgE).cell;have:(FI.take nE)[q]? =some (.int .i64 ((E[q]?.getD 0:Nat):Int)):=by rw[T8.out];exact qM Q4
    rw[List.getElem?_take,if_pos (by omega)]at this;exact this
   have Sb:E[q]?.getD 0<V:=getD_lt HEV.out Q4;obtain⟨⟨b0,o0,c0,FF,sk,rr,MP⟩,cN⟩:=HP.out q ai;have x_:pb<w.heap.size:=bR (HM.out _ Sb);have hcM2:wr.cell? ⟨pb,po+K+E[q]?.getD 0,none⟩=some (.slice (some ⟨b0,o0,none⟩) s c0):=by
    rw[hb.cell (show pb<w.heap.size from x_),HM.out _ Sb,FF,cN]
   have K3:b0<w.heap.size:=bR (MP 0 (by omega));have hEq:Hid (Calls prog 149 #[.slice (some ⟨gO,0,none⟩) K dN,.slice (some ⟨gL,0,none⟩) m nU,.int .i64 ((E[q]?.getD 0:Nat):Int),.slice (some ⟨b0,o0,none⟩) s c0] wr fun e w'=>
     e= .returned (.slice (some ⟨wr.heap.size,0,none⟩) c c)/\Below wr.heap.size wr w'/\aB w' wr.heap.size 5 (bO (eU m s (E[q]?.getD 0) kn (L.map (Pk.weight (E[q]?.getD 0) ·)++Yw q) K))):=by
    refine CF gO dN gL nU b0 o0 c0 (E[q]?.getD 0) m s K c cur jZ L kn (Yw q) hm cN (by omega) (by omega) (by omega) hs gv hc (by omega) K5 rr wr (HO.out.below hb HO.out.lt) (fun i hi=>?_) HS.out (HL.out.below hb HL.out.lt) xa (fun r hr=>?_) (Nat.lt_of_lt_of_le K3 hb.size)
    .obtain⟨v,h1,h2⟩:=HU.out i hi;refine⟨v,h1,?_⟩;cases sf:kn i with
     |none=>rw[sf]at h2;exact h2
     |some b=>
      rw[sf]at h2;obtain⟨b1,o1,c1,e1,e2,e3,e4⟩:Bytes w v b:=h2;exact⟨b1,o1,c1,e1,e2,e3,fun j hj=>by rw[hb.cell (show b1<w.heap.size from bR (e4 j hj))];exact e4 j hj⟩
    .rw[hb.cell (show b0<w.heap.size from K3)];exact MP r (by omega)
   have K7:Hid (((eU m s (E[q]?.getD 0) kn (L.map (Pk.weight (E[q]?.getD 0) ·)++Yw q) K)).length=c):=by
    show _=_;rw[jh,List.length_append,List.length_map,hm.out,cN,hc.out]
   have hElt:Hid (∀x∈(eU m s (E[q]?.getD 0) kn (L.map (Pk.weight (E[q]?.getD 0) ·)++Yw q) K),x<256):=Av (by omega) (fun x hx=>by
     rcases List.mem_append.1 hx with h|h
     .obtain⟨y,hy,rfl⟩:=List.mem_map.1 h;exact Pk.iJ (by omega) (K5 y hy)
     .exact rr x h) (fun i b hk=>(HS.out i b hk).2) K (by omega)
   have hOw:=hide br;have Fq:=hide fh;have Od:=hide UK;have Ot:=hide bu;have hB:=hide hb
   have ll:Hid (((List.range q).map fun i=>Value.slice (some ⟨rg i,0,none⟩) c c).length=q):=by show _=_;simp
   clear br fh UK bu hb FF sk rr MP cN Q4;have p_:(0:Int)<=(q:Int):=by omega
   have km:(q:Int)<(m:Int):=by omega
   generalize hx:E[q]?.getD 0=x at zb Sb hcM2 hEq;replace hx:=hide hx;have PH:(0:Int)<=(x:Int):=by omega
   have ie:(x:Int)<(V:Int):=by omega
   go_wp2_with first|(go_at_call 149;refine hEq.out.mono ?_;rintro _ w1 ⟨rfl,dm,dg⟩;have TO:=hide ((hOw.out.later dm).alloc (.cells #[.slice (some ⟨wr.heap.size,0,none⟩) c c] 28));replace dm:=hide dm;replace dg:=hide dg)|(at_builtin;refine dG _ rfl _ _ 25 rfl 28 i0 (.slice none 0 0) 24 underlying25 hi ep cJ cW rfl _ _ rfl TO.out ⟨w1.heap.size,0,none⟩ 1 1 [.slice (some ⟨wr.heap.size,0,none⟩) c c] rfl rfl (cell_one_new _ _ _) (by intro u hu;simp at hu;subst hu;rfl) (by rw[ll.out];simp[maxLen];omega) (by rw[ll.out];omega) ?_)
   intro v' w2 bt;have hA:=hide bt;clear bt;go_wp2;go_roundw
   case rel=>
    have tw:=dm.out.size;have hszw:=hB.out.size;have cI:=dg.out.lt;have UE:∀k,u13.ownBlock=some k->k<wr.heap.size:=fun k hk=>hOw.out.lt hk;have Yc:∀i,i<q->rg i<wr.heap.size:=fun i hi=>(Ot.out.row i hi).lt;have QS:(w1.alloc (.cells #[.slice (some ⟨wr.heap.size,0,none⟩) c c] 28)).heap.size=w1.heap.size+1:=by simp
    have cg:∀g t (l:List Value),aB w1 g t l->u13.ownBlock≠some g->aB w2 g t l:=fun g t l hr bd=>hA.out.other (hr.alloc _) bd;refine⟨q+1,fun i=>if i=q then wr.heap.size else rg i,by omega,by go_num,?_,hA.out.from (by rw[QS];omega) Fq.out,fun i hi=>?_,⟨fun i hi=>?_,fun i j hi hj e=>?_,fun i j hi hj=>?_⟩,?_⟩
    .have:=hA.out.own;rw[List.range_succ,List.map_append,List.map_cons,List.map_nil];have e1:((List.range q).map fun i=>Value.slice (some ⟨if i=q then wr.heap.size else rg i,0,none⟩) c c)=(List.range q).map fun i=>Value.slice (some ⟨rg i,0,none⟩) c c:=by
      refine List.map_congr_left fun i hi=>?_;rw[if_neg (by rw[List.mem_range]at hi;omega)]
     simp only[e1,if_true];exact this
    .by_cases e:i=q
     .simp only[if_pos e];refine⟨by omega,fun hv=>?_⟩;rcases hA.out.block with h|h
      .rw[h]at hv;have:=UE _ hv;omega
      .rw[h,QS]at hv;have:=Option.some.inj hv;omega
     .simp only[if_neg e];have h1:=Od.out i (by omega);refine⟨h1.1,fun hv=>?_⟩;rcases hA.out.block with h|h
      .rw[h]at hv;exact h1.2 hv
      .rw[h,QS]at hv;have:=Option.some.inj hv;have:=Yc i (by omega);omega
    .by_cases e:i=q
     .subst e;simp only[if_true];rw[Uo K7.out];refine cg _ _ _ ?_ (fun hv=>by have:=UE _ hv;omega);have:=dg.out;rw[<-hx.out]at this;exact this
     .simp only[if_neg e];have Se:i<q:=by omega
      refine cg _ _ _ ((Ot.out.row i Se).of_block (dm.out.block _ (Yc i Se))) (Od.out i Se).2
    .by_cases e1:i=q<;>by_cases e2:j=q
     .omega
     .rw[if_pos e1,if_neg e2]at e;have:=Yc j (by omega);omega
     .rw[if_neg e1,if_pos e2]at e;have:=Yc i (by omega);omega
     .rw[if_neg e1,if_neg e2]at e;exact Ot.out.inj i j (by omega) (by omega) e
    .by_cases e1:i=q
     .subst e1;exact getD_lt hElt.out (by rw[K7.out];exact hj)
     .exact Ot.out.lt i j (by omega) hj
    .have bp:Below w.heap.size w w1:=hB.out.trans ⟨dm.out.os,dm.out.tape,dm.out.output,dm.out.size,fun k hk=>dm.out.block k (by omega)⟩;exact hA.out.below (bp.alloc (by omega) _) (by rw[QS];omega) Fq.out
   case measure=>refine aW ?_ ?_<;>simp only[intOf]<;>omega
  .have e:q=m:=by omega
   subst e;obtain⟨g,cap,cu,rfl,f1,f2,f3,f4,f5⟩:=br.open' (by simp;omega);have ll:((List.range q).map fun i=>Value.slice (some ⟨rg i,0,none⟩) c c).length=q:=by simp
   have hRv:Hid (Bf wr (.slice (some ⟨g,0,none⟩) ((List.range q).map fun i=>Value.slice (some ⟨rg i,0,none⟩) c c).length cap) q c rg):=by
    refine⟨_,cap,by rw[ll],fun _=>⟨g,rfl,fun i hi=>?_,fun i hi e=>(UK i hi).2 (by rw[e];rfl)⟩⟩;apply f1.cell;exact take_at f5 (by simp[hi])
   have Ot:=hide bu;have hB:=hide hb;have Od:=hide UK;have Fq:=hide fh
   clear br fh bu hb UK f1 f2 f3 f4 f5;rw[ll]at hRv Fq⊢;go_wp2;exact HQ.out _ rg _ _ _ _ _ _ _ _ _ _ _ _ _ _ _ _ _ _ _ _ _ _ wr hB.out hRv.out Ot.out (fun i hi=>(Od.out i hi).1) Fq.out
theorem Rx{K:Nat}{aL aE:Option Addr}{f0 g2 d9 f7 g4 f6 d6 a2 i2 g8 g6 g9 i4 i3 g7 i8 i9 g5 c3 c2 f9 c4 d1 d0 g0 d2 g1 g3 d4 d7 f8 d8 d5 d3 a5:Value}(AK:nE<=qo)(FA:qo<=maxLen)(S8:aE=none->nE=0/\qo=0)
  (hQ:∀(xj Zb Za Y_ Y9 Y8 uu Y7 Hj Hi Hh Hc Hb Ha G' GS GQ GP GO GM GG GC:Value),Kn ⟨#[.slice (some ⟨pb,po,none⟩) n cpp,.int .i64 V,.chan (some Dn),j3,j4,j5,j6,j7,.int .i64 K,.slice (some ⟨gO,0,none⟩) K dN,k9,.slice aL 0 nU,.slice aE nE qo,.slice none 0 0,b4,xj,f0,e8,b5,b9,a8,b7,g2,d9,f7,g4,e5,c7,f6,c5,c9,e6,d6,b2,b3,a7,a1,a2,Zb,Za,Y_,Y9,Y8,uu,Y7,Hj,Hi,Hh,Hc,Hb,Ha,G',GS,GQ,GP,GO,GM,GG,GC,b8,b6,c3,c2,f9,e9,c4,d1,d0,g0,d2,g1,g3,c6,e7,d4,d7,f8,d8,d5,d3,c8,a5,a6],[]⟩ w):
  (eO [1,1,1,1,1,1,0] (f91.body.getD .skip)).wp prog (zF Kn Kr) ⟨#[.slice (some ⟨pb,po,none⟩) n cpp,.int .i64 V,.chan (some Dn),j3,j4,j5,j6,j7,.int .i64 K,.slice (some ⟨gO,0,none⟩) K dN,k9,.slice aL 0 nU,.slice aE nE qo,.slice none 0 0,b4,j1,f0,e8,b5,b9,a8,b7,g2,d9,f7,g4,e5,c7,f6,c5,c9,e6,d6,b2,b3,a7,a1,a2,k8,i2,k7,j0,i6,g8,j2,g6,g9,i7,i4,j8,h9,i3,g7,i8,i9,g5,h0,i1,k0,b8,b6,c3,c2,f9,e9,c4,d1,d0,g0,d2,g1,g3,c6,e7,d4,d7,f8,d8,d5,d3,c8,a5,a6],[]⟩ w:=by
 have HQ:=hide hQ;clear hQ;simp only[maxLen]at FA;have hce0:(0:Int)<=(qo:Int):=by omega
 simp only[f91,Option.getD_some,eO];cases aE with
 |none=>
  obtain⟨rfl,rfl⟩:=S8 rfl;go_wp2;go_loopw [13,43] (fun v x wr=>v= .slice none 0 0/\x= .int .i64 0/\wr=w) (fun _ _ _=>0)
  case atStart=>exact⟨rfl,rfl,rfl⟩
  case round=>
   obtain⟨rfl,rfl,rfl⟩:=hrel;go_wp2;exact HQ.out _ _ _ _ _ _ _ _ _ _ _ _ _ _ _ _ _ _ _ _ _ _
 |some ad=>
  go_wp2;go_loopw [13,43] (fun v x wr=>v= .slice none 0 0/\x= .int .i64 0/\wr=w) (fun _ _ _=>0)
  case atStart=>exact⟨rfl,rfl,rfl⟩
  case round=>
   obtain⟨rfl,rfl,rfl⟩:=hrel;go_wp2;exact HQ.out _ _ _ _ _ _ _ _ _ _ _ _ _ _ _ _ _ _ _ _ _ _
end
section
open Go.RowKit Go.Deep
variable{w:World}{v:Value}{bs:List Nat}
def jren:Go.Shelf.Ren:=⟨fun|14=>94|15=>156|n=>n,fun|0=>0|3=>3|4=>4|5=>5|9=>9|20=>20|22=>28|26=>25|n=>n,fun|n=>n⟩
theorem Ux:Go.Proofs.SlLaysJ.n14 prog jren:= {
 mixed:=by kernel_rfl
 f14:=func94.trans (congrArg some (by kernel_rfl))
 f15:=func156.trans (congrArg some (by kernel_rfl))
 t0:=underlying0
 a0:=isAgg0
 z0:=sizeOf0
 v0:=zeroValue0
 t3:=underlying3
 a3:=isAgg3
 z3:=sizeOf3
 v3:=zeroValue3
 t4:=underlying4
 a4:=isAgg4
 z4:=sizeOf4
 v4:=zeroValue4
 t9:=underlying9
 a9:=isAgg9
 z9:=sizeOf9
 v9:=zeroValue9
 t20:=underlying20
 a20:=isAgg20
 z20:=sizeOf20
 v20:=zeroValue20
 t22:=underlying28
 a22:=isAgg28
 z22:=sizeOf28
 v22:=zeroValue28
 t26:=underlying25
 a26:=isAgg25
 z26:=sizeOf25
 v26:=zeroValue25
 t5:=underlying5
 z5:=sizeOf5
 i5:=Tryz.infoByte}
theorem yj{x:Nat}(h:x<256):(UInt8.ofNat x).toNat=x:=by simp;omega
def Wu(w:World)(v:Value)(bs:List Nat):Prop:=∃b off cap,v= .slice (some ⟨b,off,none⟩) bs.length cap/\(∀x∈bs,x<256)/\∀j,j<bs.length->w.cell? ⟨b,off+j,none⟩=some (.int .u8 ((bs[j]?.getD 0:Nat):Int))
theorem JM(h:Wu w v bs):Go.Lib.HoldsBytes w v (bs.map UInt8.ofNat):=by
 obtain⟨b,off,cap,rfl,h2,h3⟩:=h;refine⟨some ⟨b,off,none⟩,cap,by simp,(fun e=>by cases e),fun a ha i x hx=>?_⟩;obtain rfl:=Option.some.inj ha;rw[List.getElem?_map]at hx;cases hb:bs[i]? with
 |none=>rw[hb]at hx;cases hx
 |some y=>
  rw[hb]at hx;simp only[Option.map_some,Option.some.injEq]at hx;subst hx;have hi:i<bs.length:=(List.getElem?_eq_some_iff.1 hb).1;have hy:y<256:=h2 y (List.mem_of_getElem? hb);rw[Addr.add_lit,yj hy];have:=h3 i hi;rw[hb]at this;exact this
theorem Jq{B:Nat}{w':World}(oB:∀x∈bs,x<256)(h:Go.Lib.FreshBytes B w' v (bs.map UInt8.ofNat)):
  ∃g cap,v= .slice (some ⟨g,0,none⟩) bs.length cap/\B<=g/\bs.length<=cap/\cap<=maxLen/\(∀j,j<cap->w'.frozen? ⟨g,j,none⟩=false)/\∀j,j<bs.length->w'.cell? ⟨g,j,none⟩=some (.int .u8 ((bs[j]?.getD 0:Nat):Int)):=by
 obtain⟨g,cap,zs,rfl,h1,h2,h3,h4,h5,h6,h7,h8⟩:=h;rw[List.length_map]at h2 h6;refine⟨g,cap,by rw[List.length_map],h1,h2,h3,h8,fun j hj=>?_⟩;rw[h7 j (by omega)];have hz:j<zs.length:=by omega
 have e:=congrArg (·[j]?) h6;simp only[Go.Lib.bytesOf,List.getElem?_map,List.getElem?_take,if_pos hj,List.getElem?_eq_getElem hz,List.getElem?_eq_getElem hj,Option.map_some,Option.some.injEq]at e;have hx:=h5 zs[j] (List.getElem_mem hz);have hy:=oB bs[j] (List.getElem_mem hj);have e2:=congrArg UInt8.toNat e;rw[yj (by omega),yj hy]at e2;have:zs.getD j 0=(bs[j]:Nat):=by
  simp only[List.getD_eq_getElem?_getD,List.getElem?_eq_getElem hz,Option.getD_some];omega
 rw[this];simp[hj]
theorem DC:∀xs:List (List UInt8),Go.Lib.join xs []=xs.flatten
 | []=>rfl
 | [x]=>by simp[Go.Lib.join,List.intercalate]
 |x::y::r=>by
  have:=DC (y::r);simp only[Go.Lib.join,List.intercalate]at this⊢;simp[this]
theorem QE:∀xs:List (List UInt8),Go.Lib.lens xs=xs.flatten.length
 | []=>rfl
 |x::r=>by simp[Go.Lib.lens]
theorem zQ(b o n c:Nat)(vs:List Value)(ls:List (List Nat))(w:World)(hv:vs.length=n)(hl:ls.length=n)(hn:1<=n)(kq:n<=65536)(dj:n<=c)(bm:∀(i:Nat) v,vs[i]? =some v->w.cell? ⟨b,o+i,none⟩=some v)(hB:∀(i:Nat) v l,vs[i]? =some v->ls[i]? =some l->Wu w v l)(bd:∀l∈ls,l≠ [])(oB:∀l∈ls,∀x∈l,x<256)(hlen:ls.flatten.length<=4294967296):
  Calls prog 94 #[.slice (some ⟨b,o,none⟩) n c,.slice none 0 0] w fun e w'=>∃g cap,e= .returned (.slice (some ⟨g,0,none⟩) ls.flatten.length cap)/\w.heap.size<=g/\ls.flatten.length<=cap/\cap<=maxLen/\(∀j,j<cap->w'.frozen? ⟨g,j,none⟩=false)/\
   (∀j,j<ls.flatten.length->w'.cell? ⟨g,j,none⟩=some (.int .u8 ((ls.flatten[j]?.getD 0:Nat):Int)))/\Below w.heap.size w w':=by
 have hbf:∀x∈ls.flatten,x<256:=fun x hx=>by
  obtain⟨l,h1,h2⟩:=List.mem_flatten.1 hx;exact oB l h1 x h2
 have fin:∀(e:Ending) (w':World),(∃v',e= .returned v'/\Go.Lib.FreshBytes w.heap.size w' v' (ls.flatten.map UInt8.ofNat)/\Below w.heap.size w w')->∃g cap,e= .returned (.slice (some ⟨g,0,none⟩) ls.flatten.length cap)/\w.heap.size<=g/\ls.flatten.length<=cap/\cap<=maxLen/\(∀j,j<cap->w'.frozen? ⟨g,j,none⟩=false)/\
   (∀j,j<ls.flatten.length->w'.cell? ⟨g,j,none⟩=some (.int .u8 ((ls.flatten[j]?.getD 0:Nat):Int)))/\Below w.heap.size w w':=by
  rintro e w' ⟨v',rfl,h1,h2⟩;obtain⟨g,cap,rfl,k1,k2,k3,k4,k5⟩:=Jq hbf h1;exact⟨g,cap,rfl,k1,k2,k3,k4,k5,h2⟩
 have e0:(ls.map (List.map UInt8.ofNat)).flatten=ls.flatten.map UInt8.ofNat:=by rw[List.map_flatten]
 rcases Nat.lt_or_ge 1 n with h2|h1
 .have:=Any.bytes_Join_many Ux b o n c vs (ls.map (List.map UInt8.ofNat)) (.slice none 0 0) [] w (by simp[hl]) h2 ⟨by simp[hv,hl],fun i v PT=>by rw[Addr.add_lit];exact bm i v PT,fun i v l PT UU=>by
    rw[List.getElem?_map]at UU;cases hx:ls[i]? with
    |none=>rw[hx]at UU;cases UU
    |some l0=>
     rw[hx]at UU;obtain rfl:=Option.some.inj UU;exact JM (hB i v l0 PT hx)⟩ dj ⟨none,0,rfl,fun _=>rfl,fun a ha=>by cases ha⟩ (by omega) (by rw[QE,e0,List.length_map,List.length_nil];omega)
  refine this.mono fun e w' h=>fin e w' ?_;rw[DC,e0]at h;exact h
 .obtain rfl:n=1:=by omega
  obtain⟨l0,rfl⟩:∃l0,ls= [l0]:=by
   match ls,hl with
   | [l0],_=>exact⟨l0,rfl⟩
  obtain⟨v0,rfl⟩:∃v0,vs= [v0]:=by
   match vs,hv with
   | [v0],_=>exact⟨v0,rfl⟩
  obtain⟨b0,o0,c0,rfl,hx,hy⟩:=hB 0 v0 l0 rfl rfl;have ey:=bm 0 _ rfl;have hl0:0<l0.length:=by
   have:=bd l0 (by simp);cases l0 with
   |nil=>exact absurd rfl this
   |cons a r=>simp
  have:=Any.bytes_Join_one Ux b o c ⟨b0,o0,none⟩ c0 (l0.map UInt8.ofNat) (.slice none 0 0) w (by simpa using ey) (fun i x ln=>by
    rw[List.getElem?_map]at ln;cases hq:l0[i]? with
    |none=>rw[hq]at ln;cases ln
    |some y=>
     rw[hq]at ln;simp only[Option.map_some,Option.some.injEq]at ln;subst ln;have hi:i<l0.length:=(List.getElem?_eq_some_iff.1 hq).1;rw[Addr.add_lit,yj (hx y (List.mem_of_getElem? hq))];have:=hy i hi;rw[hq]at this;exact this) (by simpa using hl0) (by simp at hlen⊢;omega)
  refine this.mono fun e w' h=>fin e w' ?_;simpa using h
theorem QJ(b o n c:Nat)(vs:List Value)(ls:List (List Nat))(w:World)(hv:vs.length=n)(hl:ls.length=n)(hn:1<=n)(kq:n<=65536)(dj:n<=c)(bm:∀(i:Nat) v,vs[i]? =some v->w.cell? ⟨b,o+i,none⟩=some v)(hB:∀(i:Nat) v l,vs[i]? =some v->ls[i]? =some l->Bytes w v l)(bd:∀l∈ls,l≠ [])(oB:∀l∈ls,∀x∈l,x<256)(hlen:ls.flatten.length<=4294967296):
  Calls prog 94 #[.slice (some ⟨b,o,none⟩) n c,.slice none 0 0] w fun e w'=>∃g cap,e= .returned (.slice (some ⟨g,0,none⟩) ls.flatten.length cap)/\w.heap.size<=g/\ls.flatten.length<=cap/\cap<=maxLen/\(∀j,j<cap->w'.frozen? ⟨g,j,none⟩=false)/\
   (∀j,j<ls.flatten.length->w'.cell? ⟨g,j,none⟩=some (.int .u8 ((ls.flatten[j]?.getD 0:Nat):Int)))/\Below w.heap.size w w':=
 zQ b o n c vs ls w hv hl hn kq dj bm (fun i v l h1 h2=>by
  obtain⟨b0,o0,c0,e1,_,e2,e3⟩:=hB i v l h1 h2;exact⟨b0,o0,c0,e1,e2,e3⟩) bd oB hlen
theorem join_none(w:World):Calls prog 94 #[.slice none 0 0,.slice none 0 0] w fun e w'=>e= .returned (.slice (some ⟨w.heap.size,0,none⟩) 0 0)/\w'=w.alloc (.cells #[] 5):=Any.bytes_Join_none Ux none 0 (.slice none 0 0) w
open Go.RowKit Go.Deep Go.bn
attribute [local go_sem↓] Go.wp_at_zero Go.wp_at_succ
def kr(cur:List Value)(L:List Nat)(rg:Nat->Nat)(m s:Nat):Nat->List Value
 |0=>cur
 |k+1=>(kr cur L rg m s k).set (L[k]?.getD 0) (.slice (some ⟨rg k,m,none⟩) s s)
theorem iY(cur:List Value)(L:List Nat)(rg:Nat->Nat)(m s:Nat):∀k,(kr cur L rg m s k).length=cur.length
 |0=>rfl
 |k+1=>by rw[kr,List.length_set];exact iY cur L rg m s k
theorem Iz{cur:List Value}{L:List Nat}{rg:Nat->Nat}{m s:Nat}(hL:∀t u,t<L.length->u<L.length->L[t]?.getD 0=L[u]?.getD 0->t=u):∀k,k<=L.length->∀i,i<cur.length->
  ((∀t,t<k->L[t]?.getD 0≠i)->(kr cur L rg m s k)[i]? =cur[i]?)/\∀t,t<k->L[t]?.getD 0=i->(kr cur L rg m s k)[i]? =some (.slice (some ⟨rg t,m,none⟩) s s)
 |0,_,i,_=>⟨fun _=>rfl,fun t ht=>by omega⟩
 |k+1,hk,i,hi=>by
  obtain⟨h1,h2⟩:=Iz (rg:=rg) (m:=m) (s:=s) hL k (by omega) i hi;constructor
  .intro h;rw[kr,List.getElem?_set_ne (h k (by omega))];exact h1 fun t ht=>h t (by omega)
  .intro t ht e;by_cases etk:t=k
   .subst etk;rw[kr,e,List.getElem?_set_self (by rw[iY];exact hi)]
   .have bd:L[k]?.getD 0≠i:=fun e2=>etk (hL t k (by omega) (by omega) (e.trans e2.symm));rw[kr,List.getElem?_set_ne bd];exact h2 t (by omega) e
theorem Ry{Kn Kr:Act->World->Prop}{K V n pb po cpp Dn gO dN nU m s c:Nat}{aL:Option Addr}{cur:List Value}{L:List Nat}{rv:Value}{rg:Nat->Nat}{j3 j4 j5 j6 j7 k9 l1 b4 j1 f0 e8 b5 b9 a8 b7 g2 d9 f7 g4 e5 c7 f6 c5 c9 e6 d6 b2 b3 a7 a1 a2 k8 i2 k7 j0 i6 g8 j2 g6 g9 i7 i4 j8 h9 i3 g7 i8 i9 g5 h0 i1 k0 b8 b6 c3 c2 f9 e9 c4 d1 d0 g0 d2 g1 g3 c6 e7 d4 d7 f8 d8 d5 d3 c8 a5 a6:Value}(gv:1<=s)(hc:Hid (m+s=c))(hm:Hid (L.length=m))(El:m<=20)(hLK:∀x∈L,x<K)(hKc:K<=cur.length)
  (hO:aB w gO 28 cur)(hL:0<m->∃gL jZ,aL=some ⟨gL,0,none⟩/\gL≠gO/\aB w gL 3 jZ/\jZ.take m=dF L)(DI:Bf w rv m c rg)(hrO:∀g,rv.ownBlock=some g->g≠gO)
  (hQ:∀(h16 vN lB h64 h65 h66 h67 h68 h69 h70 h71 h72 h73 h74 h75 h76 h77 h78 h79 h80:Value) (w':World),Kp (fun b=>b=gO) w w'->aB w' gO 28 (kr cur L rg m s m)->Kn ⟨#[.slice (some ⟨pb,po,none⟩) n cpp,.int .i64 V,.chan (some Dn),j3,j4,j5,j6,j7,.int .i64 K,.slice (some ⟨gO,0,none⟩) K dN,k9,.slice aL m nU,l1,rv,b4,j1,h16,vN,b5,b9,a8,b7,g2,d9,f7,g4,e5,c7,f6,c5,c9,e6,d6,b2,b3,a7,a1,a2,k8,i2,k7,j0,i6,g8,j2,g6,g9,i7,i4,j8,h9,i3,g7,i8,i9,g5,h0,i1,k0,b8,b6,c3,c2,lB,h64,h65,h66,h67,h68,h69,h70,h71,h72,h73,h74,h75,h76,h77,h78,h79,h80,a5,a6],[]⟩ w'):
  (eO [1,1,1,1,1,1,1,1,0] (f91.body.getD .skip)).wp prog (zF Kn Kr) ⟨#[.slice (some ⟨pb,po,none⟩) n cpp,.int .i64 V,.chan (some Dn),j3,j4,j5,j6,j7,.int .i64 K,.slice (some ⟨gO,0,none⟩) K dN,k9,.slice aL m nU,l1,rv,b4,j1,f0,e8,b5,b9,a8,b7,g2,d9,f7,g4,e5,c7,f6,c5,c9,e6,d6,b2,b3,a7,a1,a2,k8,i2,k7,j0,i6,g8,j2,g6,g9,i7,i4,j8,h9,i3,g7,i8,i9,g5,h0,i1,k0,b8,b6,c3,c2,f9,e9,c4,d1,d0,g0,d2,g1,g3,c6,e7,d4,d7,f8,d8,d5,d3,c8,a5,a6],[]⟩ w:=by
 have HQ:=hide hQ;have HO:=hide hO;have HL:=hide hL
 obtain⟨ra,ZR,rfl,Mo⟩:=DI;have HR:=hide Mo;have HRO:=hide hrO
 clear hQ hO hL Mo hrO;simp only[f91,Option.getD_some,eO];go_wp2;go_loopw [65] (fun x wr=>∃k:Nat,k<=m/\x= .int .i64 k/\Kp (fun b=>b=gO) w wr/\aB wr gO 28 (kr cur L rg m s k))
  (fun x _=>leftOf m (intOf x).toNat)
 case atStart=>exact⟨0,by omega,rfl,Kp.refl _ _,HO.out⟩
 case round=>
  obtain⟨k,hk,rfl,er,hr⟩:=hrel;by_cases ai:k<m
  .obtain⟨gL,jZ,rfl,hgne,Gb,xa⟩:=HL.out (by omega);obtain⟨g,rfl,bm,Yg⟩:=HR.out (by omega);have Oq:k<L.length:=by rw[hm.out];exact ai
   have Bb:wr.cell? ⟨gL,k,none⟩=some (.int .i64 ((L[k]?.getD 0:Nat):Int)):=by
    apply (er.row Gb (fun e=>hgne e)).cell;have:(jZ.take m)[k]? =some (.int .i64 ((L[k]?.getD 0:Nat):Int)):=by rw[xa];exact qM Oq
    rw[List.getElem?_take,if_pos ai]at this;exact this
   have wc:wr.cell? ⟨g,k,none⟩=some (.slice (some ⟨rg k,0,none⟩) c c):=by
    have h1:=bm k ai;have e:=er.block g (bR h1) (fun e=>HRO.out g rfl e);unfold World.cell? at h1⊢;rw[e];exact h1
   have hxK:L[k]?.getD 0<K:=getD_lt hLK Oq;have br:wr.cell? ⟨gO,L[k]?.getD 0,none⟩=some ((kr cur L rg m s k)[L[k]?.getD 0]'(by rw[iY];omega)):=hr.cell _ _ (List.getElem?_eq_getElem _);have gC:=hr.frozen (L[k]?.getD 0);have tU:Hid ((kr cur L rg m s k).set (L[k]?.getD 0) (.slice (some ⟨rg k,m,none⟩) s s)=kr cur L rg m s (k+1)):=rfl;have Yo:=hide er;have Ot:=hide hr
   clear er hr Gb xa bm Yg Oq;generalize (kr cur L rg m s k)[L[k]?.getD 0]'(by rw[iY];omega)=ov at br;generalize L[k]?.getD 0=x at Bb hxK br gC tU;have sg:(0:Int)<=(k:Int):=by omega
   have qi:(k:Int)<(m:Int):=by omega
   have PH:(0:Int)<=(x:Int):=by omega
   have ie:(x:Int)<(K:Int):=by omega
   have tb:(0:Int)<=(m:Int):=by omega
   have hmc:(m:Int)<=(c:Int):=by have:=hc.out;omega
   have hcs1:c-m=s:=by have:=hc.out;omega
   have hcs2:(c:Int)-(m:Int)=(s:Int):=by have:=hc.out;omega
   have gh:¬c=m:=by have:=hc.out;omega
   go_wp2;go_roundw
   case rel=>
    refine⟨k+1,by omega,by go_num,Yo.out.setCell (.inl rfl) _,?_⟩;have:=Ot.out.set x (.slice (some ⟨rg k,m,none⟩) s s);rw[tU.out]at this;exact this
   case measure=>refine aW ?_ ?_<;>simp only[intOf]<;>omega
  .have e:k=m:=by omega
   subst e;have Yo:=hide er;have Ot:=hide hr
   clear er hr;go_wp2;exact HQ.out _ _ _ _ _ _ _ _ _ _ _ _ _ _ _ _ _ _ _ _ wr Yo.out Ot.out
end
