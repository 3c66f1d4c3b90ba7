import Derived.Test.YtmfpiodlecapiaaJ03
import Derived.Laws.BytesArg
import Derived.Lib.SlBytesConst
import Derived.Laws.IdiomStrings
namespace Go.Proofs.Ytmfpiodlecapiaa
open Go.RowKit Go.Deep
attribute [local go_sem↓] Go.wp_at_zero Go.wp_at_succ
theorem isId_walk(n:Int)(w:World):
  Calls Try.prog 45 #[.int .i64 n] w fun e w'=>e= .returned (.bool (decide (0<=n)&&decide (n<=65535)))/\w'=w:=by
 by_cases h:0<=n
 ·go_enter Try.func45,Try.ntmps45;go_wp2;go_ret;exact⟨by simp[h],rfl⟩
 ·go_enter Try.func45,Try.ntmps45;go_wp2;go_ret
  exact⟨by have:¬(0<=n):=by omega
           simp[this],rfl⟩
set_option maxRecDepth 20000 in
set_option maxHeartbeats 1000000 in
theorem fPackets_core(ao:Option Addr)(n cap id s m p Z N M c:Nat)(obj L:List Nat)(hid:id<65536)(hl:n<=2000)(h1:1<=s)(h2:s<=16)(h3:1<=m)(h4:m<=20)(h5:p<=20)
  (hZ:Z<=256)(hLz:Hid (L.length=Z))(hLs:Hid (L.sum=N))(hLb:Hid (∀k∈L,1<=k/\k<=m))(hN:N<=2000)(hM:(N:Int)*(s:Int)=(M:Int))(hM2:M<=32000)(hnM:n<=M)(hc:(10:Int)+(s:Int)=(c:Int))
  (C:Hid (∀w,Calls Try.prog 44 #[.int .i64 n,.agg #[.int .i64 s,.int .i64 m,.int .i64 p]] w fun e w'=>
    ∃g,w.heap.size<=g/\e= .returned (.tuple #[.slice (some ⟨g,0,none⟩) Z Z,.bool true])/\Below w.heap.size w w'/\qS w' g 3 (i64s L)))(w:World)(hobj:ObjAt w ao n obj):
  Calls Try.prog 22 #[.int .i64 id,.slice ao n cap,.agg #[.int .i64 s,.int .i64 m,.int .i64 p]] w fun e w'=>
   ∃v gs,e= .returned (.tuple #[v,.int .i64 0])/\Packs w' w.heap.size v c (Pk.upTo id n s m p L (Pk.filled obj M) Z) gs/\Below w.heap.size w w':=by
 have hb0:=hide ((Below.refl w.heap.size w).alloc (Nat.le_refl _) (.cells #[.int .i64 s,.int .i64 m,.int .i64 p] 30));have e1:(decide ((0:Int)<=(id:Int))&&decide ((id:Int)<=65535))=true:=by simp;omega
 have HO:=hide hobj;clear hobj;go_enter Try.func22,Try.ntmps22;go_wp2_with first|(go_at_call 44;refine(C.out _).mono ?_;rintro _ w1 ⟨gB,hgB,rfl,hb1,hr1⟩;have hw1:w.heap.size<w1.heap.size:=(by have:=hb1.size;simp at this;omega);have c0:=cell_later hb1 (cell3_0 w _ _ _ _);have c1:=cell_later hb1 (cell3_1 w _ _ _ _);have c2:=cell_later hb1 (cell3_2 w _ _ _ _);replace hb1:=hide hb1;replace hr1:=hide hr1)|(go_at_call 45;refine(isId_walk _ _).mono ?_;rintro _ w1' ⟨rfl,hx⟩;have hx':=hx.symm;subst hx';simp only[e1])
 have hLN:Hid (∀k,k<=Z->(L.take k).sum*s<=M):=by
  intro k _;have h:=Nat.mul_le_mul_right s (sum_take_le L k);rw[hLs.out]at h;have:N*s=M:=by rw[<-Int.natCast_mul]at hM;omega
  omega
 have hF:=hide (fillUp_walk ao n cap gB Z Z s N M obj L hLz hLs (by omega) hM (by omega) hnM (by omega) (w1.alloc (.cells #[.int .i64 id,.int .i64 n,.int .i64 s,.int .i64 m,.int .i64 p,.int .i64 0,.int .i64 0] 83))
  (((HO.out.later hb0.out).later hb1.out).later ((Below.refl _ _).alloc (Nat.le_refl _) _)) (hr1.out.alloc _))
 have hbH:=hide (rowL_alloc' w1 #[.int .i64 id,.int .i64 n,.int .i64 s,.int .i64 m,.int .i64 p,.int .i64 0,.int .i64 0] 83);refine hF.out.mono ?_;rintro _ w3 ⟨rfl,hb3,hr3⟩;have hw3:w1.heap.size+1<w3.heap.size:=by have:=hr3.lt;simp at this;exact this
 have d0:w3.cell? ⟨w.heap.size,0,none⟩=some (.int .i64 s):=(hb3.cell (by simp;omega)).trans ((World.cell?_of_block (blk_alloc_lt _ _ _ (by exact hw1))).trans c0);have hH3:=hide (hbH.out.later hb3);have hB3:=hide ((hr1.out.alloc (.cells #[.int .i64 id,.int .i64 n,.int .i64 s,.int .i64 m,.int .i64 p,.int .i64 0,.int .i64 0] 83)).later hb3);have hF3:Hid (qS w3 (w1.heap.size+1) 5 (u8s (Pk.filled obj M))):=by
  have h:=hr3;simp at h;exact h
 have HB3:=hide hb3;have D0:=hide d0;clear hb3 hr3 hF c0 c1 c2 d0;have hgB1:gB<w1.heap.size:=hr1.out.lt;simp only[World.size_alloc];go_wp2;go_loopw [10,12,41] (fun v rest x wr=>∃(k a o r x5:Nat) (gs:List Nat),k<=Z/\x= .int .i64 k/\rest= .slice (some ⟨w1.heap.size+1,a,none⟩) r r/\(0<r->a=o)/\o+r=M/\Hid (o=(L.take k).sum*s)/\
   Packs wr w3.heap.size v c (Pk.upTo id n s m p L (Pk.filled obj M) k) gs/\Kp (fun q=>q=w1.heap.size) w3 wr/\qS wr w1.heap.size 83 [.int .i64 id,.int .i64 n,.int .i64 s,.int .i64 m,.int .i64 p,.int .i64 x5,.int .i64 0])
  (fun _ _ x _=>leftOf Z (intOf x).toNat)
 case atStart=>exact⟨0,0,0,M,0,[],by omega,rfl,rfl,fun _=>rfl,by omega,(show 0=_ by simp),Packs.nil _ _ _,Kp.refl _ _,hH3.out⟩
 case round=>
  obtain⟨k,a,o,r,x5,gs,hk,rfl,rfl,hao,hor,ho,hpk,hkp,hbox⟩:=hrel;by_cases hlt:k<Z
  ·have hkL:k<L.length:=by rw[hLz.out];exact hlt
   have hKb:1<=L[k]?.getD 0/\L[k]?.getD 0<=m:=by
    have e:L[k]?.getD 0=L[k]:=by simp[hkL]
    rw[e];exact hLb.out _ (List.getElem_mem hkL)
   have hcnt:wr.cell? ⟨gB,k,none⟩=some (.int .i64 ((L[k]?.getD 0:Nat):Int)):=(hkp.row hB3.out (by omega)).cell k _ (i64s_at hkL);have hsum:Hid ((L.take (k+1)).sum*s=o+L[k]?.getD 0*s):=by
    show _=_;rw[sum_take_succ (getD_some hkL),Nat.add_mul,<-ho.out]
   have hle:=hLN.out (k+1) (by omega);rw[hsum.out]at hle;have hup:Hid (Pk.upTo id n s m p L (Pk.filled obj M) (k+1)=Pk.upTo id n s m p L (Pk.filled obj M) k++Pk.ofBlock id n s m p k (L[k]?.getD 0) (Pk.blkAt (Pk.filled obj M) L s k)):=Pk.upTo_succ _ _ _ _ _ _ _ _;have hfl:Hid ((Pk.filled obj M).length=M):=Pk.filled_length (by rw[HO.out.1];exact hnM);have hbl:Hid ((Pk.blkAt (Pk.filled obj M) L s k).length=L[k]?.getD 0*s):=by
    show _=_;unfold Pk.blkAt;rw[List.length_take,List.length_drop,hfl.out,<-ho.out];omega
   have hbx:∀x∈Pk.blkAt (Pk.filled obj M) L s k,x<256:=fun x hx=>Pk.filled_lt HO.out.2.1 x (List.mem_of_mem_drop (List.mem_of_mem_take hx));have hbD:Hid (∀q,q<L[k]?.getD 0*s->(Pk.filled obj M)[o+q]? =(Pk.blkAt (Pk.filled obj M) L s k)[q]?):=by
    intro q hq;unfold Pk.blkAt;rw[List.getElem?_take,if_pos hq,List.getElem?_drop,<-ho.out]
   obtain⟨blk,hblk⟩:∃blk,blk=Pk.blkAt (Pk.filled obj M) L s k:=⟨_,rfl⟩;obtain⟨K,hKK⟩:∃K,K=L[k]?.getD 0:=⟨_,rfl⟩;rw[<-hblk]at hup hbl hbx hbD;rw[<-hKK]at hcnt hsum hle hKb hup hbl hbD;clear hKK hblk;obtain⟨nn,hnn⟩:∃nn,nn=K*s:=⟨_,rfl⟩;have hKs:(K:Int)*(s:Int)=(nn:Int):=by rw[hnn];simp
   rw[<-hnn]at hle hsum hbD hbl;have hNN:=hide hnn;have hnr:nn<=r:=by omega
   have hnn1:1<=nn:=by
    have:=Nat.mul_le_mul hKb.1 h1;omega
   have ha:=hao (by omega);subst ha;clear hao;obtain⟨T,hT⟩:∃T:Nat,(K:Int)+(p:Int)=(T:Int):=⟨K+p,by omega⟩;clear hnn hkL;have e0:=hbox.cell 0 _ rfl;have e1:=hbox.cell 1 _ rfl;have e2:=hbox.cell 2 _ rfl;have e3:=hbox.cell 3 _ rfl;have e4:=hbox.cell 4 _ rfl;have e5:=hbox.cell 5 _ rfl;have e6:=hbox.cell 6 _ rfl;have f5:=hbox.frozen 5;have d0:wr.cell? ⟨w.heap.size,0,none⟩=some (.int .i64 s):=(World.cell?_of_block (hkp.block w.heap.size (by omega) (by omega))).trans D0.out;have hpl:(Pk.upTo id n s m p L (Pk.filled obj M) k).length<=65536:=by
    rw[Pk.upTo_length _ _ _ _ _ _ _ k (by rw[hLz.out];omega)];have h8:=sum_take_le L k;rw[hLs.out]at h8;have h9:k*p<=256*20:=Nat.mul_le_mul (by omega) h5;omega
   have hbw:=hkp.row hF3.out (by omega);have hpk':=hpk.setCell (i:=5) hbox (by decide) (by decide) (.int .i64 k);have hsz:Hid ((wr.setCell ⟨w1.heap.size,5,none⟩ (.int .i64 k)).heap.size=wr.heap.size):=by show _=_;simp[World.setCell]
   have hAP:=hide (appendPackets_walk (w1.heap.size+1) a r id n s m p k 0 K nn T c w3.heap.size (Pk.filled obj M) blk gs u10 _ hid (by omega) h1 h2 h4 h5 (by omega) hKb.1 (by omega) (by show _=_;rw[hbl.out,hNN.out]) hNN hbx (by omega) hnr (by omega) hT hc
    (wr.setCell ⟨w1.heap.size,5,none⟩ (.int .i64 k)).drew ((hbw.other (by simp) _).drew) hbD (hpk'.of_block (fun _ _=>rfl) (fun _ _=>rfl)) (by have:=hkp.size;have:=hsz.out;show _<=(wr.setCell _ _).heap.size;omega) hpl)
   have hbox':=hide (hbox.set 5 (.int .i64 k));have hkp':=hide ((hkp.setCell (a:=⟨w1.heap.size,5,none⟩) (Or.inl rfl) (.int .i64 k)).drew);have HPK:=hide hpk';have hk0:(0:Int)<=(k:Int):=by omega
   have hk1:(k:Int)<(Z:Int):=by omega
   have hn0:(0:Int)<=(nn:Int):=by omega
   have hn1:(nn:Int)<=(r:Int):=by omega
   have hwn:IntKind.i64.wrap (nn:Int)=(nn:Int):=qB _ (by omega) (by omega);clear hpk hkp hbox hbw hpk' hpl hbx;go_wp2_with fail
   go_region_with (go_at_call 47;refine hAP.out.mono ?_;rintro _ w4 ⟨v4,gs4,rfl,hpk4,hkp4⟩)
   all_goals
    have hat:=HPK.out.at_;have hkq:Kp (fun q=>q=w1.heap.size) w3 w4:=hkp'.out.join hkp4 (fun q hq=>Or.inr (hat q hq));have d4:w4.cell? ⟨w.heap.size,0,none⟩=some (.int .i64 s):=(World.cell?_of_block (hkq.block w.heap.size (by omega) (by omega))).trans D0.out;have hb4:=hkp4.row hbox'.out.drew (fun h=>by have:=hat _ h;omega);have HP4:=hide hpk4;have HK4:=hide hkq;have HB4:=hide hb4;clear hpk4 hkp4 hat hkq hb4 d0 e0 e1 e2 e3 e4 e5 e6 f5;go_wp2;go_roundw
    case rel=>
     refine⟨k+1,if r=nn then a else a+nn,a+nn,r-nn,k,gs4,by omega,by go_num,?_,?_,by omega,?_,?_,HK4.out,HB4.out⟩
     ·split<;>rfl
     ·intro hr;rw[if_neg (by omega)]
     ·show a+nn=_;rw[hsum.out]
     ·have h9:=HP4.out;rw[<-hup.out]at h9;exact h9
    case measure=>refine qD ?_ ?_<;>simp only[intOf]<;>omega
  ·have e:k=Z:=by omega
   subst e;have HPK:=hide hpk;have HKP:=hide hkp
   clear hpk hkp hbox;go_wp2;go_ret2
   refine⟨_,gs,rfl,HPK.out.mono ?_,?_⟩
   ·have:=hb1.out.size;omega
   ·have h1:=hb0.out.trans (hb1.out.mono (by simp));have h2:=(h1.alloc (by omega) (.cells #[.int .i64 id,.int .i64 n,.int .i64 s,.int .i64 m,.int .i64 p,.int .i64 0,.int .i64 0] 83)).trans (HB3.out.mono (by simp;omega));exact h2.trans (HKP.out.toBelow (by intro q hq;omega) (by omega))
theorem fPackets_walk(ao:Option Addr)(n cap id s m p:Nat)(obj:List Nat)(hid:id<65536)(hl:n<=2000)(h1:1<=s)(h2:s<=16)(h3:1<=m)(h4:m<=20)(h5:p<=20)(hc:Cut.blocks (Cut.pieces n s) m<=256)(w:World)(hobj:ObjAt w ao n obj):
  Calls Try.prog 22 #[.int .i64 id,.slice ao n cap,.agg #[.int .i64 s,.int .i64 m,.int .i64 p]] w fun e w'=>
   ∃v gs,e= .returned (.tuple #[v,.int .i64 0])/\Packs w' w.heap.size v (10+s) (Pk.packets id obj s m p) gs/\Below w.heap.size w w':=by
 have hp1:=Cut.pieces_le hl h1;have hM2:Cut.pieces n s*s<=32000:=Nat.le_trans (Nat.mul_le_mul hp1 h2) (by omega);have hP:Pk.packets id obj s m p=Pk.upTo id n s m p (Cut.sizes n s m) (Pk.filled obj (Cut.pieces n s*s)) (Cut.blocks (Cut.pieces n s) m):=by
  unfold Pk.packets;rw[hobj.1,Cut.sizes_length]
 rw[hP];exact fPackets_core ao n cap id s m p (Cut.blocks (Cut.pieces n s) m) (Cut.pieces n s) (Cut.pieces n s*s) (10+s) obj (Cut.sizes n s m) hid hl h1 h2 h3 h4 h5 hc (Cut.sizes_length _ _ _) (Cut.sizes_sum h3) (Cut.sizes_bounds h3) hp1 (by simp) hM2 (Cut.pieces_cover h1) (by omega)
  (fun w=>(cutBlocks_walk n s m p hl h1 h2 h3 h4 h5 w).1 hc) w hobj
end Go.Proofs.Ytmfpiodlecapiaa
namespace Go.Proofs.Ytmfpiodlecapiaa
open Go.RowKit Go.Deep
def strOf(bs:List Nat):ByteArray:=strOfNums (bs.map (fun n:Nat=>(n:Int)))
theorem conv_str{w:World}{g off cap n:Nat}{L:List Value}{bs:List Nat}(hr:qS w g 5 L)(hl:bs.length=n)(hL:∀j,j<n->L[off+j]? =some (.int .u8 ((bs[j]?.getD 0:Nat):Int))):
  (convert 36 9 (.slice (some ⟨g,off,none⟩) n cap)).run Try.prog w= .ok (.string (strOf bs)) w:=by
 refine run_convert_bytes_arg w 36 5 Try.underlying36 Try.underlying5 g off n cap (bs.map (fun n:Nat=>(n:Int))) (by simpa using hl) ?_ 9 Try.underlying9;intro i hi;rw[hr.cell _ _ (hL i hi)];simp[List.getD,hl▸hi]
theorem conv_row{w:World}{g cap n:Nat}{bs:List Nat}(hr:qS w g 5 (u8s bs))(hl:bs.length=n):(convert 36 9 (.slice (some ⟨g,0,none⟩) n cap)).run Try.prog w= .ok (.string (strOf bs)) w:=
 conv_str hr hl (fun j hj=>by rw[Nat.zero_add];exact u8s_at (by omega))
theorem cell_alloc_any(w:World)(C:Array Value)(e:TypeId)(fr:Nat×Nat)(i:Nat)(v:Value)(hv:C[i]? =some v):(w.alloc (.cells C e fr)).cell? ⟨w.heap.size,i,none⟩=some v:=by
 have h:=blk_alloc_new w (.cells C e fr);unfold World.cell?;rw[show(w.alloc (.cells C e fr)).heap[(⟨w.heap.size,i,none⟩:Addr).block]? =_ from h];exact hv
theorem ex1:Gf.mul 2 128=29:=by decide+kernel
theorem ex2:Gf.inv 2=142:=by decide+kernel
theorem ex3:Pk.packets 5 [97,98] 2 1 1= [[70,0,5,0,2,2,1,1,0,0,97,98],[70,0,5,0,2,2,1,1,0,1,154,128]]:=by decide+kernel
theorem ex3':Cut.blocks (Cut.pieces 2 2) 1<=256:=by decide+kernel
set_option maxRecDepth 20000 in
theorem sure_walk(w:World):Calls Try.prog 17 #[] w fun e w'=>e= .returned (.bool true)/\Below w.heap.size w w':=by
 have C1:Hid (∀w,Calls Try.prog 10 #[.int .i64 2,.int .i64 128] w fun e w'=>e= .returned (.tuple #[.int .i64 29,.int .i64 0])/\w'=w):=by
  intro w;have:=fMul_walk 2 128 (by omega) (by omega) w;rw[ex1]at this;exact this
 have C2:Hid (∀w,Calls Try.prog 11 #[.int .i64 2] w fun e w'=>e= .returned (.tuple #[.int .i64 142,.int .i64 0])/\w'=w):=by
  intro w;have:=fInverse_walk 2 (by omega) (by omega) w;rw[ex2]at this;exact this
 have hb0:=hide ((Below.refl w.heap.size w).alloc (Nat.le_refl _) (.cells #[.int .u8 97,.int .u8 98] 5 (2,3)));have C3:Hid (Calls Try.prog 22 #[.int .i64 5,.slice (some ⟨w.heap.size,0,none⟩) 2 2,.agg #[.int .i64 2,.int .i64 1,.int .i64 1]] (w.alloc (.cells #[.int .u8 97,.int .u8 98] 5 (2,3))) fun e w'=>
   ∃g0 cap g1,e= .returned (.tuple #[.slice (some ⟨g0,0,none⟩) 2 cap,.int .i64 0])/\Below (w.alloc (.cells #[.int .u8 97,.int .u8 98] 5 (2,3))).heap.size (w.alloc (.cells #[.int .u8 97,.int .u8 98] 5 (2,3))) w'/\w'.cell? ⟨g0,1,none⟩=some (.slice (some ⟨g1,0,none⟩) 12 12)/\
    (convert 36 9 (.slice (some ⟨g1,0,none⟩) 12 12)).run Try.prog w'= .ok (.string (strOf [70,0,5,0,2,2,1,1,0,1,154,128])) w'):=by
  refine(fPackets_walk (some ⟨w.heap.size,0,none⟩) 2 2 5 2 1 1 [97,98] (by omega) (by omega) (by omega) (by omega) (by omega) (by omega) (by omega) ex3' _ ?_).mono ?_
  ·refine⟨rfl,by decide,fun _=>⟨_,_,rfl,?_⟩⟩;intro j hj;rw[Nat.zero_add];match j,hj with
   |0,_=>exact cell_alloc_any _ _ _ _ _ _ rfl
   |1,_=>exact cell_alloc_any _ _ _ _ _ _ rfl
  ·rintro e w' ⟨v,gs,rfl,hp,hb⟩;rw[ex3]at hp;have hl:=hp.len;match gs,hl with
   |[ga,gb],_=>
    obtain⟨g,cap,cur,rfl,hr,h1,h2,h3,h4⟩:=hp.own.open' (by simp);refine⟨g,cap,gb,rfl,hb,?_,?_⟩
    ·exact hr.cell 1 _ (take_at h4 rfl)
    ·exact conv_row (hp.row 1 gb _ rfl rfl) rfl
 have kc:=fun(w:World) (C:Array Value) (n c:Nat)=>Lib.run_convert_bytes_const (P:=Try.prog) w 36 5 C n c Try.underlying36 Try.underlying5;go_enter Try.func17,Try.ntmps17;go_wp2_with first|(go_at_call 10;refine(C1.out _).mono ?_;rintro _ wq ⟨rfl,hx⟩;have hx2:=hx.symm;clear hx;subst hx2)|(go_at_call 11;refine(C2.out _).mono ?_;rintro _ wq ⟨rfl,hx⟩;have hx2:=hx.symm;clear hx;subst hx2)|(go_at_call 22;refine C3.out.mono ?_;rintro _ w1 ⟨g0,cap,g1,rfl,hb1,hc1,hcv⟩;replace hb1:=hide hb1)
 go_ret;refine⟨?_,hb0.out.trans (hb1.out.mono (by simp))⟩;have e:((strOf [70,0,5,0,2,2,1,1,0,1,154,128]).toList== [70,0,5,0,2,2,1,1,0,1,154,128])=true:=by decide+kernel
 show Ending.returned (.bool ((strOf [70,0,5,0,2,2,1,1,0,1,154,128]).toList== [70,0,5,0,2,2,1,1,0,1,154,128]))=_;rw[e]
end Go.Proofs.Ytmfpiodlecapiaa
namespace Go.Proofs.Ytmfpiodlecapiaa
open Go.RowKit
def pickN(c:Int)(n:Nat):Nat:=if c<0 then((-(c+1))%n).toNat else(c%n).toNat
theorem pickN_lt(c:Int){n:Nat}(hn:0<n):pickN c n<n:=by
 unfold pickN;have h1:=Int.emod_lt_of_pos (-(c+1)) (show(0:Int)<n by omega);have h2:=Int.emod_nonneg (-(c+1)) (show(n:Int)≠0 by omega);have h3:=Int.emod_lt_of_pos c (show(0:Int)<n by omega);have h4:=Int.emod_nonneg c (show(n:Int)≠0 by omega);split<;>omega
theorem pick_walk(c:Int)(n:Nat)(hc:(Lit.int .i64 c).wf=true)(hn:0<n)(hn2:n<=65536)(w:World):
  Calls Try.prog 18 #[.int .i64 c,.int .i64 n] w fun e w'=>e= .returned (.int .i64 (pickN c n:Nat))/\w'=w:=by
 have hb: -9223372036854775808<=c/\c<=9223372036854775807:=by
  simp[Lit.wf,IntKind.min,IntKind.max,IntKind.signed,IntKind.bits]at hc;omega
 obtain⟨hb1,hb2⟩:=hb;clear hc;by_cases h:c<0
 ·have e:((pickN c n:Nat):Int)=(-(c+1))%(n:Int):=by
   unfold pickN;rw[if_pos h];have h2:=Int.emod_nonneg (-(c+1)) (show(n:Int)≠0 by omega);omega
  rw[e];clear e;go_enter Try.func18,Try.ntmps18;go_wp2;go_ret;refine⟨?_,rfl⟩;show Ending.returned (.int .i64 (-(c+1).tmod n))=_;rw[<-Int.neg_tmod,Int.tmod_eq_emod_of_nonneg (by omega)]
 ·have e:((pickN c n:Nat):Int)=c%(n:Int):=by
   unfold pickN;rw[if_neg h];have h2:=Int.emod_nonneg c (show(n:Int)≠0 by omega);omega
  rw[e];clear e;go_enter Try.func18,Try.ntmps18;go_wp2;go_ret;exact⟨rfl,rfl⟩
open Go.RowKit Go.Deep
theorem pick_lit(c:Int)(n:Nat)(m:Int)(hm:m=(n:Int))(hc:(Lit.int .i64 c).wf=true)(hn:0<n)(hn2:n<=65536)(w:World):
  Calls Try.prog 18 #[.int .i64 c,.int .i64 m] w fun e w'=>e= .returned (.int .i64 (pickN c n:Nat))/\w'=w:=by
 subst hm;exact pick_walk c n hc hn hn2 w
set_option maxRecDepth 20000 in
theorem fit_walk(x y z:Int)(w0:Hid ((Lit.int .i64 x).wf=true))(w1:Hid ((Lit.int .i64 y).wf=true))(w2:Hid ((Lit.int .i64 z).wf=true))(w:World):
  Calls Try.prog 20 #[.int .i64 x,.int .i64 y,.int .i64 z] w fun e w'=>
   e= .returned (.agg #[.int .i64 ((1+pickN x 16:Nat):Int),.int .i64 ((1+pickN y 20:Nat):Int),.int .i64 ((pickN z 21:Nat):Int)])/\Below w.heap.size w w':=by
 have h0:=pickN_lt x (n:=16) (by omega);have h1:=pickN_lt y (n:=20) (by omega);have h2:=pickN_lt z (n:=21) (by omega);have P0:=hide (fun w=>pick_lit x 16 16 rfl w0.out (by omega) (by omega) w);have P1:=hide (fun w=>pick_lit y 20 20 rfl w1.out (by omega) (by omega) w);have P2:=hide (fun w=>pick_lit z 21 21 rfl w2.out (by omega) (by omega) w);have hb0:=hide ((Below.refl w.heap.size w).alloc (Nat.le_refl _) (.cells #[.int .i64 0,.int .i64 0,.int .i64 0] 30));revert h0 h1 h2 P0 P1 P2;generalize pickN x 16=a;generalize pickN y 20=b;generalize pickN z 21=c;intro h0 h1 h2 P0 P1 P2;go_enter Try.func20,Try.ntmps20;go_wp2_with fail
 refine(P0.out _).mono ?_;rintro _ wq ⟨rfl,hx1⟩;have hx2:=hx1.symm;clear hx1;subst hx2;go_wp2_with fail
 refine(P1.out _).mono ?_;rintro _ wq ⟨rfl,hx1⟩;have hx2:=hx1.symm;clear hx1;subst hx2;go_wp2_with fail
 refine(P2.out _).mono ?_;rintro _ wq ⟨rfl,hx1⟩;have hx2:=hx1.symm;clear hx1;subst hx2;go_wp2;refine bodyPost_ret (v:=.agg #[.int .i64 (1+(a:Int)),.int .i64 (1+(b:Int)),.int .i64 (c:Int)]) (by simp[results,Try.results20,go_sem]) rfl ⟨?_,(Below.refl _ _).alloc (Nat.le_refl _) _⟩;have e1:((1+a:Nat):Int)=1+(a:Int):=by omega
 have e2:((1+b:Nat):Int)=1+(b:Int):=by omega
 rw[e1,e2]
def bytesOf(s:ByteArray):List Nat:=s.data.toList.map UInt8.toNat
theorem bytesOf_length(s:ByteArray):(bytesOf s).length=s.size:=by
 unfold bytesOf;rw[List.length_map,Array.length_toList];rfl
theorem bytesOf_lt(s:ByteArray):∀x∈bytesOf s,x<256:=by
 intro x hx;unfold bytesOf at hx;obtain⟨b,_,rfl⟩:=List.mem_map.1 hx;exact b.toNat_lt
theorem bytesOf_take(s:ByteArray)(n:Nat):bytesOf (s.extract 0 n)=(bytesOf s).take n:=by
 unfold bytesOf;rw[ByteArray.data_extract];simp[List.map_take]
theorem objAt_made(w:World)(t:ByteArray)(cap:Nat)(fr:Nat×Nat):ObjAt (w.alloc (.cells (bytesRow t cap) 5 fr)) (some ⟨w.heap.size,0,none⟩) t.size (bytesOf t):=by
 refine⟨bytesOf_length t,bytesOf_lt t,fun _=>⟨_,_,rfl,fun j hj=>?_⟩⟩;rw[Nat.zero_add];apply cell_alloc_any;have hj':j<t.data.size:=hj;unfold bytesRow bytesOf;rw[Array.getElem?_append_left (by simpa using hj)];have e:t.data[j]? =some (t.data[j]'hj'):=Array.getElem?_eq_getElem hj';simp[e]
set_option maxRecDepth 20000 in
theorem short_walk(s:ByteArray)(m n:Nat)(hm:m<=65536)(hs:s.size<=maxLen)(hn:n=min s.size m)(w:World):
  Calls Try.prog 21 #[.string s,.int .i64 m] w fun e w'=>
   ∃cap,e= .returned (.slice (some ⟨w.heap.size,0,none⟩) n cap)/\n<=cap/\cap<=maxLen/\ObjAt w' (some ⟨w.heap.size,0,none⟩) n ((bytesOf s).take n)/\Below w.heap.size w w':=by
 have kc:=fun(w:World) (s:ByteArray)=>run_bytes_of_string (P:=Try.prog) w 9 36 5 s Try.underlying9 Try.underlying36 Try.underlying5;have hs':=hs;unfold maxLen at hs';by_cases h:m<s.size
 ·have e:n=m:=by omega
  subst e;clear hn;have hO:=hide (objAt_made w (s.extract 0 n) (grownCap w (min n s.size) 0 5) ((bytesRow (s.extract 0 n) (grownCap w (min n s.size) 0 5)).size,(bytesRow (s.extract 0 n) (grownCap w (min n s.size) 0 5)).size+1));have hmin:Hid (min n s.size=n):=by show min n s.size=n;omega
  have hge:=hide (grownCap_ge w (min n s.size) 0 5);have hle:=hide (grownCap_le_maxLen w (min n s.size) 0 5 (by omega));have hsz:Hid ((s.extract 0 n).size=n):=by show _=_;rw[ByteArray.size_extract];omega
  go_enter Try.func21,Try.ntmps21;go_wp2;go_ret;refine⟨grownCap w (min n s.size) 0 5,?_,?_,hle.out,?_,((Below.refl _ _).alloc (Nat.le_refl _) _).drew⟩
  ·show Ending.returned (.slice _ (min n s.size) _)=_;rw[hmin.out]
  ·have:=hge.out;have:=hmin.out;omega
  ·have h1:=hO.out;rw[hsz.out,bytesOf_take]at h1;exact h1.later ((Below.refl _ _).drew)
 ·have e:n=s.size:=by omega
  subst e;clear hn;have hO:=hide (objAt_made w s (grownCap w s.size 0 5) ((bytesRow s (grownCap w s.size 0 5)).size,(bytesRow s (grownCap w s.size 0 5)).size+1));have hge:=hide (grownCap_ge w s.size 0 5);have hle:=hide (grownCap_le_maxLen w s.size 0 5 hs);go_enter Try.func21,Try.ntmps21;go_wp2;go_ret;refine⟨grownCap w s.size 0 5,rfl,hge.out,hle.out,?_,((Below.refl _ _).alloc (Nat.le_refl _) _).drew⟩;rw[List.take_of_length_le (by rw[bytesOf_length];omega)];exact hO.out.later ((Below.refl _ _).drew)
def manyN(len s m:Nat):Bool:=decide (256<((len+s-1)/s+m-1)/m)
theorem manyN_eq{len s m:Nat}(hm:1<=m):manyN len s m= !decide (Cut.blocks (Cut.pieces len s) m<=256):=by
 unfold manyN Cut.blocks Cut.pieces;rcases Nat.lt_or_ge ((len+s-1)/s) 1 with h|h
 ·have e:(len+s-1)/s=0:=Nat.lt_one_iff.1 h;rw[e];have e2:max 1 0=1:=rfl;have h1:(0+m-1)/m=0:=Nat.div_eq_of_lt (by omega);have h2:(max 1 0+m-1)/m=1:=by rw[e2,show 1+m-1=m by omega];exact Nat.div_self (by omega)
  rw[h1,h2];decide
 ·have e:max 1 ((len+s-1)/s)=(len+s-1)/s:=by omega
  rw[e];by_cases h:((len+s-1)/s+m-1)/m<=256
  ·rw[decide_eq_true h,decide_eq_false (by omega)];rfl
  ·rw[decide_eq_false h,decide_eq_true (by omega)];rfl
structure PacketsAt(w:World)(gl T c:Nat)(cur:List Value)(ps:List (List Nat)):Prop where
 row:qS w gl 36 cur
 len:ps.length=T
 at_:∀(q:Nat) (bs:List Nat),ps[q]? =some bs->∃g,cur[q]? =some (packV c g)/\qS w g 5 (u8s bs)
theorem PacketsAt.later{w w':World}{gl T c:Nat}{cur:List Value}{ps:List (List Nat)}(h:PacketsAt w gl T c cur ps)(hb:Below w.heap.size w w'):PacketsAt w' gl T c cur ps:=
 ⟨h.row.later hb,h.len,fun q bs hq=>by obtain⟨g,h1,h2⟩:=h.at_ q bs hq;exact⟨g,h1,h2.later hb⟩⟩
theorem Packs.opened{w:World}{B:Nat}{v:Value}{c:Nat}{ps:List (List Nat)}{gs:List Nat}(h:Packs w B v c ps gs)(hp:0<ps.length):∃gl cap cur,v= .slice (some ⟨gl,0,none⟩) ps.length cap/\PacketsAt w gl ps.length c cur ps:=by
 obtain⟨g,cap,cur,rfl,hr,h1,h2,h3,h4⟩:=h.own.open' (by rw[List.length_map,h.len];exact hp);refine⟨g,cap,cur,by rw[List.length_map,h.len],hr,rfl,fun q bs hq=>?_⟩;have hlt:q<gs.length:=by rw[h.len];exact(List.getElem?_eq_some_iff.1 hq).1
 refine⟨gs[q],take_at h4 (by simp[hlt]),h.row q _ _ (by simp[hlt]) hq⟩
theorem fPackets_open(ao:Option Addr)(n cap id s m p T:Nat)(obj L:List Nat)(hid:id<65536)(hl:n<=2000)(h1:1<=s)(h2:s<=16)(h3:1<=m)(h4:m<=20)(h5:p<=20)(hm:manyN n s m=false)(hL:L=Cut.sizes n s m)(hT:Pk.start L p L.length=T)(w:World)(hobj:ObjAt w ao n obj):
  Calls Try.prog 22 #[.int .i64 id,.slice ao n cap,.agg #[.int .i64 s,.int .i64 m,.int .i64 p]] w fun e w'=>
   ∃gl cap cur,e= .returned (.tuple #[.slice (some ⟨gl,0,none⟩) T cap,.int .i64 0])/\PacketsAt w' gl T (10+s) cur (Pk.packets id obj s m p)/\Below w.heap.size w w':=by
 have hc:Cut.blocks (Cut.pieces n s) m<=256:=by
  rw[manyN_eq h3]at hm;simpa using hm
 refine(fPackets_walk ao n cap id s m p obj hid hl h1 h2 h3 h4 h5 hc w hobj).mono ?_;rintro e w' ⟨v,gs,rfl,hp,hb⟩;have hlen:(Pk.packets id obj s m p).length=T:=by
  unfold Pk.packets;rw[hobj.1,Pk.upTo_len (Nat.le_refl _),<-hL,hT]
 have hpos:0<T:=by
  rw[<-hT];have hb1:=Cut.blocks_pos (Cut.pieces_pos n s) h3;have hs:=Cut.sizes_sum (len:=n) (s:=s) h3;have hp1:=Cut.pieces_pos n s;unfold Pk.start;rw[List.take_length,hL,hs];omega
 obtain⟨gl,cap',cur,rfl,hpa⟩:=hp.opened (by omega);rw[hlen]at hpa;exact⟨gl,cap',cur,by rw[hlen],hpa,hb⟩
theorem fBlocks_open(n s m p Z:Nat)(L:List Nat)(hl:n<=2000)(h1:1<=s)(h2:s<=16)(h3:1<=m)(h4:m<=20)(h5:p<=20)(hm:manyN n s m=false)(hL:L=Cut.sizes n s m)(hZ:L.length=Z)(w:World):
  Calls Try.prog 23 #[.int .i64 n,.agg #[.int .i64 s,.int .i64 m,.int .i64 p]] w fun e w'=>
   ∃g,w.heap.size<=g/\e= .returned (.tuple #[.slice (some ⟨g,0,none⟩) Z Z,.int .i64 0])/\Below w.heap.size w w'/\qS w' g 3 (i64s L):=by
 have hc:Cut.blocks (Cut.pieces n s) m<=256:=by
  rw[manyN_eq h3]at hm;simpa using hm
 subst hL;rw[Cut.sizes_length]at hZ;subst hZ;exact fBlocks_walk n s m p hl h1 h2 h3 h4 h5 hc w
theorem packet_of{I n s m p k i:Nat}{obj L:List Nat}(hobj:obj.length=n)(hL:L=Cut.sizes n s m)(M:Nat)(hM:M=Cut.pieces n s*s)(hk:k<L.length)(hi:i<L[k]?.getD 0+p):
  (Pk.packets I obj s m p)[Pk.start L p k+i]? =some (Pk.packet I n s m p k i (Pk.pieceN (Pk.blkAt (Pk.filled obj M) L s k) s (L[k]?.getD 0) i)):=by
 unfold Pk.packets;rw[hobj,<-hL,<-hM];exact Pk.upTo_at _ hk (Nat.le_refl _) hi
theorem blk_length{D L:List Nat}{s k N M:Nat}(hk:k<L.length)(hN:L.sum=N)(hM:M=N*s)(hD:D.length=M):(Pk.blkAt D L s k).length=L[k]?.getD 0*s:=by
 unfold Pk.blkAt;rw[List.length_take,List.length_drop,hD,hM];have h1:=sum_take_le L (k+1);rw[sum_take_succ (getD_some hk),hN]at h1;have h2:=Nat.mul_le_mul_right s h1;rw[Nat.add_mul]at h2;omega
theorem filled_head{obj:List Nat}{M j:Nat}(h:j<obj.length):(Pk.filled obj M)[j]? =obj[j]? :=by
 unfold Pk.filled;rw[List.getElem?_append_left h]
theorem start_split{L:List Nat}{p q:Nat}:∀Z,Z<=L.length->q<Pk.start L p Z->∃k i,k<Z/\i<L[k]?.getD 0+p/\q=Pk.start L p k+i:=by
 intro Z;induction Z with
 |zero=>intro _ h;simp[Pk.start]at h
 |succ Z ih=>
  intro hZ h;by_cases hq:q<Pk.start L p Z
  ·obtain⟨k,i,h1,h2,h3⟩:=ih (by omega) hq;exact⟨k,i,by omega,h2,h3⟩
  ·have:=Pk.start_succ (p:=p) (show Z<L.length by omega);exact⟨Z,q-Pk.start L p Z,by omega,by omega,by omega⟩
end Go.Proofs.Ytmfpiodlecapiaa
namespace Go.Proofs.Ytmfpiodlecapiaa
namespace Tx
abbrev IsPacket(l:List Nat):Prop:=
 11<=l.length/\l[0]?.getD 0=70/\256*l[3]?.getD 0+l[4]?.getD 0<=2000/\(1<=l[5]?.getD 0/\l[5]?.getD 0<=16)/\(1<=l[6]?.getD 0/\l[6]?.getD 0<=20)/\l[7]?.getD 0<=20/\
 Cut.blocks (Cut.pieces (256*l[3]?.getD 0+l[4]?.getD 0) (l[5]?.getD 0)) (l[6]?.getD 0)<=256/\
 l[8]?.getD 0<Cut.blocks (Cut.pieces (256*l[3]?.getD 0+l[4]?.getD 0) (l[5]?.getD 0)) (l[6]?.getD 0)/\
 l[9]?.getD 0<(Cut.sizes (256*l[3]?.getD 0+l[4]?.getD 0) (l[5]?.getD 0) (l[6]?.getD 0))[l[8]?.getD 0]?.getD 0+l[7]?.getD 0/\
 l.length=10+l[5]?.getD 0
end Tx
end Go.Proofs.Ytmfpiodlecapiaa
