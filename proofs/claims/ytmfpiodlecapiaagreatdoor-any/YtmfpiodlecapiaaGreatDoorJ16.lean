import Derived.Test.YtmfpiodlecapiaaGreatDoorJ15
import Derived.Lib.SliceRun
set_option maxHeartbeats 2000000
set_option maxRecDepth 100000
namespace Go.Proofs.YtmfpiodlecapiaaGreatDoor
open Go.RowKit Go.Deep
theorem Qq{L s m z:Nat}(hm:1<=m)(hz:z<Cut.blocks (Cut.pieces L s) m):∃k,(Cut.sizes L s m)[z]? =some k/\1<=k/\k<=m:=by
 have hlt:z<(Cut.sizes L s m).length:=by rw[Cut.fD];exact hz
 exact⟨_,List.getElem?_eq_getElem hlt,Cut.jw hm _ (List.getElem_mem hlt)⟩
def R6(l:List Nat):Value:=dS (256*l[1]?.getD 0+l[2]?.getD 0) (256*l[3]?.getD 0+l[4]?.getD 0) (l[5]?.getD 0) (l[6]?.getD 0) (l[7]?.getD 0) (l[8]?.getD 0) (l[9]?.getD 0)
theorem qj(b off n cap:Nat)(l:List Nat)(w:World)(h:kr w (some ⟨b,off,none⟩) n l)(hcap:n<=cap)(hp:Tx.zk l):
  Calls Tryz.prog 35 #[.slice (some ⟨b,off,none⟩) n cap] w fun r w'=>r= .returned (.tuple #[R6 l,.slice (some ⟨b,off+10,none⟩) (n-10) (cap-10)])/\Below w.heap.size w w':=by
 obtain⟨hl,hb,hc⟩:=h;obtain⟨p0,p1,p2,p3,p4,p5,p6,p7,p8,p9⟩:=hp;obtain⟨b',off',e,hc⟩:=hc (by omega);injection e with e;injection e with e1 e2;subst e1 e2;have hc1:=hc 0 (by omega);rw[p1,Nat.add_zero]at hc1;have lt:∀i,i<n->l[i]?.getD 0<256:=fun i hi=>getD_lt hb (by omega);obtain⟨s,hs,hs1,hs2⟩:=Qq (by omega) p7;rw[hs]at p8;exact MG b off n cap _ _ _ _ _ _ _ _ _ _ _ s hcap (lt 1 (by omega)) (lt 2 (by omega)) (lt 3 (by omega)) (lt 4 (by omega)) (lt 5 (by omega)) (lt 6 (by omega)) (lt 7 (by omega)) (lt 8 (by omega)) (lt 9 (by omega)) w hc1 (hc 1 (by omega)) (hc 2 (by omega)) (hc 3 (by omega)) (hc 4 (by omega)) (hc 5 (by omega)) (hc 6 (by omega)) (hc 7 (by omega)) (hc 8 (by omega)) (hc 9 (by omega)) (hide rfl) p2 p3.1 p3.2 p4.1 p4.2 p5 (hide rfl) p6 p7 (hide hs) (by omega) p8 (hide (by omega))
attribute [local go_sem↓] Go.wp_at_zero Go.wp_at_succ
def fP(R:List Nat)(o:Nat)(bs:List Nat)(t k:Nat):List Nat:=R.mapIdx fun i x=>if o<=i/\i<o+k then x ^^^ Gf.mul (bs[i-o]?.getD 0) t else x
theorem ig(R:List Nat)(o:Nat)(bs:List Nat)(t k:Nat):(fP R o bs t k).length=R.length:=by simp[fP]
theorem JY(R:List Nat)(o:Nat)(bs:List Nat)(t:Nat):fP R o bs t 0=R:=by
 apply List.ext_getElem?;intro i;have:¬(o<=i/\i<o+0):=by omega
 simp only[fP,List.getElem?_mapIdx,if_neg this];simp
theorem oQ{R:List Nat}{o:Nat}{bs:List Nat}{t k i:Nat}(hi:i<R.length):(fP R o bs t k)[i]?.getD 0=if o<=i/\i<o+k then(R[i]?.getD 0) ^^^ Gf.mul (bs[i-o]?.getD 0) t else R[i]?.getD 0:=by
 simp[fP,hi]
theorem O8{R:List Nat}{o:Nat}{bs:List Nat}{t k:Nat}(h:o+k<R.length):(fP R o bs t k).set (o+k) ((R[o+k]?.getD 0) ^^^ Gf.mul (bs[k]?.getD 0) t)=fP R o bs t (k+1):=by
 apply List.ext_getElem?;intro i;by_cases e:o+k=i
 ·subst e;have h1:o<=o+k/\o+k<o+(k+1):=by omega
  rw[List.getElem?_set_self (by rw[ig];exact h)];simp only[fP,List.getElem?_mapIdx,if_pos h1];simp[h,show o+k-o=k by omega]
 ·rw[List.getElem?_set_ne e];simp only[fP,List.getElem?_mapIdx];have:(o<=i/\i<o+k)↔(o<=i/\i<o+(k+1)):=by omega
  simp[this]
theorem T_{R:List Nat}{o:Nat}{bs:List Nat}{t k:Nat}(hR:∀x∈R,x<256)(hb:∀x∈bs,x<256)(ht:t<256):∀x∈fP R o bs t k,x<256:=by
 intro x hx;obtain⟨i,hi,rfl⟩:=List.mem_iff_getElem.1 hx;have hi':i<R.length:=by rw[ig]at hi;exact hi
 have h1:(fP R o bs t k)[i]=(fP R o bs t k)[i]?.getD 0:=by simp[hi]
 have hRi:R[i]?.getD 0<256:=getD_lt hR hi';rw[h1,oQ hi'];split
 ·refine Gf.xor_lt hRi (Gf.mul_lt ?_ ht);rcases Nat.lt_or_ge (i-o) bs.length with h|h
  ·exact getD_lt hb h
  ·rw[List.getElem?_eq_none (by omega)];decide
 ·exact hRi
theorem J_(l:List Nat)(i x:Nat):(bN l).set i (.int .u8 (x:Int))=bN (l.set i x):=by simp[bN,List.map_set]
theorem ng(g o n2 cap2 b off cap t n:Nat)(R bs:List Nat)(hl2:Hid (bs.length=n))(hlen:n<=65536)(hn2:n<=n2)(hon:o+n<=R.length)(hbs:∀x∈bs,x<256)(hRb:∀x∈R,x<256)(ht:t<256)(w:World)
  (hbg:b≠g)(hg:aB w g 5 (bN R))(hc:∀j,j<n->w.cell? ⟨b,off+j,none⟩=some (.int .u8 ((bs[j]?.getD 0:Nat):Int))):
  Calls Tryz.prog 170 #[.slice (some ⟨g,o,none⟩) n2 cap2,.slice (some ⟨b,off,none⟩) n cap,.int .i64 t] w fun e w'=>
   e= .returned (.tuple #[])/\w.grownBy w' (some g)/\aB w' g 5 (bN (fP R o bs t n)):=by
 have hG0:=hide hg;have hC:=hide hc;have hRL:=hide hon
 clear hg hc hon;go_enter Tryz.func170,Tryz.ntmps170;go_wp2;go_loopw [10] (fun x wr=>∃k:Nat,k<=n/\x= .int .i64 k/\w.grownBy wr (some g)/\aB wr g 5 (bN (fP R o bs t k)))
  (fun x _=>leftOf n (intOf x).toNat)
 case atStart=>exact⟨0,by omega,rfl,World.grownBy.refl _ _,by rw[JY];exact hG0.out⟩
 case round=>
  obtain⟨k,hk,rfl,hgr,hr⟩:=hrel;by_cases hkl:k<n
  ·have RV:o+k<R.length:=by have:=hRL.out;omega
   have hkb:k<bs.length:=by rw[hl2.out];exact hkl
   have hcb:wr.cell? ⟨b,off+k,none⟩=some (.int .u8 ((bs[k]?.getD 0:Nat):Int)):=hgr.cell (hC.out k hkl) (by simpa using hbg);have hcg:wr.cell? ⟨g,o+k,none⟩=some (.int .u8 ((R[o+k]?.getD 0:Nat):Int)):=by
    apply hr.cell;have:=fV (l:=fP R o bs t k) (i:=o+k) (by rw[ig];exact RV);rw[oQ RV,if_neg (by omega)]at this;exact this
   have hf:=hr.frozen (o+k);have hx:=getD_lt hbs hkb;have hy:=getD_lt hRb RV;have hS:Hid ((bN (fP R o bs t k)).set (o+k) (.int .u8 (((R[o+k]?.getD 0 ^^^ Gf.mul (bs[k]?.getD 0) t:Nat)):Int))=bN (fP R o bs t (k+1))):=by
    show _=_;rw[J_,O8 RV]
   have hR:=hide hr;have hG:=hide hgr
   clear hr hgr RV hkb;revert hcb hcg hx hy hS;generalize bs[k]?.getD 0=x;generalize R[o+k]?.getD 0=y;intro hcb hcg hx hy hS;have hm:=Gf.mul_lt hx ht;have M:=hide (fun w=>og x t hx ht w);revert hm M hS;generalize Gf.mul x t=m;intro hS hm M;have hxm:=Gf.xor_lt hy hm;have hk0:(0:Int)<=(k:Int):=by omega
   have hk1:(k:Int)<(n:Int):=by omega
   have hk2:(k:Int)<(n2:Int):=by omega
   have hwx:IntKind.i64.wrap (x:Int)=(x:Int):=aF _ (by omega) (by omega);have hwy:IntKind.i64.wrap (y:Int)=(y:Int):=aF _ (by omega) (by omega);have hw8:IntKind.u8.wrap ((y ^^^ m:Nat):Int)=((y ^^^ m:Nat):Int):=bZ _ (by omega) (by omega);go_wp2_with fail
   go_region_with (first|(go_at_call 112;refine(M.out _).mono ?_;rintro _ _ ⟨rfl,rfl⟩)|(go_at_call 168;refine(sM _ _ (by omega) (by omega) _).mono ?_;rintro _ _ ⟨rfl,rfl⟩))
   all_goals
    go_wp2;go_roundw
    case rel=>
     refine⟨k+1,by omega,by go_num,grownBy_drew (grownBy_setCell hG.out _ _),?_⟩;have:=hR.out.set (o+k) (.int .u8 ((y ^^^ m:Nat):Int));rw[hS.out]at this;exact this.drew
    case measure=>refine aO ?_ ?_<;>simp only[intOf]<;>omega
  ·have e:k=n:=by omega
   subst e;have hR:=hide hr;have hG:=hide hgr
   clear hr hgr;go_wp2;go_end0;exact⟨rfl,hG.out,hR.out⟩
theorem Dv(v:Value)(t:Nat)(w:World):Calls Tryz.prog 170 #[v,.slice none 0 0,.int .i64 t] w fun e w'=>e= .returned (.tuple #[])/\w'=w:=by
 go_enter Tryz.func170,Tryz.ntmps170;go_wp2;go_loopw [10] (fun x wr=>x= .int .i64 0/\wr=w) (fun _ _=>0)
 case atStart=>exact⟨rfl,rfl⟩
 case round=>
  obtain⟨rfl,rfl⟩:=hrel;go_wp2;go_end0;exact⟨rfl,rfl⟩
def dH(R:List Nat)(t k:Nat):List Nat:=R.mapIdx fun i x=>if i<k then Gf.mul x t else x
theorem jT(R:List Nat)(t k:Nat):(dH R t k).length=R.length:=by simp[dH]
theorem Cb(R:List Nat)(t:Nat):dH R t 0=R:=by
 apply List.ext_getElem?;intro i;simp[dH]
theorem xE{R:List Nat}{t k i:Nat}(hi:i<R.length):(dH R t k)[i]?.getD 0=if i<k then Gf.mul (R[i]?.getD 0) t else R[i]?.getD 0:=by
 simp[dH,hi]
theorem ER{R:List Nat}{t k:Nat}(h:k<R.length):(dH R t k).set k (Gf.mul (R[k]?.getD 0) t)=dH R t (k+1):=by
 apply List.ext_getElem?;intro i;by_cases e:k=i
 ·subst e;rw[List.getElem?_set_self (by rw[jT];exact h)];simp[dH,h]
 ·rw[List.getElem?_set_ne e];simp only[dH,List.getElem?_mapIdx];have:(i<k)↔(i<k+1):=by omega
  simp[this]
theorem IW(g cap t n:Nat)(R:List Nat)(hlR:Hid (R.length=n))(hlen:n<=65536)(hRb:∀x∈R,x<256)(ht:t<256)(w:World)(hg:aB w g 5 (bN R)):
  Calls Tryz.prog 188 #[.slice (some ⟨g,0,none⟩) n cap,.int .i64 t] w fun e w'=>
   e= .returned (.tuple #[])/\w.grownBy w' (some g)/\aB w' g 5 (bN (dH R t n)):=by
 have hG0:=hide hg;clear hg;go_enter Tryz.func188,Tryz.ntmps188;go_wp2;go_loopw [8] (fun x wr=>∃k:Nat,k<=n/\x= .int .i64 k/\w.grownBy wr (some g)/\aB wr g 5 (bN (dH R t k)))
  (fun x _=>leftOf n (intOf x).toNat)
 case atStart=>exact⟨0,by omega,rfl,World.grownBy.refl _ _,by rw[Cb];exact hG0.out⟩
 case round=>
  obtain⟨k,hk,rfl,hgr,hr⟩:=hrel;by_cases hkl:k<n
  ·have RV:k<R.length:=by rw[hlR.out];exact hkl
   have hcg:wr.cell? ⟨g,k,none⟩=some (.int .u8 ((R[k]?.getD 0:Nat):Int)):=by
    apply hr.cell;have:=fV (l:=dH R t k) (i:=k) (by rw[jT];exact RV);rw[xE RV,if_neg (by omega)]at this;exact this
   have hf:=hr.frozen k;have hy:=getD_lt hRb RV;have hS:Hid ((bN (dH R t k)).set k (.int .u8 ((Gf.mul (R[k]?.getD 0) t:Nat):Int))=bN (dH R t (k+1))):=by
    show _=_;rw[J_,ER RV]
   have hR:=hide hr;have hG:=hide hgr
   clear hr hgr RV;revert hcg hy hS;generalize R[k]?.getD 0=y;intro hcg hy hS;have hm:=Gf.mul_lt hy ht;have M:=hide (fun w=>og y t hy ht w);revert hm M hS;generalize Gf.mul y t=m;intro hS hm M;have hk0:(0:Int)<=(k:Int):=by omega
   have hk1:(k:Int)<(n:Int):=by omega
   have hwy:IntKind.i64.wrap (y:Int)=(y:Int):=aF _ (by omega) (by omega);have hw8:IntKind.u8.wrap (m:Int)=(m:Int):=bZ _ (by omega) (by omega);go_wp2_with (go_at_call 112;refine(M.out _).mono ?_;rintro _ _ ⟨rfl,rfl⟩)
   go_roundw
   case rel=>
    refine⟨k+1,by omega,by go_num,grownBy_setCell hG.out _ _,?_⟩;have:=hR.out.set k (.int .u8 (m:Int));rw[hS.out]at this;exact this
   case measure=>refine aO ?_ ?_<;>simp only[intOf]<;>omega
  ·have e:k=n:=by omega
   subst e;have hR:=hide hr;have hG:=hide hgr
   clear hr hgr;go_wp2;go_end0;exact⟨rfl,hG.out,hR.out⟩
theorem bG{w:World}{a:Addr}{v:Value}(h:w.cell? a=some v):a.block<w.heap.size:=by
 unfold World.cell? at h;cases hb:w.heap[a.block]? with
 |none=>rw[hb]at h;simp at h
 |some o=>exact(Array.getElem?_eq_some_iff.1 hb).1
def picks(pa:Nat->Option Addr)(heard:Bool)(n:Nat):List Nat:=(List.range n).filter fun j=>(pa j).isSome==heard
theorem qK(pa:Nat->Option Addr)(heard:Bool)(k:Nat):picks pa heard (k+1)=if(pa k).isSome==heard then picks pa heard k++ [k]else picks pa heard k:=by
 unfold picks;rw[List.range_succ,List.filter_append];by_cases h:((pa k).isSome==heard)=true<;>simp[h]
theorem gV(pa:Nat->Option Addr)(heard:Bool)(n:Nat):(picks pa heard n).length<=n:=by
 have:=List.length_filter_le (fun j=>(pa j).isSome==heard) (List.range n);simpa[picks]using this
theorem Tryz.infoInt0:(Tryz.prog.info? 3).map (fun i=>(i.zero,i.size,i.bytes))=some (some (.int .i64 0),1,8):=by kernel_rfl
theorem Hq(a:Option Addr)(cap:Nat)(heard:Bool)(w:World):Calls Tryz.prog 148 #[.slice a 0 cap,.bool heard] w fun e w'=>e= .returned (.slice none 0 0)/\w'=w:=by
 go_enter Tryz.func148,Tryz.ntmps148;go_wp2;go_loopw [5,10] (fun v x wr=>v= .slice none 0 0/\x= .int .i64 0/\wr=w) (fun _ _ _=>0)
 case atStart=>exact⟨rfl,rfl,rfl⟩
 case round=>
  obtain⟨rfl,rfl,rfl⟩:=hrel;go_wp2;go_ret;exact⟨rfl,rfl⟩
theorem wU(pb po n cap:Nat)(pa:Nat->Option Addr)(pl pc:Nat->Nat)(heard:Bool)(hn:n<=65536)(w:World)(hc:∀j,j<n->w.cell? ⟨pb,po+j,none⟩=some (.slice (pa j) (pl j) (pc j))):
  Calls Tryz.prog 148 #[.slice (some ⟨pb,po,none⟩) n cap,.bool heard] w fun e w'=>
   ∃v,e= .returned v/\bM w' 3 v (bW (picks pa heard n))/\(∀k,v.ownBlock=some k->w.heap.size<=k)/\Below w.heap.size w w':=by
 obtain⟨i0,hi,hz0,hz1,hz2⟩:=info_parts Tryz.infoInt0;have hC:=hide hc;have Yp:Hid (0<n->pb<w.heap.size):=fun h=>by
  have:=hc 0 h;exact bG this
 clear hc;go_enter Tryz.func148,Tryz.ntmps148;go_wp2;go_loopw [5,10] (fun v x wr=>∃k:Nat,k<=n/\x= .int .i64 k/\bM wr 3 v (bW (picks pa heard k))/\(∀k,v.ownBlock=some k->w.heap.size<=k)/\Below w.heap.size w wr)
  (fun _ x _=>leftOf n (intOf x).toNat)
 case atStart=>exact⟨0,by omega,rfl,by simpa[picks,bW]using iW _ _,by intro k hk;simp[Value.ownBlock]at hk,Below.refl _ _⟩
 case round=>
  obtain⟨k,hk,rfl,hown,hbk,hb⟩:=hrel;by_cases hlt:k<n
  ·have hO:=hide hown;have zq:=hide hbk;have hB:=hide hb
   have hcell:wr.cell? ⟨pb,po+k,none⟩=some (.slice (pa k) (pl k) (pc k)):=by
    rw[hb.cell (show pb<w.heap.size from Yp.out (by omega))];exact hC.out k hlt
   have hS:=hide (qK pa heard k);have Za:=gV pa heard k;have VJ:Hid ((bW (picks pa heard k)).length<=k):=by show _<=_;rw[dG];exact Za
   clear hown hbk hb Za;have hk0:(0:Int)<=(k:Int):=by omega
   have hk1:(k:Int)<(n:Int):=by omega
   revert hcell hS;generalize hpk:pa k=pk;generalize pl k=l1;generalize pc k=c1;clear hpk;intro hcell hS;have hn2:∀w,Sem.run Tryz.prog (binOp .neq 28 (.slice pk l1 c1) (.slice none 0 0)) w= .ok (.bool pk.isSome) w:=by
    intro w;cases pk<;>simp[go_sem,Tryz.underlying28]
   by_cases hq:(pk.isSome==heard)=true
   ·have hS':Hid (bW (picks pa heard (k+1))=bW (picks pa heard k)++ [.int .i64 (k:Int)]):=by
     show _=_;have:=hS.out;rw[if_pos hq]at this;rw[this];simp[bW]
    have hqe:pk.isSome=heard:=by simpa using hq
    clear hS hq;cases heard with
    |true=>
     obtain⟨q,rfl⟩:=Option.isSome_iff_exists.1 hqe;go_wp2_with (at_builtin;refine dn _ rfl _ _ 33 rfl 3 i0 (.int .i64 0) 8 Tryz.underlying33 hi hz0 hz1 hz2 rfl _ _ rfl (hO.out.alloc _) ⟨wr.heap.size,0,none⟩ 1 1 [.int .i64 k] rfl rfl (cell_one_new _ _ _) (by intro u hu;simp at hu;subst hu;rfl) (by have:=VJ.out;simp[maxLen];omega) (by have:=VJ.out;omega) ?_)
     intro v' w1 happ;have hA:=hide happ;clear happ;go_wp2;go_roundw
     case rel=>
      have hsz:=hB.out.size;have hwr:w.heap.size<=(wr.alloc (.cells #[.int .i64 (k:Int)] 3)).heap.size:=by simp;omega
      refine⟨k+1,by omega,by go_num,?_,hA.out.from hwr zq.out,hA.out.below (hB.out.alloc hsz _) hwr zq.out⟩;rw[hS'.out];exact hA.out.own
     case measure=>refine aO ?_ ?_<;>simp only[intOf]<;>omega
    |false=>
     obtain rfl:pk=none:=by cases pk<;>simp_all
     go_wp2_with (at_builtin;refine dn _ rfl _ _ 33 rfl 3 i0 (.int .i64 0) 8 Tryz.underlying33 hi hz0 hz1 hz2 rfl _ _ rfl (hO.out.alloc _) ⟨wr.heap.size,0,none⟩ 1 1 [.int .i64 k] rfl rfl (cell_one_new _ _ _) (by intro u hu;simp at hu;subst hu;rfl) (by have:=VJ.out;simp[maxLen];omega) (by have:=VJ.out;omega) ?_)
     intro v' w1 happ;have hA:=hide happ;clear happ;go_wp2;go_roundw
     case rel=>
      have hsz:=hB.out.size;have hwr:w.heap.size<=(wr.alloc (.cells #[.int .i64 (k:Int)] 3)).heap.size:=by simp;omega
      refine⟨k+1,by omega,by go_num,?_,hA.out.from hwr zq.out,hA.out.below (hB.out.alloc hsz _) hwr zq.out⟩;rw[hS'.out];exact hA.out.own
     case measure=>refine aO ?_ ?_<;>simp only[intOf]<;>omega
   ·have hS':Hid (bW (picks pa heard (k+1))=bW (picks pa heard k)):=by
     show _=_;have:=hS.out;rw[if_neg hq]at this;rw[this]
    have hqe:¬pk.isSome=heard:=by simpa using hq
    clear hS hq;cases heard with
    |true=>
     obtain rfl:pk=none:=by cases pk<;>simp_all
     go_wp2;go_roundw
     case rel=>
      refine⟨k+1,by omega,by go_num,?_,zq.out,hB.out⟩;rw[hS'.out];exact hO.out
     case measure=>refine aO ?_ ?_<;>simp only[intOf]<;>omega
    |false=>
     obtain⟨q,rfl⟩:∃q,pk=some q:=by cases pk with|none=>simp_all|some q=>exact⟨q,rfl⟩
     go_wp2;go_roundw
     case rel=>
      refine⟨k+1,by omega,by go_num,?_,zq.out,hB.out⟩;rw[hS'.out];exact hO.out
     case measure=>refine aO ?_ ?_<;>simp only[intOf]<;>omega
  ·have e:k=n:=by omega
   subst e;have hO:=hide hown;have zq:=hide hbk;have hB:=hide hb
   clear hown hbk hb;go_wp2;go_ret;exact⟨_,rfl,hO.out,zq.out,hB.out⟩
theorem JR(pb po n cap:Nat)(xs:List Value)(hl:Hid (xs.length=n))(h1:∀u∈xs,u.oneCell'=true)(hn:n<=65536)(w:World)(hc:∀j u,xs[j]? =some u->w.cell? ⟨pb,po+j,none⟩=some u):
  Calls Tryz.prog 147 #[.slice (some ⟨pb,po,none⟩) n cap] w fun e w'=>
   ∃v,e= .returned v/\bM w' 28 v xs/\(∀k,v.ownBlock=some k->w.heap.size<=k)/\Below w.heap.size w w':=by
 obtain⟨i0,hi,hz0,hz1,hz2⟩:=info_parts Tryz.infoBytes;have hC:Hid (∀j u,xs[j]? =some u->(w.alloc (.cells #[] 28)).cell? ((⟨pb,po,none⟩:Addr).add j)=some u):=fun j u hu=>by
  have:=hc j u hu;rw[Addr.add_lit,World.cell?_alloc_old _ _ _ (by have:=bG this;simp only at this⊢;omega)];exact this
 have hO:Hid (bM (w.alloc (.cells #[] 28)) 28 (.slice (some ⟨w.heap.size,0,none⟩) 0 0) []):=.inr ⟨w.heap.size,0,[],rfl,gy w [] _,by simp,by simp[maxLen],rfl,rfl⟩;clear hc;have he:∀w,Sem.run Tryz.prog (binOp .eql 25 (.slice (some ⟨pb,po,none⟩) n cap) (.slice none 0 0)) w= .ok (.bool false) w:=by
  intro w;exact Go.Lib.run_eql_slice_nil w _ _ _ _ _ _ _ Tryz.underlying25
 go_enter Tryz.func147,Tryz.ntmps147;go_wp2_with (at_builtin;refine dn _ rfl _ _ 25 rfl 28 i0 (.slice none 0 0) 24 Tryz.underlying25 hi hz0 hz1 hz2 rfl _ _ rfl hO.out ⟨pb,po,none⟩ n cap xs rfl hl.out hC.out h1 (by simp[maxLen];omega) (by simp;omega) ?_)
 intro v' w1 happ;have hA:=hide happ;clear happ;go_wp2;go_ret;have hwr:w.heap.size<=(w.alloc (.cells #[] 28)).heap.size:=by simp
 refine⟨_,rfl,by simpa using hA.out.own,hA.out.from hwr (by intro k hk;simp[Value.ownBlock]at hk;omega),hA.out.below ((Below.refl _ _).alloc (Nat.le_refl _) _) hwr (by intro k hk;simp[Value.ownBlock]at hk;omega)⟩
def fF(pa:Nat->Option Addr):Nat->Nat
 |0=>0
 |k+1=>fF pa k+if(pa k).isSome then 1 else 0
theorem pW(pa:Nat->Option Addr):∀n,fF pa n<=n
 |0=>Nat.le_refl _
 |n+1=>by
  have:=pW pa n;simp only[fF];split<;>omega
theorem JQ(pb n cap:Nat)(pa:Nat->Option Addr)(pl pc:Nat->Nat)(hn:n<=65536)(w:World)(hc:∀j,j<n->w.cell? ⟨pb,j,none⟩=some (.slice (pa j) (pl j) (pc j))):
  Calls Tryz.prog 130 #[.slice (some ⟨pb,0,none⟩) n cap] w fun e w'=>e= .returned (.int .i64 (fF pa n:Nat))/\w'=w:=by
 have hC:=hide hc;clear hc;go_enter Tryz.func130,Tryz.ntmps130;go_wp2;go_loopw [3,8] (fun v x wr=>∃k:Nat,k<=n/\v= .int .i64 (fF pa k:Nat)/\x= .int .i64 k/\wr=w) (fun _ x _=>leftOf n (intOf x).toNat)
 case atStart=>exact⟨0,by omega,rfl,rfl,rfl⟩
 case round=>
  obtain⟨k,hk,rfl,rfl,rfl⟩:=hrel;by_cases hlt:k<n
  ·have hcell:=hC.out k hlt;have hle:=pW pa k;have hS:=hide (show fF pa (k+1)=fF pa k+if(pa k).isSome then 1 else 0 from rfl);have hk0:(0:Int)<=(k:Int):=by omega
   have hk1:(k:Int)<(n:Int):=by omega
   generalize fF pa k=ct at hle hS;have hwc:IntKind.i64.wrap ((ct:Int)+1)=((ct+1:Nat):Int):=aF _ (by omega) (by omega);generalize hpk:pa k=pk at hcell hS;generalize pl k=l1 at hcell;generalize pc k=c1 at hcell;clear hpk;cases pk with
   |none=>
    go_wp2;go_roundw
    case rel=>exact⟨k+1,by omega,by rw[hS.out];rfl,by go_num,by first|rfl|trivial⟩
    case measure=>refine aO ?_ ?_<;>simp only[intOf]<;>omega
   |some q=>
    go_wp2;go_roundw
    case rel=>exact⟨k+1,by omega,by rw[hS.out];rfl,by go_num,by first|rfl|trivial⟩
    case measure=>refine aO ?_ ?_<;>simp only[intOf]<;>omega
  ·have e:k=n:=by omega
   subst e;go_wp2;go_ret;exact⟨rfl,rfl⟩
section
variable {P:Program} (w:World)
theorem DN{ops:Array Oper}{rest:List Oper}{o:Oper}{a:Act}{Q:Exit->Act->World->Prop}(hgd:o.guard=none)(s x:Operand)(t:TypeId)
  (ho:o.op= .call {callee:=.builtin .append,args:=#[s,x],argTypes:=#[t,t]})
  (e:TypeId)(i:TypeInfo)(z:Value)(bytes:Nat)(ht:P.underlying t=some (.slice e))(hi:P.info? e=some i)(hz:i.zero=some z)(hsize:i.size=1)(hby:i.bytes=bytes)(hzs:z.cells=#[z])
  (g:Nat)(hs:a.eval s= .slice (some ⟨g,0,none⟩) 0 0)(ad:Addr)(m c:Nat)(news:List Value)(hx:a.eval x= .slice (some ad) m c)(hl:news.length=m)(hm1:1<=m)(hnews:∀j u,news[j]? =some u->w.cell? (ad.add j)=some u)
  (h63:m<=maxLen)(hbytes:m*bytes<=140737488355328)
  (h:∀c',m<=c'->c'<=maxLen->wpList P ops Q rest (a.put o.dst (.slice (some ⟨w.heap.size,0,none⟩) m c')) (w.drew.alloc (.cells (news++List.replicate (c'-m) z).toArray e))):wpList P ops Q (o::rest) a w:=by
 refine wpList_plain hgd fun K hK=>?_;subst hl;subst hby;have hl1:news.length=news.length*i.size:=by rw[hsize,Nat.mul_one]
 have hsmall:news.length<=9223372036854775807:=by simp only[maxLen]at h63;omega
 have hr:=run_append_grow (P:=P) w t o.type e i z ht hi hz ⟨g,0,none⟩ 0 0 [] (by simp) (by intro j u hu;simp at hu) ad news.length c news hl1 hnews (by omega) (by omega) (growslice_fits (by omega) (by simpa using hbytes));have hge:=grownCap_ge w (0+news.length) 0 e;have hle:=grownCap_le_maxLen w (0+news.length) 0 e (by simpa using h63);unfold Oper.wp execOp;simp only[ho,resolve,invoke,builtin,Sem.run_bind,Sem.run_pure,Result.andThen_ok,List.map_toArray,List.map_cons,List.map_nil,hs,hx,hr];have hfin:=h (grownCap w (0+news.length) 0 e) (by omega) hle;have hzc:∀k,(Builtin.zeroCells z.cells k).toList=List.replicate k z:=fun k=>by
  rw[hzs];apply List.ext_getElem
  ·simp[size_zeroCells]
  ·intro j h1 h2;simp only[Builtin.zeroCells,Array.getElem_toList,Array.getElem_map,Array.getElem_range,List.getElem_replicate];have e:j%(#[z]:Array Value).size=0:=Nat.mod_one _;rw[e];rfl
 refine hK _ _ ?_;have e1:(#[]++news.toArray++Builtin.zeroCells z.cells (grownCap w (0+news.length) 0 e-(0+news.length)):Array Value)=(news++List.replicate (grownCap w (0+news.length) 0 e-news.length) z).toArray:=by
  apply Array.ext';simp[hzc]
 have e2:wpList P ops Q rest (a.put o.dst (.slice (some ⟨w.heap.size,0,none⟩) (0+news.length) (grownCap w (0+news.length) 0 e))) (w.drew.alloc (.cells (#[]++news.toArray++Builtin.zeroCells z.cells (grownCap w (0+news.length) 0 e-(0+news.length))) e)):=by
  rw[e1];have e3:0+news.length=news.length:=Nat.zero_add _;rw[e3]at hfin⊢;exact hfin
 exact e2
end
theorem Gx(b off n cap:Nat)(bs:List Nat)(hl:Hid (bs.length=n))(hn1:1<=n)(hn:n<=65536)(w:World)(hc:∀j,j<n->w.cell? ⟨b,off+j,none⟩=some (.int .u8 ((bs[j]?.getD 0:Nat):Int))):
  Calls Tryz.prog 129 #[.slice (some ⟨b,off,none⟩) n cap] w fun e w'=>
   ∃c,e= .returned (.slice (some ⟨w.heap.size+1,0,none⟩) n c)/\n<=c/\c<=maxLen/\aB w' (w.heap.size+1) 5 (bN (bs++List.replicate (c-n) 0))/\Below w.heap.size w w':=by
 obtain⟨i0,hi,hz0,hz1,hz2⟩:=info_parts Tryz.infoByte;have hC:Hid (∀j u,(bN bs)[j]? =some u->(w.alloc (.cells #[] 5)).cell? ((⟨b,off,none⟩:Addr).add j)=some u):=fun j u hu=>by
  have hj:j<bs.length:=by have:=(List.getElem?_eq_some_iff.1 hu).1;rw[aU]at this;exact this
  have h1:=hc j (by rw[<-hl.out];exact hj);rw[fV hj]at hu;rw[Addr.add_lit,World.cell?_alloc_old _ _ _ (by have:=bG h1;simp only at this⊢;omega),<-hu];exact h1
 clear hc;have he:∀w,Sem.run Tryz.prog (binOp .eql 28 (.slice (some ⟨b,off,none⟩) n cap) (.slice none 0 0)) w= .ok (.bool false) w:=by
  intro w;exact Go.Lib.run_eql_slice_nil w _ _ _ _ _ _ _ Tryz.underlying28
 go_enter Tryz.func129,Tryz.ntmps129;go_wp2_with (at_builtin;refine DN _ rfl _ _ 28 rfl 5 i0 (.int .u8 0) 1 Tryz.underlying28 hi hz0 hz1 hz2 rfl w.heap.size rfl ⟨b,off,none⟩ n cap (bN bs) rfl (by rw[aU];exact hl.out) hn1 hC.out (by simp[maxLen];omega) (by omega) ?_)
 intro c h1 h2;go_wp2;go_ret;refine⟨c,?_,h1,h2,?_,?_⟩
 ·simp
 ·have:=gy (w.alloc (.cells #[] 5)).drew (bN bs++List.replicate (c-n) (.int .u8 0)) 5;have e0:(w.alloc (.cells #[] 5)).drew.heap.size=w.heap.size+1:=by simp
  rw[e0]at this;have e1:bN (bs++List.replicate (c-n) 0)=bN bs++List.replicate (c-n) (.int .u8 0):=by simp[bN]
  rw[e1];exact this
 ·exact(((Below.refl _ w).alloc (Nat.le_refl _) _).drew).alloc (by simp) _
end Go.Proofs.YtmfpiodlecapiaaGreatDoor
namespace Go.Proofs.YtmfpiodlecapiaaGreatDoor
open Go.RowKit Go.Deep
attribute [local go_sem↓] Go.wp_at_zero Go.wp_at_succ
theorem jZ{w:World}{b off n cap:Nat}{bs:List Nat}(hl:bs.length=n)(hc:∀j,j<n->w.cell? ⟨b,off+j,none⟩=some (.int .u8 ((bs[j]?.getD 0:Nat):Int))):
  (convert 28 9 (.slice (some ⟨b,off,none⟩) n cap)).run Tryz.prog w= .ok (.string (strOfNums (bs.map (fun n:Nat=>(n:Int))))) w:=by
 refine run_convert_bytes_arg w 28 5 Tryz.underlying28 Tryz.underlying5 b off n cap (bs.map (fun n:Nat=>(n:Int))) (by simpa using hl) ?_ 9 Tryz.underlying9;intro i hi;rw[hc i hi];simp[List.getD,hl▸hi]
theorem JK(b off n cap b2 off2 cap2:Nat)(bs:List Nat)(hl:Hid (bs.length=n))(w:World)(hc:∀j,j<n->w.cell? ⟨b,off+j,none⟩=some (.int .u8 ((bs[j]?.getD 0:Nat):Int)))(hc2:∀j,j<n->w.cell? ⟨b2,off2+j,none⟩=some (.int .u8 ((bs[j]?.getD 0:Nat):Int))):
  Calls Tryz.prog 128 #[.slice (some ⟨b,off,none⟩) n cap,.slice (some ⟨b2,off2,none⟩) n cap2] w fun e w'=>e= .returned (.bool true)/\w'=w:=by
 have q1:=jZ (cap:=cap) hl.out hc;have q2:=jZ (cap:=cap2) hl.out hc2;generalize strOfNums (bs.map (fun n:Nat=>(n:Int)))=str at q1 q2;clear hc hc2 hl;go_enter Tryz.func128,Tryz.ntmps128;go_wp2;go_ret;exact⟨by simp,rfl⟩
def iq(w:World)(ob len sz ms V bb N cap:Nat):Prop:=w.heap[ob]? =some (.cells #[.int .i64 len,.int .i64 sz,.int .i64 ms,.int .i64 V,.slice (some ⟨bb,0,none⟩) N cap] 101)
theorem Wj(ob len sz ms V bb N cap id z n pb m s gb go eH:Nat)(row:List Value)(bs:List Nat)(hz:z<N)(hn:n<m)(hs1:1<=s)(hs:s<=65536)(hl:Hid (bs.length=s))(w:World)(jJ:iq w ob len sz ms V bb N cap)(hbz:w.cell? ⟨bb,z,none⟩=some (.slice (some ⟨pb,0,none⟩) m m))(hrow:aB w pb 28 row)(hrn:row[n]? =some (.slice none 0 0))
  (hp:∀j,j<s->w.cell? ⟨gb,go+j,none⟩=some (.int .u8 ((bs[j]?.getD 0:Nat):Int))):
  Calls Tryz.prog 83 #[.pointer (some ⟨ob,0,none⟩),dS id len sz ms V z n,.slice (some ⟨gb,go,none⟩) s eH] w fun e w'=>
   e= .returned (.bool true)/\∃g c,w.heap.size<=g/\s<=c/\c<=maxLen/\aB w' g 5 (bN (bs++List.replicate (c-s) 0))/\aB w' pb 28 (row.set n (.slice (some ⟨g,0,none⟩) s c))/\Kp (fun b=>b=pb) w w':=by
 unfold dS;have RP:w.cell? ⟨ob,0,none⟩=some (.int .i64 len):=by unfold iq at jJ;simp[World.cell?,jJ]
 have RN:w.cell? ⟨ob,1,none⟩=some (.int .i64 sz):=by unfold iq at jJ;simp[World.cell?,jJ]
 have Ju:w.cell? ⟨ob,2,none⟩=some (.int .i64 ms):=by unfold iq at jJ;simp[World.cell?,jJ]
 have RL:w.cell? ⟨ob,3,none⟩=some (.int .i64 V):=by unfold iq at jJ;simp[World.cell?,jJ]
 have RJ:w.cell? ⟨ob,4,none⟩=some (.slice (some ⟨bb,0,none⟩) N cap):=by unfold iq at jJ;simp[World.cell?,jJ]
 have HP:=hide hp;have HR:=hide hrow;have HN:=hide hrn;have HB:=hide hbz
 have RG:w.cell? ⟨pb,n,none⟩=some (.slice none 0 0):=hrow.cell n _ hrn;clear hp hrow hrn jJ;go_enter Tryz.func83,Tryz.ntmps83;have hsz:(w.alloc (.cells #[.int .i64 id,.int .i64 len,.int .i64 sz,.int .i64 ms,.int .i64 V,.int .i64 z,.int .i64 n] 76)).heap.size=w.heap.size+1:=by simp
 have hB1:Below w.heap.size w (w.alloc (.cells #[.int .i64 id,.int .i64 len,.int .i64 sz,.int .i64 ms,.int .i64 V,.int .i64 z,.int .i64 n] 76)):=(Below.refl _ _).alloc (Nat.le_refl _) _;have hH:=aP w #[.int .i64 id,.int .i64 len,.int .i64 sz,.int .i64 ms,.int .i64 V,.int .i64 z,.int .i64 n] 76;go_wp2;obtain⟨w1,hw1⟩:∃w1,w1=w.alloc (.cells #[.int .i64 id,.int .i64 len,.int .i64 sz,.int .i64 ms,.int .i64 V,.int .i64 z,.int .i64 n] 76):=⟨_,rfl⟩;rw[<-hw1]at hsz hB1 hH⊢;clear hw1;obtain⟨hb,Yv⟩:∃hb,hb=w.heap.size:=⟨_,rfl⟩;have keep:∀(a:Addr) (v:Value),w.cell? a=some v->w1.cell? a=some v:=fun a v h=>by
  rw[hB1.cell (by exact bG h)];exact h
 have k0:=keep _ _ RP;have k1:=keep _ _ RN;have k2:=keep _ _ Ju;have k3:=keep _ _ RL;have k4:=keep _ _ RJ
 have k5:=keep _ _ HB.out;have k6:=keep _ _ RG
 have r1:aB w1 pb 28 row:=HR.out.below hB1 HR.out.lt;have hfz:=r1.frozen n;rw[<-Yv]at hH⊢;have h0:=hH.cell 0 _ rfl;have h1:=hH.cell 1 _ rfl;have h2:=hH.cell 2 _ rfl;have h3:=hH.cell 3 _ rfl;have h4:=hH.cell 4 _ rfl;have h5:=hH.cell 5 _ rfl;have h6:=hH.cell 6 _ rfl
 have HR1:=hide r1;have HB1:=hide hB1;have UA:=hide hsz;have Hhb:=hide Yv
 have Ug:Hid (∀j,j<s->w1.cell? ⟨gb,go+j,none⟩=some (.int .u8 ((bs[j]?.getD 0:Nat):Int))):=fun j hj=>keep _ _ (HP.out j hj);clear keep r1 hB1 hsz Yv hH RP RN Ju RL RJ RG HP HB;have hz0:(0:Int)<=(z:Int):=by omega
 have hz1:(z:Int)<(N:Int):=by omega
 have hn0:(0:Int)<=(n:Int):=by omega
 have hn1:(n:Int)<(m:Int):=by omega
 go_quiet ((go_at_call 81;exact Calls.quiet_of_same (jD _ _)))
 obtain⟨w2,oF⟩:∃w2,w2=w1.drewN nq:=⟨_,rfl⟩;have ew2:w2.heap=w1.heap:=by rw[oF];rfl
 have G_:∀(a:Addr) (v:Value),w1.cell? a=some v->w2.cell? a=some v:=fun a v h=>by rw[oF];exact h
 rw[<-oF];replace k4:=G_ _ _ k4;replace k5:=G_ _ _ k5;replace k6:=G_ _ _ k6;replace h5:=G_ _ _ h5;replace h6:=G_ _ _ h6;replace hfz:w2.frozen? ⟨pb,n,none⟩=false:=by rw[oF];exact hfz
 replace HR1:Hid (aB w2 pb 28 row):=by show aB _ _ _ _;rw[oF];exact HR1.out
 replace HB1:Hid (Below w.heap.size w w2):=by show Below _ _ _;rw[oF];exact⟨HB1.out.os,HB1.out.tape,HB1.out.output,HB1.out.size,HB1.out.block⟩
 replace UA:Hid (w2.heap.size=w.heap.size+1):=by show _=_;rw[oF];exact UA.out
 replace Ug:Hid (∀j,j<s->w2.cell? ⟨gb,go+j,none⟩=some (.int .u8 ((bs[j]?.getD 0:Nat):Int))):=fun j hj=>G_ _ _ (Ug.out j hj);clear oF ew2 G_;clear k0 k1 k2 k3 h0 h1 h2 h3 h4;go_wp2;go_quiet (fail)
 obtain⟨w3,oC⟩:∃w3,w3=w2.drewN nq:=⟨_,rfl⟩;have ew3:w3.heap=w2.heap:=by rw[oC];rfl
 have G9:∀(a:Addr) (v:Value),w2.cell? a=some v->w3.cell? a=some v:=fun a v h=>by rw[oC];exact h
 rw[<-oC];replace k4:=G9 _ _ k4;replace k5:=G9 _ _ k5;replace k6:=G9 _ _ k6;replace h5:=G9 _ _ h5;replace h6:=G9 _ _ h6;replace hfz:w3.frozen? ⟨pb,n,none⟩=false:=by rw[oC];exact hfz
 replace HR1:Hid (aB w3 pb 28 row):=by show aB _ _ _ _;rw[oC];exact HR1.out
 replace HB1:Hid (Below w.heap.size w w3):=by show Below _ _ _;rw[oC];exact⟨HB1.out.os,HB1.out.tape,HB1.out.output,HB1.out.size,HB1.out.block⟩
 replace UA:Hid (w3.heap.size=w.heap.size+1):=by show _=_;rw[oC];exact UA.out
 replace Ug:Hid (∀j,j<s->w3.cell? ⟨gb,go+j,none⟩=some (.int .u8 ((bs[j]?.getD 0:Nat):Int))):=fun j hj=>G9 _ _ (Ug.out j hj);clear oC ew3 G9;go_wp2;have hCl:Hid (∀w4:World,w4.heap=w3.heap->(∀a,w4.cell? a=w3.cell? a)->Calls Tryz.prog 129 #[.slice (some ⟨gb,go,none⟩) s eH] w4 fun e w'=>∃c,e= .returned (.slice (some ⟨w.heap.size+2,0,none⟩) s c)/\s<=c/\c<=maxLen/\aB w' (w.heap.size+2) 5 (bN (bs++List.replicate (c-s) 0))/\Below w4.heap.size w4 w'):=fun w4 he hcc=>by
  have:=Gx gb go s eH bs hl hs1 hs w4 (fun j hj=>by rw[hcc];exact Ug.out j hj);have e1:w4.heap.size+1=w.heap.size+2:=by rw[he,UA.out]
  rw[e1]at this;exact this
 have hAft:Hid (∀w5:World,Below w3.heap.size w3.drew w5->w5.cell? ⟨hb,6,none⟩=some (.int .i64 n)/\w5.cell? ⟨pb,n,none⟩=some (.slice none 0 0)/\w5.frozen? ⟨pb,n,none⟩=false):=fun w5 hb5=>by
  have hblt:hb<w3.heap.size:=bG h6;have Yo:pb<w3.heap.size:=HR1.out.lt;have r5:aB w5 pb 28 row:=HR1.out.of_block (hb5.block pb Yo);refine⟨?_,r5.cell n _ HN.out,r5.frozen n⟩;rw[hb5.cell (show hb<w3.heap.size from hblt)];exact h6
 have k6d:w3.drew.cell? ⟨pb,n,none⟩=some (.slice none 0 0):=k6;have h6d:w3.drew.cell? ⟨hb,6,none⟩=some (.int .i64 n):=h6;go_region_with (go_at_call 129;refine(hCl.out w3.drew rfl (fun _=>rfl)).mono ?_;rintro _ w5 ⟨c,rfl,c1,c2,c3,c4⟩;obtain⟨a1,a2,a3⟩:=hAft.out w5 c4;replace c3:=hide c3;replace c4:=hide c4)
 all_goals
  go_wp2;go_ret;refine⟨rfl,w.heap.size+2,c,by omega,c1,c2,?_,?_,?_⟩
  ·exact c3.out.other (show w.heap.size+2≠pb from fun e=>by have:=HR.out.lt;omega) _
  ·have r5:aB w5 pb 28 row:=HR1.out.of_block (c4.out.block pb HR1.out.lt);exact r5.set n _
  ·have hk:Kp (fun b=>b=pb) w w5:=(Kp.of_below (HB1.out.trans ⟨c4.out.os,c4.out.tape,c4.out.output,c4.out.size,fun k hk=>c4.out.block k (Nat.lt_of_lt_of_le hk HB1.out.size)⟩));exact hk.setCell (.inl rfl) _
theorem O7(kb kc ob len sz ms V bb N cap id z n pb m s gb go eH:Nat)(row:List Value)(bs:List Nat)(hz:z<N)(hn:n<m)(hl:Hid (bs.length=s))(w:World)(jJ:iq w ob len sz ms V bb N cap)(hbz:w.cell? ⟨bb,z,none⟩=some (.slice (some ⟨pb,0,none⟩) m m))(hrow:aB w pb 28 row)(hrn:row[n]? =some (.slice (some ⟨kb,0,none⟩) s kc))(hkn:∀j,j<s->w.cell? ⟨kb,0+j,none⟩=some (.int .u8 ((bs[j]?.getD 0:Nat):Int)))
  (hp:∀j,j<s->w.cell? ⟨gb,go+j,none⟩=some (.int .u8 ((bs[j]?.getD 0:Nat):Int))):
  Calls Tryz.prog 83 #[.pointer (some ⟨ob,0,none⟩),dS id len sz ms V z n,.slice (some ⟨gb,go,none⟩) s eH] w fun e w'=>
   e= .returned (.bool false)/\Below w.heap.size w w':=by
 unfold dS;have RP:w.cell? ⟨ob,0,none⟩=some (.int .i64 len):=by unfold iq at jJ;simp[World.cell?,jJ]
 have RN:w.cell? ⟨ob,1,none⟩=some (.int .i64 sz):=by unfold iq at jJ;simp[World.cell?,jJ]
 have Ju:w.cell? ⟨ob,2,none⟩=some (.int .i64 ms):=by unfold iq at jJ;simp[World.cell?,jJ]
 have RL:w.cell? ⟨ob,3,none⟩=some (.int .i64 V):=by unfold iq at jJ;simp[World.cell?,jJ]
 have RJ:w.cell? ⟨ob,4,none⟩=some (.slice (some ⟨bb,0,none⟩) N cap):=by unfold iq at jJ;simp[World.cell?,jJ]
 have HP:=hide hp;have HR:=hide hrow;have HN:=hide hrn;have HB:=hide hbz
 have RG:w.cell? ⟨pb,n,none⟩=some (.slice (some ⟨kb,0,none⟩) s kc):=hrow.cell n _ hrn;have HK:=hide hkn;clear hp hrow hrn jJ hkn;go_enter Tryz.func83,Tryz.ntmps83;have hsz:(w.alloc (.cells #[.int .i64 id,.int .i64 len,.int .i64 sz,.int .i64 ms,.int .i64 V,.int .i64 z,.int .i64 n] 76)).heap.size=w.heap.size+1:=by simp
 have hB1:Below w.heap.size w (w.alloc (.cells #[.int .i64 id,.int .i64 len,.int .i64 sz,.int .i64 ms,.int .i64 V,.int .i64 z,.int .i64 n] 76)):=(Below.refl _ _).alloc (Nat.le_refl _) _;have hH:=aP w #[.int .i64 id,.int .i64 len,.int .i64 sz,.int .i64 ms,.int .i64 V,.int .i64 z,.int .i64 n] 76;go_wp2;obtain⟨w1,hw1⟩:∃w1,w1=w.alloc (.cells #[.int .i64 id,.int .i64 len,.int .i64 sz,.int .i64 ms,.int .i64 V,.int .i64 z,.int .i64 n] 76):=⟨_,rfl⟩;rw[<-hw1]at hsz hB1 hH⊢;clear hw1;obtain⟨hb,Yv⟩:∃hb,hb=w.heap.size:=⟨_,rfl⟩;have keep:∀(a:Addr) (v:Value),w.cell? a=some v->w1.cell? a=some v:=fun a v h=>by
  rw[hB1.cell (by exact bG h)];exact h
 have k0:=keep _ _ RP;have k1:=keep _ _ RN;have k2:=keep _ _ Ju;have k3:=keep _ _ RL;have k4:=keep _ _ RJ
 have k5:=keep _ _ HB.out;have k6:=keep _ _ RG
 have r1:aB w1 pb 28 row:=HR.out.below hB1 HR.out.lt;have hfz:=r1.frozen n;rw[<-Yv]at hH⊢;have h0:=hH.cell 0 _ rfl;have h1:=hH.cell 1 _ rfl;have h2:=hH.cell 2 _ rfl;have h3:=hH.cell 3 _ rfl;have h4:=hH.cell 4 _ rfl;have h5:=hH.cell 5 _ rfl;have h6:=hH.cell 6 _ rfl
 have HR1:=hide r1;have HB1:=hide hB1;have UA:=hide hsz;have Hhb:=hide Yv
 have Ug:Hid (∀j,j<s->w1.cell? ⟨gb,go+j,none⟩=some (.int .u8 ((bs[j]?.getD 0:Nat):Int))):=fun j hj=>keep _ _ (HP.out j hj);have HK1:Hid (∀j,j<s->w1.cell? ⟨kb,0+j,none⟩=some (.int .u8 ((bs[j]?.getD 0:Nat):Int))):=fun j hj=>keep _ _ (HK.out j hj);clear keep r1 hB1 hsz Yv hH RP RN Ju RL RJ RG HP HB;have hz0:(0:Int)<=(z:Int):=by omega
 have hz1:(z:Int)<(N:Int):=by omega
 have hn0:(0:Int)<=(n:Int):=by omega
 have hn1:(n:Int)<(m:Int):=by omega
 go_quiet ((go_at_call 81;exact Calls.quiet_of_same (jD _ _)))
 obtain⟨w2,oF⟩:∃w2,w2=w1.drewN nq:=⟨_,rfl⟩;have ew2:w2.heap=w1.heap:=by rw[oF];rfl
 have G_:∀(a:Addr) (v:Value),w1.cell? a=some v->w2.cell? a=some v:=fun a v h=>by rw[oF];exact h
 rw[<-oF];replace k4:=G_ _ _ k4;replace k5:=G_ _ _ k5;replace k6:=G_ _ _ k6;replace h5:=G_ _ _ h5;replace h6:=G_ _ _ h6;replace hfz:w2.frozen? ⟨pb,n,none⟩=false:=by rw[oF];exact hfz
 replace HR1:Hid (aB w2 pb 28 row):=by show aB _ _ _ _;rw[oF];exact HR1.out
 replace HB1:Hid (Below w.heap.size w w2):=by show Below _ _ _;rw[oF];exact⟨HB1.out.os,HB1.out.tape,HB1.out.output,HB1.out.size,HB1.out.block⟩
 replace UA:Hid (w2.heap.size=w.heap.size+1):=by show _=_;rw[oF];exact UA.out
 replace Ug:Hid (∀j,j<s->w2.cell? ⟨gb,go+j,none⟩=some (.int .u8 ((bs[j]?.getD 0:Nat):Int))):=fun j hj=>G_ _ _ (Ug.out j hj);replace HK1:Hid (∀j,j<s->w2.cell? ⟨kb,0+j,none⟩=some (.int .u8 ((bs[j]?.getD 0:Nat):Int))):=fun j hj=>G_ _ _ (HK1.out j hj);clear oF ew2 G_;clear k0 k1 k2 k3 h0 h1 h2 h3 h4;go_wp2;go_quiet (fail)
 obtain⟨w3,oC⟩:∃w3,w3=w2.drewN nq:=⟨_,rfl⟩;have ew3:w3.heap=w2.heap:=by rw[oC];rfl
 have G9:∀(a:Addr) (v:Value),w2.cell? a=some v->w3.cell? a=some v:=fun a v h=>by rw[oC];exact h
 rw[<-oC];replace k4:=G9 _ _ k4;replace k5:=G9 _ _ k5;replace k6:=G9 _ _ k6;replace h5:=G9 _ _ h5;replace h6:=G9 _ _ h6;replace hfz:w3.frozen? ⟨pb,n,none⟩=false:=by rw[oC];exact hfz
 replace HR1:Hid (aB w3 pb 28 row):=by show aB _ _ _ _;rw[oC];exact HR1.out
 replace HB1:Hid (Below w.heap.size w w3):=by show Below _ _ _;rw[oC];exact⟨HB1.out.os,HB1.out.tape,HB1.out.output,HB1.out.size,HB1.out.block⟩
 replace UA:Hid (w3.heap.size=w.heap.size+1):=by show _=_;rw[oC];exact UA.out
 replace Ug:Hid (∀j,j<s->w3.cell? ⟨gb,go+j,none⟩=some (.int .u8 ((bs[j]?.getD 0:Nat):Int))):=fun j hj=>G9 _ _ (Ug.out j hj);replace HK1:Hid (∀j,j<s->w3.cell? ⟨kb,0+j,none⟩=some (.int .u8 ((bs[j]?.getD 0:Nat):Int))):=fun j hj=>G9 _ _ (HK1.out j hj);clear oC ew3 G9;have hE:=hide (JK gb go s eH kb 0 kc bs hl w3 Ug.out HK1.out);go_wp2_with first|(go_at_call 128;refine hE.out.mono ?_;rintro _ wq ⟨rfl,hq⟩;have hq2:=hq.symm;clear hq;subst hq2)|(go_at_call 81;refine(jD _ _).mono ?_;rintro _ wq ⟨rfl,hq⟩;have hq2:=hq.symm;clear hq;subst hq2)
 go_ret;exact⟨rfl,HB1.out⟩
end Go.Proofs.YtmfpiodlecapiaaGreatDoor
