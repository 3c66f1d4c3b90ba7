import Derived.Test.YtmfpiodlecapiaaGreatDoorJ02
import Derived.BigQuiet
import Derived.Deep.QuietTactic
import Derived.Deep.RegionWith
import Derived.Deep.DrawnRows
set_option maxRecDepth 20000
namespace Go.Proofs.YtmfpiodlecapiaaGreatDoor
open Go.RowKit Go.Deep
attribute [local go_sem↓] Go.wp_at_zero Go.wp_at_succ
def Bytes(w:World)(v:Value)(bs:List Nat):Prop:=
 ∃b off cap,v= .slice (some ⟨b,off,none⟩) bs.length cap/\bs.length<=cap/\(∀x∈bs,x<256)/\∀j,j<bs.length->w.cell? ⟨b,off+j,none⟩=some (.int .u8 ((bs[j]?.getD 0:Nat):Int))
theorem Ab(g b off cap t n:Nat)(S bs:List Nat)(hl1:Hid (S.length=n))(hl2:Hid (bs.length=n))(hlen:n<=65536)(hbs:∀x∈bs,x<256)(hS:∀x∈S,x<256)(ht:t<256)(w:World)
  (hbg:b≠g)(hg:aB w g 5 (bN S))(hc:∀j,j<n->w.cell? ⟨b,off+j,none⟩=some (.int .u8 ((bs[j]?.getD 0:Nat):Int))):
  Calls Tryz.prog 170 #[.slice (some ⟨g,0,none⟩) n n,.slice (some ⟨b,off,none⟩) n cap,.int .i64 t] w fun e w'=>
   e= .returned (.tuple #[])/\w.grownBy w' (some g)/\aB w' g 5 (bN (Pk.dN S bs t)):=by
 go_enter Tryz.func170,Tryz.ntmps170;go_wp2;have Za:Hid ((Pk.dN S bs t).length=S.length):=Pk.m_ S bs t (by rw[hl1.out,hl2.out]);go_loopw [10] (fun x wr=>∃k:Nat,k<=n/\x= .int .i64 k/\w.grownBy wr (some g)/\aB wr g 5 (mix (bN (Pk.dN S bs t)) (bN S) k))
  (fun x _=>leftOf n (intOf x).toNat)
 case atStart=>exact⟨0,by omega,rfl,World.grownBy.refl _ _,by rw[Q5];exact hg⟩
 case round=>
  obtain⟨k,hk,rfl,hgr,hr⟩:=hrel;by_cases hkl:k<n
  ·have hkS:k<S.length:=by rw[hl1.out];exact hkl
   have hkb:k<bs.length:=by rw[hl2.out];exact hkl
   have hcb:wr.cell? ⟨b,off+k,none⟩=some (.int .u8 ((bs[k]?.getD 0:Nat):Int)):=hgr.cell (hc k hkl) (by simpa using hbg);have hcg:wr.cell? ⟨g,k,none⟩=some (.int .u8 ((S[k]?.getD 0:Nat):Int)):=by
    apply hr.cell;rw[qN _ _ _ (by simp[aU,Za.out]) (by simp[aU,hkS])];exact fV hkS
   have hf:=hr.frozen k;have hx:=getD_lt hbs hkb;have hy:=getD_lt hS hkS;have hV:Hid ((bN (Pk.dN S bs t))[k]? =some (.int .u8 (((S[k]?.getD 0 ^^^ Gf.mul (bs[k]?.getD 0) t:Nat)):Int))):=by
    show _=_;have:=Pk.addTimes_at S bs t k (by rw[hl1.out,hl2.out]) hkS;simp[bN,this]
   have hR:=hide hr;have hG:=hide hgr
   clear hr hgr;have hC:=hide hc;clear hc hkS hkb;revert hcb hcg hx hy hV;generalize bs[k]?.getD 0=x;generalize S[k]?.getD 0=y;intro hcb hcg hx hy hV;have hm:=Gf.mul_lt hx ht;have M:=hide (fun w=>og x t hx ht w);revert hm M hV;generalize Gf.mul x t=m;intro hV hm M;have hxm:=Gf.xor_lt hy hm;have hk0:(0:Int)<=(k:Int):=by omega
   have hk1:(k:Int)<(n:Int):=by omega
   have hwx:IntKind.i64.wrap (x:Int)=(x:Int):=aF _ (by omega) (by omega);have hwy:IntKind.i64.wrap (y:Int)=(y:Int):=aF _ (by omega) (by omega);have hw8:IntKind.u8.wrap ((y ^^^ m:Nat):Int)=((y ^^^ m:Nat):Int):=bZ _ (by omega) (by omega);go_wp2_with fail
   go_region_with (first|(go_at_call 112;refine(M.out _).mono ?_;rintro _ _ ⟨rfl,rfl⟩)|(go_at_call 168;refine(sM _ _ (by omega) (by omega) _).mono ?_;rintro _ _ ⟨rfl,rfl⟩))
   all_goals
    go_wp2;go_roundw
    case rel=>
     refine⟨k+1,by omega,by go_num,grownBy_drew (grownBy_setCell hG.out _ _),?_⟩;have:=hR.out.set k (.int .u8 ((y ^^^ m:Nat):Int));rw[C8 _ _ _ _ (by simp[aU,Za.out]) hV.out]at this;exact this.drew
    case measure=>refine aO ?_ ?_<;>simp only[intOf]<;>omega
  ·have e:k=n:=by omega
   subst e;have hr':aB wr g 5 (bN (Pk.dN S bs t)):=by
    have h2:=Vn (bN (Pk.dN S bs t)) (bN S) (by simp[aU,Za.out]);rw[aU,hl1.out]at h2;rw[h2]at hr;exact hr
   have hR:=hide hr';have hG:=hide hgr
   clear hr hr' hgr;go_wp2;go_end0;exact⟨rfl,hG.out,hR.out⟩
theorem nH(j i:Nat)(hj:j<32)(hi:i<32)(w:World):
  Calls Tryz.prog 171 #[.int .i64 j,.int .i64 i] w fun e w'=>e= .returned (.int .i64 (Pk.weight j i:Nat))/\w'=w:=by
 have hx:=Gf.xor_lt (a:=255-j) (b:=i) (by omega) (by omega);have hA:=hide (fun w=>sM (255-j) i (by omega) (by omega) w);have hI:=hide (fun w=>mD ((255-j) ^^^ i) hx w);have hA':Hid (∀w,Calls Tryz.prog 168 #[.int .i64 (255-(j:Int)),.int .i64 i] w fun e w'=>e= .returned (.int .i64 (((255-j) ^^^ i:Nat):Int))/\w'=w):=by
  have e:((255-j:Nat):Int)=255-(j:Int):=by omega
  intro w;have:=hA.out w;rw[e]at this;exact this
 clear hA;unfold Pk.weight;revert hI hA' hx;generalize (255-j) ^^^ i=x;intro hx hI hA';revert hI;generalize Gf.inv x=y;intro hI;go_enter Tryz.func171,Tryz.ntmps171;go_wp2_with first|(go_at_call 168;refine(hA'.out _).mono ?_;rintro _ _ ⟨rfl,rfl⟩)|(go_at_call 113;refine(hI.out _).mono ?_;rintro _ _ ⟨rfl,rfl⟩)
 go_ret;exact⟨rfl,rfl⟩
theorem Tryz.infoBytes:(Tryz.prog.info? 28).map (fun i=>(i.zero,i.size,i.bytes))=some (some (.slice none 0 0),1,24):=by kernel_rfl
theorem Tryz.infoByte:(Tryz.prog.info? 5).map (fun i=>(i.zero,i.size,i.bytes))=some (some (.int .u8 0),1,1):=by kernel_rfl
def CJ(b off s c:Nat)(i:Nat):Value:=.slice (some ⟨b,off+i*s,none⟩) s (c-i*s)
def pY(b off s c K:Nat):List Value:=(List.range K).map (CJ b off s c)
theorem CP{b off s c K k:Nat}(h:k<K):(pY b off s c K)[k]? =some (CJ b off s c k):=by simp[pY,h]
theorem dR(b off s c K:Nat):(pY b off s c K).length=K:=by simp[pY]
theorem IG(b off s c K n:Nat)(hn:Hid (n=K*s))(hs:1<=s)(hn2:n<=65536)(hK:K<=65536)(hc:n<=c)(hc2:c<=9223372036854775807)(w:World):
  Calls Tryz.prog 115 #[.slice (some ⟨b,off,none⟩) n c,.int .i64 s] w fun e w'=>
   ∃v,e= .returned v/\bM w' 28 v (pY b off s c K)/\(∀k,v.ownBlock=some k->w.heap.size<=k)/\Below w.heap.size w w':=by
 obtain⟨i0,hi,hz0,hz1,hz2⟩:=info_parts Tryz.infoBytes;go_enter Tryz.func115,Tryz.ntmps115;go_wp2;go_loopw [5,6] (fun v x wr=>∃k a:Nat,k<=K/\Hid (a=k*s)/\a<=n/\x= .int .i64 a/\bM wr 28 v ((pY b off s c K).take k)/\(∀k,v.ownBlock=some k->w.heap.size<=k)/\Below w.heap.size w wr)
  (fun _ x _=>leftOf n (intOf x).toNat)
 case atStart=>exact⟨0,0,by omega,(show Hid _ from by show 0=0*s;omega),by omega,rfl,by simpa using iW _ _,by intro k hk;simp[Value.ownBlock]at hk,Below.refl _ _⟩
 case round=>
  obtain⟨k,a,hk,ha,han,rfl,hown,hbk,hb⟩:=hrel;by_cases hlt:a<n
  ·have hkK:k<K:=by
    have h1:=ha.out;have h2:=hn.out
    rcases Nat.lt_or_ge k K with h|h
    ·exact h
    ·have:=Nat.mul_le_mul_right s h;omega
   have has:a+s<=n:=by
    have h1:=ha.out;have h2:=hn.out
    have:=Nat.mul_le_mul_right s hkK;rw[Nat.succ_mul]at this;omega
   have hO:=hide hown;have zq:=hide hbk;have hB:=hide hb
   have hlen:Hid ((pY b off s c K).length=K):=dR _ _ _ _ _;have hV:Hid ((pY b off s c K)[k]? =some (.slice (some ⟨b,off+a,none⟩) s (c-a))):=by
    show _=_;rw[CP hkK];unfold CJ;rw[ha.out]
   clear hown hbk hb;have h0a:(0:Int)<=(a:Int):=by omega
   have h0b:(a:Int)+(s:Int)<=(c:Int):=by omega
   go_wp2_with (at_builtin;refine dn _ rfl _ _ 25 rfl 28 i0 (.slice none 0 0) 24 Tryz.underlying25 hi hz0 hz1 hz2 rfl _ _ rfl (hO.out.alloc _) ⟨wr.heap.size,0,none⟩ 1 1 [.slice (some ⟨b,off+a,none⟩) s (c-a)] rfl rfl (cell_one_new _ _ _) (by intro u hu;simp at hu;subst hu;rfl) (by simp[maxLen];omega) (by simp;omega) ?_)
   intro v' w1 happ;have hA:=hide happ;clear happ;go_wp2;go_roundw
   case rel=>
    have hsz:=hB.out.size;have hwr:w.heap.size<=(wr.alloc (.cells #[.slice (some ⟨b,off+a,none⟩) s (c-a)] 28)).heap.size:=by simp;omega
    refine⟨k+1,a+s,by omega,?_,by omega,by go_num,?_,hA.out.from hwr zq.out,hA.out.below (hB.out.alloc hsz _) hwr zq.out⟩
    ·show a+s=(k+1)*s;rw[Nat.succ_mul,<-ha.out]
    ·have:=hA.out.own;rwa [tL hV.out]at this
   case measure=>refine aO ?_ ?_<;>simp only[intOf]<;>omega
  ·have e:k=K:=by
    have h1:=ha.out;have h2:=hn.out
    have:a=n:=by omega
    rcases Nat.lt_or_ge k K with h|h
    ·have h3:=Nat.mul_le_mul_right s h;rw[Nat.succ_mul]at h3;omega
    ·omega
   subst e;have hO:Hid (bM wr 28 u5 (pY b off s c k)):=by
    show bM _ _ _ _;rw[<-List.take_length (l:=pY b off s c k),dR];exact hown
   have zq:=hide hbk;have hB:=hide hb
   clear hown hbk hb;go_wp2;go_ret;exact⟨_,rfl,hO.out,zq.out,hB.out⟩
theorem IJ(b off s c K j gO dA:Nat)(cur:List Value)(blk:List Nat)(hl:Hid (blk.length=K*s))(hb:∀x∈blk,x<256)(hK:K<=32)(hj:j<32)(hs:1<=s)(hs2:s<=65536)(w:World)
  (hO:aB w gO 28 cur)(htk:Hid (cur.take K=pY b off s c K))(hbl:b<w.heap.size)
  (hc:∀q,q<K*s->w.cell? ⟨b,off+q,none⟩=some (.int .u8 ((blk[q]?.getD 0:Nat):Int))):
  Calls Tryz.prog 116 #[.slice (some ⟨gO,0,none⟩) K dA,.int .i64 j,.int .i64 s] w fun e w'=>
   e= .returned (.slice (some ⟨w.heap.size,0,none⟩) s s)/\Below w.heap.size w w'/\aB w' w.heap.size 5 (bN (Pk.sumTo blk s j K)):=by
 obtain⟨i0,hi,hz0,hz1,hz2⟩:=info_parts Tryz.infoByte;have VO:=hO.lt;have HO:=hide hO;have HC:=hide hc
 clear hO hc;go_enter Tryz.func116,Tryz.ntmps116;go_wp2_with (at_make;refine wpList_make_row _ rfl _ _ 28 rfl 5 i0 (.int .u8 0) Tryz.underlying28 hi hz0 hz1 rfl .i64 .i64 s rfl rfl (by rw[hz2];omega) (by omega) ?_)
 have hb0:Below w.heap.size w (w.alloc (.cells (madeCells #[.int .u8 0] s) 5)):=(Below.refl _ _).alloc (Nat.le_refl _) _;have hr0:aB (w.alloc (.cells (madeCells #[.int .u8 0] s) 5)) w.heap.size 5 (bN (Pk.sumTo blk s j 0)):=by
  have:=gF w (.int .u8 0) s 5;simpa[bN,Pk.sumTo]using this
 have hB0:=hide hb0;have hR0:=hide hr0
 clear hb0 hr0;go_loopw [14] (fun x wr=>∃k:Nat,k<=K/\x= .int .i64 k/\Below w.heap.size w wr/\aB wr w.heap.size 5 (bN (Pk.sumTo blk s j k)))
  (fun x _=>leftOf K (intOf x).toNat)
 case atStart=>exact⟨0,by omega,rfl,hB0.out,hR0.out⟩
 case round=>
  obtain⟨k,hk,rfl,hbw,hr⟩:=hrel;by_cases hlt:k<K
  ·have Y8:wr.cell? ⟨gO,k,none⟩=some (.slice (some ⟨b,off+k*s,none⟩) s (c-k*s)):=by
    apply (HO.out.below hbw VO).cell;have:(cur.take K)[k]? =some (CJ b off s c k):=by rw[htk.out];exact CP hlt
    rw[List.getElem?_take,if_pos hlt]at this;exact this
   have Si:=hide (fun w=>nH j k hj (by omega) w);have hA:Hid (Calls Tryz.prog 170 #[.slice (some ⟨w.heap.size,0,none⟩) s s,.slice (some ⟨b,off+k*s,none⟩) s (c-k*s),.int .i64 (Pk.weight j k:Nat)] wr fun e w'=>
     e= .returned (.tuple #[])/\wr.grownBy w' (some w.heap.size)/\aB w' w.heap.size 5 (bN (Pk.sumTo blk s j (k+1)))):=by
    refine Ab w.heap.size b (off+k*s) (c-k*s) (Pk.weight j k) s (Pk.sumTo blk s j k) (Pk.piece blk s k) (Pk.sumTo_length hl.out k hk) (Pk.piece_length hl.out hlt) hs2 (Pk.lD hb s k) (Pk.Eu hb hj k (by omega)) (Pk.iB hj (by omega)) wr (by omega) hr ?_;intro q hq;have h3:=Nat.mul_le_mul_right s hlt;rw[Nat.succ_mul]at h3;have:=HC.out (k*s+q) (by omega);rw[Pk.piece_at hq,Nat.add_assoc,hbw.cell (by exact hbl)];exact this
   have hB:=hide hbw;clear hbw hr;revert Si hA;generalize Pk.weight j k=wt;intro Si hA;revert Y8 hA;generalize off+k*s=o1;generalize c-k*s=c1;intro Y8 hA;go_wp2_with first|(go_at_call 171;refine(Si.out _).mono ?_;rintro _ _ ⟨rfl,rfl⟩)|(go_at_call 170;refine hA.out.mono ?_;rintro _ w1 ⟨rfl,hg1,hr1⟩;replace hg1:=hide hg1;replace hr1:=hide hr1)
   go_roundw
   case rel=>exact⟨k+1,by omega,by go_num,hB.out.grown hg1.out hB.out.size (by intro q hq;simp at hq;omega),hr1.out⟩
   case measure=>refine aO ?_ ?_<;>simp only[intOf]<;>omega
  ·have e:k=K:=by omega
   subst e;have hB:=hide hbw;have hR:=hide hr
   clear hbw hr;go_wp2;go_ret;exact⟨rfl,hB.out,hR.out⟩
def eG(w:World)(sv:Value)(s:Nat)(bs:List Nat):Prop:=
 ∃b off cap L,sv= .slice (some ⟨b,off,none⟩) s cap/\s<=cap/\cap<=9223372036854775807/\aB w b 5 L/\∀j,j<s->L[off+j]? =some (.int .u8 ((bs[j]?.getD 0:Nat):Int))
theorem eG.later{w w':World}{sv:Value}{s:Nat}{bs:List Nat}(h:eG w sv s bs)(hb:Below w.heap.size w w'):eG w' sv s bs:=by
 obtain⟨b,off,cap,L,rfl,h1,h2,h3,h4⟩:=h;exact⟨b,off,cap,L,rfl,h1,h2,h3.later hb,h4⟩
theorem eG.app{w w':World}{e:TypeId}{v v' sv:Value}{xs news:List Value}{s:Nat}{bs:List Nat}(h:eG w sv s bs)(ha:fC w w' e v v' xs news)(ho:bM w e v xs)(he:(5:Nat)≠e):eG w' sv s bs:=by
 obtain⟨b,off,cap,L,rfl,h1,h2,h3,h4⟩:=h;exact⟨b,off,cap,L,rfl,h1,h2,ha.other h3 (ho.kG h3 he),h4⟩
theorem eG.alloc{w:World}{sv:Value}{s:Nat}{bs:List Nat}(h:eG w sv s bs)(o:Obj):eG (w.alloc o) sv s bs:=
 h.later ((Below.refl _ _).alloc (Nat.le_refl _) _)
theorem QK(b off s c K:Nat):∀u∈pY b off s c K,u.oneCell'=true:=by
 intro u hu;obtain⟨i,_,rfl⟩:=List.mem_map.1 hu;rfl
theorem II(b off s c K n:Nat)(hn:Hid (n=K*s))(hs:1<=s)(hn2:n<=65536)(hK1:1<=K)(hK:K<=65536)(hc:n<=c)(hc2:c<=9223372036854775807)(w:World):
  Calls Tryz.prog 115 #[.slice (some ⟨b,off,none⟩) n c,.int .i64 s] w fun e w'=>
   ∃gO dA cur,e= .returned (.slice (some ⟨gO,0,none⟩) K dA)/\aB w' gO 28 cur/\cur.take K=pY b off s c K/\w.heap.size<=gO/\Below w.heap.size w w':=by
 refine(IG b off s c K n hn hs hn2 hK hc hc2 w).mono ?_;rintro e w' ⟨v,rfl,ho,hf,hb⟩;obtain⟨g,cap,cur,rfl,hr,h1,h2,h3,h4⟩:=ho.open' (by rw[dR];omega);rw[dR]at h4;exact⟨g,cap,cur,by rw[dR],hr,h4,hf g rfl,hb⟩
theorem E9(b off s c K n m p T:Nat)(D blk:List Nat)(hl:Hid (blk.length=K*s))(hn:Hid (n=K*s))(hx:∀x∈blk,x<256)(hs:1<=s)(hs2:s<=16)(hK1:1<=K)(hK:K<=20)(hp:p<=20)(hn2:n<=65536)(hnc:n<=c)(hc2:c<=9223372036854775807)
  (hT:(K:Int)+(p:Int)=(T:Int))(w:World)(hb:aB w b 5 (bN D))(hD:Hid (∀q,q<n->D[off+q]? =blk[q]?)):
  Calls Tryz.prog 66 #[.slice (some ⟨b,off,none⟩) n c,.agg #[.int .i64 s,.int .i64 m,.int .i64 p]] w fun e w'=>
   ∃g cap cur,e= .returned (.slice (some ⟨g,0,none⟩) T cap)/\aB w' g 28 cur/\w.heap.size<=g/\Below w.heap.size w w'/\
    ∀q,q<T->∃sv,cur[q]? =some sv/\eG w' sv s (Pk.pieceN blk s K q):=by
 obtain⟨i0,hi,hz0,hz1,hz2⟩:=info_parts Tryz.infoBytes;have hb0:=hide ((Below.refl w.heap.size w).alloc (Nat.le_refl _) (.cells #[.int .i64 s,.int .i64 m,.int .i64 p] 35));have HB:=hide hb;have hblt:=hb.lt;clear hb;have hKs:Hid (∀i,i<K->i*s+s<=n):=by
  intro i hi;have:=Nat.mul_le_mul_right s hi;rw[Nat.succ_mul]at this;have:=hn.out;omega
 go_enter Tryz.func66,Tryz.ntmps66;go_wp2_with first|(at_make;refine pq _ rfl _ _ 25 rfl 28 i0 (.slice none 0 0) Tryz.underlying25 hi hz0 hz1 rfl .i64 .i64 0 T rfl rfl (by omega) (by rw[hz2];omega) (by omega) ?_)|(at_builtin;refine dn _ rfl _ _ 25 rfl 28 i0 (.slice none 0 0) 24 Tryz.underlying25 hi hz0 hz1 hz2 rfl _ [] rfl (NQ w1 28 (.slice none 0 0) T (by unfold maxLen;omega)) ⟨gO,0,none⟩ K dA (pY b off s c K) rfl (dR b off s c K) (QJ (hO.out.alloc _) htk.out (dR b off s c K)) (QK b off s c K) (by simp[maxLen];omega) (by simp;omega) ?_)|(go_at_call 115;refine(II b off s c K n hn hs hn2 hK1 (by omega) hnc hc2 _).mono ?_;rintro _ w1 ⟨gO,dA,cur,rfl,hO,htk,VO,hb1⟩;have c0:=cell_later hb1 (sI w _ _ _ _);have c2:=cell_later hb1 (LZ w _ _ _ _);replace hb1:=hide hb1;replace hO:=hide hO;replace htk:=hide htk)
 intro v6 w2 happ;have hw1:w.heap.size<w1.heap.size:=by have:=hb1.out.size;simp at this;omega
 have hb2:Below w1.heap.size w1 w2:=happ.below ((Below.refl _ _).alloc (Nat.le_refl _) _) (by simp) (by intro k hk;simp[Value.ownBlock]at hk;omega);have hf2:∀k,v6.ownBlock=some k->w1.heap.size<=k:=happ.from (by simp) (by intro k hk;simp[Value.ownBlock]at hk;omega);have hB1:aB w1 b 5 (bN D):=(HB.out.later hb0.out).later hb1.out;have hp2:∀q,q<K+0->∃sv,(pY b off s c K)[q]? =some sv/\eG w2 sv s (Pk.pieceN blk s K q):=by
  intro q hq;refine⟨_,CP (by omega),b,off+q*s,c-q*s,bN D,rfl,?_,by omega,hB1.later hb2,?_⟩
  ·have:=hKs.out q (by omega);omega
  ·intro j hj;have h1:=hKs.out q (by omega);have h2:=hD.out (q*s+j) (by omega);have h3:q*s+j<blk.length:=by have:=hl.out;have:=hn.out;omega
   unfold Pk.pieceN;rw[if_pos (by omega),Pk.piece_at hj];rw[Nat.add_assoc];have h4:D[off+(q*s+j)]? =some (blk[q*s+j]?.getD 0):=by rw[h2];exact getD_some h3
   simp[bN,h4]
 have hO2:=happ.own;rw[List.nil_append]at hO2;have HO2:=hide hO2;have HB2:=hide hb2;have HF2:=hide hf2;have HP2:=hide hp2
 have hlV:Hid ((pY b off s c K).length=K+0):=dR _ _ _ _ _;have hC0:Hid (w1.cell? ⟨w.heap.size,0,none⟩=some (.int .i64 s)):=c0;have hC2:Hid (w1.cell? ⟨w.heap.size,2,none⟩=some (.int .i64 p)):=c2;have d2:w2.cell? ⟨w.heap.size,2,none⟩=some (.int .i64 p):=(hb2.cell (by exact hw1)).trans c2;clear happ hO2 hb2 hf2 hp2 c0 c2;go_wp2;go_loopw [6,23] (fun v x wr=>∃(j:Nat) (vs:List Value),j<=p/\x= .int .i64 j/\bM wr 28 v vs/\Hid (vs.length=K+j)/\(∀k,v.ownBlock=some k->w1.heap.size<=k)/\Below w1.heap.size w1 wr/\
   ∀q,q<K+j->∃sv,vs[q]? =some sv/\eG wr sv s (Pk.pieceN blk s K q))
  (fun _ x _=>leftOf p (intOf x).toNat)
 case atStart=>exact⟨0,_,by omega,rfl,HO2.out,hlV,HF2.out,HB2.out,HP2.out⟩
 case round=>
  obtain⟨j,vs,hj,rfl,hown,hlen,hbk,hbw,hps⟩:=hrel;clear d2;by_cases hlt:j<p
  ·have d0:wr.cell? ⟨w.heap.size,0,none⟩=some (.int .i64 s):=(hbw.cell (by exact hw1)).trans hC0.out;have hwr:=hbw.size;have hSp:Hid (Calls Tryz.prog 116 #[.slice (some ⟨gO,0,none⟩) K dA,.int .i64 j,.int .i64 s] wr fun e w'=>
     e= .returned (.slice (some ⟨wr.heap.size,0,none⟩) s s)/\Below wr.heap.size wr w'/\aB w' wr.heap.size 5 (bN (Pk.sumTo blk s j K))):=by
    refine IJ b off s c K j gO dA cur blk hl hx (by omega) (by omega) hs (by omega) wr (hO.out.below hbw hO.out.lt) htk ?_ ?_
    ·have:=hb0.out.size;have:=hb1.out.size;simp at this;omega
    ·intro q hq;have hq':q<n:=by have:=hn.out;omega
     apply (hB1.below hbw hB1.lt).cell;have h2:=hD.out q hq';have h4:D[off+q]? =some (blk[q]?.getD 0):=by rw[h2];exact getD_some (by have:=hl.out;omega)
     simp[bN,h4]
   have Zk:=hide hown;have HBk:=hide hbk;have Zm:=hide hbw;have HPs:=hide hps
   clear hown hbk hbw hps;go_wp2_with first|(go_at_call 116;refine hSp.out.mono ?_;rintro _ w3 ⟨rfl,hb3,hr3⟩;replace hb3:=hide hb3;replace hr3:=hide hr3)|(at_builtin;refine dn _ rfl _ _ 25 rfl 28 i0 (.slice none 0 0) 24 Tryz.underlying25 hi hz0 hz1 hz2 rfl _ vs rfl ((Zk.out.later hb3.out).alloc _) ⟨w3.heap.size,0,none⟩ 1 1 [.slice (some ⟨wr.heap.size,0,none⟩) s s] rfl rfl (cell_one_new _ _ _) (by intro u hu;simp at hu;subst hu;rfl) (by rw[hlen.out];unfold maxLen;omega) (by rw[hlen.out];omega) ?_)
   intro v' w4 happ;have HA:=hide happ;clear happ;go_wp2;go_roundw
   case rel=>
    have hs3:=hb3.out.size;have hbase:w1.heap.size<=(w3.alloc (.cells #[.slice (some ⟨wr.heap.size,0,none⟩) s s] 28)).heap.size:=by simp;omega
    have hbw3:Below w1.heap.size w1 w3:=Zm.out.trans (hb3.out.mono hwr);have hown3:=(Zk.out.later hb3.out).alloc (.cells #[.slice (some ⟨wr.heap.size,0,none⟩) s s] 28);refine⟨j+1,_,by omega,by go_num,HA.out.own,?_,HA.out.from hbase HBk.out,HA.out.below (hbw3.alloc (by omega) _) hbase HBk.out,?_⟩
    ·show(vs++_).length=K+(j+1);rw[List.length_append,hlen.out];rfl
    ·intro q hq;by_cases hq2:q<K+j
     ·obtain⟨sv,h1,h2⟩:=HPs.out q hq2;refine⟨sv,?_,((h2.later hb3.out).alloc _).app HA.out hown3 (by decide)⟩;rw[List.getElem?_append_left (by rw[hlen.out];exact hq2)];exact h1
     ·have hq3:q=K+j:=by omega
      subst hq3;refine⟨.slice (some ⟨wr.heap.size,0,none⟩) s s,?_,?_⟩
      ·rw[List.getElem?_append_right (by rw[hlen.out];omega),hlen.out,Nat.sub_self];rfl
      ·have hpa:eG w3 (.slice (some ⟨wr.heap.size,0,none⟩) s s) s (Pk.pieceN blk s K (K+j)):=by
        refine⟨wr.heap.size,0,s,_,rfl,Nat.le_refl _,by omega,hr3.out,?_⟩;intro q hq;unfold Pk.pieceN;rw[if_neg (by omega),Nat.add_sub_cancel_left,Nat.zero_add];exact fV (by rw[Pk.sumTo_length hl.out K (Nat.le_refl _)];exact hq)
       exact(hpa.alloc _).app HA.out hown3 (by decide)
   case measure=>refine aO ?_ ?_<;>simp only[intOf]<;>omega
  ·have e:j=p:=by omega
   subst e;obtain⟨g,cap,cur2,rfl,hr,h1,h2,h3,h4⟩:=hown.open' (by rw[hlen.out];omega);have eT:Hid (vs.length=T):=by show vs.length=T;rw[hlen.out];omega
   have Da:∀q,q<T->∃sv,cur2[q]? =some sv/\eG wr sv s (Pk.pieceN blk s K q):=by
    intro q hq;obtain⟨sv,k1,k2⟩:=hps q (by omega);exact⟨sv,take_at h4 k1,k2⟩
   have HR:=hide hr;have Zm:=hide hbw;have HPs:=hide Da
   have hg:=hbk g rfl;rw[eT.out];clear hown hr hbk hbw hps Da h1 h2 h3 h4;go_wp2;go_ret;refine⟨g,cap,cur2,rfl,HR.out,by omega,?_,HPs.out⟩;exact(hb0.out.trans (hb1.out.mono (by simp))).trans (Zm.out.mono (by omega))
theorem DL(x:Nat):IntKind.u8.wrap (x:Int)=((x%256:Nat):Int):=by
 simp[IntKind.wrap,IntKind.bits,IntKind.signed]
theorem mZ(g n c x:Nat)(L:List Value)(hx:x<65536)(hL:Hid (L.length=c))(hd:Hid ((L.drop n).take 2= [.int .u8 ((x/256:Nat):Int),.int .u8 ((x%256:Nat):Int)]))(hroom:n+2<=c)(w:World)(hr:aB w g 5 (fill L (.int .u8 0) n)):
  Calls Tryz.prog 117 #[.slice (some ⟨g,0,none⟩) n c,.int .i64 x] w fun e w'=>
   e= .returned (.slice (some ⟨g,0,none⟩) (n+2) c)/\w.grownBy w' (some g)/\aB w' g 5 (fill L (.int .u8 0) (n+2)):=by
 obtain⟨i0,hi,hz0,hz1,hz2⟩:=info_parts Tryz.infoByte;have hw1:IntKind.u8.wrap ((x:Int)/256)=((x/256:Nat):Int):=by
  have e:(x:Int)/256=((x/256:Nat):Int):=by omega
  rw[e,bZ _ (by omega) (by omega)]
 have hw2:IntKind.u8.wrap (x:Int)=((x%256:Nat):Int):=DL x;have HR:=hide hr;have hglt:=hr.lt;clear hr;go_enter Tryz.func117,Tryz.ntmps117;go_wp2_with (at_builtin;refine eP _ rfl _ _ 28 rfl 5 i0 Tryz.underlying28 hi hz1 g n c L (.int .u8 0) rfl hL.out (HR.out.alloc _) ⟨w.heap.size,0,none⟩ 2 2 [.int .u8 ((x/256:Nat):Int),.int .u8 ((x%256:Nat):Int)] rfl rfl (cell_two_new _ _ _ _) (by intro u hu;simp at hu;rcases hu with rfl|rfl<;>rfl) hd.out hroom ?_)
 intro w1 h1 h2;have H1:=hide h1;have H2:=hide h2
 clear h1 h2;go_wp2;go_ret;exact⟨rfl,grownBy_trans (World.grownBy_alloc _ _ _) H2.out,H1.out⟩
structure YX(w:World)(BX L:List Value)(n:Nat)(wk:World):Prop where
 row:aB wk (w.heap.size+1) 5 (fill L (.int .u8 0) n)
 box:aB wk w.heap.size 76 BX
 below:Below w.heap.size w wk
theorem YX.alloc{w wk:World}{BX L:List Value}{n:Nat}(h:YX w BX L n wk)(o:Obj):YX w BX L n (wk.alloc o):=
 ⟨h.row.alloc o,h.box.alloc o,h.below.alloc h.below.size o⟩
theorem YX.step{w wk w':World}{BX L:List Value}{n k:Nat}(h:YX w BX L n wk)(hg:wk.grownBy w' (some (w.heap.size+1)))(hr:aB w' (w.heap.size+1) 5 (fill L (.int .u8 0) k)):YX w BX L k w':=
 ⟨hr,h.box.of_block (hg.block _ h.box.lt (by simp)),h.below.grown hg h.below.size (by intro q hq;simp at hq;omega)⟩
set_option maxHeartbeats 1000000 in
theorem NP(b off cap id len s m p z q c:Nat)(bs:List Nat)(hid:id<65536)(hlen:len<65536)(hs1:1<=s)(hs:s<=16)(hm:m<256)(hp:p<256)(hz:z<256)(hq:q<256)(hc:(10:Int)+(s:Int)=(c:Int))
  (hl:Hid (bs.length=s))(w:World)(hcl:∀j,j<s->w.cell? ⟨b,off+j,none⟩=some (.int .u8 ((bs[j]?.getD 0:Nat):Int))):
  Calls Tryz.prog 67 #[.agg #[.int .i64 id,.int .i64 len,.int .i64 s,.int .i64 m,.int .i64 p,.int .i64 z,.int .i64 q],.slice (some ⟨b,off,none⟩) s cap] w fun e w'=>
   ∃g,e= .returned (.slice (some ⟨g,0,none⟩) c c)/\w.heap.size<=g/\Below w.heap.size w w'/\aB w' g 5 (bN (Pk.packet id len s m p z q bs)):=by
 obtain⟨i0,hi,hz0,hz1,hz2⟩:=info_parts Tryz.infoByte;have hP:Hid ((bN (Pk.packet id len s m p z q bs)).length=c):=by
  show _=_;rw[aU];simp[Pk.packet,Pk.head,hl.out];omega
 have hu:Hid (bN (Pk.packet id len s m p z q bs)= [.int .u8 70,.int .u8 ((id/256:Nat):Int),.int .u8 ((id%256:Nat):Int),.int .u8 ((len/256:Nat):Int),.int .u8 ((len%256:Nat):Int),.int .u8 s,.int .u8 m,.int .u8 p,.int .u8 z,.int .u8 q]++bN bs):=by
  show _=_;simp[bN,Pk.packet,Pk.head]
 revert hP hu;generalize bN (Pk.packet id len s m p z q bs)=L;intro hP hu;have hblt:b<w.heap.size:=block_lt_of_cell (hcl 0 (by omega));have HC:=hide hcl;clear hcl;have hc':Hid (c=10+s):=by show c=10+s;omega
 have hs0:YX w [.int .i64 id,.int .i64 len,.int .i64 s,.int .i64 m,.int .i64 p,.int .i64 z,.int .i64 q] L 0
   ((w.alloc (.cells #[.int .i64 id,.int .i64 len,.int .i64 s,.int .i64 m,.int .i64 p,.int .i64 z,.int .i64 q] 76)).alloc (.cells (madeCells #[.int .u8 0] c) 5)):=by
  refine⟨?_,(aP w _ _).alloc _,((Below.refl w.heap.size w).alloc (Nat.le_refl _) _).alloc (by simp) _⟩;have:=gF (w.alloc (.cells #[.int .i64 id,.int .i64 len,.int .i64 s,.int .i64 m,.int .i64 p,.int .i64 z,.int .i64 q] 76)) (.int .u8 0) c 5;rw[uj,hP.out];simpa using this
 have S0:=hide hs0;clear hs0;have ws:IntKind.u8.wrap (s:Int)=(s:Int):=bZ _ (by omega) (by omega);have wm:IntKind.u8.wrap (m:Int)=(m:Int):=bZ _ (by omega) (by omega);have wp:IntKind.u8.wrap (p:Int)=(p:Int):=bZ _ (by omega) (by omega);have wz:IntKind.u8.wrap (z:Int)=(z:Int):=bZ _ (by omega) (by omega);have wq:IntKind.u8.wrap (q:Int)=(q:Int):=bZ _ (by omega) (by omega);go_enter Tryz.func67,Tryz.ntmps67;go_wp2_with first|(at_make;refine pq _ rfl _ _ 28 rfl 5 i0 (.int .u8 0) Tryz.underlying28 hi hz0 hz1 rfl .i64 .i64 0 c rfl rfl (by omega) (by rw[hz2];omega) (by omega) ?_)|(at_builtin;refine eP _ rfl (.tmp 10) (.tmp 11) 28 rfl 5 i0 Tryz.underlying28 hi hz1 (w.heap.size+1) 0 c L (.int .u8 0) (by simp[Act.eval]) hP.out (S0.out.alloc _).row ⟨_,0,none⟩ 1 1 [.int .u8 70] rfl rfl (lW _ _ _ _ (by simp)) (by intro u hu;simp at hu;subst hu;rfl) (by rw[hu.out];rfl) (by omega) ?_)
 intro w1 hr1 hg1;have VD:=(S0.out.alloc (.cells #[.int .u8 70] 5)).step hg1 hr1;have S1:=hide VD;have e0:=VD.box.cell 0 _ rfl;have P1:=hide (mZ (w.heap.size+1) 1 c id L hid hP (by show _=_;rw[hu.out];rfl) (by omega) w1 VD.row);clear hr1 hg1 VD;go_wp2_with fail
 refine P1.out.mono ?_;rintro _ w2 ⟨rfl,hg2,hr2⟩;have hs2:=S1.out.step hg2 hr2;have S2:=hide hs2;have e1:=hs2.box.cell 1 _ rfl;have P2:=hide (mZ (w.heap.size+1) 3 c len L hlen hP (by show _=_;rw[hu.out];rfl) (by omega) w2 hs2.row);clear hg2 hr2 hs2 e0 P1;go_wp2_with fail
 refine P2.out.mono ?_;rintro _ w3 ⟨rfl,hg3,hr3⟩;have hs3:=S2.out.step hg3 hr3;have S3:=hide hs3;have e2:=hs3.box.cell 2 _ rfl;have e3:=hs3.box.cell 3 _ rfl;have e4:=hs3.box.cell 4 _ rfl;clear hg3 hr3 hs3 e1 P2;go_wp2_with (at_builtin;refine eP _ rfl (.tmp 21) (.tmp 34) 28 rfl 5 i0 Tryz.underlying28 hi hz1 (w.heap.size+1) 5 c L (.int .u8 0) (by simp[Act.eval]) hP.out (S3.out.alloc _).row ⟨_,0,none⟩ 3 3 [.int .u8 s,.int .u8 m,.int .u8 p] rfl rfl (lW _ _ _ _ (by simp)) (by intro u hu;simp at hu;rcases hu with rfl|rfl|rfl<;>rfl) (by rw[hu.out];rfl) (by omega) ?_)
 intro w4 hr4 hg4;have hs4:=(S3.out.alloc (.cells #[.int .u8 s,.int .u8 m,.int .u8 p] 5)).step hg4 hr4;have S4:=hide hs4;have e5:=hs4.box.cell 5 _ rfl;have e6:=hs4.box.cell 6 _ rfl;clear hg4 hr4 hs4 e2 e3 e4;go_wp2_with (at_builtin;refine eP _ rfl (.tmp 36) (.tmp 43) 28 rfl 5 i0 Tryz.underlying28 hi hz1 (w.heap.size+1) 8 c L (.int .u8 0) (by simp[Act.eval]) hP.out (S4.out.alloc _).row ⟨_,0,none⟩ 2 2 [.int .u8 z,.int .u8 q] rfl rfl (lW _ _ _ _ (by simp)) (by intro u hu;simp at hu;rcases hu with rfl|rfl<;>rfl) (by rw[hu.out];rfl) (by omega) ?_)
 intro w5 hr5 hg5;have hs5:=(S4.out.alloc (.cells #[.int .u8 z,.int .u8 q] 5)).step hg5 hr5;have S5:=hide hs5;have hnw:Hid (∀j u,(bN bs)[j]? =some u->w5.cell? ((⟨b,off,none⟩:Addr).add j)=some u):=by
  intro j u hju;have hj:j<s:=by
   have:=(List.getElem?_eq_some_iff.1 hju).1;rw[aU,hl.out]at this;exact this
  rw[fV (by rw[hl.out];exact hj)]at hju;rw[Addr.add_lit,<-hju];exact(hs5.below.cell (by exact hblt)).trans (HC.out j hj)
 clear hg5 hr5 hs5 e5 e6;go_wp2_with (at_builtin;refine eP _ rfl (.tmp 45) (.tmp 46) 28 rfl 5 i0 Tryz.underlying28 hi hz1 (w.heap.size+1) 10 c L (.int .u8 0) (by simp[Act.eval]) hP.out S5.out.row ⟨b,off,none⟩ s cap (bN bs) rfl (by rw[aU,hl.out]) hnw.out (by intro u hu;obtain⟨x,_,rfl⟩:=List.mem_map.1 hu;rfl) (by rw[hu.out];show(bN bs).take s=bN bs;rw[List.take_of_length_le (by rw[aU,hl.out];omega)]) (by omega) ?_)
 intro w6 hr6 hg6;have hs6:=S5.out.step hg6 hr6;have S6:=hide hs6;clear hg6 hr6 hs6;go_wp2;go_ret;refine⟨w.heap.size+1,?_,by omega,S6.out.below,?_⟩
 ·show Ending.returned (.slice (some ⟨w.heap.size+1,0,none⟩) (10+s) c)=_;rw[<-hc'.out]
 ·have h:=S6.out.row;rw[<-hc'.out,<-hP.out,yJ]at h;exact h
end Go.Proofs.YtmfpiodlecapiaaGreatDoor
