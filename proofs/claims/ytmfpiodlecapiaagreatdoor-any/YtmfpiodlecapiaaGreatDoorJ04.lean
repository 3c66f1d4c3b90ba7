import Derived.Test.YtmfpiodlecapiaaGreatDoorJ03
import Derived.Laws.CopyOwn
import Derived.Laws.BytesArg
import Derived.Lib.SlBytesConst
set_option maxHeartbeats 1000000
set_option maxRecDepth 20000
namespace Go.Proofs.YtmfpiodlecapiaaGreatDoor
open Go.RowKit Go.Deep
attribute [local go_sem↓] Go.wp_at_zero Go.wp_at_succ
def kr(w:World)(ao:Option Addr)(n:Nat)(obj:List Nat):Prop:=
 obj.length=n/\(∀x∈obj,x<256)/\(0<n->∃b off,ao=some ⟨b,off,none⟩/\∀j,j<n->w.cell? ⟨b,off+j,none⟩=some (.int .u8 ((obj[j]?.getD 0:Nat):Int)))
theorem kr.later{w w':World}{ao:Option Addr}{n:Nat}{obj:List Nat}(h:kr w ao n obj)(hb:Below w.heap.size w w'):kr w' ao n obj:=by
 refine⟨h.1,h.2.1,fun hn=>?_⟩;obtain⟨b,off,e,hc⟩:=h.2.2 hn;exact⟨b,off,e,fun j hj=>cell_later hb (hc j hj)⟩
theorem Pk.zS{obj:List Nat}{M:Nat}(h:obj.length<=M):(Pk.filled obj M).length=M:=by simp[Pk.filled];omega
theorem Pk.OI{obj:List Nat}{M:Nat}(h:∀x∈obj,x<256):∀x∈Pk.filled obj M,x<256:=by
 intro x hx;simp only[Pk.filled,List.mem_append,List.mem_replicate]at hx;rcases hx with hx|⟨_,rfl⟩
 ·exact h x hx
 ·decide
theorem iK{l:List Nat}{k x:Nat}(h:l[k]? =some x):(l.take (k+1)).sum=(l.take k).sum+x:=by
 rw[<-tL h,List.sum_append];simp
theorem ku(l:List Nat)(k:Nat):(l.take k).sum<=l.sum:=by
 have:(l.take k).sum+(l.drop k).sum=l.sum:=by rw[<-List.sum_append,List.take_append_drop]
 omega
theorem Gj(ao:Option Addr)(n cap gB Z capB s N M:Nat)(obj L:List Nat)(hLz:Hid (L.length=Z))(hN:Hid (L.sum=N))(yD:N<=4096)(hM:(N:Int)*(s:Int)=(M:Int))(hM2:M<=65536)(hnM:n<=M)(hZ:Z<=4096)(w:World)
  (lG:kr w ao n obj)(hB:aB w gB 3 (bW L)):
  Calls Tryz.prog 31 #[.slice ao n cap,.slice (some ⟨gB,0,none⟩) Z capB,.int .i64 s] w fun e w'=>
   e= .returned (.slice (some ⟨w.heap.size,0,none⟩) M M)/\Below w.heap.size w w'/\aB w' w.heap.size 5 (bN (Pk.filled obj M)):=by
 obtain⟨i0,hi,hz0,hz1,hz2⟩:=info_parts Tryz.infoByte;have HB:=hide hB;have HO:=hide lG
 clear hB lG;go_enter Tryz.func31,Tryz.ntmps31;go_wp2;go_loop [7,13] (fun v x=>∃k t:Nat,k<=Z/\x= .int .i64 k/\v= .int .i64 t/\t<=4096/\Hid (t=(L.take k).sum)) (fun _ x=>leftOf Z (intOf x).toNat)
 case atStart=>exact⟨0,0,by omega,rfl,rfl,by omega,show 0=_ by simp⟩
 case round=>
  obtain⟨k,t,hk,rfl,rfl,ht,hsum⟩:=hrel;by_cases hlt:k<Z
  ·have hlk:k<L.length:=by rw[hLz.out];exact hlt
   have hc:w.cell? ⟨gB,k,none⟩=some (.int .i64 ((L[k]?.getD 0:Nat):Int)):=HB.out.cell k _ (pR hlk);have hS:Hid (t+L[k]?.getD 0=(L.take (k+1)).sum):=by
    show _=_;rw[iK (getD_some hlk),hsum.out]
   have hle:t+L[k]?.getD 0<=4096:=by
    rw[hS.out];have:=ku L (k+1);rw[hN.out]at this;omega
   revert hc hS hle;generalize L[k]?.getD 0=x;intro hc hS hle;clear hlk;go_wp2;go_round
   case rel=>exact⟨k+1,t+x,by omega,by go_num,by go_num,hle,hS⟩
   case measure=>refine aO ?_ ?_<;>simp only[intOf]<;>omega
  ·have e:k=Z:=by omega
   have e2:t=N:=by rw[hsum.out,e,<-hLz.out,List.take_length];exact hN.out
   subst e2;subst e;have ho1:=HO.out.1;have hsrc:Hid (0<(bN obj).length->(some (⟨w.heap.size,0,none⟩:Addr)=some ⟨w.heap.size,0,none⟩)/\∃ad,ao=some ad/\∀j v,(bN obj)[j]? =some v->(w.alloc (.cells (madeCells #[.int .u8 0] M) 5)).cell? (ad.add j)=some v):=by
    intro hpos;rw[aU,ho1]at hpos;obtain⟨b,off,e,hc⟩:=HO.out.2.2 hpos;refine⟨rfl,_,e,?_⟩;intro j v hjv;have hj:j<n:=by
     have:=(List.getElem?_eq_some_iff.1 hjv).1;rw[aU,ho1]at this;exact this
    rw[fV (by rw[ho1];exact hj)]at hjv;rw[Addr.add_lit,<-hjv];exact cell_later ((Below.refl _ _).alloc (Nat.le_refl _) _) (hc j hj)
   have hlen:Hid ((bN obj).length=n):=by show _=_;rw[aU,ho1]
   have hrow:Hid (aB (w.alloc (.cells (madeCells #[.int .u8 0] M) 5)) w.heap.size 5 (List.replicate M (.int .u8 0))):=gF _ _ _ _;clear ho1;go_wp2_with first|(at_make;refine pq _ rfl _ _ 28 rfl 5 i0 (.int .u8 0) Tryz.underlying28 hi hz0 hz1 rfl .i64 .i64 M M rfl rfl (by omega) (by rw[hz2];omega) (by omega) ?_)|(refine wpList_copy_splice rfl (.tmp 25) (.tmp 26) 28 28 rfl 5 Tryz.underlying28 (by kernel_rfl) _ _ M M n cap rfl rfl w.heap.size 0 _ 5 hrow.out (bN obj) (by rw[hlen.out];show n=min n M;omega) hsrc.out (by rw[hlen.out];simp;omega) (by intro u hu;obtain⟨x,_,rfl⟩:=List.mem_map.1 hu;rfl) w.heap.size w ((Below.refl _ _).alloc (Nat.le_refl _) _) (Nat.le_refl _) ?_)
   intro w1 hr1 hb1;have hr1':Hid (aB w1 w.heap.size 5 (bN (Pk.filled obj M))):=by
    have h:=hr1.out;have e:splice (List.replicate M (Value.int .u8 0)) 0 (bN obj)=bN (Pk.filled obj M):=by
     simp[splice,bN,Pk.filled]
    rw[e]at h;exact h
   have HB1:=hide hb1;clear hr1 hb1;go_wp2;go_ret;exact⟨rfl,HB1.out,hr1'.out⟩
def uV(c g:Nat):Value:=.slice (some ⟨g,0,none⟩) c c
structure Packs(w:World)(B:Nat)(v:Value)(c:Nat)(ps:List (List Nat))(gs:List Nat):Prop where
 own:bM w 28 v (gs.map (uV c))
 len:gs.length=ps.length
 row:∀(i g:Nat) (bs:List Nat),gs[i]? =some g->ps[i]? =some bs->aB w g 5 (bN bs)
 from_:∀g∈gs,B<=g
 nodup:gs.Nodup
 at_:∀k,v.ownBlock=some k->B<=k
theorem Packs.has{w:World}{B:Nat}{v:Value}{c:Nat}{ps:List (List Nat)}{gs:List Nat}(h:Packs w B v c ps gs){g:Nat}(hg:g∈gs):∃bs,aB w g 5 (bN bs):=by
 obtain⟨i,hi,rfl⟩:=List.mem_iff_getElem.1 hg;have hi':i<ps.length:=by rw[<-h.len];exact hi
 exact⟨ps[i],h.row i _ _ (by simp[hi]) (by simp[hi'])⟩
theorem Packs.lt{w:World}{B:Nat}{v:Value}{c:Nat}{ps:List (List Nat)}{gs:List Nat}(h:Packs w B v c ps gs){g:Nat}(hg:g∈gs):g<w.heap.size:=by
 obtain⟨bs,hr⟩:=h.has hg;exact hr.lt
theorem Packs.of_block{w w':World}{B:Nat}{v:Value}{c:Nat}{ps:List (List Nat)}{gs:List Nat}(h:Packs w B v c ps gs)(hg:∀g∈gs,w'.heap[g]? =w.heap[g]?)(hv:∀k,v.ownBlock=some k->w'.heap[k]? =w.heap[k]?):Packs w' B v c ps gs:=
 ⟨h.own.of_block hv,h.len,fun i g bs h1 h2=>(h.row i g bs h1 h2).of_block (hg g (List.mem_of_getElem? h1)),h.from_,h.nodup,h.at_⟩
theorem Packs.later{w w':World}{B:Nat}{v:Value}{c:Nat}{ps:List (List Nat)}{gs:List Nat}(h:Packs w B v c ps gs)(hb:Below w.heap.size w w'):Packs w' B v c ps gs:=
 h.of_block (fun _ hg=>hb.block _ (h.lt hg)) (fun _ hk=>hb.block _ (h.own.lt hk))
theorem Packs.mono{w:World}{B B':Nat}{v:Value}{c:Nat}{ps:List (List Nat)}{gs:List Nat}(h:Packs w B v c ps gs)(hB:B'<=B):Packs w B' v c ps gs:=
 ⟨h.own,h.len,h.row,fun g hg=>Nat.le_trans hB (h.from_ g hg),h.nodup,fun k hk=>Nat.le_trans hB (h.at_ k hk)⟩
theorem Packs.nil(w:World)(B c:Nat):Packs w B (.slice none 0 0) c [] []:=
 ⟨iW _ _,rfl,by intro i g bs h;simp at h,by simp,List.nodup_nil,by intro k hk;simp[Value.ownBlock]at hk⟩
theorem Packs.setCell{w:World}{B:Nat}{v:Value}{c:Nat}{ps:List (List Nat)}{gs:List Nat}(h:Packs w B v c ps gs){b i:Nat}{t:TypeId}{L:List Value}(hb:aB w b t L)(h1:t≠(5:Nat))(h2:t≠(28:Nat))(u:Value):Packs (w.setCell ⟨b,i,none⟩ u) B v c ps gs:=by
 refine h.of_block (fun g hg=>?_) (fun k hk=>?_)
 ·obtain⟨bs,hr⟩:=h.has hg;exact blk_setCell_other _ _ _ _ (hr.lX hb (fun e=>h1 e.symm))
 ·refine blk_setCell_other _ _ _ _ (fun e=>?_);have e':k=b:=e;subst e';exact h.own.kG hb h2 hk
theorem Packs.step{w w3 w4:World}{B:Nat}{v v':Value}{c g:Nat}{ps:List (List Nat)}{gs bs:List Nat}{o:Obj}(h:Packs w B v c ps gs)(hb:Below w.heap.size w w3)(hg:aB w3 g 5 (bN bs))(hge:w.heap.size<=g)(hB:B<=w.heap.size)
  (ha:fC (w3.alloc o) w4 28 v v' (gs.map (uV c)) [uV c g]):Packs w4 B v' c (ps++ [bs]) (gs++ [g]):=by
 have h3:=(h.later hb).later ((Below.refl _ _).alloc (Nat.le_refl _) o);have hB3:B<=(w3.alloc o).heap.size:=by have:=hb.size;simp;omega
 have hrow:∀g' bs',aB (w3.alloc o) g' 5 (bN bs')->aB w4 g' 5 (bN bs'):=fun g' bs' hr=>ha.other hr (h3.own.kG hr (by decide));refine⟨by have:=ha.own;simpa using this,by simp[h.len],?_,?_,?_,ha.from hB3 h.at_⟩
 ·intro i g' bs' h1 h2;by_cases hi:i<gs.length
  ·rw[List.getElem?_append_left hi]at h1;rw[List.getElem?_append_left (by rw[<-h.len];exact hi)]at h2;exact hrow _ _ (h3.row i g' bs' h1 h2)
  ·rw[List.getElem?_append_right (by omega)]at h1;rw[List.getElem?_append_right (by rw[<-h.len];omega)]at h2;have hi0:i-gs.length=0:=by
    rcases Nat.eq_zero_or_pos (i-gs.length)with h0|h0
    ·exact h0
    ·rw[List.getElem?_eq_none (by simp;omega)]at h1;simp at h1
   rw[hi0]at h1;rw[<-h.len,hi0]at h2;simp at h1 h2;subst h1 h2;exact hrow _ _ (hg.alloc o)
 ·intro g' hg';rcases List.mem_append.1 hg' with h1|h1
  ·exact h.from_ g' h1
  ·simp at h1;subst h1;omega
 ·rw[List.nodup_append];refine⟨h.nodup,by simp,?_⟩;intro a ha' b' hb' e;simp at hb';have:=h.lt ha';omega
theorem qW(b off c0 id len s m p z q0 K n T c B:Nat)(D blk gs:List Nat)(v:Value)(ps:List (List Nat))(hid:id<65536)(hlen:len<65536)(hs1:1<=s)(hs:s<=16)(hm:m<=20)(hp:p<=20)(hz:z<256)(hK1:1<=K)(hK:K<=20)
  (hl:Hid (blk.length=K*s))(hn:Hid (n=K*s))(hx:∀x∈blk,x<256)(hn2:n<=65536)(hnc:n<=c0)(hc2:c0<=9223372036854775807)(hT:(K:Int)+(p:Int)=(T:Int))(hc:(10:Int)+(s:Int)=(c:Int))(w:World)
  (hb:aB w b 5 (bN D))(hD:Hid (∀q,q<n->D[off+q]? =blk[q]?))(hps:Packs w B v c ps gs)(hB:B<=w.heap.size)(hpl:ps.length<=65536):
  Calls Tryz.prog 32 #[v,.agg #[.int .i64 id,.int .i64 len,.int .i64 s,.int .i64 m,.int .i64 p,.int .i64 z,.int .i64 q0],.slice (some ⟨b,off,none⟩) n c0] w fun e w'=>
   ∃v' gs',e= .returned v'/\Packs w' B v' c (ps++Pk.fQ id len s m p z K blk) gs'/\Kp (fun k=>v.ownBlock=some k) w w':=by
 obtain⟨i0,hi,hz0,hz1,hz2⟩:=info_parts Tryz.infoBytes;have hb0:=hide ((Below.refl w.heap.size w).alloc (Nat.le_refl _) (.cells #[.int .i64 id,.int .i64 len,.int .i64 s,.int .i64 m,.int .i64 p,.int .i64 z,.int .i64 q0] 76));have hP:=hide (E9 b off s c0 K n m p T D blk hl hn hx hs1 hs hK1 hK hp hn2 hnc hc2 hT (w.alloc (.cells #[.int .i64 id,.int .i64 len,.int .i64 s,.int .i64 m,.int .i64 p,.int .i64 z,.int .i64 q0] 76)) (hb.alloc _) hD);have hbx:=hide (aP w #[.int .i64 id,.int .i64 len,.int .i64 s,.int .i64 m,.int .i64 p,.int .i64 z,.int .i64 q0] 76);have HPS:=hide hps;clear hps hb;have hT':Hid (T=K+p):=by show T=K+p;omega
 have hc':Hid (c=10+s):=by show c=10+s;omega
 go_enter Tryz.func32,Tryz.ntmps32;go_wp2_with (go_at_call 66;refine hP.out.mono ?_;rintro _ w2 ⟨gP,capP,cur,rfl,hrP,hgP,hb2,hpc⟩;replace hrP:=hide hrP;replace hb2:=hide hb2;replace hpc:=hide hpc)
 have hw12:w.heap.size<w2.heap.size:=by have:=hb2.out.size;simp at this;omega
 have hgP':w.heap.size+1<=gP:=by simp at hgP;omega
 have hbx2:=hide (hbx.out.later hb2.out);have HPS2:=hide ((HPS.out.later hb0.out).later hb2.out);have hXP:Hid (¬(gP=w.heap.size\/v.ownBlock=some gP)):=by
  rintro(h|h)
  ·omega
  ·have:=HPS.out.own.lt h;omega
 have hXb:Hid (∀g L,aB w2 g 5 L->¬(g=w.heap.size\/v.ownBlock=some g)):=by
  rintro g L hr (h|h)
  ·subst h;exact absurd (hr.unique hbx2.out).1 (by decide)
  ·exact HPS2.out.own.kG hr (by decide) h
 clear hgP;go_loopw [0,14] (fun v' x wr=>∃(k x6:Nat) (gs':List Nat),k<=T/\x= .int .i64 k/\Packs wr B v' c (ps++(Pk.fQ id len s m p z K blk).take k) gs'/\Kp (fun k=>k=w.heap.size\/v.ownBlock=some k) w2 wr/\
   aB wr w.heap.size 76 [.int .i64 id,.int .i64 len,.int .i64 s,.int .i64 m,.int .i64 p,.int .i64 z,.int .i64 x6]/\(∀k,v'.ownBlock=some k->v.ownBlock=some k\/w2.heap.size<=k))
  (fun _ x _=>leftOf T (intOf x).toNat)
 case atStart=>exact⟨0,q0,gs,by omega,rfl,by simpa using HPS2.out,Kp.refl _ _,hbx2.out,fun k hk=>Or.inl hk⟩
 case round=>
  obtain⟨k,x6,gs',hk,rfl,hpk,hkp,jg,hat⟩:=hrel;by_cases hlt:k<T
  ·obtain⟨sv,hcur,b',off',cap',L,rfl,q1,q2,q3,q4⟩:=hpc.out k hlt;have hcell:wr.cell? ⟨gP,k,none⟩=some (.slice (some ⟨b',off',none⟩) s cap'):=(hkp.row hrP.out hXP.out).cell k _ hcur;have Us:=hkp.row q3 (hXb.out b' L q3);have hbb:b'≠w.heap.size:=fun e=>hXb.out b' L q3 (Or.inl e);have e0:=jg.cell 0 _ rfl;have e1:=jg.cell 1 _ rfl;have e2:=jg.cell 2 _ rfl;have e3:=jg.cell 3 _ rfl;have e4:=jg.cell 4 _ rfl;have e5:=jg.cell 5 _ rfl;have e6:=jg.cell 6 _ rfl;have f6:=jg.frozen 6;have hPk:=hide (NP b' off' cap' id len s m p z k c (Pk.pieceN blk s K k) hid hlen hs1 hs (by omega) (by omega) hz (by omega) hc (Pk.d_ hl.out) (wr.setCell ⟨w.heap.size,6,none⟩ (.int .i64 k)) (fun j hj=>(Us.other hbb _).cell _ _ (q4 j hj)));have hpk':=hide (hpk.setCell (i:=6) jg (by decide) (by decide) (.int .i64 k));have hlen':Hid ((gs'.map (uV c)).length<=65576):=by
    show _<=_;rw[List.length_map,hpk.len,List.length_append,List.length_take,Pk.jV];omega
   have VI:=hide (hkp.setCell (a:=⟨w.heap.size,6,none⟩) (Or.inl (Or.inl rfl)) (.int .i64 k));have Sd:=hide (jg.set 6 (.int .i64 k));have hBw:B<=wr.heap.size:=by have:=hkp.size;omega
   have hszs:Hid ((wr.setCell ⟨w.heap.size,6,none⟩ (.int .i64 k)).heap.size=wr.heap.size):=by show _=_;simp[World.setCell]
   have HAT:=hide hat;clear hpk hkp jg hat hcur q1 q2 q3 q4 Us;go_wp2_with first|(go_at_call 67;refine hPk.out.mono ?_;rintro _ w3 ⟨g3,rfl,hg3,hb3,hr3⟩;replace hb3:=hide hb3;replace hr3:=hide hr3)|(at_builtin;refine dn _ rfl _ _ 25 rfl 28 i0 (.slice none 0 0) 24 Tryz.underlying25 hi hz0 hz1 hz2 rfl _ (gs'.map (uV c)) rfl ((hpk'.out.later hb3.out).own.alloc _) ⟨w3.heap.size,0,none⟩ 1 1 [uV c g3] rfl rfl (lW _ _ _ _ rfl) (by intro u hu;simp at hu;subst hu;rfl) (by have:=hlen'.out;unfold maxLen;omega) (by have:=hlen'.out;omega) ?_)
   intro v' w4 happ;have HA:=hide happ;clear happ;go_wp2;go_roundw
   case rel=>
    have hstep:=hpk'.out.step hb3.out hr3.out hg3 (by rw[hszs.out];exact hBw) HA.out;refine⟨k+1,k,gs'++ [g3],by omega,by go_num,?_,?_,?_,?_⟩
    ·rw[List.append_assoc,tL (Pk.xU (by have:=hT'.out;omega))]at hstep;exact hstep
    ·refine((VI.out.below hb3.out).alloc _).grown HA.out.grown ?_;intro q hq;rcases HAT.out q hq with h|h
     ·exact Or.inl (Or.inr h)
     ·exact Or.inr h
    ·have h1:=(Sd.out.later hb3.out).alloc (.cells #[uV c g3] 28);exact HA.out.other h1 (((hpk'.out.later hb3.out).own.alloc _).kG h1 (by decide))
    ·intro q hq;rcases HA.out.block with h|h
     ·exact HAT.out q (h▸hq)
     ·rw[h]at hq;simp at hq;have h5:=VI.out.size;have h6:=hb3.out.size;right;omega
   case measure=>refine aO ?_ ?_<;>simp only[intOf]<;>omega
  ·have e:k=T:=by omega
   subst e;have hpk2:Hid (Packs wr B u0 c (ps++Pk.fQ id len s m p z K blk) gs'):=by
    have:(Pk.fQ id len s m p z K blk).take k=Pk.fQ id len s m p z K blk:=List.take_of_length_le (by rw[Pk.jV,hT'.out];omega);rw[this]at hpk;exact hpk
   have Y0:=hide hkp;clear hpk hkp jg hat;go_wp2;go_ret;refine⟨_,gs',rfl,hpk2.out,?_⟩;have h1:Kp (fun k=>v.ownBlock=some k) w w2:=(Kp.of_below hb0.out).below hb2.out;refine⟨Y0.out.os.trans h1.os,Y0.out.tape.trans h1.tape,Y0.out.output.trans h1.output,Nat.le_trans h1.size Y0.out.size,fun q hq hx=>?_⟩;refine(Y0.out.block q (by omega) ?_).trans (h1.block q hq hx);rintro(h|h)
   ·omega
   ·exact hx h
theorem Oq(n:Int)(w:World):
  Calls Tryz.prog 30 #[.int .i64 n] w fun e w'=>e= .returned (.bool (decide (0<=n)&&decide (n<=65535)))/\w'=w:=by
 by_cases h:0<=n
 ·go_enter Tryz.func30,Tryz.ntmps30;go_wp2;go_ret;exact⟨by simp[h],rfl⟩
 ·go_enter Tryz.func30,Tryz.ntmps30;go_wp2;go_ret
  exact⟨by have:¬(0<=n):=by omega
           simp[this],rfl⟩
theorem zU(ao:Option Addr)(n cap:Nat)(id:Int)(s m p:Nat)(hl:n<=2000)(h1:1<=s)(h2:s<=16)(h3:1<=m)(h4:m<=20)(h5:p<=20)(hc:¬Cut.blocks (Cut.pieces n s) m<=256)(w:World):
  Calls Tryz.prog 14 #[.int .i64 id,.slice ao n cap,.agg #[.int .i64 s,.int .i64 m,.int .i64 p]] w fun e w'=>e= .returned (.tuple #[.slice none 0 0,.int .i64 1])/\Below w.heap.size w w':=by
 have hb0:=hide ((Below.refl w.heap.size w).alloc (Nat.le_refl _) (.cells #[.int .i64 s,.int .i64 m,.int .i64 p] 35));have C:=hide (fun w=>(dL n s m p hl h1 h2 h3 h4 h5 w).2 hc);clear hc;go_enter Tryz.func14,Tryz.ntmps14;go_wp2_with (go_at_call 29;refine(C.out _).mono ?_;rintro _ w1 ⟨rfl,hb1⟩;replace hb1:=hide hb1)
 go_ret2
 exact⟨rfl,hb0.out.trans (hb1.out.mono (by simp))⟩
theorem zV(ao:Option Addr)(n cap id s m p Z N M c:Nat)(obj L:List Nat)(hid:id<65536)(hl:n<=2000)(h1:1<=s)(h2:s<=16)(h3:1<=m)(h4:m<=20)(h5:p<=20)
  (hZ:Z<=256)(hLz:Hid (L.length=Z))(hLs:Hid (L.sum=N))(hLb:Hid (∀k∈L,1<=k/\k<=m))(hN:N<=2000)(hM:(N:Int)*(s:Int)=(M:Int))(hM2:M<=32000)(hnM:n<=M)(hc:(10:Int)+(s:Int)=(c:Int))
  (C:Hid (∀w,Calls Tryz.prog 29 #[.int .i64 n,.agg #[.int .i64 s,.int .i64 m,.int .i64 p]] w fun e w'=>
    ∃g,w.heap.size<=g/\e= .returned (.tuple #[.slice (some ⟨g,0,none⟩) Z Z,.bool true])/\Below w.heap.size w w'/\aB w' g 3 (bW L)))(w:World)(lG:kr w ao n obj):
  Calls Tryz.prog 14 #[.int .i64 id,.slice ao n cap,.agg #[.int .i64 s,.int .i64 m,.int .i64 p]] w fun e w'=>
   ∃v gs,e= .returned (.tuple #[v,.int .i64 0])/\Packs w' w.heap.size v c (Pk.upTo id n s m p L (Pk.filled obj M) Z) gs/\Below w.heap.size w w':=by
 have hb0:=hide ((Below.refl w.heap.size w).alloc (Nat.le_refl _) (.cells #[.int .i64 s,.int .i64 m,.int .i64 p] 35));have e1:(decide ((0:Int)<=(id:Int))&&decide ((id:Int)<=65535))=true:=by simp;omega
 have HO:=hide lG;clear lG;go_enter Tryz.func14,Tryz.ntmps14;go_wp2_with first|(go_at_call 29;refine(C.out _).mono ?_;rintro _ w1 ⟨gB,hgB,rfl,hb1,hr1⟩;have hw1:w.heap.size<w1.heap.size:=(by have:=hb1.size;simp at this;omega);have c0:=cell_later hb1 (sI w _ _ _ _);have c1:=cell_later hb1 (wJ w _ _ _ _);have c2:=cell_later hb1 (LZ w _ _ _ _);replace hb1:=hide hb1;replace hr1:=hide hr1)|(go_at_call 30;refine(Oq _ _).mono ?_;rintro _ w1' ⟨rfl,hx⟩;have hx':=hx.symm;subst hx';simp only[e1])
 have hLN:Hid (∀k,k<=Z->(L.take k).sum*s<=M):=by
  intro k _;have h:=Nat.mul_le_mul_right s (ku L k);rw[hLs.out]at h;have:N*s=M:=by rw[<-Int.natCast_mul]at hM;omega
  omega
 have hF:=hide (Gj ao n cap gB Z Z s N M obj L hLz hLs (by omega) hM (by omega) hnM (by omega) (w1.alloc (.cells #[.int .i64 id,.int .i64 n,.int .i64 s,.int .i64 m,.int .i64 p,.int .i64 0,.int .i64 0] 76))
  (((HO.out.later hb0.out).later hb1.out).later ((Below.refl _ _).alloc (Nat.le_refl _) _)) (hr1.out.alloc _))
 have hbH:=hide (aP w1 #[.int .i64 id,.int .i64 n,.int .i64 s,.int .i64 m,.int .i64 p,.int .i64 0,.int .i64 0] 76);refine hF.out.mono ?_;rintro _ w3 ⟨rfl,hb3,hr3⟩;have hw3:w1.heap.size+1<w3.heap.size:=by have:=hr3.lt;simp at this;exact this
 have d0:w3.cell? ⟨w.heap.size,0,none⟩=some (.int .i64 s):=(hb3.cell (by simp;omega)).trans ((World.cell?_of_block (blk_alloc_lt _ _ _ (by exact hw1))).trans c0);have hH3:=hide (hbH.out.later hb3);have hB3:=hide ((hr1.out.alloc (.cells #[.int .i64 id,.int .i64 n,.int .i64 s,.int .i64 m,.int .i64 p,.int .i64 0,.int .i64 0] 76)).later hb3);have hF3:Hid (aB w3 (w1.heap.size+1) 5 (bN (Pk.filled obj M))):=by
  have h:=hr3;simp at h;exact h
 have HB3:=hide hb3;have D0:=hide d0;clear hb3 hr3 hF c0 c1 c2 d0;have hgB1:gB<w1.heap.size:=hr1.out.lt;simp only[World.size_alloc];go_wp2;go_loopw [10,12,41] (fun v rest x wr=>∃(k a o r x5:Nat) (gs:List Nat),k<=Z/\x= .int .i64 k/\rest= .slice (some ⟨w1.heap.size+1,a,none⟩) r r/\(0<r->a=o)/\o+r=M/\Hid (o=(L.take k).sum*s)/\
   Packs wr w3.heap.size v c (Pk.upTo id n s m p L (Pk.filled obj M) k) gs/\Kp (fun q=>q=w1.heap.size) w3 wr/\aB wr w1.heap.size 76 [.int .i64 id,.int .i64 n,.int .i64 s,.int .i64 m,.int .i64 p,.int .i64 x5,.int .i64 0])
  (fun _ _ x _=>leftOf Z (intOf x).toNat)
 case atStart=>exact⟨0,0,0,M,0,[],by omega,rfl,rfl,fun _=>rfl,by omega,(show 0=_ by simp),Packs.nil _ _ _,Kp.refl _ _,hH3.out⟩
 case round=>
  obtain⟨k,a,o,r,x5,gs,hk,rfl,rfl,hao,hor,ho,hpk,hkp,jg⟩:=hrel;by_cases hlt:k<Z
  ·have Ld:k<L.length:=by rw[hLz.out];exact hlt
   have hKb:1<=L[k]?.getD 0/\L[k]?.getD 0<=m:=by
    have e:L[k]?.getD 0=L[k]:=by simp[Ld]
    rw[e];exact hLb.out _ (List.getElem_mem Ld)
   have hcnt:wr.cell? ⟨gB,k,none⟩=some (.int .i64 ((L[k]?.getD 0:Nat):Int)):=(hkp.row hB3.out (by omega)).cell k _ (pR Ld);have hsum:Hid ((L.take (k+1)).sum*s=o+L[k]?.getD 0*s):=by
    show _=_;rw[iK (getD_some Ld),Nat.add_mul,<-ho.out]
   have hle:=hLN.out (k+1) (by omega);rw[hsum.out]at hle;have hup:Hid (Pk.upTo id n s m p L (Pk.filled obj M) (k+1)=Pk.upTo id n s m p L (Pk.filled obj M) k++Pk.fQ id n s m p k (L[k]?.getD 0) (Pk.kL (Pk.filled obj M) L s k)):=Pk.sW _ _ _ _ _ _ _ _;have hfl:Hid ((Pk.filled obj M).length=M):=Pk.zS (by rw[HO.out.1];exact hnM);have hbl:Hid ((Pk.kL (Pk.filled obj M) L s k).length=L[k]?.getD 0*s):=by
    show _=_;unfold Pk.kL;rw[List.length_take,List.length_drop,hfl.out,<-ho.out];omega
   have hbx:∀x∈Pk.kL (Pk.filled obj M) L s k,x<256:=fun x hx=>Pk.OI HO.out.2.1 x (List.mem_of_mem_drop (List.mem_of_mem_take hx));have hbD:Hid (∀q,q<L[k]?.getD 0*s->(Pk.filled obj M)[o+q]? =(Pk.kL (Pk.filled obj M) L s k)[q]?):=by
    intro q hq;unfold Pk.kL;rw[List.getElem?_take,if_pos hq,List.getElem?_drop,<-ho.out]
   obtain⟨blk,hblk⟩:∃blk,blk=Pk.kL (Pk.filled obj M) L s k:=⟨_,rfl⟩;obtain⟨K,hKK⟩:∃K,K=L[k]?.getD 0:=⟨_,rfl⟩;rw[<-hblk]at hup hbl hbx hbD;rw[<-hKK]at hcnt hsum hle hKb hup hbl hbD;clear hKK hblk;obtain⟨nn,hnn⟩:∃nn,nn=K*s:=⟨_,rfl⟩;have hKs:(K:Int)*(s:Int)=(nn:Int):=by rw[hnn];simp
   rw[<-hnn]at hle hsum hbD hbl;have hNN:=hide hnn;have hnr:nn<=r:=by omega
   have hnn1:1<=nn:=by
    have:=Nat.mul_le_mul hKb.1 h1;omega
   have ha:=hao (by omega);subst ha;clear hao;obtain⟨T,hT⟩:∃T:Nat,(K:Int)+(p:Int)=(T:Int):=⟨K+p,by omega⟩;clear hnn Ld;have e0:=jg.cell 0 _ rfl;have e1:=jg.cell 1 _ rfl;have e2:=jg.cell 2 _ rfl;have e3:=jg.cell 3 _ rfl;have e4:=jg.cell 4 _ rfl;have e5:=jg.cell 5 _ rfl;have e6:=jg.cell 6 _ rfl;have f5:=jg.frozen 5;have d0:wr.cell? ⟨w.heap.size,0,none⟩=some (.int .i64 s):=(World.cell?_of_block (hkp.block w.heap.size (by omega) (by omega))).trans D0.out;have hpl:(Pk.upTo id n s m p L (Pk.filled obj M) k).length<=65536:=by
    rw[Pk.uJ _ _ _ _ _ _ _ k (by rw[hLz.out];omega)];have h8:=ku L k;rw[hLs.out]at h8;have h9:k*p<=256*20:=Nat.mul_le_mul (by omega) h5;omega
   have hbw:=hkp.row hF3.out (by omega);have hpk':=hpk.setCell (i:=5) jg (by decide) (by decide) (.int .i64 k);have hsz:Hid ((wr.setCell ⟨w1.heap.size,5,none⟩ (.int .i64 k)).heap.size=wr.heap.size):=by show _=_;simp[World.setCell]
   have hAP:=hide (qW (w1.heap.size+1) a r id n s m p k 0 K nn T c w3.heap.size (Pk.filled obj M) blk gs u10 _ hid (by omega) h1 h2 h4 h5 (by omega) hKb.1 (by omega) (by show _=_;rw[hbl.out,hNN.out]) hNN hbx (by omega) hnr (by omega) hT hc
    (wr.setCell ⟨w1.heap.size,5,none⟩ (.int .i64 k)).drew ((hbw.other (by simp) _).drew) hbD (hpk'.of_block (fun _ _=>rfl) (fun _ _=>rfl)) (by have:=hkp.size;have:=hsz.out;show _<=(wr.setCell _ _).heap.size;omega) hpl)
   have Sd:=hide (jg.set 5 (.int .i64 k));have VI:=hide ((hkp.setCell (a:=⟨w1.heap.size,5,none⟩) (Or.inl rfl) (.int .i64 k)).drew);have HPK:=hide hpk';have hk0:(0:Int)<=(k:Int):=by omega
   have hk1:(k:Int)<(Z:Int):=by omega
   have hn0:(0:Int)<=(nn:Int):=by omega
   have hn1:(nn:Int)<=(r:Int):=by omega
   have hwn:IntKind.i64.wrap (nn:Int)=(nn:Int):=aF _ (by omega) (by omega);clear hpk hkp jg hbw hpk' hpl hbx;go_wp2_with fail
   go_region_with (go_at_call 32;refine hAP.out.mono ?_;rintro _ w4 ⟨v4,gs4,rfl,Z0,Yt⟩)
   all_goals
    have hat:=HPK.out.at_;have hkq:Kp (fun q=>q=w1.heap.size) w3 w4:=VI.out.join Yt (fun q hq=>Or.inr (hat q hq));have d4:w4.cell? ⟨w.heap.size,0,none⟩=some (.int .i64 s):=(World.cell?_of_block (hkq.block w.heap.size (by omega) (by omega))).trans D0.out;have hb4:=Yt.row Sd.out.drew (fun h=>by have:=hat _ h;omega);have HP4:=hide Z0;have HK4:=hide hkq;have HB4:=hide hb4;clear Z0 Yt hat hkq hb4 d0 e0 e1 e2 e3 e4 e5 e6 f5;go_wp2;go_roundw
    case rel=>
     refine⟨k+1,if r=nn then a else a+nn,a+nn,r-nn,k,gs4,by omega,by go_num,?_,?_,by omega,?_,?_,HK4.out,HB4.out⟩
     ·split<;>rfl
     ·intro hr;rw[if_neg (by omega)]
     ·show a+nn=_;rw[hsum.out]
     ·have h9:=HP4.out;rw[<-hup.out]at h9;exact h9
    case measure=>refine aO ?_ ?_<;>simp only[intOf]<;>omega
  ·have e:k=Z:=by omega
   subst e;have HPK:=hide hpk;have Y0:=hide hkp
   clear hpk hkp jg;go_wp2;go_ret2
   refine⟨_,gs,rfl,HPK.out.mono ?_,?_⟩
   ·have:=hb1.out.size;omega
   ·have h1:=hb0.out.trans (hb1.out.mono (by simp));have h2:=(h1.alloc (by omega) (.cells #[.int .i64 id,.int .i64 n,.int .i64 s,.int .i64 m,.int .i64 p,.int .i64 0,.int .i64 0] 76)).trans (HB3.out.mono (by simp;omega));exact h2.trans (Y0.out.toBelow (by intro q hq;omega) (by omega))
theorem qx(ao:Option Addr)(n cap id s m p:Nat)(obj:List Nat)(hid:id<65536)(hl:n<=2000)(h1:1<=s)(h2:s<=16)(h3:1<=m)(h4:m<=20)(h5:p<=20)(hc:Cut.blocks (Cut.pieces n s) m<=256)(w:World)(lG:kr w ao n obj):
  Calls Tryz.prog 14 #[.int .i64 id,.slice ao n cap,.agg #[.int .i64 s,.int .i64 m,.int .i64 p]] w fun e w'=>
   ∃v gs,e= .returned (.tuple #[v,.int .i64 0])/\Packs w' w.heap.size v (10+s) (Pk.packets id obj s m p) gs/\Below w.heap.size w w':=by
 have hp1:=Cut.AJ hl h1;have hM2:Cut.pieces n s*s<=32000:=Nat.le_trans (Nat.mul_le_mul hp1 h2) (by omega);have hP:Pk.packets id obj s m p=Pk.upTo id n s m p (Cut.sizes n s m) (Pk.filled obj (Cut.pieces n s*s)) (Cut.blocks (Cut.pieces n s) m):=by
  unfold Pk.packets;rw[lG.1,Cut.fD]
 rw[hP];exact zV ao n cap id s m p (Cut.blocks (Cut.pieces n s) m) (Cut.pieces n s) (Cut.pieces n s*s) (10+s) obj (Cut.sizes n s m) hid hl h1 h2 h3 h4 h5 hc (Cut.fD _ _ _) (Cut.tQ h3) (Cut.jw h3) hp1 (by simp) hM2 (Cut.lV h1) (by omega)
  (fun w=>(dL n s m p hl h1 h2 h3 h4 h5 w).1 hc) w lG
end Go.Proofs.YtmfpiodlecapiaaGreatDoor
namespace Go.Proofs.YtmfpiodlecapiaaGreatDoor
open Go.RowKit Go.Deep
def strOf(bs:List Nat):ByteArray:=strOfNums (bs.map (fun n:Nat=>(n:Int)))
theorem xw(bs:List Nat):strOf bs=⟨(bs.map (fun n:Nat=>UInt8.ofNat n)).toArray⟩:=by
 unfold strOf strOfNums;congr 2
 simp
theorem Tt{w:World}{g off cap n:Nat}{L:List Value}{bs:List Nat}(hr:aB w g 5 L)(hl:bs.length=n)(hL:∀j,j<n->L[off+j]? =some (.int .u8 ((bs[j]?.getD 0:Nat):Int))):
  (convert 28 9 (.slice (some ⟨g,off,none⟩) n cap)).run Tryz.prog w= .ok (.string (strOf bs)) w:=by
 refine run_convert_bytes_arg w 28 5 Tryz.underlying28 Tryz.underlying5 g off n cap (bs.map (fun n:Nat=>(n:Int))) (by simpa using hl) ?_ 9 Tryz.underlying9;intro i hi;rw[hr.cell _ _ (hL i hi)];simp[List.getD,hl▸hi]
theorem Tv{w:World}{g cap n:Nat}{bs:List Nat}(hr:aB w g 5 (bN bs))(hl:bs.length=n):(convert 28 9 (.slice (some ⟨g,0,none⟩) n cap)).run Tryz.prog w= .ok (.string (strOf bs)) w:=
 Tt hr hl (fun j hj=>by rw[Nat.zero_add];exact fV (by omega))
theorem dz(w:World)(C:Array Value)(e:TypeId)(fr:Nat×Nat)(i:Nat)(v:Value)(hv:C[i]? =some v):(w.alloc (.cells C e fr)).cell? ⟨w.heap.size,i,none⟩=some v:=by
 have h:=blk_alloc_new w (.cells C e fr);unfold World.cell?;rw[show(w.alloc (.cells C e fr)).heap[(⟨w.heap.size,i,none⟩:Addr).block]? =_ from h];exact hv
theorem ex1:Gf.mul 2 128=29:=by decide+kernel
theorem ex2:Gf.inv 2=142:=by decide+kernel
theorem ex3:Pk.packets 5 [97,98] 2 1 1= [[70,0,5,0,2,2,1,1,0,0,97,98],[70,0,5,0,2,2,1,1,0,1,154,128]]:=by decide+kernel
theorem ex3':Cut.blocks (Cut.pieces 2 2) 1<=256:=by decide+kernel
theorem M7(w:World):Calls Tryz.prog 28 #[] w fun e w'=>e= .returned (.bool true)/\Below w.heap.size w w':=by
 have C1:Hid (∀w,Calls Tryz.prog 60 #[.int .i64 2,.int .i64 128] w fun e w'=>e= .returned (.tuple #[.int .i64 29,.int .i64 0])/\w'=w):=by
  intro w;have:=OL 2 128 (by omega) (by omega) w;rw[ex1]at this;exact this
 have C2:Hid (∀w,Calls Tryz.prog 61 #[.int .i64 2] w fun e w'=>e= .returned (.tuple #[.int .i64 142,.int .i64 0])/\w'=w):=by
  intro w;have:=zW 2 (by omega) (by omega) w;rw[ex2]at this;exact this
 have hb0:=hide ((Below.refl w.heap.size w).alloc (Nat.le_refl _) (.cells #[.int .u8 97,.int .u8 98] 5 (2,3)));have C3:Hid (Calls Tryz.prog 14 #[.int .i64 5,.slice (some ⟨w.heap.size,0,none⟩) 2 2,.agg #[.int .i64 2,.int .i64 1,.int .i64 1]] (w.alloc (.cells #[.int .u8 97,.int .u8 98] 5 (2,3))) fun e w'=>
   ∃g0 cap g1,e= .returned (.tuple #[.slice (some ⟨g0,0,none⟩) 2 cap,.int .i64 0])/\Below (w.alloc (.cells #[.int .u8 97,.int .u8 98] 5 (2,3))).heap.size (w.alloc (.cells #[.int .u8 97,.int .u8 98] 5 (2,3))) w'/\w'.cell? ⟨g0,1,none⟩=some (.slice (some ⟨g1,0,none⟩) 12 12)/\
    (convert 28 9 (.slice (some ⟨g1,0,none⟩) 12 12)).run Tryz.prog w'= .ok (.string (strOf [70,0,5,0,2,2,1,1,0,1,154,128])) w'):=by
  refine(qx (some ⟨w.heap.size,0,none⟩) 2 2 5 2 1 1 [97,98] (by omega) (by omega) (by omega) (by omega) (by omega) (by omega) (by omega) ex3' _ ?_).mono ?_
  ·refine⟨rfl,by decide,fun _=>⟨_,_,rfl,?_⟩⟩;intro j hj;rw[Nat.zero_add];match j,hj with
   |0,_=>exact dz _ _ _ _ _ _ rfl
   |1,_=>exact dz _ _ _ _ _ _ rfl
  ·rintro e w' ⟨v,gs,rfl,hp,hb⟩;rw[ex3]at hp;have hl:=hp.len;match gs,hl with
   |[ga,gb],_=>
    obtain⟨g,cap,cur,rfl,hr,h1,h2,h3,h4⟩:=hp.own.open' (by simp);refine⟨g,cap,gb,rfl,hb,?_,?_⟩
    ·exact hr.cell 1 _ (take_at h4 rfl)
    ·exact Tv (hp.row 1 gb _ rfl rfl) rfl
 have kc:=fun(w:World) (C:Array Value) (n c:Nat)=>Lib.run_convert_bytes_const (P:=Tryz.prog) w 28 5 C n c Tryz.underlying28 Tryz.underlying5;go_enter Tryz.func28,Tryz.ntmps28;go_wp2_with first|(go_at_call 60;refine(C1.out _).mono ?_;rintro _ wq ⟨rfl,hx⟩;have hx2:=hx.symm;clear hx;subst hx2)|(go_at_call 61;refine(C2.out _).mono ?_;rintro _ wq ⟨rfl,hx⟩;have hx2:=hx.symm;clear hx;subst hx2)|(go_at_call 14;refine C3.out.mono ?_;rintro _ w1 ⟨g0,cap,g1,rfl,hb1,hc1,hcv⟩;replace hb1:=hide hb1)
 go_ret;refine⟨?_,hb0.out.trans (hb1.out.mono (by simp))⟩;have e:((strOf [70,0,5,0,2,2,1,1,0,1,154,128]).toList== [70,0,5,0,2,2,1,1,0,1,154,128])=true:=by decide+kernel
 show Ending.returned (.bool ((strOf [70,0,5,0,2,2,1,1,0,1,154,128]).toList== [70,0,5,0,2,2,1,1,0,1,154,128]))=_;rw[e]
open Go.RowKit
def cO(c:Int)(n:Nat):Nat:=if c<0 then((-(c+1))%n).toNat else(c%n).toNat
theorem fA(c:Int){n:Nat}(hn:0<n):cO c n<n:=by
 unfold cO;have h1:=Int.emod_lt_of_pos (-(c+1)) (show(0:Int)<n by omega);have h2:=Int.emod_nonneg (-(c+1)) (show(n:Int)≠0 by omega);have h3:=Int.emod_lt_of_pos c (show(0:Int)<n by omega);have h4:=Int.emod_nonneg c (show(n:Int)≠0 by omega);split<;>omega
theorem NH(c:Int)(n:Nat)(hc:(Lit.int .i64 c).wf=true)(hn:0<n)(hn2:n<=65536)(w:World):
  Calls Tryz.prog 13 #[.int .i64 c,.int .i64 n] w fun e w'=>e= .returned (.int .i64 (cO c n:Nat))/\w'=w:=by
 have hb: -9223372036854775808<=c/\c<=9223372036854775807:=by
  simp[Lit.wf,IntKind.min,IntKind.max,IntKind.signed,IntKind.bits]at hc;omega
 obtain⟨hb1,hb2⟩:=hb;clear hc;by_cases h:c<0
 ·have e:((cO c n:Nat):Int)=(-(c+1))%(n:Int):=by
   unfold cO;rw[if_pos h];have h2:=Int.emod_nonneg (-(c+1)) (show(n:Int)≠0 by omega);omega
  rw[e];clear e;go_enter Tryz.func13,Tryz.ntmps13;go_wp2;go_ret;refine⟨?_,rfl⟩;show Ending.returned (.int .i64 (-(c+1).tmod n))=_;rw[<-Int.neg_tmod,Int.tmod_eq_emod_of_nonneg (by omega)]
 ·have e:((cO c n:Nat):Int)=c%(n:Int):=by
   unfold cO;rw[if_neg h];have h2:=Int.emod_nonneg c (show(n:Int)≠0 by omega);omega
  rw[e];clear e;go_enter Tryz.func13,Tryz.ntmps13;go_wp2;go_ret;exact⟨rfl,rfl⟩
end Go.Proofs.YtmfpiodlecapiaaGreatDoor
