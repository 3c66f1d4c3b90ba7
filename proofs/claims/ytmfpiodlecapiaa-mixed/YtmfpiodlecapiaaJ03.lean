import Derived.Test.YtmfpiodlecapiaaJ02
import Derived.Laws.CopyOwn
namespace Go.Proofs.Ytmfpiodlecapiaa
open Go.RowKit Go.Deep
attribute [local go_sem↓] Go.wp_at_zero Go.wp_at_succ
def PieceAt(w:World)(sv:Value)(s:Nat)(bs:List Nat):Prop:=
 ∃b off cap L,sv= .slice (some ⟨b,off,none⟩) s cap/\s<=cap/\cap<=9223372036854775807/\qS w b 5 L/\∀j,j<s->L[off+j]? =some (.int .u8 ((bs[j]?.getD 0:Nat):Int))
theorem PieceAt.later{w w':World}{sv:Value}{s:Nat}{bs:List Nat}(h:PieceAt w sv s bs)(hb:Below w.heap.size w w'):PieceAt w' sv s bs:=by
 obtain⟨b,off,cap,L,rfl,h1,h2,h3,h4⟩:=h;exact⟨b,off,cap,L,rfl,h1,h2,h3.later hb,h4⟩
theorem PieceAt.app{w w':World}{e:TypeId}{v v' sv:Value}{xs news:List Value}{s:Nat}{bs:List Nat}(h:PieceAt w sv s bs)(ha:AppTo w w' e v v' xs news)(ho:OwnS w e v xs)(he:(5:Nat)≠e):PieceAt w' sv s bs:=by
 obtain⟨b,off,cap,L,rfl,h1,h2,h3,h4⟩:=h;exact⟨b,off,cap,L,rfl,h1,h2,ha.other h3 (ho.ne_type h3 he),h4⟩
theorem PieceAt.alloc{w:World}{sv:Value}{s:Nat}{bs:List Nat}(h:PieceAt w sv s bs)(o:Obj):PieceAt (w.alloc o) sv s bs:=
 h.later ((Below.refl _ _).alloc (Nat.le_refl _) _)
theorem ownV_one(b off s c K:Nat):∀u∈ownV b off s c K,u.oneCell'=true:=by
 intro u hu;obtain⟨i,_,rfl⟩:=List.mem_map.1 hu;rfl
theorem split_open(b off s c K n:Nat)(hn:Hid (n=K*s))(hs:1<=s)(hn2:n<=65536)(hK1:1<=K)(hK:K<=65536)(hc:n<=c)(hc2:c<=9223372036854775807)(w:World):
  Calls Try.prog 79 #[.slice (some ⟨b,off,none⟩) n c,.int .i64 s] w fun e w'=>
   ∃gO capO cur,e= .returned (.slice (some ⟨gO,0,none⟩) K capO)/\qS w' gO 36 cur/\cur.take K=ownV b off s c K/\w.heap.size<=gO/\Below w.heap.size w w':=by
 refine(split_walk b off s c K n hn hs hn2 hK hc hc2 w).mono ?_;rintro e w' ⟨v,rfl,ho,hf,hb⟩;obtain⟨g,cap,cur,rfl,hr,h1,h2,h3,h4⟩:=ho.open' (by rw[ownV_length];omega);rw[ownV_length]at h4;exact⟨g,cap,cur,by rw[ownV_length],hr,h4,hf g rfl,hb⟩
set_option maxRecDepth 20000 in
theorem pieces_walk(b off s c K n m p T:Nat)(D blk:List Nat)(hl:Hid (blk.length=K*s))(hn:Hid (n=K*s))(hx:∀x∈blk,x<256)(hs:1<=s)(hs2:s<=16)(hK1:1<=K)(hK:K<=20)(hp:p<=20)(hn2:n<=65536)(hnc:n<=c)(hc2:c<=9223372036854775807)
  (hT:(K:Int)+(p:Int)=(T:Int))(w:World)(hb:qS w b 5 (u8s D))(hD:Hid (∀q,q<n->D[off+q]? =blk[q]?)):
  Calls Try.prog 65 #[.slice (some ⟨b,off,none⟩) n c,.agg #[.int .i64 s,.int .i64 m,.int .i64 p]] w fun e w'=>
   ∃g cap cur,e= .returned (.slice (some ⟨g,0,none⟩) T cap)/\qS w' g 36 cur/\w.heap.size<=g/\Below w.heap.size w w'/\
    ∀q,q<T->∃sv,cur[q]? =some sv/\PieceAt w' sv s (Pk.pieceN blk s K q):=by
 obtain⟨i0,hi,hz0,hz1,hz2⟩:=info_parts Try.infoBytes;have hb0:=hide ((Below.refl w.heap.size w).alloc (Nat.le_refl _) (.cells #[.int .i64 s,.int .i64 m,.int .i64 p] 30));have HB:=hide hb;have hblt:=hb.lt;clear hb;have hKs:Hid (∀i,i<K->i*s+s<=n):=by
  intro i hi;have:=Nat.mul_le_mul_right s hi;rw[Nat.succ_mul]at this;have:=hn.out;omega
 go_enter Try.func65,Try.ntmps65;go_wp2_with first|(at_make;refine wpList_mk _ rfl _ _ 33 rfl 36 i0 (.slice none 0 0) Try.underlying33 hi hz0 hz1 rfl .i64 .i64 0 T rfl rfl (by omega) (by rw[hz2];omega) (by omega) ?_)|(at_builtin;refine wpList_app _ rfl _ _ 33 rfl 36 i0 (.slice none 0 0) 24 Try.underlying33 hi hz0 hz1 hz2 rfl _ [] rfl (ownS_made w1 36 (.slice none 0 0) T (by unfold maxLen;omega)) ⟨gO,0,none⟩ K capO (ownV b off s c K) rfl (ownV_length b off s c K) (own_news (hO.out.alloc _) htk.out (ownV_length b off s c K)) (ownV_one b off s c K) (by simp[maxLen];omega) (by simp;omega) ?_)|(go_at_call 79;refine(split_open b off s c K n hn hs hn2 hK1 (by omega) hnc hc2 _).mono ?_;rintro _ w1 ⟨gO,capO,cur,rfl,hO,htk,hgO,hb1⟩;have c0:=cell_later hb1 (cell3_0 w _ _ _ _);have c2:=cell_later hb1 (cell3_2 w _ _ _ _);replace hb1:=hide hb1;replace hO:=hide hO;replace htk:=hide htk)
 intro v6 w2 happ;have hw1:w.heap.size<w1.heap.size:=by have:=hb1.out.size;simp at this;omega
 have hb2:Below w1.heap.size w1 w2:=happ.below ((Below.refl _ _).alloc (Nat.le_refl _) _) (by simp) (by intro k hk;simp[Value.ownBlock]at hk;omega);have hf2:∀k,v6.ownBlock=some k->w1.heap.size<=k:=happ.from (by simp) (by intro k hk;simp[Value.ownBlock]at hk;omega);have hB1:qS w1 b 5 (u8s D):=(HB.out.later hb0.out).later hb1.out;have hp2:∀q,q<K+0->∃sv,(ownV b off s c K)[q]? =some sv/\PieceAt w2 sv s (Pk.pieceN blk s K q):=by
  intro q hq;refine⟨_,ownV_at (by omega),b,off+q*s,c-q*s,u8s D,rfl,?_,by omega,hB1.later hb2,?_⟩
  ·have:=hKs.out q (by omega);omega
  ·intro j hj;have h1:=hKs.out q (by omega);have h2:=hD.out (q*s+j) (by omega);have h3:q*s+j<blk.length:=by have:=hl.out;have:=hn.out;omega
   unfold Pk.pieceN;rw[if_pos (by omega),Pk.piece_at hj];rw[Nat.add_assoc];have h4:D[off+(q*s+j)]? =some (blk[q*s+j]?.getD 0):=by rw[h2];exact getD_some h3
   simp[u8s,h4]
 have hO2:=happ.own;rw[List.nil_append]at hO2;have HO2:=hide hO2;have HB2:=hide hb2;have HF2:=hide hf2;have HP2:=hide hp2
 have hlV:Hid ((ownV b off s c K).length=K+0):=ownV_length _ _ _ _ _;have hC0:Hid (w1.cell? ⟨w.heap.size,0,none⟩=some (.int .i64 s)):=c0;have hC2:Hid (w1.cell? ⟨w.heap.size,2,none⟩=some (.int .i64 p)):=c2;have d2:w2.cell? ⟨w.heap.size,2,none⟩=some (.int .i64 p):=(hb2.cell (by exact hw1)).trans c2;clear happ hO2 hb2 hf2 hp2 c0 c2;go_wp2;go_loopw [6,23] (fun v x wr=>∃(j:Nat) (vs:List Value),j<=p/\x= .int .i64 j/\OwnS wr 36 v vs/\Hid (vs.length=K+j)/\(∀k,v.ownBlock=some k->w1.heap.size<=k)/\Below w1.heap.size w1 wr/\
   ∀q,q<K+j->∃sv,vs[q]? =some sv/\PieceAt wr sv s (Pk.pieceN blk s K q))
  (fun _ x _=>leftOf p (intOf x).toNat)
 case atStart=>exact⟨0,_,by omega,rfl,HO2.out,hlV,HF2.out,HB2.out,HP2.out⟩
 case round=>
  obtain⟨j,vs,hj,rfl,hown,hlen,hbk,hbw,hps⟩:=hrel;clear d2;by_cases hlt:j<p
  ·have d0:wr.cell? ⟨w.heap.size,0,none⟩=some (.int .i64 s):=(hbw.cell (by exact hw1)).trans hC0.out;have hwr:=hbw.size;have hSp:Hid (Calls Try.prog 80 #[.slice (some ⟨gO,0,none⟩) K capO,.int .i64 j,.int .i64 s] wr fun e w'=>
     e= .returned (.slice (some ⟨wr.heap.size,0,none⟩) s s)/\Below wr.heap.size wr w'/\qS w' wr.heap.size 5 (u8s (Pk.sumTo blk s j K))):=by
    refine spare_walk b off s c K j gO capO cur blk hl hx (by omega) (by omega) hs (by omega) wr (hO.out.below hbw hO.out.lt) htk ?_ ?_
    ·have:=hb0.out.size;have:=hb1.out.size;simp at this;omega
    ·intro q hq;have hq':q<n:=by have:=hn.out;omega
     apply (hB1.below hbw hB1.lt).cell;have h2:=hD.out q hq';have h4:D[off+q]? =some (blk[q]?.getD 0):=by rw[h2];exact getD_some (by have:=hl.out;omega)
     simp[u8s,h4]
   have HOw:=hide hown;have HBk:=hide hbk;have HBw:=hide hbw;have HPs:=hide hps
   clear hown hbk hbw hps;go_wp2_with first|(go_at_call 80;refine hSp.out.mono ?_;rintro _ w3 ⟨rfl,hb3,hr3⟩;replace hb3:=hide hb3;replace hr3:=hide hr3)|(at_builtin;refine wpList_app _ rfl _ _ 33 rfl 36 i0 (.slice none 0 0) 24 Try.underlying33 hi hz0 hz1 hz2 rfl _ vs rfl ((HOw.out.later hb3.out).alloc _) ⟨w3.heap.size,0,none⟩ 1 1 [.slice (some ⟨wr.heap.size,0,none⟩) s s] rfl rfl (cell_one_new _ _ _) (by intro u hu;simp at hu;subst hu;rfl) (by rw[hlen.out];unfold maxLen;omega) (by rw[hlen.out];omega) ?_)
   intro v' w4 happ;have HA:=hide happ;clear happ;go_wp2;go_roundw
   case rel=>
    have hs3:=hb3.out.size;have hbase:w1.heap.size<=(w3.alloc (.cells #[.slice (some ⟨wr.heap.size,0,none⟩) s s] 36)).heap.size:=by simp;omega
    have hbw3:Below w1.heap.size w1 w3:=HBw.out.trans (hb3.out.mono hwr);have hown3:=(HOw.out.later hb3.out).alloc (.cells #[.slice (some ⟨wr.heap.size,0,none⟩) s s] 36);refine⟨j+1,_,by omega,by go_num,HA.out.own,?_,HA.out.from hbase HBk.out,HA.out.below (hbw3.alloc (by omega) _) hbase HBk.out,?_⟩
    ·show(vs++_).length=K+(j+1);rw[List.length_append,hlen.out];rfl
    ·intro q hq;by_cases hq2:q<K+j
     ·obtain⟨sv,h1,h2⟩:=HPs.out q hq2;refine⟨sv,?_,((h2.later hb3.out).alloc _).app HA.out hown3 (by decide)⟩;rw[List.getElem?_append_left (by rw[hlen.out];exact hq2)];exact h1
     ·have hq3:q=K+j:=by omega
      subst hq3;refine⟨.slice (some ⟨wr.heap.size,0,none⟩) s s,?_,?_⟩
      ·rw[List.getElem?_append_right (by rw[hlen.out];omega),hlen.out,Nat.sub_self];rfl
      ·have hpa:PieceAt w3 (.slice (some ⟨wr.heap.size,0,none⟩) s s) s (Pk.pieceN blk s K (K+j)):=by
        refine⟨wr.heap.size,0,s,_,rfl,Nat.le_refl _,by omega,hr3.out,?_⟩;intro q hq;unfold Pk.pieceN;rw[if_neg (by omega),Nat.add_sub_cancel_left,Nat.zero_add];exact u8s_at (by rw[Pk.sumTo_length hl.out K (Nat.le_refl _)];exact hq)
       exact(hpa.alloc _).app HA.out hown3 (by decide)
   case measure=>refine qD ?_ ?_<;>simp only[intOf]<;>omega
  ·have e:j=p:=by omega
   subst e;obtain⟨g,cap,cur2,rfl,hr,h1,h2,h3,h4⟩:=hown.open' (by rw[hlen.out];omega);have eT:Hid (vs.length=T):=by show vs.length=T;rw[hlen.out];omega
   have hps':∀q,q<T->∃sv,cur2[q]? =some sv/\PieceAt wr sv s (Pk.pieceN blk s K q):=by
    intro q hq;obtain⟨sv,k1,k2⟩:=hps q (by omega);exact⟨sv,take_at h4 k1,k2⟩
   have HR:=hide hr;have HBw:=hide hbw;have HPs:=hide hps'
   have hg:=hbk g rfl;rw[eT.out];clear hown hr hbk hbw hps hps' h1 h2 h3 h4;go_wp2;go_ret;refine⟨g,cap,cur2,rfl,HR.out,by omega,?_,HPs.out⟩;exact(hb0.out.trans (hb1.out.mono (by simp))).trans (HBw.out.mono (by omega))
theorem wrap_u8_mod(x:Nat):IntKind.u8.wrap (x:Int)=((x%256:Nat):Int):=by
 simp[IntKind.wrap,IntKind.bits,IntKind.signed]
theorem appendPair_walk(g n c x:Nat)(L:List Value)(hx:x<65536)(hL:Hid (L.length=c))(hd:Hid ((L.drop n).take 2= [.int .u8 ((x/256:Nat):Int),.int .u8 ((x%256:Nat):Int)]))(hroom:n+2<=c)(w:World)(hr:qS w g 5 (fill L (.int .u8 0) n)):
  Calls Try.prog 81 #[.slice (some ⟨g,0,none⟩) n c,.int .i64 x] w fun e w'=>
   e= .returned (.slice (some ⟨g,0,none⟩) (n+2) c)/\w.grownBy w' (some g)/\qS w' g 5 (fill L (.int .u8 0) (n+2)):=by
 obtain⟨i0,hi,hz0,hz1,hz2⟩:=info_parts Try.infoByte;have hw1:IntKind.u8.wrap ((x:Int)/256)=((x/256:Nat):Int):=by
  have e:(x:Int)/256=((x/256:Nat):Int):=by omega
  rw[e,wrap_u8_in _ (by omega) (by omega)]
 have hw2:IntKind.u8.wrap (x:Int)=((x%256:Nat):Int):=wrap_u8_mod x;have HR:=hide hr;have hglt:=hr.lt;clear hr;go_enter Try.func81,Try.ntmps81;go_wp2_with (at_builtin;refine wpList_fill _ rfl _ _ 36 rfl 5 i0 Try.underlying36 hi hz1 g n c L (.int .u8 0) rfl hL.out (HR.out.alloc _) ⟨w.heap.size,0,none⟩ 2 2 [.int .u8 ((x/256:Nat):Int),.int .u8 ((x%256:Nat):Int)] rfl rfl (cell_two_new _ _ _ _) (by intro u hu;simp at hu;rcases hu with rfl|rfl<;>rfl) hd.out hroom ?_)
 intro w1 h1 h2;have H1:=hide h1;have H2:=hide h2
 clear h1 h2;go_wp2;go_ret;exact⟨rfl,grownBy_trans (World.grownBy_alloc _ _ _) H2.out,H1.out⟩
structure PSt(w:World)(BX L:List Value)(n:Nat)(wk:World):Prop where
 row:qS wk (w.heap.size+1) 5 (fill L (.int .u8 0) n)
 box:qS wk w.heap.size 83 BX
 below:Below w.heap.size w wk
theorem PSt.alloc{w wk:World}{BX L:List Value}{n:Nat}(h:PSt w BX L n wk)(o:Obj):PSt w BX L n (wk.alloc o):=
 ⟨h.row.alloc o,h.box.alloc o,h.below.alloc h.below.size o⟩
theorem PSt.step{w wk w':World}{BX L:List Value}{n k:Nat}(h:PSt w BX L n wk)(hg:wk.grownBy w' (some (w.heap.size+1)))(hr:qS w' (w.heap.size+1) 5 (fill L (.int .u8 0) k)):PSt w BX L k w':=
 ⟨hr,h.box.of_block (hg.block _ h.box.lt (by simp)),h.below.grown hg h.below.size (by intro q hq;simp at hq;omega)⟩
set_option maxRecDepth 20000 in
set_option maxHeartbeats 1000000 in
theorem pack_walk(b off cap id len s m p z q c:Nat)(bs:List Nat)(hid:id<65536)(hlen:len<65536)(hs1:1<=s)(hs:s<=16)(hm:m<256)(hp:p<256)(hz:z<256)(hq:q<256)(hc:(10:Int)+(s:Int)=(c:Int))
  (hl:Hid (bs.length=s))(w:World)(hcl:∀j,j<s->w.cell? ⟨b,off+j,none⟩=some (.int .u8 ((bs[j]?.getD 0:Nat):Int))):
  Calls Try.prog 66 #[.agg #[.int .i64 id,.int .i64 len,.int .i64 s,.int .i64 m,.int .i64 p,.int .i64 z,.int .i64 q],.slice (some ⟨b,off,none⟩) s cap] w fun e w'=>
   ∃g,e= .returned (.slice (some ⟨g,0,none⟩) c c)/\w.heap.size<=g/\Below w.heap.size w w'/\qS w' g 5 (u8s (Pk.packet id len s m p z q bs)):=by
 obtain⟨i0,hi,hz0,hz1,hz2⟩:=info_parts Try.infoByte;have hP:Hid ((u8s (Pk.packet id len s m p z q bs)).length=c):=by
  show _=_;rw[u8s_length];simp[Pk.packet,Pk.head,hl.out];omega
 have hu:Hid (u8s (Pk.packet id len s m p z q bs)= [.int .u8 70,.int .u8 ((id/256:Nat):Int),.int .u8 ((id%256:Nat):Int),.int .u8 ((len/256:Nat):Int),.int .u8 ((len%256:Nat):Int),.int .u8 s,.int .u8 m,.int .u8 p,.int .u8 z,.int .u8 q]++u8s bs):=by
  show _=_;simp[u8s,Pk.packet,Pk.head]
 revert hP hu;generalize u8s (Pk.packet id len s m p z q bs)=L;intro hP hu;have hblt:b<w.heap.size:=block_lt_of_cell (hcl 0 (by omega));have HC:=hide hcl;clear hcl;have hc':Hid (c=10+s):=by show c=10+s;omega
 have hs0:PSt w [.int .i64 id,.int .i64 len,.int .i64 s,.int .i64 m,.int .i64 p,.int .i64 z,.int .i64 q] L 0
   ((w.alloc (.cells #[.int .i64 id,.int .i64 len,.int .i64 s,.int .i64 m,.int .i64 p,.int .i64 z,.int .i64 q] 83)).alloc (.cells (madeCells #[.int .u8 0] c) 5)):=by
  refine⟨?_,(rowL_alloc' w _ _).alloc _,((Below.refl w.heap.size w).alloc (Nat.le_refl _) _).alloc (by simp) _⟩;have:=rowL_made (w.alloc (.cells #[.int .i64 id,.int .i64 len,.int .i64 s,.int .i64 m,.int .i64 p,.int .i64 z,.int .i64 q] 83)) (.int .u8 0) c 5;rw[fill_zero,hP.out];simpa using this
 have S0:=hide hs0;clear hs0;have ws:IntKind.u8.wrap (s:Int)=(s:Int):=wrap_u8_in _ (by omega) (by omega);have wm:IntKind.u8.wrap (m:Int)=(m:Int):=wrap_u8_in _ (by omega) (by omega);have wp:IntKind.u8.wrap (p:Int)=(p:Int):=wrap_u8_in _ (by omega) (by omega);have wz:IntKind.u8.wrap (z:Int)=(z:Int):=wrap_u8_in _ (by omega) (by omega);have wq:IntKind.u8.wrap (q:Int)=(q:Int):=wrap_u8_in _ (by omega) (by omega);go_enter Try.func66,Try.ntmps66;go_wp2_with first|(at_make;refine wpList_mk _ rfl _ _ 36 rfl 5 i0 (.int .u8 0) Try.underlying36 hi hz0 hz1 rfl .i64 .i64 0 c rfl rfl (by omega) (by rw[hz2];omega) (by omega) ?_)|(at_builtin;refine wpList_fill _ rfl (.tmp 10) (.tmp 11) 36 rfl 5 i0 Try.underlying36 hi hz1 (w.heap.size+1) 0 c L (.int .u8 0) (by simp[Act.eval]) hP.out (S0.out.alloc _).row ⟨_,0,none⟩ 1 1 [.int .u8 70] rfl rfl (news_at _ _ _ _ (by simp)) (by intro u hu;simp at hu;subst hu;rfl) (by rw[hu.out];rfl) (by omega) ?_)
 intro w1 hr1 hg1;have hs1':=(S0.out.alloc (.cells #[.int .u8 70] 5)).step hg1 hr1;have S1:=hide hs1';have e0:=hs1'.box.cell 0 _ rfl;have P1:=hide (appendPair_walk (w.heap.size+1) 1 c id L hid hP (by show _=_;rw[hu.out];rfl) (by omega) w1 hs1'.row);clear hr1 hg1 hs1';go_wp2_with fail
 refine P1.out.mono ?_;rintro _ w2 ⟨rfl,hg2,hr2⟩;have hs2:=S1.out.step hg2 hr2;have S2:=hide hs2;have e1:=hs2.box.cell 1 _ rfl;have P2:=hide (appendPair_walk (w.heap.size+1) 3 c len L hlen hP (by show _=_;rw[hu.out];rfl) (by omega) w2 hs2.row);clear hg2 hr2 hs2 e0 P1;go_wp2_with fail
 refine P2.out.mono ?_;rintro _ w3 ⟨rfl,hg3,hr3⟩;have hs3:=S2.out.step hg3 hr3;have S3:=hide hs3;have e2:=hs3.box.cell 2 _ rfl;have e3:=hs3.box.cell 3 _ rfl;have e4:=hs3.box.cell 4 _ rfl;clear hg3 hr3 hs3 e1 P2;go_wp2_with (at_builtin;refine wpList_fill _ rfl (.tmp 21) (.tmp 34) 36 rfl 5 i0 Try.underlying36 hi hz1 (w.heap.size+1) 5 c L (.int .u8 0) (by simp[Act.eval]) hP.out (S3.out.alloc _).row ⟨_,0,none⟩ 3 3 [.int .u8 s,.int .u8 m,.int .u8 p] rfl rfl (news_at _ _ _ _ (by simp)) (by intro u hu;simp at hu;rcases hu with rfl|rfl|rfl<;>rfl) (by rw[hu.out];rfl) (by omega) ?_)
 intro w4 hr4 hg4;have hs4:=(S3.out.alloc (.cells #[.int .u8 s,.int .u8 m,.int .u8 p] 5)).step hg4 hr4;have S4:=hide hs4;have e5:=hs4.box.cell 5 _ rfl;have e6:=hs4.box.cell 6 _ rfl;clear hg4 hr4 hs4 e2 e3 e4;go_wp2_with (at_builtin;refine wpList_fill _ rfl (.tmp 36) (.tmp 43) 36 rfl 5 i0 Try.underlying36 hi hz1 (w.heap.size+1) 8 c L (.int .u8 0) (by simp[Act.eval]) hP.out (S4.out.alloc _).row ⟨_,0,none⟩ 2 2 [.int .u8 z,.int .u8 q] rfl rfl (news_at _ _ _ _ (by simp)) (by intro u hu;simp at hu;rcases hu with rfl|rfl<;>rfl) (by rw[hu.out];rfl) (by omega) ?_)
 intro w5 hr5 hg5;have hs5:=(S4.out.alloc (.cells #[.int .u8 z,.int .u8 q] 5)).step hg5 hr5;have S5:=hide hs5;have hnw:Hid (∀j u,(u8s bs)[j]? =some u->w5.cell? ((⟨b,off,none⟩:Addr).add j)=some u):=by
  intro j u hju;have hj:j<s:=by
   have:=(List.getElem?_eq_some_iff.1 hju).1;rw[u8s_length,hl.out]at this;exact this
  rw[u8s_at (by rw[hl.out];exact hj)]at hju;rw[Addr.add_lit,<-hju];exact(hs5.below.cell (by exact hblt)).trans (HC.out j hj)
 clear hg5 hr5 hs5 e5 e6;go_wp2_with (at_builtin;refine wpList_fill _ rfl (.tmp 45) (.tmp 46) 36 rfl 5 i0 Try.underlying36 hi hz1 (w.heap.size+1) 10 c L (.int .u8 0) (by simp[Act.eval]) hP.out S5.out.row ⟨b,off,none⟩ s cap (u8s bs) rfl (by rw[u8s_length,hl.out]) hnw.out (by intro u hu;obtain⟨x,_,rfl⟩:=List.mem_map.1 hu;rfl) (by rw[hu.out];show(u8s bs).take s=u8s bs;rw[List.take_of_length_le (by rw[u8s_length,hl.out];omega)]) (by omega) ?_)
 intro w6 hr6 hg6;have hs6:=S5.out.step hg6 hr6;have S6:=hide hs6;clear hg6 hr6 hs6;go_wp2;go_ret;refine⟨w.heap.size+1,?_,by omega,S6.out.below,?_⟩
 ·show Ending.returned (.slice (some ⟨w.heap.size+1,0,none⟩) (10+s) c)=_;rw[<-hc'.out]
 ·have h:=S6.out.row;rw[<-hc'.out,<-hP.out,fill_all]at h;exact h
def ObjAt(w:World)(ao:Option Addr)(n:Nat)(obj:List Nat):Prop:=
 obj.length=n/\(∀x∈obj,x<256)/\(0<n->∃b off,ao=some ⟨b,off,none⟩/\∀j,j<n->w.cell? ⟨b,off+j,none⟩=some (.int .u8 ((obj[j]?.getD 0:Nat):Int)))
theorem ObjAt.later{w w':World}{ao:Option Addr}{n:Nat}{obj:List Nat}(h:ObjAt w ao n obj)(hb:Below w.heap.size w w'):ObjAt w' ao n obj:=by
 refine⟨h.1,h.2.1,fun hn=>?_⟩;obtain⟨b,off,e,hc⟩:=h.2.2 hn;exact⟨b,off,e,fun j hj=>cell_later hb (hc j hj)⟩
theorem Pk.filled_length{obj:List Nat}{M:Nat}(h:obj.length<=M):(Pk.filled obj M).length=M:=by simp[Pk.filled];omega
theorem Pk.filled_lt{obj:List Nat}{M:Nat}(h:∀x∈obj,x<256):∀x∈Pk.filled obj M,x<256:=by
 intro x hx;simp only[Pk.filled,List.mem_append,List.mem_replicate]at hx;rcases hx with hx|⟨_,rfl⟩
 ·exact h x hx
 ·decide
theorem sum_take_succ{l:List Nat}{k x:Nat}(h:l[k]? =some x):(l.take (k+1)).sum=(l.take k).sum+x:=by
 rw[<-take_snoc h,List.sum_append];simp
theorem sum_take_le(l:List Nat)(k:Nat):(l.take k).sum<=l.sum:=by
 have:(l.take k).sum+(l.drop k).sum=l.sum:=by rw[<-List.sum_append,List.take_append_drop]
 omega
set_option maxRecDepth 20000 in
theorem fillUp_walk(ao:Option Addr)(n cap gB Z capB s N M:Nat)(obj L:List Nat)(hLz:Hid (L.length=Z))(hN:Hid (L.sum=N))(hN2:N<=4096)(hM:(N:Int)*(s:Int)=(M:Int))(hM2:M<=65536)(hnM:n<=M)(hZ:Z<=4096)(w:World)
  (hobj:ObjAt w ao n obj)(hB:qS w gB 3 (i64s L)):
  Calls Try.prog 46 #[.slice ao n cap,.slice (some ⟨gB,0,none⟩) Z capB,.int .i64 s] w fun e w'=>
   e= .returned (.slice (some ⟨w.heap.size,0,none⟩) M M)/\Below w.heap.size w w'/\qS w' w.heap.size 5 (u8s (Pk.filled obj M)):=by
 obtain⟨i0,hi,hz0,hz1,hz2⟩:=info_parts Try.infoByte;have HB:=hide hB;have HO:=hide hobj
 clear hB hobj;go_enter Try.func46,Try.ntmps46;go_wp2;go_loop [7,13] (fun v x=>∃k t:Nat,k<=Z/\x= .int .i64 k/\v= .int .i64 t/\t<=4096/\Hid (t=(L.take k).sum)) (fun _ x=>leftOf Z (intOf x).toNat)
 case atStart=>exact⟨0,0,by omega,rfl,rfl,by omega,show 0=_ by simp⟩
 case round=>
  obtain⟨k,t,hk,rfl,rfl,ht,hsum⟩:=hrel;by_cases hlt:k<Z
  ·have hlk:k<L.length:=by rw[hLz.out];exact hlt
   have hc:w.cell? ⟨gB,k,none⟩=some (.int .i64 ((L[k]?.getD 0:Nat):Int)):=HB.out.cell k _ (i64s_at hlk);have hS:Hid (t+L[k]?.getD 0=(L.take (k+1)).sum):=by
    show _=_;rw[sum_take_succ (getD_some hlk),hsum.out]
   have hle:t+L[k]?.getD 0<=4096:=by
    rw[hS.out];have:=sum_take_le L (k+1);rw[hN.out]at this;omega
   revert hc hS hle;generalize L[k]?.getD 0=x;intro hc hS hle;clear hlk;go_wp2;go_round
   case rel=>exact⟨k+1,t+x,by omega,by go_num,by go_num,hle,hS⟩
   case measure=>refine qD ?_ ?_<;>simp only[intOf]<;>omega
  ·have e:k=Z:=by omega
   have e2:t=N:=by rw[hsum.out,e,<-hLz.out,List.take_length];exact hN.out
   subst e2;subst e;have ho1:=HO.out.1;have hsrc:Hid (0<(u8s obj).length->(some (⟨w.heap.size,0,none⟩:Addr)=some ⟨w.heap.size,0,none⟩)/\∃ad,ao=some ad/\∀j v,(u8s obj)[j]? =some v->(w.alloc (.cells (madeCells #[.int .u8 0] M) 5)).cell? (ad.add j)=some v):=by
    intro hpos;rw[u8s_length,ho1]at hpos;obtain⟨b,off,e,hc⟩:=HO.out.2.2 hpos;refine⟨rfl,_,e,?_⟩;intro j v hjv;have hj:j<n:=by
     have:=(List.getElem?_eq_some_iff.1 hjv).1;rw[u8s_length,ho1]at this;exact this
    rw[u8s_at (by rw[ho1];exact hj)]at hjv;rw[Addr.add_lit,<-hjv];exact cell_later ((Below.refl _ _).alloc (Nat.le_refl _) _) (hc j hj)
   have hlen:Hid ((u8s obj).length=n):=by show _=_;rw[u8s_length,ho1]
   have hrow:Hid (qS (w.alloc (.cells (madeCells #[.int .u8 0] M) 5)) w.heap.size 5 (List.replicate M (.int .u8 0))):=rowL_made _ _ _ _;clear ho1;go_wp2_with first|(at_make;refine wpList_mk _ rfl _ _ 36 rfl 5 i0 (.int .u8 0) Try.underlying36 hi hz0 hz1 rfl .i64 .i64 M M rfl rfl (by omega) (by rw[hz2];omega) (by omega) ?_)|(refine wpList_copy_splice rfl (.tmp 25) (.tmp 26) 36 36 rfl 5 Try.underlying36 (by kernel_rfl) _ _ M M n cap rfl rfl w.heap.size 0 _ 5 hrow.out (u8s obj) (by rw[hlen.out];show n=min n M;omega) hsrc.out (by rw[hlen.out];simp;omega) (by intro u hu;obtain⟨x,_,rfl⟩:=List.mem_map.1 hu;rfl) w.heap.size w ((Below.refl _ _).alloc (Nat.le_refl _) _) (Nat.le_refl _) ?_)
   intro w1 hr1 hb1;have hr1':Hid (qS w1 w.heap.size 5 (u8s (Pk.filled obj M))):=by
    have h:=hr1.out;have e:splice (List.replicate M (Value.int .u8 0)) 0 (u8s obj)=u8s (Pk.filled obj M):=by
     simp[splice,u8s,Pk.filled]
    rw[e]at h;exact h
   have HB1:=hide hb1;clear hr1 hb1;go_wp2;go_ret;exact⟨rfl,HB1.out,hr1'.out⟩
def packV(c g:Nat):Value:=.slice (some ⟨g,0,none⟩) c c
structure Packs(w:World)(B:Nat)(v:Value)(c:Nat)(ps:List (List Nat))(gs:List Nat):Prop where
 own:OwnS w 36 v (gs.map (packV c))
 len:gs.length=ps.length
 row:∀(i g:Nat) (bs:List Nat),gs[i]? =some g->ps[i]? =some bs->qS w g 5 (u8s bs)
 from_:∀g∈gs,B<=g
 nodup:gs.Nodup
 at_:∀k,v.ownBlock=some k->B<=k
theorem Packs.has{w:World}{B:Nat}{v:Value}{c:Nat}{ps:List (List Nat)}{gs:List Nat}(h:Packs w B v c ps gs){g:Nat}(hg:g∈gs):∃bs,qS w g 5 (u8s bs):=by
 obtain⟨i,hi,rfl⟩:=List.mem_iff_getElem.1 hg;have hi':i<ps.length:=by rw[<-h.len];exact hi
 exact⟨ps[i],h.row i _ _ (by simp[hi]) (by simp[hi'])⟩
theorem Packs.lt{w:World}{B:Nat}{v:Value}{c:Nat}{ps:List (List Nat)}{gs:List Nat}(h:Packs w B v c ps gs){g:Nat}(hg:g∈gs):g<w.heap.size:=by
 obtain⟨bs,hr⟩:=h.has hg;exact hr.lt
theorem Packs.of_block{w w':World}{B:Nat}{v:Value}{c:Nat}{ps:List (List Nat)}{gs:List Nat}(h:Packs w B v c ps gs)(hg:∀g∈gs,w'.heap[g]? =w.heap[g]?)(hv:∀k,v.ownBlock=some k->w'.heap[k]? =w.heap[k]?):Packs w' B v c ps gs:=
 ⟨h.own.of_block hv,h.len,fun i g bs h1 h2=>(h.row i g bs h1 h2).of_block (hg g (List.mem_of_getElem? h1)),h.from_,h.nodup,h.at_⟩
theorem Packs.later{w w':World}{B:Nat}{v:Value}{c:Nat}{ps:List (List Nat)}{gs:List Nat}(h:Packs w B v c ps gs)(hb:Below w.heap.size w w'):Packs w' B v c ps gs:=
 h.of_block (fun _ hg=>hb.block _ (h.lt hg)) (fun _ hk=>hb.block _ (h.own.lt hk))
theorem Packs.mono{w:World}{B B':Nat}{v:Value}{c:Nat}{ps:List (List Nat)}{gs:List Nat}(h:Packs w B v c ps gs)(hB:B'<=B):Packs w B' v c ps gs:=
 ⟨h.own,h.len,h.row,fun g hg=>Nat.le_trans hB (h.from_ g hg),h.nodup,fun k hk=>Nat.le_trans hB (h.at_ k hk)⟩
theorem Packs.nil(w:World)(B c:Nat):Packs w B (.slice none 0 0) c [] []:=
 ⟨ownS_nil _ _,rfl,by intro i g bs h;simp at h,by simp,List.nodup_nil,by intro k hk;simp[Value.ownBlock]at hk⟩
theorem Packs.setCell{w:World}{B:Nat}{v:Value}{c:Nat}{ps:List (List Nat)}{gs:List Nat}(h:Packs w B v c ps gs){b i:Nat}{t:TypeId}{L:List Value}(hb:qS w b t L)(h1:t≠(5:Nat))(h2:t≠(36:Nat))(u:Value):Packs (w.setCell ⟨b,i,none⟩ u) B v c ps gs:=by
 refine h.of_block (fun g hg=>?_) (fun k hk=>?_)
 ·obtain⟨bs,hr⟩:=h.has hg;exact blk_setCell_other _ _ _ _ (hr.ne_of_type hb (fun e=>h1 e.symm))
 ·refine blk_setCell_other _ _ _ _ (fun e=>?_);have e':k=b:=e;subst e';exact h.own.ne_type hb h2 hk
theorem Packs.step{w w3 w4:World}{B:Nat}{v v':Value}{c g:Nat}{ps:List (List Nat)}{gs bs:List Nat}{o:Obj}(h:Packs w B v c ps gs)(hb:Below w.heap.size w w3)(hg:qS w3 g 5 (u8s bs))(hge:w.heap.size<=g)(hB:B<=w.heap.size)
  (ha:AppTo (w3.alloc o) w4 36 v v' (gs.map (packV c)) [packV c g]):Packs w4 B v' c (ps++ [bs]) (gs++ [g]):=by
 have h3:=(h.later hb).later ((Below.refl _ _).alloc (Nat.le_refl _) o);have hB3:B<=(w3.alloc o).heap.size:=by have:=hb.size;simp;omega
 have hrow:∀g' bs',qS (w3.alloc o) g' 5 (u8s bs')->qS w4 g' 5 (u8s bs'):=fun g' bs' hr=>ha.other hr (h3.own.ne_type hr (by decide));refine⟨by have:=ha.own;simpa using this,by simp[h.len],?_,?_,?_,ha.from hB3 h.at_⟩
 ·intro i g' bs' h1 h2;by_cases hi:i<gs.length
  ·rw[List.getElem?_append_left hi]at h1;rw[List.getElem?_append_left (by rw[<-h.len];exact hi)]at h2;exact hrow _ _ (h3.row i g' bs' h1 h2)
  ·rw[List.getElem?_append_right (by omega)]at h1;rw[List.getElem?_append_right (by rw[<-h.len];omega)]at h2;have hi0:i-gs.length=0:=by
    rcases Nat.eq_zero_or_pos (i-gs.length)with h0|h0
    ·exact h0
    ·rw[List.getElem?_eq_none (by simp;omega)]at h1;simp at h1
   rw[hi0]at h1;rw[<-h.len,hi0]at h2;simp at h1 h2;subst h1 h2;exact hrow _ _ (hg.alloc o)
 ·intro g' hg';rcases List.mem_append.1 hg' with h1|h1
  ·exact h.from_ g' h1
  ·simp at h1;subst h1;omega
 ·rw[List.nodup_append];refine⟨h.nodup,by simp,?_⟩;intro a ha' b' hb' e;simp at hb';have:=h.lt ha';omega
set_option maxRecDepth 20000 in
set_option maxHeartbeats 1000000 in
theorem appendPackets_walk(b off c0 id len s m p z q0 K n T c B:Nat)(D blk gs:List Nat)(v:Value)(ps:List (List Nat))(hid:id<65536)(hlen:len<65536)(hs1:1<=s)(hs:s<=16)(hm:m<=20)(hp:p<=20)(hz:z<256)(hK1:1<=K)(hK:K<=20)
  (hl:Hid (blk.length=K*s))(hn:Hid (n=K*s))(hx:∀x∈blk,x<256)(hn2:n<=65536)(hnc:n<=c0)(hc2:c0<=9223372036854775807)(hT:(K:Int)+(p:Int)=(T:Int))(hc:(10:Int)+(s:Int)=(c:Int))(w:World)
  (hb:qS w b 5 (u8s D))(hD:Hid (∀q,q<n->D[off+q]? =blk[q]?))(hps:Packs w B v c ps gs)(hB:B<=w.heap.size)(hpl:ps.length<=65536):
  Calls Try.prog 47 #[v,.agg #[.int .i64 id,.int .i64 len,.int .i64 s,.int .i64 m,.int .i64 p,.int .i64 z,.int .i64 q0],.slice (some ⟨b,off,none⟩) n c0] w fun e w'=>
   ∃v' gs',e= .returned v'/\Packs w' B v' c (ps++Pk.ofBlock id len s m p z K blk) gs'/\Kp (fun k=>v.ownBlock=some k) w w':=by
 obtain⟨i0,hi,hz0,hz1,hz2⟩:=info_parts Try.infoBytes;have hb0:=hide ((Below.refl w.heap.size w).alloc (Nat.le_refl _) (.cells #[.int .i64 id,.int .i64 len,.int .i64 s,.int .i64 m,.int .i64 p,.int .i64 z,.int .i64 q0] 83));have hP:=hide (pieces_walk b off s c0 K n m p T D blk hl hn hx hs1 hs hK1 hK hp hn2 hnc hc2 hT (w.alloc (.cells #[.int .i64 id,.int .i64 len,.int .i64 s,.int .i64 m,.int .i64 p,.int .i64 z,.int .i64 q0] 83)) (hb.alloc _) hD);have hbx:=hide (rowL_alloc' w #[.int .i64 id,.int .i64 len,.int .i64 s,.int .i64 m,.int .i64 p,.int .i64 z,.int .i64 q0] 83);have HPS:=hide hps;clear hps hb;have hT':Hid (T=K+p):=by show T=K+p;omega
 have hc':Hid (c=10+s):=by show c=10+s;omega
 go_enter Try.func47,Try.ntmps47;go_wp2_with (go_at_call 65;refine hP.out.mono ?_;rintro _ w2 ⟨gP,capP,cur,rfl,hrP,hgP,hb2,hpc⟩;replace hrP:=hide hrP;replace hb2:=hide hb2;replace hpc:=hide hpc)
 have hw12:w.heap.size<w2.heap.size:=by have:=hb2.out.size;simp at this;omega
 have hgP':w.heap.size+1<=gP:=by simp at hgP;omega
 have hbx2:=hide (hbx.out.later hb2.out);have HPS2:=hide ((HPS.out.later hb0.out).later hb2.out);have hXP:Hid (¬(gP=w.heap.size\/v.ownBlock=some gP)):=by
  rintro(h|h)
  ·omega
  ·have:=HPS.out.own.lt h;omega
 have hXb:Hid (∀g L,qS w2 g 5 L->¬(g=w.heap.size\/v.ownBlock=some g)):=by
  rintro g L hr (h|h)
  ·subst h;exact absurd (hr.unique hbx2.out).1 (by decide)
  ·exact HPS2.out.own.ne_type hr (by decide) h
 clear hgP;go_loopw [0,14] (fun v' x wr=>∃(k x6:Nat) (gs':List Nat),k<=T/\x= .int .i64 k/\Packs wr B v' c (ps++(Pk.ofBlock id len s m p z K blk).take k) gs'/\Kp (fun k=>k=w.heap.size\/v.ownBlock=some k) w2 wr/\
   qS wr w.heap.size 83 [.int .i64 id,.int .i64 len,.int .i64 s,.int .i64 m,.int .i64 p,.int .i64 z,.int .i64 x6]/\(∀k,v'.ownBlock=some k->v.ownBlock=some k\/w2.heap.size<=k))
  (fun _ x _=>leftOf T (intOf x).toNat)
 case atStart=>exact⟨0,q0,gs,by omega,rfl,by simpa using HPS2.out,Kp.refl _ _,hbx2.out,fun k hk=>Or.inl hk⟩
 case round=>
  obtain⟨k,x6,gs',hk,rfl,hpk,hkp,hbox,hat⟩:=hrel;by_cases hlt:k<T
  ·obtain⟨sv,hcur,b',off',cap',L,rfl,q1,q2,q3,q4⟩:=hpc.out k hlt;have hcell:wr.cell? ⟨gP,k,none⟩=some (.slice (some ⟨b',off',none⟩) s cap'):=(hkp.row hrP.out hXP.out).cell k _ hcur;have hrL:=hkp.row q3 (hXb.out b' L q3);have hbb:b'≠w.heap.size:=fun e=>hXb.out b' L q3 (Or.inl e);have e0:=hbox.cell 0 _ rfl;have e1:=hbox.cell 1 _ rfl;have e2:=hbox.cell 2 _ rfl;have e3:=hbox.cell 3 _ rfl;have e4:=hbox.cell 4 _ rfl;have e5:=hbox.cell 5 _ rfl;have e6:=hbox.cell 6 _ rfl;have f6:=hbox.frozen 6;have hPk:=hide (pack_walk b' off' cap' id len s m p z k c (Pk.pieceN blk s K k) hid hlen hs1 hs (by omega) (by omega) hz (by omega) hc (Pk.pieceN_length hl.out) (wr.setCell ⟨w.heap.size,6,none⟩ (.int .i64 k)) (fun j hj=>(hrL.other hbb _).cell _ _ (q4 j hj)));have hpk':=hide (hpk.setCell (i:=6) hbox (by decide) (by decide) (.int .i64 k));have hlen':Hid ((gs'.map (packV c)).length<=65576):=by
    show _<=_;rw[List.length_map,hpk.len,List.length_append,List.length_take,Pk.ofBlock_length];omega
   have hkp':=hide (hkp.setCell (a:=⟨w.heap.size,6,none⟩) (Or.inl (Or.inl rfl)) (.int .i64 k));have hbox':=hide (hbox.set 6 (.int .i64 k));have hBw:B<=wr.heap.size:=by have:=hkp.size;omega
   have hszs:Hid ((wr.setCell ⟨w.heap.size,6,none⟩ (.int .i64 k)).heap.size=wr.heap.size):=by show _=_;simp[World.setCell]
   have HAT:=hide hat;clear hpk hkp hbox hat hcur q1 q2 q3 q4 hrL;go_wp2_with first|(go_at_call 66;refine hPk.out.mono ?_;rintro _ w3 ⟨g3,rfl,hg3,hb3,hr3⟩;replace hb3:=hide hb3;replace hr3:=hide hr3)|(at_builtin;refine wpList_app _ rfl _ _ 33 rfl 36 i0 (.slice none 0 0) 24 Try.underlying33 hi hz0 hz1 hz2 rfl _ (gs'.map (packV c)) rfl ((hpk'.out.later hb3.out).own.alloc _) ⟨w3.heap.size,0,none⟩ 1 1 [packV c g3] rfl rfl (news_at _ _ _ _ rfl) (by intro u hu;simp at hu;subst hu;rfl) (by have:=hlen'.out;unfold maxLen;omega) (by have:=hlen'.out;omega) ?_)
   intro v' w4 happ;have HA:=hide happ;clear happ;go_wp2;go_roundw
   case rel=>
    have hstep:=hpk'.out.step hb3.out hr3.out hg3 (by rw[hszs.out];exact hBw) HA.out;refine⟨k+1,k,gs'++ [g3],by omega,by go_num,?_,?_,?_,?_⟩
    ·rw[List.append_assoc,take_snoc (Pk.ofBlock_at (by have:=hT'.out;omega))]at hstep;exact hstep
    ·refine((hkp'.out.below hb3.out).alloc _).grown HA.out.grown ?_;intro q hq;rcases HAT.out q hq with h|h
     ·exact Or.inl (Or.inr h)
     ·exact Or.inr h
    ·have h1:=(hbox'.out.later hb3.out).alloc (.cells #[packV c g3] 36);exact HA.out.other h1 (((hpk'.out.later hb3.out).own.alloc _).ne_type h1 (by decide))
    ·intro q hq;rcases HA.out.block with h|h
     ·exact HAT.out q (h▸hq)
     ·rw[h]at hq;simp at hq;have h5:=hkp'.out.size;have h6:=hb3.out.size;right;omega
   case measure=>refine qD ?_ ?_<;>simp only[intOf]<;>omega
  ·have e:k=T:=by omega
   subst e;have hpk2:Hid (Packs wr B u0 c (ps++Pk.ofBlock id len s m p z K blk) gs'):=by
    have:(Pk.ofBlock id len s m p z K blk).take k=Pk.ofBlock id len s m p z K blk:=List.take_of_length_le (by rw[Pk.ofBlock_length,hT'.out];omega);rw[this]at hpk;exact hpk
   have HKP:=hide hkp;clear hpk hkp hbox hat;go_wp2;go_ret;refine⟨_,gs',rfl,hpk2.out,?_⟩;have h1:Kp (fun k=>v.ownBlock=some k) w w2:=(Kp.of_below hb0.out).below hb2.out;refine⟨HKP.out.os.trans h1.os,HKP.out.tape.trans h1.tape,HKP.out.output.trans h1.output,Nat.le_trans h1.size HKP.out.size,fun q hq hx=>?_⟩;refine(HKP.out.block q (by omega) ?_).trans (h1.block q hq hx);rintro(h|h)
   ·omega
   ·exact hx h
end Go.Proofs.Ytmfpiodlecapiaa
