import Derived.Test.YtmfpiodlecapiaaJ32
namespace Go.Proofs.Ytmfpiodlecapiaa
open Go.RowKit Go.Deep Go.Frag
attribute [local go_sem↓] Go.wp_at_zero Go.wp_at_succ
def ownUp(cur:List Value)(L:List Nat)(rg:Nat->Nat)(m s:Nat):Nat->List Value
 |0=>cur
 |k+1=>(ownUp cur L rg m s k).set (L[k]?.getD 0) (.slice (some ⟨rg k,m,none⟩) s s)
theorem ownUp_length(cur:List Value)(L:List Nat)(rg:Nat->Nat)(m s:Nat):∀k,(ownUp cur L rg m s k).length=cur.length
 |0=>rfl
 |k+1=>by rw[ownUp,List.length_set];exact ownUp_length cur L rg m s k
theorem ownUp_at{cur:List Value}{L:List Nat}{rg:Nat->Nat}{m s:Nat}(hL:∀t u,t<L.length->u<L.length->L[t]?.getD 0=L[u]?.getD 0->t=u):∀k,k<=L.length->∀i,i<cur.length->
  ((∀t,t<k->L[t]?.getD 0≠i)->(ownUp cur L rg m s k)[i]? =cur[i]?)/\∀t,t<k->L[t]?.getD 0=i->(ownUp cur L rg m s k)[i]? =some (.slice (some ⟨rg t,m,none⟩) s s)
 |0,_,i,_=>⟨fun _=>rfl,fun t ht=>by omega⟩
 |k+1,hk,i,hi=>by
  obtain⟨h1,h2⟩:=ownUp_at (rg:=rg) (m:=m) (s:=s) hL k (by omega) i hi;constructor
  ·intro h;rw[ownUp,List.getElem?_set_ne (h k (by omega))];exact h1 fun t ht=>h t (by omega)
  ·intro t ht e;by_cases etk:t=k
   ·subst etk;rw[ownUp,e,List.getElem?_set_self (by rw[ownUp_length];exact hi)]
   ·have hne:L[k]?.getD 0≠i:=fun e2=>etk (hL t k (by omega) (by omega) (e.trans e2.symm));rw[ownUp,List.getElem?_set_ne hne];exact h2 t (by omega) e
set_option maxRecDepth 20000 in
set_option maxHeartbeats 1000000 in
theorem block_p14{Kn Kr:Act->World->Prop}{K V n pb po cpp Dn gO capO capL m s c:Nat}{aL:Option Addr}{cur:List Value}{L:List Nat}{rv:Value}{rg:Nat->Nat}{w:World}{j3 j4 j5 j6 j7 j10 j12 j14 j15 j16 j17 j18 j19 j20 j21 j22 j23 j24 j25 j26 j27 j28 j29 j30 j31 j32 j33 j34 j35 j36 j37 j38 j39 j40 j41 j42 j43 j44 j45 j46 j47 j48 j49 j50 j51 j52 j53 j54 j55 j56 j57 j58 j59 j60 j61 j62 j63 j64 j65 j66 j67 j68 j69 j70 j71 j72 j73 j74 j75 j76 j77 j78 j79 j80 j81 j82:Value}(hs0:1<=s)(hc:Hid (m+s=c))(hm:Hid (L.length=m))(hmK:m<=20)(hLK:∀x∈L,x<K)(hKc:K<=cur.length)
  (hO:qS w gO 36 cur)(hL:0<m->∃gL curL,aL=some ⟨gL,0,none⟩/\gL≠gO/\qS w gL 3 curL/\curL.take m=i64s L)(hrv:RvAt w rv m c rg)(hrO:∀g,rv.ownBlock=some g->g≠gO)
  (hQ:∀(h16 h17 h63 h64 h65 h66 h67 h68 h69 h70 h71 h72 h73 h74 h75 h76 h77 h78 h79 h80:Value) (w':World),Kp (fun b=>b=gO) w w'->qS w' gO 36 (ownUp cur L rg m s m)->Kn ⟨#[.slice (some ⟨pb,po,none⟩) n cpp,.int .i64 V,.chan (some Dn),j3,j4,j5,j6,j7,.int .i64 K,.slice (some ⟨gO,0,none⟩) K capO,j10,.slice aL m capL,j12,rv,j14,j15,h16,h17,j18,j19,j20,j21,j22,j23,j24,j25,j26,j27,j28,j29,j30,j31,j32,j33,j34,j35,j36,j37,j38,j39,j40,j41,j42,j43,j44,j45,j46,j47,j48,j49,j50,j51,j52,j53,j54,j55,j56,j57,j58,j59,j60,j61,j62,h63,h64,h65,h66,h67,h68,h69,h70,h71,h72,h73,h74,h75,h76,h77,h78,h79,h80,j81,j82],[]⟩ w'):
  (pth [1,1,1,1,1,1,1,1,0] (Try.f85.body.getD .skip)).wp Try.prog (noPan Kn Kr) ⟨#[.slice (some ⟨pb,po,none⟩) n cpp,.int .i64 V,.chan (some Dn),j3,j4,j5,j6,j7,.int .i64 K,.slice (some ⟨gO,0,none⟩) K capO,j10,.slice aL m capL,j12,rv,j14,j15,j16,j17,j18,j19,j20,j21,j22,j23,j24,j25,j26,j27,j28,j29,j30,j31,j32,j33,j34,j35,j36,j37,j38,j39,j40,j41,j42,j43,j44,j45,j46,j47,j48,j49,j50,j51,j52,j53,j54,j55,j56,j57,j58,j59,j60,j61,j62,j63,j64,j65,j66,j67,j68,j69,j70,j71,j72,j73,j74,j75,j76,j77,j78,j79,j80,j81,j82],[]⟩ w:=by
 have HQ:=hide hQ;have HO:=hide hO;have HL:=hide hL
 obtain⟨ra,rcap,rfl,hrr⟩:=hrv;have HR:=hide hrr;have HRO:=hide hrO
 clear hQ hO hL hrr hrO;simp only[Try.f85,Option.getD_some,pth];go_wp2;go_loopw [65] (fun x wr=>∃k:Nat,k<=m/\x= .int .i64 k/\Kp (fun b=>b=gO) w wr/\qS wr gO 36 (ownUp cur L rg m s k))
  (fun x _=>leftOf m (intOf x).toNat)
 case atStart=>exact⟨0,by omega,rfl,Kp.refl _ _,HO.out⟩
 case round=>
  obtain⟨k,hk,rfl,hkp,hr⟩:=hrel;by_cases hlt:k<m
  ·obtain⟨gL,curL,rfl,hgne,hLr,hLt⟩:=HL.out (by omega);obtain⟨g,rfl,hcell,hng⟩:=HR.out (by omega);have hkL:k<L.length:=by rw[hm.out];exact hlt
   have hcL:wr.cell? ⟨gL,k,none⟩=some (.int .i64 ((L[k]?.getD 0:Nat):Int)):=by
    apply (hkp.row hLr (fun e=>hgne e)).cell;have:(curL.take m)[k]? =some (.int .i64 ((L[k]?.getD 0:Nat):Int)):=by rw[hLt];exact i64s_at hkL
    rw[List.getElem?_take,if_pos hlt]at this;exact this
   have hcR:wr.cell? ⟨g,k,none⟩=some (.slice (some ⟨rg k,0,none⟩) c c):=by
    have h1:=hcell k hlt;have e:=hkp.block g (cellLt h1) (fun e=>HRO.out g rfl e);unfold World.cell? at h1⊢;rw[e];exact h1
   have hxK:L[k]?.getD 0<K:=getD_lt hLK hkL;have hown:wr.cell? ⟨gO,L[k]?.getD 0,none⟩=some ((ownUp cur L rg m s k)[L[k]?.getD 0]'(by rw[ownUp_length];omega)):=hr.cell _ _ (List.getElem?_eq_getElem _);have hfz:=hr.frozen (L[k]?.getD 0);have hnx:Hid ((ownUp cur L rg m s k).set (L[k]?.getD 0) (.slice (some ⟨rg k,m,none⟩) s s)=ownUp cur L rg m s (k+1)):=rfl;have hKp:=hide hkp;have hRw:=hide hr
   clear hkp hr hLr hLt hcell hng hkL;generalize (ownUp cur L rg m s k)[L[k]?.getD 0]'(by rw[ownUp_length];omega)=ov at hown;generalize L[k]?.getD 0=x at hcL hxK hown hfz hnx;have hk0:(0:Int)<=(k:Int):=by omega
   have hk1:(k:Int)<(m:Int):=by omega
   have hx0:(0:Int)<=(x:Int):=by omega
   have hx1:(x:Int)<(K:Int):=by omega
   have hm0:(0:Int)<=(m:Int):=by omega
   have hmc:(m:Int)<=(c:Int):=by have:=hc.out;omega
   have hcs1:c-m=s:=by have:=hc.out;omega
   have hcs2:(c:Int)-(m:Int)=(s:Int):=by have:=hc.out;omega
   have hcm:¬c=m:=by have:=hc.out;omega
   go_wp2;go_roundw
   case rel=>
    refine⟨k+1,by omega,by go_num,hKp.out.setCell (.inl rfl) _,?_⟩;have:=hRw.out.set x (.slice (some ⟨rg k,m,none⟩) s s);rw[hnx.out]at this;exact this
   case measure=>refine qD ?_ ?_<;>simp only[intOf]<;>omega
  ·have e:k=m:=by omega
   subst e;have hKp:=hide hkp;have hRw:=hide hr
   clear hkp hr;go_wp2;exact HQ.out _ _ _ _ _ _ _ _ _ _ _ _ _ _ _ _ _ _ _ _ wr hKp.out hRw.out
open Go.Conc Go.RowKit Go.Frag Go.Ren Go.Grp Go.Deep
theorem picks_at{pa:Nat->Option Addr}{b:Bool}{n q:Nat}(hq:q<(picks pa b n).length):(picks pa b n)[q]?.getD 0<n/\(pa ((picks pa b n)[q]?.getD 0)).isSome=b:=by
 have h1:=List.getElem_mem hq;have h2:(picks pa b n)[q]?.getD 0=(picks pa b n)[q]:=by simp[hq]
 rw[<-h2]at h1;unfold picks at h1;rw[List.mem_filter,List.mem_range]at h1;exact⟨h1.1,by have h:=h1.2;simp only[beq_iff_eq]at h;exact h⟩
theorem picks_inj{pa:Nat->Option Addr}{b:Bool}{n i j:Nat}(hi:i<(picks pa b n).length)(hj:j<(picks pa b n).length)(e:(picks pa b n)[i]?.getD 0=(picks pa b n)[j]?.getD 0):i=j:=by
 have hn:(picks pa b n).Nodup:=List.nodup_range.filter _;simp only[List.getElem?_eq_getElem hi,List.getElem?_eq_getElem hj,Option.getD_some]at e;exact(List.getElem_inj hn).1 e
def wholeOf(pa:Nat->Option Addr)(K V:Nat):Bool:=decide ((picks pa false K).length<=(picks (fun j=>pa (K+j)) true V).length)
structure PcsAt(w:World)(pb po K V s:Nat)(pa:Nat->Option Addr)(pl pc:Nat->Nat)(blk:List Nat):Prop where
 cell:∀n,n<K+V->w.cell? ⟨pb,po+n,none⟩=some (.slice (pa n) (pl n) (pc n))
 nil:∀n,n<K+V->pa n=none->pl n=0/\pc n=0
 has:∀n,n<K+V->(pa n).isSome=true->Bytes w (.slice (pa n) (pl n) (pc n)) (Pk.pieceN blk s K n)
theorem bytes_of{w w':World}{v:Value}{bs:List Nat}(h:Bytes w v bs)(hk:∀b,b<w.heap.size->w'.heap[b]? =w.heap[b]?):Bytes w' v bs:=by
 obtain⟨b,o,c,h1,h2,h3,h4⟩:=h;refine⟨b,o,c,h1,h2,h3,fun j hj=>?_⟩;have h5:=h4 j hj;have e:=hk b (cellLt h5);unfold World.cell? at h5⊢;rw[e];exact h5
theorem PcsAt.of{w w':World}{pb po K V s:Nat}{pa:Nat->Option Addr}{pl pc:Nat->Nat}{blk:List Nat}(h:PcsAt w pb po K V s pa pl pc blk)(hk:∀b,b<w.heap.size->w'.heap[b]? =w.heap[b]?):PcsAt w' pb po K V s pa pl pc blk:=by
 refine⟨fun n hn=>?_,h.nil,fun n hn hs=>bytes_of (h.has n hn hs) hk⟩;have h5:=h.cell n hn;have e:=hk pb (cellLt h5);unfold World.cell? at h5⊢;rw[e];exact h5
theorem flat_take{blk:List Nat}{s:Nat}:∀k,k*s<=blk.length->((List.range k).map (Pk.piece blk s)).flatten=blk.take (k*s)
 |0,_=>by simp
 |k+1,h=>by
  rw[Nat.succ_mul]at h;rw[List.range_succ,List.map_append,List.flatten_append,flat_take k (by omega),Nat.succ_mul,List.take_add];simp[Pk.piece]
theorem flat_all{blk:List Nat}{s K:Nat}(h:blk.length=K*s):((List.range K).map (Pk.piece blk s)).flatten=blk:=by
 rw[flat_take K (by omega),<-h,List.take_length]
section
variable {Dn:Nat} {Stop:Stt Nat->Prop} {fs:List Fr}
set_option maxRecDepth 100000 in
set_option maxHeartbeats 4000000 in
theorem block_tail(hR:ReOk (PollAt Dn (qV (qT 2 (Try.f122.body.getD .skip)))) Stop){cfn:FuncId}{cT:Array Value}{cops:Array Oper}{ci:Nat}{crest:List Nat}{ck:List Item}{o:Oper}(ho:cops[ci]? =some o){K V n s pb po cpp m c gO capO capL:Nat}{aL:Option Addr}{pa:Nat->Option Addr}{pl pc:Nat->Nat}{blk:List Nat}{cur:List Value}{rv:Value}{rg:Nat->Nat}{M:Nat->Nat->Nat}{w w3:World}{j3 j4 j5 j6 j7 j10 j12 j14 j15 j16 j17 j18 j19 j20 j21 j22 j23 j24 j25 j26 j27 j28 j29 j30 j31 j32 j33 j34 j35 j36 j37 j38 j39 j40 j41 j42 j43 j44 j45 j46 j47 j48 j49 j50 j51 j52 j53 j54 j55 j56 j57 j58 j59 j60 j61 j62 j63 j64 j65 j66 j67 j68 j69 j70 j71 j72 j73 j74 j75 j76 j77 j78 j79 j80 j81 j82:Value}(hK1:1<=K)(hK:K<=20)(hs1:1<=s)(hs:s<=16)(hblk:Hid (blk.length=K*s))(hbl:∀x∈blk,x<256)
  (hm:Hid (m=(picks pa false K).length))(hc:Hid (m+s=c))(hP:PcsAt w pb po K V s pa pl pc blk)(kt3:Kt (fun _=>False) w w3)(hO3:qS w3 gO 36 cur)(hgO:w.heap.size<=gO)(hcuri:∀i,i<K->cur[i]? =some (.slice (pa i) (pl i) (pc i)))(hKO:K<=capO)(hcl:Hid (cur.length=capO))
  (hLo:0<m->∃gL curL,aL=some ⟨gL,0,none⟩/\qS w3 gL 3 curL/\curL.take m=i64s (picks pa false K))(hrv:RvAt w3 rv m c rg)(hrows:RowsAt w3 m c rg M)(hrg:∀i,i<m->w.heap.size<=rg i)(hrvO:∀g,rv.ownBlock=some g->g≠gO)(hpiv:∀k,k<m->Gs.it m M k k k≠0)
  (hsol:∀t q,t<m->q<s->Gs.it m M m t (m+q)=blk[((picks pa false K)[t]?.getD 0)*s+q]?.getD 0)(hwh:wholeOf pa K V=true)
  (hend:∀(m':Nat) (da:Option Addr) (dl dc:Nat) (wh:Bool) (w':World),Kt (fun _=>False) w w'->(m'=0->wh=wholeOf pa K V/\(wh=true->dl=blk.length/\∃g,da=some ⟨g,0,none⟩/\w.heap.size<=g/\(∀j,j<dl->w'.frozen? ⟨g,j,none⟩=false)/\∀j,j<dl->w'.cell? ⟨g,j,none⟩=some (.int .u8 ((blk[j]?.getD 0:Nat):Int))))->
   WTI Try.prog outside2 inside2 kls (PollAt Dn (qV (qT 2 (Try.f122.body.getD .skip)))) Stop m' ⟨cfn,((⟨cT,[]⟩:Act).put o.dst (.tuple #[.slice da dl dc,.bool wh])).tmps,.inRegion cops crest::ck,false⟩ fs w'):
  WTI Try.prog outside2 inside2 kls (PollAt Dn (qV (qT 2 (Try.f122.body.getD .skip)))) Stop 0 ⟨85,#[.slice (some ⟨pb,po,none⟩) n cpp,.int .i64 V,.chan (some Dn),j3,j4,j5,j6,j7,.int .i64 K,.slice (some ⟨gO,0,none⟩) K capO,j10,.slice aL m capL,j12,rv,j14,j15,j16,j17,j18,j19,j20,j21,j22,j23,j24,j25,j26,j27,j28,j29,j30,j31,j32,j33,j34,j35,j36,j37,j38,j39,j40,j41,j42,j43,j44,j45,j46,j47,j48,j49,j50,j51,j52,j53,j54,j55,j56,j57,j58,j59,j60,j61,j62,j63,j64,j65,j66,j67,j68,j69,j70,j71,j72,j73,j74,j75,j76,j77,j78,j79,j80,j81,j82],[.code (pth [1,1,1,1,1,1,1] (Try.f85.body.getD .skip))],false⟩ (⟨cfn,cT,.inRegion cops (ci::crest)::ck,false⟩::fs) w3:=by
 have hC:=closed2;have Hend:=hide hend;have HP:=hide hP;have HSol:=hide hsol;have HLo:=hide hLo;have HU:=hide hcuri;have Hrg:=hide hrg;have HrO:=hide hrvO
 clear hend hP hsol hLo hcuri hrg hrvO;have hmK:m<=20:=by have:=picks_length pa false K;have:=hm.out;omega
 have hc2:c<=65536:=by have:=hc.out;omega
 have hnc:m<=c:=by have:=hc.out;omega
 have hneO:∀i,i<m->rg i≠gO:=fun i hi=>(hrows.row i hi).ne_of_type hO3 (by decide);conv=>arg 8;simp only[Try.f85,Option.getD_some,pth]
 refine WTI.seq hC hR (WTI.seq hC hR (WTI.reg hC hR (l:= [0,1,2,3]) rfl ?_));refine WTI.op hC rfl rfl (fun τ d Kx hKx=>?_);go_simp;refine hKx _ _ (WTI.re hR ?_ _ _);clear hKx;try walk_nrm
 refine WTI.op hC rfl rfl (fun τ d Kx hKx=>?_);go_simp;refine hKx _ _ (WTI.re hR ?_ _ _);clear hKx;try walk_nrm
 refine WTI.callT hC hR rfl rfl rfl Try.func111 rfl rfl (T':=#[rv,.chan (some Dn),undef,undef,undef,undef,undef,undef,undef,undef,undef,undef,undef,undef,undef,undef,undef,undef,undef,undef,undef,undef,undef,undef,undef,undef,undef,undef,undef,undef,undef,undef,undef,undef,undef,undef,undef,undef,undef,undef,undef,undef,undef,undef,undef,undef]) (by first|rfl|simp[Act.eval,Try.f111]) ?_;refine solve_tree hR (o:=?o) ?ho hnc hc2 hrv hrows hpiv ?h1 ?h2
 case ho=>rfl
 case h2=>
  intro w4 kt34;try walk_nrm
  refine WTI.op hC rfl rfl (fun τ d Kx hKx=>?_);go_simp;refine hKx _ _ (WTI.re hR ?_ _ _);clear hKx;try walk_nrm
  refine WTI.regEnd hC hR (WTI.yes hC hR (by first|rfl|simp[Act.eval]) ?_);refine WTI.run hC hR plain_out closed (by kernel_rfl) fun τ d=>?_;go_wp2;intro todo;refine WTI.re hR ?_ _ _;refine WTI.back hC hR ho Try.func85 (v:=.tuple #[.slice none 0 0,.bool false]) (by simp[results,Try.f85,go_sem]) (by simp[results,Try.f85]) (Hend.out 1 none 0 0 false w4 (kt3.join kt34 fun k hk=>?_) fun h=>by cases h);obtain⟨i,hi,rfl⟩:=hk;exact .inr (Hrg.out i hi)
 case h1=>
  intro w4 kt34 hrows4;try walk_nrm
  refine WTI.op hC rfl rfl (fun τ d Kx hKx=>?_);go_simp;refine hKx _ _ (WTI.re hR ?_ _ _);clear hKx;try walk_nrm
  refine WTI.regEnd hC hR (WTI.no hC hR (by first|rfl|simp[Act.eval]) (WTI.skip hC hR ?_));have kt4:Kt (fun _=>False) w w4:=kt3.join kt34 fun k hk=>by
   obtain⟨i,hi,rfl⟩:=hk;exact .inr (Hrg.out i hi)
  have hO4:qS w4 gO 36 cur:=hO3.of_block (kt34.block gO hO3.lt (by rintro⟨i,hi,e⟩;exact hneO i hi e.symm));have hrv4:RvAt w4 rv m c rg:=hrv.kt kt34 (by rintro g _ h _ ⟨i,hi,e⟩;exact h i hi e.symm);have hneL:∀g t (l:List Value),qS w3 g t l->t≠5->qS w4 g t l:=fun g t l hr ht=>hr.of_block (kt34.block g hr.lt (by rintro⟨i,hi,e⟩;exact(hrows.row i hi).ne_of_type hr (Ne.symm ht) e.symm));have hLl:(picks pa false K).length=m:=hm.out.symm;refine WTI.seq hC hR (WTI.run2 hC hR plain_out closed (by kernel_rfl) fun τ d=>?_);refine block_p14 (w:=w4.re τ d) (L:=picks pa false K) (cur:=cur) hs1 hc hLl hmK (fun x hx=>?_) (by rw[hcl.out];exact hKO) hO4 (fun hp=>?_) hrv4 HrO.out ?_
  ·unfold picks at hx;rw[List.mem_filter,List.mem_range]at hx;exact hx.1
  ·obtain⟨gL,curL,h1,h2,h3⟩:=HLo.out hp;exact⟨gL,curL,h1,h2.ne_of_type hO3 (by decide),hneL gL _ _ h2 (by decide),h3⟩
  intro h16 h17 h63 h64 h65 h66 h67 h68 h69 h70 h71 h72 h73 h74 h75 h76 h77 h78 h79 h80 w5 hkp hO5;have kt5:Kt (fun _=>False) w w5:=kt4.join (Y:=fun b=>b=gO) ⟨hkp.size,hkp.block⟩ fun k hk=>.inr (by rw[hk];exact hgO);have hrow5:∀i,i<m->qS w5 (rg i) 5 (u8s (lst c (Gs.it m M m i))):=fun i hi=>(hrows4.row i hi).of_block (hkp.block _ (hrows4.row i hi).lt (hneO i hi));clear hkp;dsimp only;refine WTI.run hC hR plain_out closed (by kernel_rfl) fun τ d=>?_;have hup:=ownUp_at (cur:=cur) (L:=picks pa false K) (rg:=rg) (m:=m) (s:=s) (fun t u ht hu e=>picks_inj ht hu e) m (by rw[hLl];exact Nat.le_refl _);have hJ:Hid (Calls Try.prog 88 #[.slice (some ⟨gO,0,none⟩) K capO,.slice none 0 0] (w5.re τ d) fun e w'=>∃g cap,e= .returned (.slice (some ⟨g,0,none⟩) blk.length cap)/\w5.heap.size<=g/\blk.length<=cap/\cap<=maxLen/\(∀j,j<cap->w'.frozen? ⟨g,j,none⟩=false)/\
    (∀j,j<blk.length->w'.cell? ⟨g,j,none⟩=some (.int .u8 ((blk[j]?.getD 0:Nat):Int)))/\Below w5.heap.size (w5.re τ d) w'):=by
   have hul:=ownUp_length cur (picks pa false K) rg m s m;have hKu:K<=(ownUp cur (picks pa false K) rg m s m).length:=by rw[hul,hcl.out];exact hKO
   have:=join_walk gO 0 K capO ((ownUp cur (picks pa false K) rg m s m).take K) ((List.range K).map (Pk.piece blk s)) (w5.re τ d) (by rw[List.length_take];omega) (by simp) hK1 (by omega) hKO (fun i v hv=>?_) (fun i v l hv hl=>?_) (fun l hl=>?_) (fun l hl x hx=>?_) ?_
   ·rw[flat_all hblk.out]at this;exact this
   ·rw[Nat.zero_add];have hiK:i<K:=by have:=(List.getElem?_eq_some_iff.1 hv).1;rw[List.length_take]at this;omega
    rw[List.getElem?_take,if_pos hiK]at hv;exact hO5.cell i v hv
   ·have hiK:i<K:=by have:=(List.getElem?_eq_some_iff.1 hv).1;rw[List.length_take]at this;omega
    rw[List.getElem?_take,if_pos hiK]at hv;have el:l=Pk.piece blk s i:=by
     rw[List.getElem?_map,List.getElem?_range hiK]at hl;exact(Option.some.inj hl).symm
    subst el;have hpl:=Pk.piece_length hblk.out hiK;obtain⟨u1,u2⟩:=hup i (by rw[hcl.out];omega);by_cases hx:∃t,t<m/\(picks pa false K)[t]?.getD 0=i
    ·obtain⟨t,ht,et⟩:=hx;rw[u2 t ht et]at hv;obtain rfl:=Option.some.inj hv;refine⟨rg t,m,s,by rw[hpl],by rw[hpl];exact Nat.le_refl _,Pk.piece_lt hbl s i,fun q hq=>?_⟩;rw[hpl]at hq;have hcm:m+q<c:=by have:=hc.out;omega
     have h7:=(hrow5 t ht).cell (m+q) _ (u8s_at (by rw[lst_length];exact hcm));rw[lst_at hcm,HSol.out t q ht hq,et]at h7;rw[Pk.piece_at hq];exact h7
    ·have hno:∀t,t<m->(picks pa false K)[t]?.getD 0≠i:=fun t ht e=>hx ⟨t,ht,e⟩;rw[u1 hno,HU.out i hiK]at hv;obtain rfl:=Option.some.inj hv;have hsome:(pa i).isSome=true:=by
      cases hpi:(pa i).isSome with
      |true=>rfl
      |false=>
       have hmem:i∈picks pa false K:=by
        unfold picks;rw[List.mem_filter,List.mem_range];exact⟨hiK,by rw[hpi];rfl⟩
       obtain⟨t,ht,e⟩:=List.mem_iff_getElem.1 hmem;exact absurd (by simp[ht,e]) (hno t (by omega))
     have h8:=bytes_of (w':=w5.re τ d) (HP.out.has i (by omega) hsome) (fun b hb=>kt5.block b hb id);unfold Pk.pieceN at h8;rw[if_pos hiK]at h8;exact h8
   ·obtain⟨i,hi,rfl⟩:=List.mem_map.1 hl;intro e;have:=Pk.piece_length hblk.out (List.mem_range.1 hi);rw[e]at this;simp at this;omega
   ·obtain⟨i,hi,rfl⟩:=List.mem_map.1 hl;exact Pk.piece_lt hbl s i x hx
   ·rw[flat_all hblk.out,hblk.out];have:=Nat.mul_le_mul hK hs;omega
  clear hup hrow5 hO5;go_wp2_with (go_at_call 88;refine hJ.out.mono ?_;rintro _ w6 ⟨g,cap,rfl,k1,k2,k3,k4,k5,k6⟩;replace k1:=hide k1;replace k2:=hide k2;replace k4:=hide k4;replace k5:=hide k5;replace k6:=hide k6)
  intro todo;have kt6:Kt (fun _=>False) w w6:=kt5.trans ⟨k6.out.size,fun k hk _=>k6.out.block k hk⟩;refine WTI.back hC hR ho Try.func85 (v:=.tuple #[.slice (some ⟨g,0,none⟩) blk.length cap,.bool true]) (by simp[results,Try.f85,go_sem]) (by simp[results,Try.f85]) (Hend.out 0 (some ⟨g,0,none⟩) blk.length cap true w6 kt6 fun _=>⟨hwh.symm,fun _=>⟨rfl,g,rfl,Nat.le_trans kt5.size k1.out,fun j hj=>k4.out j (Nat.lt_of_lt_of_le hj k2.out),k5.out⟩⟩)
end
section
variable {Dn:Nat} {Stop:Stt Nat->Prop} {fs:List Fr}
set_option maxRecDepth 100000 in
set_option maxHeartbeats 4000000 in
theorem block_tree(hR:ReOk (PollAt Dn (qV (qT 2 (Try.f122.body.getD .skip)))) Stop){cfn:FuncId}{cT:Array Value}{cops:Array Oper}{ci:Nat}{crest:List Nat}{ck:List Item}{o:Oper}(ho:cops[ci]? =some o){K V n s pb po cpp:Nat}{pa:Nat->Option Addr}{pl pc:Nat->Nat}{blk:List Nat}{w:World}(hn:Hid (n=K+V))(hK1:1<=K)(hK:K<=20)(hV:V<=20)(hs1:1<=s)(hs:s<=16)(hcpp:n<=cpp)(hcm:cpp<=9223372036854775807)(hblk:Hid (blk.length=K*s))(hbl:∀x∈blk,x<256)
  (hP:PcsAt w pb po K V s pa pl pc blk)
  (hend:∀(m':Nat) (da:Option Addr) (dl dc:Nat) (wh:Bool) (w':World),Kt (fun _=>False) w w'->(m'=0->wh=wholeOf pa K V/\(wh=true->dl=blk.length/\∃g,da=some ⟨g,0,none⟩/\w.heap.size<=g/\(∀j,j<dl->w'.frozen? ⟨g,j,none⟩=false)/\∀j,j<dl->w'.cell? ⟨g,j,none⟩=some (.int .u8 ((blk[j]?.getD 0:Nat):Int))))->
   WTI Try.prog outside2 inside2 kls (PollAt Dn (qV (qT 2 (Try.f122.body.getD .skip)))) Stop m' ⟨cfn,((⟨cT,[]⟩:Act).put o.dst (.tuple #[.slice da dl dc,.bool wh])).tmps,.inRegion cops crest::ck,false⟩ fs w'):
  WTI Try.prog outside2 inside2 kls (PollAt Dn (qV (qT 2 (Try.f122.body.getD .skip)))) Stop 0 ⟨85,#[.slice (some ⟨pb,po,none⟩) n cpp,.int .i64 V,.chan (some Dn),undef,undef,undef,undef,undef,undef,undef,undef,undef,undef,undef,undef,undef,undef,undef,undef,undef,undef,undef,undef,undef,undef,undef,undef,undef,undef,undef,undef,undef,undef,undef,undef,undef,undef,undef,undef,undef,undef,undef,undef,undef,undef,undef,undef,undef,undef,undef,undef,undef,undef,undef,undef,undef,undef,undef,undef,undef,undef,undef,undef,undef,undef,undef,undef,undef,undef,undef,undef,undef,undef,undef,undef,undef,undef,undef,undef,undef,undef,undef,undef],[.code (Try.f85.body.getD .skip)],false⟩ (⟨cfn,cT,.inRegion cops (ci::crest)::ck,false⟩::fs) w:=by
 have hC:=closed2;have HP:=hide hP;have Hend:=hide hend;clear hP hend;have hpb:pb<w.heap.size:=cellLt (HP.out.cell 0 (by omega));have hsub:(n:Int)-(V:Int)=(K:Int):=by have:=hn.out;omega
 have hwK:IntKind.i64.wrap (K:Int)=(K:Int):=qB _ (by omega) (by omega);conv=>arg 8;simp only[Try.f85,Option.getD_some]
 refine WTI.seq hC hR (WTI.run hC hR plain_out closed (by kernel_rfl) fun τ d=>?_);go_wp2;refine WTI.re hR ?_ _ _;refine WTI.seq hC hR (WTI.run hC hR plain_out closed (by kernel_rfl) fun τ d=>?_);go_wp2;refine WTI.re hR ?_ _ _;have hxat:∀i,i<K->((List.range K).map fun i=>Value.slice (pa i) (pl i) (pc i))[i]? =some (.slice (pa i) (pl i) (pc i)):=fun i hi=>by simp[hi]
 refine WTI.seq hC hR (WTI.run2 hC hR plain_out closed (by kernel_rfl) fun τ d=>?_);refine block_p2 (w:=w.re τ d) (xs:=(List.range K).map fun i=>Value.slice (pa i) (pl i) (pc i)) hn hK1 hK hV hcpp hcm (by show _=_;simp) (fun u hu=>?_) (fun j u hj=>?_) ?_
 ·obtain⟨i,_,rfl⟩:=List.mem_map.1 hu;rfl
 ·have hjl:j<K:=by have:=(List.getElem?_eq_some_iff.1 hj).1;simpa using this
  rw[hxat j hjl]at hj;obtain rfl:=Option.some.inj hj;exact HP.out.cell j (by omega)
 intro gO capO cur aM cM h22 h23 h24 h25 h26 h27 h28 w1 hb1 hgO hO hcur hcO hcO2 hcl haM;have kt1:Kt (fun _=>False) w w1:=⟨hb1.size,fun k hk _=>hb1.block k hk⟩;have hP1:=HP.out.of (fun b hb=>kt1.block b hb id);have hgO':w.heap.size<=gO:=hgO;have hcuri:∀i,i<K->cur[i]? =some (.slice (pa i) (pl i) (pc i)):=fun i hi=>by
  have:(cur.take K)[i]? =some (.slice (pa i) (pl i) (pc i)):=by rw[hcur];exact hxat i hi
  rw[List.getElem?_take,if_pos hi]at this;exact this
 have hO1:=hO.lt;clear hb1 hgO hcur hxat;dsimp only;refine WTI.seq hC hR (WTI.run2 hC hR plain_out closed (by kernel_rfl) fun τ d=>?_);refine block_p3 (w:=w1.re τ d) hK hV hO hcuri haM (fun j hj=>by rw[Nat.add_assoc];exact hP1.cell (K+j) (by omega)) ?_;intro vL vE h29 h30 h31 h32 w2 hb2 hL1 hL2 hE1 hE2;have kt12:Kt (fun _=>False) w1 w2:=⟨hb2.size,fun k hk _=>hb2.block k hk⟩;have kt2:=kt1.trans kt12;have hP2:=HP.out.of (fun b hb=>kt2.block b hb id);have hO2:qS w2 gO 36 cur:=hO.of_block (kt12.block gO hO1 id);clear hb2 hO hP1;dsimp only;obtain⟨m,hm⟩:∃m,m=(picks pa false K).length:=⟨_,rfl⟩;obtain⟨nE,hnE⟩:∃nE,nE=(picks (fun j=>pa (K+j)) true V).length:=⟨_,rfl⟩;have hmK:m<=20:=by have:=picks_length pa false K;omega
 have hnEV:nE<=20:=by have:=picks_length (fun j=>pa (K+j)) true V;omega
 have hLo:∃aL capL,vL= .slice aL m capL/\(0<m->∃gL curL,aL=some ⟨gL,0,none⟩/\qS w2 gL 3 curL/\curL.take m=i64s (picks pa false K)/\w1.heap.size<=gL):=by
  obtain⟨aL,capL,rfl⟩:=hL1.shape;rw[i64s_length,<-hm]at hL1 hL2⊢;refine⟨aL,capL,rfl,fun hp=>?_⟩;obtain⟨gL,cap,curL,e1,e2,_,_,_,e3⟩:=hL1.open' (by rw[i64s_length,<-hm];exact hp);simp only[Value.slice.injEq]at e1;obtain⟨rfl,_,rfl⟩:=e1;rw[i64s_length,<-hm]at e3;exact⟨gL,curL,rfl,e2,e3,hL2 gL rfl⟩
 have hEo:∃aE capE,vE= .slice aE nE capE/\nE<=capE/\capE<=maxLen/\(aE=none->nE=0/\capE=0)/\(0<nE->∃gE curE,aE=some ⟨gE,0,none⟩/\qS w2 gE 3 curE/\curE.take nE=i64s (picks (fun j=>pa (K+j)) true V)/\w1.heap.size<=gE):=by
  rcases hE1 with⟨rfl,h0⟩|⟨gE,cap,curE,rfl,e1,e2,e3,e4,e5⟩
  ·have:nE=0:=by rw[hnE,<-i64s_length,h0];rfl
   exact⟨none,0,by rw[this],by omega,by simp[maxLen],fun _=>⟨this,rfl⟩,fun h=>by omega⟩
  ·rw[i64s_length,<-hnE]at e2 e5 hE2⊢;exact⟨_,cap,rfl,e2,e3,(fun h=>by cases h),fun _=>⟨gE,curE,rfl,e1,e5,hE2 gE rfl⟩⟩
 obtain⟨aL,capL,rfl,hLo⟩:=hLo;obtain⟨aE,capE,rfl,hcE,hcE2,haE,hEo⟩:=hEo;clear hL1 hL2 hE1 hE2;have HLo:=hide hLo;have HEo:=hide hEo;have HM:=hide hm;have HNE:=hide hnE
 clear hLo hEo hm hnE;by_cases hlt:nE<m
 ·
  have hlt':(nE:Int)<(m:Int):=by omega
  refine WTI.seq hC hR (WTI.run hC hR plain_out closed (by kernel_rfl) fun τ d=>?_);go_wp2;intro todo;refine WTI.re hR ?_ _ _;refine WTI.back hC hR ho Try.func85 (v:=.tuple #[.slice none 0 0,.bool false]) (by simp[results,Try.f85,go_sem]) (by simp[results,Try.f85]) (Hend.out 0 none 0 0 false w2 kt2 fun _=>⟨?_,fun h=>by cases h⟩);symm
  rw[wholeOf,decide_eq_false_iff_not,<-HM.out,<-HNE.out];omega
 have hlt':¬(nE:Int)<(m:Int):=by omega
 refine WTI.seq hC hR (WTI.run hC hR plain_out closed (by kernel_rfl) fun τ d=>?_);go_wp2;refine WTI.re hR ?_ _ _;refine WTI.seq hC hR (WTI.run hC hR plain_out closed (by kernel_rfl) fun τ d=>?_);go_wp2;refine WTI.re hR ?_ _ _;have hwh:wholeOf pa K V=true:=by
  rw[wholeOf,decide_eq_true_eq,<-HM.out,<-HNE.out];omega
 rcases Nat.eq_zero_or_pos m with h0|hp
 ·subst h0;refine WTI.seq hC hR (WTI.run2 hC hR plain_out closed (by kernel_rfl) fun τ d=>?_);refine block_p7z (w:=w2.re τ d) hcE hcE2 haE ?_;intro h15 h38 h39 h40 h41 h42 h43 h44 h45 h46 h47 h48 h49 h50 h51 h52 h53 h54 h55 h56 h57 h58;dsimp only;refine WTI.re hR ?_ _ _;exact block_tail hR ho (rg:=fun _=>0) (M:=fun _ _=>0) (c:=0+s) hK1 hK hs1 hs hblk hbl HM (show Hid (0+s=0+s)from rfl) HP.out kt2 hO2 hgO' hcuri hcO hcl (fun h=>absurd h (Nat.lt_irrefl _)) ⟨none,0,rfl,fun h=>absurd h (Nat.lt_irrefl _)⟩ ⟨fun i hi=>absurd hi (Nat.not_lt_zero _),fun i j hi=>absurd hi (Nat.not_lt_zero _),fun i j hi=>absurd hi (Nat.not_lt_zero _)⟩ (fun i hi=>absurd hi (Nat.not_lt_zero _)) (fun g hg=>by simp[Value.ownBlock]at hg) (fun k hk=>absurd hk (Nat.not_lt_zero _)) (fun t q ht=>absurd ht (Nat.not_lt_zero _)) hwh Hend.out
 ·obtain⟨gL,curL,rfl,hL2,hLt,hgL⟩:=HLo.out hp;obtain⟨gE,curE,rfl,hE2,hEt,hgE⟩:=HEo.out (by omega);have hnV:=picks_length (fun j=>pa (K+j)) true V;rw[<-HNE.out]at hnV;obtain rfl:=haM (by omega);have hLl:(picks pa false K).length=m:=HM.out.symm;have hEl:(picks (fun j=>pa (K+j)) true V).length=nE:=HNE.out.symm;have hpl:∀i,i<K->Pk.pieceN blk s K i=Pk.piece blk s i:=fun i hi=>by unfold Pk.pieceN;rw[if_pos hi]
  let hd:Nat->Bool:=fun i=>decide (i<K)&&(pa i).isSome
  have hfe:picks pa false K=(List.range K).filter fun i=> !hd i:=by
   unfold picks;refine List.filter_congr fun i hi=>?_;rw[List.mem_range]at hi;simp only[hd,hi,decide_true,Bool.true_and];cases (pa i).isSome<;>rfl
  refine WTI.seq hC hR (WTI.run2 hC hR plain_out closed (by kernel_rfl) fun τ d=>?_);refine block_p7 (w:=w2.re τ d) (L:=picks pa false K) (E:=picks (fun j=>pa (K+j)) true V) (kn:=knOf blk s hd) (bsE:=fun q=>Pk.pieceN blk s K (K+(picks (fun j=>pa (K+j)) true V)[q]?.getD 0)) (c:=m+s) (pa:=pa) (pl:=pl) (pc:=pc) hK hV hs1 (by omega) hp hmK (by omega) hnEV hcE (show Hid (m+s=m+s)from rfl) (by omega) hLl hEl (fun x hx=>?_) (fun x hx=>?_) hO2 (fun i hi=>?_) (fun i b hb=>?_) hL2 hLt hE2 hEt (fun j hj=>by rw[Nat.add_assoc];exact hP2.cell (K+j) (by omega)) (fun q hq=>?_) ?_
  ·unfold picks at hx;rw[List.mem_filter,List.mem_range]at hx;omega
  ·unfold picks at hx;rw[List.mem_filter,List.mem_range]at hx;exact hx.1
  ·refine⟨_,hcuri i hi,?_⟩;simp only[knOf,hd,hi,decide_true,Bool.true_and];cases hpi:(pa i).isSome with
   |true=>
    rw[if_pos rfl];have:=hP2.has i (by omega) hpi;rw[hpl i hi]at this;exact this
   |false=>
    rw[if_neg (by simp)];have hnone:pa i=none:=by
     cases h:pa i with
     |none=>rfl
     |some q=>rw[h]at hpi;cases hpi
    obtain⟨e1,e2⟩:=hP2.nil i (by omega) hnone;show Value.slice (pa i) (pl i) (pc i)=_;rw[hnone,e1,e2]
  ·simp only[knOf]at hb;split at hb
   ·rename_i hdi;obtain rfl:=Option.some.inj hb;simp only[hd,Bool.and_eq_true,decide_eq_true_eq]at hdi;exact⟨Pk.piece_length hblk.out hdi.1,Pk.piece_lt hbl s i⟩
   ·cases hb
  ·obtain⟨q1,q2⟩:=picks_at (pa:=fun j=>pa (K+j)) (b:=true) (n:=V) (q:=q) (by omega);exact⟨hP2.has _ (by omega) q2,Pk.pieceN_length hblk.out⟩
  intro rv rg h15 h38 h39 h40 h41 h42 h43 h44 h45 h46 h47 h48 h49 h50 h51 h52 h53 h54 h55 h56 h57 h58 w3 hb3 hrv3 hrows3 hrg3 hrvb;have kt23:Kt (fun _=>False) w2 w3:=⟨hb3.size,fun k hk _=>hb3.block k hk⟩;have kt3:=kt2.trans kt23;have hO3:qS w3 gO 36 cur:=hO2.of_block (kt23.block gO hO2.lt id);have hL3:qS w3 gL 3 curL:=hL2.of_block (kt23.block gL hL2.lt id);have hO2l:=hO2.lt;have hs2:w2.heap.size≥w.heap.size:=kt2.size;have hrs:=rows_solved (blk:=blk) (s:=s) (K:=K) (hd:=hd) (E:=fun i=>(picks (fun j=>pa (K+j)) true V)[i]?.getD 0) hblk.out hbl hK (fun i hi=>?_) (fun i j hi hj e=>?_) m (by rw[<-hfe];exact HM.out) (fun i j=>(eqRow m s ((picks (fun j=>pa (K+j)) true V)[i]?.getD 0) (knOf blk s hd) ((picks pa false K).map (Pk.weight ((picks (fun j=>pa (K+j)) true V)[i]?.getD 0) ·)++Pk.pieceN blk s K (K+(picks (fun j=>pa (K+j)) true V)[i]?.getD 0)) K)[j]?.getD 0) (fun i j=>?_) (fun i j hi hj=>hrows3.lt i j hi hj);rotate_left
  ·rw[<-hfe,hLl]at hi;have:=(picks_at (pa:=fun j=>pa (K+j)) (b:=true) (n:=V) (q:=i) (by omega)).1;show _<20;omega
  ·rw[<-hfe,hLl]at hi hj;exact picks_inj (by omega) (by omega) e
  ·unfold rowsOf;rw[<-hfe,hLl]
  clear hb3;dsimp only;rw[<-hfe]at hrs;exact block_tail hR ho (c:=m+s) (rg:=rg) hK1 hK hs1 hs hblk hbl HM (show Hid (m+s=m+s)from rfl) HP.out kt3 hO3 hgO' hcuri hcO hcl (fun _=>⟨gL,curL,rfl,hL3,hLt⟩) hrv3 hrows3 (fun i hi=>Nat.le_trans hs2 (hrg3 i hi)) (fun g hg e=>by have:=hrvb g hg;rw[e]at this;exact absurd this (by show¬w2.heap.size<=gO;omega)) hrs.1 hrs.2.2 hwh Hend.out
end
end Go.Proofs.Ytmfpiodlecapiaa
namespace Go.Proofs.Ytmfpiodlecapiaa
open Go.Conc Go.RowKit Go.Frag Go.Ren Go.Grp Go.Deep
attribute [local go_sem↓] Go.wp_at_zero Go.wp_at_succ
theorem sel_re{R Dn B0 z:Nat}{ops:Array Oper}{tl:Code}{wz:Nat->Bool}{Dz:Nat->List Nat}{ops2:Array Oper}:ReOk (PollAt Dn ops2) (SelStop R Dn ops tl (ResP B0 wz Dz) z):=⟨fun _ _ _ h=>h,fun s Next τ d h=>poll_re Dn ops2 s Next τ d h⟩
set_option maxRecDepth 100000 in
set_option maxHeartbeats 4000000 in
theorem worker_wti{R Dn B0 z cp cD cR cz Wg:Nat}{cS:Addr}{wz:Nat->Bool}{Dz:Nat->List Nat}{K V n s pb po cpp:Nat}{pa:Nat->Option Addr}{pl pc:Nat->Nat}{blk:List Nat}{w:World}(hn:Hid (n=K+V))(hK1:1<=K)(hK:K<=20)(hV:V<=20)(hs1:1<=s)(hs:s<=16)(hcpp:n<=cpp)(hcm:cpp<=9223372036854775807)(hblk:Hid (blk.length=K*s))(hbl:∀x∈blk,x<256)
  (hP:PcsAt w pb po K V s pa pl pc blk)(hB0:B0<=w.heap.size)(hcp:w.cell? ⟨cp,0,none⟩=some (.slice (some ⟨pb,po,none⟩) n cpp))(hcS:w.cell? cS=some (.int .i64 V))(hcD:w.cell? ⟨cD,0,none⟩=some (.chan (some Dn)))(hcR:w.cell? ⟨cR,0,none⟩=some (.chan (some R)))(hcz:w.cell? ⟨cz,0,none⟩=some (.int .i64 z))
  (hwz:wz z=wholeOf pa K V)(hDz:Dz z=blk):
  WTI Try.prog outside2 inside2 kls (PollAt Dn (qV (qT 2 (Try.f122.body.getD .skip)))) (SelStop R Dn (qV (selOf Try.f83)) (tailOf Try.f83) (ResP B0 wz Dz) z) 0 ⟨wFn,wTmps ⟨Wg,0,none⟩ ⟨cp,0,none⟩ cS ⟨cD,0,none⟩ ⟨cR,0,none⟩ ⟨cz,0,none⟩,[.code (restOf Try.f83)],false⟩ [] w:=by
 have hC:=closed2;have hR:ReOk (PollAt Dn (qV (qT 2 (Try.f122.body.getD .skip)))) (SelStop R Dn (qV (selOf Try.f83)) (tailOf Try.f83) (ResP B0 wz Dz) z):=sel_re;have e0:wTmps ⟨Wg,0,none⟩ ⟨cp,0,none⟩ cS ⟨cD,0,none⟩ ⟨cR,0,none⟩ ⟨cz,0,none⟩=#[.pointer (some ⟨Wg,0,none⟩),.pointer (some ⟨cp,0,none⟩),.pointer (some cS),.pointer (some ⟨cD,0,none⟩),.pointer (some ⟨cR,0,none⟩),.pointer (some ⟨cz,0,none⟩),undef,undef,undef,undef,undef,undef,undef,undef,undef,undef,undef,undef,undef,undef,undef,undef,undef,undef,undef]:=rfl;rw[e0];clear e0;have HP:=hide hP;clear hP;conv=>arg 8;simp only[Try.f83,restOf,sndC,Option.getD_some,wFn]
 refine WTI.seq hC hR (WTI.reg hC hR (l:= [0,1,2,3,4,5,6,7,8]) rfl ?_);refine WTI.op hC rfl rfl (fun τ d Kx hKx=>?_);have q1:(w.re τ d).cell? ⟨cp,0,none⟩=some (.slice (some ⟨pb,po,none⟩) n cpp):=hcp;go_simp;refine hKx _ _ (WTI.re hR ?_ _ _);clear hKx q1;try walk_nrm
 refine WTI.op hC rfl rfl (fun τ d Kx hKx=>?_);have q1:(w.re τ d).cell? cS=some (.int .i64 V):=hcS;go_simp;refine hKx _ _ (WTI.re hR ?_ _ _);clear hKx q1;try walk_nrm
 refine WTI.op hC rfl rfl (fun τ d Kx hKx=>?_);have q1:(w.re τ d).cell? ⟨cD,0,none⟩=some (.chan (some Dn)):=hcD;go_simp;refine hKx _ _ (WTI.re hR ?_ _ _);clear hKx q1;try walk_nrm
 refine WTI.callT hC hR rfl rfl rfl Try.func85 rfl rfl (T':=#[.slice (some ⟨pb,po,none⟩) n cpp,.int .i64 V,.chan (some Dn),undef,undef,undef,undef,undef,undef,undef,undef,undef,undef,undef,undef,undef,undef,undef,undef,undef,undef,undef,undef,undef,undef,undef,undef,undef,undef,undef,undef,undef,undef,undef,undef,undef,undef,undef,undef,undef,undef,undef,undef,undef,undef,undef,undef,undef,undef,undef,undef,undef,undef,undef,undef,undef,undef,undef,undef,undef,undef,undef,undef,undef,undef,undef,undef,undef,undef,undef,undef,undef,undef,undef,undef,undef,undef,undef,undef,undef,undef,undef,undef]) (by simp[Act.eval,Try.f85]) ?_;refine block_tree hR (o:=?o) ?ho hn hK1 hK hV hs1 hs hcpp hcm hblk hbl HP.out ?hend
 case ho=>rfl
 case hend=>
  intro m' da dl dc wh w' kt hres;have keep:∀(a:Addr) (v:Value),w.cell? a=some v->w'.cell? a=some v:=fun a v h=>by
   have e:=kt.block a.block (cellLt h) id;unfold World.cell? at h⊢;rw[e];exact h
  have hcR':=keep _ _ hcR;have hcz':=keep _ _ hcz;have hcD':=keep _ _ hcD;try walk_nrm
  refine WTI.op hC rfl rfl (fun τ d Kx hKx=>?_);go_simp;refine hKx _ _ (WTI.re hR ?_ _ _);clear hKx;try walk_nrm
  refine WTI.op hC rfl rfl (fun τ d Kx hKx=>?_);go_simp;refine hKx _ _ (WTI.re hR ?_ _ _);clear hKx;try walk_nrm
  refine WTI.op hC rfl rfl (fun τ d Kx hKx=>?_);go_simp;refine hKx _ _ (WTI.re hR ?_ _ _);clear hKx;try walk_nrm
  refine WTI.op hC rfl rfl (fun τ d Kx hKx=>?_);go_simp;refine hKx _ _ (WTI.re hR ?_ _ _);clear hKx;try walk_nrm
  refine WTI.op hC rfl rfl (fun τ d Kx hKx=>?_);go_simp;refine hKx _ _ (WTI.re hR ?_ _ _);clear hKx;try walk_nrm
  refine WTI.regEnd hC hR (WTI.seq hC hR ?_);refine WTI.run hC hR plain_out closed (by kernel_rfl) fun τ d=>?_;have q1:(w'.re τ d).cell? ⟨cR,0,none⟩=some (.chan (some R)):=hcR';have q2:(w'.re τ d).cell? ⟨cz,0,none⟩=some (.int .i64 z):=hcz';have q3:(w'.re τ d).cell? ⟨cD,0,none⟩=some (.chan (some Dn)):=hcD';go_wp2;refine WTI.re hR ?_ _ _;refine WTI.seq hC hR (WTI.reg hC hR (l:= [0,1,2,3]) rfl ?_);refine WTI.stop ⟨rfl,_,rfl,rfl,rfl,rfl,da,dl,dc,wh,rfl,fun hm=>?_⟩;obtain⟨h1,h2⟩:=hres hm;refine⟨by rw[hwz];exact h1,fun hw=>?_⟩;obtain⟨k1,g,k2,k3,k4,k5⟩:=h2 hw;rw[hDz];refine⟨k1,fun hd=>⟨g,0,k2,Nat.le_trans hB0 k3,⟨0,?_,k4 0 (by omega)⟩,fun j hj=>?_⟩⟩
  ·show(w'.cell? ⟨g,0,none⟩).isSome=true;rw[k5 0 (by omega)];rfl
  ·rw[Nat.zero_add];exact k5 j hj
end Go.Proofs.Ytmfpiodlecapiaa
