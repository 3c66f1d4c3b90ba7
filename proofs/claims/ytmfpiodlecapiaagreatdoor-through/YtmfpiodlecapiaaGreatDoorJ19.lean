import Derived.Test.YtmfpiodlecapiaaGreatDoorJ18
import Derived.Conc.SmallLaws
set_option maxHeartbeats 4000000
set_option maxRecDepth 100000
namespace Go.Proofs.YtmfpiodlecapiaaGreatDoor
open Go.Proofs.Tryz
section
open Go.Conc Go.RowKit Go.bn Go.Ren Go.kg Go.Deep
attribute [local go_sem↓] Go.wp_at_zero Go.wp_at_succ
variable{pa:Nat->Option Addr}{b:Bool}{n pb po V s cpp:Nat}{w w':World}{cfn:FuncId}{cT:Array Value}{bA:Array Oper}{aT:List Nat}{ck:List Item}{o:Oper}
theorem Iy{q:Nat}(hq:q<(picks pa b n).length):(picks pa b n)[q]?.getD 0<n/\(pa ((picks pa b n)[q]?.getD 0)).isSome=b:=by
 have h1:=List.getElem_mem hq;have h2:(picks pa b n)[q]?.getD 0=(picks pa b n)[q]:=by simp[hq]
 rw[<-h2]at h1;unfold picks at h1;rw[List.mem_filter,List.mem_range]at h1;exact⟨h1.1,by have h:=h1.2;simp only[beq_iff_eq]at h;exact h⟩
theorem Dm{i j:Nat}(hi:i<(picks pa b n).length)(hj:j<(picks pa b n).length)(e:(picks pa b n)[i]?.getD 0=(picks pa b n)[j]?.getD 0):i=j:=by
 have hn:(picks pa b n).Nodup:=List.nodup_range.filter _;simp only[List.getElem?_eq_getElem hi,List.getElem?_eq_getElem hj,Option.getD_some]at e;exact(List.getElem_inj hn).1 e
def fI(pa:Nat->Option Addr)(K V:Nat):Bool:=decide ((picks pa false K).length<=(picks (fun j=>pa (K+j)) true V).length)
def Used(pa:Nat->Option Addr)(K V n:Nat):Prop:=fI pa K V=true/\(n<K\/∃q,q<(picks pa false K).length/\n=K+(picks (fun j=>pa (K+j)) true V)[q]?.getD 0)
structure Bg(w:World)(pb po K V s:Nat)(pa:Nat->Option Addr)(pl pc:Nat->Nat)(blk:List Nat):Prop where
 cell:∀n,n<K+V->w.cell? ⟨pb,po+n,none⟩=some (.slice (pa n) (pl n) (pc n))
 nil:∀n,n<K+V->pa n=none->pl n=0/\pc n=0
 has:∀n,n<K+V->(pa n).isSome=true->Used pa K V n->Bytes w (.slice (pa n) (pl n) (pc n)) (Pk.pieceN blk s K n)
theorem JL{v:Value}{bs:List Nat}(h:Bytes w v bs)(hk:∀b,b<w.heap.size->w'.heap[b]? =w.heap[b]?):Bytes w' v bs:=by
 obtain⟨b,o,c,h1,h2,h3,h4⟩:=h;refine⟨b,o,c,h1,h2,h3,fun j hj=>?_⟩;have h5:=h4 j hj;have e:=hk b (bR h5);unfold World.cell? at h5⊢;rw[e];exact h5
theorem Bg.of{K:Nat}{pl pc:Nat->Nat}{blk:List Nat}(h:Bg w pb po K V s pa pl pc blk)(hk:∀b,b<w.heap.size->w'.heap[b]? =w.heap[b]?):Bg w' pb po K V s pa pl pc blk:=by
 refine⟨fun n hn=>?_,h.nil,fun n hn hs hu=>JL (h.has n hn hs hu) hk⟩;have h5:=h.cell n hn;have e:=hk pb (bR h5);unfold World.cell? at h5⊢;rw[e];exact h5
theorem DV{blk:List Nat}{s:Nat}:∀k,k*s<=blk.length->((List.range k).map (Pk.piece blk s)).flatten=blk.take (k*s)
 |0,_=>by simp
 |k+1,h=>by
  rw[Nat.succ_mul]at h;rw[List.range_succ,List.map_append,List.flatten_append,DV k (by omega),Nat.succ_mul,List.take_add];simp[Pk.piece]
theorem Jr{blk:List Nat}{K:Nat}(h:blk.length=K*s):((List.range K).map (Pk.piece blk s)).flatten=blk:=by
 rw[DV K (by omega),<-h,List.take_length]
section
variable {Dn:Nat} {Stop:nA Nat->Prop} {fs:List Fr}
theorem AQ(hR:jT (bS Dn (aX (aI 2 (f187.body.getD .skip)))) Stop){ci:Nat}(ho:bA[ci]? =some o){K m c gO dN nU:Nat}{aL:Option Addr}{pl pc:Nat->Nat}{blk:List Nat}{cur:List Value}{rv:Value}{rg:Nat->Nat}{M:Nat->Nat->Nat}{w3:World}{j3 j4 j5 j6 j7 c6 e7 d7 g3 f2 e9 d9 g7 c0 f1 i3 d1 f5 i7 d6 a7 f3 a3 b0 d8 c8 d2 d4 b7 a2 a5 i4 c5 g9 g0 f4 b8 g4 a4 b9 f6 d5 g5 c2 d3 a8 f7 f8 a1 c1 c3 g8 f9 e6 i5 i1 h9 f0 a0 b2 b1 i0 b3 i2 i6 a6 e8 c4 c9 g6 d0 c7 b4 a9 b5 b6:Value}(gi:1<=K)(hK:K<=20)(dC:1<=s)(hs:s<=16)(eE:Hid (blk.length=K*s))(cN:∀x∈blk,x<256)
  (hm:Hid (m=(picks pa false K).length))(hc:Hid (m+s=c))(hP:Bg w pb po K V s pa pl pc blk)(kt3:Kt (fun _=>False) w w3)(BC:aB w3 gO 28 cur)(Yl:w.heap.size<=gO)(zY:∀i,i<K->cur[i]? =some (.slice (pa i) (pl i) (pc i)))(T2:K<=dN)(cF:Hid (cur.length=dN))
  (xb:0<m->∃gL jZ,aL=some ⟨gL,0,none⟩/\aB w3 gL 3 jZ/\jZ.take m=dF (picks pa false K))(DI:Bf w3 rv m c rg)(bu:eH w3 m c rg M)(hrg:∀i,i<m->w.heap.size<=rg i)(I0:∀g,rv.ownBlock=some g->g≠gO)(UL:∀k,k<m->Gs.it m M k k k≠0)
  (IM:∀t q,t<m->q<s->Gs.it m M m t (m+q)=blk[((picks pa false K)[t]?.getD 0)*s+q]?.getD 0)(X7:fI pa K V=true)
  (bc:∀(m':Nat) (da:Option Addr) (dl dc:Nat) (wh:Bool) (w':World),Kt (fun _=>False) w w'->(m'=0->wh=fI pa K V/\(wh=true->dl=blk.length/\∃g,da=some ⟨g,0,none⟩/\w.heap.size<=g/\(∀j,j<dl->w'.frozen? ⟨g,j,none⟩=false)/\∀j,j<dl->w'.cell? ⟨g,j,none⟩=some (.int .u8 ((blk[j]?.getD 0:Nat):Int))))->
   aN prog aQ aZ jX (bS Dn (aX (aI 2 (f187.body.getD .skip)))) Stop m' ⟨cfn,((⟨cT,[]⟩:Act).put o.dst (.tuple #[.slice da dl dc,.bool wh])).tmps,.inRegion bA aT::ck,false⟩ fs w'):
  aN prog aQ aZ jX (bS Dn (aX (aI 2 (f187.body.getD .skip)))) Stop 0 ⟨91,#[.slice (some ⟨pb,po,none⟩) n cpp,.int .i64 V,.chan (some Dn),j3,j4,j5,j6,j7,.int .i64 K,.slice (some ⟨gO,0,none⟩) K dN,c6,.slice aL m nU,e7,rv,d7,g3,f2,e9,d9,g7,c0,f1,i3,d1,f5,i7,d6,a7,f3,a3,b0,d8,c8,d2,d4,b7,a2,a5,i4,c5,g9,g0,f4,b8,g4,a4,b9,f6,d5,g5,c2,d3,a8,f7,f8,a1,c1,c3,g8,f9,e6,i5,i1,h9,f0,a0,b2,b1,i0,b3,i2,i6,a6,e8,c4,c9,g6,d0,c7,b4,a9,b5,b6],[.code (eO [1,1,1,1,1,1,1] (f91.body.getD .skip))],false⟩ (⟨cfn,cT,.inRegion bA (ci::aT)::ck,false⟩::fs) w3:=by
 have hC:=closed2;have yc:=hide bc;have HP:=hide hP;have HSol:=hide IM;have We:=hide xb;have HU:=hide zY;have Hrg:=hide hrg;have HrO:=hide I0
 clear bc hP IM xb zY hrg I0;have El:m<=20:=by have:=iW pa false K;have:=hm.out;omega
 have ef:c<=65536:=by have:=hc.out;omega
 have py:m<=c:=by have:=hc.out;omega
 have J1:∀i,i<m->rg i≠gO:=fun i hi=>(bu.row i hi).lF BC (by decide);conv=>arg 8;simp only[f91,Option.getD_some,eO]
 refine aN.seq hC hR (aN.seq hC hR (aN.reg hC hR (l:= [0,1,2,3]) rfl ?_));refine aN.op hC rfl rfl (fun τ d Kx gM=>?_);go_simp;refine gM _ _ (aN.re hR ?_ _ _);clear gM;try walk_nrm
 refine aN.op hC rfl rfl (fun τ d Kx gM=>?_);go_simp;refine gM _ _ (aN.re hR ?_ _ _);clear gM;try walk_nrm
 refine aN.fB hC hR rfl rfl rfl func150 rfl rfl (T':=#[rv,.chan (some Dn),undef,undef,undef,undef,undef,undef,undef,undef,undef,undef,undef,undef,undef,undef,undef,undef,undef,undef,undef,undef,undef,undef,undef,undef,undef,undef,undef,undef,undef,undef,undef,undef,undef,undef,undef,undef,undef,undef,undef,undef,undef,undef,undef,undef]) (by first|rfl|simp[Act.eval,f150]) ?_;refine Ll hR (o:=?o) ?ho py ef DI bu UL ?h1 ?h2
 case ho=>rfl
 case h2=>
  intro w4 QH;try walk_nrm
  refine aN.op hC rfl rfl (fun τ d Kx gM=>?_);go_simp;refine gM _ _ (aN.re hR ?_ _ _);clear gM;try walk_nrm
  refine aN.aJ hC hR (aN.yes hC hR (by first|rfl|simp[Act.eval]) ?_);refine aN.run hC hR bf closed (by kernel_rfl) fun τ d=>?_;go_wp2;intro todo;refine aN.re hR ?_ _ _;refine aN.back hC hR ho func91 (v:=.tuple #[.slice none 0 0,.bool false]) (by simp[results,f91,go_sem]) (by simp[results,f91]) (yc.out 1 none 0 0 false w4 (kt3.join QH fun k hk=>?_) fun h=>by cases h);obtain⟨i,hi,rfl⟩:=hk;exact .inr (Hrg.out i hi)
 case h1=>
  intro w4 QH UH;try walk_nrm
  refine aN.op hC rfl rfl (fun τ d Kx gM=>?_);go_simp;refine gM _ _ (aN.re hR ?_ _ _);clear gM;try walk_nrm
  refine aN.aJ hC hR (aN.no hC hR (by first|rfl|simp[Act.eval]) (aN.skip hC hR ?_));have kt4:Kt (fun _=>False) w w4:=kt3.join QH fun k hk=>by
   obtain⟨i,hi,rfl⟩:=hk;exact .inr (Hrg.out i hi)
  have hO4:aB w4 gO 28 cur:=BC.of_block (QH.block gO BC.lt (by rintro⟨i,hi,e⟩;exact J1 i hi e.symm));have hrv4:Bf w4 rv m c rg:=DI.kt QH (by rintro g _ h _ ⟨i,hi,e⟩;exact h i hi e.symm);have hneL:∀g t (l:List Value),aB w3 g t l->t≠5->aB w4 g t l:=fun g t l hr ht=>hr.of_block (QH.block g hr.lt (by rintro⟨i,hi,e⟩;exact(bu.row i hi).lF hr (Ne.symm ht) e.symm));have xc:(picks pa false K).length=m:=hm.out.symm;refine aN.seq hC hR (aN.TA hC hR bf closed (by kernel_rfl) fun τ d=>?_);refine Ry (w:=w4.re τ d) (L:=picks pa false K) (cur:=cur) dC hc xc El (fun x hx=>?_) (by rw[cF.out];exact T2) hO4 (fun hp=>?_) hrv4 HrO.out ?_
  .unfold picks at hx;rw[List.mem_filter,List.mem_range]at hx;exact hx.1
  .obtain⟨gL,jZ,h1,h2,h3⟩:=We.out hp;exact⟨gL,jZ,h1,h2.lF BC (by decide),hneL gL _ _ h2 (by decide),h3⟩
  intro h16 vN lB h64 h65 h66 h67 h68 h69 h70 h71 h72 h73 h74 h75 h76 h77 h78 h79 h80 w5 er hO5;have kt5:Kt (fun _=>False) w w5:=kt4.join (Y:=fun b=>b=gO) ⟨er.size,er.block⟩ fun k hk=>.inr (by rw[hk];exact Yl);have YU:∀i,i<m->aB w5 (rg i) 5 (bO (lst c (Gs.it m M m i))):=fun i hi=>(UH.row i hi).of_block (er.block _ (UH.row i hi).lt (J1 i hi));clear er;dsimp only;refine aN.run hC hR bf closed (by kernel_rfl) fun τ d=>?_;have pZ:=Iz (cur:=cur) (L:=picks pa false K) (rg:=rg) (m:=m) (s:=s) (fun t u ht hu e=>Dm ht hu e) m (by rw[xc];exact Nat.le_refl _);have hJ:Hid (Calls prog 94 #[.slice (some ⟨gO,0,none⟩) K dN,.slice none 0 0] (w5.re τ d) fun e w'=>∃g cap,e= .returned (.slice (some ⟨g,0,none⟩) blk.length cap)/\w5.heap.size<=g/\blk.length<=cap/\cap<=maxLen/\(∀j,j<cap->w'.frozen? ⟨g,j,none⟩=false)/\
    (∀j,j<blk.length->w'.cell? ⟨g,j,none⟩=some (.int .u8 ((blk[j]?.getD 0:Nat):Int)))/\Below w5.heap.size (w5.re τ d) w'):=by
   have P':=iY cur (picks pa false K) rg m s m;have hKu:K<=(kr cur (picks pa false K) rg m s m).length:=by rw[P',cF.out];exact T2
   have:=QJ gO 0 K dN ((kr cur (picks pa false K) rg m s m).take K) ((List.range K).map (Pk.piece blk s)) (w5.re τ d) (by rw[List.length_take];omega) (by simp) gi (by omega) T2 (fun i v hv=>?_) (fun i v l hv hl=>?_) (fun l hl=>?_) (fun l hl x hx=>?_) ?_
   .rw[Jr eE.out]at this;exact this
   .rw[Nat.zero_add];have tf:i<K:=by have:=(List.getElem?_eq_some_iff.1 hv).1;rw[List.length_take]at this;omega
    rw[List.getElem?_take,if_pos tf]at hv;exact hO5.cell i v hv
   .have tf:i<K:=by have:=(List.getElem?_eq_some_iff.1 hv).1;rw[List.length_take]at this;omega
    rw[List.getElem?_take,if_pos tf]at hv;have el:l=Pk.piece blk s i:=by
     rw[List.getElem?_map,List.getElem?_range tf]at hl;exact(Option.some.inj hl).symm
    subst el;have eI:=Pk.piece_length eE.out tf;obtain⟨u1,u2⟩:=pZ i (by rw[cF.out];omega);by_cases hx:∃t,t<m/\(picks pa false K)[t]?.getD 0=i
    .obtain⟨t,ht,et⟩:=hx;rw[u2 t ht et]at hv;obtain rfl:=Option.some.inj hv;refine⟨rg t,m,s,by rw[eI],by rw[eI];exact Nat.le_refl _,Pk.m_ cN s i,fun q hq=>?_⟩;rw[eI]at hq;have gh:m+q<c:=by have:=hc.out;omega
     have h7:=(YU t ht).cell (m+q) _ (gX (by rw[bN];exact gh));rw[nO gh,HSol.out t q ht hq,et]at h7;rw[Pk.piece_at hq];exact h7
    .have gA:∀t,t<m->(picks pa false K)[t]?.getD 0≠i:=fun t ht e=>hx ⟨t,ht,e⟩;rw[u1 gA,HU.out i tf]at hv;obtain rfl:=Option.some.inj hv;have Lk:(pa i).isSome=true:=by
      cases tS:(pa i).isSome with
      |true=>rfl
      |false=>
       have yd:i∈picks pa false K:=by
        unfold picks;rw[List.mem_filter,List.mem_range];exact⟨tf,by rw[tS];rfl⟩
       obtain⟨t,ht,e⟩:=List.mem_iff_getElem.1 yd;exact absurd (by simp[ht,e]) (gA t (by omega))
     have h8:=JL (w':=w5.re τ d) (HP.out.has i (by omega) Lk ⟨X7,.inl tf⟩) (fun b hb=>kt5.block b hb id);unfold Pk.pieceN at h8;rw[if_pos tf]at h8;exact h8
   .obtain⟨i,hi,rfl⟩:=List.mem_map.1 hl;intro e;have:=Pk.piece_length eE.out (List.mem_range.1 hi);rw[e]at this;simp at this;omega
   .obtain⟨i,hi,rfl⟩:=List.mem_map.1 hl;exact Pk.m_ cN s i x hx
   .rw[Jr eE.out,eE.out];have:=Nat.mul_le_mul hK hs;omega
  clear pZ YU hO5;go_wp2_with (go_at_call 94;refine hJ.out.mono ?_;rintro _ w6 ⟨g,cap,rfl,k1,k2,k3,k4,k5,k6⟩;replace k1:=hide k1;replace k2:=hide k2;replace k4:=hide k4;replace k5:=hide k5;replace k6:=hide k6)
  intro todo;have kt6:Kt (fun _=>False) w w6:=kt5.trans ⟨k6.out.size,fun k hk _=>k6.out.block k hk⟩;refine aN.back hC hR ho func91 (v:=.tuple #[.slice (some ⟨g,0,none⟩) blk.length cap,.bool true]) (by simp[results,f91,go_sem]) (by simp[results,f91]) (yc.out 0 (some ⟨g,0,none⟩) blk.length cap true w6 kt6 fun _=>⟨X7.symm,fun _=>⟨rfl,g,rfl,Nat.le_trans kt5.size k1.out,fun j hj=>k4.out j (Nat.lt_of_lt_of_le hj k2.out),k5.out⟩⟩)
end
section
variable {Dn:Nat} {Stop:nA Nat->Prop} {fs:List Fr}
theorem Nj(hR:jT (bS Dn (aX (aI 2 (f187.body.getD .skip)))) Stop){ci:Nat}(ho:bA[ci]? =some o){K:Nat}{pl pc:Nat->Nat}{blk:List Nat}(hn:Hid (n=K+V))(gi:1<=K)(hK:K<=20)(hV:V<=20)(dC:1<=s)(hs:s<=16)(Ym:n<=cpp)(gh:cpp<=9223372036854775807)(eE:Hid (blk.length=K*s))(cN:∀x∈blk,x<256)
  (hP:Bg w pb po K V s pa pl pc blk)
  (bc:∀(m':Nat) (da:Option Addr) (dl dc:Nat) (wh:Bool) (w':World),Kt (fun _=>False) w w'->(m'=0->wh=fI pa K V/\(wh=true->dl=blk.length/\∃g,da=some ⟨g,0,none⟩/\w.heap.size<=g/\(∀j,j<dl->w'.frozen? ⟨g,j,none⟩=false)/\∀j,j<dl->w'.cell? ⟨g,j,none⟩=some (.int .u8 ((blk[j]?.getD 0:Nat):Int))))->
   aN prog aQ aZ jX (bS Dn (aX (aI 2 (f187.body.getD .skip)))) Stop m' ⟨cfn,((⟨cT,[]⟩:Act).put o.dst (.tuple #[.slice da dl dc,.bool wh])).tmps,.inRegion bA aT::ck,false⟩ fs w'):
  aN prog aQ aZ jX (bS Dn (aX (aI 2 (f187.body.getD .skip)))) Stop 0 ⟨91,#[.slice (some ⟨pb,po,none⟩) n cpp,.int .i64 V,.chan (some Dn),undef,undef,undef,undef,undef,undef,undef,undef,undef,undef,undef,undef,undef,undef,undef,undef,undef,undef,undef,undef,undef,undef,undef,undef,undef,undef,undef,undef,undef,undef,undef,undef,undef,undef,undef,undef,undef,undef,undef,undef,undef,undef,undef,undef,undef,undef,undef,undef,undef,undef,undef,undef,undef,undef,undef,undef,undef,undef,undef,undef,undef,undef,undef,undef,undef,undef,undef,undef,undef,undef,undef,undef,undef,undef,undef,undef,undef,undef,undef,undef],[.code (f91.body.getD .skip)],false⟩ (⟨cfn,cT,.inRegion bA (ci::aT)::ck,false⟩::fs) w:=by
 have hC:=closed2;have HP:=hide hP;have yc:=hide bc;clear hP bc;have Mt:pb<w.heap.size:=bR (HP.out.cell 0 (by omega));have mc:(n:Int)-(V:Int)=(K:Int):=by have:=hn.out;omega
 have hwK:IntKind.i64.wrap (K:Int)=(K:Int):=aH _ (by omega) (by omega);conv=>arg 8;simp only[f91,Option.getD_some]
 refine aN.seq hC hR (aN.run hC hR bf closed (by kernel_rfl) fun τ d=>?_);go_wp2;refine aN.re hR ?_ _ _;refine aN.seq hC hR (aN.run hC hR bf closed (by kernel_rfl) fun τ d=>?_);go_wp2;refine aN.re hR ?_ _ _;have xt:∀i,i<K->((List.range K).map fun i=>Value.slice (pa i) (pl i) (pc i))[i]? =some (.slice (pa i) (pl i) (pc i)):=fun i hi=>by simp[hi]
 refine aN.seq hC hR (aN.TA hC hR bf closed (by kernel_rfl) fun τ d=>?_);refine VW (w:=w.re τ d) (xs:=(List.range K).map fun i=>Value.slice (pa i) (pl i) (pc i)) hn gi hK hV Ym gh (by show _=_;simp) (fun u hu=>?_) (fun j u hj=>?_) ?_
 .obtain⟨i,_,rfl⟩:=List.mem_map.1 hu;rfl
 .have MM:j<K:=by have:=(List.getElem?_eq_some_iff.1 hj).1;simpa using this
  rw[xt j MM]at hj;obtain rfl:=Option.some.inj hj;exact HP.out.cell j (by omega)
 intro gO dN cur aM cM xi H4 H0 HJ HH Hx Hv w1 bp Yl hO bw AW hcO2 cF haM;have kt1:Kt (fun _=>False) w w1:=⟨bp.size,fun k hk _=>bp.block k hk⟩;have hP1:=HP.out.of (fun b hb=>kt1.block b hb id);have Kd:w.heap.size<=gO:=Yl;have zY:∀i,i<K->cur[i]? =some (.slice (pa i) (pl i) (pc i)):=fun i hi=>by
  have:(cur.take K)[i]? =some (.slice (pa i) (pl i) (pc i)):=by rw[bw];exact xt i hi
  rw[List.getElem?_take,if_pos hi]at this;exact this
 have TO:=hO.lt;clear bp Yl bw xt;dsimp only;refine aN.seq hC hR (aN.TA hC hR bf closed (by kernel_rfl) fun τ d=>?_);refine VU (w:=w1.re τ d) hK hV hO zY haM (fun j hj=>by rw[Nat.add_assoc];exact hP1.cell (K+j) (by omega)) ?_;intro vL vE Hs Hn Hm Hk w2 cq mb ki O2 Gd;have kt12:Kt (fun _=>False) w1 w2:=⟨cq.size,fun k hk _=>cq.block k hk⟩;have kt2:=kt1.trans kt12;have Of:=HP.out.of (fun b hb=>kt2.block b hb id);have pP:aB w2 gO 28 cur:=hO.of_block (kt12.block gO TO id);clear cq hO hP1;dsimp only;obtain⟨m,hm⟩:∃m,m=(picks pa false K).length:=⟨_,rfl⟩;obtain⟨nE,AK⟩:∃nE,nE=(picks (fun j=>pa (K+j)) true V).length:=⟨_,rfl⟩;have El:m<=20:=by have:=iW pa false K;omega
 have hnEV:nE<=20:=by have:=iW (fun j=>pa (K+j)) true V;omega
 have xb:∃aL nU,vL= .slice aL m nU/\(0<m->∃gL jZ,aL=some ⟨gL,0,none⟩/\aB w2 gL 3 jZ/\jZ.take m=dF (picks pa false K)/\w1.heap.size<=gL):=by
  obtain⟨aL,nU,rfl⟩:=mb.shape;rw[dS,<-hm]at mb ki⊢;refine⟨aL,nU,rfl,fun hp=>?_⟩;obtain⟨gL,cap,jZ,e1,e2,_,_,_,e3⟩:=mb.open' (by rw[dS,<-hm];exact hp);simp only[Value.slice.injEq]at e1;obtain⟨rfl,_,rfl⟩:=e1;rw[dS,<-hm]at e3;exact⟨gL,jZ,rfl,e2,e3,ki gL rfl⟩
 have O0:∃aE qo,vE= .slice aE nE qo/\nE<=qo/\qo<=maxLen/\(aE=none->nE=0/\qo=0)/\(0<nE->∃gE FI,aE=some ⟨gE,0,none⟩/\aB w2 gE 3 FI/\FI.take nE=dF (picks (fun j=>pa (K+j)) true V)/\w1.heap.size<=gE):=by
  rcases O2 with⟨rfl,h0⟩|⟨gE,cap,FI,rfl,e1,e2,e3,e4,e5⟩
  .have:nE=0:=by rw[AK,<-dS,h0];rfl
   exact⟨none,0,by rw[this],by omega,by simp[maxLen],fun _=>⟨this,rfl⟩,fun h=>by omega⟩
  .rw[dS,<-AK]at e2 e5 Gd⊢;exact⟨_,cap,rfl,e2,e3,(fun h=>by cases h),fun _=>⟨gE,FI,rfl,e1,e5,Gd gE rfl⟩⟩
 obtain⟨aL,nU,rfl,xb⟩:=xb;obtain⟨aE,qo,rfl,FA,zb,S8,O0⟩:=O0;clear mb ki O2 Gd;have We:=hide xb;have HEo:=hide O0;have HM:=hide hm;have Pe:=hide AK
 clear xb O0 hm AK;by_cases ai:nE<m
 .
  have hlt':(nE:Int)<(m:Int):=by omega
  refine aN.seq hC hR (aN.run hC hR bf closed (by kernel_rfl) fun τ d=>?_);go_wp2;intro todo;refine aN.re hR ?_ _ _;refine aN.back hC hR ho func91 (v:=.tuple #[.slice none 0 0,.bool false]) (by simp[results,f91,go_sem]) (by simp[results,f91]) (yc.out 0 none 0 0 false w2 kt2 fun _=>⟨?_,fun h=>by cases h⟩);symm
  rw[fI,decide_eq_false_iff_not,<-HM.out,<-Pe.out];omega
 have hlt':¬(nE:Int)<(m:Int):=by omega
 refine aN.seq hC hR (aN.run hC hR bf closed (by kernel_rfl) fun τ d=>?_);go_wp2;refine aN.re hR ?_ _ _;refine aN.seq hC hR (aN.run hC hR bf closed (by kernel_rfl) fun τ d=>?_);go_wp2;refine aN.re hR ?_ _ _;have X7:fI pa K V=true:=by
  rw[fI,decide_eq_true_eq,<-HM.out,<-Pe.out];omega
 rcases Nat.eq_zero_or_pos m with h0|hp
 .subst h0;refine aN.seq hC hR (aN.TA hC hR bf closed (by kernel_rfl) fun τ d=>?_);refine Rx (w:=w2.re τ d) FA zb S8 ?_;intro xj Zb Za Y_ Y9 Y8 uu Y7 Hj Hi Hh Hc Hb Ha G' GS GQ GP GO GM GG GC;dsimp only;refine aN.re hR ?_ _ _;exact AQ hR ho (rg:=fun _=>0) (M:=fun _ _=>0) (c:=0+s) gi hK dC hs eE cN HM (show Hid (0+s=0+s)from rfl) HP.out kt2 pP Kd zY AW cF (fun h=>absurd h (Nat.lt_irrefl _)) ⟨none,0,rfl,fun h=>absurd h (Nat.lt_irrefl _)⟩ ⟨fun i hi=>absurd hi (Nat.not_lt_zero _),fun i j hi=>absurd hi (Nat.not_lt_zero _),fun i j hi=>absurd hi (Nat.not_lt_zero _)⟩ (fun i hi=>absurd hi (Nat.not_lt_zero _)) (fun g hg=>by simp[Value.ownBlock]at hg) (fun k hk=>absurd hk (Nat.not_lt_zero _)) (fun t q ht=>absurd ht (Nat.not_lt_zero _)) X7 yc.out
 .obtain⟨gL,jZ,rfl,ki,xa,hgL⟩:=We.out hp;obtain⟨gE,FI,rfl,Gd,T8,hgE⟩:=HEo.out (by omega);have hnV:=iW (fun j=>pa (K+j)) true V;rw[<-Pe.out]at hnV;obtain rfl:=haM (by omega);have xc:(picks pa false K).length=m:=HM.out.symm;have Uq:(picks (fun j=>pa (K+j)) true V).length=nE:=Pe.out.symm;have eI:∀i,i<K->Pk.pieceN blk s K i=Pk.piece blk s i:=fun i hi=>by unfold Pk.pieceN;rw[if_pos hi]
  let hd:Nat->Bool:=fun i=>decide (i<K)&&(pa i).isSome
  have Ff:picks pa false K=(List.range K).filter fun i=> !hd i:=by
   unfold picks;refine List.filter_congr fun i hi=>?_;rw[List.mem_range]at hi;simp only[hd,hi,decide_true,Bool.true_and];cases (pa i).isSome<;>rfl
  refine aN.seq hC hR (aN.TA hC hR bf closed (by kernel_rfl) fun τ d=>?_);refine VT (w:=w2.re τ d) (L:=picks pa false K) (E:=picks (fun j=>pa (K+j)) true V) (kn:=Ja blk s hd) (Yw:=fun q=>Pk.pieceN blk s K (K+(picks (fun j=>pa (K+j)) true V)[q]?.getD 0)) (c:=m+s) (pa:=pa) (pl:=pl) (pc:=pc) hK hV dC (by omega) hp El (by omega) hnEV FA (show Hid (m+s=m+s)from rfl) (by omega) xc Uq (fun x hx=>?_) (fun x hx=>?_) pP (fun i hi=>?_) (fun i b hb=>?_) ki xa Gd T8 (fun j hj=>by rw[Nat.add_assoc];exact Of.cell (K+j) (by omega)) (fun q hq=>?_) ?_
  .unfold picks at hx;rw[List.mem_filter,List.mem_range]at hx;omega
  .unfold picks at hx;rw[List.mem_filter,List.mem_range]at hx;exact hx.1
  .refine⟨_,zY i hi,?_⟩;simp only[Ja,hd,hi,decide_true,Bool.true_and];cases tS:(pa i).isSome with
   |true=>
    rw[if_pos rfl];have:=Of.has i (by omega) tS ⟨X7,.inl hi⟩;rw[eI i hi]at this;exact this
   |false=>
    rw[if_neg (by simp)];have fw:pa i=none:=by
     cases h:pa i with
     |none=>rfl
     |some q=>rw[h]at tS;cases tS
    obtain⟨e1,e2⟩:=Of.nil i (by omega) fw;show Value.slice (pa i) (pl i) (pc i)=_;rw[fw,e1,e2]
  .simp only[Ja]at hb;split at hb
   .rename_i hdi;obtain rfl:=Option.some.inj hb;simp only[hd,Bool.and_eq_true,decide_eq_true_eq]at hdi;exact⟨Pk.piece_length eE.out hdi.1,Pk.m_ cN s i⟩
   .cases hb
  .obtain⟨q1,q2⟩:=Iy (pa:=fun j=>pa (K+j)) (b:=true) (n:=V) (q:=q) (by omega);exact⟨Of.has _ (by omega) q2 ⟨X7,.inr ⟨q,by omega,rfl⟩⟩,Pk.dW eE.out⟩
  intro rv rg xj Zb Za Y_ Y9 Y8 uu Y7 Hj Hi Hh Hc Hb Ha G' GS GQ GP GO GM GG GC w3 cQ hrv3 UJ hrg3 hrvb;have kt23:Kt (fun _=>False) w2 w3:=⟨cQ.size,fun k hk _=>cQ.block k hk⟩;have kt3:=kt2.trans kt23;have BC:aB w3 gO 28 cur:=pP.of_block (kt23.block gO pP.lt id);have tt:aB w3 gL 3 jZ:=ki.of_block (kt23.block gL ki.lt id);have hO2l:=pP.lt;have eM:w2.heap.size≥w.heap.size:=kt2.size;have Q1:=Ik (blk:=blk) (s:=s) (K:=K) (hd:=hd) (E:=fun i=>(picks (fun j=>pa (K+j)) true V)[i]?.getD 0) eE.out cN hK (fun i hi=>?_) (fun i j hi hj e=>?_) m (by rw[<-Ff];exact HM.out) (fun i j=>(eU m s ((picks (fun j=>pa (K+j)) true V)[i]?.getD 0) (Ja blk s hd) ((picks pa false K).map (Pk.weight ((picks (fun j=>pa (K+j)) true V)[i]?.getD 0) ·)++Pk.pieceN blk s K (K+(picks (fun j=>pa (K+j)) true V)[i]?.getD 0)) K)[j]?.getD 0) (fun i j=>?_) (fun i j hi hj=>UJ.lt i j hi hj);rotate_left
  .rw[<-Ff,xc]at hi;have:=(Iy (pa:=fun j=>pa (K+j)) (b:=true) (n:=V) (q:=i) (by omega)).1;show _<20;omega
  .rw[<-Ff,xc]at hi hj;exact Dm (by omega) (by omega) e
  .unfold rowsOf;rw[<-Ff,xc]
  clear cQ;dsimp only;rw[<-Ff]at Q1;exact AQ hR ho (c:=m+s) (rg:=rg) gi hK dC hs eE cN HM (show Hid (m+s=m+s)from rfl) HP.out kt3 BC Kd zY AW cF (fun _=>⟨gL,jZ,rfl,tt,xa⟩) hrv3 UJ (fun i hi=>Nat.le_trans eM (hrg3 i hi)) (fun g hg e=>by have:=hrvb g hg;rw[e]at this;exact absurd this (by show¬w2.heap.size<=gO;omega)) Q1.1 Q1.2.2 X7 yc.out
end
end
section
open Go.Conc Go.RowKit Go.bn Go.Ren Go.kg Go.Deep
attribute [local go_sem↓] Go.wp_at_zero Go.wp_at_succ
variable{R Dn B0 z:Nat}{wz:Nat->Bool}{Dz:Nat->List Nat}
theorem ZO{ops:Array Oper}{tl:Code}{ops2:Array Oper}:jT (bS Dn ops2) (mE R Dn ops tl (vY B0 wz Dz) z):=⟨fun _ _ _ h=>h,fun s Next τ d h=>Xt Dn ops2 s Next τ d h⟩
theorem J6{cp cD cR cz Wg:Nat}{cS:Addr}{K V n s pb po cpp:Nat}{pa:Nat->Option Addr}{pl pc:Nat->Nat}{blk:List Nat}{w:World}(hn:Hid (n=K+V))(gi:1<=K)(hK:K<=20)(hV:V<=20)(dC:1<=s)(hs:s<=16)(Ym:n<=cpp)(gh:cpp<=9223372036854775807)(eE:Hid (blk.length=K*s))(cN:∀x∈blk,x<256)
  (hP:Bg w pb po K V s pa pl pc blk)(oY:B0<=w.heap.size)(la:w.cell? ⟨cp,0,none⟩=some (.slice (some ⟨pb,po,none⟩) n cpp))(Fw:w.cell? cS=some (.int .i64 V))(we:w.cell? ⟨cD,0,none⟩=some (.chan (some Dn)))(wc:w.cell? ⟨cR,0,none⟩=some (.chan (some R)))(eR:w.cell? ⟨cz,0,none⟩=some (.int .i64 z))
  (rL:wz z=fI pa K V)(UB:Dz z=blk):
  aN prog aQ aZ jX (bS Dn (aX (aI 2 (f187.body.getD .skip)))) (mE R Dn (aX (lQ f89)) (jV f89) (vY B0 wz Dz) z) 0 ⟨Nw,oU ⟨Wg,0,none⟩ ⟨cp,0,none⟩ cS ⟨cD,0,none⟩ ⟨cR,0,none⟩ ⟨cz,0,none⟩,[.code (mJ f89)],false⟩ [] w:=by
 have hC:=closed2;have hR:jT (bS Dn (aX (aI 2 (f187.body.getD .skip)))) (mE R Dn (aX (lQ f89)) (jV f89) (vY B0 wz Dz) z):=ZO;have e0:oU ⟨Wg,0,none⟩ ⟨cp,0,none⟩ cS ⟨cD,0,none⟩ ⟨cR,0,none⟩ ⟨cz,0,none⟩=#[.pointer (some ⟨Wg,0,none⟩),.pointer (some ⟨cp,0,none⟩),.pointer (some cS),.pointer (some ⟨cD,0,none⟩),.pointer (some ⟨cR,0,none⟩),.pointer (some ⟨cz,0,none⟩),undef,undef,undef,undef,undef,undef,undef,undef,undef,undef,undef,undef,undef,undef,undef,undef,undef,undef,undef]:=rfl;rw[e0];clear e0;have HP:=hide hP;clear hP;conv=>arg 8;simp only[f89,mJ,vF,Option.getD_some,Nw]
 refine aN.seq hC hR (aN.reg hC hR (l:= [0,1,2,3,4,5,6,7,8]) rfl ?_);refine aN.op hC rfl rfl (fun τ d Kx gM=>?_);have q1:(w.re τ d).cell? ⟨cp,0,none⟩=some (.slice (some ⟨pb,po,none⟩) n cpp):=la;go_simp;refine gM _ _ (aN.re hR ?_ _ _);clear gM q1;try walk_nrm
 refine aN.op hC rfl rfl (fun τ d Kx gM=>?_);have q1:(w.re τ d).cell? cS=some (.int .i64 V):=Fw;go_simp;refine gM _ _ (aN.re hR ?_ _ _);clear gM q1;try walk_nrm
 refine aN.op hC rfl rfl (fun τ d Kx gM=>?_);have q1:(w.re τ d).cell? ⟨cD,0,none⟩=some (.chan (some Dn)):=we;go_simp;refine gM _ _ (aN.re hR ?_ _ _);clear gM q1;try walk_nrm
 refine aN.fB hC hR rfl rfl rfl func91 rfl rfl (T':=#[.slice (some ⟨pb,po,none⟩) n cpp,.int .i64 V,.chan (some Dn),undef,undef,undef,undef,undef,undef,undef,undef,undef,undef,undef,undef,undef,undef,undef,undef,undef,undef,undef,undef,undef,undef,undef,undef,undef,undef,undef,undef,undef,undef,undef,undef,undef,undef,undef,undef,undef,undef,undef,undef,undef,undef,undef,undef,undef,undef,undef,undef,undef,undef,undef,undef,undef,undef,undef,undef,undef,undef,undef,undef,undef,undef,undef,undef,undef,undef,undef,undef,undef,undef,undef,undef,undef,undef,undef,undef,undef,undef,undef,undef]) (by simp[Act.eval,f91]) ?_;refine Nj hR (o:=?o) ?ho hn gi hK hV dC hs Ym gh eE cN HP.out ?bc
 case ho=>rfl
 case bc=>
  intro m' da dl dc wh w' kt dp;have keep:∀(a:Addr) (v:Value),w.cell? a=some v->w'.cell? a=some v:=fun a v h=>by
   have e:=kt.block a.block (bR h) id;unfold World.cell? at h⊢;rw[e];exact h
  have hcR':=keep _ _ wc;have hcz':=keep _ _ eR;have hcD':=keep _ _ we;try walk_nrm
  iterate 5 (refine aN.op hC rfl rfl (fun τ d Kx gM=>?_);go_simp;refine gM _ _ (aN.re hR ?_ _ _);clear gM;try walk_nrm)
  refine aN.aJ hC hR (aN.seq hC hR ?_);refine aN.run hC hR bf closed (by kernel_rfl) fun τ d=>?_;have q1:(w'.re τ d).cell? ⟨cR,0,none⟩=some (.chan (some R)):=hcR';have q2:(w'.re τ d).cell? ⟨cz,0,none⟩=some (.int .i64 z):=hcz';have q3:(w'.re τ d).cell? ⟨cD,0,none⟩=some (.chan (some Dn)):=hcD';go_wp2;refine aN.re hR ?_ _ _;refine aN.seq hC hR (aN.reg hC hR (l:= [0,1,2,3]) rfl ?_);refine aN.stop ⟨rfl,_,rfl,rfl,rfl,rfl,da,dl,dc,wh,rfl,fun hm=>?_⟩;obtain⟨h1,h2⟩:=dp hm;refine⟨by rw[rL];exact h1,fun hw=>?_⟩;obtain⟨k1,g,k2,k3,k4,k5⟩:=h2 hw;rw[UB];refine⟨k1,fun hd=>⟨g,0,k2,Nat.le_trans oY k3,⟨0,?_,k4 0 (by omega)⟩,fun j hj=>?_⟩⟩
  .show(w'.cell? ⟨g,0,none⟩).isSome=true;rw[k5 0 (by omega)];rfl
  .rw[Nat.zero_add];exact k5 j hj
end
section
open Go.Conc Go.RowKit Go.bn Go.Ren Go.kg Go.Deep
variable{Keep:Nat->Bool}{w p q:World}{i V s n pb:Nat}{pa:Nat->Option Addr}
structure OI(p:World)(K V s n pb:Nat)(pa:Nat->Option Addr)(pl pc:Nat->Nat)(blk:List Nat):Prop where
 num:n=K+V
 row:aB p pb 28 ((List.range n).map fun i=>Value.slice (pa i) (pl i) (pc i))
 nil:∀i,i<n->pa i=none->pl i=0/\pc i=0
 has:∀i,i<n->(pa i).isSome=true->∃g l,pa i=some ⟨g,0,none⟩/\aB p g 5 (bO l)/\pl i=s/\l.length=pc i/\s<=pc i/\(Used pa K V i->l.take s=Pk.pieceN blk s K i)/\∀x∈l,x<256
theorem TN{b:Nat}{v:Value}(hk:Keep b=true)(h:w.cell? ⟨b,i,none⟩=some v):(priv Keep w).cell? ⟨b,i,none⟩=some v:=by
 simp only[World.cell?,pI]at h⊢;cases ho:w.heap[b]? with
 |none=>rw[ho]at h;cases h
 |some o=>
  rw[ho]at h;cases o with
  |cells c e fz=>simpa[hk,Zd]using h
  |_=>simp at h
theorem P6(hk:∀b i v,Keep b=true->w.cell? ⟨b,i,none⟩=some v->SV (Array.range w.heap.size) v v)(cj:∀b,Keep b=true->b<w.heap.size->∃c e fz,w.heap[b]? =some (.cells c e fz)):WR (Array.range w.heap.size) (priv Keep w) (priv Keep w):=by
 have h:=NZ hk cj;have hs:(priv Keep w).heap.size=w.heap.size:=by simp[priv]
 refine⟨h.size,h.rows,h.inj,fun b c hb=>by rw[hs];exact h.low b c hb,fun b i v hv=>?_,fun b i c h1 h2 h3=>?_,rfl,rfl⟩
 .obtain⟨k1,k2,_,k4⟩:=mZ hv;exact⟨b,v,fU k4,hv,hk b i v k1 k2⟩
 .rw[(jB h3).1];exact h2
theorem Rz{K:Nat}{pl pc:Nat->Nat}{blk:List Nat}(h:OI p K V s n pb pa pl pc blk)(hi:i<n)(hs:(pa i).isSome=true)(hu:Used pa K V i):
  ∃g,pa i=some ⟨g,0,none⟩/\pl i=s/\s<=pc i/\(∀x∈Pk.pieceN blk s K i,x<256)/\∀j,j<s->p.cell? ⟨g,j,none⟩=some (.int .u8 (((Pk.pieceN blk s K i)[j]?.getD 0:Nat):Int)):=by
 obtain⟨g,l,h1,h2,h3,h4,h5,h6,h7⟩:=h.has i hi hs;replace h6:=h6 hu;refine⟨g,h1,h3,h5,fun x hx=>by rw[<-h6]at hx;exact h7 x (List.mem_of_mem_take hx),fun j hj=>?_⟩;have:=h2.cell j _ (gX (by omega));rw[this,<-h6,List.getElem?_take,if_pos hj]
theorem Rw{R Dn B0 z cp cD cR cz:Nat}{cSb:Nat}{wz:Nat->Bool}{Dz:Nat->List Nat}{K:Nat}{pl pc:Nat->Nat}{blk:List Nat}{Wg:Nat}(hB:OI p K V s n pb pa pl pc blk)(gi:1<=K)(hK:K<=20)(hV:V<=20)(dC:1<=s)(hs:s<=16)(eE:blk.length=K*s)(cN:∀x∈blk,x<256)
  (hRn:R<p.heap.size)(hDn:Dn<p.heap.size)(hWg:Wg<w.heap.size)(wc:p.heap[cR]? =some (.cells #[.chan (some R)] 146))(we:p.heap[cD]? =some (.cells #[.chan (some Dn)] 147))(Fw:p.heap[cSb]? =some (.cells #[.int .i64 V] 3))
  (rL:wz z=fI pa K V)(UB:Dz z=blk)(oY:B0<=w.heap.size)(hpw:p.heap.size<=w.heap.size)
  (bu:∀b i v,p.cell? ⟨b,i,none⟩=some v->w.heap[b]? =p.heap[b]?)(eR:w.heap[cz]? =some (.cells #[.int .i64 z] 3))(la:w.heap[cp]? =some (.cells #[.slice (some ⟨pb,0,none⟩) n n] 25)):
  ∃Keep:Nat->Bool,Keep cz=true/\(∀b i v,Keep b=true->w.cell? ⟨b,i,none⟩=some v->SV (Array.range w.heap.size) v v)/\(∀b,Keep b=true->b<w.heap.size->∃c e fz,w.heap[b]? =some (.cells c e fz))/\(∀b,Keep b=true->(∃i v,p.cell? ⟨b,i,none⟩=some v)\/b=cz\/b=cp)/\
   WT prog (bS Dn (aX (aI 2 (f187.body.getD .skip)))) (mE R Dn (aX (lQ f89)) (jV f89) (vY B0 wz Dz) z) ⟨0,⟨Nw,oU ⟨Wg,0,none⟩ ⟨cp,0,none⟩ ⟨cSb,0,none⟩ ⟨cD,0,none⟩ ⟨cR,0,none⟩ ⟨cz,0,none⟩,[.code (mJ f89)],false⟩,[],priv Keep w⟩:=by
 classical
 have TD:∀(b:Nat) (c:Array Value) (e:TypeId) (fz:Nat×Nat),p.heap[b]? =some (.cells c e fz)->0<c.size->w.heap[b]? =some (.cells c e fz):=fun b c e fz h h0=>by
  have hc:p.cell? ⟨b,0,none⟩=some c[0]:=by simp[World.cell?,h,h0]
  rw[bu b 0 _ hc];exact h
 have cellP:∀(b:Nat) (c:Array Value) (e:TypeId) (fz:Nat×Nat),p.heap[b]? =some (.cells c e fz)->0<c.size->∃i v,p.cell? ⟨b,i,none⟩=some v:=fun b c e fz h h0=>⟨0,c[0],by simp[World.cell?,h,h0]⟩;have ta:0<n:=by have:=hB.num;omega
 have cC:((List.range n).map fun i=>Value.slice (pa i) (pl i) (pc i)).toArray.size=n:=by simp
 have wR:=TD cR _ _ _ wc (by simp);have wD:=TD cD _ _ _ we (by simp);have wS:=TD cSb _ _ _ Fw (by simp);have wP:=TD pb _ _ _ hB.row (by rw[cC];exact ta);have ltOf:∀(b:Nat) (o:Obj),w.heap[b]? =some o->b<w.heap.size:=fun b o h=>(Array.getElem?_eq_some_iff.1 h).1;have hear:∀i,i<n->∀a,pa i=some a->∃g l,a=⟨g,0,none⟩/\w.heap[g]? =some (.cells (bO l).toArray 5 (0,0))/\p.heap[g]? =some (.cells (bO l).toArray 5 (0,0))/\0<(bO l).toArray.size:=fun i hi a ha=>by
  obtain⟨g,l,h1,h2,h3,h4,h5,_⟩:=hB.has i hi (by rw[ha];rfl);rw[ha]at h1;have h0:0<(bO l).toArray.size:=by simp[bO];omega
  exact⟨g,l,Option.some.inj h1,TD g _ _ _ h2 h0,h2,h0⟩
 let Kp:Nat->Prop:=fun b=>b=cz\/b=cp\/b=cSb\/b=cD\/b=cR\/b=pb\/∃i,i<n/\pa i=some ⟨b,0,none⟩
 have what:∀b,Kp b->∃c e fz,w.heap[b]? =some (.cells c e fz)/\(∀(i:Nat) v,c[i]? =some v->SV (Array.range w.heap.size) v v)/\((∃i v,p.cell? ⟨b,i,none⟩=some v)\/b=cz\/b=cp):=by
  intro b hb;have one:∀(x:Value),SV (Array.range w.heap.size) x x->∀(i:Nat) v,(#[x]:Array Value)[i]? =some v->SV (Array.range w.heap.size) v v:=fun x hx i v hv=>by
   match i,hv with
   |0,hv=>obtain rfl:=Option.some.inj hv;exact hx
   |i+1,hv=>simp at hv
  rcases hb with rfl|rfl|rfl|rfl|rfl|rfl|⟨i,hi,ha⟩
  .exact⟨_,_,_,eR,one _ (.int _ _),.inr (.inl rfl)⟩
  .exact⟨_,_,_,la,one _ (.sl _ _ ⟨fU (ltOf pb _ wP),rfl,rfl⟩),.inr (.inr rfl)⟩
  .exact⟨_,_,_,wS,one _ (.int _ _),.inl (cellP _ _ _ _ Fw (by simp))⟩
  .exact⟨_,_,_,wD,one _ (.chan (fU (by omega))),.inl (cellP _ _ _ _ we (by simp))⟩
  .exact⟨_,_,_,wR,one _ (.chan (fU (by omega))),.inl (cellP _ _ _ _ wc (by simp))⟩
  .refine⟨_,_,_,wP,fun i v hv=>?_,.inl (cellP _ _ _ _ hB.row (by rw[cC];exact ta))⟩;have hi:i<n:=by have:=(Array.getElem?_eq_some_iff.1 hv).1;rw[cC]at this;exact this
   have e:v= .slice (pa i) (pl i) (pc i):=by simpa[hi]using hv.symm
   subst e;cases hp:pa i with
   |none=>exact .Gg _ _
   |some a=>
    obtain⟨g,l,rfl,h2,_⟩:=hear i hi a hp;exact .sl _ _ ⟨fU (ltOf g _ h2),rfl,rfl⟩
  .obtain⟨g,l,e,h2,h3,h4⟩:=hear i hi _ ha;simp only[Addr.mk.injEq,and_true]at e;subst e;refine⟨_,_,_,h2,fun j v hv=>?_,.inl (cellP _ _ _ _ h3 h4)⟩;simp only[bO,List.getElem?_toArray,List.getElem?_map]at hv;cases hl:l[j]? with
   |none=>rw[hl]at hv;cases hv
   |some x=>rw[hl]at hv;obtain rfl:=Option.some.inj hv;exact .int _ _
 have kz:decide (Kp cz)=true:=decide_eq_true (.inl rfl);have hk:∀b i v,decide (Kp b)=true->w.cell? ⟨b,i,none⟩=some v->SV (Array.range w.heap.size) v v:=fun b i v hb hv=>by
  obtain⟨c,e,fz,h1,h2,_⟩:=what b (of_decide_eq_true hb);refine h2 i v ?_;simpa[World.cell?,h1]using hv
 have cj:∀b,decide (Kp b)=true->b<w.heap.size->∃c e fz,w.heap[b]? =some (.cells c e fz):=fun b hb _=>by
  obtain⟨c,e,fz,h1,_⟩:=what b (of_decide_eq_true hb);exact⟨c,e,fz,h1⟩
 refine⟨fun b=>decide (Kp b),kz,hk,cj,fun b hb=>?_,?_⟩
 .obtain⟨_,_,_,_,_,h⟩:=what b (of_decide_eq_true hb);exact h
 have keep:∀b,Kp b->∀i v,w.cell? ⟨b,i,none⟩=some v->(priv (fun b=>decide (Kp b)) w).cell? ⟨b,i,none⟩=some v:=fun b hb i v hv=>TN (decide_eq_true hb) hv;have cL:(priv (fun b=>decide (Kp b)) w).heap.size=w.heap.size:=by simp[priv]
 have hpcs:Bg (priv (fun b=>decide (Kp b)) w) pb 0 K V s pa pl pc blk:=by
  refine⟨fun i hi=>?_,fun i hi=>hB.nil i (by have:=hB.num;omega),fun i hi QQ hu=>?_⟩
  .refine keep pb (.inr (.inr (.inr (.inr (.inr (.inl rfl)))))) _ _ ?_;have bh:i<n:=by have:=hB.num;omega
   simp[World.cell?,wP,bh]
  .have bh:i<n:=by have:=hB.num;omega
   obtain⟨g,h1,h2,h3,h4,h5⟩:=Rz hB bh QQ hu;have hl:=Pk.dW (n:=i) eE;rw[h1,h2];refine⟨g,0,pc i,by rw[hl],by rw[hl];exact h3,h4,fun j hj=>?_⟩;rw[hl]at hj;refine keep g (.inr (.inr (.inr (.inr (.inr (.inr ⟨i,bh,h1⟩)))))) _ _ ?_;rw[Nat.zero_add];have h6:=h5 j hj;have e:=bu g j _ h6;unfold World.cell? at h6⊢;rw[e];exact h6
 have sE:=J6 (R:=R) (Dn:=Dn) (B0:=B0) (z:=z) (cp:=cp) (cD:=cD) (cR:=cR) (cz:=cz) (Wg:=Wg) (cS:=⟨cSb,0,none⟩) (wz:=wz) (Dz:=Dz) (n:=n) (cpp:=n) (w:=priv (fun b=>decide (Kp b)) w) hB.num gi hK hV dC hs (Nat.le_refl _) (by have:=hB.num;omega) eE cN hpcs (by rw[cL];exact oY)
  (keep cp (.inr (.inl rfl)) _ _ (by simp[World.cell?,la])) (keep cSb (.inr (.inr (.inl rfl))) _ _ (by simp[World.cell?,wS])) (keep cD (.inr (.inr (.inr (.inl rfl)))) _ _ (by simp[World.cell?,wD])) (keep cR (.inr (.inr (.inr (.inr (.inl rfl))))) _ _ (by simp[World.cell?,wR])) (keep cz (.inl rfl) _ _ (by simp[World.cell?,eR])) rL UB
 refine sE ⟨Array.range w.heap.size,.one ⟨rfl,rfl,rfl,?_,?_⟩,P6 hk cj⟩
 .exact ND hWg (ltOf cp _ la) (ltOf cSb _ wS) (ltOf cD _ wD) (ltOf cR _ wR) (ltOf cz _ eR)
 .intro x hx;simp only[List.mem_singleton]at hx;subst hx;kernel_rfl
open Go.Conc Go.ConcN Go.RowKit Go.Conc.Lib Go.ConcR.Gen Go.ConcN.Gen Go.kg Go.bn Go.Ren Go.fE Go.Deep
open Go.ConcR (KK wgBlock WgAt stA smA rd wr mk Payload Aside2 DC0)
attribute [local go_sem↓] Go.wp_at_zero Go.wp_at_succ
structure ObjB(p:World)(bb N V s:Nat)(Kz:Nat->Nat)(pb:Nat->Nat)(pa:Nat->Nat->Option Addr)(pl pc:Nat->Nat->Nat)(blk:Nat->List Nat):Prop where
 N1:1<=N
 N2:N<=256
 V2:V<=20
 s1:1<=s
 s2:s<=16
 K1:∀z,z<N->1<=Kz z
 K2:∀z,z<N->Kz z<=20
 len:∀z,z<N->(blk z).length=Kz z*s
 lt:∀z,z<N->∀x∈blk z,x<256
 cell:∀z,z<N->p.cell? ⟨bb,z,none⟩=some (.slice (some ⟨pb z,0,none⟩) (Kz z+V) (Kz z+V))
 at_:∀z,z<N->OI p (Kz z) V s (Kz z+V) (pb z) (pa z) (pl z) (pc z) (blk z)
structure FY(Sh Sh':Nat->Prop)(p p':World)(N V:Nat)(Kz:Nat->Nat)(pa:Nat->Nat->Option Addr)(blk:Nat->List Nat)(v:Value)(ok:Bool):Prop where
 grown:p.heap.size<=p'.heap.size
 keep:∀(b:Nat) o,p.heap[b]? =some o->Live o->p'.heap[b]? =some o
 old:∀b,b<p.heap.size->¬Sh b->¬Sh' b/\p'.heap[b]? =p.heap[b]?
 os:p'.os=p.os
 output:p'.output=p.output
 whole:ok=true↔∀z,z<N->fI (pa z) (Kz z) V=true
 bytes:ok=true->∃g cap,v= .slice (some ⟨g,0,none⟩) ((List.range N).map blk).flatten.length cap/\p.heap.size<=g/\((List.range N).map blk).flatten.length<=cap/\cap<=maxLen/\∀j,j<((List.range N).map blk).flatten.length->p'.cell? ⟨g,j,none⟩=some (.int .u8 ((((List.range N).map blk).flatten[j]?.getD 0:Nat):Int))
theorem lit37(T:Array Value)(h:T.size=37):∃x0 x1 x2 x3 x4 x5 x6 x7 x8 x9 x10 x11 x12 x13 x14 x15 x16 x17 x18 x19 x20 x21 x22 x23 x24 x25 x26 x27 x28 x29 x30 x31 x32 x33 x34 x35 x36,T=#[x0,x1,x2,x3,x4,x5,x6,x7,x8,x9,x10,x11,x12,x13,x14,x15,x16,x17,x18,x19,x20,x21,x22,x23,x24,x25,x26,x27,x28,x29,x30,x31,x32,x33,x34,x35,x36]:=by
 refine⟨T[0],T[1],T[2],T[3],T[4],T[5],T[6],T[7],T[8],T[9],T[10],T[11],T[12],T[13],T[14],T[15],T[16],T[17],T[18],T[19],T[20],T[21],T[22],T[23],T[24],T[25],T[26],T[27],T[28],T[29],T[30],T[31],T[32],T[33],T[34],T[35],T[36],?_⟩;apply Array.ext
 .simp[h]
 .intro i h1 h2;match i,h1 with
  |0,_=>rfl
  |1,_=>rfl
  |2,_=>rfl
  |3,_=>rfl
  |4,_=>rfl
  |5,_=>rfl
  |6,_=>rfl
  |7,_=>rfl
  |8,_=>rfl
  |9,_=>rfl
  |10,_=>rfl
  |11,_=>rfl
  |12,_=>rfl
  |13,_=>rfl
  |14,_=>rfl
  |15,_=>rfl
  |16,_=>rfl
  |17,_=>rfl
  |18,_=>rfl
  |19,_=>rfl
  |20,_=>rfl
  |21,_=>rfl
  |22,_=>rfl
  |23,_=>rfl
  |24,_=>rfl
  |25,_=>rfl
  |26,_=>rfl
  |27,_=>rfl
  |28,_=>rfl
  |29,_=>rfl
  |30,_=>rfl
  |31,_=>rfl
  |32,_=>rfl
  |33,_=>rfl
  |34,_=>rfl
  |35,_=>rfl
  |36,_=>rfl
  |n+37,h1=>omega
structure Hd(p:World)(L:List Obj)(q:World):Prop where
 size:q.heap.size=p.heap.size+L.length
 old:∀b,b<p.heap.size->q.heap[b]? =p.heap[b]?
 new:∀(i:Nat) o,L[i]? =some o->q.heap[p.heap.size+i]? =some o
 os:q.os=p.os
 output:q.output=p.output
theorem Hd.start(p:World)(τ:Nat->Question->Nat)(d:Nat):Hd p [] (p.re τ d):=⟨rfl,fun _ _=>rfl,fun i o h=>by simp at h,rfl,rfl⟩
theorem Hd.re{L:List Obj}(h:Hd p L q)(τ:Nat->Question->Nat)(d:Nat):Hd p L (q.re τ d):=⟨h.size,h.old,h.new,h.os,h.output⟩
theorem Hd.alloc{L:List Obj}(h:Hd p L q)(o:Obj):Hd p (L++ [o]) (q.alloc o):=by
 have hs:=h.size;refine⟨by rw[Go.Ren.size_alloc,hs,List.length_append];rfl,fun b hb=>by rw[Go.Ren.heap_alloc_old (by omega)];exact h.old b hb,fun i x hx=>?_,h.os,h.output⟩;rcases Nat.lt_or_ge i L.length with hi|hi
 .rw[List.getElem?_append_left hi]at hx;rw[Go.Ren.heap_alloc_old (by omega)];exact h.new i x hx
 .rw[List.getElem?_append_right hi]at hx;have:i-L.length=0:=by
   rcases Nat.eq_zero_or_pos (i-L.length)with h0|h0
   .exact h0
   .rw[List.getElem?_eq_none (by simp;omega)]at hx;cases hx
  rw[this]at hx;obtain rfl:=Option.some.inj hx;have e:p.heap.size+i=q.heap.size:=by omega
  rw[e];exact Go.Ren.heap_alloc_new
theorem Hd.set{L:List Obj}(h:Hd p L q){j:Nat}{c:Array Value}{e:TypeId}{fz:Nat×Nat}(hi:L[i]? =some (.cells c e fz))(v:Value):Hd p (L.set i (.cells (c.setIfInBounds j v) e fz)) (q.setCell ⟨p.heap.size+i,j,none⟩ v):=by
 refine⟨by rw[List.length_set];have:=h.size;simpa[World.setCell]using this,fun b hb=>?_,fun k x hx=>?_,h.os,h.output⟩
 .have:¬p.heap.size+i=b:=by omega
  simp only[World.setCell,Array.getElem?_modify,if_neg this];exact h.old b hb
 .by_cases ek:i=k
  .subst ek;rw[List.getElem?_set_self (List.getElem?_eq_some_iff.1 hi).1]at hx;obtain rfl:=Option.some.inj hx;simp[World.setCell,Array.getElem?_modify,h.new i _ hi]
  .rw[List.getElem?_set_ne ek]at hx;have:¬p.heap.size+i=p.heap.size+k:=by omega
   simp only[World.setCell,Array.getElem?_modify,if_neg this];exact h.new k x hx
theorem Nh{Sh:Nat->Prop}{Post:(Nat->Prop)->Goroutine->World->Prop}{cfn:FuncId}{ca:Act}{bA:Array Oper}{ci:Nat}{aT:List Nat}{ck:List Item}{cs:List Frame}{o:Oper}(ho:bA[ci]? =some o){bb N cap:Nat}{Kz:Nat->Nat}{pb:Nat->Nat}{pa:Nat->Nat->Option Addr}{pl pc:Nat->Nat->Nat}{blk:Nat->List Nat}(hO:ObjB p bb N V s Kz pb pa pl pc blk)
  (bc:∀(Sh':Nat->Prop) (p':World) (v:Value) (ok:Bool),FY Sh Sh' p p' N V Kz pa blk v ok->aj prog Sh' (G ((base cfn).at (ca.put o.dst (.tuple #[v,.bool ok])) (.inRegion bA aT::ck)) cs) p' Post):
  aj prog Sh (G ((base 46).at ⟨#[.slice (some ⟨bb,0,none⟩) N cap,.int .i64 V,undef,undef,undef,undef,undef,undef,undef,undef,undef,undef,undef,undef,undef,undef,undef,undef,undef,undef,undef,undef,undef,undef,undef,undef,undef,undef,undef,undef,undef,undef,undef,undef,undef,undef,undef],[]⟩ [.code (f46.body.getD .skip)]) ((base cfn).at ca (.inRegion bA (ci::aT)::ck)::cs)) p Post:=by
 refine aj.with fun WJ _ _=>?_;have HO:=hide hO;have yc:=hide bc;have HSh:=hide WJ
 clear hO bc WJ;conv=>arg 3;simp only[f46,Option.getD_some]
 refine .ctl rfl (fun _=>stepG_seq) ?_;refine aj.bW ak fun τ d=>?_;go_wp2;refine aj.world (Hd p [.cells #[.int .i64 V] 3]) ((Hd.start p τ d).alloc _) fun p1 h1=>?_;have ez:(p.re τ d).heap.size=p.heap.size:=rfl;rw[ez];clear ez;obtain⟨iR,hiR⟩:∃i,prog.info? 161=some i:=Option.isSome_iff_exists.1 (by kernel_rfl);obtain⟨iD,hiD⟩:∃i,prog.info? 148=some i:=Option.isSome_iff_exists.1 (by kernel_rfl);have hmR:∀w,(Instr.makeChan 146 (.int .i64 0)).run prog w= .ok (.chan (some w.heap.size)) (w.alloc (.chan 0 #[] false 0 0 false)):=fun w=>run_makeChan (w:=w) underlying146 hiR .i64 0 (by decide) (by simp);have hmD:∀w,(Instr.makeChan 147 (.int .i64 0)).run prog w= .ok (.chan (some w.heap.size)) (w.alloc (.chan 0 #[] false 0 0 false)):=fun w=>run_makeChan (w:=w) underlying147 hiD .i64 0 (by decide) (by simp);refine aj.seq (aj.reg (todo:= [0,1,2]) rfl ?_);refine aj.op (yO rfl) rfl rfl (by decide) (fun τ d K hK=>?_);go_simp;refine hK _ _ ?_;clear hK;try walk_nrm
 have ez:(p1.re τ d).heap.size=p.heap.size+1:=h1.size;rw[ez];refine aj.world (Hd p [.cells #[.int .i64 V] 3,.chan 0 #[] false 0 0 false]) ((h1.re τ d).alloc _) fun q1 g1=>?_;clear ez;refine aj.ow ak fun τ d K hK=>?_;go_simp;refine hK _ _ ?_;clear hK;try walk_nrm
 have ez:(q1.re τ d).heap.size=p.heap.size+2:=g1.size;rw[ez];refine aj.world (Hd p [.cells #[.int .i64 V] 3,.chan 0 #[] false 0 0 false,.cells #[.chan none] 146]) ((g1.re τ d).alloc _) fun r1 k1=>?_;clear ez;refine aj.ow ak fun τ d K hK=>?_;have bm:(r1.re τ d).cell? ⟨p.heap.size+2,0,none⟩=some (.chan none):=by
  have:=k1.new 2 _ rfl;simp[World.cell?,World.re,this]
 have pL:(r1.re τ d).frozen? ⟨p.heap.size+2,0,none⟩=false:=by
  have:=k1.new 2 _ rfl;simp[World.frozen?,World.re,this]
 go_simp;try (unfold stored;go_simp)
 refine hK _ _ ?_;clear hK bm pL;try walk_nrm
 refine aj.world (Hd p [.cells #[.int .i64 V] 3,.chan 0 #[] false 0 0 false,.cells #[.chan (some (p.heap.size+1))] 146]) ((k1.re τ d).set (i:=2) (j:=0) rfl _) fun p2 h2=>?_;refine aj.aJ ?_;refine aj.seq (aj.reg (todo:= [0,1,2]) rfl ?_);refine aj.op (yO rfl) rfl rfl (by decide) (fun τ d K hK=>?_);go_simp;refine hK _ _ ?_;clear hK;try walk_nrm
 have ez:(p2.re τ d).heap.size=p.heap.size+3:=h2.size;rw[ez];refine aj.world (Hd p [.cells #[.int .i64 V] 3,.chan 0 #[] false 0 0 false,.cells #[.chan (some (p.heap.size+1))] 146,.chan 0 #[] false 0 0 false]) ((h2.re τ d).alloc _) fun q2 g2=>?_;clear ez;refine aj.ow ak fun τ d K hK=>?_;go_simp;refine hK _ _ ?_;clear hK;try walk_nrm
 have ez:(q2.re τ d).heap.size=p.heap.size+4:=g2.size;rw[ez];refine aj.world (Hd p [.cells #[.int .i64 V] 3,.chan 0 #[] false 0 0 false,.cells #[.chan (some (p.heap.size+1))] 146,.chan 0 #[] false 0 0 false,.cells #[.chan none] 147]) ((g2.re τ d).alloc _) fun r2 k2=>?_;clear ez;refine aj.ow ak fun τ d K hK=>?_;have bm:(r2.re τ d).cell? ⟨p.heap.size+4,0,none⟩=some (.chan none):=by
  have:=k2.new 4 _ rfl;simp[World.cell?,World.re,this]
 have pL:(r2.re τ d).frozen? ⟨p.heap.size+4,0,none⟩=false:=by
  have:=k2.new 4 _ rfl;simp[World.frozen?,World.re,this]
 go_simp;try (unfold stored;go_simp)
 refine hK _ _ ?_;clear hK bm pL;try walk_nrm
 refine aj.world (Hd p [.cells #[.int .i64 V] 3,.chan 0 #[] false 0 0 false,.cells #[.chan (some (p.heap.size+1))] 146,.chan 0 #[] false 0 0 false,.cells #[.chan (some (p.heap.size+3))] 147]) ((k2.re τ d).set (i:=4) (j:=0) rfl _) fun p3 h3=>?_;refine aj.aJ ?_;refine aj.seq (aj.reg (todo:= [0]) rfl ?_);have hold:∀(b:Nat) (o:Obj),p.heap[b]? =some o->p3.heap[b]? =some o:=fun b o h=>by
  rw[h3.old b (Array.getElem?_eq_some_iff.1 h).1];exact h
 have Mb:∀(a:Addr) (v:Value),p.cell? a=some v->p3.cell? a=some v:=fun a v h=>by
  have hb:a.block<p.heap.size:=by
   unfold World.cell? at h;cases hb:p.heap[a.block]? with
   |none=>rw[hb]at h;simp at h
   |some o=>exact(Array.getElem?_eq_some_iff.1 hb).1
  have e:=h3.old a.block hb;unfold World.cell? at h⊢;rw[e];exact h
 have Mh:∀z,z<N->OI p3 (Kz z) V s (Kz z+V) (pb z) (pa z) (pl z) (pc z) (blk z):=fun z hz=>by
  have hB:=HO.out.at_ z hz;refine⟨hB.num,hold _ _ hB.row,hB.nil,fun i hi QQ=>?_⟩;obtain⟨g,l,e1,e2,e3⟩:=hB.has i hi QQ;exact⟨g,l,e1,hold _ _ e2,e3⟩
 have Ot:=h3.new 1 _ rfl;have hDw:=h3.new 3 _ rfl;have Kk:=h3.new 2 _ rfl;have Kl:=h3.new 4 _ rfl;have Kj:=h3.new 0 _ rfl;rw[Nat.add_zero]at Kj;have ij:p3.heap.size=p.heap.size+5:=h3.size;refine Qb (p:=p3) (bo:=0) (cR:=p.heap.size+2) (cD:=p.heap.size+4) (R:=p.heap.size+1) (Dn:=p.heap.size+3) (cS:=⟨p.heap.size,0,none⟩) (wz:=fun z=>fI (pa z) (Kz z) V) (Dz:=blk) (pa:=fun z=>some ⟨pb z,0,none⟩) (pl:=fun z=>Kz z+V) (pc:=fun z=>Kz z+V) ⟨HO.out.N1,by have:=HO.out.N2;omega⟩ (fun b hb=>by have:=HSh.out b hb;omega) Ot hDw (by omega)
  (by simp[World.cell?,Kk]) (by simp[World.cell?,Kl]) (fun z hz=>by rw[Nat.zero_add];exact Mb _ _ (HO.out.cell z hz)) (by show p.heap.size<_;omega) (fun z cz cp w hz bu cC eR la fa iz bd=>?_) (fun ok T p' hA=>?_)
 .exact Rw (Mh z hz) (HO.out.K1 z hz) (HO.out.K2 z hz) HO.out.V2 HO.out.s1 HO.out.s2 (HO.out.len z hz) (HO.out.lt z hz) (by omega) (by omega) (by omega) Kk Kl Kj rfl rfl cC (by omega) bu eR la
 .obtain⟨x0,x1,x2,x3,x4,x5,x6,x7,x8,x9,x10,x11,x12,x13,x14,x15,x16,x17,x18,x19,x20,x21,x22,x23,x24,x25,x26,x27,x28,x29,x30,x31,x32,x33,x34,x35,x36,rfl⟩:∃x0 x1 x2 x3 x4 x5 x6 x7 x8 x9 x10 x11 x12 x13 x14 x15 x16 x17 x18 x19 x20 x21 x22 x23 x24 x25 x26 x27 x28 x29 x30 x31 x32 x33 x34 x35 x36,T=#[x0,x1,x2,x3,x4,x5,x6,x7,x8,x9,x10,x11,x12,x13,x14,x15,x16,x17,x18,x19,x20,x21,x22,x23,x24,x25,x26,x27,x28,x29,x30,x31,x32,x33,x34,x35,x36]:=lit37 T hA.size;have hx12:x12= .bool ok:=Option.some.inj hA.flag;subst hx12;have UZ:∀(b:Nat) o,p.heap[b]? =some o->Live o->p'.heap[b]? =some o:=fun b o h1 h2=>by
   have ai:=(Array.getElem?_eq_some_iff.1 h1).1;exact hA.keep b o (hold b o h1) h2 (by omega) (by omega)
  have Om:∀b,b<p.heap.size->¬Sh b->¬(Sh b\/b=p.heap.size+5)/\p'.heap[b]? =p.heap[b]? :=fun b h1 h2=>⟨by rintro(h|h);exact h2 h;omega,(hA.old b (by omega) h2 (by omega) (by omega)).trans (h3.old b h1)⟩;have hg:=hA.grown;conv=>arg 3;simp only[f46,Option.getD_some,aI,bI,aX]
  refine aj.aJ ?_;refine aj.bW ak fun τ d=>?_;cases ok with
  |false=>
   obtain⟨ML,z,hz,rL⟩:=hA.no rfl;have ML:x11= .slice none 0 0:=Option.some.inj ML;subst ML;have hJ:=hide (join_none (p'.re τ d));go_wp2_with (go_at_call 94;refine hJ.out.mono ?_;rintro _ wq ⟨rfl,hq⟩;have cI:=hq.symm;clear hq;subst cI)
   intro todo;refine aj.back ho func46 (v:=.tuple #[.slice (some ⟨(p'.re τ d).heap.size,0,none⟩) 0 0,.bool false]) (by simp[results,f46,go_sem]) (by simp[results,f46]) (yc.out _ _ _ false ⟨?_,fun b o h1 h2=>?_,fun b h1 h2=>⟨(Om b h1 h2).1,(Go.Ren.heap_alloc_old (w:=p'.re τ d) (by show b<p'.heap.size;omega)).trans (Om b h1 h2).2⟩,hA.os.trans h3.os,hA.output.trans h3.output,⟨(fun h=>by cases h),fun h=>?_⟩,(fun h=>by cases h)⟩)
   .rw[Go.Ren.size_alloc];have:(p'.re τ d).heap.size=p'.heap.size:=rfl;omega
   .have:=UZ b o h1 h2;rw[Go.Ren.heap_alloc_old (by exact(Array.getElem?_eq_some_iff.1 this).1)];exact this
   .have:=h z hz;rw[show fI (pa z) (Kz z) V=false from rL]at this;cases this
  |true=>
   obtain⟨cG,cP,ML,parts,iu,oa,px⟩:=hA.yes rfl;have ML:x11= .slice (some ⟨cP,0,none⟩) N N:=Option.some.inj ML;subst ML;have hJ:Hid (Calls prog 94 #[.slice (some ⟨cP,0,none⟩) N N,.slice none 0 0] (p'.re τ d) fun e w'=>∃g cap,e= .returned (.slice (some ⟨g,0,none⟩) ((List.range N).map blk).flatten.length cap)/\p'.heap.size<=g/\((List.range N).map blk).flatten.length<=cap/\cap<=maxLen/\(∀j,j<cap->w'.frozen? ⟨g,j,none⟩=false)/\
     (∀j,j<((List.range N).map blk).flatten.length->w'.cell? ⟨g,j,none⟩=some (.int .u8 ((((List.range N).map blk).flatten[j]?.getD 0:Nat):Int)))/\Below p'.heap.size (p'.re τ d) w'):=by
    refine zQ cP 0 N N parts.toList ((List.range N).map blk) (p'.re τ d) (by simpa using oa) (by simp) HO.out.N1 (by have:=HO.out.N2;omega) (Nat.le_refl _) (fun i v hv=>?_) (fun i v l hv hl=>?_) (fun l hl=>?_) (fun l hl x hx=>?_) ?_
    .rw[Nat.zero_add];show p'.cell? _=_;simpa[World.cell?,iu]using hv
    .have hi:i<N:=by have:=(List.getElem?_eq_some_iff.1 hl).1;simpa using this
     have el:l=blk i:=by simpa[hi]using hl.symm
     subst el;obtain⟨v',rN,da,dl,dc,rfl,h4,h5⟩:=px i hi;have:v= .slice da dl dc:=by
      have ia:parts[i]? =some v:=by simpa using hv
      rw[rN]at ia;exact(Option.some.inj ia).symm
     subst this;have lr:=HO.out.len i hi;have gi:=HO.out.K1 i hi;have dC:=HO.out.s1;have eL:0<Kz i*s:=Nat.mul_pos gi dC;obtain⟨b,o,rfl,_,h6⟩:=h5 (by omega);exact⟨b,o,dc,by rw[h4],HO.out.lt i hi,fun j hj=>h6 j (by omega)⟩
    .obtain⟨z,hz,rfl⟩:=List.mem_map.1 hl;rw[List.mem_range]at hz;intro e;have lr:=HO.out.len z hz;have eL:0<Kz z*s:=Nat.mul_pos (HO.out.K1 z hz) HO.out.s1;rw[e]at lr;simp at lr;omega
    .obtain⟨z,hz,rfl⟩:=List.mem_map.1 hl;exact HO.out.lt z (List.mem_range.1 hz) x hx
    .have:∀k,k<=N->((List.range k).map blk).flatten.length<=k*320:=by
      intro k hk;induction k with
      |zero=>simp
      |succ k ih=>
       have:=ih (by omega);have h1:=HO.out.len k (by omega);have h2:=Nat.mul_le_mul (HO.out.K2 k (by omega)) HO.out.s2;rw[List.range_succ,List.map_append,List.flatten_append,List.length_append];simp only[List.map_cons,List.map_nil,List.flatten_cons,List.flatten_nil,List.append_nil];omega
     have h1:=this N (Nat.le_refl _);have:=HO.out.N2;omega
   go_wp2_with (go_at_call 94;refine hJ.out.mono ?_;rintro _ w6 ⟨g,cap6,rfl,k1,k2,k3,k4,k5,k6⟩;replace k1:=hide k1;replace k2:=hide k2;replace k3:=hide k3;replace k5:=hide k5;replace k6:=hide k6)
   intro todo;refine aj.back ho func46 (v:=.tuple #[.slice (some ⟨g,0,none⟩) ((List.range N).map blk).flatten.length cap6,.bool true]) (by simp[results,f46,go_sem]) (by simp[results,f46]) (yc.out _ w6 _ true ⟨?_,fun b o h1 h2=>?_,fun b h1 h2=>⟨(Om b h1 h2).1,(k6.out.block b (by omega)).trans (Om b h1 h2).2⟩,k6.out.os.trans (hA.os.trans h3.os),k6.out.output.trans (hA.output.trans h3.output),⟨fun _=>cG,fun _=>rfl⟩,fun _=>⟨g,cap6,rfl,?_,k2.out,k3.out,k5.out⟩⟩)
   .have:=k6.out.size;have:p'.heap.size<=w6.heap.size:=this;omega
   .have:=UZ b o h1 h2;rw[k6.out.block b (Array.getElem?_eq_some_iff.1 this).1];exact this
   .have:=k1.out;omega
end
