import Derived.Test.YtmfpiodlecapiaaGreatDoorJ31
set_option maxHeartbeats 4000000
set_option maxRecDepth 100000
namespace Go.Proofs.YtmfpiodlecapiaaGreatDoor
open Go.Conc Go.RowKit Go.bB Go.Ren Go.iw Go.Deep
attribute [local go_sem↓] Go.wp_at_zero Go.wp_at_succ
theorem yw{P:Program}{X A:FuncId->Bool}{K:FuncId->Nat->Nat}{f:Fr}{fs:List Fr}{w:World}(h:GZ P X A K f fs w){ops:Array Oper}{i:Nat}{rest:List Nat}{k:List Item}(htd:f.todo= .inRegion ops (i::rest)::k){o:Oper}(ho:ops[i]? =some o){v:Value}(hv:∀(ρ:Array Nat) d,o.dst=some d->CR ρ (K f.fn d) v v):GZ P X A K (f.finish v) fs w:=by
 obtain⟨ρ,h1,h2⟩:=h;have hF:mQ P X A K ρ w f fs f fs w:=⟨h1,by rw[kF];exact h2⟩;have:=qQ hF htd ho (hv ρ);exact⟨ρ,this.st,by have h:=this.wr;rwa [kF]at h⟩
theorem V4(ρ:Array Nat)(n:Int):CR ρ 4 (.tuple #[.int .i64 n,.bool false,.agg #[]]) (.tuple #[.int .i64 n,.bool false,.agg #[]]):=by
 refine(⟨_,_,rfl,rfl,rfl,fun i x x' h1 h2=>?_,fun i x x' hi h1 h2=>?_⟩:CR ρ 4 _ _)
 ·rw[h1]at h2;obtain rfl:=Option.some.inj h2;match i,h1 with
  |0,h1=>obtain rfl:=Option.some.inj h1;exact .int _ _
  |1,h1=>obtain rfl:=Option.some.inj h1;exact .bool _
  |2,h1=>obtain rfl:=Option.some.inj h1;exact .agg rfl fun i v v' h=>by simp at h
  |i+3,h1=>simp at h1
 ·rw[h1]at h2;obtain rfl:=Option.some.inj h2;match i,h1,hi with
  |0,h1,_=>obtain rfl:=Option.some.inj h1;exact .int _ _
  |1,h1,_=>obtain rfl:=Option.some.inj h1;exact .bool _
theorem U2(Dn:Nat)(ops:Array Oper)(s:lJ Nat)(Next:lJ Nat->Prop)(τ:Nat->Question->Nat)(d:Nat)(h:bQ Dn ops s Next):bQ Dn ops (s.re τ d) (fun s'=>∃s0,Next s0/\s'=s0.re τ d):=by
 obtain⟨T,rest,k,h1,h2,h3⟩:=h;refine⟨T,rest,k,h1,h2,fun s' hs=>?_⟩;rcases hs with rfl|rfl
 ·exact⟨_,h3 _ (.inl rfl),rfl⟩
 ·exact⟨_,h3 _ (.inr rfl),rfl⟩
section
variable {Dn:Nat} {Stop:lJ Nat->Prop} {fs:List Fr} {w:World}
theorem aQ.poll{m:Nat}{T:Array Value}{rest:List Nat}{k:List Item}(hT:T[3]? =some (.chan (some Dn)))
  (h1:aQ Tryz.prog aW bn jf (bQ Dn (aZ (aN 2 (Tryz.f187.body.getD .skip)))) Stop m ((⟨187,T,.inRegion (aZ (aN 2 (Tryz.f187.body.getD .skip))) (0::rest)::k,false⟩:Fr).finish (.tuple #[.int .i64 (-1),.bool false,.agg #[]])) fs w)
  (h2:aQ Tryz.prog aW bn jf (bQ Dn (aZ (aN 2 (Tryz.f187.body.getD .skip)))) Stop 1 ((⟨187,T,.inRegion (aZ (aN 2 (Tryz.f187.body.getD .skip))) (0::rest)::k,false⟩:Fr).finish (.tuple #[.int .i64 0,.bool false,.agg #[]])) fs w):
  aQ Tryz.prog aW bn jf (bQ Dn (aZ (aN 2 (Tryz.f187.body.getD .skip)))) Stop m ⟨187,T,.inRegion (aZ (aN 2 (Tryz.f187.body.getD .skip))) (0::rest)::k,false⟩ fs w:=by
 intro hI;refine .node (Next:=fun s'=>s'=⟨m,_,fs,w⟩\/s'=⟨1,_,fs,w⟩) ⟨T,rest,k,rfl,hT,fun s' hs=>hs⟩ (fun s' hs=>?_);have hv:∀(n:Int) (ρ:Array Nat) d,((aZ (aN 2 (Tryz.f187.body.getD .skip)))[0]).dst=some d->CR ρ (jf 187 d) (.tuple #[.int .i64 n,.bool false,.agg #[]]) (.tuple #[.int .i64 n,.bool false,.agg #[]]):=by
  intro n ρ d hd;have hd:some 4=some d:=hd;obtain rfl:=Option.some.inj hd;exact V4 ρ n
 rcases hs with rfl|rfl
 ·exact h1 (yw hI rfl rfl (hv (-1)))
 ·exact h2 (yw hI rfl rfl (hv 0))
theorem Jz(hR:jd (bQ Dn (aZ (aN 2 (Tryz.f187.body.getD .skip)))) Stop){cfn:FuncId}{cT:Array Value}{bg:Array Oper}{ci:Nat}{aT:List Nat}{ck:List Item}{o:Oper}(ho:bg[ci]? =some o)
  (h1:aQ Tryz.prog aW bn jf (bQ Dn (aZ (aN 2 (Tryz.f187.body.getD .skip)))) Stop 0 ⟨cfn,((⟨cT,[]⟩:Act).put o.dst (.bool false)).tmps,.inRegion bg aT::ck,false⟩ fs w)
  (h2:aQ Tryz.prog aW bn jf (bQ Dn (aZ (aN 2 (Tryz.f187.body.getD .skip)))) Stop 1 ⟨cfn,((⟨cT,[]⟩:Act).put o.dst (.bool true)).tmps,.inRegion bg aT::ck,false⟩ fs w):
  aQ Tryz.prog aW bn jf (bQ Dn (aZ (aN 2 (Tryz.f187.body.getD .skip)))) Stop 0 ⟨187,#[.chan (some Dn),undef,undef,undef,undef,undef,undef],[.code (Tryz.f187.body.getD .skip)],false⟩ (⟨cfn,cT,.inRegion bg (ci::aT)::ck,false⟩::fs) w:=by
 have hC:=closed2;conv=>arg 8;simp only[Tryz.f187,Option.getD_some]
 refine aQ.seq hC hR (aQ.run hC hR bA closed (by kernel_rfl) fun τ d=>?_);go_wp2;refine aQ.re hR ?_ _ _;refine aQ.seq hC hR (aQ.run hC hR bA closed (by kernel_rfl) fun τ d=>?_);go_wp2;refine aQ.re hR ?_ _ _;refine aQ.seq hC hR (aQ.reg hC hR (l:= [0,1,2]) rfl ?_);refine aQ.poll (m:=0) (rest:= [1,2]) rfl ?_ ?_
 ·simp only[Fr.finish,Tryz.f187,Option.getD_some,aN,aZ];refine aQ.op hC rfl rfl (fun τ d K hK=>?_);go_simp;refine hK _ _ (aQ.re hR ?_ _ _);clear hK;try walk_nrm
  refine aQ.op hC rfl rfl (fun τ d K hK=>?_);go_simp;refine hK _ _ (aQ.re hR ?_ _ _);clear hK;try walk_nrm
  refine aQ.aR hC hR (aQ.run hC hR bA closed (by kernel_rfl) fun τ d=>?_);go_wp2;intro todo;refine aQ.re hR ?_ _ _;exact aQ.back hC hR ho Tryz.func187 (v:=.bool false) (by simp[results,Tryz.f187,go_sem]) (by simp[results,Tryz.f187]) h1
 ·simp only[Fr.finish,Tryz.f187,Option.getD_some,aN,aZ];refine aQ.op hC rfl rfl (fun τ d K hK=>?_);go_simp;refine hK _ _ (aQ.re hR ?_ _ _);clear hK;try walk_nrm
  refine aQ.op hC rfl rfl (fun τ d K hK=>?_);go_simp;refine hK _ _ (aQ.re hR ?_ _ _);clear hK;try walk_nrm
  refine aQ.aR hC hR (aQ.run hC hR bA closed (by kernel_rfl) fun τ d=>?_);go_wp2;intro todo;refine aQ.re hR ?_ _ _;exact aQ.back hC hR ho Tryz.func187 (v:=.bool true) (by simp[results,Tryz.f187,go_sem]) (by simp[results,Tryz.f187]) h2
structure Kt(X:Nat->Prop)(w w':World):Prop where
 size:w.heap.size<=w'.heap.size
 block:∀k,k<w.heap.size->¬X k->w'.heap[k]? =w.heap[k]?
theorem Kt.refl(X:Nat->Prop)(w:World):Kt X w w:=⟨Nat.le_refl _,fun _ _ _=>rfl⟩
theorem Kt.trans{X:Nat->Prop}{a b c:World}(h:Kt X a b)(h':Kt X b c):Kt X a c:=⟨Nat.le_trans h.size h'.size,fun k hk hx=>(h'.block k (Nat.lt_of_lt_of_le hk h.size) hx).trans (h.block k hk hx)⟩
theorem Kt.KP{X:Nat->Prop}{a b:World}(h:Kp X a b):Kt X a b:=⟨h.size,h.block⟩
theorem Kt.join{X Y:Nat->Prop}{a b c:World}(h:Kt X a b)(h':Kt Y b c)(hy:∀k,Y k->X k\/a.heap.size<=k):Kt X a c:=⟨Nat.le_trans h.size h'.size,fun k hk hx=>(h'.block k (Nat.lt_of_lt_of_le hk h.size) fun y=>(hy k y).elim hx fun hl=>by omega).trans (h.block k hk hx)⟩
theorem zh.kt{X:Nat->Prop}{a b:World}{rv:Value}{n c:Nat}{rg:Nat->Nat}(h:zh a rv n c rg)(hk:Kt X a b)(hx:∀g,0<n->(∀i,i<n->rg i≠g)->g<a.heap.size->¬X g):zh b rv n c rg:=by
 obtain⟨ad,cap,rfl,h1⟩:=h;refine⟨ad,cap,rfl,fun hn=>?_⟩;obtain⟨g,rfl,h2,h3⟩:=h1 hn;refine⟨g,rfl,fun i hi=>?_,h3⟩;have h4:=h2 i hi;have hg:g<a.heap.size:=by
  have:=h4;unfold World.cell? at this;cases hb:a.heap[g]? with
  |none=>rw[hb]at this;simp at this
  |some o=>exact(Array.getElem?_eq_some_iff.1 hb).1
 have e:=hk.block g hg (hx g hn h3 hg);unfold World.cell? at h4⊢;rw[e];exact h4
theorem IL(hR:jd (bQ Dn (aZ (aN 2 (Tryz.f187.body.getD .skip)))) Stop){cfn:FuncId}{cT:Array Value}{bg:Array Oper}{ci:Nat}{aT:List Nat}{ck:List Item}{o:Oper}(ho:bg[ci]? =some o){n c:Nat}{rg:Nat->Nat}{M:Nat->Nat->Nat}{rv:Value}{w0:World}(hnc:n<=c)(hc:c<=65536)(Ba:zh w0 rv n c rg)(RF:∀k,k<n->Gs.it n M k k k≠0)
  (h1:∀w,Kt (fun b=>∃i,i<n/\b=rg i) w0 w->dO w n c rg (Gs.it n M n)->aQ Tryz.prog aW bn jf (bQ Dn (aZ (aN 2 (Tryz.f187.body.getD .skip)))) Stop 0 ⟨cfn,((⟨cT,[]⟩:Act).put o.dst (.bool true)).tmps,.inRegion bg aT::ck,false⟩ fs w)
  (h2:∀w,Kt (fun b=>∃i,i<n/\b=rg i) w0 w->aQ Tryz.prog aW bn jf (bQ Dn (aZ (aN 2 (Tryz.f187.body.getD .skip)))) Stop 1 ⟨cfn,((⟨cT,[]⟩:Act).put o.dst (.bool false)).tmps,.inRegion bg aT::ck,false⟩ fs w):
  ∀(r k:Nat),k+r=n->∀(j2 j3 j4 j5 j6 j7 j8 b3 d1 c9 a6 b2 a7 c8 b9 b6 a3 d3 b5 a1 a2 a8 d5 a9 b4 c6 d4 c2 d0 d2 a0 c3 a4 b7 b8 c4 c7 b1 a5 c1 c5:Value) (w:World),Kt (fun b=>∃i,i<n/\b=rg i) w0 w->dO w n c rg (Gs.it n M k)->aQ Tryz.prog aW bn jf (bQ Dn (aZ (aN 2 (Tryz.f187.body.getD .skip)))) Stop 0 ⟨150,#[rv,.chan (some Dn),j2,j3,j4,j5,j6,j7,j8,rv,.int .i64 n,.int .i64 k,b3,d1,c9,a6,b2,a7,c8,b9,b6,a3,d3,b5,a1,a2,a8,d5,a9,b4,c6,d4,c2,d0,d2,a0,c3,a4,b7,b8,c4,c7,b1,a5,c1,c5],[.code (dP [1,0,1,0,0] (Tryz.f150.body.getD .skip)),.inLoop (dP [1,0,1,0,0] (Tryz.f150.body.getD .skip)),.inBlock 0,.code (dP [1,1] (Tryz.f150.body.getD .skip))],false⟩ (⟨cfn,cT,.inRegion bg (ci::aT)::ck,false⟩::fs) w:=by
 have hC:=closed2;have hX:∀g,0<n->(∀i,i<n->rg i≠g)->g<w0.heap.size->¬∃i,i<n/\g=rg i:=by
  rintro g _ h _ ⟨i,hi,e⟩;exact h i hi e.symm
 intro r;induction r with
 |zero=>
  intro k hkn j2 j3 j4 j5 j6 j7 j8 b3 d1 c9 a6 b2 a7 c8 b9 b6 a3 d3 b5 a1 a2 a8 d5 a9 b4 c6 d4 c2 d0 d2 a0 c3 a4 b7 b8 c4 c7 b1 a5 c1 c5 w hkt hrows;obtain rfl:k=n:=by omega
  obtain⟨ra,XK,rfl,_⟩:=Ba;conv=>arg 8;simp only[Tryz.f150,Option.getD_some,dP]
  refine aQ.seq hC hR (aQ.run hC hR bA closed (by kernel_rfl) fun τ d=>?_);go_wp2;refine aQ.re hR ?_ _ _;refine aQ.seq hC hR (aQ.no hC hR (by first|rfl|simp[Act.eval]) (aQ.exit hC hR rfl ?_));refine aQ.run hC hR bA closed (by kernel_rfl) fun τ d=>?_;go_wp2;intro todo;refine aQ.re hR ?_ _ _;exact aQ.back hC hR ho Tryz.func150 (v:=.bool true) (by simp[results,Tryz.f150,go_sem]) (by simp[results,Tryz.f150]) (h1 w hkt hrows)
 |succ r ih=>
  intro k hkn j2 j3 j4 j5 j6 j7 j8 b3 d1 c9 a6 b2 a7 c8 b9 b6 a3 d3 b5 a1 a2 a8 d5 a9 b4 c6 d4 c2 d0 d2 a0 c3 a4 b7 b8 c4 c7 b1 a5 c1 c5 w hkt hrows;have hk:k<n:=by omega
  have ZT:=Ba.kt hkt hX;have ZV:=ZT;obtain⟨ra,XK,rfl,hh⟩:=ZT;obtain⟨g,rfl,hcell,VF⟩:=hh (by omega);have hcw:=hcell k hk;clear hh hcell VF;have hk0:(0:Int)<=(k:Int):=by omega
  have hk1:(k:Int)<(n:Int):=by omega
  have hkw:IntKind.i64.wrap ((k:Int)+1)=((k+1:Nat):Int):=aF _ (by omega) (by omega);conv=>arg 8;simp only[Tryz.f150,Option.getD_some,dP]
  refine aQ.seq hC hR (aQ.run hC hR bA closed (by kernel_rfl) fun τ d=>?_);go_wp2;refine aQ.re hR ?_ _ _;refine aQ.seq hC hR (aQ.yes hC hR (by first|rfl|simp[Act.eval,hk1]) (aQ.skip hC hR ?_));refine aQ.seq hC hR (aQ.block hC hR (aQ.seq hC hR (aQ.run hC hR bA closed (by kernel_rfl) fun τ d=>?_)));have hcw':(w.re τ d).cell? ⟨g,k,none⟩=some (.slice (some ⟨rg k,0,none⟩) c c):=hcw;go_wp2;refine aQ.re hR ?_ _ _;clear hcw';refine aQ.seq hC hR (aQ.seq hC hR (aQ.reg hC hR (l:= [0,1]) rfl ?_));refine aQ.op hC rfl rfl (fun τ d K hK=>?_);go_simp;refine hK _ _ (aQ.re hR ?_ _ _);clear hK;try walk_nrm
  refine aQ.dM hC hR rfl rfl rfl Tryz.func187 rfl rfl (T':=#[.chan (some Dn),undef,undef,undef,undef,undef,undef]) (by first|rfl|simp[Act.eval,Tryz.f187]) ?_;refine Jz hR (o:=?o) ?ho ?g1 ?g2
  case ho=>rfl
  case g1=>
   try walk_nrm
   refine aQ.aR hC hR (aQ.no hC hR (by first|rfl|simp[Act.eval]) (aQ.skip hC hR ?_));refine aQ.run hC hR bA closed (by kernel_rfl) fun τ d=>?_;refine Qx (w:=w.re τ d) hk hnc hc ZV (show dO (w.re τ d) n c rg (Gs.it n M k)from⟨hrows.row,hrows.inj,hrows.lt⟩) (RF k hk) (fun h7 h8 h18 h19 h20 h21 h22 h23 Lx Lu Ls h27 SG SF SE h31 h32 Xd Xc Xb Xa h37 Lr Lp Lm Ll Lj h43 Lh w' hkp hr2=>.inl ⟨rfl,?_⟩);have hkt2:Kt (fun b=>∃i,i<n/\b=rg i) w0 w':=hkt.trans (have q:=Kt.KP hkp;⟨q.size,q.block⟩);clear hkp hcw ZV hrows hkt;refine aQ.inBlock hC hR (aQ.run hC hR bA closed (by kernel_rfl) fun τ d=>?_);go_wp2;refine aQ.re hR ?_ _ _;refine aQ.inLoop hC hR ?_;exact ih (k+1) (by omega) _ _ _ _ _ _ _ _ _ _ _ _ _ _ _ _ _ _ _ _ _ _ _ _ _ _ _ _ _ _ _ _ _ _ _ _ _ _ _ _ _ w' hkt2 hr2
  case g2=>
   try walk_nrm
   refine aQ.aR hC hR (aQ.yes hC hR (by first|rfl|simp[Act.eval]) ?_);refine aQ.run hC hR bA closed (by kernel_rfl) fun τ d=>?_;go_wp2;intro todo;refine aQ.re hR ?_ _ _;exact aQ.back hC hR ho Tryz.func150 (v:=.bool false) (by simp[results,Tryz.f150,go_sem]) (by simp[results,Tryz.f150]) (h2 w hkt)
theorem IK(hR:jd (bQ Dn (aZ (aN 2 (Tryz.f187.body.getD .skip)))) Stop){cfn:FuncId}{cT:Array Value}{bg:Array Oper}{ci:Nat}{aT:List Nat}{ck:List Item}{o:Oper}(ho:bg[ci]? =some o){n c:Nat}{rg:Nat->Nat}{M:Nat->Nat->Nat}{rv:Value}{w0:World}(hnc:n<=c)(hc:c<=65536)(Ba:zh w0 rv n c rg)(hrows:dO w0 n c rg M)(RF:∀k,k<n->Gs.it n M k k k≠0)
  (h1:∀w,Kt (fun b=>∃i,i<n/\b=rg i) w0 w->dO w n c rg (Gs.it n M n)->aQ Tryz.prog aW bn jf (bQ Dn (aZ (aN 2 (Tryz.f187.body.getD .skip)))) Stop 0 ⟨cfn,((⟨cT,[]⟩:Act).put o.dst (.bool true)).tmps,.inRegion bg aT::ck,false⟩ fs w)
  (h2:∀w,Kt (fun b=>∃i,i<n/\b=rg i) w0 w->aQ Tryz.prog aW bn jf (bQ Dn (aZ (aN 2 (Tryz.f187.body.getD .skip)))) Stop 1 ⟨cfn,((⟨cT,[]⟩:Act).put o.dst (.bool false)).tmps,.inRegion bg aT::ck,false⟩ fs w):
  aQ Tryz.prog aW bn jf (bQ Dn (aZ (aN 2 (Tryz.f187.body.getD .skip)))) Stop 0 ⟨150,#[rv,.chan (some Dn),undef,undef,undef,undef,undef,undef,undef,undef,undef,undef,undef,undef,undef,undef,undef,undef,undef,undef,undef,undef,undef,undef,undef,undef,undef,undef,undef,undef,undef,undef,undef,undef,undef,undef,undef,undef,undef,undef,undef,undef,undef,undef,undef,undef],[.code (Tryz.f150.body.getD .skip)],false⟩ (⟨cfn,cT,.inRegion bg (ci::aT)::ck,false⟩::fs) w0:=by
 have hC:=closed2;have hL:=IL (fs:=fs) hR ho hnc hc Ba RF h1 h2;obtain⟨ra,XK,rfl,_⟩:=Ba;conv=>arg 8;simp only[Tryz.f150,Option.getD_some]
 conv at hL=>simp only[Tryz.f150,Option.getD_some,dP]
 refine aQ.seq hC hR (aQ.run hC hR bA closed (by kernel_rfl) fun τ d=>?_);go_wp2;refine aQ.re hR ?_ _ _;refine aQ.seq hC hR (aQ.seq hC hR (aQ.run hC hR bA closed (by kernel_rfl) fun τ d=>?_));go_wp2;refine aQ.re hR ?_ _ _;refine aQ.block hC hR (aQ.loop hC hR ?_);exact hL n 0 (by omega) _ _ _ _ _ _ _ _ _ _ _ _ _ _ _ _ _ _ _ _ _ _ _ _ _ _ _ _ _ _ _ _ _ _ _ _ _ _ _ _ _ w0 (Kt.refl _ _) hrows
end
end Go.Proofs.YtmfpiodlecapiaaGreatDoor
namespace Go.Proofs.YtmfpiodlecapiaaGreatDoor
open Go.RowKit Go.Deep
attribute [local go_sem↓] Go.wp_at_zero Go.wp_at_succ
def dU(m s j:Nat)(kn:Nat->Option (List Nat))(R:List Nat):Nat->List Nat
 |0=>R
 |i+1=>match kn i with
  |none=>dU m s j kn R i
  |some b=>fP (dU m s j kn R i) m b (Pk.weight j i) s
theorem g_(m s j:Nat)(kn:Nat->Option (List Nat))(R:List Nat):∀i,(dU m s j kn R i).length=R.length
 |0=>rfl
 |i+1=>by
  have ih:=g_ m s j kn R i;simp only[dU];split
  ·exact ih
  ·rw[ig];exact ih
theorem yN{m s j:Nat}{kn:Nat->Option (List Nat)}{R:List Nat}(hj:j<32)(hR:∀x∈R,x<256)(hk:∀i b,kn i=some b->∀x∈b,x<256):∀i,i<=32->∀x∈dU m s j kn R i,x<256
 |0,_=>hR
 |i+1,hi=>by
  have ih:=yN (m:=m) (s:=s) hj hR hk i (by omega);simp only[dU];split
  ·exact ih
  ·rename_i b hb;exact T_ ih (hk i b hb) (Pk.iB hj (by omega))
def L8(w:World)(v:Value):Option (List Nat)->Prop
 |none=>v= .slice none 0 0
 |some b=>Bytes w v b
theorem zZ(gO dA gL mI pb po eH j m s K c:Nat)(cur ji:List Value)(L:List Nat)(kn:Nat->Option (List Nat))(bs:List Nat)(hm:Hid (L.length=m))(hs:Hid (bs.length=s))(hK:K<=32)(hj:j<32)(hm1:m<=32)(hs1:s<=65536)(hs0:1<=s)(hc:Hid (m+s=c))(hcc:c<=65568)(Oy:∀x∈L,x<32)(hbs:∀x∈bs,x<256)(w:World)
  (hO:aB w gO 28 cur)(hkn:∀i,i<K->∃v,cur[i]? =some v/\L8 w v (kn i))(hks:∀i b,kn i=some b->b.length=s/\∀x∈b,x<256)
  (hL:aB w gL 3 ji)(htL:Hid (ji.take m=bW L))(hP:∀q,q<s->w.cell? ⟨pb,po+q,none⟩=some (.int .u8 ((bs[q]?.getD 0:Nat):Int)))(hpb:pb<w.heap.size):
  Calls Tryz.prog 149 #[.slice (some ⟨gO,0,none⟩) K dA,.slice (some ⟨gL,0,none⟩) m mI,.int .i64 j,.slice (some ⟨pb,po,none⟩) s eH] w fun e w'=>
   e= .returned (.slice (some ⟨w.heap.size,0,none⟩) c c)/\Below w.heap.size w w'/\aB w' w.heap.size 5 (bN (dU m s j kn (L.map (Pk.weight j ·)++bs) K)):=by
 obtain⟨i0,hi,hz0,hz1,hz2⟩:=info_parts Tryz.infoByte;have VO:=hO.lt;have hgL:=hL.lt;have HO:=hide hO;have HL:=hide hL;have HP:=hide hP;have HK:=hide hkn;have HS:=hide hks
 clear hO hL hP hkn hks;obtain⟨U,hU0⟩:∃U,U=bN (L.map (Pk.weight j ·)++bs):=⟨_,rfl⟩;have hUl:Hid (U.length=c):=by
  show _=_;rw[hU0,aU,List.length_append,List.length_map,hm.out,hs.out,hc.out]
 have hU:=hide hU0;clear hU0;have hcm:Hid ((m:Int)+(s:Int)=(c:Int)):=by
  show _=_;have:=hc.out;omega
 have hadd:(m:Int)+(s:Int)=(c:Int):=hcm.out;clear hcm;go_enter Tryz.func149,Tryz.ntmps149;go_wp2_with (at_make;refine pq _ rfl _ _ 28 rfl 5 i0 (.int .u8 0) Tryz.underlying28 hi hz0 hz1 rfl .i64 .i64 0 c rfl (by simp[Act.eval]) (by omega) (by rw[hz2];omega) (by omega) ?_)
 have hb0:Hid (Below w.heap.size w (w.alloc (.cells (madeCells #[.int .u8 0] c) 5))):=(Below.refl _ _).alloc (Nat.le_refl _) _;have hr0:Hid (aB (w.alloc (.cells (madeCells #[.int .u8 0] c) 5)) w.heap.size 5 (fill U (.int .u8 0) 0)):=by
  show aB _ _ _ _;rw[uj,hUl.out];exact gF w (.int .u8 0) c 5
 go_loopw [9,22] (fun v x wr=>∃k:Nat,k<=m/\v= .slice (some ⟨w.heap.size,0,none⟩) k c/\x= .int .i64 k/\Below w.heap.size w wr/\w.heap.size<wr.heap.size/\aB wr w.heap.size 5 (fill U (.int .u8 0) k))
  (fun _ x _=>leftOf m (intOf x).toNat)
 case atStart=>exact⟨0,by omega,rfl,rfl,hb0.out,by simp,hr0.out⟩
 case round=>
  obtain⟨k,hk,rfl,rfl,hbw,hsz,hr⟩:=hrel;by_cases hlt:k<m
  ·have Ld:k<L.length:=by rw[hm.out];exact hlt
   have hcL:wr.cell? ⟨gL,k,none⟩=some (.int .i64 ((L[k]?.getD 0:Nat):Int)):=by
    apply (HL.out.below hbw hgL).cell;have:(ji.take m)[k]? =some (.int .i64 ((L[k]?.getD 0:Nat):Int)):=by rw[htL.out];exact pR Ld
    rw[List.getElem?_take,if_pos hlt]at this;exact this
   have hx32:L[k]?.getD 0<32:=getD_lt Oy Ld;have hd:Hid ((U.drop k).take 1= [.int .u8 ((Pk.weight j (L[k]?.getD 0):Nat):Int)]):=by
    show _=_;rw[hU.out];have hk2:k<(bN (L.map (Pk.weight j ·)++bs)).length:=by rw[aU,List.length_append,List.length_map];omega
    rw[List.drop_eq_getElem_cons hk2];simp[bN,Ld]
   have hB:=hide hbw;have hR:=hide hr;have hSz:=hide hsz
   clear hbw hr Ld hsz;revert hcL hx32 hd;generalize L[k]?.getD 0=x;intro hcL hx32 hd;have hw:=Pk.iB hj hx32;have Si:=hide (fun w=>nH j x hj hx32 w);revert hw Si hd;generalize Pk.weight j x=wt;intro hd hw Si;have hw8:IntKind.u8.wrap (wt:Int)=(wt:Int):=bZ _ (by omega) (by omega);have hk0:(0:Int)<=(k:Int):=by omega
   have hk1:(k:Int)<(m:Int):=by omega
   have hroom:k+1<=c:=by have:=hc.out;omega
   go_wp2_with first|(go_at_call 171;refine(Si.out _).mono ?_;rintro _ wq ⟨rfl,hq⟩;have hq2:=hq.symm;clear hq;subst hq2)|(at_builtin;refine eP _ rfl _ _ 28 rfl 5 i0 Tryz.underlying28 hi hz1 w.heap.size k c U (.int .u8 0) rfl hUl.out (hR.out.alloc _) ⟨wr.heap.size,0,none⟩ 1 1 [.int .u8 (wt:Int)] rfl rfl (cell_one_new _ _ _) (by intro u hu;simp at hu;subst hu;rfl) hd.out hroom ?_)
   intro w1 hr1 hg1;have Uw:=hide hr1;have hG1:=hide hg1
   clear hr1 hg1;go_wp2;go_roundw
   case rel=>
    have hs1:=hG1.out.size;have hs2:=hSz.out;refine⟨k+1,by omega,rfl,by go_num,(hB.out.alloc hB.out.size _).grown hG1.out (by simp;omega) (by intro q hq;simp at hq;omega),?_,Uw.out⟩;simp at hs1;omega
   case measure=>refine aO ?_ ?_<;>simp only[intOf]<;>omega
  ·have e:k=m:=by omega
   subst e;have hB:=hide hbw;have hR:=hide hr;have hSz:=hide hsz
   clear hbw hr hsz;have hnw:Hid (∀q u,(bN bs)[q]? =some u->wr.cell? ((⟨pb,po,none⟩:Addr).add q)=some u):=fun q u hu=>by
    have hq:q<bs.length:=by have:=(List.getElem?_eq_some_iff.1 hu).1;rw[aU]at this;exact this
    rw[fV hq]at hu;rw[Addr.add_lit,hB.out.cell (by exact hpb),<-hu];exact HP.out q (by rw[<-hs.out];exact hq)
   have hd:Hid ((U.drop k).take s=bN bs):=by
    show _=_;have e1:U=bN (L.map (Pk.weight j ·))++bN bs:=by rw[hU.out];simp[bN]
    rw[e1,List.drop_left' (by rw[aU,List.length_map];exact hm.out),List.take_of_length_le (by rw[aU,hs.out];exact Nat.le_refl _)]
   have hcs:k+s=c:=hc.out;have hks2:Hid (k+s=c):=hcs;clear hcs;go_wp2_with (at_builtin;refine eP _ rfl _ _ 28 rfl 5 i0 Tryz.underlying28 hi hz1 w.heap.size k c U (.int .u8 0) rfl hUl.out hR.out ⟨pb,po,none⟩ s eH (bN bs) rfl (by rw[aU,hs.out]) hnw.out (by intro u hu;obtain⟨x,_,rfl⟩:=List.mem_map.1 hu;rfl) hd.out (by rw[hks2.out];exact Nat.le_refl _) ?_)
   intro w1 hr1 hg1;rw[hks2.out]at hr1⊢;have Uw:Hid (aB w1 w.heap.size 5 (bN (dU k s j kn (L.map (Pk.weight j ·)++bs) 0))):=by
    show aB _ _ _ _;have:=hr1;rw[<-hUl.out,yJ,hU.out]at this;exact this
   have hB1:Hid (Below w.heap.size w w1):=hB.out.grown hg1 hB.out.size (by intro q hq;simp at hq;omega);clear hr1 hg1 hR hB hnw hd;go_wp2;go_loopw [39] (fun x wr=>∃i:Nat,i<=K/\x= .int .i64 i/\Below w.heap.size w wr/\aB wr w.heap.size 5 (bN (dU k s j kn (L.map (Pk.weight j ·)++bs) i)))
    (fun x _=>leftOf K (intOf x).toNat)
   case atStart=>exact⟨0,by omega,rfl,hB1.out,Uw.out⟩
   case round=>
    obtain⟨i,hi2,rfl,hbw,hr⟩:=hrel;by_cases hlt2:i<K
    ·obtain⟨v,hv1,hv2⟩:=HK.out i hlt2;have Y8:wr.cell? ⟨gO,i,none⟩=some v:=(HO.out.below hbw VO).cell i v hv1;have Si:=hide (fun w=>nH j i hj (by omega) w);have hwl:=Pk.iB (j:=j) (i:=i) hj (by omega);have hRl:=g_ k s j kn (L.map (Pk.weight j ·)++bs) i;have hR0:∀x∈L.map (Pk.weight j ·)++bs,x<256:=fun x hx=>by
      rcases List.mem_append.1 hx with h|h
      ·obtain⟨y,hy,rfl⟩:=List.mem_map.1 h;exact Pk.iB hj (Oy y hy)
      ·exact hbs x h
     have hA:Hid (Calls Tryz.prog 170 #[.slice (some ⟨w.heap.size,k,none⟩) s s,v,.int .i64 (Pk.weight j i:Nat)] wr.drew fun e w'=>
       e= .returned (.tuple #[])/\wr.drew.grownBy w' (some w.heap.size)/\aB w' w.heap.size 5 (bN (dU k s j kn (L.map (Pk.weight j ·)++bs) (i+1)))):=by
      show Calls ..;cases hki:kn i with
      |none=>
       rw[hki]at hv2;obtain rfl:v= .slice none 0 0:=hv2;refine(Dv _ _ _).mono ?_;rintro e w' ⟨rfl,rfl⟩;refine⟨rfl,World.grownBy.refl _ _,?_⟩;simp only[dU,hki];exact hr.drew
      |some b=>
       rw[hki]at hv2;obtain⟨b0,o0,c0,rfl,hcap,Yp,hcl⟩:Bytes w v b:=hv2;have hbl:b.length=s:=(HS.out i b hki).1;have hRlt:=yN (m:=k) (s:=s) (kn:=kn) hj hR0 (fun i' b' hb'=>(HS.out i' b' hb').2) i (by omega);have e0:dU k s j kn (L.map (Pk.weight j ·)++bs) (i+1)=fP (dU k s j kn (L.map (Pk.weight j ·)++bs) i) k b (Pk.weight j i) s:=by simp only[dU,hki]
       rw[e0,hbl];refine ng w.heap.size k s s b0 o0 c0 (Pk.weight j i) s _ b hbl hs1 (Nat.le_refl _) ?_ Yp hRlt hwl wr.drew ?_ hr.drew (fun q hq=>?_)
       ·rw[hRl,List.length_append,List.length_map,hm.out,hs.out];exact Nat.le_refl _
       ·have:=bG (hcl 0 (by omega));simp only at this;omega
       ·have:=bG (hcl 0 (by omega));show wr.cell? _=_;rw[hbw.cell (by exact this)];exact hcl q (by omega)
     have hB:=hide hbw;clear hbw hr hv1 hv2 hRl hR0;revert Si hA hwl;generalize Pk.weight j i=wt;intro Si hwl hA;have hi0:(0:Int)<=(i:Int):=by omega
     have hi1:(i:Int)<(K:Int):=by omega
     have hkc:(k:Int)<=(c:Int):=by have:=hc.out;omega
     have hcs1:c-k=s:=by have:=hc.out;omega
     have hcs2:(c:Int)-(k:Int)=(s:Int):=by have:=hc.out;omega
     have hck:¬c=k:=by have:=hc.out;omega
     go_wp2_with fail
     go_region_with (first|(go_at_call 171;refine(Si.out _).mono ?_;rintro _ _ ⟨rfl,rfl⟩)|(go_at_call 170;refine hA.out.mono ?_;rintro _ w1 ⟨rfl,hg1,hr1⟩;replace hg1:=hide hg1;replace hr1:=hide hr1))
     all_goals
      go_wp2;go_roundw
      case rel=>exact⟨i+1,by omega,by go_num,(hB.out.drew.grown hg1.out hB.out.size (by intro q hq;simp at hq;omega)),hr1.out⟩
      case measure=>refine aO ?_ ?_<;>simp only[intOf]<;>omega
    ·have e:i=K:=by omega
     subst e;have hB:=hide hbw;have hR:=hide hr
     clear hbw hr;go_wp2;go_ret;exact⟨rfl,hB.out,hR.out⟩
end Go.Proofs.YtmfpiodlecapiaaGreatDoor
namespace Go.Proofs.YtmfpiodlecapiaaGreatDoor
theorem Ar(f:Nat->Nat)(p:Nat->Bool):∀K,Pk.sumN f K=Pk.sumN (fun i=>if p i then f i else 0) K ^^^ Pk.sumN (fun i=>if p i then 0 else f i) K
 |0=>by simp[Pk.sumN]
 |K+1=>by
  simp only[Pk.sumN];rw[Ar f p K];cases p K with
  |true=>simp only[if_true,Nat.xor_zero];rw[Nat.xor_assoc,Nat.xor_assoc,Nat.xor_comm (f K)]
  |false=>simp only[Bool.false_eq_true,if_false,Nat.xor_zero];rw[Nat.xor_assoc]
theorem Au(f:Nat->Nat)(p:Nat->Bool):∀K,Pk.sumN (fun i=>if p i then f i else 0) K=Pk.sumN (fun t=>f (((List.range K).filter p)[t]?.getD 0)) ((List.range K).filter p).length
 |0=>rfl
 |K+1=>by
  simp only[Pk.sumN];rw[Au f p K,List.range_succ,List.filter_append];cases hp:p K with
  |true=>
   have e: [K].filter p= [K]:=by simp[hp]
   rw[e,List.length_append,List.length_singleton,Pk.sumN];congr 1
   ·refine Pk.sumN_congr fun t ht=>?_;rw[List.getElem?_append_left ht]
   ·simp
  |false=>
   have e: [K].filter p= []:=by simp[hp]
   rw[e,List.append_nil];simp
theorem Rf{l:List Nat}{c:Nat}(h:l.length=c):lst c (fun j=>l[j]?.getD 0)=l:=
 yM (by rw[bL,h]) fun i hi=>by rw[mg (by omega)]
def ZK(kn:Nat->Option (List Nat))(j q i:Nat):Nat:=match kn i with|some b=>Gf.mul (b[q]?.getD 0) (Pk.weight j i)|none=>0
theorem yP{m s j:Nat}{kn:Nat->Option (List Nat)}{R:List Nat}(hR:R.length=m+s){q:Nat}(hq:q<s):∀i,(dU m s j kn R i)[m+q]?.getD 0=(R[m+q]?.getD 0) ^^^ Pk.sumN (ZK kn j q) i
 |0=>by simp[dU,Pk.sumN]
 |i+1=>by
  have ih:=yP (j:=j) (kn:=kn) hR hq i;have hl:=g_ m s j kn R i;rw[Pk.sumN,<-Nat.xor_assoc,<-ih];simp only[dU,ZK];cases hk:kn i with
  |none=>simp
  |some b=>
   simp only;rw[oQ (by omega),if_pos (by omega),Nat.add_sub_cancel_left]
theorem yO{m s j:Nat}{kn:Nat->Option (List Nat)}{R:List Nat}(hR:R.length=m+s){q:Nat}(hq:q<m):∀i,(dU m s j kn R i)[q]?.getD 0=R[q]?.getD 0
 |0=>rfl
 |i+1=>by
  have ih:=yO (j:=j) (kn:=kn) hR hq i;have hl:=g_ m s j kn R i;simp only[dU];cases hk:kn i with
  |none=>exact ih
  |some b=>
   simp only;rw[oQ (by omega),if_neg (by omega)];exact ih
def FM(blk:List Nat)(s:Nat)(hd:Nat->Bool)(i:Nat):Option (List Nat):=if hd i then some (Pk.piece blk s i)else none
def rowsOf(blk:List Nat)(s K:Nat)(hd:Nat->Bool)(E:Nat->Nat)(i:Nat):List Nat:=
 dU ((List.range K).filter fun i=> !hd i).length s (E i) (FM blk s hd) (((List.range K).filter fun i=> !hd i).map (Pk.weight (E i) ·)++Pk.pieceN blk s K (K+E i)) K
theorem ES{blk:List Nat}{s K:Nat}{hd:Nat->Bool}{E:Nat->Nat}(hb:blk.length=K*s)(hbl:∀x∈blk,x<256)(hK:K<=20)(hE:∀i,i<((List.range K).filter fun i=> !hd i).length->E i<20)(hEi:∀i j,i<((List.range K).filter fun i=> !hd i).length->j<((List.range K).filter fun i=> !hd i).length->E i=E j->i=j):
  ∀m,m=((List.range K).filter fun i=> !hd i).length->∀M:Nat->Nat->Nat,(∀i j,M i j=(rowsOf blk s K hd E i)[j]?.getD 0)->(∀i j,i<m->j<m+s->M i j<256)->
  (∀c,c<m->Gs.it m M c c c≠0)/\(∀c,c<=m->∀i j,i<m->j<m+s->Gs.it m M c i j<256)/\∀t q,t<m->q<s->Gs.it m M m t (m+q)=blk[(((List.range K).filter fun i=> !hd i)[t]?.getD 0)*s+q]?.getD 0:=by
 intro m hm M hM hlt;have Oy:∀t,t<m->((List.range K).filter fun i=> !hd i)[t]?.getD 0<K/\hd (((List.range K).filter fun i=> !hd i)[t]?.getD 0)=false:=fun t ht=>by
  have h1:t<((List.range K).filter fun i=> !hd i).length:=by omega
  have h2:((List.range K).filter fun i=> !hd i)[t]?.getD 0=((List.range K).filter fun i=> !hd i)[t]:=by simp[h1]
  have h3:=List.getElem_mem h1;rw[<-h2,List.mem_filter,List.mem_range]at h3;exact⟨h3.1,by simpa using h3.2⟩
 have hLi:∀t u,t<m->u<m->((List.range K).filter fun i=> !hd i)[t]?.getD 0=((List.range K).filter fun i=> !hd i)[u]?.getD 0->t=u:=fun t u ht hu e=>by
  have h1:t<((List.range K).filter fun i=> !hd i).length:=by omega
  have h2:u<((List.range K).filter fun i=> !hd i).length:=by omega
  have hn:((List.range K).filter fun i=> !hd i).Nodup:=List.nodup_range.filter _;simp only[List.getElem?_eq_getElem h1,List.getElem?_eq_getElem h2,Option.getD_some]at e;exact(List.getElem_inj hn).1 e
 have hbk:∀i q,i<K->q<s->blk[i*s+q]?.getD 0<256:=fun i q hi hq=>by
  refine getD_lt hbl ?_;have:=Nat.mul_le_mul_right s hi;rw[Nat.succ_mul]at this;omega
 have hhead:∀i j,j<m->M i j=Pk.weight (E i) (((List.range K).filter fun i=> !hd i)[j]?.getD 0):=fun i j hj=>by
  rw[hM,rowsOf,yO (by rw[List.length_append,List.length_map,Pk.d_ hb]) (by omega),List.getElem?_append_left (by rw[List.length_map];omega),List.getElem?_map];have:j<((List.range K).filter fun i=> !hd i).length:=by omega
  simp[this]
 have hS:Gs.b_ m M:=fun i hi j hj=>hlt i j hi (by omega);have hI:∀m',m'<=m->Gs.L9 m' M:=by
  intro m' hm';refine Gs.A_ (R:=fun i j=>Gf.inv ((255-E i) ^^^ (((List.range K).filter fun i=> !hd i)[j]?.getD 0))) (fun i j hi hj=>?_) (Gs.Gy (n:=m) (a:=fun i=>255-E i) (b:=fun j=>((List.range K).filter fun i=> !hd i)[j]?.getD 0) (fun i hi=>?_) (fun j hj=>?_) (fun i j hi hj e=>?_) (fun i j hi hj e=>hLi i j hi hj e) (fun i j hi hj e=>?_) m' hm')
  ·rw[hhead i j (by omega)];rfl
  ·show 255-E i<256;omega
  ·have:=(Oy j hj).1;show _<256;omega
  ·have h1:=hE i (by omega);have h2:=hE j (by omega);exact hEi i j (by omega) (by omega) (by omega)
  ·have h1:=hE i (by omega);have h2:=(Oy j hj).1;omega
 refine⟨fun c hc=>Gs.Rq hS hI hc,fun c hc i j hi hj=>Gs.yt hS hI (fun i hi=>hlt i j hi hj) c hc i hi,fun t q ht hq=>?_⟩;have hx:Gs.Small m (fun t=>blk[(((List.range K).filter fun i=> !hd i)[t]?.getD 0)*s+q]?.getD 0):=fun t ht=>hbk _ q (Oy t ht).1 hq;refine Gs.Yg hS hI (fun i hi=>hlt i (m+q) hi (by omega)) hx (fun i hi=>?_) t ht;have hjl:(Pk.pieceN blk s K (K+E i))[q]? =some (Pk.sumN (fun i'=>Gf.mul (blk[i'*s+q]?.getD 0) (Pk.weight (E i) i')) K):=by
  rw[Pk.pieceN_at hb hbl hq,Pk.dotN];congr 1
  refine Pk.sumN_congr fun i' hi'=>?_;unfold Pk.rowAt;rw[if_neg (by omega),Nat.add_sub_cancel_left]
 have hd2:M i (m+q)=Pk.sumN (fun i'=>Gf.mul (blk[i'*s+q]?.getD 0) (Pk.weight (E i) i')) K ^^^ Pk.sumN (ZK (FM blk s hd) (E i) q) K:=by
  rw[hM,rowsOf,hm,yP (by rw[List.length_append,List.length_map,Pk.d_ hb]) hq,List.getElem?_append_right (by rw[List.length_map];omega),List.length_map,Nat.add_sub_cancel_left,hjl];rfl
 have hk2:Pk.sumN (ZK (FM blk s hd) (E i) q) K=Pk.sumN (fun i'=>if hd i' then Gf.mul (blk[i'*s+q]?.getD 0) (Pk.weight (E i) i')else 0) K:=by
  refine Pk.sumN_congr fun i' hi'=>?_;unfold ZK FM;cases hd i' with
  |true=>simp only[if_true];rw[Pk.piece_at hq]
  |false=>simp
 show Gs.lin m (M i) _=M i (m+q);rw[hd2,hk2,Ar (fun i'=>Gf.mul (blk[i'*s+q]?.getD 0) (Pk.weight (E i) i')) hd K,Nat.xor_comm,<-Nat.xor_assoc,Nat.xor_self,Nat.zero_xor];have e1:Pk.sumN (fun i'=>if hd i' then 0 else Gf.mul (blk[i'*s+q]?.getD 0) (Pk.weight (E i) i')) K=Pk.sumN (fun i'=>if !hd i' then Gf.mul (blk[i'*s+q]?.getD 0) (Pk.weight (E i) i')else 0) K:=by
  refine Pk.sumN_congr fun i' _=>?_;cases hd i'<;>simp
 rw[e1,Au (fun i'=>Gf.mul (blk[i'*s+q]?.getD 0) (Pk.weight (E i) i')) (fun i=> !hd i) K,<-hm];unfold Gs.lin;refine Pk.sumN_congr fun t ht=>?_;rw[hhead i t ht]
end Go.Proofs.YtmfpiodlecapiaaGreatDoor
