import Derived.Test.YtmfpiodlecapiaaGreatDoorJ39
import Derived.Lib.OthersKept
set_option linter.unusedSimpArgs false
set_option maxHeartbeats 8000000
set_option maxRecDepth 100000
namespace Go.Proofs.YtmfpiodlecapiaaGreatDoor
open Go.Conc Go.ConcN Go.RowKit Go.bB Go.Ren Go.eO Go.Deep
attribute [local go_sem↓] Go.wp_at_zero Go.wp_at_succ
theorem Alpha.bl{p q:World}{B:Nat}(h:Alpha p)(hb:Bl B p q)(hB:0<B):Alpha q:=fun i hi=>by
 rw[<-h i hi];exact World.cell?_of_block (hb.block 0 hB)
theorem Bl.cell{p q:World}{B:Nat}(h:Bl B p q){g i:Nat}{v:Value}(hg:g<B)(hc:p.cell? ⟨g,i,none⟩=some v):q.cell? ⟨g,i,none⟩=some v:=by
 rw[<-hc];exact World.cell?_of_block (h.block g hg)
theorem Pz{Sh:Nat->Prop}{Post:(Nat->Prop)->Goroutine->World->Prop}{p:World}{ks:List Item}{cs:List Frame}{b n m gd od cd:Nat}{d:List Nat}(hn:n<=100000000)(hm:m<n)(hb0:0<b)(ha:Alpha p){cc:Code}(hc:Hid (cc=dP [1,1,1,0,1,0,0,1,1,0,0,1,1,0,0] (Tryz.f36.body.getD .skip)))
  (hend:∀e c X q t1 t6 t7 d4 d2 c7 a5 a7 a9 a3 b4 b2 a8 c9 b5 a2 b3 b8 d1 b9 a6 a4 d3 d0 c5 c6 b1 d7 d8 d5 d6 b7 b6 c8 b0 c0 c4,c<6->6*e+c=8*(m+1)->X=Tx.val (Tx.kg d) (6*e) c->J4 q b (bN (Tx.pre d e))->Bl b p q->aj Tryz.prog Sh (G ((base 36).at ⟨#[.slice (some ⟨gd,od,none⟩) n cd,t1,.string ⟨#[]⟩,.pointer (some ⟨b,0,none⟩),.int .i64 (X:Nat),.int .i64 (c:Nat),t6,t7,.slice (some ⟨gd,od,none⟩) n cd,.int .i64 (n:Nat),.int .i64 (m:Nat),d4,d2,c7,a5,a7,a9,a3,b4,b2,a8,c9,b5,a2,b3,b8,d1,b9,a6,a4,d3,d0,c5,c6,b1,d7,d8,d5,d6,b7,b6,c8,b0,c0,c4],[]⟩ ks) cs) q Post):
  ∀(r e c X:Nat) (q:World) (t1 t6 t7 d4 d2 c7 a5 a7 a9 a3 b4 b2 a8 c9 b5 a2 b3 b8 d1 b9 a6 a4 d3 d0 c5 c6 b1 d7 d8 d5 d6 b7 b6 c8 b0 c0 c4:Value),c<=13->c<6*r+6->6*e+c=8*(m+1)->X=Tx.val (Tx.kg d) (6*e) c->J4 q b (bN (Tx.pre d e))->Bl b p q->
   aj Tryz.prog Sh (G ((base 36).at ⟨#[.slice (some ⟨gd,od,none⟩) n cd,t1,.string ⟨#[]⟩,.pointer (some ⟨b,0,none⟩),.int .i64 (X:Nat),.int .i64 (c:Nat),t6,t7,.slice (some ⟨gd,od,none⟩) n cd,.int .i64 (n:Nat),.int .i64 (m:Nat),d4,d2,c7,a5,a7,a9,a3,b4,b2,a8,c9,b5,a2,b3,b8,d1,b9,a6,a4,d3,d0,c5,c6,b1,d7,d8,d5,d6,b7,b6,c8,b0,c0,c4],[]⟩ (.code cc:: .inLoop cc:: .inBlock 2::ks)) cs) q Post:=by
 have HE:=hide hend;have HA:=hide ha
 clear hend ha;intro r;induction r with
 |zero=>
  intro e c X q t1 t6 t7 d4 d2 c7 a5 a7 a9 a3 b4 b2 a8 c9 b5 a2 b3 b8 d1 b9 a6 a4 d3 d0 c5 c6 b1 d7 d8 d5 d6 b7 b6 c8 b0 c0 c4 hc13 hcr WQ hX hbl hbw;refine aj.Xt hc.out ?_;conv=>arg 3;simp only[Tryz.f36,Option.getD_some,dP]
  have c1:¬(6:Int)<=(c:Int):=by omega
  have Bz:=hide hbl;have J2:=hide hbw;have HX:=hide hX
  clear hbl hbw hX;refine aj.seq (aj.seq ?_);refine aj.aX fun kk hkk=>?_;replace hkk:=hide hkk;refine aj.bC aI (by kernel_rfl) fun τ d=>?_;go_wp2
  first|(refine Or.inl ⟨rfl,?_⟩;dsimp only;refine aj.re ?_ _ _)|refine aj.re ?_ _ _
  rw[hkk.out];clear hkk kk τ d;refine aj.no rfl ?_;refine aj.exit rfl ?_;exact HE.out e c X q _ _ _ _ _ _ _ _ _ _ _ _ _ _ _ _ _ _ _ _ _ _ _ _ _ _ _ _ _ _ _ _ _ _ _ _ _ (by omega) WQ HX.out Bz.out J2.out
 |succ r ih=>
  intro e c X q t1 t6 t7 d4 d2 c7 a5 a7 a9 a3 b4 b2 a8 c9 b5 a2 b3 b8 d1 b9 a6 a4 d3 d0 c5 c6 b1 d7 d8 d5 d6 b7 b6 c8 b0 c0 c4 hc13 hcr WQ hX hbl hbw;have Bz:=hide hbl;have J2:=hide hbw
  clear hbl hbw;by_cases h6:6<=c
  ·refine aj.Xt hc.out ?_;conv=>arg 3;simp only[Tryz.f36,Option.getD_some,dP]
   have c1:(6:Int)<=(c:Int):=by omega
   obtain⟨s,rfl⟩:∃s,c=s+6:=⟨c-6,by omega⟩;have hX6:X/2^s=Tx.val (Tx.kg d) (6*e) 6:=by rw[hX,Nat.add_comm s 6,Tx.BG (Tx.iP d)]
   have hXm:X%2^s=Tx.val (Tx.kg d) (6*e+6) s:=by rw[hX,Nat.add_comm s 6,Tx.val_mod (Tx.iP d)]
   have hXl:X<1048576:=by rw[hX];exact Nat.lt_of_lt_of_le (Tx.jL (Tx.iP d) _ _) (Nat.pow_le_pow_right (by decide) (by omega:s+6<=20))
   have hL6:Tx.val (Tx.kg d) (6*e) 6<64:=Tx.jL (Tx.iP d) _ 6;obtain⟨V,hV⟩:∃V,V=Tx.val (Tx.kg d) (6*e) 6:=⟨_,rfl⟩;rw[<-hV]at hX6 hL6;have hq0:(0:Int)<=(s:Int):=by omega
   have hsub:((s:Int)+6)-6=(s:Int):=by omega
   have hdiv:(X:Int)/2^s=(V:Int):=by rw[<-hX6];simp
   have v0:(0:Int)<=(V:Int):=by omega
   have v1:(V:Int)<64:=by omega
   have hav:=(HA.out.bl J2.out hb0) V hL6;have hpl:=Tx.qI d e;have c2:(6:Int)<=(s:Int)+6:=by omega
   have HXm:=hide hXm;have HV:=hide hV
   clear hXm hV hX hX6;have LW:=hide (uY X s hXl (by omega));obtain⟨X',hX'⟩:∃X',X'=X%2^s:=⟨_,rfl⟩;rw[<-hX']at LW HXm;clear hX';refine aj.seq (aj.seq ?_);refine aj.aX fun kk hkk=>?_;replace hkk:=hide hkk;refine aj.bC aI (by kernel_rfl) fun τ d=>?_;go_wp2
   first|(refine Or.inl ⟨rfl,?_⟩;dsimp only;refine aj.re ?_ _ _)|refine aj.re ?_ _ _
   rw[hkk.out];clear hkk kk τ d;refine aj.yes (by first|rfl|(simp[Act.eval];done)|(simp[Act.eval];omega)) (aj.skip ?_);refine aj.block (aj.seq ?_);refine aj.aX fun kk hkk=>?_;replace hkk:=hide hkk;refine aj.bC aI (by kernel_rfl) fun τ d=>?_;go_wp2
   first|(refine Or.inl ⟨rfl,?_⟩;dsimp only;refine aj.re ?_ _ _)|refine aj.re ?_ _ _
   rw[hkk.out];clear hkk kk τ d;refine aj.seq ?_;refine aj.aX fun kk hkk=>?_;replace hkk:=hide hkk;refine aj.reg (todo:= [0,1,2,3,4,5]) rfl ?_;refine aj.pv aI fun τ d K hK=>?_;go_simp;refine hK _ ?_;clear hK;try walk_nrm
   iterate 3 (refine aj.pv aI fun τ d K hK=>?_;go_simp;refine hK _ ?_;clear hK;try walk_nrm)
   refine aj.op (fI aI (by kernel_rfl)) rfl rfl (by decide) (fun τ d K hK=>?_);have a0:(q.re τ d).cell? ⟨0,V,none⟩=some (.int .i32 (Tx.rn V:Nat)):=hav;go_simp;refine hK _ _ ?_;clear hK a0;refine aj.re ?_ _ _;try walk_nrm
   refine aj.dM rfl rfl (by decide) rfl Tryz.func70 rfl rfl (T':=#[.pointer (some ⟨b,0,none⟩),.int .i32 (Tx.rn V:Nat),undef,undef,undef,undef,undef,undef,undef,undef,undef,undef,undef,undef,undef,undef,undef,undef,undef,undef,undef,undef,undef,undef,undef,undef,undef,undef,undef,undef]) (by simp[Act.eval,Tryz.f70]) ?_;refine wT (o:=?o) ?ho hL6 (hide (aU _)) (by omega) Bz.out (fun mm w1 Ox R_=>?hend)
   case ho=>rfl
   case hend=>
   have Y2:=hide Ox;have Y1:=hide R_
   clear Ox R_;try walk_nrm
   refine aj.aR ?_;rw[hkk.out];clear hkk kk;refine aj.aX fun kk hkk=>?_;replace hkk:=hide hkk;refine aj.bC aI (by kernel_rfl) fun τ d=>?_;go_wp2_with (go_at_call 71;refine(LW.out _).mono ?_;rintro _ _ ⟨rfl,rfl⟩)
   first|(refine Or.inl ⟨rfl,?_⟩;dsimp only;refine aj.re ?_ _ _)|refine aj.re ?_ _ _
   rw[hkk.out];clear hkk kk τ d;refine aj.inBlock (aj.inLoop ?_);refine ih (e+1) s X' w1 _ _ _ _ _ _ _ _ _ _ _ _ _ _ _ _ _ _ _ _ _ _ _ _ _ _ _ _ _ _ _ _ _ _ _ _ _ (by omega) (by omega) (by omega) HXm.out ?_ (J2.out.trans Y1.out);have h:=Y2.out;rw[Tx.nS,<-HV.out];unfold bN at h⊢;rw[List.map_append];exact h
  ·exact ih e c X q _ _ _ _ _ _ _ _ _ _ _ _ _ _ _ _ _ _ _ _ _ _ _ _ _ _ _ _ _ _ _ _ _ _ _ _ _ (by omega) (by omega) WQ hX Bz.out J2.out
theorem Mc{Sh:Nat->Prop}{Post:(Nat->Prop)->Goroutine->World->Prop}{p:World}{ks:List Item}{cs:List Frame}{b n gd od cd:Nat}{d:List Nat}(hn:n<=100000000)(hd:Hid (d.length=n))(hdb:Hid (∀x∈d,x<256))(hb0:0<b)(ha:Alpha p)(hcl:Hid (∀j,j<n->gd<b/\p.cell? ⟨gd,od+j,none⟩=some (.int .u8 ((d[j]?.getD 0:Nat):Int)))){cc:Code}(hc:Hid (cc=dP [1,1,1,0,1,0,0] (Tryz.f36.body.getD .skip)))
  (hend:∀e c X q m t1 t6 t7 d4 d2 c7 a5 a7 a9 a3 b4 b2 a8 c9 b5 a2 b3 b8 d1 b9 a6 a4 d3 d0 c5 c6 b1 d7 d8 d5 d6 b7 b6 c8 b0 c0 c4,m=n->c<6->6*e+c=8*m->X=Tx.val (Tx.kg d) (6*e) c->J4 q b (bN (Tx.pre d e))->Bl b p q->aj Tryz.prog Sh (G ((base 36).at ⟨#[.slice (some ⟨gd,od,none⟩) n cd,t1,.string ⟨#[]⟩,.pointer (some ⟨b,0,none⟩),.int .i64 (X:Nat),.int .i64 (c:Nat),t6,t7,.slice (some ⟨gd,od,none⟩) n cd,.int .i64 (n:Nat),.int .i64 (m:Nat),d4,d2,c7,a5,a7,a9,a3,b4,b2,a8,c9,b5,a2,b3,b8,d1,b9,a6,a4,d3,d0,c5,c6,b1,d7,d8,d5,d6,b7,b6,c8,b0,c0,c4],[]⟩ ks) cs) q Post):
  ∀(r m e c X:Nat) (q:World) (t1 t6 t7 d4 d2 c7 a5 a7 a9 a3 b4 b2 a8 c9 b5 a2 b3 b8 d1 b9 a6 a4 d3 d0 c5 c6 b1 d7 d8 d5 d6 b7 b6 c8 b0 c0 c4:Value),m+r=n->c<6->6*e+c=8*m->X=Tx.val (Tx.kg d) (6*e) c->J4 q b (bN (Tx.pre d e))->Bl b p q->
   aj Tryz.prog Sh (G ((base 36).at ⟨#[.slice (some ⟨gd,od,none⟩) n cd,t1,.string ⟨#[]⟩,.pointer (some ⟨b,0,none⟩),.int .i64 (X:Nat),.int .i64 (c:Nat),t6,t7,.slice (some ⟨gd,od,none⟩) n cd,.int .i64 (n:Nat),.int .i64 (m:Nat),d4,d2,c7,a5,a7,a9,a3,b4,b2,a8,c9,b5,a2,b3,b8,d1,b9,a6,a4,d3,d0,c5,c6,b1,d7,d8,d5,d6,b7,b6,c8,b0,c0,c4],[]⟩ (.code cc:: .inLoop cc:: .inBlock 0::ks)) cs) q Post:=by
 have HE:=hide hend;have HA:=hide ha
 clear hend ha;intro r;induction r with
 |zero=>
  intro m e c X q t1 t6 t7 d4 d2 c7 a5 a7 a9 a3 b4 b2 a8 c9 b5 a2 b3 b8 d1 b9 a6 a4 d3 d0 c5 c6 b1 d7 d8 d5 d6 b7 b6 c8 b0 c0 c4 hmr hc6 WQ hX hbl hbw;refine aj.Xt hc.out ?_;conv=>arg 3;simp only[Tryz.f36,Option.getD_some,dP]
  have c1:¬(m:Int)<(n:Int):=by omega
  have Bz:=hide hbl;have J2:=hide hbw;have HX:=hide hX
  clear hbl hbw hX;refine aj.seq ?_;refine aj.aX fun kk hkk=>?_;replace hkk:=hide hkk;refine aj.bC aI (by kernel_rfl) fun τ d=>?_;go_wp2
  first|(refine Or.inl ⟨rfl,?_⟩;dsimp only;refine aj.re ?_ _ _)|refine aj.re ?_ _ _
  rw[hkk.out];clear hkk kk τ d;refine aj.seq (aj.no rfl ?_);refine aj.exit rfl ?_;exact HE.out e c X q m _ _ _ _ _ _ _ _ _ _ _ _ _ _ _ _ _ _ _ _ _ _ _ _ _ _ _ _ _ _ _ _ _ _ _ _ _ (by omega) hc6 WQ HX.out Bz.out J2.out
 |succ r ih=>
  intro m e c X q t1 t6 t7 d4 d2 c7 a5 a7 a9 a3 b4 b2 a8 c9 b5 a2 b3 b8 d1 b9 a6 a4 d3 d0 c5 c6 b1 d7 d8 d5 d6 b7 b6 c8 b0 c0 c4 hmr hc6 WQ hX hbl hbw;have hmn:m<n:=by omega
  have Bz:=hide hbl;have J2:=hide hbw
  obtain⟨hgb,hcp⟩:=hcl.out m hmn;have hcm:q.cell? ⟨gd,od+m,none⟩=some (.int .u8 ((d[m]?.getD 0:Nat):Int)):=hbw.cell hgb hcp;clear hbl hbw hcp;have m0:(0:Int)<=(m:Int):=by omega
  have m1:(m:Int)<(n:Int):=by omega
  have hD:d[m]?.getD 0<256:=getD_lt hdb.out (by rw[hd.out];exact hmn);have hv8:=Tx.DV d m hD;obtain⟨D,hDD⟩:∃D,D=d[m]?.getD 0:=⟨_,rfl⟩;rw[<-hDD]at hcm hD hv8;have hXl:X<64:=by rw[hX];exact Nat.lt_of_lt_of_le (Tx.jL (Tx.iP d) _ c) (Nat.pow_le_pow_right (by decide) (by omega:c<=6))
  have hY:X*256+D=Tx.val (Tx.kg d) (6*e) (c+8):=by
   rw[Tx.val_add,<-hX,WQ,hv8]
  have hor:bits .or .i64 ((X:Int)*256) (D:Int)=((X*256+D:Nat):Int):=by
   have h1:=Jq (X*256) D (by omega) (by omega);rw[I9 X (k:=8) hD]at h1;rw[show((X*256:Nat):Int)=(X:Int)*256 by omega]at h1;exact h1
  obtain⟨Y,hYY⟩:∃Y,Y=X*256+D:=⟨_,rfl⟩;rw[<-hYY]at hY hor;have hYl:Y<16640:=by omega
  have HY:=hide hY;clear hYY hDD hv8 hY hX;refine aj.Xt hc.out ?_;conv=>arg 3;simp only[Tryz.f36,Option.getD_some,dP]
  refine aj.seq ?_;refine aj.aX fun kk hkk=>?_;replace hkk:=hide hkk;refine aj.bC aI (by kernel_rfl) fun τ d=>?_;go_wp2
  first|(refine Or.inl ⟨rfl,?_⟩;dsimp only;refine aj.re ?_ _ _)|refine aj.re ?_ _ _
  rw[hkk.out];clear hkk kk τ d;refine aj.seq (aj.yes (by first|rfl|(simp[Act.eval];done)|(simp[Act.eval];omega)) (aj.skip ?_));refine aj.seq (aj.block (aj.seq ?_));refine aj.aX fun kk hkk=>?_;replace hkk:=hide hkk;refine aj.bC aI (by kernel_rfl) fun τ d=>?_;have a0:(q.re τ d).cell? ⟨gd,od+m,none⟩=some (.int .u8 (D:Int)):=hcm;go_wp2
  first|(refine Or.inl ⟨rfl,?_⟩;dsimp only;refine aj.re ?_ _ _)|refine aj.re ?_ _ _
  rw[hkk.out];clear hkk kk a0 τ d;refine aj.seq ?_;refine aj.aX fun kk hkk=>?_;replace hkk:=hide hkk;refine aj.bC aI (by kernel_rfl) fun τ d=>?_;go_wp2
  first|(refine Or.inl ⟨rfl,?_⟩;dsimp only;refine aj.re ?_ _ _)|refine aj.re ?_ _ _
  rw[hkk.out];clear hkk kk τ d;refine aj.block (aj.loop ?_);rw[show((c:Int)+8)=((c+8:Nat):Int) by omega];refine Pz (m:=m) (d:=d) hn hmn hb0 HA.out (hide rfl) ?_ 2 e (c+8) Y q _ _ _ _ _ _ _ _ _ _ _ _ _ _ _ _ _ _ _ _ _ _ _ _ _ _ _ _ _ _ _ _ _ _ _ _ _ (by omega) (by omega) (by omega) HY.out Bz.out J2.out;intro e2 c2 X2 q2 t1 t6 t7 d4 d2 c7 a5 a7 a9 a3 b4 b2 a8 c9 b5 a2 b3 b8 d1 b9 a6 a4 d3 d0 c5 c6 b1 d7 d8 d5 d6 b7 b6 c8 b0 c0 c4 hc26 hec2 hX2 hbl2 hbw2;have HBL2:=hide hbl2;have HBW2:=hide hbw2;have HX2:=hide hX2
  clear hbl2 hbw2 hX2;refine aj.inBlock ?_;have m2:(m:Int)<9223372036854775807:=by omega
  refine aj.aX fun kk hkk=>?_;replace hkk:=hide hkk;refine aj.bC aI (by kernel_rfl) fun τ d=>?_;go_wp2
  first|(refine Or.inl ⟨rfl,?_⟩;dsimp only;refine aj.re ?_ _ _)|refine aj.re ?_ _ _
  rw[hkk.out];clear hkk kk τ d;refine aj.inLoop ?_;refine ih (m+1) e2 c2 X2 q2 _ _ _ _ _ _ _ _ _ _ _ _ _ _ _ _ _ _ _ _ _ _ _ _ _ _ _ _ _ _ _ _ _ _ _ _ _ (by omega) hc26 hec2 HX2.out HBL2.out HBW2.out
theorem Md{Sh:Nat->Prop}{Post:(Nat->Prop)->Goroutine->World->Prop}{p:World}{cfn:FuncId}{ca:Act}{bg:Array Oper}{ci:Nat}{aT:List Nat}{ck:List Item}{cs:List Frame}{o:Oper}(ho:bg[ci]? =some o){gd od n cd:Nat}{d:List Nat}(hd:Hid (d.length=n))(hn:n<=100000000)(hdb:Hid (∀x∈d,x<256))(ha:Alpha p)(hcl:Hid (∀j,j<n->p.cell? ⟨gd,od+j,none⟩=some (.int .u8 ((d[j]?.getD 0:Nat):Int))))
  (hend:∀p',dZ p p'->aj Tryz.prog Sh (G ((base cfn).at (ca.put o.dst (.string (strOf (Tx.dQ d)))) (.inRegion bg aT::ck)) cs) p' Post):
  aj Tryz.prog Sh (G ((base 36).at ⟨#[.slice (some ⟨gd,od,none⟩) n cd,undef,undef,undef,undef,undef,undef,undef,undef,undef,undef,undef,undef,undef,undef,undef,undef,undef,undef,undef,undef,undef,undef,undef,undef,undef,undef,undef,undef,undef,undef,undef,undef,undef,undef,undef,undef,undef,undef,undef,undef,undef,undef,undef,undef],[]⟩ [.code (Tryz.f36.body.getD .skip)]) ((base cfn).at ca (.inRegion bg (ci::aT)::ck)::cs)) p Post:=by
 have HE:=hide hend;have HA:=hide ha;have HS:=hide ha.size
 clear hend ha;conv=>arg 3;simp only[Tryz.f36,Option.getD_some]
 refine aj.seq (aj.bC aI (by kernel_rfl) fun τ d=>?_);go_wp2;refine aj.re ?_ _ _;clear τ d;refine aj.seq (aj.bC aI (by kernel_rfl) fun τ d=>?_);go_wp2;rw[show(p.re τ d).heap.size=p.heap.size from rfl];refine aj.re (p:=p.alloc (.cells #[.pointer none,.slice none 0 0] 122)) ?_ τ d;clear τ d;have hB0:=V7 p;have hW0:Bl p.heap.size p (p.alloc (.cells #[.pointer none,.slice none 0 0] 122)):=Bl.below ((Below.refl p.heap.size p).alloc (Nat.le_refl _) _);generalize p.alloc (.cells #[.pointer none,.slice none 0 0] 122)=p1 at hB0 hW0⊢;have HB0:=hide hB0;have HW0:=hide hW0
 clear hB0 hW0;refine aj.seq ?_;refine aj.aX fun kk hkk=>?_;replace hkk:=hide hkk;refine aj.bC aI (by kernel_rfl) fun τ d=>?_;go_wp2
 first|(refine Or.inl ⟨rfl,?_⟩;dsimp only;refine aj.re ?_ _ _)|refine aj.re ?_ _ _
 rw[hkk.out];clear hkk kk τ d;refine aj.seq (aj.seq ?_);refine aj.aX fun kk hkk=>?_;replace hkk:=hide hkk;refine aj.bC aI (by kernel_rfl) fun τ d=>?_;go_wp2
 first|(refine Or.inl ⟨rfl,?_⟩;dsimp only;refine aj.re ?_ _ _)|refine aj.re ?_ _ _
 rw[hkk.out];clear hkk kk τ d;refine aj.block (aj.loop ?_);refine Mc (p:=p) (b:=p.heap.size) (d:=d) hn hd hdb HS.out HA.out (hide fun j hj=>?_) (hide (by kernel_rfl)) ?_ n 0 0 0 0 p1 _ _ _ _ _ _ _ _ _ _ _ _ _ _ _ _ _ _ _ _ _ _ _ _ _ _ _ _ _ _ _ _ _ _ _ _ _ (by omega) (by omega) (by omega) rfl HB0.out HW0.out
 ·exact⟨bG (hcl.out j hj),hcl.out j hj⟩
 intro e c X q m t1 t6 t7 d4 d2 c7 a5 a7 a9 a3 b4 b2 a8 c9 b5 a2 b3 b8 d1 b9 a6 a4 d3 d0 c5 c6 b1 d7 d8 d5 d6 b7 b6 c8 b0 c0 c4 hmn hc6 WQ hX hbl hbw;subst m;have Bz:=hide hbl;have J2:=hide hbw
 clear hbl hbw HB0 HW0;have fin:∀(w:World) (X c:Nat) t1 t6 t7 d4 d2 c7 a5 a7 a9 a3 b4 b2 a8 c9 b5 a2 b3 b8 d1 b9 a6 a4 d3 d0 c5 c6 b1 d7 d8 d5 d6 b7 b6 c8 b0 c0 c4,J4 w p.heap.size (bN (Tx.dQ d))->Bl p.heap.size p w->aj Tryz.prog Sh (G ((base 36).at ⟨#[.slice (some ⟨gd,od,none⟩) n cd,t1,.string ⟨#[]⟩,.pointer (some ⟨p.heap.size,0,none⟩),.int .i64 (X:Nat),.int .i64 (c:Nat),t6,t7,.slice (some ⟨gd,od,none⟩) n cd,.int .i64 (n:Nat),.int .i64 (n:Nat),d4,d2,c7,a5,a7,a9,a3,b4,b2,a8,c9,b5,a2,b3,b8,d1,b9,a6,a4,d3,d0,c5,c6,b1,d7,d8,d5,d6,b7,b6,c8,b0,c0,c4],[]⟩ [.code (dP [1,1,1,1,1] (Tryz.f36.body.getD .skip))]) ((base cfn).at ca (.inRegion bg (ci::aT)::ck)::cs)) w Post:=by
  intro w X c t1 t6 t7 d4 d2 c7 a5 a7 a9 a3 b4 b2 a8 c9 b5 a2 b3 b8 d1 b9 a6 a4 d3 d0 c5 c6 b1 d7 d8 d5 d6 b7 b6 c8 b0 c0 c4 hbl hbw;have Bz:=hide hbl;have J2:=hide hbw
  clear hbl hbw;have hbT:∀x∈Tx.dQ d,x<256:=Tx.QG d _;conv=>arg 3;simp only[Tryz.f36,Option.getD_some,dP]
  refine aj.bC aI (by kernel_rfl) fun τ d'=>?_;have hbl':J4 (w.re τ d') p.heap.size (bN (Tx.dQ d)):=Bz.out;have BS:=hide (Dr p.heap.size (Tx.dQ d) hbT (w.re τ d') hbl');clear hbl';go_wp2_with (go_at_call 72;refine BS.out.mono ?_;rintro _ w2 ⟨rfl,hb2⟩;replace hb2:=hide hb2)
  intro todo;refine aj.back (v:=.string (strOf (Tx.dQ d))) ho Tryz.func36 (by simp[results,Tryz.f36,go_sem]) (by simp[results,Tryz.f36]) ?_;have h2:=J2.out.trans (Bl.of_below hb2.out);exact HE.out _ ⟨h2.size,h2.block,h2.os,h2.output⟩
 have HF:=hide fin;clear fin;refine aj.seq (aj.seq ?_);by_cases h0:0<c
 ·have c1:(0:Int)<(c:Int):=by omega
  obtain⟨s,hq⟩:∃s,c+s=6:=⟨6-c,by omega⟩;have hv:X*2^s=Tx.val (Tx.kg d) (6*e) 6:=by
   have h:=Tx.val_add (Tx.kg d) (6*e) c s;rw[hq,<-hX,Tx.val_zero (a:=6*e+c) (fun i _=>Tx.vv (by rw[hd.out];omega)),Nat.add_zero]at h;exact h.symm
  have hL6:Tx.val (Tx.kg d) (6*e) 6<64:=Tx.jL (Tx.iP d) _ 6;obtain⟨V,hV⟩:∃V,V=Tx.val (Tx.kg d) (6*e) 6:=⟨_,rfl⟩;rw[<-hV]at hv hL6;have hq0:(0:Int)<=(s:Int):=by omega
  have hsub:(6:Int)-(c:Int)=(s:Int):=by omega
  have hws:IntKind.i64.wrap (s:Int)=(s:Int):=aF _ (by omega) (by omega);have hwv:IntKind.i64.wrap (V:Int)=(V:Int):=aF _ (by omega) (by omega);have hmul:(X:Int)*2^s=(V:Int):=by rw[<-hv];simp
  have v0:(0:Int)<=(V:Int):=by omega
  have v1:(V:Int)<64:=by omega
  have hav:=(HA.out.bl J2.out HS.out) V hL6;have hpl:=Tx.qI d e;have hT:Tx.pre d e++Tx.jB V=Tx.dQ d:=by
   unfold Tx.dQ;rw[hd.out,show(8*n+5)/6=e+1 by omega,Tx.nS,<-hV]
  have HT:=hide hT;clear hV hv hT hX;refine aj.aX fun kk hkk=>?_;replace hkk:=hide hkk;refine aj.bC aI (by kernel_rfl) fun τ d=>?_;go_wp2
  first|(refine Or.inl ⟨rfl,?_⟩;dsimp only;refine aj.re ?_ _ _)|refine aj.re ?_ _ _
  rw[hkk.out];clear hkk kk τ d;refine aj.yes (by first|rfl|(simp[Act.eval];done)|(simp[Act.eval];omega)) ?_;refine aj.aX fun kk hkk=>?_;replace hkk:=hide hkk;refine aj.reg (todo:= [0,1,2,3,4,5,6]) rfl ?_;refine aj.pv aI fun τ d K hK=>?_;go_simp;refine hK _ ?_;clear hK;try walk_nrm
  iterate 4 (refine aj.pv aI fun τ d K hK=>?_;go_simp;refine hK _ ?_;clear hK;try walk_nrm)
  refine aj.op (fI aI (by kernel_rfl)) rfl rfl (by decide) (fun τ d K hK=>?_);have a0:(q.re τ d).cell? ⟨0,V,none⟩=some (.int .i32 (Tx.rn V:Nat)):=hav;go_simp;refine hK _ _ ?_;clear hK a0;refine aj.re ?_ _ _;try walk_nrm
  refine aj.dM rfl rfl (by decide) rfl Tryz.func70 rfl rfl (T':=#[.pointer (some ⟨p.heap.size,0,none⟩),.int .i32 (Tx.rn V:Nat),undef,undef,undef,undef,undef,undef,undef,undef,undef,undef,undef,undef,undef,undef,undef,undef,undef,undef,undef,undef,undef,undef,undef,undef,undef,undef,undef,undef]) (by simp[Act.eval,Tryz.f70]) ?_;refine wT (o:=?o) ?ho hL6 (hide (aU _)) (by omega) Bz.out (fun mm w1 Ox R_=>?hend)
  case ho=>rfl
  case hend=>
  rw[<-wV,HT.out]at Ox;have Y2:=hide Ox;have Y1:=hide R_
  clear Ox R_;try walk_nrm
  refine aj.aR ?_;rw[hkk.out];clear hkk kk;exact HF.out w1 X c _ _ _ _ _ _ _ _ _ _ _ _ _ _ _ _ _ _ _ _ _ _ _ _ _ _ _ _ _ _ _ _ _ _ _ _ _ Y2.out (J2.out.trans Y1.out)
 ·have c1:¬(0:Int)<(c:Int):=by omega
  have hT:Tx.pre d e=Tx.dQ d:=by
   unfold Tx.dQ;rw[hd.out,show(8*n+5)/6=e by omega]
  rw[hT]at Bz;clear hT hX;refine aj.aX fun kk hkk=>?_;replace hkk:=hide hkk;refine aj.bC aI (by kernel_rfl) fun τ d=>?_;go_wp2
  first|(refine Or.inl ⟨rfl,?_⟩;dsimp only;refine aj.re ?_ _ _)|refine aj.re ?_ _ _
  rw[hkk.out];clear hkk kk τ d;refine aj.no rfl (aj.skip ?_);exact HF.out q X c _ _ _ _ _ _ _ _ _ _ _ _ _ _ _ _ _ _ _ _ _ _ _ _ _ _ _ _ _ _ _ _ _ _ _ _ _ Bz.out J2.out
end Go.Proofs.YtmfpiodlecapiaaGreatDoor
namespace Go.Conc
variable {P:Program} {main:Bool} {b:Frame} {a:Act} {k:List Item} {cs:List Frame} {w:World}
theorem rM{ops:Array Oper}{i:Nat}{rest:List Nat}{o:Oper}{f:FuncId}{x y:Operand}(ho:ops[i]? =some o)(hw:Region.wanted o (yielded ops a.tmps)=true)(hk:b.kind≠.early)(hop:o.op= .makeFunc (.func f) #[] #[x,y]):
  stepG P main (G (b.at a (.inRegion ops (i::rest)::k)) cs) w= .go (G (b.at (a.put o.dst (.func (.func f) #[] #[a.eval x,a.eval y])) (.inRegion ops rest::k)) cs) w #[]:=by
 have hr:(execOp a.eval o).run P w= .ok (.value (.func (.func f) #[] #[a.eval x,a.eval y])) w:=by
  unfold execOp;simp[hop,Instr.makeFunc]
 have he:(execOp a.eval o).events P w #[]=#[]:=by
  unfold execOp;simp[hop,Instr.makeFunc]
 have hfin:(b.at a (.inRegion ops (i::rest)::k)).finish (.func (.func f) #[] #[a.eval x,a.eval y])=b.at (a.put o.dst (.func (.func f) #[] #[a.eval x,a.eval y])) (.inRegion ops rest::k):=by rw[Frame.finish_at,ho];rfl
 have hk':(b.kind==CallKind.early)=false:=by simpa using hk
 rw[stepG_oper ho hw,<-hfin];simp[stepG.apply,hr,he,G,Frame.at,hk',GStep.after,seen_none]
end Go.Conc
namespace Go.Proofs.YtmfpiodlecapiaaGreatDoor
open Go.Conc Go.ConcN Go.RowKit Go.bB Go.Ren Go.eO Go.Deep
attribute [local go_sem↓] Go.wp_at_zero Go.wp_at_succ
theorem Ce{w:World}{T:Array Value}{g g':Nat}{s:ByteArray}{e:Int}(h2:T.getD 2 undef= .pointer (some ⟨g,0,none⟩))(h3:T.getD 3 undef= .pointer (some ⟨g',0,none⟩))(hc:w.cell? ⟨g,0,none⟩=some (.string s))(hc':w.cell? ⟨g',0,none⟩=some (.int .i64 e)):(results Tryz.f18 T).run Tryz.prog w= .ok (.tuple #[.string s,.int .i64 e]) w:=by
 have hr:Tryz.f18.results=#[.cell 2 9,.cell 3 39]:=rfl;have h2':T[2]?.getD undef= .pointer (some ⟨g,0,none⟩):=by simpa using h2
 have h3':T[3]?.getD undef= .pointer (some ⟨g',0,none⟩):=by simpa using h3
 simp only[results,hr];simp[Sem.run_bind,Result.andThen,h2',h3',asAddr];go_simp
theorem Qe{Sh:Nat->Prop}{Post:(Nat->Prop)->Goroutine->World->Prop}{p:World}{cfn:FuncId}{ca:Act}{bg:Array Oper}{ci:Nat}{aT:List Nat}{ck:List Item}{cs:List Frame}{o:Oper}(ho:bg[ci]? =some o){gd n cd:Nat}{dl:List Nat}{hdv:Value}(hd:dl.length=n)(hn:n<=100000000)(hdb:∀x∈dl,x<256)(ha:Alpha p)(hcl:∀j,j<n->p.cell? ⟨gd,0+j,none⟩=some (.int .u8 ((dl[j]?.getD 0:Nat):Int)))
  (hun:∀w1,(∀k,k<p.heap.size->w1.heap[k]? =p.heap[k]?)->Calls Tryz.prog 35 #[.slice (some ⟨gd,0,none⟩) n cd] w1 fun r w'=>r= .returned (.tuple #[hdv,.slice (some ⟨gd,0+10,none⟩) (n-10) (cd-10)])/\Below w1.heap.size w1 w')
  (hend:∀p',dZ p p'->aj Tryz.prog Sh (G ((base cfn).at (ca.put o.dst (.tuple #[.string (strOf (Tx.dQ dl)),.int .i64 0])) (.inRegion bg aT::ck)) cs) p' Post):
  aj Tryz.prog Sh (G ((base 18).at ⟨#[.slice (some ⟨gd,0,none⟩) n cd,undef,undef,undef,undef,undef,undef,undef,undef],[]⟩ [.code (Tryz.f18.body.getD .skip)]) ((base cfn).at ca (.inRegion bg (ci::aT)::ck)::cs)) p Post:=by
 have HU:=hide hun;have HE:=hide hend;have HA:=hide ha;have HC:=hide hcl;have HD:=hide hd;have HDB:=hide hdb
 clear hun hend ha hcl hd hdb;conv=>arg 3;simp only[Tryz.f18,Option.getD_some]
 refine aj.seq (aj.bC ak (by kernel_rfl) fun τ d=>?_);go_wp2;refine aj.world (fun q=>dZ p q/\q.heap.size=p.heap.size+2/\aB q p.heap.size 9 [.string ⟨#[]⟩]/\aB q (p.heap.size+1) 39 [.int .i64 0]) ⟨((dZ.refl p).re τ d |>.alloc _ |>.alloc _),?s1,?s2,?s3⟩ fun p1 hp1=>?_
 case s1=>simp;rfl
 case s2=>exact(aP (p.re τ d) _ _).alloc _
 case s3=>
  have h:=aP ((p.re τ d).alloc (.cells #[.string ⟨#[]⟩] 9)) #[.int .i64 0] 39;rw[show((p.re τ d).alloc (.cells #[.string ⟨#[]⟩] 9)).heap.size=p.heap.size+1 by simp;rfl]at h;exact h
 rw[show(p.re τ d).heap.size=p.heap.size from rfl];try rw[show((p.re τ d).alloc (.cells #[.string ⟨#[]⟩] 9)).heap.size=p.heap.size+1 by simp;rfl]
 clear τ d;refine aj.seq (aj.reg (todo:= [0,1]) rfl ?_);refine aj.ctl rfl (fun _=>rM rfl rfl (by decide) rfl) ?_;try walk_nrm
 refine aj.ctl rfl (fun _=>lT (f:=33) (caps:=#[.pointer (some ⟨p.heap.size,0,none⟩),.pointer (some ⟨p.heap.size+1,0,none⟩)]) rfl rfl (by decide) rfl rfl) ?_;try walk_nrm
 refine aj.aR ?_;try simp only[Act.eval]
 obtain⟨hg1,hs1,hr2,hr3⟩:=hp1;have vC:=hide hg1;have HR2:=hide hr2;have HR3:=hide hr3
 clear hg1 hr2 hr3;refine aj.seq (aj.bC ak (by kernel_rfl) fun τ d=>?_);have UW:=hide (HU.out (p1.re τ d) vC.out.row);go_wp2_with (go_at_call 35;refine UW.out.mono ?_;rintro _ p2 ⟨rfl,hb2⟩;replace hb2:=hide hb2)
 have hg2:dZ p1 p2:=dZ.below hb2.out;have HG2:=hide hg2;clear hg2 UW hb2 τ d;refine aj.seq ?_;refine aj.aX fun kk hkk=>?_;replace hkk:=hide hkk;refine aj.reg (todo:= [0,1,2,3]) rfl ?_;refine aj.pv ak fun τ d K hK=>?_;go_simp;refine hK _ ?_;clear hK;try walk_nrm
 refine aj.dM rfl rfl (by decide) rfl Tryz.func36 rfl rfl (T':=#[.slice (some ⟨gd,0,none⟩) n cd,undef,undef,undef,undef,undef,undef,undef,undef,undef,undef,undef,undef,undef,undef,undef,undef,undef,undef,undef,undef,undef,undef,undef,undef,undef,undef,undef,undef,undef,undef,undef,undef,undef,undef,undef,undef,undef,undef,undef,undef,undef,undef,undef,undef]) (by simp[Act.eval,Tryz.f36]) ?_;refine Md (o:=?o) ?hoo HD hn HDB (HA.out.bl (B:=p.heap.size) ⟨(vC.out.trans HG2.out).size,(vC.out.trans HG2.out).row,(vC.out.trans HG2.out).os,(vC.out.trans HG2.out).output⟩ HA.out.size) (hide fun j hj=>(vC.out.trans HG2.out).cell (HC.out j hj)) (fun p3 hg3=>?hend)
 case hoo=>rfl
 case hend=>
 have Yw:=HG2.out.trans hg3;have hr2:=HR2.out.of_block (Yw.row _ HR2.out.lt);have hr3:=HR3.out.of_block (Yw.row _ HR3.out.lt);have hg:=(vC.out.trans HG2.out).trans hg3;have HGG:=hide hg;clear hg hg3 Yw;generalize strOf (Tx.dQ dl)=st at HE⊢;try walk_nrm
 refine aj.o ak (by kernel_rfl) rfl rfl (fun τ d K hK=>?_);have a0:(p3.re τ d).cell? ⟨p.heap.size,0,none⟩=some (.string ⟨#[]⟩):=hr2.cell 0 _ rfl;have a1:(p3.re τ d).frozen? ⟨p.heap.size,0,none⟩=false:=hr2.frozen 0;go_simp;refine hK _ _ ?_;clear hK a0 a1;refine aj.re (p:=p3.setCell ⟨p.heap.size,0,none⟩ (.string st)) ?_ τ d;try walk_nrm
 have hr2':=hr2.set 0 (.string st);have vO:=hr3.other (a:=⟨p.heap.size,0,none⟩) (show p.heap.size+1≠p.heap.size by omega) (.string st);refine aj.o ak (by kernel_rfl) rfl rfl (fun τ d K hK=>?_);have a0:((p3.setCell ⟨p.heap.size,0,none⟩ (.string st)).re τ d).cell? ⟨p.heap.size+1,0,none⟩=some (.int .i64 0):=vO.cell 0 _ rfl;have a1:((p3.setCell ⟨p.heap.size,0,none⟩ (.string st)).re τ d).frozen? ⟨p.heap.size+1,0,none⟩=false:=vO.frozen 0;go_simp;refine hK _ _ ?_;clear hK a0 a1;refine aj.re (p:=(p3.setCell ⟨p.heap.size,0,none⟩ (.string st)).setCell ⟨p.heap.size+1,0,none⟩ (.int .i64 0)) ?_ τ d;try walk_nrm
 refine aj.aR ?_;rw[hkk.out];clear hkk kk τ d;have c3:=(vO.set 0 (.int .i64 0)).cell 0 _ rfl;have c2:=(hr2'.other (a:=⟨p.heap.size+1,0,none⟩) (show p.heap.size≠p.heap.size+1 by omega) (.int .i64 0)).cell 0 _ rfl;have hq:dZ p ((p3.setCell ⟨p.heap.size,0,none⟩ (.string st)).setCell ⟨p.heap.size+1,0,none⟩ (.int .i64 0)):=by
  refine⟨by have:=HGG.out.size;simpa[World.setCell]using this,fun k hk=>?_,HGG.out.os,HGG.out.output⟩;rw[<-HGG.out.row k hk];have h1:p.heap.size+1≠k:=by omega
  have h2:p.heap.size≠k:=by omega
  simp[World.setCell,Array.getElem?_modify,h1,h2]
 have Ui:=hide (HE.out _ hq);clear hr2 hr3 hr2' vO hq HE HGG;generalize (p3.setCell ⟨p.heap.size,0,none⟩ (.string st)).setCell ⟨p.heap.size+1,0,none⟩ (.int .i64 0)=q at Ui c2 c3⊢;refine aj.ctl rfl (fun _=>stepG_ret') ?_;refine aj.ctl rfl (fun _=>kP rfl Tryz.func33 rfl rfl) ?_;simp only[Tryz.f33,List.size_toArray,List.length_cons,List.length_nil,Nat.reduceAdd,Nat.reduceSub,Array.replicate_succ,Array.replicate_zero,List.push_toArray,List.append_toArray,List.nil_append,List.cons_append];refine aj.seq (aj.reg (todo:= [0,1]) rfl ?_);refine aj.ctl rfl (fun _=>jR rfl rfl rfl rfl) ?_;try walk_nrm
 refine aj.op (fI ak (by kernel_rfl)) rfl rfl (by decide) (fun τ d K hK=>?_);go_simp;refine hK _ _ ?_;clear hK;refine aj.re ?_ _ _;try walk_nrm
 refine aj.aR ?_;refine aj.seq (aj.reg (todo:= [0,1]) rfl ?_);refine aj.op (fI ak (by kernel_rfl)) rfl rfl (by decide) (fun τ d K hK=>?_);go_simp;refine hK _ _ ?_;clear hK;refine aj.re ?_ _ _;try walk_nrm
 refine aj.op (fI ak (by kernel_rfl)) rfl rfl (by decide) (fun τ d K hK=>?_);go_simp;refine hK _ _ ?_;clear hK;refine aj.re ?_ _ _;try walk_nrm
 refine aj.aR ?_;refine aj.no rfl (aj.skip (aj.finish ?_));refine aj.ctl rfl (fun _=>stepG_leave_deferred rfl rfl Tryz.func33 (v:=.tuple #[]) (results_none rfl _ _ _) (by simp[results,Tryz.f33]) rfl) ?_;refine aj.TV ho Tryz.func18 (fun τ d=>Ce (g:=p.heap.size) (g':=p.heap.size+1) (s:=st) (e:=0) rfl rfl (show(q.re τ d).cell? _=_ from c2) (show(q.re τ d).cell? _=_ from c3)) ?_;exact Ui.out
end Go.Proofs.YtmfpiodlecapiaaGreatDoor
namespace Go.Proofs.YtmfpiodlecapiaaGreatDoor
open Go.RowKit Go.Deep
def uD:List Value:=(List.range 64).map (fun i=>Value.int .i32 (Tx.rn i:Nat))
theorem O6{i:Nat}(h:i<64):uD[i]? =some (.int .i32 (Tx.rn i:Nat)):=by simp[uD,h]
theorem y9{w:World}(ha:Alpha w):(Instr.loadAt 128 (.pointer (some ⟨0,0,none⟩))).run Tryz.prog w= .ok (.agg uD.toArray) w:=by
 have h:=run_loadCells (P:=Tryz.prog) w ⟨0,0,none⟩ 64 (fun i=>Value.int .i32 (Tx.rn i:Nat)) (fun j hj=>by rw[Addr.add_lit];simpa using ha j hj);unfold Instr.loadAt loadVar;simp only[Instr.sureAddr,Sem.run_bind,Sem.run_pure,Result.andThen_ok,Tryz.isAgg128,Tryz.sizeOf128,if_true,h];rfl
theorem nD{P:Program}{w:World}{ops:Array Oper}{rest:List Oper}{o:Oper}{a:Act}{Q:Exit->Act->World->Prop}(hgd:o.guard=none)(t:TypeId)(x:Operand)
  (ho:o.op= .load t x)(v r:Value)(hv:a.eval x=v)(hr:(Instr.loadAt t v).run P w= .ok r w)(h:wpList P ops Q rest (a.put o.dst r) w):wpList P ops Q (o::rest) a w:=by
 refine wpList_plain hgd fun K hK=>?_;unfold Oper.wp execOp;simp only[ho,hv,Sem.run_bind,hr,Result.andThen_ok];exact hK _ _ h
theorem vw(w:World)(k:Nat)(hk:k<64):(Instr.index 128 (.agg uD.toArray) (.int .i64 (k:Nat))).run Tryz.prog w= .ok (.int .i32 (Tx.rn k:Nat)) w:=by
 have h:=O6 hk;have hu:=run_underlying (P:=Tryz.prog) Tryz.underlying128 w;have hs:=Tryz.sizeOf21 w;unfold Instr.index;simp only[asIntOf,Sem.run_bind,Sem.run_pure,Result.andThen_ok,hu];rw[if_pos (by omega)];simp[Sem.run_bind,hs,part,h]
theorem N8(n:Nat)(hn:n<64)(w:World)(ha:Alpha w):
  Calls Tryz.prog 85 #[.int .i32 (Tx.rn n:Nat)] w fun e w'=>e= .returned (.int .i64 n)/\w'=w:=by
 have HA:=hide (y9 ha);have HX:=hide (vw w);have HI:Hid (∀k,k<64->Tx.rn k=Tx.rn n->k=n):=fun k hk e=>Tx.XI hk hn e;generalize uD.toArray=A at HA HX;clear ha;go_enter Tryz.func85,Tryz.ntmps85;go_wp2_with (refine nD rfl 128 (.global 0) rfl _ _ rfl HA.out ?_)
 go_loopw [6] (fun x wr=>∃k:Nat,k<=n/\x= .int .i64 k/\wr=w) (fun x _=>leftOf 64 (intOf x).toNat)
 case atStart=>exact⟨0,by omega,rfl,rfl⟩
 case round=>
  obtain⟨k,hk,rfl,rfl⟩:=hrel;have hx:=HX.out k (by omega);have k1:(k:Int)<64:=by omega
  by_cases hkn:k=n
  ·subst hkn;have e1:(((Tx.rn k:Nat):Int)==((Tx.rn k:Nat):Int))=true:=by simp
   go_wp2_with fail
   go_ret;exact⟨rfl,rfl⟩
  ·have hne:(((Tx.rn k:Nat):Int)==((Tx.rn n:Nat):Int))=false:=by
    simp only[beq_eq_false_iff_ne,ne_eq];intro e;exact hkn (HI.out k (by omega) (by omega))
   go_wp2_with fail
   go_roundw
   case rel=>exact⟨k+1,by omega,by go_num,by simp⟩
   case measure=>refine aO ?_ ?_<;>simp only[intOf]<;>omega
theorem N9(r:Nat)(hr:∀n,n<64->Tx.rn n≠r)(w:World)(ha:Alpha w):
  Calls Tryz.prog 85 #[.int .i32 r] w fun e w'=>e= .panicked [{v:=JD 3,recovered:=false}]/\w'=w:=by
 have HA:=hide (y9 ha);have HX:=hide (vw w);generalize uD.toArray=A at HA HX;clear ha;have HR:=hide hr;clear hr;go_enter Tryz.func85,Tryz.ntmps85;go_wp2_with (refine nD rfl 128 (.global 0) rfl _ _ rfl HA.out ?_)
 go_loopw [6] (fun x wr=>∃k:Nat,k<=64/\x= .int .i64 k/\wr=w) (fun x _=>leftOf 64 (intOf x).toNat)
 case atStart=>exact⟨0,by omega,rfl,rfl⟩
 case round=>
  obtain⟨k,hk,rfl,rfl⟩:=hrel;by_cases hk6:k<64
  ·have hx:=HX.out k hk6;have k1:(k:Int)<64:=by omega
   have hne:(((Tx.rn k:Nat):Int)==(r:Int))=false:=by
    simp only[beq_eq_false_iff_ne,ne_eq];intro e;exact HR.out k hk6 (by omega)
   go_wp2_with fail
   go_roundw
   case rel=>exact⟨k+1,by omega,by go_num,by simp⟩
   case measure=>refine aO ?_ ?_<;>simp only[intOf]<;>omega
  ·have k1:¬(k:Int)<64:=by omega
   go_wp2_with fail
   exact⟨rfl,rfl,rfl⟩
end Go.Proofs.YtmfpiodlecapiaaGreatDoor
