import Derived.Test.YtmfpiodlecapiaaJ34
import Derived.Conc.CompanyDraw
namespace Go.Proofs.Ytmfpiodlecapiaa
open Go.RowKit Go.Deep Go.Poi
theorem getM_none{l:List (Nat×Nat)}{id:Nat}:getM l id=none↔∀x∈l,x.1≠id:=by
 simp[getM,List.find?_eq_none]
theorem getM_snoc{l:List (Nat×Nat)}{o b:Nat}(h:getM l o=none)(id:Nat):getM (l++ [(o,b)]) id=if id=o then some b else getM l id:=by
 unfold getM at*;rw[List.find?_append];by_cases e:id=o
 ·subst e;have h':l.find? (fun x=>x.1==id)=none:=by simpa using h
  simp[h']
 ·have h2:(o==id)=false:=by simpa using Ne.symm e
  cases hf:l.find? (fun x=>x.1==id)<;>simp[h2,e]
theorem nodup_sub:∀(l D:List Nat),l.Nodup->(∀x∈l,x∈D)->l.length<=D.length
 | [],D,_,_=>by simp
 |a::t,D,hn,h=>by
  obtain⟨h1,h2⟩:=List.nodup_cons.1 hn;have ha:=h a (by simp);have h3:=nodup_sub t (D.erase a) h2 (fun x hx=>by
   have hne:x≠a:=fun e=>h1 (e▸hx);exact(List.mem_erase_of_ne hne).2 (h x (by simp[hx])))
  rw[List.length_erase_of_mem ha]at h3;have:=List.length_pos_of_mem ha;simp;omega
structure LSt(w:World)(B lb mr:Nat)(D:List Nat)(S:Nat->Oj)(hd:Nat->Nat->Bool)(l:List (Nat×Nat))(A:Nat->OD):Prop where
 lis:qS w lb 91 [.map (some mr)]
 map:∃es clock,w.heap[mr]? =some (.map es clock)/\MapIs es.toList l
 nd:(l.map (·.1)).Nodup
 small:∀x∈l,x.1∈D
 non:∀id,id∈D->getM l id=none->∀k,k<(S id).T->hd id k=false
 obj:∀id ob,getM l id=some ob->HObj w B ob (S id) (A id) (hd id)
 any1:∀id ob,getM l id=some ob->∃k,k<(S id).T/\hd id k=true
 sep:∀id id' o o',id≠id'->getM l id=some o->getM l id'=some o'->∀z z',z<(S id).N->z'<(S id').N->(A id).pb z≠(A id').pb z'
theorem LSt.keep{w w':World}{B lb mr:Nat}{D:List Nat}{S:Nat->Oj}{hd:Nat->Nat->Bool}{l:List (Nat×Nat)}{A:Nat->OD}(h:LSt w B lb mr D S hd l A)(hk:CK (fun _=>False) w w')(hm:w'.heap[mr]? =w.heap[mr]?):LSt w' B lb mr D S hd l A:=
 ⟨hk _ _ _ h.lis (by simp) (by decide) id,(by rw[hm];exact h.map),h.nd,h.small,h.non,fun id ob hg=>(h.obj id ob hg).keep hk (fun _ h=>h.elim) (fun _ _ h=>h),h.any1,h.sep⟩
def upd2(hd:Nat->Nat->Bool)(o k:Nat):Nat->Nat->Bool:=fun i=>if i=o then upd (hd o) k else hd i
theorem upd2_same(hd:Nat->Nat->Bool)(o k:Nat):upd2 hd o k o=upd (hd o) k:=by simp[upd2]
theorem upd2_ne(hd:Nat->Nat->Bool){o i:Nat}(k:Nat)(h:i≠o):upd2 hd o k i=hd i:=by simp[upd2,h]
structure Stood(B mr:Nat)(w w':World):Prop where
 low:∀b,b<B->b≠mr->w'.heap[b]? =w.heap[b]?
 size:w.heap.size<=w'.heap.size
 os:w'.os=w.os
 output:w'.output=w.output
 err:∀g L,qS w g 22 L->qS w' g 22 L
theorem map_ne{w:World}{mr clock:Nat}{es:Array MapEntry}(hm:w.heap[mr]? =some (.map es clock)){b:Nat}{t:TypeId}{L:List Value}(h:qS w b t L):b≠mr:=fun e=>by
 subst e;rw[h]at hm;cases hm
theorem LSt.after{w wL w':World}{B lb mr:Nat}{D:List Nat}{S:Nat->Oj}{hd:Nat->Nat->Bool}{l l':List (Nat×Nat)}{A:Nat->OD}(h:LSt w B lb mr D S hd l A){o z q ob clock:Nat}{es:Array MapEntry}{L0:List Value}{d d':OD}(ho:o∈D)(hz:z<(S o).N)(hq:q<(S o).K z+(S o).V)
  (hck:CK (fun _=>False) w wL)(hmL:wL.heap[mr]? =some (.map es clock))(hm:MapIs es.toList l')(hl:∀id,getM l' id=if id=o then some ob else getM l id)(hnd:(l'.map (·.1)).Nodup)(hsm:∀x∈l',x.1∈D)
  (hL:qS wL (d.pb z) 36 L0)(hd':d'.pb=d.pb)(hO:HObj w' B ob (S o) d' (upd (hd o) ((S o).off z+q)))(hk:Kp (fun b=>b=d.pb z) wL w')
  (hsep:∀id oi,id≠o->getM l id=some oi->∀z1 z2,z1<(S id).N->z2<(S o).N->(A id).pb z1≠d.pb z2):LSt w' B lb mr D S (upd2 hd o ((S o).off z+q)) l' (fun i=>if i=o then d' else A i):=by
 have hmne:=map_ne hmL hL;have hlis:=hck _ _ _ h.lis (by simp) (by decide) id;refine⟨hlis.of_block (hk.block _ hlis.lt (fun e=>?_)),⟨es,clock,?_,hm⟩,hnd,hsm,fun id hid hg k hk=>?_,fun id oi hg=>?_,fun id oi hg=>?_,fun id id' oi oj hne hg hg' z1 z2 h1 h2=>?_⟩
 ·rw[e]at hlis;have:=(hlis.unique hL).1;exact absurd this (by decide)
 ·rw[hk.block _ (Array.getElem?_eq_some_iff.1 hmL).1 (Ne.symm hmne)];exact hmL
 ·rw[hl]at hg;by_cases e:id=o
  ·rw[if_pos e]at hg;cases hg
  ·rw[if_neg e]at hg;rw[upd2_ne _ _ e];exact h.non id hid hg k hk
 ·rw[hl]at hg;by_cases e:id=o
  ·subst e;rw[if_pos rfl]at hg;obtain rfl:=Option.some.inj hg;rw[upd2_same];simpa using hO
  ·rw[if_neg e]at hg;rw[upd2_ne _ _ e];simp only[if_neg e];have h1:=(h.obj id oi hg).keep hck (fun _ h=>h.elim) (fun _ _ h=>h);exact h1.keep (CK.of_kp hk) (fun b hb=>⟨_,hb▸hL⟩) (fun z1 h1=>hsep id oi e hg z1 z h1 hz)
 ·rw[hl]at hg;by_cases e:id=o
  ·subst e;refine⟨(S id).off z+q,(S id).off_lt hz hq,?_⟩;rw[upd2_same];simp[upd]
  ·rw[if_neg e]at hg;rw[upd2_ne _ _ e];exact h.any1 id oi hg
 ·rw[hl]at hg hg';by_cases e:id=o
  ·have e':id'≠o:=fun e'=>hne (e.trans e'.symm);rw[if_neg e']at hg';simp only[if_pos e,if_neg e',hd'];subst e;exact Ne.symm (hsep id' oj e' hg' z2 z1 h2 h1)
  ·rw[if_neg e]at hg;simp only[if_neg e];by_cases e':id'=o
   ·simp only[if_pos e',hd'];subst e';exact hsep id oi e hg z1 z2 h1 h2
   ·rw[if_neg e']at hg';simp only[if_neg e'];exact h.sep id id' oi oj hne hg hg' z1 z2 h1 h2
set_option maxHeartbeats 2000000 in
theorem add_LSt{w:World}{B lb mr:Nat}{D:List Nat}{S:Nat->Oj}{hd:Nat->Nat->Bool}{l:List (Nat×Nat)}{A:Nat->OD}(h:LSt w B lb mr D S hd l A){o z q gb go pcap:Nat}(ok:(S o).Ok)(hn8:D.length<=8)(ho:o∈D)(hz:z<(S o).N)(hq:q<(S o).K z+(S o).V)(hB:B<=w.heap.size)
  (hp:∀j,j<(S o).sz->w.cell? ⟨gb,go+j,none⟩=some (.int .u8 ((((S o).pc z q)[j]?.getD 0:Nat):Int))):
  Calls Try.prog 51 #[.map (some mr),headV o (S o).len (S o).sz (S o).ms (S o).V z q,.slice (some ⟨gb,go,none⟩) (S o).sz pcap] w fun e w'=>∃b,e= .returned (.bool b)/\((fun(b:Bool) w'=>b=(!hd o ((S o).off z+q))/\(∃l' A',LSt w' B lb mr D S (upd2 hd o ((S o).off z+q)) l' A')/\Stood B mr w w') b w'):=by
 obtain⟨es,clock,hmap,hm⟩:=h.map;cases hg:getM l o with
 |some ob=>
  refine Add_old mr ob o (S o).len (S o).sz (S o).ms (S o).V z q (S o).sz gb go pcap clock es l w hmap hm hg (fun w1 hb=>?_);have hO:=(h.obj o ob hg).keep (X:=fun _=>False) (CK.of_below hb) (fun _ h=>h.elim) (fun _ _ h=>h);refine(add_HObj ok hO (id:=o) (pcap:=pcap) hz hq (fun j hj=>?_)).mono ?_
  ·have:=hp j hj;rw[<-this];exact hb.cell (cellLt this)
  rintro e w' ⟨b,d',rfl,hbb,hd',hO',hk⟩;have hpr:=(hO.blocks.at_ z hz).row;have hm1:w1.heap[mr]? =some (.map es clock):=by rw[hb.block mr (Array.getElem?_eq_some_iff.1 hmap).1];exact hmap
  have hsz:=hb.size;refine⟨b,rfl,hbb,⟨l,_,h.after ho hz hq (CK.of_below hb) hm1 hm (fun id=>?_) h.nd h.small hpr hd' hO' hk (fun id oi hne hgi z1 z2 h1 h2=>h.sep id o oi ob hne hgi hg z1 z2 h1 h2)⟩,⟨fun b hb1 hb2=>?_,?_,hk.os.trans hb.os,hk.output.trans hb.output,fun g L hr=>?_⟩⟩
  ·by_cases e:id=o
   ·rw[if_pos e,e];exact hg
   ·rw[if_neg e]
  ·have hnew:=hO.new z hz;rw[hk.block b (by omega) (by omega),hb.block b (by omega)]
  ·have:=hk.size;omega
  ·have hr1:=hr.later hb;refine hr1.of_block (hk.block _ hr1.lt (fun e=>?_));rw[e]at hr1;exact absurd (hr1.unique hpr).1 (by decide)
 |none=>
  have hno:∀x∈l.map (·.1),x≠o:=fun x hx=>by
   obtain⟨y,hy,rfl⟩:=List.mem_map.1 hx;exact getM_none.1 hg y hy
  have hlen:l.length<8:=by
   have:=nodup_sub (o::l.map (·.1)) D (List.nodup_cons.2 ⟨fun hx=>hno o hx rfl,h.nd⟩) (fun x hx=>by
    rcases List.mem_cons.1 hx with rfl|hx
    ·exact ho
    ·obtain⟨y,hy,rfl⟩:=List.mem_map.1 hx;exact h.small y hy)
   simp at this;omega
  refine Add_fresh mr o (S o).len (S o).sz (S o).ms (S o).V z q (S o).sz gb go pcap clock (S o).N ok.len ok.s1 ok.s2 ok.m1 ok.m2 ok.v (hide (S o).N_eq.symm) ok.N2 es l w hmap hm hg hlen (fun wA wB g vB pb hb hnew hmB=>?_);have hsA:=hb.size;have hsB:=hnew.below.size;have hmr:mr<w.heap.size:=(Array.getElem?_eq_some_iff.1 hmap).1;obtain⟨d,hdp,hO⟩:=HObj.fresh ok (B:=B) (by omega) hnew;have hckL:CK (fun _=>False) wB (laidAt wB mr es clock o (wA.heap.size+1)):=CK.laid hmB;have hOL:=hO.keep hckL (fun _ h=>h.elim) (fun _ _ h=>h);have hckAll:CK (fun _=>False) w (laidAt wB mr es clock o (wA.heap.size+1)):=((CK.of_below hb).trans (CK.of_below hnew.below)).trans hckL;have hmL:(laidAt wB mr es clock o (wA.heap.size+1)).heap[mr]? =some (.map (es.push ⟨.int .i64 (o:Int),.pointer (some ⟨wA.heap.size+1,0,none⟩),clock⟩) (clock+1)):=by
   simp[laidAt,show mr<wB.heap.size by omega]
  have hlow:∀b,b<w.heap.size->b≠mr->(laidAt wB mr es clock o (wA.heap.size+1)).heap[b]? =w.heap[b]? :=fun b h1 h2=>by
   have:(laidAt wB mr es clock o (wA.heap.size+1)).heap[b]? =wB.heap[b]? :=by simp[laidAt,Ne.symm h2]
   rw[this,hnew.below.block b (by omega),hb.block b h1]
  refine(add_HObj ok hOL (id:=o) (pcap:=pcap) hz hq (fun j hj=>?_)).mono ?_
  ·have hc:=hp j hj;rw[<-hc];refine World.cell?_of_block (hlow gb (cellLt hc) (fun e=>?_));subst e;simp[World.cell?,hmap]at hc
  rintro e w' ⟨b,d',rfl,hbb,hd',hO',hk⟩;have hpr:=(hOL.blocks.at_ z hz).row;have hO2:HObj w' B (wA.heap.size+1) (S o) d' (upd (hd o) ((S o).off z+q)):=⟨hO'.row,hO'.bbr,hO'.blocks,fun z' hz' n' hn'=>by
   rw[hO'.heard z' hz' n' hn'];unfold upd;split
   ·rfl
   ·exact(h.non o ho hg _ ((S o).off_lt hz' hn')).symm,hO'.inj,hO'.new⟩
  have hpbz:=(hnew.row z hz).1;rw[<-hdp]at hpbz;have hsL:(laidAt wB mr es clock o (wA.heap.size+1)).heap.size=wB.heap.size:=by simp[laidAt]
  refine⟨b,rfl,hbb.trans (by rw[h.non o ho hg _ ((S o).off_lt hz hq)]),⟨l++ [(o,wA.heap.size+1)],_,h.after ho hz hq hckAll hmL (mapIs_push hm _ _ _) (getM_snoc hg) ?_ ?_ hpr hd' hO2 hk (fun id oi hne hgi z1 z2 h1 h2=>?_)⟩,⟨fun b hb1 hb2=>?_,?_,?_,?_,fun g L hr=>?_⟩⟩
  ·rw[List.map_append];refine List.nodup_append.2 ⟨h.nd,by simp,fun a ha b hb=>?_⟩;simp at hb;subst hb;exact hno a ha
  ·intro x hx;rcases List.mem_append.1 hx with hx|hx
   ·exact h.small x hx
   ·simp at hx;subst hx;exact ho
  ·have hr1:=((h.obj id oi hgi).blocks.at_ z1 h1).row.lt;have hr2:=(hnew.row z2 h2).1;rw[hdp];omega
  ·rw[hk.block b (by omega) (by omega)];exact hlow b (by omega) hb2
  ·have:=hk.size;omega
  ·rw[hk.os];exact hnew.below.os.trans hb.os
  ·rw[hk.output];exact hnew.below.output.trans hb.output
  ·have hr1:qS (laidAt wB mr es clock o (wA.heap.size+1)) g _ L:=hr.of_block (hlow g hr.lt (map_ne hmap hr));refine hr1.of_block (hk.block _ hr1.lt (fun e=>?_));have:=hr.lt;omega
attribute [local go_sem↓] Go.wp_at_zero Go.wp_at_succ
set_option linter.unusedSimpArgs false in
set_option maxRecDepth 100000 in
set_option maxHeartbeats 4000000 in
theorem hear_loop{R:Bool->World->Prop}{Kn Kr:Act->World->Prop}(lb mr pk pcap gb go n cap eb:Nat)(hd:Value)(w:World){j2 j3 j6 j7 j9 j10 j11 j12 j13 j14 j15 j16 j17 j18 j19 j20 j21 j22 j23 j24 j25 j26 j27 v8:Value}
  (hpk:w.cell? ⟨pk,0,none⟩=some (.slice (some ⟨gb,go,none⟩) n cap))(hlb:w.cell? ⟨lb,0,none⟩=some (.map (some mr)))
  (hun:∀w1,w1.heap=w.heap->w1.os=w.os->w1.output=w.output->Calls Try.prog 52 #[.slice (some ⟨gb,go,none⟩) n cap] w1 fun r w'=>r= .returned (.tuple #[hd,.slice (some ⟨gb,go+10,none⟩) (n-10) (cap-10)])/\Below w1.heap.size w1 w')
  (hadd:∀w1,Below w.heap.size w w1->Calls Try.prog 51 #[.map (some mr),hd,.slice (some ⟨gb,go+10,none⟩) (n-10) (cap-10)] w1 fun e w'=>∃b,e= .returned (.bool b)/\R b w')
  (hRl:∀b w',R b w'->w'.cell? ⟨lb,0,none⟩=some (.map (some mr)))
  (hQ:∀b w' h7 h9 h10 h11 h12 h13 h14 h15 h16 h17 h18 h19 h20 h21 h22 h23 h24 h25 h26 h27,R b w'->Kn ⟨#[.pointer (some ⟨lb,0,none⟩),.slice (some ⟨pk,0,none⟩) 1 pcap,j2,j3,.int .i64 (if b then 1 else 0),.pointer (some ⟨eb,0,none⟩),j6,h7,v8,h9,h10,h11,h12,h13,h14,h15,h16,h17,h18,h19,h20,h21,h22,h23,h24,h25,h26,h27],[]⟩ w'):
  (pth [1,1,0] (Try.f28.body.getD .skip)).wp Try.prog (noPanB Kn Kr) ⟨#[.pointer (some ⟨lb,0,none⟩),.slice (some ⟨pk,0,none⟩) 1 pcap,j2,j3,.int .i64 0,.pointer (some ⟨eb,0,none⟩),j6,j7,v8,j9,j10,j11,j12,j13,j14,j15,j16,j17,j18,j19,j20,j21,j22,j23,j24,j25,j26,j27],[]⟩ w:=by
 have HQ:=hide hQ;have HU:=hide hun;have HA:=hide hadd;have hAfA:=hide hRl
 clear hQ hun hadd hRl;simp only[Try.f28,Option.getD_some,pth];go_wp2;go_loopw [4,11] (fun v x wr=>(v= .int .i64 0/\x= .int .i64 0/\wr=w)\/∃b:Bool,v= .int .i64 (if b then 1 else 0)/\x= .int .i64 1/\R b wr) (fun _ x _=>leftOf 1 (intOf x).toNat)
 case atStart=>exact .inl ⟨rfl,rfl,rfl⟩
 case round=>
  rcases hrel with⟨rfl,rfl,rfl⟩|⟨b,rfl,rfl,hR⟩
  ·have hlbl:lb<wr.heap.size:=cellLt hlb;have hS:wr.drew.cell? ⟨lb,0,none⟩=some (.map (some mr)):=hlb;have hUn:=hide (HU.out wr.drew rfl rfl rfl);have hAfU:Hid (∀w5:World,Below wr.heap.size wr.drew w5->w5.cell? ⟨lb,0,none⟩=some (.map (some mr))):=fun w5 h5=>by rw[h5.cell (show lb<wr.heap.size from hlbl)];exact hlb
   have hAd:Hid (∀w5:World,Below wr.heap.size wr.drew w5->Calls Try.prog 51 #[.map (some mr),hd,.slice (some ⟨gb,go+10,none⟩) (n-10) (cap-10)] w5 fun e w'=>∃b,e= .returned (.bool b)/\R b w'):=fun w5 h5=>HA.out w5 ⟨h5.os,h5.tape,h5.output,h5.size,h5.block⟩;go_wp2;refine wp_region_held_drew (S:=fun w'=>w'.cell? ⟨lb,0,none⟩=some (.map (some mr))) (by kernel_rfl) hS (fun hS0=>?_);refine wpAnyH_take (i:=0) (v:=?v1) rfl (by kernel_rfl) (by kernel_rfl) (by kernel_rfl) (fun _ _ _ h=>h) (Or.inl ⟨by rfl,?hy1⟩) (by assumption) ?rest1
   case hy1=>(intro wz hSw;go_simp;try (with_reducible rfl))
   try simp only[Act.put,List.getElem_toArray,List.getElem_cons_zero,List.getElem_cons_succ,List.setIfInBounds_toArray,List.set_cons_zero,List.set_cons_succ]
   refine wpAnyH_take (i:=1) (v:=?v2) rfl (by kernel_rfl) (by kernel_rfl) (by kernel_rfl) (fun _ _ _ h=>h) (Or.inl ⟨by rfl,?hy2⟩) (by assumption) ?rest2
   case hy2=>(intro wz hSw;go_simp;try (with_reducible rfl))
   try simp only[Act.put,List.getElem_toArray,List.getElem_cons_zero,List.getElem_cons_succ,List.setIfInBounds_toArray,List.set_cons_zero,List.set_cons_succ]
   refine wpAnyH_take (i:=2) (v:=?v3) rfl (by kernel_rfl) (by kernel_rfl) (by kernel_rfl) (fun _ _ _ h=>h) (Or.inl ⟨by rfl,?hy3⟩) (by assumption) ?rest3
   case hy3=>(intro wz hSw;go_simp;try (with_reducible rfl))
   try simp only[Act.put,List.getElem_toArray,List.getElem_cons_zero,List.getElem_cons_succ,List.setIfInBounds_toArray,List.set_cons_zero,List.set_cons_succ]
   refine wpAnyH_take (i:=3) (v:=?v4) rfl (by kernel_rfl) (by kernel_rfl) (by kernel_rfl) (fun _ _ _ h=>h) (Or.inl ⟨by rfl,?hy4⟩) (by assumption) ?rest4
   case hy4=>(intro wz hSw;have hcz:=hSw;go_simp;try (with_reducible rfl))
   try simp only[Act.put,List.getElem_toArray,List.getElem_cons_zero,List.getElem_cons_succ,List.setIfInBounds_toArray,List.set_cons_zero,List.set_cons_succ]
   refine wpAnyH_take (i:=4) (v:=?v5) rfl (by kernel_rfl) (by kernel_rfl) (by kernel_rfl) (fun _ _ _ h=>h) (Or.inl ⟨by rfl,?hy5⟩) (by assumption) ?rest5
   case hy5=>(intro wz hSw;go_simp;try (with_reducible rfl))
   try simp only[Act.put,List.getElem_toArray,List.getElem_cons_zero,List.getElem_cons_succ,List.setIfInBounds_toArray,List.set_cons_zero,List.set_cons_succ]
   refine wpAnyH_ready (rs:= [5]) (by kernel_rfl) (by simp) ?_;refine AllReadyH.cons rfl (fun K hK=>?_) ?_
   ·go_simp;go_at_call 52
    refine(hUn.out).mono ?_;rintro _ w5 ⟨rfl,hb5⟩;have hS5:=hAfU.out w5 hb5;replace hb5:=hide hb5
    go_wp2_with fail
    refine hK.out _ _ hS5 (fun hS1=>?_);clear hK K;try simp only[Act.put,List.getElem_toArray,List.getElem_cons_zero,List.getElem_cons_succ,List.setIfInBounds_toArray,List.set_cons_zero,List.set_cons_succ]
    refine wpAnyH_take (i:=6) (v:=?v6) rfl (by kernel_rfl) (by kernel_rfl) (by kernel_rfl) (fun _ _ _ h=>h) (Or.inl ⟨by rfl,?hy6⟩) (by assumption) ?rest6
    case hy6=>(intro wz hSw;go_simp;try (with_reducible rfl))
    try simp only[Act.put,List.getElem_toArray,List.getElem_cons_zero,List.getElem_cons_succ,List.setIfInBounds_toArray,List.set_cons_zero,List.set_cons_succ]
    refine wpAnyH_take (i:=7) (v:=?v7) rfl (by kernel_rfl) (by kernel_rfl) (by kernel_rfl) (fun _ _ _ h=>h) (Or.inl ⟨by rfl,?hy7⟩) (by assumption) ?rest7
    case hy7=>(intro wz hSw;go_simp;try (with_reducible rfl))
    try simp only[Act.put,List.getElem_toArray,List.getElem_cons_zero,List.getElem_cons_succ,List.setIfInBounds_toArray,List.set_cons_zero,List.set_cons_succ]
    refine wpAnyH_ready (rs:= [8]) (by kernel_rfl) (by simp) ?_;refine AllReadyH.cons rfl (fun K hK=>?_) ?_
    ·go_simp;go_at_call 51
     refine(hAd.out w5 hb5.out).mono ?_;rintro _ w6 ⟨b,rfl,hR⟩;have hS6:=hAfA.out b w6 hR;replace hR:=hide hR
     go_wp2_with fail
     refine hK.out _ _ hS6 (fun hS2=>?_);clear hK K;try simp only[Act.put,List.getElem_toArray,List.getElem_cons_zero,List.getElem_cons_succ,List.setIfInBounds_toArray,List.set_cons_zero,List.set_cons_succ]
     refine wpAnyH_done (by kernel_rfl) ?_ _;cases b
     ·go_wp2;go_roundw
      case rel=>exact .inr ⟨false,by rfl,by go_num,hR.out⟩
      case measure=>refine qD ?_ ?_<;>simp only[intOf]<;>omega
     ·go_wp2;go_roundw
      case rel=>exact .inr ⟨true,by rfl,by go_num,hR.out⟩
      case measure=>refine qD ?_ ?_<;>simp only[intOf]<;>omega
    exact AllReadyH.nil
   exact AllReadyH.nil
  ·replace hR:=hide hR;cases b
   ·go_wp2;exact HQ.out false wr _ _ _ _ _ _ _ _ _ _ _ _ _ _ _ _ _ _ _ _ hR.out
   ·go_wp2;exact HQ.out true wr _ _ _ _ _ _ _ _ _ _ _ _ _ _ _ _ _ _ _ _ hR.out
end Go.Proofs.Ytmfpiodlecapiaa
namespace Go.Poi
open Go.Ren Go.Frag Go.Conc
variable {P:Program} {Sh:Nat->Prop} {Post:(Nat->Prop)->Goroutine->World->Prop} {b:Frame} {a:Act} {k:List Item} {cs:List Frame} {p:World} {ops:Array Oper}
def NextB(P:Program)(b:Frame)(ops:Array Oper)(k:List Item)(cs:List Frame)(Post:(Nat->Prop)->Goroutine->World->Prop)(Inv:Nat->Array Bool->Act->(Nat->Prop)->World->Prop):Prop:=
 ∀(n:Nat) (listed:Array Bool) (a:Act) (Sh:Nat->Prop) (p:World),Inv n listed a Sh p->
  ((n=0\/Region.ready .any ops listed= [])->qR P Sh (G (b.at a (.inRegion ops []::k)) cs) p Post)/\
  ∀m,n=m+1->∀i∈Region.ready .any ops listed,∀rest,(∀a' Sh' p',Inv m (listed.setIfInBounds i true) a' Sh' p'->qR P Sh' (G (b.at a' (.inRegion ops rest::k)) cs) p' Post)->qR P Sh (G (b.at a (.inRegion ops (i::rest)::k)) cs) p Post
theorem draw_sound{Inv:Nat->Array Bool->Act->(Nat->Prop)->World->Prop}(hN:NextB P b ops k cs Post Inv):∀(fuel t:Nat) (listed:Array Bool) (a:Act) (Sh:Nat->Prop) (p:World),Inv fuel listed a Sh p->qR P Sh (G (b.at a (.inRegion ops (Region.linearise.go .any ops fuel t listed [])::k)) cs) p Post
 |0,t,listed,a,Sh,p,h=>by
  simp only[Region.linearise.go,List.reverse_nil];exact(hN 0 listed a Sh p h).1 (.inl rfl)
 |fuel+1,t,listed,a,Sh,p,h=>by
  simp only[Region.linearise.go];change qR P Sh (G (b.at a (.inRegion ops (match(Region.ready .any ops listed)[t%(Region.ready .any ops listed).length]? with
   |some i=>Region.linearise.go .any ops fuel (t/(Region.ready .any ops listed).length) (listed.setIfInBounds i true) [i]
   |none=> [].reverse)::k)) cs) p Post
  cases hi:(Region.ready .any ops listed)[t%(Region.ready .any ops listed).length]? with
  |none=>
   have hnil:Region.ready .any ops listed= []:=by
    cases hr:Region.ready .any ops listed with
    |nil=>rfl
    |cons x xs=>
     rw[hr]at hi;have hlt:t%(x::xs).length<(x::xs).length:=Nat.mod_lt _ (by simp);simp at hi;simp at hlt;omega
   exact(hN _ listed a Sh p h).1 (.inr hnil)
  |some i=>
   simp only[];rw[linearise_go_acc,List.reverse_singleton,List.singleton_append];exact(hN _ listed a Sh p h).2 fuel rfl i (List.mem_of_getElem? hi) _ fun a' Sh' p' h'=>draw_sound hN fuel _ _ a' Sh' p' h'
theorem qR.draw{id:Nat}(hm:P.follows .mixedOrders=true){Inv:Nat->Array Bool->Act->(Nat->Prop)->World->Prop}(h0:Inv ops.size (Array.replicate ops.size false) a Sh p)(hN:NextB P b ops k cs Post Inv):qR P Sh (G (b.at a (.code (.region id ops true)::k)) cs) p Post:=by
 refine .step rfl fun u hps=>⟨_,p,_,#[],stepG_region_draw,⟨hps.size,hps.same,hps.rows,hps.views,rfl,rfl,hps.os,hps.output⟩,Nat.le_refl _,fun e he=>by simp at he,?_⟩;simp only[Region.schedule,hm,Bool.true_or,if_true];exact draw_sound hN ops.size _ _ a Sh p h0
end Go.Poi
