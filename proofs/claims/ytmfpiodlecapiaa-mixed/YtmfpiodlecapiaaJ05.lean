import Derived.Test.YtmfpiodlecapiaaJ04
import Derived.BigRegion
import Derived.Deep.RegionHeld3
namespace Go.Proofs.Ytmfpiodlecapiaa
open Go.RowKit Go.Deep
theorem unless_ok(e:Int)(w:World):Calls Try.prog 68 #[.bool true,.int .i64 e] w fun r w'=>r= .returned (.tuple #[])/\w'=w:=by
 go_enter Try.func68,Try.ntmps68;go_wp2;go_end0;exact⟨rfl,rfl⟩
theorem need_ok(w:World):Calls Try.prog 71 #[.bool true] w fun r w'=>r= .returned (.tuple #[])/\w'=w:=by
 go_enter Try.func71,Try.ntmps71;go_wp2_with (go_at_call 68;refine(unless_ok _ _).mono ?_;rintro _ _ ⟨rfl,rfl⟩)
 go_end0;exact⟨rfl,rfl⟩
theorem i64_or(a b:Nat)(ha:a<4294967296)(hb:b<4294967296):bits .or .i64 (a:Int) (b:Int)=((a ||| b:Nat):Int):=by
 have hx:a ||| b<2^32:=Nat.or_lt_two_pow (by omega) (by omega);show IntKind.i64.wrap ((BitVec.ofInt 64 (a:Int) ||| BitVec.ofInt 64 (b:Int)).toNat:Int)=_;rw[BitVec.toNat_or,ofInt_u64 a (by omega),ofInt_u64 b (by omega),qB _ (by omega) (by omega)]
theorem or_low(a:Nat){b k:Nat}(hb:b<2^k):a*2^k ||| b=a*2^k+b:=by
 have:=Nat.two_pow_add_eq_or_of_lt (i:=k) (b:=b) hb a;rw[Nat.mul_comm (2^k) a]at this;exact this.symm
theorem pair_walk(a b:Nat)(ha:a<256)(hb:b<256)(w:World):Calls Try.prog 91 #[.int .u8 a,.int .u8 b] w fun r w'=>r= .returned (.int .i64 ((256*a+b:Nat):Int))/\w'=w:=by
 have hor:bits .or .i64 ((a:Int)*256) (b:Int)=((256*a+b:Nat):Int):=by
  have h1:=i64_or (a*256) b (by omega) (by omega);rw[or_low a (k:=8) hb]at h1;rw[show((a*256:Nat):Int)=(a:Int)*256 by omega]at h1;rw[h1];omega
 go_enter Try.func91,Try.ntmps91;go_wp2;go_ret;exact⟨rfl,rfl⟩
def headV(id len s m p z q:Nat):Value:=.agg #[.int .i64 id,.int .i64 len,.int .i64 s,.int .i64 m,.int .i64 p,.int .i64 z,.int .i64 q]
set_option linter.unusedSimpArgs false in
set_option maxRecDepth 1000000 in
set_option maxHeartbeats 1000000 in
theorem readHead_walk(b off n cap c1 c2 c3 c4 c5 c6 c7 c8 c9:Nat)(hn:10<n)(h1:c1<256)(h2:c2<256)(h3:c3<256)(h4:c4<256)(h5:c5<256)(h6:c6<256)(h7:c7<256)(h8:c8<256)(h9:c9<256)(w:World)
  (d1:w.cell? ⟨b,off+1,none⟩=some (.int .u8 c1))(d2:w.cell? ⟨b,off+2,none⟩=some (.int .u8 c2))(d3:w.cell? ⟨b,off+3,none⟩=some (.int .u8 c3))(d4:w.cell? ⟨b,off+4,none⟩=some (.int .u8 c4))(d5:w.cell? ⟨b,off+5,none⟩=some (.int .u8 c5))
  (d6:w.cell? ⟨b,off+6,none⟩=some (.int .u8 c6))(d7:w.cell? ⟨b,off+7,none⟩=some (.int .u8 c7))(d8:w.cell? ⟨b,off+8,none⟩=some (.int .u8 c8))(d9:w.cell? ⟨b,off+9,none⟩=some (.int .u8 c9)):
  Calls Try.prog 72 #[.slice (some ⟨b,off,none⟩) n cap] w fun r w'=>r= .returned (headV (256*c1+c2) (256*c3+c4) c5 c6 c7 c8 c9)/\Below w.heap.size w w':=by
 go_enter Try.func72,Try.ntmps72;go_wp2_with fail
 have u5:=qB (c5:Int) (by omega) (by omega);have u6:=qB (c6:Int) (by omega) (by omega);have u7:=qB (c7:Int) (by omega) (by omega);have u8:=qB (c8:Int) (by omega) (by omega);have u9:=qB (c9:Int) (by omega) (by omega);have n1:(1:Int)<(n:Int):=by omega
 have n2:(2:Int)<(n:Int):=by omega
 have n3:(3:Int)<(n:Int):=by omega
 have n4:(4:Int)<(n:Int):=by omega
 have n5:(5:Int)<(n:Int):=by omega
 have n6:(6:Int)<(n:Int):=by omega
 have n7:(7:Int)<(n:Int):=by omega
 have n8:(8:Int)<(n:Int):=by omega
 have n9:(9:Int)<(n:Int):=by omega
 refine wp_region_held_drew (S:=fun w'=>Below w.heap.size w w') (by kernel_rfl) (((Below.refl _ _).alloc (Nat.le_refl _) _).drew) (fun hS0=>?_);refine wpAnyH_take (i:=0) (v:=?v1) rfl (by kernel_rfl) (by kernel_rfl) (by kernel_rfl) (fun _ _ _ h=>h) (Or.inl ⟨by rfl,?hy1⟩) (by assumption) ?rest1
 case hy1=>(intro wz hSw;go_simp;try (with_reducible rfl))
 try simp only[Act.put,List.getElem_toArray,List.getElem_cons_zero,List.getElem_cons_succ,List.setIfInBounds_toArray,List.set_cons_zero,List.set_cons_succ]
 refine wpAnyH_take (i:=1) (v:=?v2) rfl (by kernel_rfl) (by kernel_rfl) (by kernel_rfl) (fun _ _ _ h=>h) (Or.inl ⟨by rfl,?hy2⟩) (by assumption) ?rest2
 case hy2=>(intro wz hSw;go_simp;try (with_reducible rfl))
 try simp only[Act.put,List.getElem_toArray,List.getElem_cons_zero,List.getElem_cons_succ,List.setIfInBounds_toArray,List.set_cons_zero,List.set_cons_succ]
 refine wpAnyH_take (i:=2) (v:=?v3) rfl (by kernel_rfl) (by kernel_rfl) (by kernel_rfl) (fun _ _ _ h=>h) (Or.inl ⟨by rfl,?hy3⟩) (by assumption) ?rest3
 case hy3=>(intro wz hSw;have hcz:=cell_later hSw d1;go_simp;try (with_reducible rfl))
 try simp only[Act.put,List.getElem_toArray,List.getElem_cons_zero,List.getElem_cons_succ,List.setIfInBounds_toArray,List.set_cons_zero,List.set_cons_succ]
 refine wpAnyH_take (i:=3) (v:=?v4) rfl (by kernel_rfl) (by kernel_rfl) (by kernel_rfl) (fun _ _ _ h=>h) (Or.inl ⟨by rfl,?hy4⟩) (by assumption) ?rest4
 case hy4=>(intro wz hSw;go_simp;try (with_reducible rfl))
 try simp only[Act.put,List.getElem_toArray,List.getElem_cons_zero,List.getElem_cons_succ,List.setIfInBounds_toArray,List.set_cons_zero,List.set_cons_succ]
 refine wpAnyH_take (i:=4) (v:=?v5) rfl (by kernel_rfl) (by kernel_rfl) (by kernel_rfl) (fun _ _ _ h=>h) (Or.inl ⟨by rfl,?hy5⟩) (by assumption) ?rest5
 case hy5=>(intro wz hSw;go_simp;try (with_reducible rfl))
 try simp only[Act.put,List.getElem_toArray,List.getElem_cons_zero,List.getElem_cons_succ,List.setIfInBounds_toArray,List.set_cons_zero,List.set_cons_succ]
 refine wpAnyH_take (i:=5) (v:=?v6) rfl (by kernel_rfl) (by kernel_rfl) (by kernel_rfl) (fun _ _ _ h=>h) (Or.inl ⟨by rfl,?hy6⟩) (by assumption) ?rest6
 case hy6=>(intro wz hSw;have hcz:=cell_later hSw d2;go_simp;try (with_reducible rfl))
 try simp only[Act.put,List.getElem_toArray,List.getElem_cons_zero,List.getElem_cons_succ,List.setIfInBounds_toArray,List.set_cons_zero,List.set_cons_succ]
 refine wpAnyH_take (i:=7) (v:=?v7) rfl (by kernel_rfl) (by kernel_rfl) (by kernel_rfl) (fun _ _ _ h=>h) (Or.inl ⟨by rfl,?hy7⟩) (by assumption) ?rest7
 case hy7=>(intro wz hSw;go_simp;try (with_reducible rfl))
 try simp only[Act.put,List.getElem_toArray,List.getElem_cons_zero,List.getElem_cons_succ,List.setIfInBounds_toArray,List.set_cons_zero,List.set_cons_succ]
 refine wpAnyH_take (i:=8) (v:=?v8) rfl (by kernel_rfl) (by kernel_rfl) (by kernel_rfl) (fun _ _ _ h=>h) (Or.inl ⟨by rfl,?hy8⟩) (by assumption) ?rest8
 case hy8=>(intro wz hSw;go_simp;try (with_reducible rfl))
 try simp only[Act.put,List.getElem_toArray,List.getElem_cons_zero,List.getElem_cons_succ,List.setIfInBounds_toArray,List.set_cons_zero,List.set_cons_succ]
 refine wpAnyH_take (i:=9) (v:=?v9) rfl (by kernel_rfl) (by kernel_rfl) (by kernel_rfl) (fun _ _ _ h=>h) (Or.inl ⟨by rfl,?hy9⟩) (by assumption) ?rest9
 case hy9=>(intro wz hSw;have hcz:=cell_later hSw d3;go_simp;try (with_reducible rfl))
 try simp only[Act.put,List.getElem_toArray,List.getElem_cons_zero,List.getElem_cons_succ,List.setIfInBounds_toArray,List.set_cons_zero,List.set_cons_succ]
 refine wpAnyH_take (i:=10) (v:=?v10) rfl (by kernel_rfl) (by kernel_rfl) (by kernel_rfl) (fun _ _ _ h=>h) (Or.inl ⟨by rfl,?hy10⟩) (by assumption) ?rest10
 case hy10=>(intro wz hSw;go_simp;try (with_reducible rfl))
 try simp only[Act.put,List.getElem_toArray,List.getElem_cons_zero,List.getElem_cons_succ,List.setIfInBounds_toArray,List.set_cons_zero,List.set_cons_succ]
 refine wpAnyH_take (i:=11) (v:=?v11) rfl (by kernel_rfl) (by kernel_rfl) (by kernel_rfl) (fun _ _ _ h=>h) (Or.inl ⟨by rfl,?hy11⟩) (by assumption) ?rest11
 case hy11=>(intro wz hSw;go_simp;try (with_reducible rfl))
 try simp only[Act.put,List.getElem_toArray,List.getElem_cons_zero,List.getElem_cons_succ,List.setIfInBounds_toArray,List.set_cons_zero,List.set_cons_succ]
 refine wpAnyH_take (i:=12) (v:=?v12) rfl (by kernel_rfl) (by kernel_rfl) (by kernel_rfl) (fun _ _ _ h=>h) (Or.inl ⟨by rfl,?hy12⟩) (by assumption) ?rest12
 case hy12=>(intro wz hSw;have hcz:=cell_later hSw d4;go_simp;try (with_reducible rfl))
 try simp only[Act.put,List.getElem_toArray,List.getElem_cons_zero,List.getElem_cons_succ,List.setIfInBounds_toArray,List.set_cons_zero,List.set_cons_succ]
 refine wpAnyH_take (i:=14) (v:=?v13) rfl (by kernel_rfl) (by kernel_rfl) (by kernel_rfl) (fun _ _ _ h=>h) (Or.inl ⟨by rfl,?hy13⟩) (by assumption) ?rest13
 case hy13=>(intro wz hSw;go_simp;try (with_reducible rfl))
 try simp only[Act.put,List.getElem_toArray,List.getElem_cons_zero,List.getElem_cons_succ,List.setIfInBounds_toArray,List.set_cons_zero,List.set_cons_succ]
 refine wpAnyH_take (i:=15) (v:=?v14) rfl (by kernel_rfl) (by kernel_rfl) (by kernel_rfl) (fun _ _ _ h=>h) (Or.inl ⟨by rfl,?hy14⟩) (by assumption) ?rest14
 case hy14=>(intro wz hSw;go_simp;try (with_reducible rfl))
 try simp only[Act.put,List.getElem_toArray,List.getElem_cons_zero,List.getElem_cons_succ,List.setIfInBounds_toArray,List.set_cons_zero,List.set_cons_succ]
 refine wpAnyH_take (i:=16) (v:=?v15) rfl (by kernel_rfl) (by kernel_rfl) (by kernel_rfl) (fun _ _ _ h=>h) (Or.inl ⟨by rfl,?hy15⟩) (by assumption) ?rest15
 case hy15=>(intro wz hSw;have hcz:=cell_later hSw d5;go_simp;try (with_reducible rfl))
 try simp only[Act.put,List.getElem_toArray,List.getElem_cons_zero,List.getElem_cons_succ,List.setIfInBounds_toArray,List.set_cons_zero,List.set_cons_succ]
 refine wpAnyH_take (i:=17) (v:=?v16) rfl (by kernel_rfl) (by kernel_rfl) (by kernel_rfl) (fun _ _ _ h=>h) (Or.inl ⟨by rfl,?hy16⟩) (by assumption) ?rest16
 case hy16=>(intro wz hSw;go_simp;try (with_reducible rfl))
 try simp only[Act.put,List.getElem_toArray,List.getElem_cons_zero,List.getElem_cons_succ,List.setIfInBounds_toArray,List.set_cons_zero,List.set_cons_succ]
 refine wpAnyH_take (i:=18) (v:=?v17) rfl (by kernel_rfl) (by kernel_rfl) (by kernel_rfl) (fun _ _ _ h=>h) (Or.inl ⟨by rfl,?hy17⟩) (by assumption) ?rest17
 case hy17=>(intro wz hSw;go_simp;try (with_reducible rfl))
 try simp only[Act.put,List.getElem_toArray,List.getElem_cons_zero,List.getElem_cons_succ,List.setIfInBounds_toArray,List.set_cons_zero,List.set_cons_succ]
 refine wpAnyH_take (i:=19) (v:=?v18) rfl (by kernel_rfl) (by kernel_rfl) (by kernel_rfl) (fun _ _ _ h=>h) (Or.inl ⟨by rfl,?hy18⟩) (by assumption) ?rest18
 case hy18=>(intro wz hSw;go_simp;try (with_reducible rfl))
 try simp only[Act.put,List.getElem_toArray,List.getElem_cons_zero,List.getElem_cons_succ,List.setIfInBounds_toArray,List.set_cons_zero,List.set_cons_succ]
 refine wpAnyH_take (i:=20) (v:=?v19) rfl (by kernel_rfl) (by kernel_rfl) (by kernel_rfl) (fun _ _ _ h=>h) (Or.inl ⟨by rfl,?hy19⟩) (by assumption) ?rest19
 case hy19=>(intro wz hSw;have hcz:=cell_later hSw d6;go_simp;try (with_reducible rfl))
 try simp only[Act.put,List.getElem_toArray,List.getElem_cons_zero,List.getElem_cons_succ,List.setIfInBounds_toArray,List.set_cons_zero,List.set_cons_succ]
 refine wpAnyH_take (i:=21) (v:=?v20) rfl (by kernel_rfl) (by kernel_rfl) (by kernel_rfl) (fun _ _ _ h=>h) (Or.inl ⟨by rfl,?hy20⟩) (by assumption) ?rest20
 case hy20=>(intro wz hSw;go_simp;try (with_reducible rfl))
 try simp only[Act.put,List.getElem_toArray,List.getElem_cons_zero,List.getElem_cons_succ,List.setIfInBounds_toArray,List.set_cons_zero,List.set_cons_succ]
 refine wpAnyH_take (i:=22) (v:=?v21) rfl (by kernel_rfl) (by kernel_rfl) (by kernel_rfl) (fun _ _ _ h=>h) (Or.inl ⟨by rfl,?hy21⟩) (by assumption) ?rest21
 case hy21=>(intro wz hSw;go_simp;try (with_reducible rfl))
 try simp only[Act.put,List.getElem_toArray,List.getElem_cons_zero,List.getElem_cons_succ,List.setIfInBounds_toArray,List.set_cons_zero,List.set_cons_succ]
 refine wpAnyH_take (i:=23) (v:=?v22) rfl (by kernel_rfl) (by kernel_rfl) (by kernel_rfl) (fun _ _ _ h=>h) (Or.inl ⟨by rfl,?hy22⟩) (by assumption) ?rest22
 case hy22=>(intro wz hSw;go_simp;try (with_reducible rfl))
 try simp only[Act.put,List.getElem_toArray,List.getElem_cons_zero,List.getElem_cons_succ,List.setIfInBounds_toArray,List.set_cons_zero,List.set_cons_succ]
 refine wpAnyH_take (i:=24) (v:=?v23) rfl (by kernel_rfl) (by kernel_rfl) (by kernel_rfl) (fun _ _ _ h=>h) (Or.inl ⟨by rfl,?hy23⟩) (by assumption) ?rest23
 case hy23=>(intro wz hSw;have hcz:=cell_later hSw d7;go_simp;try (with_reducible rfl))
 try simp only[Act.put,List.getElem_toArray,List.getElem_cons_zero,List.getElem_cons_succ,List.setIfInBounds_toArray,List.set_cons_zero,List.set_cons_succ]
 refine wpAnyH_take (i:=25) (v:=?v24) rfl (by kernel_rfl) (by kernel_rfl) (by kernel_rfl) (fun _ _ _ h=>h) (Or.inl ⟨by rfl,?hy24⟩) (by assumption) ?rest24
 case hy24=>(intro wz hSw;go_simp;try (with_reducible rfl))
 try simp only[Act.put,List.getElem_toArray,List.getElem_cons_zero,List.getElem_cons_succ,List.setIfInBounds_toArray,List.set_cons_zero,List.set_cons_succ]
 refine wpAnyH_take (i:=26) (v:=?v25) rfl (by kernel_rfl) (by kernel_rfl) (by kernel_rfl) (fun _ _ _ h=>h) (Or.inl ⟨by rfl,?hy25⟩) (by assumption) ?rest25
 case hy25=>(intro wz hSw;go_simp;try (with_reducible rfl))
 try simp only[Act.put,List.getElem_toArray,List.getElem_cons_zero,List.getElem_cons_succ,List.setIfInBounds_toArray,List.set_cons_zero,List.set_cons_succ]
 refine wpAnyH_take (i:=27) (v:=?v26) rfl (by kernel_rfl) (by kernel_rfl) (by kernel_rfl) (fun _ _ _ h=>h) (Or.inl ⟨by rfl,?hy26⟩) (by assumption) ?rest26
 case hy26=>(intro wz hSw;go_simp;try (with_reducible rfl))
 try simp only[Act.put,List.getElem_toArray,List.getElem_cons_zero,List.getElem_cons_succ,List.setIfInBounds_toArray,List.set_cons_zero,List.set_cons_succ]
 refine wpAnyH_take (i:=28) (v:=?v27) rfl (by kernel_rfl) (by kernel_rfl) (by kernel_rfl) (fun _ _ _ h=>h) (Or.inl ⟨by rfl,?hy27⟩) (by assumption) ?rest27
 case hy27=>(intro wz hSw;go_simp;try (with_reducible rfl))
 try simp only[Act.put,List.getElem_toArray,List.getElem_cons_zero,List.getElem_cons_succ,List.setIfInBounds_toArray,List.set_cons_zero,List.set_cons_succ]
 refine wpAnyH_take (i:=29) (v:=?v28) rfl (by kernel_rfl) (by kernel_rfl) (by kernel_rfl) (fun _ _ _ h=>h) (Or.inl ⟨by rfl,?hy28⟩) (by assumption) ?rest28
 case hy28=>(intro wz hSw;have hcz:=cell_later hSw d8;go_simp;try (with_reducible rfl))
 try simp only[Act.put,List.getElem_toArray,List.getElem_cons_zero,List.getElem_cons_succ,List.setIfInBounds_toArray,List.set_cons_zero,List.set_cons_succ]
 refine wpAnyH_take (i:=30) (v:=?v29) rfl (by kernel_rfl) (by kernel_rfl) (by kernel_rfl) (fun _ _ _ h=>h) (Or.inl ⟨by rfl,?hy29⟩) (by assumption) ?rest29
 case hy29=>(intro wz hSw;go_simp;try (with_reducible rfl))
 try simp only[Act.put,List.getElem_toArray,List.getElem_cons_zero,List.getElem_cons_succ,List.setIfInBounds_toArray,List.set_cons_zero,List.set_cons_succ]
 refine wpAnyH_take (i:=31) (v:=?v30) rfl (by kernel_rfl) (by kernel_rfl) (by kernel_rfl) (fun _ _ _ h=>h) (Or.inl ⟨by rfl,?hy30⟩) (by assumption) ?rest30
 case hy30=>(intro wz hSw;go_simp;try (with_reducible rfl))
 try simp only[Act.put,List.getElem_toArray,List.getElem_cons_zero,List.getElem_cons_succ,List.setIfInBounds_toArray,List.set_cons_zero,List.set_cons_succ]
 refine wpAnyH_take (i:=32) (v:=?v31) rfl (by kernel_rfl) (by kernel_rfl) (by kernel_rfl) (fun _ _ _ h=>h) (Or.inl ⟨by rfl,?hy31⟩) (by assumption) ?rest31
 case hy31=>(intro wz hSw;go_simp;try (with_reducible rfl))
 try simp only[Act.put,List.getElem_toArray,List.getElem_cons_zero,List.getElem_cons_succ,List.setIfInBounds_toArray,List.set_cons_zero,List.set_cons_succ]
 refine wpAnyH_take (i:=33) (v:=?v32) rfl (by kernel_rfl) (by kernel_rfl) (by kernel_rfl) (fun _ _ _ h=>h) (Or.inl ⟨by rfl,?hy32⟩) (by assumption) ?rest32
 case hy32=>(intro wz hSw;have hcz:=cell_later hSw d9;go_simp;try (with_reducible rfl))
 try simp only[Act.put,List.getElem_toArray,List.getElem_cons_zero,List.getElem_cons_succ,List.setIfInBounds_toArray,List.set_cons_zero,List.set_cons_succ]
 refine wpAnyH_take (i:=34) (v:=?v33) rfl (by kernel_rfl) (by kernel_rfl) (by kernel_rfl) (fun _ _ _ h=>h) (Or.inl ⟨by rfl,?hy33⟩) (by assumption) ?rest33
 case hy33=>(intro wz hSw;go_simp;try (with_reducible rfl))
 try simp only[Act.put,List.getElem_toArray,List.getElem_cons_zero,List.getElem_cons_succ,List.setIfInBounds_toArray,List.set_cons_zero,List.set_cons_succ]
 refine wpAnyH_ready (rs:= [6]) (by kernel_rfl) (by simp) ?_;refine AllReadyH.cons rfl (fun K hK=>?_) ?_
 ·go_simp;go_at_call 91
  refine(pair_walk _ _ (by omega) (by omega) _).mono ?_;rintro _ _ ⟨rfl,rfl⟩;go_wp2_with fail
  refine hK.out _ _ hS0 (fun hS1=>?_);clear hK K;try simp only[Act.put,List.getElem_toArray,List.getElem_cons_zero,List.getElem_cons_succ,List.setIfInBounds_toArray,List.set_cons_zero,List.set_cons_succ]
  refine wpAnyH_ready (rs:= [13]) (by kernel_rfl) (by simp) ?_;refine AllReadyH.cons rfl (fun K hK=>?_) ?_
  ·go_simp;go_at_call 91
   refine(pair_walk _ _ (by omega) (by omega) _).mono ?_;rintro _ _ ⟨rfl,rfl⟩;go_wp2_with fail
   refine hK.out _ _ hS1 (fun hS2=>?_);clear hK K;try simp only[Act.put,List.getElem_toArray,List.getElem_cons_zero,List.getElem_cons_succ,List.setIfInBounds_toArray,List.set_cons_zero,List.set_cons_succ]
   refine wpAnyH_take (i:=35) (v:=?v34) rfl (by kernel_rfl) (by kernel_rfl) (by kernel_rfl) (fun _ _ _ h=>h) (Or.inl ⟨by rfl,?hy34⟩) (by assumption) ?rest34
   case hy34=>(intro wz hSw;go_simp;try (with_reducible rfl))
   try simp only[Act.put,List.getElem_toArray,List.getElem_cons_zero,List.getElem_cons_succ,List.setIfInBounds_toArray,List.set_cons_zero,List.set_cons_succ]
   refine wpAnyH_ready (rs:= [36]) (by kernel_rfl) (by simp) ?_;refine AllReadyH.cons rfl (fun K hK=>?_) ?_
   ·go_simp;refine hK.out _ _ (((Below.refl _ _).alloc (Nat.le_refl _) _).drew) (fun hS3=>?_);clear hK K;try simp only[Act.put,List.getElem_toArray,List.getElem_cons_zero,List.getElem_cons_succ,List.setIfInBounds_toArray,List.set_cons_zero,List.set_cons_succ]
    refine wpAnyH_done (by kernel_rfl) ?_ _;go_wp2;refine bodyPost_ret (v:=headV (256*c1+c2) (256*c3+c4) c5 c6 c7 c8 c9) (by simp[results,Try.results72,go_sem,headV]) rfl ⟨rfl,((Below.refl _ _).alloc (Nat.le_refl _) _).drew⟩
   exact AllReadyH.nil
  exact AllReadyH.nil
 exact AllReadyH.nil
set_option linter.unusedSimpArgs false in
set_option maxRecDepth 20000 in
set_option maxHeartbeats 2000000 in
theorem unpack_ok(b off n cap c1 c2 c3 c4 c5 c6 c7 c8 c9 L Z s:Nat)(hcap:n<=cap)(h1:c1<256)(h2:c2<256)(h3:c3<256)(h4:c4<256)(h5:c5<256)(h6:c6<256)(h7:c7<256)(h8:c8<256)(h9:c9<256)(w:World)
  (d0:w.cell? ⟨b,off,none⟩=some (.int .u8 70))(d1:w.cell? ⟨b,off+1,none⟩=some (.int .u8 c1))(d2:w.cell? ⟨b,off+2,none⟩=some (.int .u8 c2))(d3:w.cell? ⟨b,off+3,none⟩=some (.int .u8 c3))(d4:w.cell? ⟨b,off+4,none⟩=some (.int .u8 c4))(d5:w.cell? ⟨b,off+5,none⟩=some (.int .u8 c5))
  (d6:w.cell? ⟨b,off+6,none⟩=some (.int .u8 c6))(d7:w.cell? ⟨b,off+7,none⟩=some (.int .u8 c7))(d8:w.cell? ⟨b,off+8,none⟩=some (.int .u8 c8))(d9:w.cell? ⟨b,off+9,none⟩=some (.int .u8 c9))
  (hL:Hid (L=256*c3+c4))(hl:L<=2000)(p1:1<=c5)(p2:c5<=16)(p3:1<=c6)(p4:c6<=20)(p5:c7<=20)(hZ:Hid (Cut.blocks (Cut.pieces L c5) c6=Z))(hZ2:Z<=256)(hz:c8<Z)(hs:Hid ((Cut.sizes L c5 c6)[c8]? =some s))(hs2:s<=20)(hq:c9<s+c7)(hn:Hid (n=10+c5)):
  Calls Try.prog 52 #[.slice (some ⟨b,off,none⟩) n cap] w fun r w'=>r= .returned (.tuple #[headV (256*c1+c2) L c5 c6 c7 c8 c9,.slice (some ⟨b,off+10,none⟩) (n-10) (cap-10)])/\Below w.heap.size w w':=by
 have HB0:=hide (((Below.refl w.heap.size w).alloc (Nat.le_refl _) (.cells #[.int .i64 0,.int .i64 0,.int .i64 0,.int .i64 0,.int .i64 0,.int .i64 0,.int .i64 0] 83)));have k10:(10:Int)<(n:Int):=by have:=hn.out;omega
 have k0:(0:Int)<(n:Int):=by omega
 have RH:=hide (readHead_walk b off n cap c1 c2 c3 c4 c5 c6 c7 c8 c9 (by omega) h1 h2 h3 h4 h5 h6 h7 h8 h9);have CB:=hide (fun w=>(cutBlocks_walk L c5 c6 c7 hl p1 p2 p3 p4 p5 w).1 (by rw[hZ.out];exact hZ2));rw[hZ.out]at CB;have D1:=hide d1;have D2:=hide d2;have D3:=hide d3;have D4:=hide d4;have D5:=hide d5;have D6:=hide d6;have D7:=hide d7;have D8:=hide d8;have D9:=hide d9
 replace d0:=cell_later HB0.out d0;clear d1 d2 d3 d4 d5 d6 d7 d8 d9;unfold headV at RH;rw[<-hL.out]at RH;go_enter Try.func52,Try.ntmps52;go_wp2_with first|(go_at_call 71;refine(need_ok _).mono ?_;rintro _ wq ⟨rfl,hq⟩;have hq2:=hq.symm;clear hq;subst hq2)|(go_at_call 72;refine(RH.out _ (cell_later HB0.out D1.out) (cell_later HB0.out D2.out) (cell_later HB0.out D3.out) (cell_later HB0.out D4.out) (cell_later HB0.out D5.out) (cell_later HB0.out D6.out) (cell_later HB0.out D7.out) (cell_later HB0.out D8.out) (cell_later HB0.out D9.out)).mono ?_;rintro _ w1 ⟨rfl,hb1⟩;replace hb1:=hide hb1)
 go_at_call 44
 refine(CB.out _).mono ?_;rintro _ w2 ⟨g,hg,rfl,hb2,hr2⟩;have R1:=(rowL_alloc' w1 _ _).later hb2;have hB2:Hid (Below w.heap.size w w2):=by
  show Below _ _ _;have h1:=HB0.out.trans (hb1.out.mono HB0.out.size);exact(h1.alloc h1.size _).trans (hb2.mono (by simp;have:=h1.size;omega))
 have q1:=R1.cell 1 _ rfl;have q2:=R1.cell 2 _ rfl;have q3:=R1.cell 3 _ rfl;have q4:=R1.cell 4 _ rfl;have q5:=R1.cell 5 _ rfl;have q6:=R1.cell 6 _ rfl;have q0:=R1.cell 0 _ rfl;have qs:w2.cell? ⟨g,c8,none⟩=some (.int .i64 s):=hr2.cell c8 _ (by simp only[i64s,List.getElem?_map,hs.out];rfl);have e8:(c8:Int)<(Z:Int):=by omega
 have w9:=qB ((s:Int)+(c7:Int)) (by omega) (by omega);have e9:decide ((c9:Int)<(s:Int)+(c7:Int))=true:=by simp;omega
 have en:(n:Int)=10+(c5:Int):=by have:=hn.out;omega
 have R0:Hid (qS w2 w.heap.size 83 [.int .i64 0,.int .i64 0,.int .i64 0,.int .i64 0,.int .i64 0,.int .i64 0,.int .i64 0]):=by
  show qS _ _ _ _;exact(((rowL_alloc' w _ _).later hb1.out).alloc _).later hb2
 have HR1:=hide R1;clear R1 hb2 hr2 hg hb1;go_wp2_with (go_at_call 71;refine(need_ok _).mono ?_;rintro _ wq ⟨rfl,hq⟩;have hq2:=hq.symm;clear hq;subst hq2)
 go_quiet ((go_at_call 71;exact Calls.quiet_of_same (need_ok _)))
 have HR3:=HR1.out.drewN nq;have R3:=R0.out.drewN nq;have HB3:Hid (Below w.heap.size w (w2.drewN nq)):=by
  show Below _ _ _;exact⟨hB2.out.os,hB2.out.tape,hB2.out.output,hB2.out.size,hB2.out.block⟩
 generalize w2.drewN nq=w3 at HR3 R3 HB3⊢;clear q0 q1 q2 q3 q4 q5 q6 qs;have q0:=HR3.cell 0 _ rfl;have q1:=HR3.cell 1 _ rfl;have q2:=HR3.cell 2 _ rfl;have q3:=HR3.cell 3 _ rfl;have q4:=HR3.cell 4 _ rfl;have q5:=HR3.cell 5 _ rfl;have q6:=HR3.cell 6 _ rfl;have g0:=R3.cell 0 _ rfl;have g1:=R3.cell 1 _ rfl;have g2:=R3.cell 2 _ rfl;have g3:=R3.cell 3 _ rfl;have g4:=R3.cell 4 _ rfl;have g5:=R3.cell 5 _ rfl;have g6:=R3.cell 6 _ rfl;have f0:=R3.frozen 0;have f1:=R3.frozen 1;have f2:=R3.frozen 2;have f3:=R3.frozen 3;have f4:=R3.frozen 4;have f5:=R3.frozen 5;have f6:=R3.frozen 6;have HRH:=hide HR3;have HRR:=hide R3
 clear HR3 R3;go_wp2_with (go_at_call 71;refine(need_ok _).mono ?_;rintro _ wq ⟨rfl,hq⟩;have hq2:=hq.symm;clear hq;subst hq2)
 go_region
 have R4:=((((((((HRR.out.set 0 (.int .i64 (256*(c1:Int)+(c2:Int)))).set 1 (.int .i64 (L:Int))).set 2 (.int .i64 (c5:Int))).set 3 (.int .i64 (c6:Int))).set 4 (.int .i64 (c7:Int))).set 5 (.int .i64 (c8:Int))).set 6 (.int .i64 (c9:Int))).drew);have B4:Hid (Below w.heap.size w ((((((((w3.setCell ⟨w.heap.size,0,none⟩ (.int .i64 (256*(c1:Int)+(c2:Int)))).setCell ⟨w.heap.size,1,none⟩ (.int .i64 (L:Int))).setCell ⟨w.heap.size,2,none⟩ (.int .i64 (c5:Int))).setCell ⟨w.heap.size,3,none⟩ (.int .i64 (c6:Int))).setCell ⟨w.heap.size,4,none⟩ (.int .i64 (c7:Int))).setCell ⟨w.heap.size,5,none⟩ (.int .i64 (c8:Int))).setCell ⟨w.heap.size,6,none⟩ (.int .i64 (c9:Int))).drew)):=by
  show Below _ _ _;exact(((((((HB3.out.setCell (Nat.le_refl _) _).setCell (Nat.le_refl _) _).setCell (Nat.le_refl _) _).setCell (Nat.le_refl _) _).setCell (Nat.le_refl _) _).setCell (Nat.le_refl _) _).setCell (Nat.le_refl _) _).drew
 generalize (((((((w3.setCell ⟨w.heap.size,0,none⟩ _).setCell ⟨w.heap.size,1,none⟩ _).setCell ⟨w.heap.size,2,none⟩ _).setCell ⟨w.heap.size,3,none⟩ _).setCell ⟨w.heap.size,4,none⟩ _).setCell ⟨w.heap.size,5,none⟩ _).setCell ⟨w.heap.size,6,none⟩ _).drew=w4 at R4 B4⊢;clear f0 f1 f2 f3 f4 f5 f6 g0 g1 g2 g3 g4 g5 g6 q0 q1 q2 q3 q4 q5 q6;have g0:=R4.cell 0 _ rfl;have g1:=R4.cell 1 _ rfl;have g2:=R4.cell 2 _ rfl;have g3:=R4.cell 3 _ rfl;have g4:=R4.cell 4 _ rfl;have g5:=R4.cell 5 _ rfl;have g6:=R4.cell 6 _ rfl;clear R4;go_wp2;refine bodyPost_ret (v:=.tuple #[headV (256*c1+c2) L c5 c6 c7 c8 c9,.slice (some ⟨b,off+10,none⟩) (n-10) (cap-10)]) (by simp[results,Try.results52,go_sem,headV,g0,g1,g2,g3,g4,g5,g6]) rfl ⟨rfl,B4.out⟩
theorem sizes_at{L s m z:Nat}(hm:1<=m)(hz:z<Cut.blocks (Cut.pieces L s) m):∃k,(Cut.sizes L s m)[z]? =some k/\1<=k/\k<=m:=by
 have hlt:z<(Cut.sizes L s m).length:=by rw[Cut.sizes_length];exact hz
 exact⟨_,List.getElem?_eq_getElem hlt,Cut.sizes_bounds hm _ (List.getElem_mem hlt)⟩
def headOf(l:List Nat):Value:=headV (256*l[1]?.getD 0+l[2]?.getD 0) (256*l[3]?.getD 0+l[4]?.getD 0) (l[5]?.getD 0) (l[6]?.getD 0) (l[7]?.getD 0) (l[8]?.getD 0) (l[9]?.getD 0)
theorem unpack_packet(b off n cap:Nat)(l:List Nat)(w:World)(h:ObjAt w (some ⟨b,off,none⟩) n l)(hcap:n<=cap)(hp:Tx.IsPacket l):
  Calls Try.prog 52 #[.slice (some ⟨b,off,none⟩) n cap] w fun r w'=>r= .returned (.tuple #[headOf l,.slice (some ⟨b,off+10,none⟩) (n-10) (cap-10)])/\Below w.heap.size w w':=by
 obtain⟨hl,hb,hc⟩:=h;obtain⟨p0,p1,p2,p3,p4,p5,p6,p7,p8,p9⟩:=hp;obtain⟨b',off',e,hc⟩:=hc (by omega);injection e with e;injection e with e1 e2;subst e1 e2;have hc1:=hc 0 (by omega);rw[p1,Nat.add_zero]at hc1;have lt:∀i,i<n->l[i]?.getD 0<256:=fun i hi=>getD_lt hb (by omega);obtain⟨s,hs,hs1,hs2⟩:=sizes_at (by omega) p7;rw[hs]at p8;exact unpack_ok b off n cap _ _ _ _ _ _ _ _ _ _ _ s hcap (lt 1 (by omega)) (lt 2 (by omega)) (lt 3 (by omega)) (lt 4 (by omega)) (lt 5 (by omega)) (lt 6 (by omega)) (lt 7 (by omega)) (lt 8 (by omega)) (lt 9 (by omega)) w hc1 (hc 1 (by omega)) (hc 2 (by omega)) (hc 3 (by omega)) (hc 4 (by omega)) (hc 5 (by omega)) (hc 6 (by omega)) (hc 7 (by omega)) (hc 8 (by omega)) (hc 9 (by omega)) (hide rfl) p2 p3.1 p3.2 p4.1 p4.2 p5 (hide rfl) p6 p7 (hide hs) (by omega) p8 (hide (by omega))
attribute [local go_sem↓] Go.wp_at_zero Go.wp_at_succ
def addUp(R:List Nat)(o:Nat)(bs:List Nat)(t k:Nat):List Nat:=R.mapIdx fun i x=>if o<=i/\i<o+k then x ^^^ Gf.mul (bs[i-o]?.getD 0) t else x
theorem addUp_length(R:List Nat)(o:Nat)(bs:List Nat)(t k:Nat):(addUp R o bs t k).length=R.length:=by simp[addUp]
theorem addUp_zero(R:List Nat)(o:Nat)(bs:List Nat)(t:Nat):addUp R o bs t 0=R:=by
 apply List.ext_getElem?;intro i;have:¬(o<=i/\i<o+0):=by omega
 simp only[addUp,List.getElem?_mapIdx,if_neg this];simp
theorem addUp_at{R:List Nat}{o:Nat}{bs:List Nat}{t k i:Nat}(hi:i<R.length):(addUp R o bs t k)[i]?.getD 0=if o<=i/\i<o+k then(R[i]?.getD 0) ^^^ Gf.mul (bs[i-o]?.getD 0) t else R[i]?.getD 0:=by
 simp[addUp,hi]
theorem addUp_set{R:List Nat}{o:Nat}{bs:List Nat}{t k:Nat}(h:o+k<R.length):(addUp R o bs t k).set (o+k) ((R[o+k]?.getD 0) ^^^ Gf.mul (bs[k]?.getD 0) t)=addUp R o bs t (k+1):=by
 apply List.ext_getElem?;intro i;by_cases e:o+k=i
 ·subst e;have h1:o<=o+k/\o+k<o+(k+1):=by omega
  rw[List.getElem?_set_self (by rw[addUp_length];exact h)];simp only[addUp,List.getElem?_mapIdx,if_pos h1];simp[h,show o+k-o=k by omega]
 ·rw[List.getElem?_set_ne e];simp only[addUp,List.getElem?_mapIdx];have:(o<=i/\i<o+k)↔(o<=i/\i<o+(k+1)):=by omega
  simp[this]
theorem addUp_lt{R:List Nat}{o:Nat}{bs:List Nat}{t k:Nat}(hR:∀x∈R,x<256)(hb:∀x∈bs,x<256)(ht:t<256):∀x∈addUp R o bs t k,x<256:=by
 intro x hx;obtain⟨i,hi,rfl⟩:=List.mem_iff_getElem.1 hx;have hi':i<R.length:=by rw[addUp_length]at hi;exact hi
 have h1:(addUp R o bs t k)[i]=(addUp R o bs t k)[i]?.getD 0:=by simp[hi]
 have hRi:R[i]?.getD 0<256:=getD_lt hR hi';rw[h1,addUp_at hi'];split
 ·refine Gf.xor_lt hRi (Gf.mul_lt ?_ ht);rcases Nat.lt_or_ge (i-o) bs.length with h|h
  ·exact getD_lt hb h
  ·rw[List.getElem?_eq_none (by omega)];decide
 ·exact hRi
theorem u8s_set(l:List Nat)(i x:Nat):(u8s l).set i (.int .u8 (x:Int))=u8s (l.set i x):=by simp[u8s,List.map_set]
theorem addTimesAt_walk(g o n2 cap2 b off cap t n:Nat)(R bs:List Nat)(hl2:Hid (bs.length=n))(hlen:n<=65536)(hn2:n<=n2)(hon:o+n<=R.length)(hbs:∀x∈bs,x<256)(hRb:∀x∈R,x<256)(ht:t<256)(w:World)
  (hbg:b≠g)(hg:qS w g 5 (u8s R))(hc:∀j,j<n->w.cell? ⟨b,off+j,none⟩=some (.int .u8 ((bs[j]?.getD 0:Nat):Int))):
  Calls Try.prog 93 #[.slice (some ⟨g,o,none⟩) n2 cap2,.slice (some ⟨b,off,none⟩) n cap,.int .i64 t] w fun e w'=>
   e= .returned (.tuple #[])/\w.grownBy w' (some g)/\qS w' g 5 (u8s (addUp R o bs t n)):=by
 have hG0:=hide hg;have hC:=hide hc;have hRL:=hide hon
 clear hg hc hon;go_enter Try.func93,Try.ntmps93;go_wp2;go_loopw [10] (fun x wr=>∃k:Nat,k<=n/\x= .int .i64 k/\w.grownBy wr (some g)/\qS wr g 5 (u8s (addUp R o bs t k)))
  (fun x _=>leftOf n (intOf x).toNat)
 case atStart=>exact⟨0,by omega,rfl,World.grownBy.refl _ _,by rw[addUp_zero];exact hG0.out⟩
 case round=>
  obtain⟨k,hk,rfl,hgr,hr⟩:=hrel;by_cases hkl:k<n
  ·have hkR:o+k<R.length:=by have:=hRL.out;omega
   have hkb:k<bs.length:=by rw[hl2.out];exact hkl
   have hcb:wr.cell? ⟨b,off+k,none⟩=some (.int .u8 ((bs[k]?.getD 0:Nat):Int)):=hgr.cell (hC.out k hkl) (by simpa using hbg);have hcg:wr.cell? ⟨g,o+k,none⟩=some (.int .u8 ((R[o+k]?.getD 0:Nat):Int)):=by
    apply hr.cell;have:=u8s_at (l:=addUp R o bs t k) (i:=o+k) (by rw[addUp_length];exact hkR);rw[addUp_at hkR,if_neg (by omega)]at this;exact this
   have hf:=hr.frozen (o+k);have hx:=getD_lt hbs hkb;have hy:=getD_lt hRb hkR;have hS:Hid ((u8s (addUp R o bs t k)).set (o+k) (.int .u8 (((R[o+k]?.getD 0 ^^^ Gf.mul (bs[k]?.getD 0) t:Nat)):Int))=u8s (addUp R o bs t (k+1))):=by
    show _=_;rw[u8s_set,addUp_set hkR]
   have hR:=hide hr;have hG:=hide hgr
   clear hr hgr hkR hkb;revert hcb hcg hx hy hS;generalize bs[k]?.getD 0=x;generalize R[o+k]?.getD 0=y;intro hcb hcg hx hy hS;have hm:=Gf.mul_lt hx ht;have M:=hide (fun w=>mul_walk x t hx ht w);revert hm M hS;generalize Gf.mul x t=m;intro hS hm M;have hxm:=Gf.xor_lt hy hm;have hk0:(0:Int)<=(k:Int):=by omega
   have hk1:(k:Int)<(n:Int):=by omega
   have hk2:(k:Int)<(n2:Int):=by omega
   have hwx:IntKind.i64.wrap (x:Int)=(x:Int):=qB _ (by omega) (by omega);have hwy:IntKind.i64.wrap (y:Int)=(y:Int):=qB _ (by omega) (by omega);have hw8:IntKind.u8.wrap ((y ^^^ m:Nat):Int)=((y ^^^ m:Nat):Int):=wrap_u8_in _ (by omega) (by omega);go_wp2_with fail
   go_region_with (first|(go_at_call 32;refine(M.out _).mono ?_;rintro _ _ ⟨rfl,rfl⟩)|(go_at_call 54;refine(add_walk _ _ (by omega) (by omega) _).mono ?_;rintro _ _ ⟨rfl,rfl⟩))
   all_goals
    go_wp2;go_roundw
    case rel=>
     refine⟨k+1,by omega,by go_num,grownBy_drew (grownBy_setCell hG.out _ _),?_⟩;have:=hR.out.set (o+k) (.int .u8 ((y ^^^ m:Nat):Int));rw[hS.out]at this;exact this.drew
    case measure=>refine qD ?_ ?_<;>simp only[intOf]<;>omega
  ·have e:k=n:=by omega
   subst e;have hR:=hide hr;have hG:=hide hgr
   clear hr hgr;go_wp2;go_end0;exact⟨rfl,hG.out,hR.out⟩
theorem addTimes_nil(v:Value)(t:Nat)(w:World):Calls Try.prog 93 #[v,.slice none 0 0,.int .i64 t] w fun e w'=>e= .returned (.tuple #[])/\w'=w:=by
 go_enter Try.func93,Try.ntmps93;go_wp2;go_loopw [10] (fun x wr=>x= .int .i64 0/\wr=w) (fun _ _=>0)
 case atStart=>exact⟨rfl,rfl⟩
 case round=>
  obtain⟨rfl,rfl⟩:=hrel;go_wp2;go_end0;exact⟨rfl,rfl⟩
def scaleUp(R:List Nat)(t k:Nat):List Nat:=R.mapIdx fun i x=>if i<k then Gf.mul x t else x
theorem scaleUp_length(R:List Nat)(t k:Nat):(scaleUp R t k).length=R.length:=by simp[scaleUp]
theorem scaleUp_zero(R:List Nat)(t:Nat):scaleUp R t 0=R:=by
 apply List.ext_getElem?;intro i;simp[scaleUp]
theorem scaleUp_at{R:List Nat}{t k i:Nat}(hi:i<R.length):(scaleUp R t k)[i]?.getD 0=if i<k then Gf.mul (R[i]?.getD 0) t else R[i]?.getD 0:=by
 simp[scaleUp,hi]
theorem scaleUp_set{R:List Nat}{t k:Nat}(h:k<R.length):(scaleUp R t k).set k (Gf.mul (R[k]?.getD 0) t)=scaleUp R t (k+1):=by
 apply List.ext_getElem?;intro i;by_cases e:k=i
 ·subst e;rw[List.getElem?_set_self (by rw[scaleUp_length];exact h)];simp[scaleUp,h]
 ·rw[List.getElem?_set_ne e];simp only[scaleUp,List.getElem?_mapIdx];have:(i<k)↔(i<k+1):=by omega
  simp[this]
theorem scale_walk(g cap t n:Nat)(R:List Nat)(hlR:Hid (R.length=n))(hlen:n<=65536)(hRb:∀x∈R,x<256)(ht:t<256)(w:World)(hg:qS w g 5 (u8s R)):
  Calls Try.prog 123 #[.slice (some ⟨g,0,none⟩) n cap,.int .i64 t] w fun e w'=>
   e= .returned (.tuple #[])/\w.grownBy w' (some g)/\qS w' g 5 (u8s (scaleUp R t n)):=by
 have hG0:=hide hg;clear hg;go_enter Try.func123,Try.ntmps123;go_wp2;go_loopw [8] (fun x wr=>∃k:Nat,k<=n/\x= .int .i64 k/\w.grownBy wr (some g)/\qS wr g 5 (u8s (scaleUp R t k)))
  (fun x _=>leftOf n (intOf x).toNat)
 case atStart=>exact⟨0,by omega,rfl,World.grownBy.refl _ _,by rw[scaleUp_zero];exact hG0.out⟩
 case round=>
  obtain⟨k,hk,rfl,hgr,hr⟩:=hrel;by_cases hkl:k<n
  ·have hkR:k<R.length:=by rw[hlR.out];exact hkl
   have hcg:wr.cell? ⟨g,k,none⟩=some (.int .u8 ((R[k]?.getD 0:Nat):Int)):=by
    apply hr.cell;have:=u8s_at (l:=scaleUp R t k) (i:=k) (by rw[scaleUp_length];exact hkR);rw[scaleUp_at hkR,if_neg (by omega)]at this;exact this
   have hf:=hr.frozen k;have hy:=getD_lt hRb hkR;have hS:Hid ((u8s (scaleUp R t k)).set k (.int .u8 ((Gf.mul (R[k]?.getD 0) t:Nat):Int))=u8s (scaleUp R t (k+1))):=by
    show _=_;rw[u8s_set,scaleUp_set hkR]
   have hR:=hide hr;have hG:=hide hgr
   clear hr hgr hkR;revert hcg hy hS;generalize R[k]?.getD 0=y;intro hcg hy hS;have hm:=Gf.mul_lt hy ht;have M:=hide (fun w=>mul_walk y t hy ht w);revert hm M hS;generalize Gf.mul y t=m;intro hS hm M;have hk0:(0:Int)<=(k:Int):=by omega
   have hk1:(k:Int)<(n:Int):=by omega
   have hwy:IntKind.i64.wrap (y:Int)=(y:Int):=qB _ (by omega) (by omega);have hw8:IntKind.u8.wrap (m:Int)=(m:Int):=wrap_u8_in _ (by omega) (by omega);go_wp2_with (go_at_call 32;refine(M.out _).mono ?_;rintro _ _ ⟨rfl,rfl⟩)
   go_roundw
   case rel=>
    refine⟨k+1,by omega,by go_num,grownBy_setCell hG.out _ _,?_⟩;have:=hR.out.set k (.int .u8 (m:Int));rw[hS.out]at this;exact this
   case measure=>refine qD ?_ ?_<;>simp only[intOf]<;>omega
  ·have e:k=n:=by omega
   subst e;have hR:=hide hr;have hG:=hide hgr
   clear hr hgr;go_wp2;go_end0;exact⟨rfl,hG.out,hR.out⟩
end Go.Proofs.Ytmfpiodlecapiaa
