import Derived.Test.YtmfpiodlecapiaaJ35
namespace Go.Proofs.Ytmfpiodlecapiaa
open Go.Conc Go.ConcN Go.RowKit Go.Frag Go.Ren Go.Poi Go.Deep Go.Grp
attribute [local go_sem↓] Go.wp_at_zero Go.wp_at_succ
inductive ObSt(ob bb N cap V:Nat)(F:(Nat->Prop)->World->Value->Bool->Prop)(Sh:Nat->Prop)(p:World)(j0 j1 j2 j3 j4 j5 j7 j8 j9 j10 j11 j12 j13 j14 j15 j16 j17 j18 j19 j20 j21 j22 j23 j24 j25 j26 j27 j28 j29 j30 j31 j32 j33 j34 j35 j36 j37:Value):Nat->Array Bool->Act->(Nat->Prop)->World->Prop
 |s000000000000000:ObSt ob bb N cap V F Sh p j0 j1 j2 j3 j4 j5 j7 j8 j9 j10 j11 j12 j13 j14 j15 j16 j17 j18 j19 j20 j21 j22 j23 j24 j25 j26 j27 j28 j29 j30 j31 j32 j33 j34 j35 j36 j37 15 #[false,false,false,false,false,false,false,false,false,false,false,false,false,false,false] ⟨#[j0,j1,j2,j3,j4,j5,.pointer (some ⟨ob,0,none⟩),j7,j8,j9,j10,j11,j12,j13,j14,j15,j16,j17,j18,j19,j20,j21,j22,j23,j24,j25,j26,j27,j28,j29,j30,j31,j32,j33,j34,j35,j36,j37],[]⟩ Sh p
 |s100000000000000:ObSt ob bb N cap V F Sh p j0 j1 j2 j3 j4 j5 j7 j8 j9 j10 j11 j12 j13 j14 j15 j16 j17 j18 j19 j20 j21 j22 j23 j24 j25 j26 j27 j28 j29 j30 j31 j32 j33 j34 j35 j36 j37 14 #[true,false,false,false,false,false,false,false,false,false,false,false,false,false,false] ⟨#[j0,j1,j2,j3,j4,j5,.pointer (some ⟨ob,0,none⟩),j7,j8,j9,j10,j11,j12,j13,j14,j15,j16,j17,.pointer (some ⟨ob,0,none⟩),j19,j20,j21,j22,j23,j24,j25,j26,j27,j28,j29,j30,j31,j32,j33,j34,j35,j36,j37],[]⟩ Sh p
 |s000010000000000:ObSt ob bb N cap V F Sh p j0 j1 j2 j3 j4 j5 j7 j8 j9 j10 j11 j12 j13 j14 j15 j16 j17 j18 j19 j20 j21 j22 j23 j24 j25 j26 j27 j28 j29 j30 j31 j32 j33 j34 j35 j36 j37 14 #[false,false,false,false,true,false,false,false,false,false,false,false,false,false,false] ⟨#[j0,j1,j2,j3,j4,j5,.pointer (some ⟨ob,0,none⟩),j7,j8,j9,j10,j11,j12,j13,j14,j15,j16,j17,j18,j19,j20,j21,.pointer (some ⟨ob,0,none⟩),j23,j24,j25,j26,j27,j28,j29,j30,j31,j32,j33,j34,j35,j36,j37],[]⟩ Sh p
 |s110000000000000:ObSt ob bb N cap V F Sh p j0 j1 j2 j3 j4 j5 j7 j8 j9 j10 j11 j12 j13 j14 j15 j16 j17 j18 j19 j20 j21 j22 j23 j24 j25 j26 j27 j28 j29 j30 j31 j32 j33 j34 j35 j36 j37 13 #[true,true,false,false,false,false,false,false,false,false,false,false,false,false,false] ⟨#[j0,j1,j2,j3,j4,j5,.pointer (some ⟨ob,0,none⟩),j7,j8,j9,j10,j11,j12,j13,j14,j15,j16,j17,.pointer (some ⟨ob,0,none⟩),.pointer (some ⟨ob,0,none⟩),j20,j21,j22,j23,j24,j25,j26,j27,j28,j29,j30,j31,j32,j33,j34,j35,j36,j37],[]⟩ Sh p
 |s100010000000000:ObSt ob bb N cap V F Sh p j0 j1 j2 j3 j4 j5 j7 j8 j9 j10 j11 j12 j13 j14 j15 j16 j17 j18 j19 j20 j21 j22 j23 j24 j25 j26 j27 j28 j29 j30 j31 j32 j33 j34 j35 j36 j37 13 #[true,false,false,false,true,false,false,false,false,false,false,false,false,false,false] ⟨#[j0,j1,j2,j3,j4,j5,.pointer (some ⟨ob,0,none⟩),j7,j8,j9,j10,j11,j12,j13,j14,j15,j16,j17,.pointer (some ⟨ob,0,none⟩),j19,j20,j21,.pointer (some ⟨ob,0,none⟩),j23,j24,j25,j26,j27,j28,j29,j30,j31,j32,j33,j34,j35,j36,j37],[]⟩ Sh p
 |s000011000000000:ObSt ob bb N cap V F Sh p j0 j1 j2 j3 j4 j5 j7 j8 j9 j10 j11 j12 j13 j14 j15 j16 j17 j18 j19 j20 j21 j22 j23 j24 j25 j26 j27 j28 j29 j30 j31 j32 j33 j34 j35 j36 j37 13 #[false,false,false,false,true,true,false,false,false,false,false,false,false,false,false] ⟨#[j0,j1,j2,j3,j4,j5,.pointer (some ⟨ob,0,none⟩),j7,j8,j9,j10,j11,j12,j13,j14,j15,j16,j17,j18,j19,j20,j21,.pointer (some ⟨ob,0,none⟩),.pointer (some ⟨ob,0,none⟩),j24,j25,j26,j27,j28,j29,j30,j31,j32,j33,j34,j35,j36,j37],[]⟩ Sh p
 |s111000000000000:ObSt ob bb N cap V F Sh p j0 j1 j2 j3 j4 j5 j7 j8 j9 j10 j11 j12 j13 j14 j15 j16 j17 j18 j19 j20 j21 j22 j23 j24 j25 j26 j27 j28 j29 j30 j31 j32 j33 j34 j35 j36 j37 12 #[true,true,true,false,false,false,false,false,false,false,false,false,false,false,false] ⟨#[j0,j1,j2,j3,j4,j5,.pointer (some ⟨ob,0,none⟩),j7,j8,j9,j10,j11,j12,j13,j14,j15,j16,j17,.pointer (some ⟨ob,0,none⟩),.pointer (some ⟨ob,0,none⟩),.pointer (some ⟨ob,4,none⟩),j21,j22,j23,j24,j25,j26,j27,j28,j29,j30,j31,j32,j33,j34,j35,j36,j37],[]⟩ Sh p
 |s110010000000000:ObSt ob bb N cap V F Sh p j0 j1 j2 j3 j4 j5 j7 j8 j9 j10 j11 j12 j13 j14 j15 j16 j17 j18 j19 j20 j21 j22 j23 j24 j25 j26 j27 j28 j29 j30 j31 j32 j33 j34 j35 j36 j37 12 #[true,true,false,false,true,false,false,false,false,false,false,false,false,false,false] ⟨#[j0,j1,j2,j3,j4,j5,.pointer (some ⟨ob,0,none⟩),j7,j8,j9,j10,j11,j12,j13,j14,j15,j16,j17,.pointer (some ⟨ob,0,none⟩),.pointer (some ⟨ob,0,none⟩),j20,j21,.pointer (some ⟨ob,0,none⟩),j23,j24,j25,j26,j27,j28,j29,j30,j31,j32,j33,j34,j35,j36,j37],[]⟩ Sh p
 |s100011000000000:ObSt ob bb N cap V F Sh p j0 j1 j2 j3 j4 j5 j7 j8 j9 j10 j11 j12 j13 j14 j15 j16 j17 j18 j19 j20 j21 j22 j23 j24 j25 j26 j27 j28 j29 j30 j31 j32 j33 j34 j35 j36 j37 12 #[true,false,false,false,true,true,false,false,false,false,false,false,false,false,false] ⟨#[j0,j1,j2,j3,j4,j5,.pointer (some ⟨ob,0,none⟩),j7,j8,j9,j10,j11,j12,j13,j14,j15,j16,j17,.pointer (some ⟨ob,0,none⟩),j19,j20,j21,.pointer (some ⟨ob,0,none⟩),.pointer (some ⟨ob,0,none⟩),j24,j25,j26,j27,j28,j29,j30,j31,j32,j33,j34,j35,j36,j37],[]⟩ Sh p
 |s000011100000000:ObSt ob bb N cap V F Sh p j0 j1 j2 j3 j4 j5 j7 j8 j9 j10 j11 j12 j13 j14 j15 j16 j17 j18 j19 j20 j21 j22 j23 j24 j25 j26 j27 j28 j29 j30 j31 j32 j33 j34 j35 j36 j37 12 #[false,false,false,false,true,true,true,false,false,false,false,false,false,false,false] ⟨#[j0,j1,j2,j3,j4,j5,.pointer (some ⟨ob,0,none⟩),j7,j8,j9,j10,j11,j12,j13,j14,j15,j16,j17,j18,j19,j20,j21,.pointer (some ⟨ob,0,none⟩),.pointer (some ⟨ob,0,none⟩),.pointer (some ⟨ob,1,none⟩),j25,j26,j27,j28,j29,j30,j31,j32,j33,j34,j35,j36,j37],[]⟩ Sh p
 |s111100000000000:ObSt ob bb N cap V F Sh p j0 j1 j2 j3 j4 j5 j7 j8 j9 j10 j11 j12 j13 j14 j15 j16 j17 j18 j19 j20 j21 j22 j23 j24 j25 j26 j27 j28 j29 j30 j31 j32 j33 j34 j35 j36 j37 11 #[true,true,true,true,false,false,false,false,false,false,false,false,false,false,false] ⟨#[j0,j1,j2,j3,j4,j5,.pointer (some ⟨ob,0,none⟩),j7,j8,j9,j10,j11,j12,j13,j14,j15,j16,j17,.pointer (some ⟨ob,0,none⟩),.pointer (some ⟨ob,0,none⟩),.pointer (some ⟨ob,4,none⟩),.slice (some ⟨bb,0,none⟩) N cap,j22,j23,j24,j25,j26,j27,j28,j29,j30,j31,j32,j33,j34,j35,j36,j37],[]⟩ Sh p
 |s111010000000000:ObSt ob bb N cap V F Sh p j0 j1 j2 j3 j4 j5 j7 j8 j9 j10 j11 j12 j13 j14 j15 j16 j17 j18 j19 j20 j21 j22 j23 j24 j25 j26 j27 j28 j29 j30 j31 j32 j33 j34 j35 j36 j37 11 #[true,true,true,false,true,false,false,false,false,false,false,false,false,false,false] ⟨#[j0,j1,j2,j3,j4,j5,.pointer (some ⟨ob,0,none⟩),j7,j8,j9,j10,j11,j12,j13,j14,j15,j16,j17,.pointer (some ⟨ob,0,none⟩),.pointer (some ⟨ob,0,none⟩),.pointer (some ⟨ob,4,none⟩),j21,.pointer (some ⟨ob,0,none⟩),j23,j24,j25,j26,j27,j28,j29,j30,j31,j32,j33,j34,j35,j36,j37],[]⟩ Sh p
 |s110011000000000:ObSt ob bb N cap V F Sh p j0 j1 j2 j3 j4 j5 j7 j8 j9 j10 j11 j12 j13 j14 j15 j16 j17 j18 j19 j20 j21 j22 j23 j24 j25 j26 j27 j28 j29 j30 j31 j32 j33 j34 j35 j36 j37 11 #[true,true,false,false,true,true,false,false,false,false,false,false,false,false,false] ⟨#[j0,j1,j2,j3,j4,j5,.pointer (some ⟨ob,0,none⟩),j7,j8,j9,j10,j11,j12,j13,j14,j15,j16,j17,.pointer (some ⟨ob,0,none⟩),.pointer (some ⟨ob,0,none⟩),j20,j21,.pointer (some ⟨ob,0,none⟩),.pointer (some ⟨ob,0,none⟩),j24,j25,j26,j27,j28,j29,j30,j31,j32,j33,j34,j35,j36,j37],[]⟩ Sh p
 |s100011100000000:ObSt ob bb N cap V F Sh p j0 j1 j2 j3 j4 j5 j7 j8 j9 j10 j11 j12 j13 j14 j15 j16 j17 j18 j19 j20 j21 j22 j23 j24 j25 j26 j27 j28 j29 j30 j31 j32 j33 j34 j35 j36 j37 11 #[true,false,false,false,true,true,true,false,false,false,false,false,false,false,false] ⟨#[j0,j1,j2,j3,j4,j5,.pointer (some ⟨ob,0,none⟩),j7,j8,j9,j10,j11,j12,j13,j14,j15,j16,j17,.pointer (some ⟨ob,0,none⟩),j19,j20,j21,.pointer (some ⟨ob,0,none⟩),.pointer (some ⟨ob,0,none⟩),.pointer (some ⟨ob,1,none⟩),j25,j26,j27,j28,j29,j30,j31,j32,j33,j34,j35,j36,j37],[]⟩ Sh p
 |s000011110000000:ObSt ob bb N cap V F Sh p j0 j1 j2 j3 j4 j5 j7 j8 j9 j10 j11 j12 j13 j14 j15 j16 j17 j18 j19 j20 j21 j22 j23 j24 j25 j26 j27 j28 j29 j30 j31 j32 j33 j34 j35 j36 j37 11 #[false,false,false,false,true,true,true,true,false,false,false,false,false,false,false] ⟨#[j0,j1,j2,j3,j4,j5,.pointer (some ⟨ob,0,none⟩),j7,j8,j9,j10,j11,j12,j13,j14,j15,j16,j17,j18,j19,j20,j21,.pointer (some ⟨ob,0,none⟩),.pointer (some ⟨ob,0,none⟩),.pointer (some ⟨ob,1,none⟩),.pointer (some ⟨ob,3,none⟩),j26,j27,j28,j29,j30,j31,j32,j33,j34,j35,j36,j37],[]⟩ Sh p
 |s111110000000000:ObSt ob bb N cap V F Sh p j0 j1 j2 j3 j4 j5 j7 j8 j9 j10 j11 j12 j13 j14 j15 j16 j17 j18 j19 j20 j21 j22 j23 j24 j25 j26 j27 j28 j29 j30 j31 j32 j33 j34 j35 j36 j37 10 #[true,true,true,true,true,false,false,false,false,false,false,false,false,false,false] ⟨#[j0,j1,j2,j3,j4,j5,.pointer (some ⟨ob,0,none⟩),j7,j8,j9,j10,j11,j12,j13,j14,j15,j16,j17,.pointer (some ⟨ob,0,none⟩),.pointer (some ⟨ob,0,none⟩),.pointer (some ⟨ob,4,none⟩),.slice (some ⟨bb,0,none⟩) N cap,.pointer (some ⟨ob,0,none⟩),j23,j24,j25,j26,j27,j28,j29,j30,j31,j32,j33,j34,j35,j36,j37],[]⟩ Sh p
 |s111011000000000:ObSt ob bb N cap V F Sh p j0 j1 j2 j3 j4 j5 j7 j8 j9 j10 j11 j12 j13 j14 j15 j16 j17 j18 j19 j20 j21 j22 j23 j24 j25 j26 j27 j28 j29 j30 j31 j32 j33 j34 j35 j36 j37 10 #[true,true,true,false,true,true,false,false,false,false,false,false,false,false,false] ⟨#[j0,j1,j2,j3,j4,j5,.pointer (some ⟨ob,0,none⟩),j7,j8,j9,j10,j11,j12,j13,j14,j15,j16,j17,.pointer (some ⟨ob,0,none⟩),.pointer (some ⟨ob,0,none⟩),.pointer (some ⟨ob,4,none⟩),j21,.pointer (some ⟨ob,0,none⟩),.pointer (some ⟨ob,0,none⟩),j24,j25,j26,j27,j28,j29,j30,j31,j32,j33,j34,j35,j36,j37],[]⟩ Sh p
 |s110011100000000:ObSt ob bb N cap V F Sh p j0 j1 j2 j3 j4 j5 j7 j8 j9 j10 j11 j12 j13 j14 j15 j16 j17 j18 j19 j20 j21 j22 j23 j24 j25 j26 j27 j28 j29 j30 j31 j32 j33 j34 j35 j36 j37 10 #[true,true,false,false,true,true,true,false,false,false,false,false,false,false,false] ⟨#[j0,j1,j2,j3,j4,j5,.pointer (some ⟨ob,0,none⟩),j7,j8,j9,j10,j11,j12,j13,j14,j15,j16,j17,.pointer (some ⟨ob,0,none⟩),.pointer (some ⟨ob,0,none⟩),j20,j21,.pointer (some ⟨ob,0,none⟩),.pointer (some ⟨ob,0,none⟩),.pointer (some ⟨ob,1,none⟩),j25,j26,j27,j28,j29,j30,j31,j32,j33,j34,j35,j36,j37],[]⟩ Sh p
 |s100011110000000:ObSt ob bb N cap V F Sh p j0 j1 j2 j3 j4 j5 j7 j8 j9 j10 j11 j12 j13 j14 j15 j16 j17 j18 j19 j20 j21 j22 j23 j24 j25 j26 j27 j28 j29 j30 j31 j32 j33 j34 j35 j36 j37 10 #[true,false,false,false,true,true,true,true,false,false,false,false,false,false,false] ⟨#[j0,j1,j2,j3,j4,j5,.pointer (some ⟨ob,0,none⟩),j7,j8,j9,j10,j11,j12,j13,j14,j15,j16,j17,.pointer (some ⟨ob,0,none⟩),j19,j20,j21,.pointer (some ⟨ob,0,none⟩),.pointer (some ⟨ob,0,none⟩),.pointer (some ⟨ob,1,none⟩),.pointer (some ⟨ob,3,none⟩),j26,j27,j28,j29,j30,j31,j32,j33,j34,j35,j36,j37],[]⟩ Sh p
 |s000011111000000:ObSt ob bb N cap V F Sh p j0 j1 j2 j3 j4 j5 j7 j8 j9 j10 j11 j12 j13 j14 j15 j16 j17 j18 j19 j20 j21 j22 j23 j24 j25 j26 j27 j28 j29 j30 j31 j32 j33 j34 j35 j36 j37 10 #[false,false,false,false,true,true,true,true,true,false,false,false,false,false,false] ⟨#[j0,j1,j2,j3,j4,j5,.pointer (some ⟨ob,0,none⟩),j7,j8,j9,j10,j11,j12,j13,j14,j15,j16,j17,j18,j19,j20,j21,.pointer (some ⟨ob,0,none⟩),.pointer (some ⟨ob,0,none⟩),.pointer (some ⟨ob,1,none⟩),.pointer (some ⟨ob,3,none⟩),.int .i64 V,j27,j28,j29,j30,j31,j32,j33,j34,j35,j36,j37],[]⟩ Sh p
 |s111111000000000:ObSt ob bb N cap V F Sh p j0 j1 j2 j3 j4 j5 j7 j8 j9 j10 j11 j12 j13 j14 j15 j16 j17 j18 j19 j20 j21 j22 j23 j24 j25 j26 j27 j28 j29 j30 j31 j32 j33 j34 j35 j36 j37 9 #[true,true,true,true,true,true,false,false,false,false,false,false,false,false,false] ⟨#[j0,j1,j2,j3,j4,j5,.pointer (some ⟨ob,0,none⟩),j7,j8,j9,j10,j11,j12,j13,j14,j15,j16,j17,.pointer (some ⟨ob,0,none⟩),.pointer (some ⟨ob,0,none⟩),.pointer (some ⟨ob,4,none⟩),.slice (some ⟨bb,0,none⟩) N cap,.pointer (some ⟨ob,0,none⟩),.pointer (some ⟨ob,0,none⟩),j24,j25,j26,j27,j28,j29,j30,j31,j32,j33,j34,j35,j36,j37],[]⟩ Sh p
 |s111011100000000:ObSt ob bb N cap V F Sh p j0 j1 j2 j3 j4 j5 j7 j8 j9 j10 j11 j12 j13 j14 j15 j16 j17 j18 j19 j20 j21 j22 j23 j24 j25 j26 j27 j28 j29 j30 j31 j32 j33 j34 j35 j36 j37 9 #[true,true,true,false,true,true,true,false,false,false,false,false,false,false,false] ⟨#[j0,j1,j2,j3,j4,j5,.pointer (some ⟨ob,0,none⟩),j7,j8,j9,j10,j11,j12,j13,j14,j15,j16,j17,.pointer (some ⟨ob,0,none⟩),.pointer (some ⟨ob,0,none⟩),.pointer (some ⟨ob,4,none⟩),j21,.pointer (some ⟨ob,0,none⟩),.pointer (some ⟨ob,0,none⟩),.pointer (some ⟨ob,1,none⟩),j25,j26,j27,j28,j29,j30,j31,j32,j33,j34,j35,j36,j37],[]⟩ Sh p
 |s110011110000000:ObSt ob bb N cap V F Sh p j0 j1 j2 j3 j4 j5 j7 j8 j9 j10 j11 j12 j13 j14 j15 j16 j17 j18 j19 j20 j21 j22 j23 j24 j25 j26 j27 j28 j29 j30 j31 j32 j33 j34 j35 j36 j37 9 #[true,true,false,false,true,true,true,true,false,false,false,false,false,false,false] ⟨#[j0,j1,j2,j3,j4,j5,.pointer (some ⟨ob,0,none⟩),j7,j8,j9,j10,j11,j12,j13,j14,j15,j16,j17,.pointer (some ⟨ob,0,none⟩),.pointer (some ⟨ob,0,none⟩),j20,j21,.pointer (some ⟨ob,0,none⟩),.pointer (some ⟨ob,0,none⟩),.pointer (some ⟨ob,1,none⟩),.pointer (some ⟨ob,3,none⟩),j26,j27,j28,j29,j30,j31,j32,j33,j34,j35,j36,j37],[]⟩ Sh p
 |s100011111000000:ObSt ob bb N cap V F Sh p j0 j1 j2 j3 j4 j5 j7 j8 j9 j10 j11 j12 j13 j14 j15 j16 j17 j18 j19 j20 j21 j22 j23 j24 j25 j26 j27 j28 j29 j30 j31 j32 j33 j34 j35 j36 j37 9 #[true,false,false,false,true,true,true,true,true,false,false,false,false,false,false] ⟨#[j0,j1,j2,j3,j4,j5,.pointer (some ⟨ob,0,none⟩),j7,j8,j9,j10,j11,j12,j13,j14,j15,j16,j17,.pointer (some ⟨ob,0,none⟩),j19,j20,j21,.pointer (some ⟨ob,0,none⟩),.pointer (some ⟨ob,0,none⟩),.pointer (some ⟨ob,1,none⟩),.pointer (some ⟨ob,3,none⟩),.int .i64 V,j27,j28,j29,j30,j31,j32,j33,j34,j35,j36,j37],[]⟩ Sh p
 |s111111100000000:ObSt ob bb N cap V F Sh p j0 j1 j2 j3 j4 j5 j7 j8 j9 j10 j11 j12 j13 j14 j15 j16 j17 j18 j19 j20 j21 j22 j23 j24 j25 j26 j27 j28 j29 j30 j31 j32 j33 j34 j35 j36 j37 8 #[true,true,true,true,true,true,true,false,false,false,false,false,false,false,false] ⟨#[j0,j1,j2,j3,j4,j5,.pointer (some ⟨ob,0,none⟩),j7,j8,j9,j10,j11,j12,j13,j14,j15,j16,j17,.pointer (some ⟨ob,0,none⟩),.pointer (some ⟨ob,0,none⟩),.pointer (some ⟨ob,4,none⟩),.slice (some ⟨bb,0,none⟩) N cap,.pointer (some ⟨ob,0,none⟩),.pointer (some ⟨ob,0,none⟩),.pointer (some ⟨ob,1,none⟩),j25,j26,j27,j28,j29,j30,j31,j32,j33,j34,j35,j36,j37],[]⟩ Sh p
 |s111011110000000:ObSt ob bb N cap V F Sh p j0 j1 j2 j3 j4 j5 j7 j8 j9 j10 j11 j12 j13 j14 j15 j16 j17 j18 j19 j20 j21 j22 j23 j24 j25 j26 j27 j28 j29 j30 j31 j32 j33 j34 j35 j36 j37 8 #[true,true,true,false,true,true,true,true,false,false,false,false,false,false,false] ⟨#[j0,j1,j2,j3,j4,j5,.pointer (some ⟨ob,0,none⟩),j7,j8,j9,j10,j11,j12,j13,j14,j15,j16,j17,.pointer (some ⟨ob,0,none⟩),.pointer (some ⟨ob,0,none⟩),.pointer (some ⟨ob,4,none⟩),j21,.pointer (some ⟨ob,0,none⟩),.pointer (some ⟨ob,0,none⟩),.pointer (some ⟨ob,1,none⟩),.pointer (some ⟨ob,3,none⟩),j26,j27,j28,j29,j30,j31,j32,j33,j34,j35,j36,j37],[]⟩ Sh p
 |s110011111000000:ObSt ob bb N cap V F Sh p j0 j1 j2 j3 j4 j5 j7 j8 j9 j10 j11 j12 j13 j14 j15 j16 j17 j18 j19 j20 j21 j22 j23 j24 j25 j26 j27 j28 j29 j30 j31 j32 j33 j34 j35 j36 j37 8 #[true,true,false,false,true,true,true,true,true,false,false,false,false,false,false] ⟨#[j0,j1,j2,j3,j4,j5,.pointer (some ⟨ob,0,none⟩),j7,j8,j9,j10,j11,j12,j13,j14,j15,j16,j17,.pointer (some ⟨ob,0,none⟩),.pointer (some ⟨ob,0,none⟩),j20,j21,.pointer (some ⟨ob,0,none⟩),.pointer (some ⟨ob,0,none⟩),.pointer (some ⟨ob,1,none⟩),.pointer (some ⟨ob,3,none⟩),.int .i64 V,j27,j28,j29,j30,j31,j32,j33,j34,j35,j36,j37],[]⟩ Sh p
 |s111111110000000:ObSt ob bb N cap V F Sh p j0 j1 j2 j3 j4 j5 j7 j8 j9 j10 j11 j12 j13 j14 j15 j16 j17 j18 j19 j20 j21 j22 j23 j24 j25 j26 j27 j28 j29 j30 j31 j32 j33 j34 j35 j36 j37 7 #[true,true,true,true,true,true,true,true,false,false,false,false,false,false,false] ⟨#[j0,j1,j2,j3,j4,j5,.pointer (some ⟨ob,0,none⟩),j7,j8,j9,j10,j11,j12,j13,j14,j15,j16,j17,.pointer (some ⟨ob,0,none⟩),.pointer (some ⟨ob,0,none⟩),.pointer (some ⟨ob,4,none⟩),.slice (some ⟨bb,0,none⟩) N cap,.pointer (some ⟨ob,0,none⟩),.pointer (some ⟨ob,0,none⟩),.pointer (some ⟨ob,1,none⟩),.pointer (some ⟨ob,3,none⟩),j26,j27,j28,j29,j30,j31,j32,j33,j34,j35,j36,j37],[]⟩ Sh p
 |s111011111000000:ObSt ob bb N cap V F Sh p j0 j1 j2 j3 j4 j5 j7 j8 j9 j10 j11 j12 j13 j14 j15 j16 j17 j18 j19 j20 j21 j22 j23 j24 j25 j26 j27 j28 j29 j30 j31 j32 j33 j34 j35 j36 j37 7 #[true,true,true,false,true,true,true,true,true,false,false,false,false,false,false] ⟨#[j0,j1,j2,j3,j4,j5,.pointer (some ⟨ob,0,none⟩),j7,j8,j9,j10,j11,j12,j13,j14,j15,j16,j17,.pointer (some ⟨ob,0,none⟩),.pointer (some ⟨ob,0,none⟩),.pointer (some ⟨ob,4,none⟩),j21,.pointer (some ⟨ob,0,none⟩),.pointer (some ⟨ob,0,none⟩),.pointer (some ⟨ob,1,none⟩),.pointer (some ⟨ob,3,none⟩),.int .i64 V,j27,j28,j29,j30,j31,j32,j33,j34,j35,j36,j37],[]⟩ Sh p
 |s111111111000000:ObSt ob bb N cap V F Sh p j0 j1 j2 j3 j4 j5 j7 j8 j9 j10 j11 j12 j13 j14 j15 j16 j17 j18 j19 j20 j21 j22 j23 j24 j25 j26 j27 j28 j29 j30 j31 j32 j33 j34 j35 j36 j37 6 #[true,true,true,true,true,true,true,true,true,false,false,false,false,false,false] ⟨#[j0,j1,j2,j3,j4,j5,.pointer (some ⟨ob,0,none⟩),j7,j8,j9,j10,j11,j12,j13,j14,j15,j16,j17,.pointer (some ⟨ob,0,none⟩),.pointer (some ⟨ob,0,none⟩),.pointer (some ⟨ob,4,none⟩),.slice (some ⟨bb,0,none⟩) N cap,.pointer (some ⟨ob,0,none⟩),.pointer (some ⟨ob,0,none⟩),.pointer (some ⟨ob,1,none⟩),.pointer (some ⟨ob,3,none⟩),.int .i64 V,j27,j28,j29,j30,j31,j32,j33,j34,j35,j36,j37],[]⟩ Sh p
 |s111111111100000 (S:Nat->Prop) (q:World) (v:Value) (ok:Bool):F S q v ok->ObSt ob bb N cap V F Sh p j0 j1 j2 j3 j4 j5 j7 j8 j9 j10 j11 j12 j13 j14 j15 j16 j17 j18 j19 j20 j21 j22 j23 j24 j25 j26 j27 j28 j29 j30 j31 j32 j33 j34 j35 j36 j37 5 #[true,true,true,true,true,true,true,true,true,true,false,false,false,false,false] ⟨#[j0,j1,j2,j3,j4,j5,.pointer (some ⟨ob,0,none⟩),j7,j8,j9,j10,j11,j12,j13,j14,j15,j16,j17,.pointer (some ⟨ob,0,none⟩),.pointer (some ⟨ob,0,none⟩),.pointer (some ⟨ob,4,none⟩),.slice (some ⟨bb,0,none⟩) N cap,.pointer (some ⟨ob,0,none⟩),.pointer (some ⟨ob,0,none⟩),.pointer (some ⟨ob,1,none⟩),.pointer (some ⟨ob,3,none⟩),.int .i64 V,.tuple #[v,.bool ok],j28,j29,j30,j31,j32,j33,j34,j35,j36,j37],[]⟩ S q
 |s111111111110000 (S:Nat->Prop) (q:World) (v:Value) (ok:Bool):F S q v ok->ObSt ob bb N cap V F Sh p j0 j1 j2 j3 j4 j5 j7 j8 j9 j10 j11 j12 j13 j14 j15 j16 j17 j18 j19 j20 j21 j22 j23 j24 j25 j26 j27 j28 j29 j30 j31 j32 j33 j34 j35 j36 j37 4 #[true,true,true,true,true,true,true,true,true,true,true,false,false,false,false] ⟨#[j0,j1,j2,j3,j4,j5,.pointer (some ⟨ob,0,none⟩),j7,j8,j9,j10,j11,j12,j13,j14,j15,j16,.tuple #[v,.bool ok],.pointer (some ⟨ob,0,none⟩),.pointer (some ⟨ob,0,none⟩),.pointer (some ⟨ob,4,none⟩),.slice (some ⟨bb,0,none⟩) N cap,.pointer (some ⟨ob,0,none⟩),.pointer (some ⟨ob,0,none⟩),.pointer (some ⟨ob,1,none⟩),.pointer (some ⟨ob,3,none⟩),.int .i64 V,.tuple #[v,.bool ok],j28,j29,j30,j31,j32,j33,j34,j35,j36,j37],[]⟩ S q
 |s111111111111000 (S:Nat->Prop) (q:World) (v:Value) (ok:Bool):F S q v ok->ObSt ob bb N cap V F Sh p j0 j1 j2 j3 j4 j5 j7 j8 j9 j10 j11 j12 j13 j14 j15 j16 j17 j18 j19 j20 j21 j22 j23 j24 j25 j26 j27 j28 j29 j30 j31 j32 j33 j34 j35 j36 j37 3 #[true,true,true,true,true,true,true,true,true,true,true,true,false,false,false] ⟨#[j0,j1,j2,j3,j4,j5,.pointer (some ⟨ob,0,none⟩),j7,j8,j9,j10,j11,j12,j13,j14,j15,j16,.tuple #[v,.bool ok],.pointer (some ⟨ob,0,none⟩),.pointer (some ⟨ob,0,none⟩),.pointer (some ⟨ob,4,none⟩),.slice (some ⟨bb,0,none⟩) N cap,.pointer (some ⟨ob,0,none⟩),.pointer (some ⟨ob,0,none⟩),.pointer (some ⟨ob,1,none⟩),.pointer (some ⟨ob,3,none⟩),.int .i64 V,.tuple #[v,.bool ok],v,j29,j30,j31,j32,j33,j34,j35,j36,j37],[]⟩ S q
 |s111111111110100 (S:Nat->Prop) (q:World) (v:Value) (ok:Bool):F S q v ok->ObSt ob bb N cap V F Sh p j0 j1 j2 j3 j4 j5 j7 j8 j9 j10 j11 j12 j13 j14 j15 j16 j17 j18 j19 j20 j21 j22 j23 j24 j25 j26 j27 j28 j29 j30 j31 j32 j33 j34 j35 j36 j37 3 #[true,true,true,true,true,true,true,true,true,true,true,false,true,false,false] ⟨#[j0,j1,j2,j3,j4,j5,.pointer (some ⟨ob,0,none⟩),j7,j8,j9,j10,j11,j12,j13,j14,j15,j16,.tuple #[v,.bool ok],.pointer (some ⟨ob,0,none⟩),.pointer (some ⟨ob,0,none⟩),.pointer (some ⟨ob,4,none⟩),.slice (some ⟨bb,0,none⟩) N cap,.pointer (some ⟨ob,0,none⟩),.pointer (some ⟨ob,0,none⟩),.pointer (some ⟨ob,1,none⟩),.pointer (some ⟨ob,3,none⟩),.int .i64 V,.tuple #[v,.bool ok],j28,.bool ok,j30,j31,j32,j33,j34,j35,j36,j37],[]⟩ S q
 |s111111111111100 (S:Nat->Prop) (q:World) (v:Value) (ok:Bool):F S q v ok->ObSt ob bb N cap V F Sh p j0 j1 j2 j3 j4 j5 j7 j8 j9 j10 j11 j12 j13 j14 j15 j16 j17 j18 j19 j20 j21 j22 j23 j24 j25 j26 j27 j28 j29 j30 j31 j32 j33 j34 j35 j36 j37 2 #[true,true,true,true,true,true,true,true,true,true,true,true,true,false,false] ⟨#[j0,j1,j2,j3,j4,j5,.pointer (some ⟨ob,0,none⟩),j7,j8,j9,j10,j11,j12,j13,j14,j15,j16,.tuple #[v,.bool ok],.pointer (some ⟨ob,0,none⟩),.pointer (some ⟨ob,0,none⟩),.pointer (some ⟨ob,4,none⟩),.slice (some ⟨bb,0,none⟩) N cap,.pointer (some ⟨ob,0,none⟩),.pointer (some ⟨ob,0,none⟩),.pointer (some ⟨ob,1,none⟩),.pointer (some ⟨ob,3,none⟩),.int .i64 V,.tuple #[v,.bool ok],v,.bool ok,j30,j31,j32,j33,j34,j35,j36,j37],[]⟩ S q
 |s111111111111010 (S:Nat->Prop) (q:World) (v:Value) (ok:Bool):F S q v ok->ObSt ob bb N cap V F Sh p j0 j1 j2 j3 j4 j5 j7 j8 j9 j10 j11 j12 j13 j14 j15 j16 j17 j18 j19 j20 j21 j22 j23 j24 j25 j26 j27 j28 j29 j30 j31 j32 j33 j34 j35 j36 j37 2 #[true,true,true,true,true,true,true,true,true,true,true,true,false,true,false] ⟨#[j0,j1,j2,j3,j4,j5,.pointer (some ⟨ob,0,none⟩),v,j8,j9,j10,j11,j12,j13,j14,j15,j16,.tuple #[v,.bool ok],.pointer (some ⟨ob,0,none⟩),.pointer (some ⟨ob,0,none⟩),.pointer (some ⟨ob,4,none⟩),.slice (some ⟨bb,0,none⟩) N cap,.pointer (some ⟨ob,0,none⟩),.pointer (some ⟨ob,0,none⟩),.pointer (some ⟨ob,1,none⟩),.pointer (some ⟨ob,3,none⟩),.int .i64 V,.tuple #[v,.bool ok],v,j29,j30,j31,j32,j33,j34,j35,j36,j37],[]⟩ S q
 |s111111111111110 (S:Nat->Prop) (q:World) (v:Value) (ok:Bool):F S q v ok->ObSt ob bb N cap V F Sh p j0 j1 j2 j3 j4 j5 j7 j8 j9 j10 j11 j12 j13 j14 j15 j16 j17 j18 j19 j20 j21 j22 j23 j24 j25 j26 j27 j28 j29 j30 j31 j32 j33 j34 j35 j36 j37 1 #[true,true,true,true,true,true,true,true,true,true,true,true,true,true,false] ⟨#[j0,j1,j2,j3,j4,j5,.pointer (some ⟨ob,0,none⟩),v,j8,j9,j10,j11,j12,j13,j14,j15,j16,.tuple #[v,.bool ok],.pointer (some ⟨ob,0,none⟩),.pointer (some ⟨ob,0,none⟩),.pointer (some ⟨ob,4,none⟩),.slice (some ⟨bb,0,none⟩) N cap,.pointer (some ⟨ob,0,none⟩),.pointer (some ⟨ob,0,none⟩),.pointer (some ⟨ob,1,none⟩),.pointer (some ⟨ob,3,none⟩),.int .i64 V,.tuple #[v,.bool ok],v,.bool ok,j30,j31,j32,j33,j34,j35,j36,j37],[]⟩ S q
 |s111111111111111 (S:Nat->Prop) (q:World) (v:Value) (ok:Bool):F S q v ok->ObSt ob bb N cap V F Sh p j0 j1 j2 j3 j4 j5 j7 j8 j9 j10 j11 j12 j13 j14 j15 j16 j17 j18 j19 j20 j21 j22 j23 j24 j25 j26 j27 j28 j29 j30 j31 j32 j33 j34 j35 j36 j37 0 #[true,true,true,true,true,true,true,true,true,true,true,true,true,true,true] ⟨#[j0,j1,j2,j3,j4,j5,.pointer (some ⟨ob,0,none⟩),v,.bool ok,j9,j10,j11,j12,j13,j14,j15,j16,.tuple #[v,.bool ok],.pointer (some ⟨ob,0,none⟩),.pointer (some ⟨ob,0,none⟩),.pointer (some ⟨ob,4,none⟩),.slice (some ⟨bb,0,none⟩) N cap,.pointer (some ⟨ob,0,none⟩),.pointer (some ⟨ob,0,none⟩),.pointer (some ⟨ob,1,none⟩),.pointer (some ⟨ob,3,none⟩),.int .i64 V,.tuple #[v,.bool ok],v,.bool ok,j30,j31,j32,j33,j34,j35,j36,j37],[]⟩ S q
set_option maxRecDepth 100000 in
set_option maxHeartbeats 8000000 in
theorem ob_next{Sh:Nat->Prop}{Post:(Nat->Prop)->Goroutine->World->Prop}{p:World}{k:List Item}{cs:List Frame}{ob bb N cap V:Nat}{F:(Nat->Prop)->World->Value->Bool->Prop}{j0 j1 j2 j3 j4 j5 j7 j8 j9 j10 j11 j12 j13 j14 j15 j16 j17 j18 j19 j20 j21 j22 j23 j24 j25 j26 j27 j28 j29 j30 j31 j32 j33 j34 j35 j36 j37:Value}(hc3:p.cell? ⟨ob,3,none⟩=some (.int .i64 V))(hc4:p.cell? ⟨ob,4,none⟩=some (.slice (some ⟨bb,0,none⟩) N cap))
  (hcall:∀rest,(∀a' Sh' p',ObSt ob bb N cap V F Sh p j0 j1 j2 j3 j4 j5 j7 j8 j9 j10 j11 j12 j13 j14 j15 j16 j17 j18 j19 j20 j21 j22 j23 j24 j25 j26 j27 j28 j29 j30 j31 j32 j33 j34 j35 j36 j37 5 #[true,true,true,true,true,true,true,true,true,true,false,false,false,false,false] a' Sh' p'->qR Try.prog Sh' (G ((base 48).at a' (.inRegion (qV (pth [1,1,1,0] (Try.f48.body.getD .skip))) rest::k)) cs) p' Post)->qR Try.prog Sh (G ((base 48).at ⟨#[j0,j1,j2,j3,j4,j5,.pointer (some ⟨ob,0,none⟩),j7,j8,j9,j10,j11,j12,j13,j14,j15,j16,j17,.pointer (some ⟨ob,0,none⟩),.pointer (some ⟨ob,0,none⟩),.pointer (some ⟨ob,4,none⟩),.slice (some ⟨bb,0,none⟩) N cap,.pointer (some ⟨ob,0,none⟩),.pointer (some ⟨ob,0,none⟩),.pointer (some ⟨ob,1,none⟩),.pointer (some ⟨ob,3,none⟩),.int .i64 V,j27,j28,j29,j30,j31,j32,j33,j34,j35,j36,j37],[]⟩ (.inRegion (qV (pth [1,1,1,0] (Try.f48.body.getD .skip))) (9::rest)::k)) cs) p Post)
  (hdone:∀S q v ok,F S q v ok->qR Try.prog S (G ((base 48).at ⟨#[j0,j1,j2,j3,j4,j5,.pointer (some ⟨ob,0,none⟩),v,.bool ok,j9,j10,j11,j12,j13,j14,j15,j16,.tuple #[v,.bool ok],.pointer (some ⟨ob,0,none⟩),.pointer (some ⟨ob,0,none⟩),.pointer (some ⟨ob,4,none⟩),.slice (some ⟨bb,0,none⟩) N cap,.pointer (some ⟨ob,0,none⟩),.pointer (some ⟨ob,0,none⟩),.pointer (some ⟨ob,1,none⟩),.pointer (some ⟨ob,3,none⟩),.int .i64 V,.tuple #[v,.bool ok],v,.bool ok,j30,j31,j32,j33,j34,j35,j36,j37],[]⟩ (.inRegion (qV (pth [1,1,1,0] (Try.f48.body.getD .skip))) []::k)) cs) q Post):
  NextB Try.prog (base 48) (qV (pth [1,1,1,0] (Try.f48.body.getD .skip))) k cs Post (ObSt ob bb N cap V F Sh p j0 j1 j2 j3 j4 j5 j7 j8 j9 j10 j11 j12 j13 j14 j15 j16 j17 j18 j19 j20 j21 j22 j23 j24 j25 j26 j27 j28 j29 j30 j31 j32 j33 j34 j35 j36 j37):=by
 intro n0 listed a S0 q0 h;cases h with
 |s000000000000000=>
  have hr0:Region.ready .any (qV (pth [1,1,1,0] (Try.f48.body.getD .skip))) #[false,false,false,false,false,false,false,false,false,false,false,false,false,false,false]= [0,4]:=by kernel_rfl
  refine⟨fun h=>?_,fun m hm i hi rest hr=>?_⟩
  ·rcases h with h|h
   ·cases h
   ·rw[hr0]at h;cases h
  ·obtain rfl:=Nat.succ.inj hm;rw[hr0]at hi;simp only[List.mem_cons,List.not_mem_nil,or_false]at hi;rcases hi with rfl|rfl
   ·refine qR.o qJ (by kernel_rfl) rfl rfl (fun τ d Kx hKx=>?_);simp only[Try.f48,Option.getD_some,pth,qV]at hr⊢;clear hr0 hdone hcall;go_simp;refine hKx _ _ ?_;try walk_nrm
    exact qR.re (hr _ _ _ ObSt.s100000000000000) _ _
   ·refine qR.o qJ (by kernel_rfl) rfl rfl (fun τ d Kx hKx=>?_);simp only[Try.f48,Option.getD_some,pth,qV]at hr⊢;clear hr0 hdone hcall;go_simp;refine hKx _ _ ?_;try walk_nrm
    exact qR.re (hr _ _ _ ObSt.s000010000000000) _ _
 |s100000000000000=>
  have hr0:Region.ready .any (qV (pth [1,1,1,0] (Try.f48.body.getD .skip))) #[true,false,false,false,false,false,false,false,false,false,false,false,false,false,false]= [1,4]:=by kernel_rfl
  refine⟨fun h=>?_,fun m hm i hi rest hr=>?_⟩
  ·rcases h with h|h
   ·cases h
   ·rw[hr0]at h;cases h
  ·obtain rfl:=Nat.succ.inj hm;rw[hr0]at hi;simp only[List.mem_cons,List.not_mem_nil,or_false]at hi;rcases hi with rfl|rfl
   ·refine qR.o qJ (by kernel_rfl) rfl rfl (fun τ d Kx hKx=>?_);simp only[Try.f48,Option.getD_some,pth,qV]at hr⊢;clear hr0 hdone hcall;go_simp;refine hKx _ _ ?_;try walk_nrm
    exact qR.re (hr _ _ _ ObSt.s110000000000000) _ _
   ·refine qR.o qJ (by kernel_rfl) rfl rfl (fun τ d Kx hKx=>?_);simp only[Try.f48,Option.getD_some,pth,qV]at hr⊢;clear hr0 hdone hcall;go_simp;refine hKx _ _ ?_;try walk_nrm
    exact qR.re (hr _ _ _ ObSt.s100010000000000) _ _
 |s000010000000000=>
  have hr0:Region.ready .any (qV (pth [1,1,1,0] (Try.f48.body.getD .skip))) #[false,false,false,false,true,false,false,false,false,false,false,false,false,false,false]= [0,5]:=by kernel_rfl
  refine⟨fun h=>?_,fun m hm i hi rest hr=>?_⟩
  ·rcases h with h|h
   ·cases h
   ·rw[hr0]at h;cases h
  ·obtain rfl:=Nat.succ.inj hm;rw[hr0]at hi;simp only[List.mem_cons,List.not_mem_nil,or_false]at hi;rcases hi with rfl|rfl
   ·refine qR.o qJ (by kernel_rfl) rfl rfl (fun τ d Kx hKx=>?_);simp only[Try.f48,Option.getD_some,pth,qV]at hr⊢;clear hr0 hdone hcall;go_simp;refine hKx _ _ ?_;try walk_nrm
    exact qR.re (hr _ _ _ ObSt.s100010000000000) _ _
   ·refine qR.o qJ (by kernel_rfl) rfl rfl (fun τ d Kx hKx=>?_);simp only[Try.f48,Option.getD_some,pth,qV]at hr⊢;clear hr0 hdone hcall;go_simp;refine hKx _ _ ?_;try walk_nrm
    exact qR.re (hr _ _ _ ObSt.s000011000000000) _ _
 |s110000000000000=>
  have hr0:Region.ready .any (qV (pth [1,1,1,0] (Try.f48.body.getD .skip))) #[true,true,false,false,false,false,false,false,false,false,false,false,false,false,false]= [2,4]:=by kernel_rfl
  refine⟨fun h=>?_,fun m hm i hi rest hr=>?_⟩
  ·rcases h with h|h
   ·cases h
   ·rw[hr0]at h;cases h
  ·obtain rfl:=Nat.succ.inj hm;rw[hr0]at hi;simp only[List.mem_cons,List.not_mem_nil,or_false]at hi;rcases hi with rfl|rfl
   ·refine qR.o qJ (by kernel_rfl) rfl rfl (fun τ d Kx hKx=>?_);simp only[Try.f48,Option.getD_some,pth,qV]at hr⊢;clear hr0 hdone hcall;go_simp;refine hKx _ _ ?_;try walk_nrm
    exact qR.re (hr _ _ _ ObSt.s111000000000000) _ _
   ·refine qR.o qJ (by kernel_rfl) rfl rfl (fun τ d Kx hKx=>?_);simp only[Try.f48,Option.getD_some,pth,qV]at hr⊢;clear hr0 hdone hcall;go_simp;refine hKx _ _ ?_;try walk_nrm
    exact qR.re (hr _ _ _ ObSt.s110010000000000) _ _
 |s100010000000000=>
  have hr0:Region.ready .any (qV (pth [1,1,1,0] (Try.f48.body.getD .skip))) #[true,false,false,false,true,false,false,false,false,false,false,false,false,false,false]= [1,5]:=by kernel_rfl
  refine⟨fun h=>?_,fun m hm i hi rest hr=>?_⟩
  ·rcases h with h|h
   ·cases h
   ·rw[hr0]at h;cases h
  ·obtain rfl:=Nat.succ.inj hm;rw[hr0]at hi;simp only[List.mem_cons,List.not_mem_nil,or_false]at hi;rcases hi with rfl|rfl
   ·refine qR.o qJ (by kernel_rfl) rfl rfl (fun τ d Kx hKx=>?_);simp only[Try.f48,Option.getD_some,pth,qV]at hr⊢;clear hr0 hdone hcall;go_simp;refine hKx _ _ ?_;try walk_nrm
    exact qR.re (hr _ _ _ ObSt.s110010000000000) _ _
   ·refine qR.o qJ (by kernel_rfl) rfl rfl (fun τ d Kx hKx=>?_);simp only[Try.f48,Option.getD_some,pth,qV]at hr⊢;clear hr0 hdone hcall;go_simp;refine hKx _ _ ?_;try walk_nrm
    exact qR.re (hr _ _ _ ObSt.s100011000000000) _ _
 |s000011000000000=>
  have hr0:Region.ready .any (qV (pth [1,1,1,0] (Try.f48.body.getD .skip))) #[false,false,false,false,true,true,false,false,false,false,false,false,false,false,false]= [0,6]:=by kernel_rfl
  refine⟨fun h=>?_,fun m hm i hi rest hr=>?_⟩
  ·rcases h with h|h
   ·cases h
   ·rw[hr0]at h;cases h
  ·obtain rfl:=Nat.succ.inj hm;rw[hr0]at hi;simp only[List.mem_cons,List.not_mem_nil,or_false]at hi;rcases hi with rfl|rfl
   ·refine qR.o qJ (by kernel_rfl) rfl rfl (fun τ d Kx hKx=>?_);simp only[Try.f48,Option.getD_some,pth,qV]at hr⊢;clear hr0 hdone hcall;go_simp;refine hKx _ _ ?_;try walk_nrm
    exact qR.re (hr _ _ _ ObSt.s100011000000000) _ _
   ·refine qR.o qJ (by kernel_rfl) rfl rfl (fun τ d Kx hKx=>?_);simp only[Try.f48,Option.getD_some,pth,qV]at hr⊢;clear hr0 hdone hcall;go_simp;refine hKx _ _ ?_;try walk_nrm
    exact qR.re (hr _ _ _ ObSt.s000011100000000) _ _
 |s111000000000000=>
  have hr0:Region.ready .any (qV (pth [1,1,1,0] (Try.f48.body.getD .skip))) #[true,true,true,false,false,false,false,false,false,false,false,false,false,false,false]= [3,4]:=by kernel_rfl
  refine⟨fun h=>?_,fun m hm i hi rest hr=>?_⟩
  ·rcases h with h|h
   ·cases h
   ·rw[hr0]at h;cases h
  ·obtain rfl:=Nat.succ.inj hm;rw[hr0]at hi;simp only[List.mem_cons,List.not_mem_nil,or_false]at hi;rcases hi with rfl|rfl
   ·refine qR.o qJ (by kernel_rfl) rfl rfl (fun τ d Kx hKx=>?_);simp only[Try.f48,Option.getD_some,pth,qV]at hr⊢;have q1:(p.re τ d).cell? ⟨ob,4,none⟩=some (.slice (some ⟨bb,0,none⟩) N cap):=hc4;clear hr0 hdone hcall;go_simp;refine hKx _ _ ?_;try walk_nrm
    exact qR.re (hr _ _ _ ObSt.s111100000000000) _ _
   ·refine qR.o qJ (by kernel_rfl) rfl rfl (fun τ d Kx hKx=>?_);simp only[Try.f48,Option.getD_some,pth,qV]at hr⊢;clear hr0 hdone hcall;go_simp;refine hKx _ _ ?_;try walk_nrm
    exact qR.re (hr _ _ _ ObSt.s111010000000000) _ _
 |s110010000000000=>
  have hr0:Region.ready .any (qV (pth [1,1,1,0] (Try.f48.body.getD .skip))) #[true,true,false,false,true,false,false,false,false,false,false,false,false,false,false]= [2,5]:=by kernel_rfl
  refine⟨fun h=>?_,fun m hm i hi rest hr=>?_⟩
  ·rcases h with h|h
   ·cases h
   ·rw[hr0]at h;cases h
  ·obtain rfl:=Nat.succ.inj hm;rw[hr0]at hi;simp only[List.mem_cons,List.not_mem_nil,or_false]at hi;rcases hi with rfl|rfl
   ·refine qR.o qJ (by kernel_rfl) rfl rfl (fun τ d Kx hKx=>?_);simp only[Try.f48,Option.getD_some,pth,qV]at hr⊢;clear hr0 hdone hcall;go_simp;refine hKx _ _ ?_;try walk_nrm
    exact qR.re (hr _ _ _ ObSt.s111010000000000) _ _
   ·refine qR.o qJ (by kernel_rfl) rfl rfl (fun τ d Kx hKx=>?_);simp only[Try.f48,Option.getD_some,pth,qV]at hr⊢;clear hr0 hdone hcall;go_simp;refine hKx _ _ ?_;try walk_nrm
    exact qR.re (hr _ _ _ ObSt.s110011000000000) _ _
 |s100011000000000=>
  have hr0:Region.ready .any (qV (pth [1,1,1,0] (Try.f48.body.getD .skip))) #[true,false,false,false,true,true,false,false,false,false,false,false,false,false,false]= [1,6]:=by kernel_rfl
  refine⟨fun h=>?_,fun m hm i hi rest hr=>?_⟩
  ·rcases h with h|h
   ·cases h
   ·rw[hr0]at h;cases h
  ·obtain rfl:=Nat.succ.inj hm;rw[hr0]at hi;simp only[List.mem_cons,List.not_mem_nil,or_false]at hi;rcases hi with rfl|rfl
   ·refine qR.o qJ (by kernel_rfl) rfl rfl (fun τ d Kx hKx=>?_);simp only[Try.f48,Option.getD_some,pth,qV]at hr⊢;clear hr0 hdone hcall;go_simp;refine hKx _ _ ?_;try walk_nrm
    exact qR.re (hr _ _ _ ObSt.s110011000000000) _ _
   ·refine qR.o qJ (by kernel_rfl) rfl rfl (fun τ d Kx hKx=>?_);simp only[Try.f48,Option.getD_some,pth,qV]at hr⊢;clear hr0 hdone hcall;go_simp;refine hKx _ _ ?_;try walk_nrm
    exact qR.re (hr _ _ _ ObSt.s100011100000000) _ _
 |s000011100000000=>
  have hr0:Region.ready .any (qV (pth [1,1,1,0] (Try.f48.body.getD .skip))) #[false,false,false,false,true,true,true,false,false,false,false,false,false,false,false]= [0,7]:=by kernel_rfl
  refine⟨fun h=>?_,fun m hm i hi rest hr=>?_⟩
  ·rcases h with h|h
   ·cases h
   ·rw[hr0]at h;cases h
  ·obtain rfl:=Nat.succ.inj hm;rw[hr0]at hi;simp only[List.mem_cons,List.not_mem_nil,or_false]at hi;rcases hi with rfl|rfl
   ·refine qR.o qJ (by kernel_rfl) rfl rfl (fun τ d Kx hKx=>?_);simp only[Try.f48,Option.getD_some,pth,qV]at hr⊢;clear hr0 hdone hcall;go_simp;refine hKx _ _ ?_;try walk_nrm
    exact qR.re (hr _ _ _ ObSt.s100011100000000) _ _
   ·refine qR.o qJ (by kernel_rfl) rfl rfl (fun τ d Kx hKx=>?_);simp only[Try.f48,Option.getD_some,pth,qV]at hr⊢;clear hr0 hdone hcall;go_simp;refine hKx _ _ ?_;try walk_nrm
    exact qR.re (hr _ _ _ ObSt.s000011110000000) _ _
 |s111100000000000=>
  have hr0:Region.ready .any (qV (pth [1,1,1,0] (Try.f48.body.getD .skip))) #[true,true,true,true,false,false,false,false,false,false,false,false,false,false,false]= [4]:=by kernel_rfl
  refine⟨fun h=>?_,fun m hm i hi rest hr=>?_⟩
  ·rcases h with h|h
   ·cases h
   ·rw[hr0]at h;cases h
  ·obtain rfl:=Nat.succ.inj hm;rw[hr0]at hi;simp only[List.mem_cons,List.not_mem_nil,or_false]at hi;obtain rfl:=hi
   ·refine qR.o qJ (by kernel_rfl) rfl rfl (fun τ d Kx hKx=>?_);simp only[Try.f48,Option.getD_some,pth,qV]at hr⊢;clear hr0 hdone hcall;go_simp;refine hKx _ _ ?_;try walk_nrm
    exact qR.re (hr _ _ _ ObSt.s111110000000000) _ _
 |s111010000000000=>
  have hr0:Region.ready .any (qV (pth [1,1,1,0] (Try.f48.body.getD .skip))) #[true,true,true,false,true,false,false,false,false,false,false,false,false,false,false]= [3,5]:=by kernel_rfl
  refine⟨fun h=>?_,fun m hm i hi rest hr=>?_⟩
  ·rcases h with h|h
   ·cases h
   ·rw[hr0]at h;cases h
  ·obtain rfl:=Nat.succ.inj hm;rw[hr0]at hi;simp only[List.mem_cons,List.not_mem_nil,or_false]at hi;rcases hi with rfl|rfl
   ·refine qR.o qJ (by kernel_rfl) rfl rfl (fun τ d Kx hKx=>?_);simp only[Try.f48,Option.getD_some,pth,qV]at hr⊢;have q1:(p.re τ d).cell? ⟨ob,4,none⟩=some (.slice (some ⟨bb,0,none⟩) N cap):=hc4;clear hr0 hdone hcall;go_simp;refine hKx _ _ ?_;try walk_nrm
    exact qR.re (hr _ _ _ ObSt.s111110000000000) _ _
   ·refine qR.o qJ (by kernel_rfl) rfl rfl (fun τ d Kx hKx=>?_);simp only[Try.f48,Option.getD_some,pth,qV]at hr⊢;clear hr0 hdone hcall;go_simp;refine hKx _ _ ?_;try walk_nrm
    exact qR.re (hr _ _ _ ObSt.s111011000000000) _ _
 |s110011000000000=>
  have hr0:Region.ready .any (qV (pth [1,1,1,0] (Try.f48.body.getD .skip))) #[true,true,false,false,true,true,false,false,false,false,false,false,false,false,false]= [2,6]:=by kernel_rfl
  refine⟨fun h=>?_,fun m hm i hi rest hr=>?_⟩
  ·rcases h with h|h
   ·cases h
   ·rw[hr0]at h;cases h
  ·obtain rfl:=Nat.succ.inj hm;rw[hr0]at hi;simp only[List.mem_cons,List.not_mem_nil,or_false]at hi;rcases hi with rfl|rfl
   ·refine qR.o qJ (by kernel_rfl) rfl rfl (fun τ d Kx hKx=>?_);simp only[Try.f48,Option.getD_some,pth,qV]at hr⊢;clear hr0 hdone hcall;go_simp;refine hKx _ _ ?_;try walk_nrm
    exact qR.re (hr _ _ _ ObSt.s111011000000000) _ _
   ·refine qR.o qJ (by kernel_rfl) rfl rfl (fun τ d Kx hKx=>?_);simp only[Try.f48,Option.getD_some,pth,qV]at hr⊢;clear hr0 hdone hcall;go_simp;refine hKx _ _ ?_;try walk_nrm
    exact qR.re (hr _ _ _ ObSt.s110011100000000) _ _
 |s100011100000000=>
  have hr0:Region.ready .any (qV (pth [1,1,1,0] (Try.f48.body.getD .skip))) #[true,false,false,false,true,true,true,false,false,false,false,false,false,false,false]= [1,7]:=by kernel_rfl
  refine⟨fun h=>?_,fun m hm i hi rest hr=>?_⟩
  ·rcases h with h|h
   ·cases h
   ·rw[hr0]at h;cases h
  ·obtain rfl:=Nat.succ.inj hm;rw[hr0]at hi;simp only[List.mem_cons,List.not_mem_nil,or_false]at hi;rcases hi with rfl|rfl
   ·refine qR.o qJ (by kernel_rfl) rfl rfl (fun τ d Kx hKx=>?_);simp only[Try.f48,Option.getD_some,pth,qV]at hr⊢;clear hr0 hdone hcall;go_simp;refine hKx _ _ ?_;try walk_nrm
    exact qR.re (hr _ _ _ ObSt.s110011100000000) _ _
   ·refine qR.o qJ (by kernel_rfl) rfl rfl (fun τ d Kx hKx=>?_);simp only[Try.f48,Option.getD_some,pth,qV]at hr⊢;clear hr0 hdone hcall;go_simp;refine hKx _ _ ?_;try walk_nrm
    exact qR.re (hr _ _ _ ObSt.s100011110000000) _ _
 |s000011110000000=>
  have hr0:Region.ready .any (qV (pth [1,1,1,0] (Try.f48.body.getD .skip))) #[false,false,false,false,true,true,true,true,false,false,false,false,false,false,false]= [0,8]:=by kernel_rfl
  refine⟨fun h=>?_,fun m hm i hi rest hr=>?_⟩
  ·rcases h with h|h
   ·cases h
   ·rw[hr0]at h;cases h
  ·obtain rfl:=Nat.succ.inj hm;rw[hr0]at hi;simp only[List.mem_cons,List.not_mem_nil,or_false]at hi;rcases hi with rfl|rfl
   ·refine qR.o qJ (by kernel_rfl) rfl rfl (fun τ d Kx hKx=>?_);simp only[Try.f48,Option.getD_some,pth,qV]at hr⊢;clear hr0 hdone hcall;go_simp;refine hKx _ _ ?_;try walk_nrm
    exact qR.re (hr _ _ _ ObSt.s100011110000000) _ _
   ·refine qR.o qJ (by kernel_rfl) rfl rfl (fun τ d Kx hKx=>?_);simp only[Try.f48,Option.getD_some,pth,qV]at hr⊢;have q1:(p.re τ d).cell? ⟨ob,3,none⟩=some (.int .i64 V):=hc3;clear hr0 hdone hcall;go_simp;refine hKx _ _ ?_;try walk_nrm
    exact qR.re (hr _ _ _ ObSt.s000011111000000) _ _
 |s111110000000000=>
  have hr0:Region.ready .any (qV (pth [1,1,1,0] (Try.f48.body.getD .skip))) #[true,true,true,true,true,false,false,false,false,false,false,false,false,false,false]= [5]:=by kernel_rfl
  refine⟨fun h=>?_,fun m hm i hi rest hr=>?_⟩
  ·rcases h with h|h
   ·cases h
   ·rw[hr0]at h;cases h
  ·obtain rfl:=Nat.succ.inj hm;rw[hr0]at hi;simp only[List.mem_cons,List.not_mem_nil,or_false]at hi;obtain rfl:=hi
   ·refine qR.o qJ (by kernel_rfl) rfl rfl (fun τ d Kx hKx=>?_);simp only[Try.f48,Option.getD_some,pth,qV]at hr⊢;clear hr0 hdone hcall;go_simp;refine hKx _ _ ?_;try walk_nrm
    exact qR.re (hr _ _ _ ObSt.s111111000000000) _ _
 |s111011000000000=>
  have hr0:Region.ready .any (qV (pth [1,1,1,0] (Try.f48.body.getD .skip))) #[true,true,true,false,true,true,false,false,false,false,false,false,false,false,false]= [3,6]:=by kernel_rfl
  refine⟨fun h=>?_,fun m hm i hi rest hr=>?_⟩
  ·rcases h with h|h
   ·cases h
   ·rw[hr0]at h;cases h
  ·obtain rfl:=Nat.succ.inj hm;rw[hr0]at hi;simp only[List.mem_cons,List.not_mem_nil,or_false]at hi;rcases hi with rfl|rfl
   ·refine qR.o qJ (by kernel_rfl) rfl rfl (fun τ d Kx hKx=>?_);simp only[Try.f48,Option.getD_some,pth,qV]at hr⊢;have q1:(p.re τ d).cell? ⟨ob,4,none⟩=some (.slice (some ⟨bb,0,none⟩) N cap):=hc4;clear hr0 hdone hcall;go_simp;refine hKx _ _ ?_;try walk_nrm
    exact qR.re (hr _ _ _ ObSt.s111111000000000) _ _
   ·refine qR.o qJ (by kernel_rfl) rfl rfl (fun τ d Kx hKx=>?_);simp only[Try.f48,Option.getD_some,pth,qV]at hr⊢;clear hr0 hdone hcall;go_simp;refine hKx _ _ ?_;try walk_nrm
    exact qR.re (hr _ _ _ ObSt.s111011100000000) _ _
 |s110011100000000=>
  have hr0:Region.ready .any (qV (pth [1,1,1,0] (Try.f48.body.getD .skip))) #[true,true,false,false,true,true,true,false,false,false,false,false,false,false,false]= [2,7]:=by kernel_rfl
  refine⟨fun h=>?_,fun m hm i hi rest hr=>?_⟩
  ·rcases h with h|h
   ·cases h
   ·rw[hr0]at h;cases h
  ·obtain rfl:=Nat.succ.inj hm;rw[hr0]at hi;simp only[List.mem_cons,List.not_mem_nil,or_false]at hi;rcases hi with rfl|rfl
   ·refine qR.o qJ (by kernel_rfl) rfl rfl (fun τ d Kx hKx=>?_);simp only[Try.f48,Option.getD_some,pth,qV]at hr⊢;clear hr0 hdone hcall;go_simp;refine hKx _ _ ?_;try walk_nrm
    exact qR.re (hr _ _ _ ObSt.s111011100000000) _ _
   ·refine qR.o qJ (by kernel_rfl) rfl rfl (fun τ d Kx hKx=>?_);simp only[Try.f48,Option.getD_some,pth,qV]at hr⊢;clear hr0 hdone hcall;go_simp;refine hKx _ _ ?_;try walk_nrm
    exact qR.re (hr _ _ _ ObSt.s110011110000000) _ _
 |s100011110000000=>
  have hr0:Region.ready .any (qV (pth [1,1,1,0] (Try.f48.body.getD .skip))) #[true,false,false,false,true,true,true,true,false,false,false,false,false,false,false]= [1,8]:=by kernel_rfl
  refine⟨fun h=>?_,fun m hm i hi rest hr=>?_⟩
  ·rcases h with h|h
   ·cases h
   ·rw[hr0]at h;cases h
  ·obtain rfl:=Nat.succ.inj hm;rw[hr0]at hi;simp only[List.mem_cons,List.not_mem_nil,or_false]at hi;rcases hi with rfl|rfl
   ·refine qR.o qJ (by kernel_rfl) rfl rfl (fun τ d Kx hKx=>?_);simp only[Try.f48,Option.getD_some,pth,qV]at hr⊢;clear hr0 hdone hcall;go_simp;refine hKx _ _ ?_;try walk_nrm
    exact qR.re (hr _ _ _ ObSt.s110011110000000) _ _
   ·refine qR.o qJ (by kernel_rfl) rfl rfl (fun τ d Kx hKx=>?_);simp only[Try.f48,Option.getD_some,pth,qV]at hr⊢;have q1:(p.re τ d).cell? ⟨ob,3,none⟩=some (.int .i64 V):=hc3;clear hr0 hdone hcall;go_simp;refine hKx _ _ ?_;try walk_nrm
    exact qR.re (hr _ _ _ ObSt.s100011111000000) _ _
 |s000011111000000=>
  have hr0:Region.ready .any (qV (pth [1,1,1,0] (Try.f48.body.getD .skip))) #[false,false,false,false,true,true,true,true,true,false,false,false,false,false,false]= [0]:=by kernel_rfl
  refine⟨fun h=>?_,fun m hm i hi rest hr=>?_⟩
  ·rcases h with h|h
   ·cases h
   ·rw[hr0]at h;cases h
  ·obtain rfl:=Nat.succ.inj hm;rw[hr0]at hi;simp only[List.mem_cons,List.not_mem_nil,or_false]at hi;obtain rfl:=hi
   ·refine qR.o qJ (by kernel_rfl) rfl rfl (fun τ d Kx hKx=>?_);simp only[Try.f48,Option.getD_some,pth,qV]at hr⊢;clear hr0 hdone hcall;go_simp;refine hKx _ _ ?_;try walk_nrm
    exact qR.re (hr _ _ _ ObSt.s100011111000000) _ _
 |s111111000000000=>
  have hr0:Region.ready .any (qV (pth [1,1,1,0] (Try.f48.body.getD .skip))) #[true,true,true,true,true,true,false,false,false,false,false,false,false,false,false]= [6]:=by kernel_rfl
  refine⟨fun h=>?_,fun m hm i hi rest hr=>?_⟩
  ·rcases h with h|h
   ·cases h
   ·rw[hr0]at h;cases h
  ·obtain rfl:=Nat.succ.inj hm;rw[hr0]at hi;simp only[List.mem_cons,List.not_mem_nil,or_false]at hi;obtain rfl:=hi
   ·refine qR.o qJ (by kernel_rfl) rfl rfl (fun τ d Kx hKx=>?_);simp only[Try.f48,Option.getD_some,pth,qV]at hr⊢;clear hr0 hdone hcall;go_simp;refine hKx _ _ ?_;try walk_nrm
    exact qR.re (hr _ _ _ ObSt.s111111100000000) _ _
 |s111011100000000=>
  have hr0:Region.ready .any (qV (pth [1,1,1,0] (Try.f48.body.getD .skip))) #[true,true,true,false,true,true,true,false,false,false,false,false,false,false,false]= [3,7]:=by kernel_rfl
  refine⟨fun h=>?_,fun m hm i hi rest hr=>?_⟩
  ·rcases h with h|h
   ·cases h
   ·rw[hr0]at h;cases h
  ·obtain rfl:=Nat.succ.inj hm;rw[hr0]at hi;simp only[List.mem_cons,List.not_mem_nil,or_false]at hi;rcases hi with rfl|rfl
   ·refine qR.o qJ (by kernel_rfl) rfl rfl (fun τ d Kx hKx=>?_);simp only[Try.f48,Option.getD_some,pth,qV]at hr⊢;have q1:(p.re τ d).cell? ⟨ob,4,none⟩=some (.slice (some ⟨bb,0,none⟩) N cap):=hc4;clear hr0 hdone hcall;go_simp;refine hKx _ _ ?_;try walk_nrm
    exact qR.re (hr _ _ _ ObSt.s111111100000000) _ _
   ·refine qR.o qJ (by kernel_rfl) rfl rfl (fun τ d Kx hKx=>?_);simp only[Try.f48,Option.getD_some,pth,qV]at hr⊢;clear hr0 hdone hcall;go_simp;refine hKx _ _ ?_;try walk_nrm
    exact qR.re (hr _ _ _ ObSt.s111011110000000) _ _
 |s110011110000000=>
  have hr0:Region.ready .any (qV (pth [1,1,1,0] (Try.f48.body.getD .skip))) #[true,true,false,false,true,true,true,true,false,false,false,false,false,false,false]= [2,8]:=by kernel_rfl
  refine⟨fun h=>?_,fun m hm i hi rest hr=>?_⟩
  ·rcases h with h|h
   ·cases h
   ·rw[hr0]at h;cases h
  ·obtain rfl:=Nat.succ.inj hm;rw[hr0]at hi;simp only[List.mem_cons,List.not_mem_nil,or_false]at hi;rcases hi with rfl|rfl
   ·refine qR.o qJ (by kernel_rfl) rfl rfl (fun τ d Kx hKx=>?_);simp only[Try.f48,Option.getD_some,pth,qV]at hr⊢;clear hr0 hdone hcall;go_simp;refine hKx _ _ ?_;try walk_nrm
    exact qR.re (hr _ _ _ ObSt.s111011110000000) _ _
   ·refine qR.o qJ (by kernel_rfl) rfl rfl (fun τ d Kx hKx=>?_);simp only[Try.f48,Option.getD_some,pth,qV]at hr⊢;have q1:(p.re τ d).cell? ⟨ob,3,none⟩=some (.int .i64 V):=hc3;clear hr0 hdone hcall;go_simp;refine hKx _ _ ?_;try walk_nrm
    exact qR.re (hr _ _ _ ObSt.s110011111000000) _ _
 |s100011111000000=>
  have hr0:Region.ready .any (qV (pth [1,1,1,0] (Try.f48.body.getD .skip))) #[true,false,false,false,true,true,true,true,true,false,false,false,false,false,false]= [1]:=by kernel_rfl
  refine⟨fun h=>?_,fun m hm i hi rest hr=>?_⟩
  ·rcases h with h|h
   ·cases h
   ·rw[hr0]at h;cases h
  ·obtain rfl:=Nat.succ.inj hm;rw[hr0]at hi;simp only[List.mem_cons,List.not_mem_nil,or_false]at hi;obtain rfl:=hi
   ·refine qR.o qJ (by kernel_rfl) rfl rfl (fun τ d Kx hKx=>?_);simp only[Try.f48,Option.getD_some,pth,qV]at hr⊢;clear hr0 hdone hcall;go_simp;refine hKx _ _ ?_;try walk_nrm
    exact qR.re (hr _ _ _ ObSt.s110011111000000) _ _
 |s111111100000000=>
  have hr0:Region.ready .any (qV (pth [1,1,1,0] (Try.f48.body.getD .skip))) #[true,true,true,true,true,true,true,false,false,false,false,false,false,false,false]= [7]:=by kernel_rfl
  refine⟨fun h=>?_,fun m hm i hi rest hr=>?_⟩
  ·rcases h with h|h
   ·cases h
   ·rw[hr0]at h;cases h
  ·obtain rfl:=Nat.succ.inj hm;rw[hr0]at hi;simp only[List.mem_cons,List.not_mem_nil,or_false]at hi;obtain rfl:=hi
   ·refine qR.o qJ (by kernel_rfl) rfl rfl (fun τ d Kx hKx=>?_);simp only[Try.f48,Option.getD_some,pth,qV]at hr⊢;clear hr0 hdone hcall;go_simp;refine hKx _ _ ?_;try walk_nrm
    exact qR.re (hr _ _ _ ObSt.s111111110000000) _ _
 |s111011110000000=>
  have hr0:Region.ready .any (qV (pth [1,1,1,0] (Try.f48.body.getD .skip))) #[true,true,true,false,true,true,true,true,false,false,false,false,false,false,false]= [3,8]:=by kernel_rfl
  refine⟨fun h=>?_,fun m hm i hi rest hr=>?_⟩
  ·rcases h with h|h
   ·cases h
   ·rw[hr0]at h;cases h
  ·obtain rfl:=Nat.succ.inj hm;rw[hr0]at hi;simp only[List.mem_cons,List.not_mem_nil,or_false]at hi;rcases hi with rfl|rfl
   ·refine qR.o qJ (by kernel_rfl) rfl rfl (fun τ d Kx hKx=>?_);simp only[Try.f48,Option.getD_some,pth,qV]at hr⊢;have q1:(p.re τ d).cell? ⟨ob,4,none⟩=some (.slice (some ⟨bb,0,none⟩) N cap):=hc4;clear hr0 hdone hcall;go_simp;refine hKx _ _ ?_;try walk_nrm
    exact qR.re (hr _ _ _ ObSt.s111111110000000) _ _
   ·refine qR.o qJ (by kernel_rfl) rfl rfl (fun τ d Kx hKx=>?_);simp only[Try.f48,Option.getD_some,pth,qV]at hr⊢;have q1:(p.re τ d).cell? ⟨ob,3,none⟩=some (.int .i64 V):=hc3;clear hr0 hdone hcall;go_simp;refine hKx _ _ ?_;try walk_nrm
    exact qR.re (hr _ _ _ ObSt.s111011111000000) _ _
 |s110011111000000=>
  have hr0:Region.ready .any (qV (pth [1,1,1,0] (Try.f48.body.getD .skip))) #[true,true,false,false,true,true,true,true,true,false,false,false,false,false,false]= [2]:=by kernel_rfl
  refine⟨fun h=>?_,fun m hm i hi rest hr=>?_⟩
  ·rcases h with h|h
   ·cases h
   ·rw[hr0]at h;cases h
  ·obtain rfl:=Nat.succ.inj hm;rw[hr0]at hi;simp only[List.mem_cons,List.not_mem_nil,or_false]at hi;obtain rfl:=hi
   ·refine qR.o qJ (by kernel_rfl) rfl rfl (fun τ d Kx hKx=>?_);simp only[Try.f48,Option.getD_some,pth,qV]at hr⊢;clear hr0 hdone hcall;go_simp;refine hKx _ _ ?_;try walk_nrm
    exact qR.re (hr _ _ _ ObSt.s111011111000000) _ _
 |s111111110000000=>
  have hr0:Region.ready .any (qV (pth [1,1,1,0] (Try.f48.body.getD .skip))) #[true,true,true,true,true,true,true,true,false,false,false,false,false,false,false]= [8]:=by kernel_rfl
  refine⟨fun h=>?_,fun m hm i hi rest hr=>?_⟩
  ·rcases h with h|h
   ·cases h
   ·rw[hr0]at h;cases h
  ·obtain rfl:=Nat.succ.inj hm;rw[hr0]at hi;simp only[List.mem_cons,List.not_mem_nil,or_false]at hi;obtain rfl:=hi
   ·refine qR.o qJ (by kernel_rfl) rfl rfl (fun τ d Kx hKx=>?_);simp only[Try.f48,Option.getD_some,pth,qV]at hr⊢;have q1:(p.re τ d).cell? ⟨ob,3,none⟩=some (.int .i64 V):=hc3;clear hr0 hdone hcall;go_simp;refine hKx _ _ ?_;try walk_nrm
    exact qR.re (hr _ _ _ ObSt.s111111111000000) _ _
 |s111011111000000=>
  have hr0:Region.ready .any (qV (pth [1,1,1,0] (Try.f48.body.getD .skip))) #[true,true,true,false,true,true,true,true,true,false,false,false,false,false,false]= [3]:=by kernel_rfl
  refine⟨fun h=>?_,fun m hm i hi rest hr=>?_⟩
  ·rcases h with h|h
   ·cases h
   ·rw[hr0]at h;cases h
  ·obtain rfl:=Nat.succ.inj hm;rw[hr0]at hi;simp only[List.mem_cons,List.not_mem_nil,or_false]at hi;obtain rfl:=hi
   ·refine qR.o qJ (by kernel_rfl) rfl rfl (fun τ d Kx hKx=>?_);simp only[Try.f48,Option.getD_some,pth,qV]at hr⊢;have q1:(p.re τ d).cell? ⟨ob,4,none⟩=some (.slice (some ⟨bb,0,none⟩) N cap):=hc4;clear hr0 hdone hcall;go_simp;refine hKx _ _ ?_;try walk_nrm
    exact qR.re (hr _ _ _ ObSt.s111111111000000) _ _
 |s111111111000000=>
  have hr0:Region.ready .any (qV (pth [1,1,1,0] (Try.f48.body.getD .skip))) #[true,true,true,true,true,true,true,true,true,false,false,false,false,false,false]= [9]:=by kernel_rfl
  refine⟨fun h=>?_,fun m hm i hi rest hr=>?_⟩
  ·rcases h with h|h
   ·cases h
   ·rw[hr0]at h;cases h
  ·obtain rfl:=Nat.succ.inj hm;rw[hr0]at hi;simp only[List.mem_cons,List.not_mem_nil,or_false]at hi;obtain rfl:=hi
   ·exact hcall rest hr
 |s111111111100000 _ _ v ok hF=>
  have hr0:Region.ready .any (qV (pth [1,1,1,0] (Try.f48.body.getD .skip))) #[true,true,true,true,true,true,true,true,true,true,false,false,false,false,false]= [10]:=by kernel_rfl
  refine⟨fun h=>?_,fun m hm i hi rest hr=>?_⟩
  ·rcases h with h|h
   ·cases h
   ·rw[hr0]at h;cases h
  ·obtain rfl:=Nat.succ.inj hm;rw[hr0]at hi;simp only[List.mem_cons,List.not_mem_nil,or_false]at hi;obtain rfl:=hi
   ·refine qR.o qJ (by kernel_rfl) rfl rfl (fun τ d Kx hKx=>?_);simp only[Try.f48,Option.getD_some,pth,qV]at hr⊢;clear hr0 hdone hcall;go_simp;refine hKx _ _ ?_;try walk_nrm
    exact qR.re (hr _ _ _ (ObSt.s111111111110000 _ _ v ok hF)) _ _
 |s111111111110000 _ _ v ok hF=>
  have hr0:Region.ready .any (qV (pth [1,1,1,0] (Try.f48.body.getD .skip))) #[true,true,true,true,true,true,true,true,true,true,true,false,false,false,false]= [11,12]:=by kernel_rfl
  refine⟨fun h=>?_,fun m hm i hi rest hr=>?_⟩
  ·rcases h with h|h
   ·cases h
   ·rw[hr0]at h;cases h
  ·obtain rfl:=Nat.succ.inj hm;rw[hr0]at hi;simp only[List.mem_cons,List.not_mem_nil,or_false]at hi;rcases hi with rfl|rfl
   ·refine qR.o qJ (by kernel_rfl) rfl rfl (fun τ d Kx hKx=>?_);simp only[Try.f48,Option.getD_some,pth,qV]at hr⊢;clear hr0 hdone hcall;go_simp;refine hKx _ _ ?_;try walk_nrm
    exact qR.re (hr _ _ _ (ObSt.s111111111111000 _ _ v ok hF)) _ _
   ·refine qR.o qJ (by kernel_rfl) rfl rfl (fun τ d Kx hKx=>?_);simp only[Try.f48,Option.getD_some,pth,qV]at hr⊢;clear hr0 hdone hcall;go_simp;refine hKx _ _ ?_;try walk_nrm
    exact qR.re (hr _ _ _ (ObSt.s111111111110100 _ _ v ok hF)) _ _
 |s111111111111000 _ _ v ok hF=>
  have hr0:Region.ready .any (qV (pth [1,1,1,0] (Try.f48.body.getD .skip))) #[true,true,true,true,true,true,true,true,true,true,true,true,false,false,false]= [12,13]:=by kernel_rfl
  refine⟨fun h=>?_,fun m hm i hi rest hr=>?_⟩
  ·rcases h with h|h
   ·cases h
   ·rw[hr0]at h;cases h
  ·obtain rfl:=Nat.succ.inj hm;rw[hr0]at hi;simp only[List.mem_cons,List.not_mem_nil,or_false]at hi;rcases hi with rfl|rfl
   ·refine qR.o qJ (by kernel_rfl) rfl rfl (fun τ d Kx hKx=>?_);simp only[Try.f48,Option.getD_some,pth,qV]at hr⊢;clear hr0 hdone hcall;go_simp;refine hKx _ _ ?_;try walk_nrm
    exact qR.re (hr _ _ _ (ObSt.s111111111111100 _ _ v ok hF)) _ _
   ·refine qR.o qJ (by kernel_rfl) rfl rfl (fun τ d Kx hKx=>?_);simp only[Try.f48,Option.getD_some,pth,qV]at hr⊢;clear hr0 hdone hcall;go_simp;refine hKx _ _ ?_;try walk_nrm
    exact qR.re (hr _ _ _ (ObSt.s111111111111010 _ _ v ok hF)) _ _
 |s111111111110100 _ _ v ok hF=>
  have hr0:Region.ready .any (qV (pth [1,1,1,0] (Try.f48.body.getD .skip))) #[true,true,true,true,true,true,true,true,true,true,true,false,true,false,false]= [11]:=by kernel_rfl
  refine⟨fun h=>?_,fun m hm i hi rest hr=>?_⟩
  ·rcases h with h|h
   ·cases h
   ·rw[hr0]at h;cases h
  ·obtain rfl:=Nat.succ.inj hm;rw[hr0]at hi;simp only[List.mem_cons,List.not_mem_nil,or_false]at hi;obtain rfl:=hi
   ·refine qR.o qJ (by kernel_rfl) rfl rfl (fun τ d Kx hKx=>?_);simp only[Try.f48,Option.getD_some,pth,qV]at hr⊢;clear hr0 hdone hcall;go_simp;refine hKx _ _ ?_;try walk_nrm
    exact qR.re (hr _ _ _ (ObSt.s111111111111100 _ _ v ok hF)) _ _
 |s111111111111100 _ _ v ok hF=>
  have hr0:Region.ready .any (qV (pth [1,1,1,0] (Try.f48.body.getD .skip))) #[true,true,true,true,true,true,true,true,true,true,true,true,true,false,false]= [13]:=by kernel_rfl
  refine⟨fun h=>?_,fun m hm i hi rest hr=>?_⟩
  ·rcases h with h|h
   ·cases h
   ·rw[hr0]at h;cases h
  ·obtain rfl:=Nat.succ.inj hm;rw[hr0]at hi;simp only[List.mem_cons,List.not_mem_nil,or_false]at hi;obtain rfl:=hi
   ·refine qR.o qJ (by kernel_rfl) rfl rfl (fun τ d Kx hKx=>?_);simp only[Try.f48,Option.getD_some,pth,qV]at hr⊢;clear hr0 hdone hcall;go_simp;refine hKx _ _ ?_;try walk_nrm
    exact qR.re (hr _ _ _ (ObSt.s111111111111110 _ _ v ok hF)) _ _
 |s111111111111010 _ _ v ok hF=>
  have hr0:Region.ready .any (qV (pth [1,1,1,0] (Try.f48.body.getD .skip))) #[true,true,true,true,true,true,true,true,true,true,true,true,false,true,false]= [12]:=by kernel_rfl
  refine⟨fun h=>?_,fun m hm i hi rest hr=>?_⟩
  ·rcases h with h|h
   ·cases h
   ·rw[hr0]at h;cases h
  ·obtain rfl:=Nat.succ.inj hm;rw[hr0]at hi;simp only[List.mem_cons,List.not_mem_nil,or_false]at hi;obtain rfl:=hi
   ·refine qR.o qJ (by kernel_rfl) rfl rfl (fun τ d Kx hKx=>?_);simp only[Try.f48,Option.getD_some,pth,qV]at hr⊢;clear hr0 hdone hcall;go_simp;refine hKx _ _ ?_;try walk_nrm
    exact qR.re (hr _ _ _ (ObSt.s111111111111110 _ _ v ok hF)) _ _
 |s111111111111110 _ _ v ok hF=>
  have hr0:Region.ready .any (qV (pth [1,1,1,0] (Try.f48.body.getD .skip))) #[true,true,true,true,true,true,true,true,true,true,true,true,true,true,false]= [14]:=by kernel_rfl
  refine⟨fun h=>?_,fun m hm i hi rest hr=>?_⟩
  ·rcases h with h|h
   ·cases h
   ·rw[hr0]at h;cases h
  ·obtain rfl:=Nat.succ.inj hm;rw[hr0]at hi;simp only[List.mem_cons,List.not_mem_nil,or_false]at hi;obtain rfl:=hi
   ·refine qR.o qJ (by kernel_rfl) rfl rfl (fun τ d Kx hKx=>?_);exact hKx _ _ (qR.re (hr _ _ _ (ObSt.s111111111111111 _ _ v ok hF)) _ _)
 |s111111111111111 _ _ v ok hF=>
  have hr0:Region.ready .any (qV (pth [1,1,1,0] (Try.f48.body.getD .skip))) #[true,true,true,true,true,true,true,true,true,true,true,true,true,true,true]= []:=by kernel_rfl
  exact⟨fun _=>hdone _ _ v ok hF,fun m hm=>by cases hm⟩
end Go.Proofs.Ytmfpiodlecapiaa
