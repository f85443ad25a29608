/- Texts of this seat. -/
import Derived.Test.YtfbambemjokmgaaGreatNBI
namespace Go.Proofs.YtfbambemjokmgaaGreat
set_option maxRecDepth 100000 in
theorem tb0_all : tb0.all chkE = true := by kernel_rfl
set_option maxRecDepth 100000 in
theorem tb1_all : tb1.all chkE = true := by kernel_rfl
set_option maxRecDepth 100000 in
theorem tb2_all : tb2.all chkE = true := by kernel_rfl
set_option maxRecDepth 100000 in
theorem tb3_all : tb3.all chkE = true := by kernel_rfl
set_option maxRecDepth 100000 in
theorem tb4_all : tb4.all chkE = true := by kernel_rfl
set_option maxRecDepth 100000 in
theorem tb5_all : tb5.all chkE = true := by kernel_rfl
set_option maxRecDepth 100000 in
theorem tb6_all : tb6.all chkE = true := by kernel_rfl
set_option maxRecDepth 100000 in
theorem tb7_all : tb7.all chkE = true := by kernel_rfl
set_option maxRecDepth 100000 in
theorem tb8_all : tb8.all chkE = true := by kernel_rfl
set_option maxRecDepth 100000 in
theorem tb9_all : tb9.all chkE = true := by kernel_rfl
set_option maxRecDepth 100000 in
theorem tb10_all : tb10.all chkE = true := by kernel_rfl
set_option maxRecDepth 100000 in
theorem tb11_all : tb11.all chkE = true := by kernel_rfl
set_option maxRecDepth 100000 in
theorem tb12_all : tb12.all chkE = true := by kernel_rfl
set_option maxRecDepth 100000 in
theorem tb13_all : tb13.all chkE = true := by kernel_rfl
set_option maxRecDepth 100000 in
theorem tb14_all : tb14.all chkE = true := by kernel_rfl
set_option maxRecDepth 100000 in
theorem tb15_all : tb15.all chkE = true := by kernel_rfl
end Go.Proofs.YtfbambemjokmgaaGreat
namespace Go.Proofs.YtfbambemjokmgaaGreat
set_option maxRecDepth 100000 in
theorem tb16_all : tb16.all chkE = true := by kernel_rfl
set_option maxRecDepth 100000 in
theorem tb17_all : tb17.all chkE = true := by kernel_rfl
set_option maxRecDepth 100000 in
theorem tb18_all : tb18.all chkE = true := by kernel_rfl
set_option maxRecDepth 100000 in
theorem tb19_all : tb19.all chkE = true := by kernel_rfl
set_option maxRecDepth 100000 in
theorem tb20_all : tb20.all chkE = true := by kernel_rfl
set_option maxRecDepth 100000 in
theorem tb21_all : tb21.all chkE = true := by kernel_rfl
set_option maxRecDepth 100000 in
theorem tb22_all : tb22.all chkE = true := by kernel_rfl
set_option maxRecDepth 100000 in
theorem tb23_all : tb23.all chkE = true := by kernel_rfl
set_option maxRecDepth 100000 in
theorem tb24_all : tb24.all chkE = true := by kernel_rfl
set_option maxRecDepth 100000 in
theorem tb25_all : tb25.all chkE = true := by kernel_rfl
set_option maxRecDepth 100000 in
theorem tb26_all : tb26.all chkE = true := by kernel_rfl
set_option maxRecDepth 100000 in
theorem tb27_all : tb27.all chkE = true := by kernel_rfl
set_option maxRecDepth 100000 in
theorem tb28_all : tb28.all chkE = true := by kernel_rfl
set_option maxRecDepth 100000 in
theorem tb29_all : tb29.all chkE = true := by kernel_rfl
set_option maxRecDepth 100000 in
theorem tb30_all : tb30.all chkE = true := by kernel_rfl
set_option maxRecDepth 100000 in
theorem tb31_all : tb31.all chkE = true := by kernel_rfl
theorem top0_all : chkE 73852 1 = true := by kernel_rfl
theorem top1_all : chkE 153879 1 = true := by kernel_rfl
theorem top2_all : chkE 367119 1 = true := by kernel_rfl
theorem top3_all : chkE 657283 0 = true := by kernel_rfl
theorem top4_all : chkE 1118236 2 = true := by kernel_rfl
theorem top5_all : chkE 2233960 4 = true := by kernel_rfl
theorem top6_all : chkE 2991224 1 = true := by kernel_rfl
theorem top7_all : chkE 3425427 3 = true := by kernel_rfl
theorem top8_all : chkE 4344195 2 = true := by kernel_rfl
theorem top9_all : chkE 12161044 2 = true := by kernel_rfl
theorem top10_all : chkE 20087920 3 = true := by kernel_rfl
theorem top11_all : chkE 35759456 4 = true := by kernel_rfl
theorem top12_all : chkE 36865155 3 = true := by kernel_rfl
theorem top13_all : chkE 160502800 4 = true := by kernel_rfl
theorem top14_all : chkE 295736416 7 = true := by kernel_rfl
theorem top15_all : chkE 4294968720 1 = true := by kernel_rfl
theorem top16_all : chkE 8590023179 2 = true := by kernel_rfl
theorem top17_all : chkE 8590612755 2 = true := by kernel_rfl
theorem top18_all : chkE 8594232579 6 = true := by kernel_rfl
theorem top19_all : chkE 8627050499 5 = true := by kernel_rfl
theorem top20_all : chkE 12885070343 2 = true := by kernel_rfl
theorem top21_all : chkE 17179885676 4 = true := by kernel_rfl
theorem top22_all : chkE 17180299308 1 = true := by kernel_rfl
theorem top23_all : chkE 17182331944 3 = true := by kernel_rfl
theorem top24_all : chkE 73015055384 4 = true := by kernel_rfl
theorem top25_all : chkE 81604662787 5 = true := by kernel_rfl
theorem top26_all : chkE 146029172747 3 = true := by kernel_rfl
theorem top27_all : chkE 150324019300 3 = true := by kernel_rfl
theorem top28_all : chkE 150326121504 5 = true := by kernel_rfl
theorem top29_all : chkE 1172526109704 5 = true := by kernel_rfl
theorem top30_all : chkE 1211180881923 5 = true := by kernel_rfl
theorem tbl_all : tbl.all chkE = true := by
  unfold tbl
  simp only [Tr.all, Bool.and_true, tb0_all, tb1_all, tb2_all, tb3_all, tb4_all, tb5_all, tb6_all, tb7_all, tb8_all, tb9_all, tb10_all, tb11_all, tb12_all, tb13_all, tb14_all, tb15_all, tb16_all, tb17_all, tb18_all, tb19_all, tb20_all, tb21_all, tb22_all, tb23_all, tb24_all, tb25_all, tb26_all, tb27_all, tb28_all, tb29_all, tb30_all, tb31_all, top0_all, top1_all, top2_all, top3_all, top4_all, top5_all, top6_all, top7_all, top8_all, top9_all, top10_all, top11_all, top12_all, top13_all, top14_all, top15_all, top16_all, top17_all, top18_all, top19_all, top20_all, top21_all, top22_all, top23_all, top24_all, top25_all, top26_all, top27_all, top28_all, top29_all, top30_all]
end Go.Proofs.YtfbambemjokmgaaGreat
namespace Go.Proofs.YtfbambemjokmgaaGreat
set_option maxRecDepth 100000 in
theorem tb0_prop : tb0.all (fun c _ => propE (Ed.of c)) = true := by kernel_rfl
set_option maxRecDepth 100000 in
theorem tb1_prop : tb1.all (fun c _ => propE (Ed.of c)) = true := by kernel_rfl
set_option maxRecDepth 100000 in
theorem tb2_prop : tb2.all (fun c _ => propE (Ed.of c)) = true := by kernel_rfl
set_option maxRecDepth 100000 in
theorem tb3_prop : tb3.all (fun c _ => propE (Ed.of c)) = true := by kernel_rfl
set_option maxRecDepth 100000 in
theorem tb4_prop : tb4.all (fun c _ => propE (Ed.of c)) = true := by kernel_rfl
set_option maxRecDepth 100000 in
theorem tb5_prop : tb5.all (fun c _ => propE (Ed.of c)) = true := by kernel_rfl
set_option maxRecDepth 100000 in
theorem tb6_prop : tb6.all (fun c _ => propE (Ed.of c)) = true := by kernel_rfl
set_option maxRecDepth 100000 in
theorem tb7_prop : tb7.all (fun c _ => propE (Ed.of c)) = true := by kernel_rfl
set_option maxRecDepth 100000 in
theorem tb8_prop : tb8.all (fun c _ => propE (Ed.of c)) = true := by kernel_rfl
set_option maxRecDepth 100000 in
theorem tb9_prop : tb9.all (fun c _ => propE (Ed.of c)) = true := by kernel_rfl
set_option maxRecDepth 100000 in
theorem tb10_prop : tb10.all (fun c _ => propE (Ed.of c)) = true := by kernel_rfl
set_option maxRecDepth 100000 in
theorem tb11_prop : tb11.all (fun c _ => propE (Ed.of c)) = true := by kernel_rfl
set_option maxRecDepth 100000 in
theorem tb12_prop : tb12.all (fun c _ => propE (Ed.of c)) = true := by kernel_rfl
set_option maxRecDepth 100000 in
theorem tb13_prop : tb13.all (fun c _ => propE (Ed.of c)) = true := by kernel_rfl
set_option maxRecDepth 100000 in
theorem tb14_prop : tb14.all (fun c _ => propE (Ed.of c)) = true := by kernel_rfl
set_option maxRecDepth 100000 in
theorem tb15_prop : tb15.all (fun c _ => propE (Ed.of c)) = true := by kernel_rfl
set_option maxRecDepth 100000 in
theorem tb16_prop : tb16.all (fun c _ => propE (Ed.of c)) = true := by kernel_rfl
set_option maxRecDepth 100000 in
theorem tb17_prop : tb17.all (fun c _ => propE (Ed.of c)) = true := by kernel_rfl
set_option maxRecDepth 100000 in
theorem tb18_prop : tb18.all (fun c _ => propE (Ed.of c)) = true := by kernel_rfl
set_option maxRecDepth 100000 in
theorem tb19_prop : tb19.all (fun c _ => propE (Ed.of c)) = true := by kernel_rfl
set_option maxRecDepth 100000 in
theorem tb20_prop : tb20.all (fun c _ => propE (Ed.of c)) = true := by kernel_rfl
set_option maxRecDepth 100000 in
theorem tb21_prop : tb21.all (fun c _ => propE (Ed.of c)) = true := by kernel_rfl
set_option maxRecDepth 100000 in
theorem tb22_prop : tb22.all (fun c _ => propE (Ed.of c)) = true := by kernel_rfl
set_option maxRecDepth 100000 in
theorem tb23_prop : tb23.all (fun c _ => propE (Ed.of c)) = true := by kernel_rfl
set_option maxRecDepth 100000 in
theorem tb24_prop : tb24.all (fun c _ => propE (Ed.of c)) = true := by kernel_rfl
set_option maxRecDepth 100000 in
theorem tb25_prop : tb25.all (fun c _ => propE (Ed.of c)) = true := by kernel_rfl
set_option maxRecDepth 100000 in
theorem tb26_prop : tb26.all (fun c _ => propE (Ed.of c)) = true := by kernel_rfl
set_option maxRecDepth 100000 in
theorem tb27_prop : tb27.all (fun c _ => propE (Ed.of c)) = true := by kernel_rfl
set_option maxRecDepth 100000 in
theorem tb28_prop : tb28.all (fun c _ => propE (Ed.of c)) = true := by kernel_rfl
set_option maxRecDepth 100000 in
theorem tb29_prop : tb29.all (fun c _ => propE (Ed.of c)) = true := by kernel_rfl
set_option maxRecDepth 100000 in
theorem tb30_prop : tb30.all (fun c _ => propE (Ed.of c)) = true := by kernel_rfl
set_option maxRecDepth 100000 in
theorem tb31_prop : tb31.all (fun c _ => propE (Ed.of c)) = true := by kernel_rfl
theorem top0_prop : propE (Ed.of 73852) = true := by kernel_rfl
theorem top1_prop : propE (Ed.of 153879) = true := by kernel_rfl
theorem top2_prop : propE (Ed.of 367119) = true := by kernel_rfl
theorem top3_prop : propE (Ed.of 657283) = true := by kernel_rfl
theorem top4_prop : propE (Ed.of 1118236) = true := by kernel_rfl
theorem top5_prop : propE (Ed.of 2233960) = true := by kernel_rfl
theorem top6_prop : propE (Ed.of 2991224) = true := by kernel_rfl
theorem top7_prop : propE (Ed.of 3425427) = true := by kernel_rfl
theorem top8_prop : propE (Ed.of 4344195) = true := by kernel_rfl
theorem top9_prop : propE (Ed.of 12161044) = true := by kernel_rfl
theorem top10_prop : propE (Ed.of 20087920) = true := by kernel_rfl
theorem top11_prop : propE (Ed.of 35759456) = true := by kernel_rfl
theorem top12_prop : propE (Ed.of 36865155) = true := by kernel_rfl
theorem top13_prop : propE (Ed.of 160502800) = true := by kernel_rfl
theorem top14_prop : propE (Ed.of 295736416) = true := by kernel_rfl
theorem top15_prop : propE (Ed.of 4294968720) = true := by kernel_rfl
theorem top16_prop : propE (Ed.of 8590023179) = true := by kernel_rfl
theorem top17_prop : propE (Ed.of 8590612755) = true := by kernel_rfl
theorem top18_prop : propE (Ed.of 8594232579) = true := by kernel_rfl
theorem top19_prop : propE (Ed.of 8627050499) = true := by kernel_rfl
theorem top20_prop : propE (Ed.of 12885070343) = true := by kernel_rfl
theorem top21_prop : propE (Ed.of 17179885676) = true := by kernel_rfl
theorem top22_prop : propE (Ed.of 17180299308) = true := by kernel_rfl
theorem top23_prop : propE (Ed.of 17182331944) = true := by kernel_rfl
theorem top24_prop : propE (Ed.of 73015055384) = true := by kernel_rfl
theorem top25_prop : propE (Ed.of 81604662787) = true := by kernel_rfl
theorem top26_prop : propE (Ed.of 146029172747) = true := by kernel_rfl
theorem top27_prop : propE (Ed.of 150324019300) = true := by kernel_rfl
theorem top28_prop : propE (Ed.of 150326121504) = true := by kernel_rfl
theorem top29_prop : propE (Ed.of 1172526109704) = true := by kernel_rfl
theorem top30_prop : propE (Ed.of 1211180881923) = true := by kernel_rfl
theorem tbl_prop : (tbl.all fun c _ => propE (Ed.of c)) = true := by
  unfold tbl
  simp only [Tr.all, Bool.and_true, tb0_prop, tb1_prop, tb2_prop, tb3_prop, tb4_prop, tb5_prop, tb6_prop, tb7_prop, tb8_prop, tb9_prop, tb10_prop, tb11_prop, tb12_prop, tb13_prop, tb14_prop, tb15_prop, tb16_prop, tb17_prop, tb18_prop, tb19_prop, tb20_prop, tb21_prop, tb22_prop, tb23_prop, tb24_prop, tb25_prop, tb26_prop, tb27_prop, tb28_prop, tb29_prop, tb30_prop, tb31_prop, top0_prop, top1_prop, top2_prop, top3_prop, top4_prop, top5_prop, top6_prop, top7_prop, top8_prop, top9_prop, top10_prop, top11_prop, top12_prop, top13_prop, top14_prop, top15_prop, top16_prop, top17_prop, top18_prop, top19_prop, top20_prop, top21_prop, top22_prop, top23_prop, top24_prop, top25_prop, top26_prop, top27_prop, top28_prop, top29_prop, top30_prop]
end Go.Proofs.YtfbambemjokmgaaGreat
