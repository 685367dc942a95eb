/- The statements' own first look at package step: the walk. -/
import Derived.Test.YtaapnkoooofalaaGreatQ34
import Derived.Test.YtaapnkoooofalaaGreatQ24
import Derived.Test.YtaapnkoooofalaaGreatQ03

namespace Go.Proofs.YtaapnkoooofalaaGreat.St
open Go Go.RowKit Rw So Se Do Sp Me
set_option maxRecDepth 20000
def bA:ByteArray:=⟨#[97]⟩
abbrev tS:Tm:=.seq (.act ⟨#[97]⟩) .throw
abbrev tB:Tm:=.block (.pair (.act ⟨#[97]⟩) (.act ⟨#[98]⟩))
abbrev tG:Tm:=.block (.going (.act ⟨#[97]⟩) (.act ⟨#[98]⟩))
abbrev tA:Tm:=.act ⟨#[97]⟩
abbrev tC:Tm:=.act ⟨#[99]⟩
abbrev tH:Tm:=.hand (.act ⟨#[97]⟩) (.act ⟨#[99]⟩)
theorem gS:Goes tS:=⟨by decide +kernel,by decide,by decide⟩
theorem gB:Goes tB:=⟨by decide +kernel,by decide,by decide⟩
theorem gA:Goes tA:=⟨by decide +kernel,by decide,by decide⟩
theorem gH:Goes tH:=⟨by decide +kernel,by decide,by decide⟩
theorem nS:Nf tS:=⟨trivial,rfl,rfl⟩
theorem nB:Nf tB:=⟨trivial,rfl⟩
theorem nH:Nf tH:=⟨trivial,rfl⟩
theorem nA':Nf tA:=trivial
theorem fS:nxL (flat tS) ⟨1,1⟩=flat (.over 2)∧nxS (flat tS) ⟨1,1⟩=⟨#[97]⟩∧nxE (flat tS) ⟨1,1⟩=0:=by
  obtain ⟨h1,h2,h3⟩:=nx_of gS nS (mo:=⟨1,1,some ⟨#[97]⟩,.seq (.over 1) .throw⟩) (by simp [mvs,upm]);refine ⟨h1.trans (congrArg flat ?_),h2,h3⟩
  rfl
theorem fB:nxL (flat tB) ⟨1,4⟩=flat tG∧nxS (flat tB) ⟨1,4⟩=⟨#[]⟩∧nxE (flat tB) ⟨1,4⟩=0:=by
  obtain ⟨h1,h2,h3⟩:=nx_of gB nB (mo:=⟨1,4,none,.block (.going (.act ⟨#[97]⟩) (.act ⟨#[98]⟩))⟩) (by simp [mvs,upm]);refine ⟨h1.trans (congrArg flat ?_),h2,h3⟩
  rfl
theorem fA:nxE (flat tA) ⟨0,0⟩=120:=by
  refine if_neg ?_;rw [en_link gA nA'];simp [mvs,mvOf]
theorem fH:rfL (flat tH) ⟨1,1⟩=flat tC∧rfE (flat tH) ⟨1,1⟩=0:=by
  obtain ⟨h1,h2⟩:=rf_of gH nH (mo:=⟨1,1,some ⟨#[97]⟩,.hand (.over 1) (.act ⟨#[99]⟩)⟩) (by simp [mvs,upm]) rfl;refine ⟨h1.trans (congrArg flat ?_),h2⟩
  rfl
theorem fP:putR (flat tG) 2 (flat (.over 2))=[nOf 9,nOf 12,⟨11,⟨#[]⟩,2⟩,nAct ⟨#[98]⟩]:=by
  unfold putR putN;rw [if_neg (by decide)]
  rfl
theorem act_any (s:ByteArray) (w:World):Calls Tryz.prog 22 #[.string s] w fun e w'=>e=.returned (.agg #[.int .i64 1,.string s,.int .i64 0])∧Below w.heap.size w w':=by
  go_enter Tryz.func22,Tryz.ntmps22
  go_wp2_with fail;refine bodyPost_ret (v:=.agg #[.int .i64 1,.string s,.int .i64 0]) (by simp [results,Tryz.results22,go_sem]) rfl ⟨rfl,?_⟩;exact below1 w _
abbrev PLs:List Nd:=[nOf 9,nOf 12,⟨11,⟨#[]⟩,2⟩,nAct ⟨#[98]⟩]
def RAl (bl ol cl_ bm om cm cr:Nat) (ar_:Option Addr) (k:Nat) (v:Value) (w':World):Prop:=match k with
  | 0=>v=.slice (some ⟨bl,ol,none⟩) 1 cl_
  | 1=>v=.agg #[.int .i64 11,.string ⟨#[]⟩,.int .i64 2]
  | 2=>Nds w' v (flat (Tm.over 2))
  | 3=>v=.bool true
  | 4=>v=.bool true
  | 5=>v=.string ⟨#[97]⟩
  | 6=>v=.bool true
  | 7=>v=.bool true
  | 8=>v=.bool true
  | 9=>v=.int .i64 0
  | 10=>v=.bool true
  | 11=>v=.bool true
  | 12=>v=.bool true
  | 13=>v=.slice (some ⟨bm,om,none⟩) 4 cm
  | 14=>v=.agg #[.int .i64 9,.string ⟨#[]⟩,.int .i64 0]
  | 15=>v=.agg #[.int .i64 12,.string ⟨#[]⟩,.int .i64 0]
  | 16=>v=.agg #[.int .i64 1,.string ⟨#[97]⟩,.int .i64 0]
  | 17=>v=.agg #[.int .i64 1,.string ⟨#[98]⟩,.int .i64 0]
  | 18=>Nds w' v (flat tG)
  | 19=>v=.bool true
  | 20=>v=.bool true
  | 21=>v=.bool true
  | 22=>v=.string ⟨#[]⟩
  | 23=>v=.bool true
  | 24=>v=.bool true
  | 25=>v=.bool true
  | 26=>v=.int .i64 0
  | 27=>v=.bool true
  | 28=>v=.bool true
  | 29=>v=.bool true
  | 30=>v=.int .i64 120
  | 31=>v=.bool true
  | 32=>v=.bool true
  | 33=>v=.bool true
  | 34=>v=.slice ar_ 1 cr
  | 35=>v=.agg #[.int .i64 1,.string ⟨#[99]⟩,.int .i64 0]
  | 36=>Nds w' v (flat tC)
  | 37=>v=.bool true
  | 38=>v=.bool true
  | 39=>v=.bool true
  | 40=>v=.int .i64 0
  | 41=>v=.bool true
  | 42=>v=.bool true
  | 43=>v=.bool true
  | 44=>v=.slice (some ⟨bm,om,none⟩) 4 cm
  | 45=>v=.slice (some ⟨bl,ol,none⟩) 1 cl_
  | 46=>Nds w' v (PLs)
  | 47=>v=.slice (some ⟨bm,om,none⟩) 4 cm
  | 48=>v=.pointer (some ⟨bm,om,none⟩)
  | 49=>v=.agg #[.int .i64 9,.string ⟨#[]⟩,.int .i64 0]
  | 50=>v=.slice (some ⟨bm,om,none⟩) 4 cm
  | 51=>v=.pointer (some ⟨bm,om+3,none⟩)
  | 52=>v=.agg #[.int .i64 12,.string ⟨#[]⟩,.int .i64 0]
  | 53=>v=.slice (some ⟨bl,ol,none⟩) 1 cl_
  | 54=>v=.pointer (some ⟨bl,ol,none⟩)
  | 55=>v=.agg #[.int .i64 11,.string ⟨#[]⟩,.int .i64 2]
  | 56=>v=.slice (some ⟨bm,om,none⟩) 4 cm
  | 57=>v=.pointer (some ⟨bm,om+9,none⟩)
  | 58=>v=.agg #[.int .i64 1,.string ⟨#[98]⟩,.int .i64 0]
  | 59=>Nds w' v (PLs)
  | 60=>v=.bool true
  | 61=>v=.bool true
  | 62=>v=.bool true
  | _=>True
theorem RAl.below {bl ol cl_ bm om cm cr:Nat} {ar_:Option Addr} {k:Nat} {v:Value} {w w':World} (h:RAl bl ol cl_ bm om cm cr ar_ k v w) (hb:Below w.heap.size w w'):RAl bl ol cl_ bm om cm cr ar_ k v w':=by
  unfold RAl at h ⊢
  split at h
  case h_3=>exact Nds.below h hb
  case h_19=>exact Nds.below h hb
  case h_37=>exact Nds.below h hb
  case h_47=>exact Nds.below h hb
  case h_60=>exact Nds.below h hb
  all_goals exact h
theorem RAl.put {w4:World} {bl ol cl_ bm om cm cr:Nat} {ar_:Option Addr} {v:Value} {w w':World} {f:Nat→Bool} {us:Nat→Value} {i:Nat} (g:Rg.Kept (fun w'=>Below w4.heap.size w4 w') (RAl bl ol cl_ bm om cm cr ar_) f us w) (hb:Below w.heap.size w w') (hv:RAl bl ol cl_ bm om cm cr ar_ i v w') :
    Rg.Kept (fun w'=>Below w4.heap.size w4 w') (RAl bl ol cl_ bm om cm cr ar_) (Rg.upd f i true) (Rg.upd us i v) w':=
  Rg.Kept.put (Base:=fun w'=>Below w4.heap.size w4 w') (R:=RAl bl ol cl_ bm om cm cr ar_) (fun _ _ h hb=>h.trans (hb.mono h.size)) (fun _ _ _ _ h hb=>RAl.below h hb) g hb hv
set_option maxHeartbeats 8000000 in
theorem alive_of (C:Con):Alive:=by
  intro w;have HT:=Lib.hid (fun w1=>act_any ⟨#[97]⟩ w1);have HTb:=Lib.hid (fun w1=>act_any ⟨#[98]⟩ w1);have HTc:=Lib.hid (fun w1=>act_any ⟨#[99]⟩ w1);have HS:=Lib.hid (fun y w1 (h:Nds w1 y (flat tS))=>C.nx y (flat tS) ⟨1,1⟩ w1 h (by decide) (nms_goes gS.1));rw [fS.1,fS.2.1,fS.2.2] at HS;have HB:=Lib.hid (fun y w1 (h:Nds w1 y (flat tB))=>C.nx y (flat tB) ⟨1,4⟩ w1 h (by decide) (nms_goes gB.1));rw [fB.1,fB.2.1,fB.2.2] at HB;have HN:=Lib.hid (fun y w1 (h:Nds w1 y (flat tA))=>C.nx y (flat tA) ⟨0,0⟩ w1 h (by decide) (nms_goes gA.1));rw [fA] at HN;have HR:=Lib.hid (fun y w1 (h:Nds w1 y (flat tH))=>C.rf y (flat tH) ⟨1,1⟩ w1 h (by decide) (nms_goes gH.1));rw [fH.1,fH.2] at HR;have HP:=Lib.hid (fun y x w1 (h:Nds w1 y (flat tG)) (h2:Nds w1 x (flat (.over 2)))=>C.put y x (flat tG) (flat (.over 2)) 2 w1 h h2 (by decide) (by decide));rw [fP] at HP
  go_enter Tryz.func6,Tryz.ntmps6
  have D0:=Lib.hid (Below.refl w.heap.size w);go_wp2_with fail;refine (HT.out _).mono ?_;rintro e w1 ⟨rfl,hb1⟩;have D1:=Lib.hid (D0.out.trans (hb1.mono D0.out.size));clear hb1;have NN:=Se.nds_new w1 (flat tS) 36;change Nds (w1.alloc (.cells #[.int .i64 5,.string ⟨#[]⟩,.int .i64 0,.int .i64 1,.string ⟨#[97]⟩,.int .i64 0,.int .i64 3,.string ⟨#[]⟩,.int .i64 0] 36)) (.slice (some ⟨w1.heap.size,0,none⟩) 3 3) (flat tS) at NN;have BN:=below1 w1 (.cells #[.int .i64 5,.string ⟨#[]⟩,.int .i64 0,.int .i64 1,.string ⟨#[97]⟩,.int .i64 0,.int .i64 3,.string ⟨#[]⟩,.int .i64 0] 36);have DN:=D1.out.trans (BN.mono D1.out.size);go_wp2_with fail;refine (HS.out _ _ NN).mono ?_;rintro e w2 ⟨y2,rfl,hn2,hb2⟩;have D2:=Lib.hid (DN.trans (hb2.mono DN.size));have L2:=Lib.hid hn2;clear NN BN DN hb2 hn2;go_wp2_with fail;refine (HT.out _).mono ?_;rintro e w3 ⟨rfl,hb3⟩;have D3:=Lib.hid (D2.out.trans (hb3.mono D2.out.size));have L3:=Lib.hid (L2.out.below hb3);clear hb3;go_wp2_with fail;refine (HTb.out _).mono ?_;rintro e w4 ⟨rfl,hb4⟩;have D4:=Lib.hid (D3.out.trans (hb4.mono D3.out.size));have L4:=Lib.hid (L3.out.below hb4);clear hb4;have NN:=Se.nds_new w4 (flat tB) 36;change Nds (w4.alloc (.cells #[.int .i64 9,.string ⟨#[]⟩,.int .i64 0,.int .i64 10,.string ⟨#[]⟩,.int .i64 0,.int .i64 1,.string ⟨#[97]⟩,.int .i64 0,.int .i64 1,.string ⟨#[98]⟩,.int .i64 0] 36)) (.slice (some ⟨w4.heap.size,0,none⟩) 4 4) (flat tB) at NN;have BN:=below1 w4 (.cells #[.int .i64 9,.string ⟨#[]⟩,.int .i64 0,.int .i64 10,.string ⟨#[]⟩,.int .i64 0,.int .i64 1,.string ⟨#[97]⟩,.int .i64 0,.int .i64 1,.string ⟨#[98]⟩,.int .i64 0] 36);have DN:=D4.out.trans (BN.mono D4.out.size);have L5:=Lib.hid (L4.out.below BN);go_wp2_with fail;refine (HB.out _ _ NN).mono ?_;rintro e w5 ⟨y5,rfl,hn5,hb5⟩;have D5:=Lib.hid (DN.trans (hb5.mono DN.size));have L6:=Lib.hid (L5.out.below hb5);have M6:=Lib.hid hn5;clear NN BN DN hb5 hn5;go_wp2_with fail;refine (HT.out _).mono ?_;rintro e w6 ⟨rfl,hb6⟩;have D6:=Lib.hid (D5.out.trans (hb6.mono D5.out.size));have L7:=Lib.hid (L6.out.below hb6);have M7:=Lib.hid (M6.out.below hb6);clear hb6;have NN:=Se.nds_new w6 (flat tA) 36;change Nds (w6.alloc (.cells #[.int .i64 1,.string ⟨#[97]⟩,.int .i64 0] 36)) (.slice (some ⟨w6.heap.size,0,none⟩) 1 1) (flat tA) at NN;have BN:=below1 w6 (.cells #[.int .i64 1,.string ⟨#[97]⟩,.int .i64 0] 36);have DN:=D6.out.trans (BN.mono D6.out.size);have L8:=Lib.hid (L7.out.below BN);have M8:=Lib.hid (M7.out.below BN);go_wp2_with fail;refine (HN.out _ _ NN).mono ?_;rintro e w7 ⟨y7,rfl,-,hb7⟩;have D7:=Lib.hid (DN.trans (hb7.mono DN.size));have L9:=Lib.hid (L8.out.below hb7);have M9:=Lib.hid (M8.out.below hb7);clear NN BN DN hb7;go_wp2_with fail;refine (HT.out _).mono ?_;rintro e w8 ⟨rfl,hb8⟩;have D8:=Lib.hid (D7.out.trans (hb8.mono D7.out.size));have La:=Lib.hid (L9.out.below hb8);have Ma:=Lib.hid (M9.out.below hb8);clear hb8;go_wp2_with fail;refine (HTc.out _).mono ?_;rintro e w9 ⟨rfl,hb9⟩;have D9:=Lib.hid (D8.out.trans (hb9.mono D8.out.size));have Lb:=Lib.hid (La.out.below hb9);have Mb:=Lib.hid (Ma.out.below hb9);clear hb9;have NN:=Se.nds_new w9 (flat tH) 36;change Nds (w9.alloc (.cells #[.int .i64 8,.string ⟨#[]⟩,.int .i64 0,.int .i64 1,.string ⟨#[97]⟩,.int .i64 0,.int .i64 1,.string ⟨#[99]⟩,.int .i64 0] 36)) (.slice (some ⟨w9.heap.size,0,none⟩) 3 3) (flat tH) at NN;have BN:=below1 w9 (.cells #[.int .i64 8,.string ⟨#[]⟩,.int .i64 0,.int .i64 1,.string ⟨#[97]⟩,.int .i64 0,.int .i64 1,.string ⟨#[99]⟩,.int .i64 0] 36);have DN:=D9.out.trans (BN.mono D9.out.size);have Lc:=Lib.hid (Lb.out.below BN);have Mc:=Lib.hid (Mb.out.below BN);go_wp2_with fail;refine (HR.out _ _ NN).mono ?_;rintro e w4 ⟨yR,rfl,hnR,hbR⟩;have D4:=Lib.hid (DN.trans (hbR.mono DN.size));have HL:=Lib.hid (fun w' (hb:Below w4.heap.size w4 w')=>(Lc.out.below hbR).below hb);have HM:=Lib.hid (fun w' (hb:Below w4.heap.size w4 w')=>(Mc.out.below hbR).below hb);have HQ:=Lib.hid (fun w' (hb:Below w4.heap.size w4 w')=>hnR.below hb)
  rcases (HL.out _ (Below.refl _ _)).form with ⟨h0,_⟩ | ⟨bl,ol,cl_,eL,_,hatL⟩
  · cases h0
  rcases (HM.out _ (Below.refl _ _)).form with ⟨h0,_⟩ | ⟨bm,om,cm,eM,_,hatM⟩
  · cases h0
  subst eL;subst eM;have XL:=Lib.hid (fun w' (hb:Below w4.heap.size w4 w')=>at_below hatL hb rfl 0 (by decide));have XM0:=Lib.hid (fun w' (hb:Below w4.heap.size w4 w')=>at_below hatM hb rfl 0 (by decide));have XM1:=Lib.hid (fun w' (hb:Below w4.heap.size w4 w')=>at_below hatM hb rfl 1 (by decide));have XM3:=Lib.hid (fun w' (hb:Below w4.heap.size w4 w')=>at_below hatM hb rfl 3 (by decide));obtain ⟨_,ar_,cr,rfl,-⟩:=id hnR;clear NN BN DN hbR hnR hatL hatM HS HB HN HR;have XO:Hid (∀ w',Below w4.heap.size w4 w'→w'.cell? ⟨bl,ol,none⟩=some (.int .i64 11)∧w'.cell? ⟨bl,ol+1,none⟩=some (.string ⟨#[]⟩)∧w'.cell? ⟨bl,ol+2,none⟩=some (.int .i64 2)):=Lib.hid fun w' hb=>XL.out w' hb
  have X0:Hid (∀ w',Below w4.heap.size w4 w'→w'.cell? ⟨bm,om,none⟩=some (.int .i64 9)∧w'.cell? ⟨bm,om+1,none⟩=some (.string ⟨#[]⟩)∧w'.cell? ⟨bm,om+2,none⟩=some (.int .i64 0)):=Lib.hid fun w' hb=>XM0.out w' hb
  have X1:Hid (∀ w',Below w4.heap.size w4 w'→w'.cell? ⟨bm,om+3,none⟩=some (.int .i64 12)∧w'.cell? ⟨bm,om+3+1,none⟩=some (.string ⟨#[]⟩)∧w'.cell? ⟨bm,om+3+2,none⟩=some (.int .i64 0)):=Lib.hid fun w' hb=>XM1.out w' hb
  have X3:Hid (∀ w',Below w4.heap.size w4 w'→w'.cell? ⟨bm,om+9,none⟩=some (.int .i64 1)∧w'.cell? ⟨bm,om+9+1,none⟩=some (.string ⟨#[98]⟩)∧w'.cell? ⟨bm,om+9+2,none⟩=some (.int .i64 0)):=Lib.hid fun w' hb=>XM3.out w' hb
  change Hid (∀ w',Below w4.heap.size w4 w'→Nds w' (.slice (some ⟨bl,ol,none⟩) 1 cl_) (flat (Tm.over 2))) at HL;change Hid (∀ w',Below w4.heap.size w4 w'→Nds w' (.slice (some ⟨bm,om,none⟩) 4 cm) (flat tG)) at HM;change Hid (∀ w',Below w4.heap.size w4 w'→Nds w' (.slice ar_ 1 cr) (flat tC)) at HQ;clear XL XM0 XM1 XM3 L2 L3 L4 L5 L6 L7 L8 L9 La Lb Lc M6 M7 M8 M9 Ma Mb Mc D1 D2 D3 D5 D6 D7 D8 D9;go_wp2_with fail;refine Rg.wp_region_kept (by kernel_rfl) [(0,some 50),(1,some 51),(2,some 52),(3,some 53),(4,some 54),(5,some 55),(6,some 56),(7,some 57),(8,some 58),(9,some 59),(10,some 60),(11,some 61),(12,some 62),(13,some 63),(14,some 64),(15,some 65),(16,some 66),(17,some 67),(18,some 68),(19,some 69),(20,some 70),(21,some 71),(22,some 72),(23,some 73),(24,some 74),(25,some 75),(26,some 76),(27,some 77),(28,some 78),(29,some 79),(30,some 80),(31,some 81),(32,some 82),(33,some 83),(34,some 84),(35,some 85),(36,some 86),(37,some 87),(38,some 88),(39,some 89),(40,some 90),(41,some 91),(42,some 92),(43,some 93),(44,some 94),(45,some 95),(46,some 96),(47,some 97),(48,some 98),(49,some 99),(50,some 100),(51,some 101),(52,some 102),(53,some 103),(54,some 104),(55,some 105),(56,some 106),(57,some 107),(58,some 108),(59,some 109),(60,some 110),(61,some 111),(62,some 0)] (by rfl) (by kernel_rfl) (by kernel_rfl) (fun w'=>Below w4.heap.size w4 w') (RAl bl ol cl_ bm om cm cr ar_) (Below.refl _ _).drew ?_ ⟨⟨⟨⟨⟨⟨⟨⟨⟨⟨⟨⟨⟨⟨⟨⟨⟨⟨⟨⟨⟨⟨⟨⟨⟨⟨⟨⟨⟨⟨⟨⟨⟨⟨⟨⟨⟨⟨⟨⟨⟨⟨⟨⟨⟨⟨⟨⟨⟨⟨⟨⟨⟨⟨⟨⟨⟨⟨⟨⟨⟨⟨⟨True.intro,?_⟩,?_⟩,?_⟩,?_⟩,?_⟩,?_⟩,?_⟩,?_⟩,?_⟩,?_⟩,?_⟩,?_⟩,?_⟩,?_⟩,?_⟩,?_⟩,?_⟩,?_⟩,?_⟩,?_⟩,?_⟩,?_⟩,?_⟩,?_⟩,?_⟩,?_⟩,?_⟩,?_⟩,?_⟩,?_⟩,?_⟩,?_⟩,?_⟩,?_⟩,?_⟩,?_⟩,?_⟩,?_⟩,?_⟩,?_⟩,?_⟩,?_⟩,?_⟩,?_⟩,?_⟩,?_⟩,?_⟩,?_⟩,?_⟩,?_⟩,?_⟩,?_⟩,?_⟩,?_⟩,?_⟩,?_⟩,?_⟩,?_⟩,?_⟩,?_⟩,?_⟩,?_⟩,?_⟩ ?_
  · intro k v w' hk;unfold RAl
    split
    case h_64=>trivial
    all_goals exact absurd hk (by decide)
  · intro o ho f us wl al ha g hf hdep K hKf;obtain rfl:=Option.some.inj ho;have hB:=g.1;have hK:∀ v w',RAl bl ol cl_ bm om cm cr ar_ 0 v w'→Below wl.heap.size wl w'→K (al.put (some 50) v) w':=fun v w' hv hb=>hKf v w' (RAl.put g hb hv)
    have e1:al.tmps[1]?.getD undef=.slice (some ⟨bl,ol,none⟩) 1 cl_:=by rw [← Rg.eval_getD,ha]; exact (Rg.puts_eval_ne _ _ _ (by rfl)).trans rfl
    have HB:=Lib.hid hB;clear ha hdep g hf hKf hB;refine Rg.wpOp_of rfl rfl ?_;go_simp;exact hK _ _ rfl (Below.refl _ _)
  · intro o ho f us wl al ha g hf hdep K hKf;obtain rfl:=Option.some.inj ho;have hB:=g.1;have hK:∀ v w',RAl bl ol cl_ bm om cm cr ar_ 1 v w'→Below wl.heap.size wl w'→K (al.put (some 51) v) w':=fun v w' hv hb=>hKf v w' (RAl.put g hb hv)
    have HB:=Lib.hid hB;clear ha hdep g hf hKf hB;refine Rg.wpOp_of rfl rfl ?_;go_simp;exact hK _ _ rfl (Below.refl _ _)
  · intro o ho f us wl al ha g hf hdep K hKf;obtain rfl:=Option.some.inj ho;have hB:=g.1;have hK:∀ v w',RAl bl ol cl_ bm om cm cr ar_ 2 v w'→Below wl.heap.size wl w'→K (al.put (some 52) v) w':=fun v w' hv hb=>hKf v w' (RAl.put g hb hv)
    have d1:RAl bl ol cl_ bm om cm cr ar_ 1 (us 1) wl:=g.2 1 (hdep ⟨1,.data⟩ (by simp) rfl);have e51:al.tmps[51]?.getD undef=us 1:=by rw [← Rg.eval_getD,ha]; exact Rg.puts_eval _ _ _ (by rfl) (by simp) (by simp)
    have f1:us 1=.agg #[.int .i64 11,.string ⟨#[]⟩,.int .i64 2]:=d1;have HB:=Lib.hid hB;clear ha hdep g hf hKf d1 hB;refine Rg.wpOp_of rfl rfl ?_;go_simp;exact hK _ _ (Se.nds_new _ (flat (Tm.over 2)) _) (below1 _ _)
  · intro o ho f us wl al ha g hf hdep K hKf;obtain rfl:=Option.some.inj ho;have hB:=g.1;have hK:∀ v w',RAl bl ol cl_ bm om cm cr ar_ 3 v w'→Below wl.heap.size wl w'→K (al.put (some 53) v) w':=fun v w' hv hb=>hKf v w' (RAl.put g hb hv)
    have d0:RAl bl ol cl_ bm om cm cr ar_ 0 (us 0) wl:=g.2 0 (hdep ⟨0,.data⟩ (by simp) rfl);have e50:al.tmps[50]?.getD undef=us 0:=by rw [← Rg.eval_getD,ha]; exact Rg.puts_eval _ _ _ (by rfl) (by simp) (by simp)
    have d2:RAl bl ol cl_ bm om cm cr ar_ 2 (us 2) wl:=g.2 2 (hdep ⟨2,.data⟩ (by simp) rfl);have e52:al.tmps[52]?.getD undef=us 2:=by rw [← Rg.eval_getD,ha]; exact Rg.puts_eval _ _ _ (by rfl) (by simp) (by simp)
    have f0:us 0=.slice (some ⟨bl,ol,none⟩) 1 cl_:=d0;have D2:Hid (Nds wl (us 2) (flat (Tm.over 2))):=d2;have HB:=Lib.hid hB;clear ha hdep g hf hKf d0 d2 hB;refine Rg.wpOp_of rfl rfl ?_;go_simp;refine (sameR_any _ _ (flat (Tm.over 2)) (flat (Tm.over 2)) _ (HL.out _ HB.out) D2.out (by decide)).mono ?_;rw [show sameN (flat (Tm.over 2)) (flat (Tm.over 2))=true from decide_eq_true rfl];rintro e wn ⟨rfl,hb⟩;exact hK _ _ rfl hb
  · intro o ho f us wl al ha g hf hdep K hKf;obtain rfl:=Option.some.inj ho;have hB:=g.1;have hK:∀ v w',RAl bl ol cl_ bm om cm cr ar_ 4 v w'→Below wl.heap.size wl w'→K (al.put (some 54) v) w':=fun v w' hv hb=>hKf v w' (RAl.put g hb hv)
    have d3:RAl bl ol cl_ bm om cm cr ar_ 3 (us 3) wl:=g.2 3 (hdep ⟨3,.data⟩ (by simp) rfl);have e53:al.tmps[53]?.getD undef=us 3:=by rw [← Rg.eval_getD,ha]; exact Rg.puts_eval _ _ _ (by rfl) (by simp) (by simp)
    have f3:us 3=.bool true:=d3;have HB:=Lib.hid hB;clear ha hdep g hf hKf d3 hB;refine Rg.wpOp_of rfl rfl ?_;go_simp;exact hK _ _ rfl (Below.refl _ _)
  · intro o ho f us wl al ha g hf hdep K hKf;obtain rfl:=Option.some.inj ho;have hB:=g.1;have hK:∀ v w',RAl bl ol cl_ bm om cm cr ar_ 5 v w'→Below wl.heap.size wl w'→K (al.put (some 55) v) w':=fun v w' hv hb=>hKf v w' (RAl.put g hb hv)
    have e2:al.tmps[2]?.getD undef=.string ⟨#[97]⟩:=by rw [← Rg.eval_getD,ha]; exact (Rg.puts_eval_ne _ _ _ (by rfl)).trans rfl
    have dg:RAl bl ol cl_ bm om cm cr ar_ 4 (us 4) wl:=g.2 4 (hdep ⟨4,.guard⟩ (by simp) rfl);have gg:al.eval (.tmp 54)=.bool true:=by rw [ha]; exact (Rg.puts_eval _ _ _ (by rfl) (by simp) (by simp)).trans dg
    have HB:=Lib.hid hB;clear ha hdep g hf hKf hB;refine Rg.wpOp_of rfl (Rg.wanted_of rfl (Rg.yielded_of (d:=54) (by rfl) gg)) ?_;go_simp;exact hK _ _ rfl (Below.refl _ _)
  · intro o ho f us wl al ha g hf hdep K hKf;obtain rfl:=Option.some.inj ho;have hB:=g.1;have hK:∀ v w',RAl bl ol cl_ bm om cm cr ar_ 6 v w'→Below wl.heap.size wl w'→K (al.put (some 56) v) w':=fun v w' hv hb=>hKf v w' (RAl.put g hb hv)
    have d5:RAl bl ol cl_ bm om cm cr ar_ 5 (us 5) wl:=g.2 5 (hdep ⟨5,.data⟩ (by simp) rfl);have e55:al.tmps[55]?.getD undef=us 5:=by rw [← Rg.eval_getD,ha]; exact Rg.puts_eval _ _ _ (by rfl) (by simp) (by simp)
    have dg:RAl bl ol cl_ bm om cm cr ar_ 4 (us 4) wl:=g.2 4 (hdep ⟨4,.guard⟩ (by simp) rfl);have gg:al.eval (.tmp 54)=.bool true:=by rw [ha]; exact (Rg.puts_eval _ _ _ (by rfl) (by simp) (by simp)).trans dg
    have f5:us 5=.string ⟨#[97]⟩:=d5;have HB:=Lib.hid hB;clear ha hdep g hf hKf d5 hB;refine Rg.wpOp_of rfl (Rg.wanted_of rfl (Rg.yielded_of (d:=54) (by rfl) gg)) ?_;go_simp;exact hK _ _ rfl (Below.refl _ _)
  · intro o ho f us wl al ha g hf hdep K hKf;obtain rfl:=Option.some.inj ho;have hB:=g.1;have hK:∀ v w',RAl bl ol cl_ bm om cm cr ar_ 7 v w'→Below wl.heap.size wl w'→K (al.put (some 57) v) w':=fun v w' hv hb=>hKf v w' (RAl.put g hb hv)
    have d4:RAl bl ol cl_ bm om cm cr ar_ 4 (us 4) wl:=g.2 4 (hdep ⟨4,.data⟩ (by simp) rfl);have e54:al.tmps[54]?.getD undef=us 4:=by rw [← Rg.eval_getD,ha]; exact Rg.puts_eval _ _ _ (by rfl) (by simp) (by simp)
    have d6:RAl bl ol cl_ bm om cm cr ar_ 6 (us 6) wl:=g.2 6 (hdep ⟨6,.data⟩ (by simp) rfl);have e56:al.tmps[56]?.getD undef=us 6:=by rw [← Rg.eval_getD,ha]; exact Rg.puts_eval _ _ _ (by rfl) (by simp) (by simp)
    have f4:us 4=.bool true:=d4;have f6:us 6=.bool true:=d6;have HB:=Lib.hid hB;clear ha hdep g hf hKf d4 d6 hB;refine Rg.wpOp_of rfl rfl ?_;go_simp;exact hK _ _ rfl (Below.refl _ _)
  · intro o ho f us wl al ha g hf hdep K hKf;obtain rfl:=Option.some.inj ho;have hB:=g.1;have hK:∀ v w',RAl bl ol cl_ bm om cm cr ar_ 8 v w'→Below wl.heap.size wl w'→K (al.put (some 58) v) w':=fun v w' hv hb=>hKf v w' (RAl.put g hb hv)
    have d7:RAl bl ol cl_ bm om cm cr ar_ 7 (us 7) wl:=g.2 7 (hdep ⟨7,.data⟩ (by simp) rfl);have e57:al.tmps[57]?.getD undef=us 7:=by rw [← Rg.eval_getD,ha]; exact Rg.puts_eval _ _ _ (by rfl) (by simp) (by simp)
    have f7:us 7=.bool true:=d7;have HB:=Lib.hid hB;clear ha hdep g hf hKf d7 hB;refine Rg.wpOp_of rfl rfl ?_;go_simp;exact hK _ _ rfl (Below.refl _ _)
  · intro o ho f us wl al ha g hf hdep K hKf;obtain rfl:=Option.some.inj ho;have hB:=g.1;have hK:∀ v w',RAl bl ol cl_ bm om cm cr ar_ 9 v w'→Below wl.heap.size wl w'→K (al.put (some 59) v) w':=fun v w' hv hb=>hKf v w' (RAl.put g hb hv)
    have e3:al.tmps[3]?.getD undef=.int .i64 0:=by rw [← Rg.eval_getD,ha]; exact (Rg.puts_eval_ne _ _ _ (by rfl)).trans rfl
    have dg:RAl bl ol cl_ bm om cm cr ar_ 8 (us 8) wl:=g.2 8 (hdep ⟨8,.guard⟩ (by simp) rfl);have gg:al.eval (.tmp 58)=.bool true:=by rw [ha]; exact (Rg.puts_eval _ _ _ (by rfl) (by simp) (by simp)).trans dg
    have HB:=Lib.hid hB;clear ha hdep g hf hKf hB;refine Rg.wpOp_of rfl (Rg.wanted_of rfl (Rg.yielded_of (d:=58) (by rfl) gg)) ?_;go_simp;exact hK _ _ rfl (Below.refl _ _)
  · intro o ho f us wl al ha g hf hdep K hKf;obtain rfl:=Option.some.inj ho;have hB:=g.1;have hK:∀ v w',RAl bl ol cl_ bm om cm cr ar_ 10 v w'→Below wl.heap.size wl w'→K (al.put (some 60) v) w':=fun v w' hv hb=>hKf v w' (RAl.put g hb hv)
    have d9:RAl bl ol cl_ bm om cm cr ar_ 9 (us 9) wl:=g.2 9 (hdep ⟨9,.data⟩ (by simp) rfl);have e59:al.tmps[59]?.getD undef=us 9:=by rw [← Rg.eval_getD,ha]; exact Rg.puts_eval _ _ _ (by rfl) (by simp) (by simp)
    have dg:RAl bl ol cl_ bm om cm cr ar_ 8 (us 8) wl:=g.2 8 (hdep ⟨8,.guard⟩ (by simp) rfl);have gg:al.eval (.tmp 58)=.bool true:=by rw [ha]; exact (Rg.puts_eval _ _ _ (by rfl) (by simp) (by simp)).trans dg
    have f9:us 9=.int .i64 0:=d9;have HB:=Lib.hid hB;clear ha hdep g hf hKf d9 hB;refine Rg.wpOp_of rfl (Rg.wanted_of rfl (Rg.yielded_of (d:=58) (by rfl) gg)) ?_;go_simp;exact hK _ _ rfl (Below.refl _ _)
  · intro o ho f us wl al ha g hf hdep K hKf;obtain rfl:=Option.some.inj ho;have hB:=g.1;have hK:∀ v w',RAl bl ol cl_ bm om cm cr ar_ 11 v w'→Below wl.heap.size wl w'→K (al.put (some 61) v) w':=fun v w' hv hb=>hKf v w' (RAl.put g hb hv)
    have d8:RAl bl ol cl_ bm om cm cr ar_ 8 (us 8) wl:=g.2 8 (hdep ⟨8,.data⟩ (by simp) rfl);have e58:al.tmps[58]?.getD undef=us 8:=by rw [← Rg.eval_getD,ha]; exact Rg.puts_eval _ _ _ (by rfl) (by simp) (by simp)
    have d10:RAl bl ol cl_ bm om cm cr ar_ 10 (us 10) wl:=g.2 10 (hdep ⟨10,.data⟩ (by simp) rfl);have e60:al.tmps[60]?.getD undef=us 10:=by rw [← Rg.eval_getD,ha]; exact Rg.puts_eval _ _ _ (by rfl) (by simp) (by simp)
    have f8:us 8=.bool true:=d8;have f10:us 10=.bool true:=d10;have HB:=Lib.hid hB;clear ha hdep g hf hKf d8 d10 hB;refine Rg.wpOp_of rfl rfl ?_;go_simp;exact hK _ _ rfl (Below.refl _ _)
  · intro o ho f us wl al ha g hf hdep K hKf;obtain rfl:=Option.some.inj ho;have hB:=g.1;have hK:∀ v w',RAl bl ol cl_ bm om cm cr ar_ 12 v w'→Below wl.heap.size wl w'→K (al.put (some 62) v) w':=fun v w' hv hb=>hKf v w' (RAl.put g hb hv)
    have d11:RAl bl ol cl_ bm om cm cr ar_ 11 (us 11) wl:=g.2 11 (hdep ⟨11,.data⟩ (by simp) rfl);have e61:al.tmps[61]?.getD undef=us 11:=by rw [← Rg.eval_getD,ha]; exact Rg.puts_eval _ _ _ (by rfl) (by simp) (by simp)
    have f11:us 11=.bool true:=d11;have HB:=Lib.hid hB;clear ha hdep g hf hKf d11 hB;refine Rg.wpOp_of rfl rfl ?_;go_simp;exact hK _ _ rfl (Below.refl _ _)
  · intro o ho f us wl al ha g hf hdep K hKf;obtain rfl:=Option.some.inj ho;have hB:=g.1;have hK:∀ v w',RAl bl ol cl_ bm om cm cr ar_ 13 v w'→Below wl.heap.size wl w'→K (al.put (some 63) v) w':=fun v w' hv hb=>hKf v w' (RAl.put g hb hv)
    have e4:al.tmps[4]?.getD undef=.slice (some ⟨bm,om,none⟩) 4 cm:=by rw [← Rg.eval_getD,ha]; exact (Rg.puts_eval_ne _ _ _ (by rfl)).trans rfl
    have dg:RAl bl ol cl_ bm om cm cr ar_ 12 (us 12) wl:=g.2 12 (hdep ⟨12,.guard⟩ (by simp) rfl);have gg:al.eval (.tmp 62)=.bool true:=by rw [ha]; exact (Rg.puts_eval _ _ _ (by rfl) (by simp) (by simp)).trans dg
    have HB:=Lib.hid hB;clear ha hdep g hf hKf hB;refine Rg.wpOp_of rfl (Rg.wanted_of rfl (Rg.yielded_of (d:=62) (by rfl) gg)) ?_;go_simp;exact hK _ _ rfl (Below.refl _ _)
  · intro o ho f us wl al ha g hf hdep K hKf;obtain rfl:=Option.some.inj ho;have hB:=g.1;have hK:∀ v w',RAl bl ol cl_ bm om cm cr ar_ 14 v w'→Below wl.heap.size wl w'→K (al.put (some 64) v) w':=fun v w' hv hb=>hKf v w' (RAl.put g hb hv)
    have dg:RAl bl ol cl_ bm om cm cr ar_ 12 (us 12) wl:=g.2 12 (hdep ⟨12,.guard⟩ (by simp) rfl);have gg:al.eval (.tmp 62)=.bool true:=by rw [ha]; exact (Rg.puts_eval _ _ _ (by rfl) (by simp) (by simp)).trans dg
    have HB:=Lib.hid hB;clear ha hdep g hf hKf hB;refine Rg.wpOp_of rfl (Rg.wanted_of rfl (Rg.yielded_of (d:=62) (by rfl) gg)) ?_;go_simp;exact hK _ _ rfl (Below.refl _ _)
  · intro o ho f us wl al ha g hf hdep K hKf;obtain rfl:=Option.some.inj ho;have hB:=g.1;have hK:∀ v w',RAl bl ol cl_ bm om cm cr ar_ 15 v w'→Below wl.heap.size wl w'→K (al.put (some 65) v) w':=fun v w' hv hb=>hKf v w' (RAl.put g hb hv)
    have dg:RAl bl ol cl_ bm om cm cr ar_ 12 (us 12) wl:=g.2 12 (hdep ⟨12,.guard⟩ (by simp) rfl);have gg:al.eval (.tmp 62)=.bool true:=by rw [ha]; exact (Rg.puts_eval _ _ _ (by rfl) (by simp) (by simp)).trans dg
    have HB:=Lib.hid hB;clear ha hdep g hf hKf hB;refine Rg.wpOp_of rfl (Rg.wanted_of rfl (Rg.yielded_of (d:=62) (by rfl) gg)) ?_;go_simp;exact hK _ _ rfl (Below.refl _ _)
  · intro o ho f us wl al ha g hf hdep K hKf;obtain rfl:=Option.some.inj ho;have hB:=g.1;have hK:∀ v w',RAl bl ol cl_ bm om cm cr ar_ 16 v w'→Below wl.heap.size wl w'→K (al.put (some 66) v) w':=fun v w' hv hb=>hKf v w' (RAl.put g hb hv)
    have dg:RAl bl ol cl_ bm om cm cr ar_ 12 (us 12) wl:=g.2 12 (hdep ⟨12,.guard⟩ (by simp) rfl);have gg:al.eval (.tmp 62)=.bool true:=by rw [ha]; exact (Rg.puts_eval _ _ _ (by rfl) (by simp) (by simp)).trans dg
    have HB:=Lib.hid hB;clear ha hdep g hf hKf hB;refine Rg.wpOp_of rfl (Rg.wanted_of rfl (Rg.yielded_of (d:=62) (by rfl) gg)) ?_;go_simp;refine (HT.out _).mono ?_;rintro e wn ⟨rfl,hb⟩;exact hK _ _ rfl hb
  · intro o ho f us wl al ha g hf hdep K hKf;obtain rfl:=Option.some.inj ho;have hB:=g.1;have hK:∀ v w',RAl bl ol cl_ bm om cm cr ar_ 17 v w'→Below wl.heap.size wl w'→K (al.put (some 67) v) w':=fun v w' hv hb=>hKf v w' (RAl.put g hb hv)
    have dg:RAl bl ol cl_ bm om cm cr ar_ 12 (us 12) wl:=g.2 12 (hdep ⟨12,.guard⟩ (by simp) rfl);have gg:al.eval (.tmp 62)=.bool true:=by rw [ha]; exact (Rg.puts_eval _ _ _ (by rfl) (by simp) (by simp)).trans dg
    have HB:=Lib.hid hB;clear ha hdep g hf hKf hB;refine Rg.wpOp_of rfl (Rg.wanted_of rfl (Rg.yielded_of (d:=62) (by rfl) gg)) ?_;go_simp;refine (HTb.out _).mono ?_;rintro e wn ⟨rfl,hb⟩;exact hK _ _ rfl hb
  · intro o ho f us wl al ha g hf hdep K hKf;obtain rfl:=Option.some.inj ho;have hB:=g.1;have hK:∀ v w',RAl bl ol cl_ bm om cm cr ar_ 18 v w'→Below wl.heap.size wl w'→K (al.put (some 68) v) w':=fun v w' hv hb=>hKf v w' (RAl.put g hb hv)
    have d14:RAl bl ol cl_ bm om cm cr ar_ 14 (us 14) wl:=g.2 14 (hdep ⟨14,.data⟩ (by simp) rfl);have e64:al.tmps[64]?.getD undef=us 14:=by rw [← Rg.eval_getD,ha]; exact Rg.puts_eval _ _ _ (by rfl) (by simp) (by simp)
    have d15:RAl bl ol cl_ bm om cm cr ar_ 15 (us 15) wl:=g.2 15 (hdep ⟨15,.data⟩ (by simp) rfl);have e65:al.tmps[65]?.getD undef=us 15:=by rw [← Rg.eval_getD,ha]; exact Rg.puts_eval _ _ _ (by rfl) (by simp) (by simp)
    have d16:RAl bl ol cl_ bm om cm cr ar_ 16 (us 16) wl:=g.2 16 (hdep ⟨16,.data⟩ (by simp) rfl);have e66:al.tmps[66]?.getD undef=us 16:=by rw [← Rg.eval_getD,ha]; exact Rg.puts_eval _ _ _ (by rfl) (by simp) (by simp)
    have d17:RAl bl ol cl_ bm om cm cr ar_ 17 (us 17) wl:=g.2 17 (hdep ⟨17,.data⟩ (by simp) rfl);have e67:al.tmps[67]?.getD undef=us 17:=by rw [← Rg.eval_getD,ha]; exact Rg.puts_eval _ _ _ (by rfl) (by simp) (by simp)
    have dg:RAl bl ol cl_ bm om cm cr ar_ 12 (us 12) wl:=g.2 12 (hdep ⟨12,.guard⟩ (by simp) rfl);have gg:al.eval (.tmp 62)=.bool true:=by rw [ha]; exact (Rg.puts_eval _ _ _ (by rfl) (by simp) (by simp)).trans dg
    have f14:us 14=.agg #[.int .i64 9,.string ⟨#[]⟩,.int .i64 0]:=d14;have f15:us 15=.agg #[.int .i64 12,.string ⟨#[]⟩,.int .i64 0]:=d15;have f16:us 16=.agg #[.int .i64 1,.string ⟨#[97]⟩,.int .i64 0]:=d16;have f17:us 17=.agg #[.int .i64 1,.string ⟨#[98]⟩,.int .i64 0]:=d17;have HB:=Lib.hid hB;clear ha hdep g hf hKf d14 d15 d16 d17 hB;refine Rg.wpOp_of rfl (Rg.wanted_of rfl (Rg.yielded_of (d:=62) (by rfl) gg)) ?_;go_simp;exact hK _ _ (Se.nds_new _ (flat tG) _) (below1 _ _)
  · intro o ho f us wl al ha g hf hdep K hKf;obtain rfl:=Option.some.inj ho;have hB:=g.1;have hK:∀ v w',RAl bl ol cl_ bm om cm cr ar_ 19 v w'→Below wl.heap.size wl w'→K (al.put (some 69) v) w':=fun v w' hv hb=>hKf v w' (RAl.put g hb hv)
    have d13:RAl bl ol cl_ bm om cm cr ar_ 13 (us 13) wl:=g.2 13 (hdep ⟨13,.data⟩ (by simp) rfl);have e63:al.tmps[63]?.getD undef=us 13:=by rw [← Rg.eval_getD,ha]; exact Rg.puts_eval _ _ _ (by rfl) (by simp) (by simp)
    have d18:RAl bl ol cl_ bm om cm cr ar_ 18 (us 18) wl:=g.2 18 (hdep ⟨18,.data⟩ (by simp) rfl);have e68:al.tmps[68]?.getD undef=us 18:=by rw [← Rg.eval_getD,ha]; exact Rg.puts_eval _ _ _ (by rfl) (by simp) (by simp)
    have dg:RAl bl ol cl_ bm om cm cr ar_ 12 (us 12) wl:=g.2 12 (hdep ⟨12,.guard⟩ (by simp) rfl);have gg:al.eval (.tmp 62)=.bool true:=by rw [ha]; exact (Rg.puts_eval _ _ _ (by rfl) (by simp) (by simp)).trans dg
    have f13:us 13=.slice (some ⟨bm,om,none⟩) 4 cm:=d13;have D18:Hid (Nds wl (us 18) (flat tG)):=d18;have HB:=Lib.hid hB;clear ha hdep g hf hKf d13 d18 hB;refine Rg.wpOp_of rfl (Rg.wanted_of rfl (Rg.yielded_of (d:=62) (by rfl) gg)) ?_;go_simp;refine (sameR_any _ _ (flat tG) (flat tG) _ (HM.out _ HB.out) D18.out (by decide)).mono ?_;rw [show sameN (flat tG) (flat tG)=true from decide_eq_true rfl];rintro e wn ⟨rfl,hb⟩;exact hK _ _ rfl hb
  · intro o ho f us wl al ha g hf hdep K hKf;obtain rfl:=Option.some.inj ho;have hB:=g.1;have hK:∀ v w',RAl bl ol cl_ bm om cm cr ar_ 20 v w'→Below wl.heap.size wl w'→K (al.put (some 70) v) w':=fun v w' hv hb=>hKf v w' (RAl.put g hb hv)
    have d12:RAl bl ol cl_ bm om cm cr ar_ 12 (us 12) wl:=g.2 12 (hdep ⟨12,.data⟩ (by simp) rfl);have e62:al.tmps[62]?.getD undef=us 12:=by rw [← Rg.eval_getD,ha]; exact Rg.puts_eval _ _ _ (by rfl) (by simp) (by simp)
    have d19:RAl bl ol cl_ bm om cm cr ar_ 19 (us 19) wl:=g.2 19 (hdep ⟨19,.data⟩ (by simp) rfl);have e69:al.tmps[69]?.getD undef=us 19:=by rw [← Rg.eval_getD,ha]; exact Rg.puts_eval _ _ _ (by rfl) (by simp) (by simp)
    have f12:us 12=.bool true:=d12;have f19:us 19=.bool true:=d19;have HB:=Lib.hid hB;clear ha hdep g hf hKf d12 d19 hB;refine Rg.wpOp_of rfl rfl ?_;go_simp;exact hK _ _ rfl (Below.refl _ _)
  · intro o ho f us wl al ha g hf hdep K hKf;obtain rfl:=Option.some.inj ho;have hB:=g.1;have hK:∀ v w',RAl bl ol cl_ bm om cm cr ar_ 21 v w'→Below wl.heap.size wl w'→K (al.put (some 71) v) w':=fun v w' hv hb=>hKf v w' (RAl.put g hb hv)
    have d20:RAl bl ol cl_ bm om cm cr ar_ 20 (us 20) wl:=g.2 20 (hdep ⟨20,.data⟩ (by simp) rfl);have e70:al.tmps[70]?.getD undef=us 20:=by rw [← Rg.eval_getD,ha]; exact Rg.puts_eval _ _ _ (by rfl) (by simp) (by simp)
    have f20:us 20=.bool true:=d20;have HB:=Lib.hid hB;clear ha hdep g hf hKf d20 hB;refine Rg.wpOp_of rfl rfl ?_;go_simp;exact hK _ _ rfl (Below.refl _ _)
  · intro o ho f us wl al ha g hf hdep K hKf;obtain rfl:=Option.some.inj ho;have hB:=g.1;have hK:∀ v w',RAl bl ol cl_ bm om cm cr ar_ 22 v w'→Below wl.heap.size wl w'→K (al.put (some 72) v) w':=fun v w' hv hb=>hKf v w' (RAl.put g hb hv)
    have e5:al.tmps[5]?.getD undef=.string ⟨#[]⟩:=by rw [← Rg.eval_getD,ha]; exact (Rg.puts_eval_ne _ _ _ (by rfl)).trans rfl
    have dg:RAl bl ol cl_ bm om cm cr ar_ 21 (us 21) wl:=g.2 21 (hdep ⟨21,.guard⟩ (by simp) rfl);have gg:al.eval (.tmp 71)=.bool true:=by rw [ha]; exact (Rg.puts_eval _ _ _ (by rfl) (by simp) (by simp)).trans dg
    have HB:=Lib.hid hB;clear ha hdep g hf hKf hB;refine Rg.wpOp_of rfl (Rg.wanted_of rfl (Rg.yielded_of (d:=71) (by rfl) gg)) ?_;go_simp;exact hK _ _ rfl (Below.refl _ _)
  · intro o ho f us wl al ha g hf hdep K hKf;obtain rfl:=Option.some.inj ho;have hB:=g.1;have hK:∀ v w',RAl bl ol cl_ bm om cm cr ar_ 23 v w'→Below wl.heap.size wl w'→K (al.put (some 73) v) w':=fun v w' hv hb=>hKf v w' (RAl.put g hb hv)
    have d22:RAl bl ol cl_ bm om cm cr ar_ 22 (us 22) wl:=g.2 22 (hdep ⟨22,.data⟩ (by simp) rfl);have e72:al.tmps[72]?.getD undef=us 22:=by rw [← Rg.eval_getD,ha]; exact Rg.puts_eval _ _ _ (by rfl) (by simp) (by simp)
    have dg:RAl bl ol cl_ bm om cm cr ar_ 21 (us 21) wl:=g.2 21 (hdep ⟨21,.guard⟩ (by simp) rfl);have gg:al.eval (.tmp 71)=.bool true:=by rw [ha]; exact (Rg.puts_eval _ _ _ (by rfl) (by simp) (by simp)).trans dg
    have f22:us 22=.string ⟨#[]⟩:=d22;have HB:=Lib.hid hB;clear ha hdep g hf hKf d22 hB;refine Rg.wpOp_of rfl (Rg.wanted_of rfl (Rg.yielded_of (d:=71) (by rfl) gg)) ?_;go_simp;exact hK _ _ rfl (Below.refl _ _)
  · intro o ho f us wl al ha g hf hdep K hKf;obtain rfl:=Option.some.inj ho;have hB:=g.1;have hK:∀ v w',RAl bl ol cl_ bm om cm cr ar_ 24 v w'→Below wl.heap.size wl w'→K (al.put (some 74) v) w':=fun v w' hv hb=>hKf v w' (RAl.put g hb hv)
    have d21:RAl bl ol cl_ bm om cm cr ar_ 21 (us 21) wl:=g.2 21 (hdep ⟨21,.data⟩ (by simp) rfl);have e71:al.tmps[71]?.getD undef=us 21:=by rw [← Rg.eval_getD,ha]; exact Rg.puts_eval _ _ _ (by rfl) (by simp) (by simp)
    have d23:RAl bl ol cl_ bm om cm cr ar_ 23 (us 23) wl:=g.2 23 (hdep ⟨23,.data⟩ (by simp) rfl);have e73:al.tmps[73]?.getD undef=us 23:=by rw [← Rg.eval_getD,ha]; exact Rg.puts_eval _ _ _ (by rfl) (by simp) (by simp)
    have f21:us 21=.bool true:=d21;have f23:us 23=.bool true:=d23;have HB:=Lib.hid hB;clear ha hdep g hf hKf d21 d23 hB;refine Rg.wpOp_of rfl rfl ?_;go_simp;exact hK _ _ rfl (Below.refl _ _)
  · intro o ho f us wl al ha g hf hdep K hKf;obtain rfl:=Option.some.inj ho;have hB:=g.1;have hK:∀ v w',RAl bl ol cl_ bm om cm cr ar_ 25 v w'→Below wl.heap.size wl w'→K (al.put (some 75) v) w':=fun v w' hv hb=>hKf v w' (RAl.put g hb hv)
    have d24:RAl bl ol cl_ bm om cm cr ar_ 24 (us 24) wl:=g.2 24 (hdep ⟨24,.data⟩ (by simp) rfl);have e74:al.tmps[74]?.getD undef=us 24:=by rw [← Rg.eval_getD,ha]; exact Rg.puts_eval _ _ _ (by rfl) (by simp) (by simp)
    have f24:us 24=.bool true:=d24;have HB:=Lib.hid hB;clear ha hdep g hf hKf d24 hB;refine Rg.wpOp_of rfl rfl ?_;go_simp;exact hK _ _ rfl (Below.refl _ _)
  · intro o ho f us wl al ha g hf hdep K hKf;obtain rfl:=Option.some.inj ho;have hB:=g.1;have hK:∀ v w',RAl bl ol cl_ bm om cm cr ar_ 26 v w'→Below wl.heap.size wl w'→K (al.put (some 76) v) w':=fun v w' hv hb=>hKf v w' (RAl.put g hb hv)
    have e6:al.tmps[6]?.getD undef=.int .i64 0:=by rw [← Rg.eval_getD,ha]; exact (Rg.puts_eval_ne _ _ _ (by rfl)).trans rfl
    have dg:RAl bl ol cl_ bm om cm cr ar_ 25 (us 25) wl:=g.2 25 (hdep ⟨25,.guard⟩ (by simp) rfl);have gg:al.eval (.tmp 75)=.bool true:=by rw [ha]; exact (Rg.puts_eval _ _ _ (by rfl) (by simp) (by simp)).trans dg
    have HB:=Lib.hid hB;clear ha hdep g hf hKf hB;refine Rg.wpOp_of rfl (Rg.wanted_of rfl (Rg.yielded_of (d:=75) (by rfl) gg)) ?_;go_simp;exact hK _ _ rfl (Below.refl _ _)
  · intro o ho f us wl al ha g hf hdep K hKf;obtain rfl:=Option.some.inj ho;have hB:=g.1;have hK:∀ v w',RAl bl ol cl_ bm om cm cr ar_ 27 v w'→Below wl.heap.size wl w'→K (al.put (some 77) v) w':=fun v w' hv hb=>hKf v w' (RAl.put g hb hv)
    have d26:RAl bl ol cl_ bm om cm cr ar_ 26 (us 26) wl:=g.2 26 (hdep ⟨26,.data⟩ (by simp) rfl);have e76:al.tmps[76]?.getD undef=us 26:=by rw [← Rg.eval_getD,ha]; exact Rg.puts_eval _ _ _ (by rfl) (by simp) (by simp)
    have dg:RAl bl ol cl_ bm om cm cr ar_ 25 (us 25) wl:=g.2 25 (hdep ⟨25,.guard⟩ (by simp) rfl);have gg:al.eval (.tmp 75)=.bool true:=by rw [ha]; exact (Rg.puts_eval _ _ _ (by rfl) (by simp) (by simp)).trans dg
    have f26:us 26=.int .i64 0:=d26;have HB:=Lib.hid hB;clear ha hdep g hf hKf d26 hB;refine Rg.wpOp_of rfl (Rg.wanted_of rfl (Rg.yielded_of (d:=75) (by rfl) gg)) ?_;go_simp;exact hK _ _ rfl (Below.refl _ _)
  · intro o ho f us wl al ha g hf hdep K hKf;obtain rfl:=Option.some.inj ho;have hB:=g.1;have hK:∀ v w',RAl bl ol cl_ bm om cm cr ar_ 28 v w'→Below wl.heap.size wl w'→K (al.put (some 78) v) w':=fun v w' hv hb=>hKf v w' (RAl.put g hb hv)
    have d25:RAl bl ol cl_ bm om cm cr ar_ 25 (us 25) wl:=g.2 25 (hdep ⟨25,.data⟩ (by simp) rfl);have e75:al.tmps[75]?.getD undef=us 25:=by rw [← Rg.eval_getD,ha]; exact Rg.puts_eval _ _ _ (by rfl) (by simp) (by simp)
    have d27:RAl bl ol cl_ bm om cm cr ar_ 27 (us 27) wl:=g.2 27 (hdep ⟨27,.data⟩ (by simp) rfl);have e77:al.tmps[77]?.getD undef=us 27:=by rw [← Rg.eval_getD,ha]; exact Rg.puts_eval _ _ _ (by rfl) (by simp) (by simp)
    have f25:us 25=.bool true:=d25;have f27:us 27=.bool true:=d27;have HB:=Lib.hid hB;clear ha hdep g hf hKf d25 d27 hB;refine Rg.wpOp_of rfl rfl ?_;go_simp;exact hK _ _ rfl (Below.refl _ _)
  · intro o ho f us wl al ha g hf hdep K hKf;obtain rfl:=Option.some.inj ho;have hB:=g.1;have hK:∀ v w',RAl bl ol cl_ bm om cm cr ar_ 29 v w'→Below wl.heap.size wl w'→K (al.put (some 79) v) w':=fun v w' hv hb=>hKf v w' (RAl.put g hb hv)
    have d28:RAl bl ol cl_ bm om cm cr ar_ 28 (us 28) wl:=g.2 28 (hdep ⟨28,.data⟩ (by simp) rfl);have e78:al.tmps[78]?.getD undef=us 28:=by rw [← Rg.eval_getD,ha]; exact Rg.puts_eval _ _ _ (by rfl) (by simp) (by simp)
    have f28:us 28=.bool true:=d28;have HB:=Lib.hid hB;clear ha hdep g hf hKf d28 hB;refine Rg.wpOp_of rfl rfl ?_;go_simp;exact hK _ _ rfl (Below.refl _ _)
  · intro o ho f us wl al ha g hf hdep K hKf;obtain rfl:=Option.some.inj ho;have hB:=g.1;have hK:∀ v w',RAl bl ol cl_ bm om cm cr ar_ 30 v w'→Below wl.heap.size wl w'→K (al.put (some 80) v) w':=fun v w' hv hb=>hKf v w' (RAl.put g hb hv)
    have e9:al.tmps[9]?.getD undef=.int .i64 120:=by rw [← Rg.eval_getD,ha]; exact (Rg.puts_eval_ne _ _ _ (by rfl)).trans rfl
    have dg:RAl bl ol cl_ bm om cm cr ar_ 29 (us 29) wl:=g.2 29 (hdep ⟨29,.guard⟩ (by simp) rfl);have gg:al.eval (.tmp 79)=.bool true:=by rw [ha]; exact (Rg.puts_eval _ _ _ (by rfl) (by simp) (by simp)).trans dg
    have HB:=Lib.hid hB;clear ha hdep g hf hKf hB;refine Rg.wpOp_of rfl (Rg.wanted_of rfl (Rg.yielded_of (d:=79) (by rfl) gg)) ?_;go_simp;exact hK _ _ rfl (Below.refl _ _)
  · intro o ho f us wl al ha g hf hdep K hKf;obtain rfl:=Option.some.inj ho;have hB:=g.1;have hK:∀ v w',RAl bl ol cl_ bm om cm cr ar_ 31 v w'→Below wl.heap.size wl w'→K (al.put (some 81) v) w':=fun v w' hv hb=>hKf v w' (RAl.put g hb hv)
    have d30:RAl bl ol cl_ bm om cm cr ar_ 30 (us 30) wl:=g.2 30 (hdep ⟨30,.data⟩ (by simp) rfl);have e80:al.tmps[80]?.getD undef=us 30:=by rw [← Rg.eval_getD,ha]; exact Rg.puts_eval _ _ _ (by rfl) (by simp) (by simp)
    have dg:RAl bl ol cl_ bm om cm cr ar_ 29 (us 29) wl:=g.2 29 (hdep ⟨29,.guard⟩ (by simp) rfl);have gg:al.eval (.tmp 79)=.bool true:=by rw [ha]; exact (Rg.puts_eval _ _ _ (by rfl) (by simp) (by simp)).trans dg
    have f30:us 30=.int .i64 120:=d30;have HB:=Lib.hid hB;clear ha hdep g hf hKf d30 hB;refine Rg.wpOp_of rfl (Rg.wanted_of rfl (Rg.yielded_of (d:=79) (by rfl) gg)) ?_;go_simp;exact hK _ _ rfl (Below.refl _ _)
  · intro o ho f us wl al ha g hf hdep K hKf;obtain rfl:=Option.some.inj ho;have hB:=g.1;have hK:∀ v w',RAl bl ol cl_ bm om cm cr ar_ 32 v w'→Below wl.heap.size wl w'→K (al.put (some 82) v) w':=fun v w' hv hb=>hKf v w' (RAl.put g hb hv)
    have d29:RAl bl ol cl_ bm om cm cr ar_ 29 (us 29) wl:=g.2 29 (hdep ⟨29,.data⟩ (by simp) rfl);have e79:al.tmps[79]?.getD undef=us 29:=by rw [← Rg.eval_getD,ha]; exact Rg.puts_eval _ _ _ (by rfl) (by simp) (by simp)
    have d31:RAl bl ol cl_ bm om cm cr ar_ 31 (us 31) wl:=g.2 31 (hdep ⟨31,.data⟩ (by simp) rfl);have e81:al.tmps[81]?.getD undef=us 31:=by rw [← Rg.eval_getD,ha]; exact Rg.puts_eval _ _ _ (by rfl) (by simp) (by simp)
    have f29:us 29=.bool true:=d29;have f31:us 31=.bool true:=d31;have HB:=Lib.hid hB;clear ha hdep g hf hKf d29 d31 hB;refine Rg.wpOp_of rfl rfl ?_;go_simp;exact hK _ _ rfl (Below.refl _ _)
  · intro o ho f us wl al ha g hf hdep K hKf;obtain rfl:=Option.some.inj ho;have hB:=g.1;have hK:∀ v w',RAl bl ol cl_ bm om cm cr ar_ 33 v w'→Below wl.heap.size wl w'→K (al.put (some 83) v) w':=fun v w' hv hb=>hKf v w' (RAl.put g hb hv)
    have d32:RAl bl ol cl_ bm om cm cr ar_ 32 (us 32) wl:=g.2 32 (hdep ⟨32,.data⟩ (by simp) rfl);have e82:al.tmps[82]?.getD undef=us 32:=by rw [← Rg.eval_getD,ha]; exact Rg.puts_eval _ _ _ (by rfl) (by simp) (by simp)
    have f32:us 32=.bool true:=d32;have HB:=Lib.hid hB;clear ha hdep g hf hKf d32 hB;refine Rg.wpOp_of rfl rfl ?_;go_simp;exact hK _ _ rfl (Below.refl _ _)
  · intro o ho f us wl al ha g hf hdep K hKf;obtain rfl:=Option.some.inj ho;have hB:=g.1;have hK:∀ v w',RAl bl ol cl_ bm om cm cr ar_ 34 v w'→Below wl.heap.size wl w'→K (al.put (some 84) v) w':=fun v w' hv hb=>hKf v w' (RAl.put g hb hv)
    have e10:al.tmps[10]?.getD undef=.slice ar_ 1 cr:=by rw [← Rg.eval_getD,ha]; exact (Rg.puts_eval_ne _ _ _ (by rfl)).trans rfl
    have dg:RAl bl ol cl_ bm om cm cr ar_ 33 (us 33) wl:=g.2 33 (hdep ⟨33,.guard⟩ (by simp) rfl);have gg:al.eval (.tmp 83)=.bool true:=by rw [ha]; exact (Rg.puts_eval _ _ _ (by rfl) (by simp) (by simp)).trans dg
    have HB:=Lib.hid hB;clear ha hdep g hf hKf hB;refine Rg.wpOp_of rfl (Rg.wanted_of rfl (Rg.yielded_of (d:=83) (by rfl) gg)) ?_;go_simp;exact hK _ _ rfl (Below.refl _ _)
  · intro o ho f us wl al ha g hf hdep K hKf;obtain rfl:=Option.some.inj ho;have hB:=g.1;have hK:∀ v w',RAl bl ol cl_ bm om cm cr ar_ 35 v w'→Below wl.heap.size wl w'→K (al.put (some 85) v) w':=fun v w' hv hb=>hKf v w' (RAl.put g hb hv)
    have dg:RAl bl ol cl_ bm om cm cr ar_ 33 (us 33) wl:=g.2 33 (hdep ⟨33,.guard⟩ (by simp) rfl);have gg:al.eval (.tmp 83)=.bool true:=by rw [ha]; exact (Rg.puts_eval _ _ _ (by rfl) (by simp) (by simp)).trans dg
    have HB:=Lib.hid hB;clear ha hdep g hf hKf hB;refine Rg.wpOp_of rfl (Rg.wanted_of rfl (Rg.yielded_of (d:=83) (by rfl) gg)) ?_;go_simp;refine (HTc.out _).mono ?_;rintro e wn ⟨rfl,hb⟩;exact hK _ _ rfl hb
  · intro o ho f us wl al ha g hf hdep K hKf;obtain rfl:=Option.some.inj ho;have hB:=g.1;have hK:∀ v w',RAl bl ol cl_ bm om cm cr ar_ 36 v w'→Below wl.heap.size wl w'→K (al.put (some 86) v) w':=fun v w' hv hb=>hKf v w' (RAl.put g hb hv)
    have d35:RAl bl ol cl_ bm om cm cr ar_ 35 (us 35) wl:=g.2 35 (hdep ⟨35,.data⟩ (by simp) rfl);have e85:al.tmps[85]?.getD undef=us 35:=by rw [← Rg.eval_getD,ha]; exact Rg.puts_eval _ _ _ (by rfl) (by simp) (by simp)
    have dg:RAl bl ol cl_ bm om cm cr ar_ 33 (us 33) wl:=g.2 33 (hdep ⟨33,.guard⟩ (by simp) rfl);have gg:al.eval (.tmp 83)=.bool true:=by rw [ha]; exact (Rg.puts_eval _ _ _ (by rfl) (by simp) (by simp)).trans dg
    have f35:us 35=.agg #[.int .i64 1,.string ⟨#[99]⟩,.int .i64 0]:=d35;have HB:=Lib.hid hB;clear ha hdep g hf hKf d35 hB;refine Rg.wpOp_of rfl (Rg.wanted_of rfl (Rg.yielded_of (d:=83) (by rfl) gg)) ?_;go_simp;exact hK _ _ (Se.nds_new _ (flat tC) _) (below1 _ _)
  · intro o ho f us wl al ha g hf hdep K hKf;obtain rfl:=Option.some.inj ho;have hB:=g.1;have hK:∀ v w',RAl bl ol cl_ bm om cm cr ar_ 37 v w'→Below wl.heap.size wl w'→K (al.put (some 87) v) w':=fun v w' hv hb=>hKf v w' (RAl.put g hb hv)
    have d34:RAl bl ol cl_ bm om cm cr ar_ 34 (us 34) wl:=g.2 34 (hdep ⟨34,.data⟩ (by simp) rfl);have e84:al.tmps[84]?.getD undef=us 34:=by rw [← Rg.eval_getD,ha]; exact Rg.puts_eval _ _ _ (by rfl) (by simp) (by simp)
    have d36:RAl bl ol cl_ bm om cm cr ar_ 36 (us 36) wl:=g.2 36 (hdep ⟨36,.data⟩ (by simp) rfl);have e86:al.tmps[86]?.getD undef=us 36:=by rw [← Rg.eval_getD,ha]; exact Rg.puts_eval _ _ _ (by rfl) (by simp) (by simp)
    have dg:RAl bl ol cl_ bm om cm cr ar_ 33 (us 33) wl:=g.2 33 (hdep ⟨33,.guard⟩ (by simp) rfl);have gg:al.eval (.tmp 83)=.bool true:=by rw [ha]; exact (Rg.puts_eval _ _ _ (by rfl) (by simp) (by simp)).trans dg
    have f34:us 34=.slice ar_ 1 cr:=d34;have D36:Hid (Nds wl (us 36) (flat tC)):=d36;have HB:=Lib.hid hB;clear ha hdep g hf hKf d34 d36 hB;refine Rg.wpOp_of rfl (Rg.wanted_of rfl (Rg.yielded_of (d:=83) (by rfl) gg)) ?_;go_simp;refine (sameR_any _ _ (flat tC) (flat tC) _ (HQ.out _ HB.out) D36.out (by decide)).mono ?_;rw [show sameN (flat tC) (flat tC)=true from decide_eq_true rfl];rintro e wn ⟨rfl,hb⟩;exact hK _ _ rfl hb
  · intro o ho f us wl al ha g hf hdep K hKf;obtain rfl:=Option.some.inj ho;have hB:=g.1;have hK:∀ v w',RAl bl ol cl_ bm om cm cr ar_ 38 v w'→Below wl.heap.size wl w'→K (al.put (some 88) v) w':=fun v w' hv hb=>hKf v w' (RAl.put g hb hv)
    have d33:RAl bl ol cl_ bm om cm cr ar_ 33 (us 33) wl:=g.2 33 (hdep ⟨33,.data⟩ (by simp) rfl);have e83:al.tmps[83]?.getD undef=us 33:=by rw [← Rg.eval_getD,ha]; exact Rg.puts_eval _ _ _ (by rfl) (by simp) (by simp)
    have d37:RAl bl ol cl_ bm om cm cr ar_ 37 (us 37) wl:=g.2 37 (hdep ⟨37,.data⟩ (by simp) rfl);have e87:al.tmps[87]?.getD undef=us 37:=by rw [← Rg.eval_getD,ha]; exact Rg.puts_eval _ _ _ (by rfl) (by simp) (by simp)
    have f33:us 33=.bool true:=d33;have f37:us 37=.bool true:=d37;have HB:=Lib.hid hB;clear ha hdep g hf hKf d33 d37 hB;refine Rg.wpOp_of rfl rfl ?_;go_simp;exact hK _ _ rfl (Below.refl _ _)
  · intro o ho f us wl al ha g hf hdep K hKf;obtain rfl:=Option.some.inj ho;have hB:=g.1;have hK:∀ v w',RAl bl ol cl_ bm om cm cr ar_ 39 v w'→Below wl.heap.size wl w'→K (al.put (some 89) v) w':=fun v w' hv hb=>hKf v w' (RAl.put g hb hv)
    have d38:RAl bl ol cl_ bm om cm cr ar_ 38 (us 38) wl:=g.2 38 (hdep ⟨38,.data⟩ (by simp) rfl);have e88:al.tmps[88]?.getD undef=us 38:=by rw [← Rg.eval_getD,ha]; exact Rg.puts_eval _ _ _ (by rfl) (by simp) (by simp)
    have f38:us 38=.bool true:=d38;have HB:=Lib.hid hB;clear ha hdep g hf hKf d38 hB;refine Rg.wpOp_of rfl rfl ?_;go_simp;exact hK _ _ rfl (Below.refl _ _)
  · intro o ho f us wl al ha g hf hdep K hKf;obtain rfl:=Option.some.inj ho;have hB:=g.1;have hK:∀ v w',RAl bl ol cl_ bm om cm cr ar_ 40 v w'→Below wl.heap.size wl w'→K (al.put (some 90) v) w':=fun v w' hv hb=>hKf v w' (RAl.put g hb hv)
    have e11:al.tmps[11]?.getD undef=.int .i64 0:=by rw [← Rg.eval_getD,ha]; exact (Rg.puts_eval_ne _ _ _ (by rfl)).trans rfl
    have dg:RAl bl ol cl_ bm om cm cr ar_ 39 (us 39) wl:=g.2 39 (hdep ⟨39,.guard⟩ (by simp) rfl);have gg:al.eval (.tmp 89)=.bool true:=by rw [ha]; exact (Rg.puts_eval _ _ _ (by rfl) (by simp) (by simp)).trans dg
    have HB:=Lib.hid hB;clear ha hdep g hf hKf hB;refine Rg.wpOp_of rfl (Rg.wanted_of rfl (Rg.yielded_of (d:=89) (by rfl) gg)) ?_;go_simp;exact hK _ _ rfl (Below.refl _ _)
  · intro o ho f us wl al ha g hf hdep K hKf;obtain rfl:=Option.some.inj ho;have hB:=g.1;have hK:∀ v w',RAl bl ol cl_ bm om cm cr ar_ 41 v w'→Below wl.heap.size wl w'→K (al.put (some 91) v) w':=fun v w' hv hb=>hKf v w' (RAl.put g hb hv)
    have d40:RAl bl ol cl_ bm om cm cr ar_ 40 (us 40) wl:=g.2 40 (hdep ⟨40,.data⟩ (by simp) rfl);have e90:al.tmps[90]?.getD undef=us 40:=by rw [← Rg.eval_getD,ha]; exact Rg.puts_eval _ _ _ (by rfl) (by simp) (by simp)
    have dg:RAl bl ol cl_ bm om cm cr ar_ 39 (us 39) wl:=g.2 39 (hdep ⟨39,.guard⟩ (by simp) rfl);have gg:al.eval (.tmp 89)=.bool true:=by rw [ha]; exact (Rg.puts_eval _ _ _ (by rfl) (by simp) (by simp)).trans dg
    have f40:us 40=.int .i64 0:=d40;have HB:=Lib.hid hB;clear ha hdep g hf hKf d40 hB;refine Rg.wpOp_of rfl (Rg.wanted_of rfl (Rg.yielded_of (d:=89) (by rfl) gg)) ?_;go_simp;exact hK _ _ rfl (Below.refl _ _)
  · intro o ho f us wl al ha g hf hdep K hKf;obtain rfl:=Option.some.inj ho;have hB:=g.1;have hK:∀ v w',RAl bl ol cl_ bm om cm cr ar_ 42 v w'→Below wl.heap.size wl w'→K (al.put (some 92) v) w':=fun v w' hv hb=>hKf v w' (RAl.put g hb hv)
    have d39:RAl bl ol cl_ bm om cm cr ar_ 39 (us 39) wl:=g.2 39 (hdep ⟨39,.data⟩ (by simp) rfl);have e89:al.tmps[89]?.getD undef=us 39:=by rw [← Rg.eval_getD,ha]; exact Rg.puts_eval _ _ _ (by rfl) (by simp) (by simp)
    have d41:RAl bl ol cl_ bm om cm cr ar_ 41 (us 41) wl:=g.2 41 (hdep ⟨41,.data⟩ (by simp) rfl);have e91:al.tmps[91]?.getD undef=us 41:=by rw [← Rg.eval_getD,ha]; exact Rg.puts_eval _ _ _ (by rfl) (by simp) (by simp)
    have f39:us 39=.bool true:=d39;have f41:us 41=.bool true:=d41;have HB:=Lib.hid hB;clear ha hdep g hf hKf d39 d41 hB;refine Rg.wpOp_of rfl rfl ?_;go_simp;exact hK _ _ rfl (Below.refl _ _)
  · intro o ho f us wl al ha g hf hdep K hKf;obtain rfl:=Option.some.inj ho;have hB:=g.1;have hK:∀ v w',RAl bl ol cl_ bm om cm cr ar_ 43 v w'→Below wl.heap.size wl w'→K (al.put (some 93) v) w':=fun v w' hv hb=>hKf v w' (RAl.put g hb hv)
    have d42:RAl bl ol cl_ bm om cm cr ar_ 42 (us 42) wl:=g.2 42 (hdep ⟨42,.data⟩ (by simp) rfl);have e92:al.tmps[92]?.getD undef=us 42:=by rw [← Rg.eval_getD,ha]; exact Rg.puts_eval _ _ _ (by rfl) (by simp) (by simp)
    have f42:us 42=.bool true:=d42;have HB:=Lib.hid hB;clear ha hdep g hf hKf d42 hB;refine Rg.wpOp_of rfl rfl ?_;go_simp;exact hK _ _ rfl (Below.refl _ _)
  · intro o ho f us wl al ha g hf hdep K hKf;obtain rfl:=Option.some.inj ho;have hB:=g.1;have hK:∀ v w',RAl bl ol cl_ bm om cm cr ar_ 44 v w'→Below wl.heap.size wl w'→K (al.put (some 94) v) w':=fun v w' hv hb=>hKf v w' (RAl.put g hb hv)
    have e4:al.tmps[4]?.getD undef=.slice (some ⟨bm,om,none⟩) 4 cm:=by rw [← Rg.eval_getD,ha]; exact (Rg.puts_eval_ne _ _ _ (by rfl)).trans rfl
    have dg:RAl bl ol cl_ bm om cm cr ar_ 43 (us 43) wl:=g.2 43 (hdep ⟨43,.guard⟩ (by simp) rfl);have gg:al.eval (.tmp 93)=.bool true:=by rw [ha]; exact (Rg.puts_eval _ _ _ (by rfl) (by simp) (by simp)).trans dg
    have HB:=Lib.hid hB;clear ha hdep g hf hKf hB;refine Rg.wpOp_of rfl (Rg.wanted_of rfl (Rg.yielded_of (d:=93) (by rfl) gg)) ?_;go_simp;exact hK _ _ rfl (Below.refl _ _)
  · intro o ho f us wl al ha g hf hdep K hKf;obtain rfl:=Option.some.inj ho;have hB:=g.1;have hK:∀ v w',RAl bl ol cl_ bm om cm cr ar_ 45 v w'→Below wl.heap.size wl w'→K (al.put (some 95) v) w':=fun v w' hv hb=>hKf v w' (RAl.put g hb hv)
    have e1:al.tmps[1]?.getD undef=.slice (some ⟨bl,ol,none⟩) 1 cl_:=by rw [← Rg.eval_getD,ha]; exact (Rg.puts_eval_ne _ _ _ (by rfl)).trans rfl
    have dg:RAl bl ol cl_ bm om cm cr ar_ 43 (us 43) wl:=g.2 43 (hdep ⟨43,.guard⟩ (by simp) rfl);have gg:al.eval (.tmp 93)=.bool true:=by rw [ha]; exact (Rg.puts_eval _ _ _ (by rfl) (by simp) (by simp)).trans dg
    have HB:=Lib.hid hB;clear ha hdep g hf hKf hB;refine Rg.wpOp_of rfl (Rg.wanted_of rfl (Rg.yielded_of (d:=93) (by rfl) gg)) ?_;go_simp;exact hK _ _ rfl (Below.refl _ _)
  · intro o ho f us wl al ha g hf hdep K hKf;obtain rfl:=Option.some.inj ho;have hB:=g.1;have hK:∀ v w',RAl bl ol cl_ bm om cm cr ar_ 46 v w'→Below wl.heap.size wl w'→K (al.put (some 96) v) w':=fun v w' hv hb=>hKf v w' (RAl.put g hb hv)
    have d44:RAl bl ol cl_ bm om cm cr ar_ 44 (us 44) wl:=g.2 44 (hdep ⟨44,.data⟩ (by simp) rfl);have e94:al.tmps[94]?.getD undef=us 44:=by rw [← Rg.eval_getD,ha]; exact Rg.puts_eval _ _ _ (by rfl) (by simp) (by simp)
    have d45:RAl bl ol cl_ bm om cm cr ar_ 45 (us 45) wl:=g.2 45 (hdep ⟨45,.data⟩ (by simp) rfl);have e95:al.tmps[95]?.getD undef=us 45:=by rw [← Rg.eval_getD,ha]; exact Rg.puts_eval _ _ _ (by rfl) (by simp) (by simp)
    have dg:RAl bl ol cl_ bm om cm cr ar_ 43 (us 43) wl:=g.2 43 (hdep ⟨43,.guard⟩ (by simp) rfl);have gg:al.eval (.tmp 93)=.bool true:=by rw [ha]; exact (Rg.puts_eval _ _ _ (by rfl) (by simp) (by simp)).trans dg
    have f44:us 44=.slice (some ⟨bm,om,none⟩) 4 cm:=d44;have f45:us 45=.slice (some ⟨bl,ol,none⟩) 1 cl_:=d45;have HB:=Lib.hid hB;clear ha hdep g hf hKf d44 d45 hB;refine Rg.wpOp_of rfl (Rg.wanted_of rfl (Rg.yielded_of (d:=93) (by rfl) gg)) ?_;go_simp;refine (HP.out _ _ _ (HM.out _ HB.out) (HL.out _ HB.out)).mono ?_;rintro e wn ⟨y,rfl,hy,hb⟩;exact hK _ _ (Ap.Rd.owned hy) hb
  · intro o ho f us wl al ha g hf hdep K hKf;obtain rfl:=Option.some.inj ho;have hB:=g.1;have hK:∀ v w',RAl bl ol cl_ bm om cm cr ar_ 47 v w'→Below wl.heap.size wl w'→K (al.put (some 97) v) w':=fun v w' hv hb=>hKf v w' (RAl.put g hb hv)
    have e4:al.tmps[4]?.getD undef=.slice (some ⟨bm,om,none⟩) 4 cm:=by rw [← Rg.eval_getD,ha]; exact (Rg.puts_eval_ne _ _ _ (by rfl)).trans rfl
    have dg:RAl bl ol cl_ bm om cm cr ar_ 43 (us 43) wl:=g.2 43 (hdep ⟨43,.guard⟩ (by simp) rfl);have gg:al.eval (.tmp 93)=.bool true:=by rw [ha]; exact (Rg.puts_eval _ _ _ (by rfl) (by simp) (by simp)).trans dg
    have HB:=Lib.hid hB;clear ha hdep g hf hKf hB;refine Rg.wpOp_of rfl (Rg.wanted_of rfl (Rg.yielded_of (d:=93) (by rfl) gg)) ?_;go_simp;exact hK _ _ rfl (Below.refl _ _)
  · intro o ho f us wl al ha g hf hdep K hKf;obtain rfl:=Option.some.inj ho;have hB:=g.1;have hK:∀ v w',RAl bl ol cl_ bm om cm cr ar_ 48 v w'→Below wl.heap.size wl w'→K (al.put (some 98) v) w':=fun v w' hv hb=>hKf v w' (RAl.put g hb hv)
    have d47:RAl bl ol cl_ bm om cm cr ar_ 47 (us 47) wl:=g.2 47 (hdep ⟨47,.data⟩ (by simp) rfl);have e97:al.tmps[97]?.getD undef=us 47:=by rw [← Rg.eval_getD,ha]; exact Rg.puts_eval _ _ _ (by rfl) (by simp) (by simp)
    have dg:RAl bl ol cl_ bm om cm cr ar_ 43 (us 43) wl:=g.2 43 (hdep ⟨43,.guard⟩ (by simp) rfl);have gg:al.eval (.tmp 93)=.bool true:=by rw [ha]; exact (Rg.puts_eval _ _ _ (by rfl) (by simp) (by simp)).trans dg
    have f47:us 47=.slice (some ⟨bm,om,none⟩) 4 cm:=d47;have HB:=Lib.hid hB;clear ha hdep g hf hKf d47 hB;refine Rg.wpOp_of rfl (Rg.wanted_of rfl (Rg.yielded_of (d:=93) (by rfl) gg)) ?_;go_simp;exact hK _ _ rfl (Below.refl _ _)
  · intro o ho f us wl al ha g hf hdep K hKf;obtain rfl:=Option.some.inj ho;have hB:=g.1;have hK:∀ v w',RAl bl ol cl_ bm om cm cr ar_ 49 v w'→Below wl.heap.size wl w'→K (al.put (some 99) v) w':=fun v w' hv hb=>hKf v w' (RAl.put g hb hv)
    have d48:RAl bl ol cl_ bm om cm cr ar_ 48 (us 48) wl:=g.2 48 (hdep ⟨48,.data⟩ (by simp) rfl);have e98:al.tmps[98]?.getD undef=us 48:=by rw [← Rg.eval_getD,ha]; exact Rg.puts_eval _ _ _ (by rfl) (by simp) (by simp)
    have dg:RAl bl ol cl_ bm om cm cr ar_ 43 (us 43) wl:=g.2 43 (hdep ⟨43,.guard⟩ (by simp) rfl);have gg:al.eval (.tmp 93)=.bool true:=by rw [ha]; exact (Rg.puts_eval _ _ _ (by rfl) (by simp) (by simp)).trans dg
    have f48:us 48=.pointer (some ⟨bm,om,none⟩):=d48;obtain ⟨c0,c1,c2⟩:=X0.out _ hB;have HB:=Lib.hid hB;clear ha hdep g hf hKf d48 hB;refine Rg.wpOp_of rfl (Rg.wanted_of rfl (Rg.yielded_of (d:=93) (by rfl) gg)) ?_;go_simp;exact hK _ _ rfl (Below.refl _ _)
  · intro o ho f us wl al ha g hf hdep K hKf;obtain rfl:=Option.some.inj ho;have hB:=g.1;have hK:∀ v w',RAl bl ol cl_ bm om cm cr ar_ 50 v w'→Below wl.heap.size wl w'→K (al.put (some 100) v) w':=fun v w' hv hb=>hKf v w' (RAl.put g hb hv)
    have e4:al.tmps[4]?.getD undef=.slice (some ⟨bm,om,none⟩) 4 cm:=by rw [← Rg.eval_getD,ha]; exact (Rg.puts_eval_ne _ _ _ (by rfl)).trans rfl
    have dg:RAl bl ol cl_ bm om cm cr ar_ 43 (us 43) wl:=g.2 43 (hdep ⟨43,.guard⟩ (by simp) rfl);have gg:al.eval (.tmp 93)=.bool true:=by rw [ha]; exact (Rg.puts_eval _ _ _ (by rfl) (by simp) (by simp)).trans dg
    have HB:=Lib.hid hB;clear ha hdep g hf hKf hB;refine Rg.wpOp_of rfl (Rg.wanted_of rfl (Rg.yielded_of (d:=93) (by rfl) gg)) ?_;go_simp;exact hK _ _ rfl (Below.refl _ _)
  · intro o ho f us wl al ha g hf hdep K hKf;obtain rfl:=Option.some.inj ho;have hB:=g.1;have hK:∀ v w',RAl bl ol cl_ bm om cm cr ar_ 51 v w'→Below wl.heap.size wl w'→K (al.put (some 101) v) w':=fun v w' hv hb=>hKf v w' (RAl.put g hb hv)
    have d50:RAl bl ol cl_ bm om cm cr ar_ 50 (us 50) wl:=g.2 50 (hdep ⟨50,.data⟩ (by simp) rfl);have e100:al.tmps[100]?.getD undef=us 50:=by rw [← Rg.eval_getD,ha]; exact Rg.puts_eval _ _ _ (by rfl) (by simp) (by simp)
    have dg:RAl bl ol cl_ bm om cm cr ar_ 43 (us 43) wl:=g.2 43 (hdep ⟨43,.guard⟩ (by simp) rfl);have gg:al.eval (.tmp 93)=.bool true:=by rw [ha]; exact (Rg.puts_eval _ _ _ (by rfl) (by simp) (by simp)).trans dg
    have f50:us 50=.slice (some ⟨bm,om,none⟩) 4 cm:=d50;have HB:=Lib.hid hB;clear ha hdep g hf hKf d50 hB;refine Rg.wpOp_of rfl (Rg.wanted_of rfl (Rg.yielded_of (d:=93) (by rfl) gg)) ?_;go_simp;exact hK _ _ rfl (Below.refl _ _)
  · intro o ho f us wl al ha g hf hdep K hKf;obtain rfl:=Option.some.inj ho;have hB:=g.1;have hK:∀ v w',RAl bl ol cl_ bm om cm cr ar_ 52 v w'→Below wl.heap.size wl w'→K (al.put (some 102) v) w':=fun v w' hv hb=>hKf v w' (RAl.put g hb hv)
    have d51:RAl bl ol cl_ bm om cm cr ar_ 51 (us 51) wl:=g.2 51 (hdep ⟨51,.data⟩ (by simp) rfl);have e101:al.tmps[101]?.getD undef=us 51:=by rw [← Rg.eval_getD,ha]; exact Rg.puts_eval _ _ _ (by rfl) (by simp) (by simp)
    have dg:RAl bl ol cl_ bm om cm cr ar_ 43 (us 43) wl:=g.2 43 (hdep ⟨43,.guard⟩ (by simp) rfl);have gg:al.eval (.tmp 93)=.bool true:=by rw [ha]; exact (Rg.puts_eval _ _ _ (by rfl) (by simp) (by simp)).trans dg
    have f51:us 51=.pointer (some ⟨bm,om+3,none⟩):=d51;obtain ⟨c0,c1,c2⟩:=X1.out _ hB;have HB:=Lib.hid hB;clear ha hdep g hf hKf d51 hB;refine Rg.wpOp_of rfl (Rg.wanted_of rfl (Rg.yielded_of (d:=93) (by rfl) gg)) ?_;go_simp;exact hK _ _ rfl (Below.refl _ _)
  · intro o ho f us wl al ha g hf hdep K hKf;obtain rfl:=Option.some.inj ho;have hB:=g.1;have hK:∀ v w',RAl bl ol cl_ bm om cm cr ar_ 53 v w'→Below wl.heap.size wl w'→K (al.put (some 103) v) w':=fun v w' hv hb=>hKf v w' (RAl.put g hb hv)
    have e1:al.tmps[1]?.getD undef=.slice (some ⟨bl,ol,none⟩) 1 cl_:=by rw [← Rg.eval_getD,ha]; exact (Rg.puts_eval_ne _ _ _ (by rfl)).trans rfl
    have dg:RAl bl ol cl_ bm om cm cr ar_ 43 (us 43) wl:=g.2 43 (hdep ⟨43,.guard⟩ (by simp) rfl);have gg:al.eval (.tmp 93)=.bool true:=by rw [ha]; exact (Rg.puts_eval _ _ _ (by rfl) (by simp) (by simp)).trans dg
    have HB:=Lib.hid hB;clear ha hdep g hf hKf hB;refine Rg.wpOp_of rfl (Rg.wanted_of rfl (Rg.yielded_of (d:=93) (by rfl) gg)) ?_;go_simp;exact hK _ _ rfl (Below.refl _ _)
  · intro o ho f us wl al ha g hf hdep K hKf;obtain rfl:=Option.some.inj ho;have hB:=g.1;have hK:∀ v w',RAl bl ol cl_ bm om cm cr ar_ 54 v w'→Below wl.heap.size wl w'→K (al.put (some 104) v) w':=fun v w' hv hb=>hKf v w' (RAl.put g hb hv)
    have d53:RAl bl ol cl_ bm om cm cr ar_ 53 (us 53) wl:=g.2 53 (hdep ⟨53,.data⟩ (by simp) rfl);have e103:al.tmps[103]?.getD undef=us 53:=by rw [← Rg.eval_getD,ha]; exact Rg.puts_eval _ _ _ (by rfl) (by simp) (by simp)
    have dg:RAl bl ol cl_ bm om cm cr ar_ 43 (us 43) wl:=g.2 43 (hdep ⟨43,.guard⟩ (by simp) rfl);have gg:al.eval (.tmp 93)=.bool true:=by rw [ha]; exact (Rg.puts_eval _ _ _ (by rfl) (by simp) (by simp)).trans dg
    have f53:us 53=.slice (some ⟨bl,ol,none⟩) 1 cl_:=d53;have HB:=Lib.hid hB;clear ha hdep g hf hKf d53 hB;refine Rg.wpOp_of rfl (Rg.wanted_of rfl (Rg.yielded_of (d:=93) (by rfl) gg)) ?_;go_simp;exact hK _ _ rfl (Below.refl _ _)
  · intro o ho f us wl al ha g hf hdep K hKf;obtain rfl:=Option.some.inj ho;have hB:=g.1;have hK:∀ v w',RAl bl ol cl_ bm om cm cr ar_ 55 v w'→Below wl.heap.size wl w'→K (al.put (some 105) v) w':=fun v w' hv hb=>hKf v w' (RAl.put g hb hv)
    have d54:RAl bl ol cl_ bm om cm cr ar_ 54 (us 54) wl:=g.2 54 (hdep ⟨54,.data⟩ (by simp) rfl);have e104:al.tmps[104]?.getD undef=us 54:=by rw [← Rg.eval_getD,ha]; exact Rg.puts_eval _ _ _ (by rfl) (by simp) (by simp)
    have dg:RAl bl ol cl_ bm om cm cr ar_ 43 (us 43) wl:=g.2 43 (hdep ⟨43,.guard⟩ (by simp) rfl);have gg:al.eval (.tmp 93)=.bool true:=by rw [ha]; exact (Rg.puts_eval _ _ _ (by rfl) (by simp) (by simp)).trans dg
    have f54:us 54=.pointer (some ⟨bl,ol,none⟩):=d54;obtain ⟨c0,c1,c2⟩:=XO.out _ hB;have HB:=Lib.hid hB;clear ha hdep g hf hKf d54 hB;refine Rg.wpOp_of rfl (Rg.wanted_of rfl (Rg.yielded_of (d:=93) (by rfl) gg)) ?_;go_simp;exact hK _ _ rfl (Below.refl _ _)
  · intro o ho f us wl al ha g hf hdep K hKf;obtain rfl:=Option.some.inj ho;have hB:=g.1;have hK:∀ v w',RAl bl ol cl_ bm om cm cr ar_ 56 v w'→Below wl.heap.size wl w'→K (al.put (some 106) v) w':=fun v w' hv hb=>hKf v w' (RAl.put g hb hv)
    have e4:al.tmps[4]?.getD undef=.slice (some ⟨bm,om,none⟩) 4 cm:=by rw [← Rg.eval_getD,ha]; exact (Rg.puts_eval_ne _ _ _ (by rfl)).trans rfl
    have dg:RAl bl ol cl_ bm om cm cr ar_ 43 (us 43) wl:=g.2 43 (hdep ⟨43,.guard⟩ (by simp) rfl);have gg:al.eval (.tmp 93)=.bool true:=by rw [ha]; exact (Rg.puts_eval _ _ _ (by rfl) (by simp) (by simp)).trans dg
    have HB:=Lib.hid hB;clear ha hdep g hf hKf hB;refine Rg.wpOp_of rfl (Rg.wanted_of rfl (Rg.yielded_of (d:=93) (by rfl) gg)) ?_;go_simp;exact hK _ _ rfl (Below.refl _ _)
  · intro o ho f us wl al ha g hf hdep K hKf;obtain rfl:=Option.some.inj ho;have hB:=g.1;have hK:∀ v w',RAl bl ol cl_ bm om cm cr ar_ 57 v w'→Below wl.heap.size wl w'→K (al.put (some 107) v) w':=fun v w' hv hb=>hKf v w' (RAl.put g hb hv)
    have d56:RAl bl ol cl_ bm om cm cr ar_ 56 (us 56) wl:=g.2 56 (hdep ⟨56,.data⟩ (by simp) rfl);have e106:al.tmps[106]?.getD undef=us 56:=by rw [← Rg.eval_getD,ha]; exact Rg.puts_eval _ _ _ (by rfl) (by simp) (by simp)
    have dg:RAl bl ol cl_ bm om cm cr ar_ 43 (us 43) wl:=g.2 43 (hdep ⟨43,.guard⟩ (by simp) rfl);have gg:al.eval (.tmp 93)=.bool true:=by rw [ha]; exact (Rg.puts_eval _ _ _ (by rfl) (by simp) (by simp)).trans dg
    have f56:us 56=.slice (some ⟨bm,om,none⟩) 4 cm:=d56;have HB:=Lib.hid hB;clear ha hdep g hf hKf d56 hB;refine Rg.wpOp_of rfl (Rg.wanted_of rfl (Rg.yielded_of (d:=93) (by rfl) gg)) ?_;go_simp;exact hK _ _ rfl (Below.refl _ _)
  · intro o ho f us wl al ha g hf hdep K hKf;obtain rfl:=Option.some.inj ho;have hB:=g.1;have hK:∀ v w',RAl bl ol cl_ bm om cm cr ar_ 58 v w'→Below wl.heap.size wl w'→K (al.put (some 108) v) w':=fun v w' hv hb=>hKf v w' (RAl.put g hb hv)
    have d57:RAl bl ol cl_ bm om cm cr ar_ 57 (us 57) wl:=g.2 57 (hdep ⟨57,.data⟩ (by simp) rfl);have e107:al.tmps[107]?.getD undef=us 57:=by rw [← Rg.eval_getD,ha]; exact Rg.puts_eval _ _ _ (by rfl) (by simp) (by simp)
    have dg:RAl bl ol cl_ bm om cm cr ar_ 43 (us 43) wl:=g.2 43 (hdep ⟨43,.guard⟩ (by simp) rfl);have gg:al.eval (.tmp 93)=.bool true:=by rw [ha]; exact (Rg.puts_eval _ _ _ (by rfl) (by simp) (by simp)).trans dg
    have f57:us 57=.pointer (some ⟨bm,om+9,none⟩):=d57;obtain ⟨c0,c1,c2⟩:=X3.out _ hB;have HB:=Lib.hid hB;clear ha hdep g hf hKf d57 hB;refine Rg.wpOp_of rfl (Rg.wanted_of rfl (Rg.yielded_of (d:=93) (by rfl) gg)) ?_;go_simp;exact hK _ _ rfl (Below.refl _ _)
  · intro o ho f us wl al ha g hf hdep K hKf;obtain rfl:=Option.some.inj ho;have hB:=g.1;have hK:∀ v w',RAl bl ol cl_ bm om cm cr ar_ 59 v w'→Below wl.heap.size wl w'→K (al.put (some 109) v) w':=fun v w' hv hb=>hKf v w' (RAl.put g hb hv)
    have d49:RAl bl ol cl_ bm om cm cr ar_ 49 (us 49) wl:=g.2 49 (hdep ⟨49,.data⟩ (by simp) rfl);have e99:al.tmps[99]?.getD undef=us 49:=by rw [← Rg.eval_getD,ha]; exact Rg.puts_eval _ _ _ (by rfl) (by simp) (by simp)
    have d52:RAl bl ol cl_ bm om cm cr ar_ 52 (us 52) wl:=g.2 52 (hdep ⟨52,.data⟩ (by simp) rfl);have e102:al.tmps[102]?.getD undef=us 52:=by rw [← Rg.eval_getD,ha]; exact Rg.puts_eval _ _ _ (by rfl) (by simp) (by simp)
    have d55:RAl bl ol cl_ bm om cm cr ar_ 55 (us 55) wl:=g.2 55 (hdep ⟨55,.data⟩ (by simp) rfl);have e105:al.tmps[105]?.getD undef=us 55:=by rw [← Rg.eval_getD,ha]; exact Rg.puts_eval _ _ _ (by rfl) (by simp) (by simp)
    have d58:RAl bl ol cl_ bm om cm cr ar_ 58 (us 58) wl:=g.2 58 (hdep ⟨58,.data⟩ (by simp) rfl);have e108:al.tmps[108]?.getD undef=us 58:=by rw [← Rg.eval_getD,ha]; exact Rg.puts_eval _ _ _ (by rfl) (by simp) (by simp)
    have dg:RAl bl ol cl_ bm om cm cr ar_ 43 (us 43) wl:=g.2 43 (hdep ⟨43,.guard⟩ (by simp) rfl);have gg:al.eval (.tmp 93)=.bool true:=by rw [ha]; exact (Rg.puts_eval _ _ _ (by rfl) (by simp) (by simp)).trans dg
    have f49:us 49=.agg #[.int .i64 9,.string ⟨#[]⟩,.int .i64 0]:=d49;have f52:us 52=.agg #[.int .i64 12,.string ⟨#[]⟩,.int .i64 0]:=d52;have f55:us 55=.agg #[.int .i64 11,.string ⟨#[]⟩,.int .i64 2]:=d55;have f58:us 58=.agg #[.int .i64 1,.string ⟨#[98]⟩,.int .i64 0]:=d58;have HB:=Lib.hid hB;clear ha hdep g hf hKf d49 d52 d55 d58 hB;refine Rg.wpOp_of rfl (Rg.wanted_of rfl (Rg.yielded_of (d:=93) (by rfl) gg)) ?_;go_simp;exact hK _ _ (Se.nds_new _ (PLs) _) (below1 _ _)
  · intro o ho f us wl al ha g hf hdep K hKf;obtain rfl:=Option.some.inj ho;have hB:=g.1;have hK:∀ v w',RAl bl ol cl_ bm om cm cr ar_ 60 v w'→Below wl.heap.size wl w'→K (al.put (some 110) v) w':=fun v w' hv hb=>hKf v w' (RAl.put g hb hv)
    have d46:RAl bl ol cl_ bm om cm cr ar_ 46 (us 46) wl:=g.2 46 (hdep ⟨46,.data⟩ (by simp) rfl);have e96:al.tmps[96]?.getD undef=us 46:=by rw [← Rg.eval_getD,ha]; exact Rg.puts_eval _ _ _ (by rfl) (by simp) (by simp)
    have d59:RAl bl ol cl_ bm om cm cr ar_ 59 (us 59) wl:=g.2 59 (hdep ⟨59,.data⟩ (by simp) rfl);have e109:al.tmps[109]?.getD undef=us 59:=by rw [← Rg.eval_getD,ha]; exact Rg.puts_eval _ _ _ (by rfl) (by simp) (by simp)
    have dg:RAl bl ol cl_ bm om cm cr ar_ 43 (us 43) wl:=g.2 43 (hdep ⟨43,.guard⟩ (by simp) rfl);have gg:al.eval (.tmp 93)=.bool true:=by rw [ha]; exact (Rg.puts_eval _ _ _ (by rfl) (by simp) (by simp)).trans dg
    have D46:Hid (Nds wl (us 46) (PLs)):=d46;have D59:Hid (Nds wl (us 59) (PLs)):=d59;have HB:=Lib.hid hB;clear ha hdep g hf hKf d46 d59 hB;refine Rg.wpOp_of rfl (Rg.wanted_of rfl (Rg.yielded_of (d:=93) (by rfl) gg)) ?_;go_simp;refine (sameR_any _ _ PLs PLs _ D46.out D59.out (by decide)).mono ?_;rw [show sameN PLs PLs=true from decide_eq_true rfl];rintro e wn ⟨rfl,hb⟩;exact hK _ _ rfl hb
  · intro o ho f us wl al ha g hf hdep K hKf;obtain rfl:=Option.some.inj ho;have hB:=g.1;have hK:∀ v w',RAl bl ol cl_ bm om cm cr ar_ 61 v w'→Below wl.heap.size wl w'→K (al.put (some 111) v) w':=fun v w' hv hb=>hKf v w' (RAl.put g hb hv)
    have d43:RAl bl ol cl_ bm om cm cr ar_ 43 (us 43) wl:=g.2 43 (hdep ⟨43,.data⟩ (by simp) rfl);have e93:al.tmps[93]?.getD undef=us 43:=by rw [← Rg.eval_getD,ha]; exact Rg.puts_eval _ _ _ (by rfl) (by simp) (by simp)
    have d60:RAl bl ol cl_ bm om cm cr ar_ 60 (us 60) wl:=g.2 60 (hdep ⟨60,.data⟩ (by simp) rfl);have e110:al.tmps[110]?.getD undef=us 60:=by rw [← Rg.eval_getD,ha]; exact Rg.puts_eval _ _ _ (by rfl) (by simp) (by simp)
    have f43:us 43=.bool true:=d43;have f60:us 60=.bool true:=d60;have HB:=Lib.hid hB;clear ha hdep g hf hKf d43 d60 hB;refine Rg.wpOp_of rfl rfl ?_;go_simp;exact hK _ _ rfl (Below.refl _ _)
  · intro o ho f us wl al ha g hf hdep K hKf;obtain rfl:=Option.some.inj ho;have hB:=g.1;have hK:∀ v w',RAl bl ol cl_ bm om cm cr ar_ 62 v w'→Below wl.heap.size wl w'→K (al.put (some 0) v) w':=fun v w' hv hb=>hKf v w' (RAl.put g hb hv)
    have d61:RAl bl ol cl_ bm om cm cr ar_ 61 (us 61) wl:=g.2 61 (hdep ⟨61,.data⟩ (by simp) rfl);have e111:al.tmps[111]?.getD undef=us 61:=by rw [← Rg.eval_getD,ha]; exact Rg.puts_eval _ _ _ (by rfl) (by simp) (by simp)
    have f61:us 61=.bool true:=d61;have HB:=Lib.hid hB;clear ha hdep g hf hKf d61 hB;refine Rg.wpOp_of rfl rfl ?_;go_simp;exact hK _ _ rfl (Below.refl _ _)
  · intro us wz hB hR;have fz:us 62=.bool true:=hR 62;have DZ:=Lib.hid (D4.out.trans (hB.mono D4.out.size));clear hB hR;simp only [Rg.puts,Act.put,List.setIfInBounds_toArray,List.set_cons_zero,List.set_cons_succ,fz];go_wp2_with fail;go_ret;exact ⟨rfl,DZ.out⟩
end Go.Proofs.YtaapnkoooofalaaGreat.St
