/- Laws that the last text leans on. -/
import Derived.Test.YtpingbiibbmcaaaGreatDoorQ08

set_option maxRecDepth 20000
set_option maxHeartbeats 1000000
namespace Go.Proofs.YtpingbiibbmcaaaGreatDoor
namespace So
open Go Go.RowKit Rw
theorem plain_1 (l:List Nd) (v y:Value) (w:World) (ht:Tre l) (hk:hd l=1) (hv:Nds w v l) (_:Rws w y (kids l)) (_:IsC l.length):Calls Tryz.prog 238 #[v,y] w fun e w'=>e=.returned (.bool (plainB Is l))∧Below w.heap.size w w':=by
  obtain ⟨b,o,c,rfl,hc⟩:=z0c hv ht;rw [hk] at hc;have hpos:=ht.pos
  have HR:Hid (plainB Is l=true):=by
    show _=_
    unfold plainB;rw [hk]
    rfl
  clear hk hv ht
  go_enter Tryz.func238,Tryz.ntmps238
  go_wp2_with fail;go_ret;exact ⟨ret_bool HR.out.symm,Below.refl _ _⟩
theorem plain_2 (l:List Nd) (v y:Value) (w:World) (ht:Tre l) (hk:hd l=2) (hv:Nds w v l) (_:Rws w y (kids l)) (_:IsC l.length):Calls Tryz.prog 238 #[v,y] w fun e w'=>e=.returned (.bool (plainB Is l))∧Below w.heap.size w w':=by
  obtain ⟨b,o,c,rfl,hc⟩:=z0c hv ht;rw [hk] at hc;have hpos:=ht.pos
  have HR:Hid (plainB Is l=true):=by
    show _=_
    unfold plainB;rw [hk]
    rfl
  clear hk hv ht
  go_enter Tryz.func238,Tryz.ntmps238
  go_wp2_with fail;go_ret;exact ⟨ret_bool HR.out.symm,Below.refl _ _⟩
theorem plain_3 (l:List Nd) (v y:Value) (w:World) (ht:Tre l) (hk:hd l=3) (hv:Nds w v l) (_:Rws w y (kids l)) (_:IsC l.length):Calls Tryz.prog 238 #[v,y] w fun e w'=>e=.returned (.bool (plainB Is l))∧Below w.heap.size w w':=by
  obtain ⟨b,o,c,rfl,hc⟩:=z0c hv ht;rw [hk] at hc;have hpos:=ht.pos
  have HR:Hid (plainB Is l=true):=by
    show _=_
    unfold plainB;rw [hk]
    rfl
  clear hk hv ht
  go_enter Tryz.func238,Tryz.ntmps238
  go_wp2_with fail;go_ret;exact ⟨ret_bool HR.out.symm,Below.refl _ _⟩
theorem plain_4 (l:List Nd) (v y:Value) (w:World) (ht:Tre l) (hk:hd l=4) (hv:Nds w v l) (_:Rws w y (kids l)) (_:IsC l.length):Calls Tryz.prog 238 #[v,y] w fun e w'=>e=.returned (.bool (plainB Is l))∧Below w.heap.size w w':=by
  obtain ⟨b,o,c,rfl,hc⟩:=z0c hv ht;rw [hk] at hc;have hpos:=ht.pos
  have HR:Hid (plainB Is l=true):=by
    show _=_
    unfold plainB;rw [hk]
    rfl
  clear hk hv ht
  go_enter Tryz.func238,Tryz.ntmps238
  go_wp2_with fail;go_ret;exact ⟨ret_bool HR.out.symm,Below.refl _ _⟩
theorem plain_5 (l:List Nd) (v y:Value) (w:World) (ht:Tre l) (hk:hd l=5) (hv:Nds w v l) (hy:Rws w y (kids l)) (ih:IsC l.length):Calls Tryz.prog 238 #[v,y] w fun e w'=>e=.returned (.bool (plainB Is l))∧Below w.heap.size w w':=by
  obtain ⟨b,o,c,rfl,hc⟩:=z0c hv ht;rw [hk] at hc;have hpos:=ht.pos;obtain ⟨r0,r1,e,t0,t1,s0,s1⟩:=ht.two (by rw [hk]; rfl)
  have HR:Hid (plainB Is l=(Is 1 r0&&Is 1 r1)):=by
    show _=_
    unfold plainB k0 k1;rw [hk,e]
    rfl
  rw [e] at hy;obtain ⟨b',o',c',a0,a1,rfl,q0,q1,n0,n1⟩:=z0q hy;have IH:=Lib.hid (ih r0 1 w a0 s0 t0 n0 (by omega) (by omega));have IH1:=Lib.hid (fun w' h=>ih r1 1 w' a1 s1 t1 h (by omega) (by omega));have N1:=Lib.hid n1;have Q1:=Lib.hid q1;clear hk hv ht e hy ih n0 n1 q1
  go_enter Tryz.func238,Tryz.ntmps238
  go_wp2_with fail;refine IH.out.mono ?_
  cases h0:Is 1 r0 with
  | false=>
    rw [h0,Bool.false_and] at HR;rintro e w' ⟨rfl,hb⟩;go_wp2_with fail;go_ret;exact ⟨ret_bool HR.out.symm,hb⟩
  | true=>
    rw [h0,Bool.true_and] at HR;rintro e w1 ⟨rfl,hb⟩;have q1:w1.cell? ⟨b',o'+1,none⟩=some a1:=by rw [hb.cell (Ap.z0a Q1.out)]; exact Q1.out
    have HB:=Lib.hid hb;clear hb h0;go_wp2_with fail;refine (IH1.out _ (N1.out.below HB.out)).mono ?_;rintro e w2 ⟨rfl,hb⟩;go_wp2_with fail;go_ret;exact ⟨ret_bool HR.out.symm,HB.out.trans (hb.mono HB.out.size)⟩
theorem plain_6 (l:List Nd) (v y:Value) (w:World) (ht:Tre l) (hk:hd l=6) (hv:Nds w v l) (hy:Rws w y (kids l)) (ih:IsC l.length):Calls Tryz.prog 238 #[v,y] w fun e w'=>e=.returned (.bool (plainB Is l))∧Below w.heap.size w w':=by
  obtain ⟨b,o,c,rfl,hc⟩:=z0c hv ht;rw [hk] at hc;have hpos:=ht.pos;obtain ⟨r0,r1,e,t0,t1,s0,s1⟩:=ht.two (by rw [hk]; rfl)
  have HR:Hid (plainB Is l=(Is 1 r0&&Is 1 r1)):=by
    show _=_
    unfold plainB k0 k1;rw [hk,e]
    rfl
  rw [e] at hy;obtain ⟨b',o',c',a0,a1,rfl,q0,q1,n0,n1⟩:=z0q hy;have IH:=Lib.hid (ih r0 1 w a0 s0 t0 n0 (by omega) (by omega));have IH1:=Lib.hid (fun w' h=>ih r1 1 w' a1 s1 t1 h (by omega) (by omega));have N1:=Lib.hid n1;have Q1:=Lib.hid q1;clear hk hv ht e hy ih n0 n1 q1
  go_enter Tryz.func238,Tryz.ntmps238
  go_wp2_with fail;refine IH.out.mono ?_
  cases h0:Is 1 r0 with
  | false=>
    rw [h0,Bool.false_and] at HR;rintro e w' ⟨rfl,hb⟩;go_wp2_with fail;go_ret;exact ⟨ret_bool HR.out.symm,hb⟩
  | true=>
    rw [h0,Bool.true_and] at HR;rintro e w1 ⟨rfl,hb⟩;have q1:w1.cell? ⟨b',o'+1,none⟩=some a1:=by rw [hb.cell (Ap.z0a Q1.out)]; exact Q1.out
    have HB:=Lib.hid hb;clear hb h0;go_wp2_with fail;refine (IH1.out _ (N1.out.below HB.out)).mono ?_;rintro e w2 ⟨rfl,hb⟩;go_wp2_with fail;go_ret;exact ⟨ret_bool HR.out.symm,HB.out.trans (hb.mono HB.out.size)⟩
theorem plain_7 (l:List Nd) (v y:Value) (w:World) (ht:Tre l) (hk:hd l=7) (hv:Nds w v l) (hy:Rws w y (kids l)) (ih:IsC l.length):Calls Tryz.prog 238 #[v,y] w fun e w'=>e=.returned (.bool (plainB Is l))∧Below w.heap.size w w':=by
  obtain ⟨b,o,c,rfl,hc⟩:=z0c hv ht;rw [hk] at hc;have hpos:=ht.pos;obtain ⟨r0,r1,e,t0,t1,s0,s1⟩:=ht.two (by rw [hk]; rfl)
  have HR:Hid (plainB Is l=(Is 1 r0&&Is 1 r1)):=by
    show _=_
    unfold plainB k0 k1;rw [hk,e]
    rfl
  rw [e] at hy;obtain ⟨b',o',c',a0,a1,rfl,q0,q1,n0,n1⟩:=z0q hy;have IH:=Lib.hid (ih r0 1 w a0 s0 t0 n0 (by omega) (by omega));have IH1:=Lib.hid (fun w' h=>ih r1 1 w' a1 s1 t1 h (by omega) (by omega));have N1:=Lib.hid n1;have Q1:=Lib.hid q1;clear hk hv ht e hy ih n0 n1 q1
  go_enter Tryz.func238,Tryz.ntmps238
  go_wp2_with fail;refine IH.out.mono ?_
  cases h0:Is 1 r0 with
  | false=>
    rw [h0,Bool.false_and] at HR;rintro e w' ⟨rfl,hb⟩;go_wp2_with fail;go_ret;exact ⟨ret_bool HR.out.symm,hb⟩
  | true=>
    rw [h0,Bool.true_and] at HR;rintro e w1 ⟨rfl,hb⟩;have q1:w1.cell? ⟨b',o'+1,none⟩=some a1:=by rw [hb.cell (Ap.z0a Q1.out)]; exact Q1.out
    have HB:=Lib.hid hb;clear hb h0;go_wp2_with fail;refine (IH1.out _ (N1.out.below HB.out)).mono ?_;rintro e w2 ⟨rfl,hb⟩;go_wp2_with fail;go_ret;exact ⟨ret_bool HR.out.symm,HB.out.trans (hb.mono HB.out.size)⟩
theorem plain_8 (l:List Nd) (v y:Value) (w:World) (ht:Tre l) (hk:hd l=8) (hv:Nds w v l) (hy:Rws w y (kids l)) (ih:IsC l.length):Calls Tryz.prog 238 #[v,y] w fun e w'=>e=.returned (.bool (plainB Is l))∧Below w.heap.size w w':=by
  obtain ⟨b,o,c,rfl,hc⟩:=z0c hv ht;rw [hk] at hc;have hpos:=ht.pos;obtain ⟨r0,r1,e,t0,t1,s0,s1⟩:=ht.two (by rw [hk]; rfl)
  have HR:Hid (plainB Is l=(Is 1 r0&&Is 1 r1)):=by
    show _=_
    unfold plainB k0 k1;rw [hk,e]
    rfl
  rw [e] at hy;obtain ⟨b',o',c',a0,a1,rfl,q0,q1,n0,n1⟩:=z0q hy;have IH:=Lib.hid (ih r0 1 w a0 s0 t0 n0 (by omega) (by omega));have IH1:=Lib.hid (fun w' h=>ih r1 1 w' a1 s1 t1 h (by omega) (by omega));have N1:=Lib.hid n1;have Q1:=Lib.hid q1;clear hk hv ht e hy ih n0 n1 q1
  go_enter Tryz.func238,Tryz.ntmps238
  go_wp2_with fail;refine IH.out.mono ?_
  cases h0:Is 1 r0 with
  | false=>
    rw [h0,Bool.false_and] at HR;rintro e w' ⟨rfl,hb⟩;go_wp2_with fail;go_ret;exact ⟨ret_bool HR.out.symm,hb⟩
  | true=>
    rw [h0,Bool.true_and] at HR;rintro e w1 ⟨rfl,hb⟩;have q1:w1.cell? ⟨b',o'+1,none⟩=some a1:=by rw [hb.cell (Ap.z0a Q1.out)]; exact Q1.out
    have HB:=Lib.hid hb;clear hb h0;go_wp2_with fail;refine (IH1.out _ (N1.out.below HB.out)).mono ?_;rintro e w2 ⟨rfl,hb⟩;go_wp2_with fail;go_ret;exact ⟨ret_bool HR.out.symm,HB.out.trans (hb.mono HB.out.size)⟩
theorem plain_9 (l:List Nd) (v y:Value) (w:World) (ht:Tre l) (hk:hd l=9) (hv:Nds w v l) (hy:Rws w y (kids l)) (ih:IsC l.length):Calls Tryz.prog 238 #[v,y] w fun e w'=>e=.returned (.bool (plainB Is l))∧Below w.heap.size w w':=by
  obtain ⟨b,o,c,rfl,hc⟩:=z0c hv ht;rw [hk] at hc;have hpos:=ht.pos;obtain ⟨r0,e,t0,s0⟩:=ht.one (by rw [hk]; rfl)
  have HR:Hid (plainB Is l=Is 2 r0):=by
    show _=_
    unfold plainB k0;rw [hk,e]
    rfl
  rw [e] at hy;obtain ⟨b',o',c',a0,rfl,q0,n0⟩:=z9o hy;have IH:=Lib.hid (ih r0 2 w a0 s0 t0 n0 (by omega) (by omega));clear hk hv ht e hy ih n0
  go_enter Tryz.func238,Tryz.ntmps238
  go_wp2_with fail;refine IH.out.mono ?_;rintro e w' ⟨rfl,hb⟩;go_wp2_with fail;go_ret;exact ⟨ret_bool HR.out.symm,hb⟩
theorem plain_10 (l:List Nd) (v y:Value) (w:World) (ht:Tre l) (hk:hd l=10) (hv:Nds w v l) (_:Rws w y (kids l)) (_:IsC l.length):Calls Tryz.prog 238 #[v,y] w fun e w'=>e=.returned (.bool (plainB Is l))∧Below w.heap.size w w':=by
  obtain ⟨b,o,c,rfl,hc⟩:=z0c hv ht;rw [hk] at hc;have hpos:=ht.pos
  have HR:Hid (plainB Is l=false):=by
    show _=_
    unfold plainB;rw [hk]
    rfl
  clear hk hv ht
  go_enter Tryz.func238,Tryz.ntmps238
  go_wp2_with fail;go_ret;exact ⟨ret_bool HR.out.symm,Below.refl _ _⟩
theorem plain_11 (l:List Nd) (v y:Value) (w:World) (ht:Tre l) (hk:hd l=11) (hv:Nds w v l) (_:Rws w y (kids l)) (_:IsC l.length):Calls Tryz.prog 238 #[v,y] w fun e w'=>e=.returned (.bool (plainB Is l))∧Below w.heap.size w w':=by
  obtain ⟨b,o,c,rfl,hc⟩:=z0c hv ht;rw [hk] at hc;have hpos:=ht.pos
  have HR:Hid (plainB Is l=false):=by
    show _=_
    unfold plainB;rw [hk]
    rfl
  clear hk hv ht
  go_enter Tryz.func238,Tryz.ntmps238
  go_wp2_with fail;go_ret;exact ⟨ret_bool HR.out.symm,Below.refl _ _⟩
theorem plain_12 (l:List Nd) (v y:Value) (w:World) (ht:Tre l) (hk:hd l=12) (hv:Nds w v l) (_:Rws w y (kids l)) (_:IsC l.length):Calls Tryz.prog 238 #[v,y] w fun e w'=>e=.returned (.bool (plainB Is l))∧Below w.heap.size w w':=by
  obtain ⟨b,o,c,rfl,hc⟩:=z0c hv ht;rw [hk] at hc;have hpos:=ht.pos
  have HR:Hid (plainB Is l=false):=by
    show _=_
    unfold plainB;rw [hk]
    rfl
  clear hk hv ht
  go_enter Tryz.func238,Tryz.ntmps238
  go_wp2_with fail;go_ret;exact ⟨ret_bool HR.out.symm,Below.refl _ _⟩
theorem plain_13 (l:List Nd) (v y:Value) (w:World) (ht:Tre l) (hk:hd l=13) (hv:Nds w v l) (_:Rws w y (kids l)) (_:IsC l.length):Calls Tryz.prog 238 #[v,y] w fun e w'=>e=.returned (.bool (plainB Is l))∧Below w.heap.size w w':=by
  obtain ⟨b,o,c,rfl,hc⟩:=z0c hv ht;rw [hk] at hc;have hpos:=ht.pos
  have HR:Hid (plainB Is l=false):=by
    show _=_
    unfold plainB;rw [hk]
    rfl
  clear hk hv ht
  go_enter Tryz.func238,Tryz.ntmps238
  go_wp2_with fail;go_ret;exact ⟨ret_bool HR.out.symm,Below.refl _ _⟩
theorem plain_14 (l:List Nd) (v y:Value) (w:World) (ht:Tre l) (hk:hd l=14) (hv:Nds w v l) (_:Rws w y (kids l)) (_:IsC l.length):Calls Tryz.prog 238 #[v,y] w fun e w'=>e=.returned (.bool (plainB Is l))∧Below w.heap.size w w':=by
  obtain ⟨b,o,c,rfl,hc⟩:=z0c hv ht;rw [hk] at hc;have hpos:=ht.pos
  have HR:Hid (plainB Is l=false):=by
    show _=_
    unfold plainB;rw [hk]
    rfl
  clear hk hv ht
  go_enter Tryz.func238,Tryz.ntmps238
  go_wp2_with fail;go_ret;exact ⟨ret_bool HR.out.symm,Below.refl _ _⟩
theorem y5x (l:List Nd) (v y:Value) (w:World) (ht:Tre l) (hv:Nds w v l) (hy:Rws w y (kids l)) (ih:IsC l.length):Calls Tryz.prog 238 #[v,y] w fun e w'=>e=.returned (.bool (plainB Is l))∧Below w.heap.size w w':=by
  rcases kinds ht.ar with h | h | h | h | h | h | h | h | h | h | h | h | h | h
  · exact plain_1 l v y w ht h hv hy ih
  · exact plain_2 l v y w ht h hv hy ih
  · exact plain_3 l v y w ht h hv hy ih
  · exact plain_4 l v y w ht h hv hy ih
  · exact plain_5 l v y w ht h hv hy ih
  · exact plain_6 l v y w ht h hv hy ih
  · exact plain_7 l v y w ht h hv hy ih
  · exact plain_8 l v y w ht h hv hy ih
  · exact plain_9 l v y w ht h hv hy ih
  · exact plain_10 l v y w ht h hv hy ih
  · exact plain_11 l v y w ht h hv hy ih
  · exact plain_12 l v y w ht h hv hy ih
  · exact plain_13 l v y w ht h hv hy ih
  · exact plain_14 l v y w ht h hv hy ih
theorem paired_1 (l:List Nd) (v y:Value) (w:World) (ht:Tre l) (hk:hd l=1) (hv:Nds w v l) (_:Rws w y (kids l)) (_:IsC l.length):Calls Tryz.prog 239 #[v,y] w fun e w'=>e=.returned (.bool (pairedB Is l))∧Below w.heap.size w w':=by
  obtain ⟨b,o,c,rfl,hc⟩:=z0c hv ht;rw [hk] at hc;have hpos:=ht.pos
  have HR:Hid (pairedB Is l=false):=by
    show _=_
    unfold pairedB;rw [hk]
    rfl
  clear hk hv ht
  go_enter Tryz.func239,Tryz.ntmps239
  go_wp2_with fail;go_ret;exact ⟨ret_bool HR.out.symm,Below.refl _ _⟩
theorem paired_2 (l:List Nd) (v y:Value) (w:World) (ht:Tre l) (hk:hd l=2) (hv:Nds w v l) (_:Rws w y (kids l)) (_:IsC l.length):Calls Tryz.prog 239 #[v,y] w fun e w'=>e=.returned (.bool (pairedB Is l))∧Below w.heap.size w w':=by
  obtain ⟨b,o,c,rfl,hc⟩:=z0c hv ht;rw [hk] at hc;have hpos:=ht.pos
  have HR:Hid (pairedB Is l=false):=by
    show _=_
    unfold pairedB;rw [hk]
    rfl
  clear hk hv ht
  go_enter Tryz.func239,Tryz.ntmps239
  go_wp2_with fail;go_ret;exact ⟨ret_bool HR.out.symm,Below.refl _ _⟩
theorem paired_3 (l:List Nd) (v y:Value) (w:World) (ht:Tre l) (hk:hd l=3) (hv:Nds w v l) (_:Rws w y (kids l)) (_:IsC l.length):Calls Tryz.prog 239 #[v,y] w fun e w'=>e=.returned (.bool (pairedB Is l))∧Below w.heap.size w w':=by
  obtain ⟨b,o,c,rfl,hc⟩:=z0c hv ht;rw [hk] at hc;have hpos:=ht.pos
  have HR:Hid (pairedB Is l=false):=by
    show _=_
    unfold pairedB;rw [hk]
    rfl
  clear hk hv ht
  go_enter Tryz.func239,Tryz.ntmps239
  go_wp2_with fail;go_ret;exact ⟨ret_bool HR.out.symm,Below.refl _ _⟩
theorem paired_4 (l:List Nd) (v y:Value) (w:World) (ht:Tre l) (hk:hd l=4) (hv:Nds w v l) (_:Rws w y (kids l)) (_:IsC l.length):Calls Tryz.prog 239 #[v,y] w fun e w'=>e=.returned (.bool (pairedB Is l))∧Below w.heap.size w w':=by
  obtain ⟨b,o,c,rfl,hc⟩:=z0c hv ht;rw [hk] at hc;have hpos:=ht.pos
  have HR:Hid (pairedB Is l=false):=by
    show _=_
    unfold pairedB;rw [hk]
    rfl
  clear hk hv ht
  go_enter Tryz.func239,Tryz.ntmps239
  go_wp2_with fail;go_ret;exact ⟨ret_bool HR.out.symm,Below.refl _ _⟩
theorem paired_5 (l:List Nd) (v y:Value) (w:World) (ht:Tre l) (hk:hd l=5) (hv:Nds w v l) (hy:Rws w y (kids l)) (ih:IsC l.length):Calls Tryz.prog 239 #[v,y] w fun e w'=>e=.returned (.bool (pairedB Is l))∧Below w.heap.size w w':=by
  obtain ⟨b,o,c,rfl,hc⟩:=z0c hv ht;rw [hk] at hc;have hpos:=ht.pos;obtain ⟨r0,r1,e,t0,t1,s0,s1⟩:=ht.two (by rw [hk]; rfl)
  have HR:Hid (pairedB Is l=(Is 2 r0&&Is 2 r1)):=by
    show _=_
    unfold pairedB k0 k1;rw [hk,e]
    rfl
  rw [e] at hy;obtain ⟨b',o',c',a0,a1,rfl,q0,q1,n0,n1⟩:=z0q hy;have IH:=Lib.hid (ih r0 2 w a0 s0 t0 n0 (by omega) (by omega));have IH1:=Lib.hid (fun w' h=>ih r1 2 w' a1 s1 t1 h (by omega) (by omega));have N1:=Lib.hid n1;have Q1:=Lib.hid q1;clear hk hv ht e hy ih n0 n1 q1
  go_enter Tryz.func239,Tryz.ntmps239
  go_wp2_with fail;refine IH.out.mono ?_
  cases h0:Is 2 r0 with
  | false=>
    rw [h0,Bool.false_and] at HR;rintro e w' ⟨rfl,hb⟩;go_wp2_with fail;go_ret;exact ⟨ret_bool HR.out.symm,hb⟩
  | true=>
    rw [h0,Bool.true_and] at HR;rintro e w1 ⟨rfl,hb⟩;have q1:w1.cell? ⟨b',o'+1,none⟩=some a1:=by rw [hb.cell (Ap.z0a Q1.out)]; exact Q1.out
    have HB:=Lib.hid hb;clear hb h0;go_wp2_with fail;refine (IH1.out _ (N1.out.below HB.out)).mono ?_;rintro e w2 ⟨rfl,hb⟩;go_wp2_with fail;go_ret;exact ⟨ret_bool HR.out.symm,HB.out.trans (hb.mono HB.out.size)⟩
theorem paired_6 (l:List Nd) (v y:Value) (w:World) (ht:Tre l) (hk:hd l=6) (hv:Nds w v l) (hy:Rws w y (kids l)) (ih:IsC l.length):Calls Tryz.prog 239 #[v,y] w fun e w'=>e=.returned (.bool (pairedB Is l))∧Below w.heap.size w w':=by
  obtain ⟨b,o,c,rfl,hc⟩:=z0c hv ht;rw [hk] at hc;have hpos:=ht.pos;obtain ⟨r0,r1,e,t0,t1,s0,s1⟩:=ht.two (by rw [hk]; rfl)
  have HR:Hid (pairedB Is l=(Is 2 r0&&Is 2 r1)):=by
    show _=_
    unfold pairedB k0 k1;rw [hk,e]
    rfl
  rw [e] at hy;obtain ⟨b',o',c',a0,a1,rfl,q0,q1,n0,n1⟩:=z0q hy;have IH:=Lib.hid (ih r0 2 w a0 s0 t0 n0 (by omega) (by omega));have IH1:=Lib.hid (fun w' h=>ih r1 2 w' a1 s1 t1 h (by omega) (by omega));have N1:=Lib.hid n1;have Q1:=Lib.hid q1;clear hk hv ht e hy ih n0 n1 q1
  go_enter Tryz.func239,Tryz.ntmps239
  go_wp2_with fail;refine IH.out.mono ?_
  cases h0:Is 2 r0 with
  | false=>
    rw [h0,Bool.false_and] at HR;rintro e w' ⟨rfl,hb⟩;go_wp2_with fail;go_ret;exact ⟨ret_bool HR.out.symm,hb⟩
  | true=>
    rw [h0,Bool.true_and] at HR;rintro e w1 ⟨rfl,hb⟩;have q1:w1.cell? ⟨b',o'+1,none⟩=some a1:=by rw [hb.cell (Ap.z0a Q1.out)]; exact Q1.out
    have HB:=Lib.hid hb;clear hb h0;go_wp2_with fail;refine (IH1.out _ (N1.out.below HB.out)).mono ?_;rintro e w2 ⟨rfl,hb⟩;go_wp2_with fail;go_ret;exact ⟨ret_bool HR.out.symm,HB.out.trans (hb.mono HB.out.size)⟩
theorem paired_7 (l:List Nd) (v y:Value) (w:World) (ht:Tre l) (hk:hd l=7) (hv:Nds w v l) (hy:Rws w y (kids l)) (ih:IsC l.length):Calls Tryz.prog 239 #[v,y] w fun e w'=>e=.returned (.bool (pairedB Is l))∧Below w.heap.size w w':=by
  obtain ⟨b,o,c,rfl,hc⟩:=z0c hv ht;rw [hk] at hc;have hpos:=ht.pos;obtain ⟨r0,r1,e,t0,t1,s0,s1⟩:=ht.two (by rw [hk]; rfl)
  have HR:Hid (pairedB Is l=(Is 2 r0&&Is 2 r1)):=by
    show _=_
    unfold pairedB k0 k1;rw [hk,e]
    rfl
  rw [e] at hy;obtain ⟨b',o',c',a0,a1,rfl,q0,q1,n0,n1⟩:=z0q hy;have IH:=Lib.hid (ih r0 2 w a0 s0 t0 n0 (by omega) (by omega));have IH1:=Lib.hid (fun w' h=>ih r1 2 w' a1 s1 t1 h (by omega) (by omega));have N1:=Lib.hid n1;have Q1:=Lib.hid q1;clear hk hv ht e hy ih n0 n1 q1
  go_enter Tryz.func239,Tryz.ntmps239
  go_wp2_with fail;refine IH.out.mono ?_
  cases h0:Is 2 r0 with
  | false=>
    rw [h0,Bool.false_and] at HR;rintro e w' ⟨rfl,hb⟩;go_wp2_with fail;go_ret;exact ⟨ret_bool HR.out.symm,hb⟩
  | true=>
    rw [h0,Bool.true_and] at HR;rintro e w1 ⟨rfl,hb⟩;have q1:w1.cell? ⟨b',o'+1,none⟩=some a1:=by rw [hb.cell (Ap.z0a Q1.out)]; exact Q1.out
    have HB:=Lib.hid hb;clear hb h0;go_wp2_with fail;refine (IH1.out _ (N1.out.below HB.out)).mono ?_;rintro e w2 ⟨rfl,hb⟩;go_wp2_with fail;go_ret;exact ⟨ret_bool HR.out.symm,HB.out.trans (hb.mono HB.out.size)⟩
theorem paired_8 (l:List Nd) (v y:Value) (w:World) (ht:Tre l) (hk:hd l=8) (hv:Nds w v l) (_:Rws w y (kids l)) (_:IsC l.length):Calls Tryz.prog 239 #[v,y] w fun e w'=>e=.returned (.bool (pairedB Is l))∧Below w.heap.size w w':=by
  obtain ⟨b,o,c,rfl,hc⟩:=z0c hv ht;rw [hk] at hc;have hpos:=ht.pos
  have HR:Hid (pairedB Is l=false):=by
    show _=_
    unfold pairedB;rw [hk]
    rfl
  clear hk hv ht
  go_enter Tryz.func239,Tryz.ntmps239
  go_wp2_with fail;go_ret;exact ⟨ret_bool HR.out.symm,Below.refl _ _⟩
theorem paired_9 (l:List Nd) (v y:Value) (w:World) (ht:Tre l) (hk:hd l=9) (hv:Nds w v l) (_:Rws w y (kids l)) (_:IsC l.length):Calls Tryz.prog 239 #[v,y] w fun e w'=>e=.returned (.bool (pairedB Is l))∧Below w.heap.size w w':=by
  obtain ⟨b,o,c,rfl,hc⟩:=z0c hv ht;rw [hk] at hc;have hpos:=ht.pos
  have HR:Hid (pairedB Is l=false):=by
    show _=_
    unfold pairedB;rw [hk]
    rfl
  clear hk hv ht
  go_enter Tryz.func239,Tryz.ntmps239
  go_wp2_with fail;go_ret;exact ⟨ret_bool HR.out.symm,Below.refl _ _⟩
theorem x9z (l:List Nd) (v y:Value) (w:World) (ht:Tre l) (hk:hd l=10) (hv:Nds w v l) (hy:Rws w y (kids l)) (ih:IsC l.length):Calls Tryz.prog 239 #[v,y] w fun e w'=>e=.returned (.bool (pairedB Is l))∧Below w.heap.size w w':=by
  obtain ⟨b,o,c,rfl,hc⟩:=z0c hv ht;rw [hk] at hc;have hpos:=ht.pos;obtain ⟨r0,r1,e,t0,t1,s0,s1⟩:=ht.two (by rw [hk]; rfl)
  have HR:Hid (pairedB Is l=(Is 1 r0&&Is 1 r1)):=by
    show _=_
    unfold pairedB k0 k1;rw [hk,e]
    rfl
  rw [e] at hy;obtain ⟨b',o',c',a0,a1,rfl,q0,q1,n0,n1⟩:=z0q hy;have IH:=Lib.hid (ih r0 1 w a0 s0 t0 n0 (by omega) (by omega));have IH1:=Lib.hid (fun w' h=>ih r1 1 w' a1 s1 t1 h (by omega) (by omega));have N1:=Lib.hid n1;have Q1:=Lib.hid q1;clear hk hv ht e hy ih n0 n1 q1
  go_enter Tryz.func239,Tryz.ntmps239
  go_wp2_with fail;refine IH.out.mono ?_
  cases h0:Is 1 r0 with
  | false=>
    rw [h0,Bool.false_and] at HR;rintro e w' ⟨rfl,hb⟩;go_wp2_with fail;go_ret;exact ⟨ret_bool HR.out.symm,hb⟩
  | true=>
    rw [h0,Bool.true_and] at HR;rintro e w1 ⟨rfl,hb⟩;have q1:w1.cell? ⟨b',o'+1,none⟩=some a1:=by rw [hb.cell (Ap.z0a Q1.out)]; exact Q1.out
    have HB:=Lib.hid hb;clear hb h0;go_wp2_with fail;refine (IH1.out _ (N1.out.below HB.out)).mono ?_;rintro e w2 ⟨rfl,hb⟩;go_wp2_with fail;go_ret;exact ⟨ret_bool HR.out.symm,HB.out.trans (hb.mono HB.out.size)⟩
theorem x9y (l:List Nd) (v y:Value) (w:World) (ht:Tre l) (hk:hd l=11) (hv:Nds w v l) (_:Rws w y (kids l)) (_:IsC l.length):Calls Tryz.prog 239 #[v,y] w fun e w'=>e=.returned (.bool (pairedB Is l))∧Below w.heap.size w w':=by
  obtain ⟨b,o,c,rfl,hc⟩:=z0c hv ht;rw [hk] at hc;have hpos:=ht.pos
  have HR:Hid (pairedB Is l=false):=by
    show _=_
    unfold pairedB;rw [hk]
    rfl
  clear hk hv ht
  go_enter Tryz.func239,Tryz.ntmps239
  go_wp2_with fail;go_ret;exact ⟨ret_bool HR.out.symm,Below.refl _ _⟩
theorem x9x (l:List Nd) (v y:Value) (w:World) (ht:Tre l) (hk:hd l=12) (hv:Nds w v l) (_:Rws w y (kids l)) (_:IsC l.length):Calls Tryz.prog 239 #[v,y] w fun e w'=>e=.returned (.bool (pairedB Is l))∧Below w.heap.size w w':=by
  obtain ⟨b,o,c,rfl,hc⟩:=z0c hv ht;rw [hk] at hc;have hpos:=ht.pos
  have HR:Hid (pairedB Is l=false):=by
    show _=_
    unfold pairedB;rw [hk]
    rfl
  clear hk hv ht
  go_enter Tryz.func239,Tryz.ntmps239
  go_wp2_with fail;go_ret;exact ⟨ret_bool HR.out.symm,Below.refl _ _⟩
theorem x9w (l:List Nd) (v y:Value) (w:World) (ht:Tre l) (hk:hd l=13) (hv:Nds w v l) (_:Rws w y (kids l)) (_:IsC l.length):Calls Tryz.prog 239 #[v,y] w fun e w'=>e=.returned (.bool (pairedB Is l))∧Below w.heap.size w w':=by
  obtain ⟨b,o,c,rfl,hc⟩:=z0c hv ht;rw [hk] at hc;have hpos:=ht.pos
  have HR:Hid (pairedB Is l=false):=by
    show _=_
    unfold pairedB;rw [hk]
    rfl
  clear hk hv ht
  go_enter Tryz.func239,Tryz.ntmps239
  go_wp2_with fail;go_ret;exact ⟨ret_bool HR.out.symm,Below.refl _ _⟩
theorem x9v (l:List Nd) (v y:Value) (w:World) (ht:Tre l) (hk:hd l=14) (hv:Nds w v l) (_:Rws w y (kids l)) (_:IsC l.length):Calls Tryz.prog 239 #[v,y] w fun e w'=>e=.returned (.bool (pairedB Is l))∧Below w.heap.size w w':=by
  obtain ⟨b,o,c,rfl,hc⟩:=z0c hv ht;rw [hk] at hc;have hpos:=ht.pos
  have HR:Hid (pairedB Is l=false):=by
    show _=_
    unfold pairedB;rw [hk]
    rfl
  clear hk hv ht
  go_enter Tryz.func239,Tryz.ntmps239
  go_wp2_with fail;go_ret;exact ⟨ret_bool HR.out.symm,Below.refl _ _⟩
theorem y1m (l:List Nd) (v y:Value) (w:World) (ht:Tre l) (hv:Nds w v l) (hy:Rws w y (kids l)) (ih:IsC l.length):Calls Tryz.prog 239 #[v,y] w fun e w'=>e=.returned (.bool (pairedB Is l))∧Below w.heap.size w w':=by
  rcases kinds ht.ar with h | h | h | h | h | h | h | h | h | h | h | h | h | h
  · exact paired_1 l v y w ht h hv hy ih
  · exact paired_2 l v y w ht h hv hy ih
  · exact paired_3 l v y w ht h hv hy ih
  · exact paired_4 l v y w ht h hv hy ih
  · exact paired_5 l v y w ht h hv hy ih
  · exact paired_6 l v y w ht h hv hy ih
  · exact paired_7 l v y w ht h hv hy ih
  · exact paired_8 l v y w ht h hv hy ih
  · exact paired_9 l v y w ht h hv hy ih
  · exact x9z l v y w ht h hv hy ih
  · exact x9y l v y w ht h hv hy ih
  · exact x9x l v y w ht h hv hy ih
  · exact x9w l v y w ht h hv hy ih
  · exact x9v l v y w ht h hv hy ih
theorem x9o (l:List Nd) (v y:Value) (w:World) (ht:Tre l) (hk:hd l=1) (hv:Nds w v l) (_:Rws w y (kids l)) (_:IsC l.length):Calls Tryz.prog 240 #[v,y] w fun e w'=>e=.returned (.bool (plainOnB Is l))∧Below w.heap.size w w':=by
  obtain ⟨b,o,c,rfl,hc⟩:=z0c hv ht;rw [hk] at hc;have hpos:=ht.pos
  have HR:Hid (plainOnB Is l=false):=by
    show _=_
    unfold plainOnB;rw [hk]
    rfl
  clear hk hv ht
  go_enter Tryz.func240,Tryz.ntmps240
  go_wp2_with fail;go_ret;exact ⟨ret_bool HR.out.symm,Below.refl _ _⟩
theorem x9n (l:List Nd) (v y:Value) (w:World) (ht:Tre l) (hk:hd l=2) (hv:Nds w v l) (_:Rws w y (kids l)) (_:IsC l.length):Calls Tryz.prog 240 #[v,y] w fun e w'=>e=.returned (.bool (plainOnB Is l))∧Below w.heap.size w w':=by
  obtain ⟨b,o,c,rfl,hc⟩:=z0c hv ht;rw [hk] at hc;have hpos:=ht.pos
  have HR:Hid (plainOnB Is l=false):=by
    show _=_
    unfold plainOnB;rw [hk]
    rfl
  clear hk hv ht
  go_enter Tryz.func240,Tryz.ntmps240
  go_wp2_with fail;go_ret;exact ⟨ret_bool HR.out.symm,Below.refl _ _⟩
theorem x9m (l:List Nd) (v y:Value) (w:World) (ht:Tre l) (hk:hd l=3) (hv:Nds w v l) (_:Rws w y (kids l)) (_:IsC l.length):Calls Tryz.prog 240 #[v,y] w fun e w'=>e=.returned (.bool (plainOnB Is l))∧Below w.heap.size w w':=by
  obtain ⟨b,o,c,rfl,hc⟩:=z0c hv ht;rw [hk] at hc;have hpos:=ht.pos
  have HR:Hid (plainOnB Is l=false):=by
    show _=_
    unfold plainOnB;rw [hk]
    rfl
  clear hk hv ht
  go_enter Tryz.func240,Tryz.ntmps240
  go_wp2_with fail;go_ret;exact ⟨ret_bool HR.out.symm,Below.refl _ _⟩
theorem x9l (l:List Nd) (v y:Value) (w:World) (ht:Tre l) (hk:hd l=4) (hv:Nds w v l) (_:Rws w y (kids l)) (_:IsC l.length):Calls Tryz.prog 240 #[v,y] w fun e w'=>e=.returned (.bool (plainOnB Is l))∧Below w.heap.size w w':=by
  obtain ⟨b,o,c,rfl,hc⟩:=z0c hv ht;rw [hk] at hc;have hpos:=ht.pos
  have HR:Hid (plainOnB Is l=false):=by
    show _=_
    unfold plainOnB;rw [hk]
    rfl
  clear hk hv ht
  go_enter Tryz.func240,Tryz.ntmps240
  go_wp2_with fail;go_ret;exact ⟨ret_bool HR.out.symm,Below.refl _ _⟩
theorem x9k (l:List Nd) (v y:Value) (w:World) (ht:Tre l) (hk:hd l=5) (hv:Nds w v l) (hy:Rws w y (kids l)) (ih:IsC l.length):Calls Tryz.prog 240 #[v,y] w fun e w'=>e=.returned (.bool (plainOnB Is l))∧Below w.heap.size w w':=by
  obtain ⟨b,o,c,rfl,hc⟩:=z0c hv ht;rw [hk] at hc;have hpos:=ht.pos;obtain ⟨r0,r1,e,t0,t1,s0,s1⟩:=ht.two (by rw [hk]; rfl)
  have HR:Hid (plainOnB Is l=(Is 3 r0&&Is 1 r1)):=by
    show _=_
    unfold plainOnB k0 k1;rw [hk,e]
    rfl
  rw [e] at hy;obtain ⟨b',o',c',a0,a1,rfl,q0,q1,n0,n1⟩:=z0q hy;have IH:=Lib.hid (ih r0 3 w a0 s0 t0 n0 (by omega) (by omega));have IH1:=Lib.hid (fun w' h=>ih r1 1 w' a1 s1 t1 h (by omega) (by omega));have N1:=Lib.hid n1;have Q1:=Lib.hid q1;clear hk hv ht e hy ih n0 n1 q1
  go_enter Tryz.func240,Tryz.ntmps240
  go_wp2_with fail;refine IH.out.mono ?_
  cases h0:Is 3 r0 with
  | false=>
    rw [h0,Bool.false_and] at HR;rintro e w' ⟨rfl,hb⟩;go_wp2_with fail;go_ret;exact ⟨ret_bool HR.out.symm,hb⟩
  | true=>
    rw [h0,Bool.true_and] at HR;rintro e w1 ⟨rfl,hb⟩;have q1:w1.cell? ⟨b',o'+1,none⟩=some a1:=by rw [hb.cell (Ap.z0a Q1.out)]; exact Q1.out
    have HB:=Lib.hid hb;clear hb h0;go_wp2_with fail;refine (IH1.out _ (N1.out.below HB.out)).mono ?_;rintro e w2 ⟨rfl,hb⟩;go_wp2_with fail;go_ret;exact ⟨ret_bool HR.out.symm,HB.out.trans (hb.mono HB.out.size)⟩
theorem x9j (l:List Nd) (v y:Value) (w:World) (ht:Tre l) (hk:hd l=6) (hv:Nds w v l) (_:Rws w y (kids l)) (_:IsC l.length):Calls Tryz.prog 240 #[v,y] w fun e w'=>e=.returned (.bool (plainOnB Is l))∧Below w.heap.size w w':=by
  obtain ⟨b,o,c,rfl,hc⟩:=z0c hv ht;rw [hk] at hc;have hpos:=ht.pos
  have HR:Hid (plainOnB Is l=false):=by
    show _=_
    unfold plainOnB;rw [hk]
    rfl
  clear hk hv ht
  go_enter Tryz.func240,Tryz.ntmps240
  go_wp2_with fail;go_ret;exact ⟨ret_bool HR.out.symm,Below.refl _ _⟩
theorem x9i (l:List Nd) (v y:Value) (w:World) (ht:Tre l) (hk:hd l=7) (hv:Nds w v l) (hy:Rws w y (kids l)) (ih:IsC l.length):Calls Tryz.prog 240 #[v,y] w fun e w'=>e=.returned (.bool (plainOnB Is l))∧Below w.heap.size w w':=by
  obtain ⟨b,o,c,rfl,hc⟩:=z0c hv ht;rw [hk] at hc;have hpos:=ht.pos;obtain ⟨r0,r1,e,t0,t1,s0,s1⟩:=ht.two (by rw [hk]; rfl)
  have HR:Hid (plainOnB Is l=(Is 3 r0&&Is 3 r1)):=by
    show _=_
    unfold plainOnB k0 k1;rw [hk,e]
    rfl
  rw [e] at hy;obtain ⟨b',o',c',a0,a1,rfl,q0,q1,n0,n1⟩:=z0q hy;have IH:=Lib.hid (ih r0 3 w a0 s0 t0 n0 (by omega) (by omega));have IH1:=Lib.hid (fun w' h=>ih r1 3 w' a1 s1 t1 h (by omega) (by omega));have N1:=Lib.hid n1;have Q1:=Lib.hid q1;clear hk hv ht e hy ih n0 n1 q1
  go_enter Tryz.func240,Tryz.ntmps240
  go_wp2_with fail;refine IH.out.mono ?_
  cases h0:Is 3 r0 with
  | false=>
    rw [h0,Bool.false_and] at HR;rintro e w' ⟨rfl,hb⟩;go_wp2_with fail;go_ret;exact ⟨ret_bool HR.out.symm,hb⟩
  | true=>
    rw [h0,Bool.true_and] at HR;rintro e w1 ⟨rfl,hb⟩;have q1:w1.cell? ⟨b',o'+1,none⟩=some a1:=by rw [hb.cell (Ap.z0a Q1.out)]; exact Q1.out
    have HB:=Lib.hid hb;clear hb h0;go_wp2_with fail;refine (IH1.out _ (N1.out.below HB.out)).mono ?_;rintro e w2 ⟨rfl,hb⟩;go_wp2_with fail;go_ret;exact ⟨ret_bool HR.out.symm,HB.out.trans (hb.mono HB.out.size)⟩
theorem x9h (l:List Nd) (v y:Value) (w:World) (ht:Tre l) (hk:hd l=8) (hv:Nds w v l) (hy:Rws w y (kids l)) (ih:IsC l.length):Calls Tryz.prog 240 #[v,y] w fun e w'=>e=.returned (.bool (plainOnB Is l))∧Below w.heap.size w w':=by
  obtain ⟨b,o,c,rfl,hc⟩:=z0c hv ht;rw [hk] at hc;have hpos:=ht.pos;obtain ⟨r0,r1,e,t0,t1,s0,s1⟩:=ht.two (by rw [hk]; rfl)
  have HR:Hid (plainOnB Is l=(Is 3 r0&&Is 1 r1)):=by
    show _=_
    unfold plainOnB k0 k1;rw [hk,e]
    rfl
  rw [e] at hy;obtain ⟨b',o',c',a0,a1,rfl,q0,q1,n0,n1⟩:=z0q hy;have IH:=Lib.hid (ih r0 3 w a0 s0 t0 n0 (by omega) (by omega));have IH1:=Lib.hid (fun w' h=>ih r1 1 w' a1 s1 t1 h (by omega) (by omega));have N1:=Lib.hid n1;have Q1:=Lib.hid q1;clear hk hv ht e hy ih n0 n1 q1
  go_enter Tryz.func240,Tryz.ntmps240
  go_wp2_with fail;refine IH.out.mono ?_
  cases h0:Is 3 r0 with
  | false=>
    rw [h0,Bool.false_and] at HR;rintro e w' ⟨rfl,hb⟩;go_wp2_with fail;go_ret;exact ⟨ret_bool HR.out.symm,hb⟩
  | true=>
    rw [h0,Bool.true_and] at HR;rintro e w1 ⟨rfl,hb⟩;have q1:w1.cell? ⟨b',o'+1,none⟩=some a1:=by rw [hb.cell (Ap.z0a Q1.out)]; exact Q1.out
    have HB:=Lib.hid hb;clear hb h0;go_wp2_with fail;refine (IH1.out _ (N1.out.below HB.out)).mono ?_;rintro e w2 ⟨rfl,hb⟩;go_wp2_with fail;go_ret;exact ⟨ret_bool HR.out.symm,HB.out.trans (hb.mono HB.out.size)⟩
theorem x9g (l:List Nd) (v y:Value) (w:World) (ht:Tre l) (hk:hd l=9) (hv:Nds w v l) (hy:Rws w y (kids l)) (ih:IsC l.length):Calls Tryz.prog 240 #[v,y] w fun e w'=>e=.returned (.bool (plainOnB Is l))∧Below w.heap.size w w':=by
  obtain ⟨b,o,c,rfl,hc⟩:=z0c hv ht;rw [hk] at hc;have hpos:=ht.pos;obtain ⟨r0,e,t0,s0⟩:=ht.one (by rw [hk]; rfl)
  have HR:Hid (plainOnB Is l=Is 4 r0):=by
    show _=_
    unfold plainOnB k0;rw [hk,e]
    rfl
  rw [e] at hy;obtain ⟨b',o',c',a0,rfl,q0,n0⟩:=z9o hy;have IH:=Lib.hid (ih r0 4 w a0 s0 t0 n0 (by omega) (by omega));clear hk hv ht e hy ih n0
  go_enter Tryz.func240,Tryz.ntmps240
  go_wp2_with fail;refine IH.out.mono ?_;rintro e w' ⟨rfl,hb⟩;go_wp2_with fail;go_ret;exact ⟨ret_bool HR.out.symm,hb⟩
theorem x5b (l:List Nd) (v y:Value) (w:World) (ht:Tre l) (hk:hd l=10) (hv:Nds w v l) (_:Rws w y (kids l)) (_:IsC l.length):Calls Tryz.prog 240 #[v,y] w fun e w'=>e=.returned (.bool (plainOnB Is l))∧Below w.heap.size w w':=by
  obtain ⟨b,o,c,rfl,hc⟩:=z0c hv ht;rw [hk] at hc;have hpos:=ht.pos
  have HR:Hid (plainOnB Is l=false):=by
    show _=_
    unfold plainOnB;rw [hk]
    rfl
  clear hk hv ht
  go_enter Tryz.func240,Tryz.ntmps240
  go_wp2_with fail;go_ret;exact ⟨ret_bool HR.out.symm,Below.refl _ _⟩
theorem x5a (l:List Nd) (v y:Value) (w:World) (ht:Tre l) (hk:hd l=11) (hv:Nds w v l) (_:Rws w y (kids l)) (_:IsC l.length):Calls Tryz.prog 240 #[v,y] w fun e w'=>e=.returned (.bool (plainOnB Is l))∧Below w.heap.size w w':=by
  obtain ⟨b,o,c,rfl,hc⟩:=z0c hv ht;rw [hk] at hc;have hpos:=ht.pos
  have HR:Hid (plainOnB Is l=true):=by
    show _=_
    unfold plainOnB;rw [hk]
    rfl
  clear hk hv ht
  go_enter Tryz.func240,Tryz.ntmps240
  go_wp2_with fail;go_ret;exact ⟨ret_bool HR.out.symm,Below.refl _ _⟩
theorem x4z (l:List Nd) (v y:Value) (w:World) (ht:Tre l) (hk:hd l=12) (hv:Nds w v l) (_:Rws w y (kids l)) (_:IsC l.length):Calls Tryz.prog 240 #[v,y] w fun e w'=>e=.returned (.bool (plainOnB Is l))∧Below w.heap.size w w':=by
  obtain ⟨b,o,c,rfl,hc⟩:=z0c hv ht;rw [hk] at hc;have hpos:=ht.pos
  have HR:Hid (plainOnB Is l=false):=by
    show _=_
    unfold plainOnB;rw [hk]
    rfl
  clear hk hv ht
  go_enter Tryz.func240,Tryz.ntmps240
  go_wp2_with fail;go_ret;exact ⟨ret_bool HR.out.symm,Below.refl _ _⟩
theorem x4y (l:List Nd) (v y:Value) (w:World) (ht:Tre l) (hk:hd l=13) (hv:Nds w v l) (_:Rws w y (kids l)) (_:IsC l.length):Calls Tryz.prog 240 #[v,y] w fun e w'=>e=.returned (.bool (plainOnB Is l))∧Below w.heap.size w w':=by
  obtain ⟨b,o,c,rfl,hc⟩:=z0c hv ht;rw [hk] at hc;have hpos:=ht.pos
  have HR:Hid (plainOnB Is l=false):=by
    show _=_
    unfold plainOnB;rw [hk]
    rfl
  clear hk hv ht
  go_enter Tryz.func240,Tryz.ntmps240
  go_wp2_with fail;go_ret;exact ⟨ret_bool HR.out.symm,Below.refl _ _⟩
theorem x4x (l:List Nd) (v y:Value) (w:World) (ht:Tre l) (hk:hd l=14) (hv:Nds w v l) (_:Rws w y (kids l)) (_:IsC l.length):Calls Tryz.prog 240 #[v,y] w fun e w'=>e=.returned (.bool (plainOnB Is l))∧Below w.heap.size w w':=by
  obtain ⟨b,o,c,rfl,hc⟩:=z0c hv ht;rw [hk] at hc;have hpos:=ht.pos
  have HR:Hid (plainOnB Is l=false):=by
    show _=_
    unfold plainOnB;rw [hk]
    rfl
  clear hk hv ht
  go_enter Tryz.func240,Tryz.ntmps240
  go_wp2_with fail;go_ret;exact ⟨ret_bool HR.out.symm,Below.refl _ _⟩
theorem y8r (l:List Nd) (v y:Value) (w:World) (ht:Tre l) (hv:Nds w v l) (hy:Rws w y (kids l)) (ih:IsC l.length):Calls Tryz.prog 240 #[v,y] w fun e w'=>e=.returned (.bool (plainOnB Is l))∧Below w.heap.size w w':=by
  rcases kinds ht.ar with h | h | h | h | h | h | h | h | h | h | h | h | h | h
  · exact x9o l v y w ht h hv hy ih
  · exact x9n l v y w ht h hv hy ih
  · exact x9m l v y w ht h hv hy ih
  · exact x9l l v y w ht h hv hy ih
  · exact x9k l v y w ht h hv hy ih
  · exact x9j l v y w ht h hv hy ih
  · exact x9i l v y w ht h hv hy ih
  · exact x9h l v y w ht h hv hy ih
  · exact x9g l v y w ht h hv hy ih
  · exact x5b l v y w ht h hv hy ih
  · exact x5a l v y w ht h hv hy ih
  · exact x4z l v y w ht h hv hy ih
  · exact x4y l v y w ht h hv hy ih
  · exact x4x l v y w ht h hv hy ih
theorem x5k (l:List Nd) (v y:Value) (w:World) (ht:Tre l) (hk:hd l=1) (hv:Nds w v l) (_:Rws w y (kids l)) (_:IsC l.length):Calls Tryz.prog 241 #[v,y] w fun e w'=>e=.returned (.bool (pairedOnB Is l))∧Below w.heap.size w w':=by
  obtain ⟨b,o,c,rfl,hc⟩:=z0c hv ht;rw [hk] at hc;have hpos:=ht.pos
  have HR:Hid (pairedOnB Is l=false):=by
    show _=_
    unfold pairedOnB;rw [hk]
    rfl
  clear hk hv ht
  go_enter Tryz.func241,Tryz.ntmps241
  go_wp2_with fail;go_ret;exact ⟨ret_bool HR.out.symm,Below.refl _ _⟩
theorem x5j (l:List Nd) (v y:Value) (w:World) (ht:Tre l) (hk:hd l=2) (hv:Nds w v l) (_:Rws w y (kids l)) (_:IsC l.length):Calls Tryz.prog 241 #[v,y] w fun e w'=>e=.returned (.bool (pairedOnB Is l))∧Below w.heap.size w w':=by
  obtain ⟨b,o,c,rfl,hc⟩:=z0c hv ht;rw [hk] at hc;have hpos:=ht.pos
  have HR:Hid (pairedOnB Is l=false):=by
    show _=_
    unfold pairedOnB;rw [hk]
    rfl
  clear hk hv ht
  go_enter Tryz.func241,Tryz.ntmps241
  go_wp2_with fail;go_ret;exact ⟨ret_bool HR.out.symm,Below.refl _ _⟩
theorem x5i (l:List Nd) (v y:Value) (w:World) (ht:Tre l) (hk:hd l=3) (hv:Nds w v l) (_:Rws w y (kids l)) (_:IsC l.length):Calls Tryz.prog 241 #[v,y] w fun e w'=>e=.returned (.bool (pairedOnB Is l))∧Below w.heap.size w w':=by
  obtain ⟨b,o,c,rfl,hc⟩:=z0c hv ht;rw [hk] at hc;have hpos:=ht.pos
  have HR:Hid (pairedOnB Is l=false):=by
    show _=_
    unfold pairedOnB;rw [hk]
    rfl
  clear hk hv ht
  go_enter Tryz.func241,Tryz.ntmps241
  go_wp2_with fail;go_ret;exact ⟨ret_bool HR.out.symm,Below.refl _ _⟩
theorem x5h (l:List Nd) (v y:Value) (w:World) (ht:Tre l) (hk:hd l=4) (hv:Nds w v l) (_:Rws w y (kids l)) (_:IsC l.length):Calls Tryz.prog 241 #[v,y] w fun e w'=>e=.returned (.bool (pairedOnB Is l))∧Below w.heap.size w w':=by
  obtain ⟨b,o,c,rfl,hc⟩:=z0c hv ht;rw [hk] at hc;have hpos:=ht.pos
  have HR:Hid (pairedOnB Is l=false):=by
    show _=_
    unfold pairedOnB;rw [hk]
    rfl
  clear hk hv ht
  go_enter Tryz.func241,Tryz.ntmps241
  go_wp2_with fail;go_ret;exact ⟨ret_bool HR.out.symm,Below.refl _ _⟩
theorem x5g (l:List Nd) (v y:Value) (w:World) (ht:Tre l) (hk:hd l=5) (hv:Nds w v l) (hy:Rws w y (kids l)) (ih:IsC l.length):Calls Tryz.prog 241 #[v,y] w fun e w'=>e=.returned (.bool (pairedOnB Is l))∧Below w.heap.size w w':=by
  obtain ⟨b,o,c,rfl,hc⟩:=z0c hv ht;rw [hk] at hc;have hpos:=ht.pos;obtain ⟨r0,r1,e,t0,t1,s0,s1⟩:=ht.two (by rw [hk]; rfl)
  have HR:Hid (pairedOnB Is l=(Is 4 r0&&Is 2 r1)):=by
    show _=_
    unfold pairedOnB k0 k1;rw [hk,e]
    rfl
  rw [e] at hy;obtain ⟨b',o',c',a0,a1,rfl,q0,q1,n0,n1⟩:=z0q hy;have IH:=Lib.hid (ih r0 4 w a0 s0 t0 n0 (by omega) (by omega));have IH1:=Lib.hid (fun w' h=>ih r1 2 w' a1 s1 t1 h (by omega) (by omega));have N1:=Lib.hid n1;have Q1:=Lib.hid q1;clear hk hv ht e hy ih n0 n1 q1
  go_enter Tryz.func241,Tryz.ntmps241
  go_wp2_with fail;refine IH.out.mono ?_
  cases h0:Is 4 r0 with
  | false=>
    rw [h0,Bool.false_and] at HR;rintro e w' ⟨rfl,hb⟩;go_wp2_with fail;go_ret;exact ⟨ret_bool HR.out.symm,hb⟩
  | true=>
    rw [h0,Bool.true_and] at HR;rintro e w1 ⟨rfl,hb⟩;have q1:w1.cell? ⟨b',o'+1,none⟩=some a1:=by rw [hb.cell (Ap.z0a Q1.out)]; exact Q1.out
    have HB:=Lib.hid hb;clear hb h0;go_wp2_with fail;refine (IH1.out _ (N1.out.below HB.out)).mono ?_;rintro e w2 ⟨rfl,hb⟩;go_wp2_with fail;go_ret;exact ⟨ret_bool HR.out.symm,HB.out.trans (hb.mono HB.out.size)⟩
theorem x5f (l:List Nd) (v y:Value) (w:World) (ht:Tre l) (hk:hd l=6) (hv:Nds w v l) (_:Rws w y (kids l)) (_:IsC l.length):Calls Tryz.prog 241 #[v,y] w fun e w'=>e=.returned (.bool (pairedOnB Is l))∧Below w.heap.size w w':=by
  obtain ⟨b,o,c,rfl,hc⟩:=z0c hv ht;rw [hk] at hc;have hpos:=ht.pos
  have HR:Hid (pairedOnB Is l=false):=by
    show _=_
    unfold pairedOnB;rw [hk]
    rfl
  clear hk hv ht
  go_enter Tryz.func241,Tryz.ntmps241
  go_wp2_with fail;go_ret;exact ⟨ret_bool HR.out.symm,Below.refl _ _⟩
theorem x5e (l:List Nd) (v y:Value) (w:World) (ht:Tre l) (hk:hd l=7) (hv:Nds w v l) (hy:Rws w y (kids l)) (ih:IsC l.length):Calls Tryz.prog 241 #[v,y] w fun e w'=>e=.returned (.bool (pairedOnB Is l))∧Below w.heap.size w w':=by
  obtain ⟨b,o,c,rfl,hc⟩:=z0c hv ht;rw [hk] at hc;have hpos:=ht.pos;obtain ⟨r0,r1,e,t0,t1,s0,s1⟩:=ht.two (by rw [hk]; rfl)
  have HR:Hid (pairedOnB Is l=(Is 4 r0&&Is 4 r1)):=by
    show _=_
    unfold pairedOnB k0 k1;rw [hk,e]
    rfl
  rw [e] at hy;obtain ⟨b',o',c',a0,a1,rfl,q0,q1,n0,n1⟩:=z0q hy;have IH:=Lib.hid (ih r0 4 w a0 s0 t0 n0 (by omega) (by omega));have IH1:=Lib.hid (fun w' h=>ih r1 4 w' a1 s1 t1 h (by omega) (by omega));have N1:=Lib.hid n1;have Q1:=Lib.hid q1;clear hk hv ht e hy ih n0 n1 q1
  go_enter Tryz.func241,Tryz.ntmps241
  go_wp2_with fail;refine IH.out.mono ?_
  cases h0:Is 4 r0 with
  | false=>
    rw [h0,Bool.false_and] at HR;rintro e w' ⟨rfl,hb⟩;go_wp2_with fail;go_ret;exact ⟨ret_bool HR.out.symm,hb⟩
  | true=>
    rw [h0,Bool.true_and] at HR;rintro e w1 ⟨rfl,hb⟩;have q1:w1.cell? ⟨b',o'+1,none⟩=some a1:=by rw [hb.cell (Ap.z0a Q1.out)]; exact Q1.out
    have HB:=Lib.hid hb;clear hb h0;go_wp2_with fail;refine (IH1.out _ (N1.out.below HB.out)).mono ?_;rintro e w2 ⟨rfl,hb⟩;go_wp2_with fail;go_ret;exact ⟨ret_bool HR.out.symm,HB.out.trans (hb.mono HB.out.size)⟩
theorem x5d (l:List Nd) (v y:Value) (w:World) (ht:Tre l) (hk:hd l=8) (hv:Nds w v l) (_:Rws w y (kids l)) (_:IsC l.length):Calls Tryz.prog 241 #[v,y] w fun e w'=>e=.returned (.bool (pairedOnB Is l))∧Below w.heap.size w w':=by
  obtain ⟨b,o,c,rfl,hc⟩:=z0c hv ht;rw [hk] at hc;have hpos:=ht.pos
  have HR:Hid (pairedOnB Is l=false):=by
    show _=_
    unfold pairedOnB;rw [hk]
    rfl
  clear hk hv ht
  go_enter Tryz.func241,Tryz.ntmps241
  go_wp2_with fail;go_ret;exact ⟨ret_bool HR.out.symm,Below.refl _ _⟩
theorem x5c (l:List Nd) (v y:Value) (w:World) (ht:Tre l) (hk:hd l=9) (hv:Nds w v l) (_:Rws w y (kids l)) (_:IsC l.length):Calls Tryz.prog 241 #[v,y] w fun e w'=>e=.returned (.bool (pairedOnB Is l))∧Below w.heap.size w w':=by
  obtain ⟨b,o,c,rfl,hc⟩:=z0c hv ht;rw [hk] at hc;have hpos:=ht.pos
  have HR:Hid (pairedOnB Is l=false):=by
    show _=_
    unfold pairedOnB;rw [hk]
    rfl
  clear hk hv ht
  go_enter Tryz.func241,Tryz.ntmps241
  go_wp2_with fail;go_ret;exact ⟨ret_bool HR.out.symm,Below.refl _ _⟩
theorem y8y (l:List Nd) (v y:Value) (w:World) (ht:Tre l) (hk:hd l=10) (hv:Nds w v l) (_:Rws w y (kids l)) (_:IsC l.length):Calls Tryz.prog 241 #[v,y] w fun e w'=>e=.returned (.bool (pairedOnB Is l))∧Below w.heap.size w w':=by
  obtain ⟨b,o,c,rfl,hc⟩:=z0c hv ht;rw [hk] at hc;have hpos:=ht.pos
  have HR:Hid (pairedOnB Is l=false):=by
    show _=_
    unfold pairedOnB;rw [hk]
    rfl
  clear hk hv ht
  go_enter Tryz.func241,Tryz.ntmps241
  go_wp2_with fail;go_ret;exact ⟨ret_bool HR.out.symm,Below.refl _ _⟩
theorem y8x (l:List Nd) (v y:Value) (w:World) (ht:Tre l) (hk:hd l=11) (hv:Nds w v l) (_:Rws w y (kids l)) (_:IsC l.length):Calls Tryz.prog 241 #[v,y] w fun e w'=>e=.returned (.bool (pairedOnB Is l))∧Below w.heap.size w w':=by
  obtain ⟨b,o,c,rfl,hc⟩:=z0c hv ht;rw [hk] at hc;have hpos:=ht.pos
  have HR:Hid (pairedOnB Is l=false):=by
    show _=_
    unfold pairedOnB;rw [hk]
    rfl
  clear hk hv ht
  go_enter Tryz.func241,Tryz.ntmps241
  go_wp2_with fail;go_ret;exact ⟨ret_bool HR.out.symm,Below.refl _ _⟩
theorem y8w (l:List Nd) (v y:Value) (w:World) (ht:Tre l) (hk:hd l=12) (hv:Nds w v l) (hy:Rws w y (kids l)) (ih:IsC l.length):Calls Tryz.prog 241 #[v,y] w fun e w'=>e=.returned (.bool (pairedOnB Is l))∧Below w.heap.size w w':=by
  obtain ⟨b,o,c,rfl,hc⟩:=z0c hv ht;rw [hk] at hc;have hpos:=ht.pos;obtain ⟨r0,r1,e,t0,t1,s0,s1⟩:=ht.two (by rw [hk]; rfl)
  have HR:Hid (pairedOnB Is l=(Is 3 r0&&Is 1 r1)):=by
    show _=_
    unfold pairedOnB k0 k1;rw [hk,e]
    rfl
  rw [e] at hy;obtain ⟨b',o',c',a0,a1,rfl,q0,q1,n0,n1⟩:=z0q hy;have IH:=Lib.hid (ih r0 3 w a0 s0 t0 n0 (by omega) (by omega));have IH1:=Lib.hid (fun w' h=>ih r1 1 w' a1 s1 t1 h (by omega) (by omega));have N1:=Lib.hid n1;have Q1:=Lib.hid q1;clear hk hv ht e hy ih n0 n1 q1
  go_enter Tryz.func241,Tryz.ntmps241
  go_wp2_with fail;refine IH.out.mono ?_
  cases h0:Is 3 r0 with
  | false=>
    rw [h0,Bool.false_and] at HR;rintro e w' ⟨rfl,hb⟩;go_wp2_with fail;go_ret;exact ⟨ret_bool HR.out.symm,hb⟩
  | true=>
    rw [h0,Bool.true_and] at HR;rintro e w1 ⟨rfl,hb⟩;have q1:w1.cell? ⟨b',o'+1,none⟩=some a1:=by rw [hb.cell (Ap.z0a Q1.out)]; exact Q1.out
    have HB:=Lib.hid hb;clear hb h0;go_wp2_with fail;refine (IH1.out _ (N1.out.below HB.out)).mono ?_;rintro e w2 ⟨rfl,hb⟩;go_wp2_with fail;go_ret;exact ⟨ret_bool HR.out.symm,HB.out.trans (hb.mono HB.out.size)⟩
theorem y8v (l:List Nd) (v y:Value) (w:World) (ht:Tre l) (hk:hd l=13) (hv:Nds w v l) (hy:Rws w y (kids l)) (ih:IsC l.length):Calls Tryz.prog 241 #[v,y] w fun e w'=>e=.returned (.bool (pairedOnB Is l))∧Below w.heap.size w w':=by
  obtain ⟨b,o,c,rfl,hc⟩:=z0c hv ht;rw [hk] at hc;have hpos:=ht.pos;obtain ⟨r0,r1,e,t0,t1,s0,s1⟩:=ht.two (by rw [hk]; rfl)
  have HR:Hid (pairedOnB Is l=(Is 4 r0&&Is 1 r1)):=by
    show _=_
    unfold pairedOnB k0 k1;rw [hk,e]
    rfl
  rw [e] at hy;obtain ⟨b',o',c',a0,a1,rfl,q0,q1,n0,n1⟩:=z0q hy;have IH:=Lib.hid (ih r0 4 w a0 s0 t0 n0 (by omega) (by omega));have IH1:=Lib.hid (fun w' h=>ih r1 1 w' a1 s1 t1 h (by omega) (by omega));have N1:=Lib.hid n1;have Q1:=Lib.hid q1;clear hk hv ht e hy ih n0 n1 q1
  go_enter Tryz.func241,Tryz.ntmps241
  go_wp2_with fail;refine IH.out.mono ?_
  cases h0:Is 4 r0 with
  | false=>
    rw [h0,Bool.false_and] at HR;rintro e w' ⟨rfl,hb⟩;go_wp2_with fail;go_ret;exact ⟨ret_bool HR.out.symm,hb⟩
  | true=>
    rw [h0,Bool.true_and] at HR;rintro e w1 ⟨rfl,hb⟩;have q1:w1.cell? ⟨b',o'+1,none⟩=some a1:=by rw [hb.cell (Ap.z0a Q1.out)]; exact Q1.out
    have HB:=Lib.hid hb;clear hb h0;go_wp2_with fail;refine (IH1.out _ (N1.out.below HB.out)).mono ?_;rintro e w2 ⟨rfl,hb⟩;go_wp2_with fail;go_ret;exact ⟨ret_bool HR.out.symm,HB.out.trans (hb.mono HB.out.size)⟩
theorem y8u (l:List Nd) (v y:Value) (w:World) (ht:Tre l) (hk:hd l=14) (hv:Nds w v l) (hy:Rws w y (kids l)) (ih:IsC l.length):Calls Tryz.prog 241 #[v,y] w fun e w'=>e=.returned (.bool (pairedOnB Is l))∧Below w.heap.size w w':=by
  obtain ⟨b,o,c,rfl,hc⟩:=z0c hv ht;rw [hk] at hc;have hpos:=ht.pos;obtain ⟨r0,e,t0,s0⟩:=ht.one (by rw [hk]; rfl)
  have HR:Hid (pairedOnB Is l=Is 1 r0):=by
    show _=_
    unfold pairedOnB k0;rw [hk,e]
    rfl
  rw [e] at hy;obtain ⟨b',o',c',a0,rfl,q0,n0⟩:=z9o hy;have IH:=Lib.hid (ih r0 1 w a0 s0 t0 n0 (by omega) (by omega));clear hk hv ht e hy ih n0
  go_enter Tryz.func241,Tryz.ntmps241
  go_wp2_with fail;refine IH.out.mono ?_;rintro e w' ⟨rfl,hb⟩;go_wp2_with fail;go_ret;exact ⟨ret_bool HR.out.symm,hb⟩
theorem y5z (l:List Nd) (v y:Value) (w:World) (ht:Tre l) (hv:Nds w v l) (hy:Rws w y (kids l)) (ih:IsC l.length):Calls Tryz.prog 241 #[v,y] w fun e w'=>e=.returned (.bool (pairedOnB Is l))∧Below w.heap.size w w':=by
  rcases kinds ht.ar with h | h | h | h | h | h | h | h | h | h | h | h | h | h
  · exact x5k l v y w ht h hv hy ih
  · exact x5j l v y w ht h hv hy ih
  · exact x5i l v y w ht h hv hy ih
  · exact x5h l v y w ht h hv hy ih
  · exact x5g l v y w ht h hv hy ih
  · exact x5f l v y w ht h hv hy ih
  · exact x5e l v y w ht h hv hy ih
  · exact x5d l v y w ht h hv hy ih
  · exact x5c l v y w ht h hv hy ih
  · exact y8y l v y w ht h hv hy ih
  · exact y8x l v y w ht h hv hy ih
  · exact y8w l v y w ht h hv hy ih
  · exact y8v l v y w ht h hv hy ih
  · exact y8u l v y w ht h hv hy ih
end So
end Go.Proofs.YtpingbiibbmcaaaGreatDoor
