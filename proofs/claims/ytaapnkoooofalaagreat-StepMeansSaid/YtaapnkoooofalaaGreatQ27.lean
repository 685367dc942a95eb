/- Laws that the last text leans on. -/
import Derived.Test.YtaapnkoooofalaaGreatQ26

set_option maxRecDepth 20000
set_option maxHeartbeats 2000000
namespace Go.Proofs.YtaapnkoooofalaaGreat
namespace Mn
open Go Go.RowKit Tr
theorem z2v (w:World) (a:Value) (t:TypeId):(w.alloc (.cells #[a] t)).cell? ⟨w.heap.size,0,none⟩=some a:=by simp
theorem z6q {α β:Type} (f:α→List β) {l:List α} {x:α} (h:x∈l):(f x).length≤(l.flatMap f).length:=by
  obtain ⟨s,t,rfl⟩:=List.append_of_mem h;rw [List.flatMap_append,List.flatMap_cons,List.length_append,List.length_append];omega
theorem pot1_any (T:TCon) (ok:Nat→Prop) (bx:Nat) (a y:Value) (t:Tr) (l:List Tr) (w:World) (hb:w.cell? ⟨bx,0,none⟩=some y) (hs:StrsO ok w a t.a) (hl:TsO ok w y l) (hlen:l.length≤1000000000000) (hrow:∀ u∈l,t.a.length+u.a.length≤1000000) :
    Calls Tryz.prog 116 #[.agg #[a,.int .i64 t.e],.pointer (some ⟨bx,0,none⟩)] w (OutT ok (l.map (thn t)) w):=by
  have HB:=Lib.hid (fun o=>bel1 w o);have C:=Lib.hid (fun w1 (hb:Below w.heap.size w w1)=>z7t T ok a y t l w1 (z0e hs hb) (hl.below hb) hlen hrow);have hlt:=Ap.z0a hb;generalize l.map (thn t)=L at C ⊢;obtain ⟨_,a1,k1,rfl,_⟩:=hs;obtain ⟨_,⟨_,a2,k2,rfl,_⟩,_⟩:=hl
  go_enter Tryz.func116,Tryz.ntmps116
  go_wp2_with fail;refine (C.out _ (HB.out _)).mono ?_;intro e w2 ho;have HO:=Lib.hid (ho.up (HB.out _) fun b h=>.inl h);obtain ⟨a4,k4,rfl,_,_⟩:=ho;go_wp2_with fail;go_ret;exact HO.out
theorem x3c (T:TCon) (x y:Value) (A B:List Tr) (w:World) (hx:TsO any w x A) (hy:TsO any w y B) (hA:A.length≤1000000000000) (hB:B.length≤1000000000000) (hrow:∀ t∈A,∀ u∈B,t.a.length+u.a.length≤9)
    (hout:(A.flatMap fun t=>B.map (thn t)).length≤1000000000000) :
    Calls Tryz.prog 75 #[.int .i64 5,x,y] w (OutT any (A.flatMap fun t=>B.map (thn t)) w):=by
  have eg:∀ args w,(callFunc 116 args).run Tryz.prog w=.ok (.enter 116 args) w:=enters_of Tryz.func116 (by kernel_rfl) rfl;have hin:∀ t∈A,(B.map (thn t)).length≤1000000000000:=fun t ht=>Nat.le_trans (z6q (fun t=>B.map (thn t)) ht) hout
  have C:=Lib.hid (fun ty=>y6d 116 #[.pointer (some ⟨w.heap.size,0,none⟩)] eg any x A (fun t=>B.map (thn t)) (w.alloc (.cells #[y] ty)) (hx.below (bel1 _ _))
    (fun wr hb t ht a ha=>by
      have hc:wr.cell? ⟨w.heap.size,0,none⟩=some y:=by rw [hb.cell (p:=⟨w.heap.size,0,none⟩) (by simp)]; exact z2v _ _ _
      have hY:=(((hy.imp (ok':=fun b=>any b∧b<(w.alloc (.cells #[y] ty)).heap.size) fun b hlt h=>⟨h,by simp; omega⟩).below (bel1 w (.cells #[y] ty))).below hb)
      exact pot1_any T _ w.heap.size a y t B wr hc ha hY hB (fun u hu=>by have:=hrow t ht u hu; omega)) hA hout)
  generalize (A.flatMap fun t=>B.map (thn t))=L at C ⊢;obtain ⟨_,⟨_,a1,k1,rfl,_⟩,_⟩:=hx;obtain ⟨_,⟨_,a2,k2,rfl,_⟩,_⟩:=hy;clear hin
  go_enter Tryz.func75,Tryz.ntmps75
  go_wp2_with fail;refine (C.out _).mono ?_;intro e w2 ho;have HO:=Lib.hid (ho.up (bel1 w _) fun b h=>.inl h);obtain ⟨a4,k4,rfl,_,_⟩:=ho;go_wp2_with fail;go_ret;exact HO.out
theorem pot2_any (T:TCon) (ok:Nat→Prop) (bx:Nat) (a y:Value) (t:Tr) (l:List Tr) (w:World) (hb:w.cell? ⟨bx,0,none⟩=some y) (hs:StrsO ok w a t.a) (hl:TsO ok w y l) (hlen:l.length≤1000000000000) (hout:(l.flatMap (pr t)).length≤1000000000000) (hrow:∀ u∈l,t.a.length+u.a.length≤9) :
    Calls Tryz.prog 117 #[.agg #[a,.int .i64 t.e],.pointer (some ⟨bx,0,none⟩)] w (OutT ok (l.flatMap (pr t)) w):=by
  have HB:=Lib.hid (fun o=>bel1 w o);have C:=Lib.hid (fun w1 (hb:Below w.heap.size w w1)=>x4k T ok a y t l w1 (z0e hs hb) (hl.below hb) hlen hout hrow);have hlt:=Ap.z0a hb;generalize l.flatMap (pr t)=L at C ⊢;obtain ⟨_,a1,k1,rfl,_⟩:=hs;obtain ⟨_,⟨_,a2,k2,rfl,_⟩,_⟩:=hl
  go_enter Tryz.func117,Tryz.ntmps117
  go_wp2_with fail;refine (C.out _ (HB.out _)).mono ?_;intro e w2 ho;have HO:=Lib.hid (ho.up (HB.out _) fun b h=>.inl h);obtain ⟨a4,k4,rfl,_,_⟩:=ho;go_wp2_with fail;go_ret;exact HO.out
theorem x3a (T:TCon) (x y:Value) (A B:List Tr) (w:World) (hx:TsO any w x A) (hy:TsO any w y B) (hA:A.length≤1000000000000) (hB:B.length≤1000000000000) (hrow:∀ t∈A,∀ u∈B,t.a.length+u.a.length≤9)
    (hout:(A.flatMap fun t=>B.flatMap (pr t)).length≤1000000000000) :
    Calls Tryz.prog 75 #[.int .i64 7,x,y] w (OutT any (A.flatMap fun t=>B.flatMap (pr t)) w):=by
  have eg:∀ args w,(callFunc 117 args).run Tryz.prog w=.ok (.enter 117 args) w:=enters_of Tryz.func117 (by kernel_rfl) rfl;have hin:∀ t∈A,(B.flatMap (pr t)).length≤1000000000000:=fun t ht=>Nat.le_trans (z6q (fun t=>B.flatMap (pr t)) ht) hout
  have C:=Lib.hid (fun ty=>y6d 117 #[.pointer (some ⟨w.heap.size,0,none⟩)] eg any x A (fun t=>B.flatMap (pr t)) (w.alloc (.cells #[y] ty)) (hx.below (bel1 _ _))
    (fun wr hb t ht a ha=>by
      have hc:wr.cell? ⟨w.heap.size,0,none⟩=some y:=by rw [hb.cell (p:=⟨w.heap.size,0,none⟩) (by simp)]; exact z2v _ _ _
      have hY:=(((hy.imp (ok':=fun b=>any b∧b<(w.alloc (.cells #[y] ty)).heap.size) fun b hlt h=>⟨h,by simp; omega⟩).below (bel1 w (.cells #[y] ty))).below hb)
      exact pot2_any T _ w.heap.size a y t B wr hc ha hY hB (hin t ht) (fun u hu=>by have:=hrow t ht u hu; omega)) hA hout)
  generalize (A.flatMap fun t=>B.flatMap (pr t))=L at C ⊢;obtain ⟨_,⟨_,a1,k1,rfl,_⟩,_⟩:=hx;obtain ⟨_,⟨_,a2,k2,rfl,_⟩,_⟩:=hy;clear hin
  go_enter Tryz.func75,Tryz.ntmps75
  go_wp2_with fail;refine (C.out _).mono ?_;intro e w2 ho;have HO:=Lib.hid (ho.up (bel1 w _) fun b h=>.inl h);obtain ⟨a4,k4,rfl,_,_⟩:=ho;go_wp2_with fail;go_ret;exact HO.out
theorem pot3_any (T:TCon) (ok:Nat→Prop) (bx:Nat) (a y:Value) (t:Tr) (l:List Tr) (w:World) (hb:w.cell? ⟨bx,0,none⟩=some y) (hs:StrsO ok w a t.a) (hl:TsO ok w y l) (hlen:l.length≤1000000000000) (hrow:∀ u∈l,t.a.length+u.a.length≤1000000) :
    Calls Tryz.prog 119 #[.agg #[a,.int .i64 t.e],.pointer (some ⟨bx,0,none⟩)] w (OutT ok (hdl t l) w):=by
  have HB:=Lib.hid (fun o=>bel1 w o);have C:=Lib.hid (fun w1 (hb:Below w.heap.size w w1)=>x3q T ok a y t l w1 (z0e hs hb) (hl.below hb) hlen hrow);have hlt:=Ap.z0a hb;generalize hdl t l=L at C ⊢;obtain ⟨_,a1,k1,rfl,_⟩:=hs;obtain ⟨_,⟨_,a2,k2,rfl,_⟩,_⟩:=hl
  go_enter Tryz.func119,Tryz.ntmps119
  go_wp2_with fail;refine (C.out _ (HB.out _)).mono ?_;intro e w2 ho;have HO:=Lib.hid (ho.up (HB.out _) fun b h=>.inl h);obtain ⟨a4,k4,rfl,_,_⟩:=ho;go_wp2_with fail;go_ret;exact HO.out
theorem x2z (T:TCon) (x y:Value) (A B:List Tr) (w:World) (hx:TsO any w x A) (hy:TsO any w y B) (hA:A.length≤1000000000000) (hB:B.length≤1000000000000) (hrow:∀ t∈A,∀ u∈B,t.a.length+u.a.length≤9)
    (hout:(A.flatMap fun t=>hdl t B).length≤1000000000000) :
    Calls Tryz.prog 75 #[.int .i64 8,x,y] w (OutT any (A.flatMap fun t=>hdl t B) w):=by
  have eg:∀ args w,(callFunc 119 args).run Tryz.prog w=.ok (.enter 119 args) w:=enters_of Tryz.func119 (by kernel_rfl) rfl;have hin:∀ t∈A,(hdl t B).length≤1000000000000:=fun t ht=>Nat.le_trans (z6q (fun t=>hdl t B) ht) hout
  have C:=Lib.hid (fun ty=>y6d 119 #[.pointer (some ⟨w.heap.size,0,none⟩)] eg any x A (fun t=>hdl t B) (w.alloc (.cells #[y] ty)) (hx.below (bel1 _ _))
    (fun wr hb t ht a ha=>by
      have hc:wr.cell? ⟨w.heap.size,0,none⟩=some y:=by rw [hb.cell (p:=⟨w.heap.size,0,none⟩) (by simp)]; exact z2v _ _ _
      have hY:=(((hy.imp (ok':=fun b=>any b∧b<(w.alloc (.cells #[y] ty)).heap.size) fun b hlt h=>⟨h,by simp; omega⟩).below (bel1 w (.cells #[y] ty))).below hb)
      exact pot3_any T _ w.heap.size a y t B wr hc ha hY hB (fun u hu=>by have:=hrow t ht u hu; omega)) hA hout)
  generalize (A.flatMap fun t=>hdl t B)=L at C ⊢;obtain ⟨_,⟨_,a1,k1,rfl,_⟩,_⟩:=hx;obtain ⟨_,⟨_,a2,k2,rfl,_⟩,_⟩:=hy;clear hin
  go_enter Tryz.func75,Tryz.ntmps75
  go_wp2_with fail;refine (C.out _).mono ?_;intro e w2 ho;have HO:=Lib.hid (ho.up (bel1 w _) fun b h=>.inl h);obtain ⟨a4,k4,rfl,_,_⟩:=ho;go_wp2_with fail;go_ret;exact HO.out
theorem x3b (T:TCon) (x y:Value) (A B:List Tr) (w:World) (hx:TsO any w x A) (hy:TsO any w y B) (hAB:A.length+B.length≤1000000000000) (hrow:∀ t∈A++B,t.a.length≤1000000) :
    Calls Tryz.prog 75 #[.int .i64 6,x,y] w (OutT any (norm (A++B)) w):=by
  have C:=Lib.hid (fun o=>T.cOr x y A B (w.alloc o) (hx.below (bel1 _ _)).trs (hy.below (bel1 _ _)).trs hAB hrow);generalize norm (A++B)=L at C ⊢;obtain ⟨_,⟨_,a1,k1,rfl,_⟩,_⟩:=hx;obtain ⟨_,⟨_,a2,k2,rfl,_⟩,_⟩:=hy
  go_enter Tryz.func75,Tryz.ntmps75
  go_wp2_with fail;refine (C.out _).mono ?_;rintro e w2 ⟨v,rfl,ht,hb⟩;have HT:=Lib.hid ht;have HB:=Lib.hid ((bel1 w _).trans (hb.mono (bel1 w _).size));obtain ⟨_,⟨_,a4,k4,rfl,_⟩,_⟩:=ht;go_wp2_with fail;go_ret;exact ⟨_,_,rfl,(TsO.of HT.out).imp fun _ _ h=>.inl h,HB.out⟩
def pot (k:Int) (A B:List Tr):List Tr:=if k=5 then A.flatMap fun t=>B.map (thn t) else if k=7 then A.flatMap fun t=>B.flatMap (pr t) else if k=8 then A.flatMap fun t=>hdl t B else norm (A++B)
theorem x5o (p q:Tr) (h:p.e=2):thn ⟨p.a,1⟩ q=hnd p q:=by
  unfold thn hnd;rw [if_pos rfl,if_pos h]
theorem hdl_le (t:Tr) (B:List Tr) (hB:B≠[]):(hdl t B).length≤B.length:=by
  unfold hdl
  split
  · rw [List.length_map]; exact Nat.le_refl _
  · have:0<B.length:=List.length_pos_iff.2 hB
    show 1≤B.length
    omega
theorem z3s {α β:Type} (f g:α→List β):∀ l:List α,(∀ x∈l,(f x).length≤(g x).length)→(l.flatMap f).length≤(l.flatMap g).length
  | [],_=>by simp
  | x::l,h=>by
    rw [List.flatMap_cons,List.flatMap_cons,List.length_append,List.length_append];exact Nat.add_le_add (h x (by simp)) (z3s f g l fun y hy=>h y (by simp [hy]))
theorem x8k {α β:Type} (f:α→β) (l:List α):(l.flatMap fun x=>[f x]).length=l.length:=by rw [← z5f,List.length_map]
theorem x6w {k:Int} (hk:k=5∨k=6∨k=7∨k=8) (A B:List Tr) (hB:k=8→B≠[]):(pot k A B).length≤(two k A B).length:=by
  rcases hk with rfl | rfl | rfl | rfl
  · refine z3s _ _ A fun t _=>?_
    rw [z5f];refine z3s _ _ B fun u _=>?_
    rw [one5];exact Nat.le_refl _
  · refine Nat.le_trans (z1b _) (Nat.le_refl _)
  · refine z3s _ _ A fun t _=>z3s _ _ B fun u _=>?_
    rw [one7];exact Nat.le_refl _
  · refine z3s _ _ A fun t _=>Nat.le_trans (hdl_le t B (hB rfl)) ?_
    have e:(fun u=>one 8 t u)=fun u=>[hnd t u]:=by funext u; exact one8 t u
    show B.length≤(B.flatMap fun u=>one 8 t u).length
    rw [e,x8k];exact Nat.le_refl _
theorem x0h {k:Int} (hk:k=5∨k=6∨k=7∨k=8) (A B:List Tr) (hB:k=8→B≠[]):norm (pot k A B)=norm (two k A B):=y1d fun t=>by
  rcases hk with rfl | rfl | rfl | rfl
  · rw [mem5]
    show t∈(A.flatMap fun t=>B.map (thn t))↔_
    simp only [List.mem_flatMap,List.mem_map]
    constructor
    · rintro ⟨p,hp,q,hq,rfl⟩; exact ⟨p,hp,q,hq,rfl⟩
    · rintro ⟨p,hp,q,hq,rfl⟩; exact ⟨p,hp,q,hq,rfl⟩
  · rw [mem6]
    show t∈norm (A++B)↔_
    rw [z0s,List.mem_append]
  · rw [mem7]
    show t∈(A.flatMap fun t=>B.flatMap (pr t))↔_
    simp only [List.mem_flatMap]
  · rw [mem8]
    show t∈(A.flatMap fun t=>hdl t B)↔_
    simp only [List.mem_flatMap]
    constructor
    · rintro ⟨p,hp,ht⟩;unfold hdl at ht
      split at ht
      · rename_i h2
        obtain ⟨q,hq,rfl⟩:=List.mem_map.1 ht;exact ⟨p,hp,q,hq,x5o p q h2⟩
      · rename_i h2
        rw [List.mem_singleton] at ht;obtain ⟨q,hq⟩:=List.exists_mem_of_ne_nil _ (hB rfl);exact ⟨p,hp,q,hq,by rw [ht]; unfold hnd; rw [if_neg h2]⟩
    · rintro ⟨p,hp,q,hq,rfl⟩;refine ⟨p,hp,?_⟩;unfold hdl
      split
      · rename_i h2
        exact List.mem_map.2 ⟨q,hq,x5o p q h2⟩
      · rename_i h2
        unfold hnd;rw [if_neg h2];exact List.mem_singleton.2 rfl
theorem y5g (T:TCon) (k:Int) (hk:k=5∨k=6∨k=7∨k=8) (x y:Value) (A B:List Tr) (w:World) (hx:TsO any w x A) (hy:TsO any w y B) (hAB:A.length+B.length≤1000000000000) (hrow:∀ t∈A,∀ u∈B,t.a.length+u.a.length≤9) (hr1:∀ t∈A++B,t.a.length≤1000000)
    (hB:k=8→B≠[]) (hout:(two k A B).length≤1000000000000):Calls Tryz.prog 75 #[.int .i64 k,x,y] w (OutT any (pot k A B) w):=by
  have hout':=Nat.le_trans (x6w hk A B hB) hout
  rcases hk with rfl | rfl | rfl | rfl
  · exact x3c T x y A B w hx hy (by omega) (by omega) hrow hout'
  · exact x3b T x y A B w hx hy hAB hr1
  · exact x3a T x y A B w hx hy (by omega) (by omega) hrow hout'
  · exact x2z T x y A B w hx hy (by omega) (by omega) hrow hout'
def Gr (w w':World):Prop:=∃ n os,w'=Go.Sort.grow (w.drewN n) os
theorem x3z (w:World) (os:Array Obj) (n:Nat):(Go.Sort.grow w os).drewN n=Go.Sort.grow (w.drewN n) os:=by
  induction n with
  | zero=>rfl
  | succ n ih=>show ((Go.Sort.grow w os).drewN n).drew=_; rw [ih]; rfl
theorem Gr.refl (w:World):Gr w w:=⟨0,#[],by rw [Go.Sort.grow_empty]; rfl⟩
theorem Gr.trans {w w1 w2:World} (h1:Gr w w1) (h2:Gr w1 w2):Gr w w2:=by
  obtain ⟨n,os,rfl⟩:=h1;obtain ⟨m,os',rfl⟩:=h2;exact ⟨n+m,os++os',by rw [x3z,Go.Sort.grow_grow,World.drewN_drewN]⟩
theorem Gr.alloc {w w1:World} (h:Gr w w1) (o:Obj):Gr w (w1.alloc o):=h.trans ⟨0,#[o],Go.Sort.alloc_eq_grow _ _⟩
theorem Gr.drew {w w1:World} (h:Gr w w1):Gr w w1.drew:=h.trans ⟨1,#[],by rw [Go.Sort.grow_empty]; rfl⟩
theorem Gr.below {w w':World} (h:Gr w w'):Below w.heap.size w w':=by
  obtain ⟨n,os,rfl⟩:=h;exact below_grow w n os
theorem y4a (v1 v2:Value) (p q:Tr) (w:World) (h1:Strs w v1 p.a) (h2:Strs w v2 q.a) (hl:p.a.length≤1000000) (hm:q.a.length≤1000000) :
    Calls Tryz.prog 201 #[.agg #[v1,.int .i64 p.e],.agg #[v2,.int .i64 q.e]] w fun e w'=>e=.returned (.int .i64 (cmp p q))∧∃ n os,w'=Go.Sort.grow (w.drewN n) os:=by
  have H1:=Lib.hid (fun x y=>h1.below (((Below.refl _ _).alloc (Nat.le_refl _) x).alloc (by simp) y));have H2:=Lib.hid (fun x y=>h2.below (((Below.refl _ _).alloc (Nat.le_refl _) x).alloc (by simp) y));obtain ⟨_,a1,c1,rfl,-⟩:=h1;obtain ⟨_,a2,c2,rfl,-⟩:=h2
  go_enter Tryz.func201,Tryz.ntmps201
  go_wp2_with (go_at_call 104; refine (z4g _ _ p q _ (H1.out _ _) (H2.out _ _) (by omega) (by omega)).mono ?_; rintro e w' ⟨rfl,n,os,rfl⟩);go_ret;exact ⟨rfl,(((Gr.refl w).alloc _).alloc _).trans ⟨n,os,rfl⟩⟩
theorem or_pcmp (x y:Pr):(if cmp x.p y.p=0 then cmp x.q y.q else cmp x.p y.p)=pcmp x y:=rfl
def Bx2 (w:World) (b:Nat) (v1 v1' v2 v2':Value) (x y:Pr):Prop:=BoxP w b v1 x.p.e v1' x.q.e∧BoxP w (b+1) v2 y.p.e v2' y.q.e
theorem Bx2.below {w w':World} {b:Nat} {v1 v1' v2 v2':Value} {x y:Pr} (h:Bx2 w b v1 v1' v2 v2' x y) (hb:Below w.heap.size w w'):Bx2 w' b v1 v1' v2 v2' x y:=⟨h.1.below hb,h.2.below hb⟩
theorem z7o (v1 v1' v2 v2':Value) (x y:Pr) (w:World) (h1:Strs w v1 x.p.a) (h1':Strs w v1' x.q.a) (h2:Strs w v2 y.p.a) (h2':Strs w v2' y.q.a)
    (l1:x.p.a.length≤1000000) (l1':x.q.a.length≤1000000) (l2:y.p.a.length≤1000000) (l2':y.q.a.length≤1000000) :
    Calls Tryz.prog 158 #[.agg #[v1,.int .i64 x.p.e,v1',.int .i64 x.q.e],.agg #[v2,.int .i64 y.p.e,v2',.int .i64 y.q.e]] w fun e w'=>e=.returned (.int .i64 (pcmp x y))∧Gr w w':=by
  obtain ⟨cp,hcp⟩:∃ c,cmp x.p y.p=c:=⟨_,rfl⟩
  obtain ⟨cq,hcq⟩:∃ c,cmp x.q y.q=c:=⟨_,rfl⟩
  have HO:=Lib.hid (or_pcmp x y);rw [hcp,hcq] at HO;have C1:=Lib.hid (fun w1 (hb:Gr w w1)=>y4a v1 v2 x.p y.p w1 (h1.below hb.below) (h2.below hb.below) l1 l2);have C2:=Lib.hid (fun w1 (hb:Gr w w1)=>y4a v1' v2' x.q y.q w1 (h1'.below hb.below) (h2'.below hb.below) l1' l2');rw [hcp] at C1;rw [hcq] at C2;have R3:Hid (∀ b w,w.cell? ⟨b,0,none⟩=some (.int .i64 cp)→w.cell? ⟨b,1,none⟩=some (.int .i64 cq)→Calls Tryz.prog 153 #[.slice (some ⟨b,0,none⟩) 2 2] w fun e w'=>e=.returned (.int .i64 (pcmp x y))∧w'=w):=Lib.hid (fun b w ha hb=>by rw [← HO.out]; exact x7j cp cq b w ha hb);obtain ⟨_,a1,c1,rfl,-⟩:=h1;obtain ⟨_,a1',c1',rfl,-⟩:=h1';obtain ⟨_,a2,c2,rfl,-⟩:=h2;obtain ⟨_,a2',c2',rfl,-⟩:=h2';generalize pcmp x y=c at *;clear hcp hcq HO;have G2:=Lib.hid (fun o p:Obj=>(((Gr.refl w).alloc o).alloc p).drew)
  go_enter Tryz.func158,Tryz.ntmps158
  go_wp2_with fail
  go_region_held3 (fun w'=>w'.cell? ⟨w.heap.size,0,none⟩=some (.slice a1 x.p.a.length c1)∧w'.cell? ⟨w.heap.size,1,none⟩=some (.int .i64 x.p.e)∧w'.cell? ⟨w.heap.size,2,none⟩=some (.slice a1' x.q.a.length c1')∧w'.cell? ⟨w.heap.size,3,none⟩=some (.int .i64 x.q.e)∧w'.cell? ⟨w.heap.size+1,0,none⟩=some (.slice a2 y.p.a.length c2)∧w'.cell? ⟨w.heap.size+1,1,none⟩=some (.int .i64 y.p.e)∧w'.cell? ⟨w.heap.size+1,2,none⟩=some (.slice a2' y.q.a.length c2')∧w'.cell? ⟨w.heap.size+1,3,none⟩=some (.int .i64 y.q.e)) (first | (simp [go_sem]; done) | exact kz | exact ky | exact ka _ | fail) (first
    | (go_at_call 201
       (with_reducible refine (C1.out _ (G2.out _ _)).mono ?_)
       rintro e w1 ⟨rfl,hb1⟩
       have kz:w1.cell? ⟨w.heap.size,0,none⟩=some (.slice a1 x.p.a.length c1)∧w1.cell? ⟨w.heap.size,1,none⟩=some (.int .i64 x.p.e)∧w1.cell? ⟨w.heap.size,2,none⟩=some (.slice a1' x.q.a.length c1')∧w1.cell? ⟨w.heap.size,3,none⟩=some (.int .i64 x.q.e)∧w1.cell? ⟨w.heap.size+1,0,none⟩=some (.slice a2 y.p.a.length c2)∧w1.cell? ⟨w.heap.size+1,1,none⟩=some (.int .i64 y.p.e)∧w1.cell? ⟨w.heap.size+1,2,none⟩=some (.slice a2' y.q.a.length c2')∧w1.cell? ⟨w.heap.size+1,3,none⟩=some (.int .i64 y.q.e):=by
         have k:=Bx2.below (b:=w.heap.size) (v1:=.slice a1 x.p.a.length c1) (v1':=.slice a1' x.q.a.length c1') (v2:=.slice a2 y.p.a.length c2) (v2':=.slice a2' y.q.a.length c2') (x:=x) (y:=y) ⟨⟨by simp [go_sem],by simp [go_sem],by simp [go_sem],by simp [go_sem]⟩,⟨by simp [go_sem],by simp [go_sem],by simp [go_sem],by simp [go_sem]⟩⟩ (Gr.below hb1);exact ⟨k.1.1,k.1.2.1,k.1.2.2.1,k.1.2.2.2,k.2.1,k.2.2.1,k.2.2.2.1,k.2.2.2.2⟩
       have B1:=Lib.hid ((G2.out _ _).trans hb1);clear hb1)
    | (go_at_call 201
       (with_reducible refine (C2.out _ B1.out).mono ?_)
       rintro e w2 ⟨rfl,hb2⟩
       have ky:w2.cell? ⟨w.heap.size,0,none⟩=some (.slice a1 x.p.a.length c1)∧w2.cell? ⟨w.heap.size,1,none⟩=some (.int .i64 x.p.e)∧w2.cell? ⟨w.heap.size,2,none⟩=some (.slice a1' x.q.a.length c1')∧w2.cell? ⟨w.heap.size,3,none⟩=some (.int .i64 x.q.e)∧w2.cell? ⟨w.heap.size+1,0,none⟩=some (.slice a2 y.p.a.length c2)∧w2.cell? ⟨w.heap.size+1,1,none⟩=some (.int .i64 y.p.e)∧w2.cell? ⟨w.heap.size+1,2,none⟩=some (.slice a2' y.q.a.length c2')∧w2.cell? ⟨w.heap.size+1,3,none⟩=some (.int .i64 y.q.e):=by
         have k:=Bx2.below (b:=w.heap.size) (x:=x) (y:=y) ⟨⟨kz.1,kz.2.1,kz.2.2.1,kz.2.2.2.1⟩,⟨kz.2.2.2.2.1,kz.2.2.2.2.2.1,kz.2.2.2.2.2.2.1,kz.2.2.2.2.2.2.2⟩⟩ (Gr.below hb2);exact ⟨k.1.1,k.1.2.1,k.1.2.2.1,k.1.2.2.2,k.2.1,k.2.2.1,k.2.2.2.1,k.2.2.2.2⟩
       have ka:∀ o:Obj,(w2.alloc o).cell? ⟨w.heap.size,0,none⟩=some (.slice a1 x.p.a.length c1)∧(w2.alloc o).cell? ⟨w.heap.size,1,none⟩=some (.int .i64 x.p.e)∧(w2.alloc o).cell? ⟨w.heap.size,2,none⟩=some (.slice a1' x.q.a.length c1')∧(w2.alloc o).cell? ⟨w.heap.size,3,none⟩=some (.int .i64 x.q.e)∧(w2.alloc o).cell? ⟨w.heap.size+1,0,none⟩=some (.slice a2 y.p.a.length c2)∧(w2.alloc o).cell? ⟨w.heap.size+1,1,none⟩=some (.int .i64 y.p.e)∧(w2.alloc o).cell? ⟨w.heap.size+1,2,none⟩=some (.slice a2' y.q.a.length c2')∧(w2.alloc o).cell? ⟨w.heap.size+1,3,none⟩=some (.int .i64 y.q.e):=fun o=>by
         have k:=Bx2.below (b:=w.heap.size) (x:=x) (y:=y) ⟨⟨ky.1,ky.2.1,ky.2.2.1,ky.2.2.2.1⟩,⟨ky.2.2.2.2.1,ky.2.2.2.2.2.1,ky.2.2.2.2.2.2.1,ky.2.2.2.2.2.2.2⟩⟩ (bel1 w2 o);exact ⟨k.1.1,k.1.2.1,k.1.2.2.1,k.1.2.2.2,k.2.1,k.2.2.1,k.2.2.2.1,k.2.2.2.2⟩
       have B2:=Lib.hid (B1.out.trans hb2);clear hb2)
    | (go_at_call 153
       refine (R3.out _ _ (by simp [go_sem]) (by simp [go_sem])).mono ?_;rintro e w' ⟨rfl,rfl⟩)
    | fail)
  go_wp2_with fail;go_ret;exact ⟨rfl,B2.out.alloc _⟩

end Mn
namespace Se
open Go Go.RowKit Rw So
theorem z4a:∀ t u:Tm,flat t=flat u→t=u:=by
  intro t
  induction t with
  | act s=>
    intro u h;have hk:kd u=1:=by unfold kd; rw [← h]; rfl
    cases u <;> try (simp [kd,flat,hd,nOf] at hk; done)
    · have e:=congrArg nml h;exact congrArg Tm.act e
  | skip=>
    intro u h;have hk:kd u=2:=by unfold kd; rw [← h]; rfl
    cases u <;> try (simp [kd,flat,hd,nOf] at hk; done)
    · rfl
  | throw=>
    intro u h;have hk:kd u=3:=by unfold kd; rw [← h]; rfl
    cases u <;> try (simp [kd,flat,hd,nOf] at hk; done)
    · rfl
  | yield=>
    intro u h;have hk:kd u=4:=by unfold kd; rw [← h]; rfl
    cases u <;> try (simp [kd,flat,hd,nOf] at hk; done)
    · rfl
  | over s=>
    intro u h;have hk:kd u=11:=by unfold kd; rw [← h]; rfl
    cases u <;> try (simp [kd,flat,hd,nOf] at hk; done)
    · have e:=congrArg sgl h;exact congrArg Tm.over e
  | block a ia=>
    intro u h;have hk:kd u=9:=by unfold kd; rw [← h]; rfl
    cases u <;> try (simp [kd,flat,hd,nOf] at hk; done)
    · have e:=congrArg kids h;rw [z5h,z5h] at e;injection e with e _;rw [ia _ e]
  | fin s c ic=>
    intro u h;have hk:kd u=14:=by unfold kd; rw [← h]; rfl
    cases u <;> try (simp [kd,flat,hd,nOf] at hk; done)
    · have e:=congrArg kids h;have e2:s=_:=congrArg sgl h;rw [z8c,z8c] at e;injection e with e _;rw [ic _ e,e2]
      rfl
  | seq a b ia ib=>
    intro u h;have hk:kd u=5:=by unfold kd; rw [← h]; rfl
    cases u <;> try (simp [kd,flat,hd,nOf] at hk; done)
    · have e:=congrArg kids h;rw [z6j,z6j] at e;injection e with e1 e;injection e with e2 _;rw [ia _ e1,ib _ e2]
  | alt a b ia ib=>
    intro u h;have hk:kd u=6:=by unfold kd; rw [← h]; rfl
    cases u <;> try (simp [kd,flat,hd,nOf] at hk; done)
    · have e:=congrArg kids h;rw [z6m,z6m] at e;injection e with e1 e;injection e with e2 _;rw [ia _ e1,ib _ e2]
  | par a b ia ib=>
    intro u h;have hk:kd u=7:=by unfold kd; rw [← h]; rfl
    cases u <;> try (simp [kd,flat,hd,nOf] at hk; done)
    · have e:=congrArg kids h;rw [z6k,z6k] at e;injection e with e1 e;injection e with e2 _;rw [ia _ e1,ib _ e2]
  | hand a b ia ib=>
    intro u h;have hk:kd u=8:=by unfold kd; rw [← h]; rfl
    cases u <;> try (simp [kd,flat,hd,nOf] at hk; done)
    · have e:=congrArg kids h;rw [z4v,z4v] at e;injection e with e1 e;injection e with e2 _;rw [ia _ e1,ib _ e2]
  | pair a b ia ib=>
    intro u h;have hk:kd u=10:=by unfold kd; rw [← h]; rfl
    cases u <;> try (simp [kd,flat,hd,nOf] at hk; done)
    · have e:=congrArg kids h;rw [z4u,z4u] at e;injection e with e1 e;injection e with e2 _;rw [ia _ e1,ib _ e2]
  | going a b ia ib=>
    intro u h;have hk:kd u=12:=by unfold kd; rw [← h]; rfl
    cases u <;> try (simp [kd,flat,hd,nOf] at hk; done)
    · have e:=congrArg kids h;rw [z3o,z3o] at e;injection e with e1 e;injection e with e2 _;rw [ia _ e1,ib _ e2]
  | stack a b ia ib=>
    intro u h;have hk:kd u=13:=by unfold kd; rw [← h]; rfl
    cases u <;> try (simp [kd,flat,hd,nOf] at hk; done)
    · have e:=congrArg kids h;rw [z3n,z3n] at e;injection e with e1 e;injection e with e2 _;rw [ia _ e1,ib _ e2]
noncomputable def st (l:List Nd):List Nd:=if h:of l=0 then [] else flat (S (z9z h).choose)
theorem st_no {l:List Nd} (h:of l=0):st l=[]:=dif_pos h
theorem y4s {t:Tm} (h:Goes t):st (flat t)=flat (S t):=by
  have h0:=h.of;unfold st;rw [dif_neg h0];rw [z4a _ _ (z9z h0).choose_spec.1]
theorem st_len (l:List Nd):(st l).length≤l.length:=by
  by_cases h:of l=0
  · rw [st_no h]; exact Nat.zero_le _
  · obtain ⟨t,rfl,hg⟩:=z9z h;rw [y4s hg,flat_len,flat_len];exact S_sz t
theorem st_some {l:List Nd} (h:st l≠[]):∃ t,flat t=l∧Goes t∧st l=flat (S t):=by
  by_cases h0:of l=0
  · exact absurd (st_no h0) h
  · obtain ⟨t,rfl,hg⟩:=z9z h0;exact ⟨t,rfl,hg,y4s hg⟩
theorem z8r (v:Value) (l:List Nd) (w:World) (hv:Nds w v l) (hl:l.length≤1000) (hm:Nms l):Calls Tryz.prog 37 #[v] w (OutL (st l) w):=by
  by_cases h:of l=0
  · rw [st_no h]; exact x2m v l w hv hl hm h
  · obtain ⟨t,rfl,hg⟩:=z9z h;rw [y4s hg]; exact x2n v t w hv hm hg
theorem z3h {t:Tm} (h:rg t=true):Nms (flat t):=by
  intro x hx;have hr:rgt x=true:=(List.all_eq_true.1 h) x hx;obtain ⟨k,n,s⟩:=x
  show n.size≤_
  by_cases h1:k=1
  · subst h1;rw [y2s] at hr;simp only [Bool.and_eq_true,decide_eq_true_eq] at hr;omega
  · by_cases h2:k=11∨k=14
    · rw [z3u n s h2] at hr;simp only [Bool.and_eq_true,decide_eq_true_eq] at hr;omega
    · have h0:¬ ar k<0:=fun h0=>by unfold rgt at hr; rw [if_pos h0] at hr; cases hr
      rw [z9c n s h0 h1 h2] at hr;simp only [Bool.and_eq_true,decide_eq_true_eq] at hr;omega
theorem y4z (v:Value) (l:List Nd) (w:World) (hv:Nds w v l) (hl:l.length≤1000) (hm:Nms l) :
    Calls Tryz.prog 13 #[v] w fun e w'=>e=.returned (.bool (decide (0<l.length)&&sameN (st l) l))∧Below w.heap.size w w':=by
  by_cases h0:0<l.length
  · rw [decide_eq_true h0,Bool.true_and];exact y2m v l (st l) w hv hl (by have:=st_len l; omega) h0 (z8r v l w hv hl hm)
  · have:l=[]:=List.eq_nil_of_length_eq_zero (by omega);subst this;obtain ⟨_,a,c,rfl,-⟩:=hv;refine (y2n a c w).mono ?_;rintro e w' ⟨rfl,rfl⟩;exact ⟨rfl,Below.refl _ _⟩

end Se
namespace Do
open Go Rw So Se
def pth:Tm→Nat→Nat→List Tm × Bool
  | .par a b,i,p=>if i=p then ([],false) else if p<i+1+sz a then (if (pth a (i+1) p).2 then pth a (i+1) p else ((pth a (i+1) p).1++[b],false)) else (if (pth b (i+1+sz a) p).2 then pth b (i+1+sz a) p else ((pth b (i+1+sz a) p).1++[a],false))
  | .block a,i,p=>if i=p then ([],false) else ((pth a (i+1) p).1,true)
  | .seq a b,i,p=>if i=p then ([],false) else if p<i+1+sz a then pth a (i+1) p else pth b (i+1+sz a) p
  | .alt a b,i,p=>if i=p then ([],false) else if p<i+1+sz a then pth a (i+1) p else pth b (i+1+sz a) p
  | .hand a b,i,p=>if i=p then ([],false) else if p<i+1+sz a then pth a (i+1) p else pth b (i+1+sz a) p
  | .pair a b,i,p=>if i=p then ([],false) else if p<i+1+sz a then pth a (i+1) p else pth b (i+1+sz a) p
  | .going a b,i,p=>if i=p then ([],false) else if p<i+1+sz a then pth a (i+1) p else pth b (i+1+sz a) p
  | .stack a b,i,p=>if i=p then ([],false) else if p<i+1+sz a then pth a (i+1) p else pth b (i+1+sz a) p
  | .fin _ c,i,p=>if i=p then ([],false) else pth c (i+1) p
  | _,_,_=>([],false)
end Do
namespace Mn
open Go Go.RowKit Tr
theorem x5d (ok:Nat→Prop) (bx:Nat) (a pv:Value) (t p:Tr) (w:World) (hb:BoxT w bx pv p.e) (hp:StrsO ok w pv p.a) (hs:StrsO ok w a t.a) :
    Calls Tryz.prog 166 #[.agg #[a,.int .i64 t.e],.pointer (some ⟨bx,0,none⟩)] w (OutP ok [⟨p,t⟩] w):=by
  have HP:=Lib.hid hp;have HS:=Lib.hid hs;have hlt:=Ap.z0a hb.1;obtain ⟨c0,c1⟩:=hb;obtain ⟨_,a1,k1,rfl,_⟩:=hp;obtain ⟨_,a2,k2,rfl,_⟩:=hs;unfold OutP
  go_enter Tryz.func166,Tryz.ntmps166
  go_wp2_with fail;go_ret;refine ⟨_,_,rfl,x6s (by simp [go_sem]) (by simp [go_sem]) (by simp [go_sem]) (by simp [go_sem]) (.inr (by omega)) (z0e (z0x HP.out fun _ _ h=>.inl h) (bel2 _ _ _)) (z0e (z0x HS.out fun _ _ h=>.inl h) (bel2 _ _ _)),bel2 _ _ _⟩
theorem z5z (ok:Nat→Prop) (pv y:Value) (p:Tr) (l:List Tr) (w:World) (hp:StrsO ok w pv p.a) (hl:TsO ok w y l) (hlen:l.length≤1000000000000) :
    Calls Tryz.prog 111 #[.agg #[pv,.int .i64 p.e],y] w (OutP ok (l.map (Pr.mk p)) w):=by
  have eg:∀ args w,(callFunc 166 args).run Tryz.prog w=.ok (.enter 166 args) w:=enters_of Tryz.func166 (by kernel_rfl) rfl;have hmap:=z5f (Pr.mk p) l
  have C:=Lib.hid (fun ty=>v0k 166 #[.pointer (some ⟨w.heap.size,0,none⟩)] eg ok y l (fun t=>[⟨p,t⟩]) (w.alloc (.cells #[pv,.int .i64 p.e] ty)) (hl.below (bel1 _ _))
    (fun wr hb t ht a ha=>x5d _ w.heap.size a pv t p wr (BoxT.below (y9c _ _ _ _) hb) (z0e (z0e (z0x hp fun b hlt h=>⟨h,by simp; omega⟩) (bel1 _ _)) hb) ha) hlen (by rw [← hmap,List.length_map]; exact hlen))
  rw [← hmap] at C;generalize l.map (Pr.mk p)=L at C ⊢;obtain ⟨_,a1,k1,rfl,_⟩:=hp;obtain ⟨_,⟨_,a2,k2,rfl,_⟩,_⟩:=hl;clear hmap
  go_enter Tryz.func111,Tryz.ntmps111
  go_wp2_with fail;refine (C.out _).mono ?_;intro e w2 ho;have HO:=Lib.hid (ho.up (bel1 w _) fun b h=>.inl h);obtain ⟨a4,k4,rfl,_,_⟩:=ho;go_wp2_with fail;go_ret;exact HO.out
theorem y1r (ok:Nat→Prop) (bx:Nat) (a y:Value) (t:Tr) (l:List Tr) (w:World) (hb:w.cell? ⟨bx,0,none⟩=some y) (hs:StrsO ok w a t.a) (hl:TsO ok w y l) (hlen:l.length≤1000000000000) :
    Calls Tryz.prog 163 #[.agg #[a,.int .i64 t.e],.pointer (some ⟨bx,0,none⟩)] w (OutP ok (going1 l t) w):=by
  have HB:=Lib.hid (fun o=>bel1 w o);have hlt:=Ap.z0a hb
  by_cases h1:t.e=1
  · have hL:going1 l t=l.map (Pr.mk t):=if_pos h1;rw [hL];have C:=Lib.hid (fun w1 (hb:Below w.heap.size w w1)=>z5z ok a y t l w1 (z0e hs hb) (hl.below hb) hlen);rw [h1] at C ⊢;generalize l.map (Pr.mk t)=L at C ⊢;obtain ⟨_,a1,k1,rfl,_⟩:=hs;obtain ⟨_,⟨_,a2,k2,rfl,_⟩,_⟩:=hl;clear hL h1
    go_enter Tryz.func163,Tryz.ntmps163
    go_wp2_with fail;refine (C.out _ (HB.out _)).mono ?_;intro e w2 ho;have HO:=Lib.hid (ho.up (HB.out _) fun b h=>.inl h);obtain ⟨a4,k4,rfl,_,_⟩:=ho;go_wp2_with fail;go_ret;exact HO.out
  · have hL:going1 l t=[tick].map (Pr.mk t):=if_neg h1;have hne:(t.e != 1)=true:=by simp [h1]
    rw [hL];have C:=Lib.hid (fun y' w1 ok' (hp:StrsO ok' w1 a t.a) (hl:TsO ok' w1 y' [tick])=>z5z ok' a y' t [tick] w1 hp hl (by simp));have HS:=Lib.hid hs;have ON:Hid (∀ w1,Calls Tryz.prog 69 #[.agg #[.slice none 0 0,.int .i64 1]] w1 (OutT none' [tick] w1)):=Lib.hid fun w1=>z2u none' _ tick w1 (z4n _ _)
    generalize [tick].map (Pr.mk t)=L at C ⊢;obtain ⟨_,a1,k1,rfl,_⟩:=hs;obtain ⟨_,⟨_,a2,k2,rfl,_⟩,_⟩:=hl;clear hL
    go_enter Tryz.func163,Tryz.ntmps163
    go_wp2_with fail
    go_region_held3 (fun w'=>w'.cell? ⟨w.heap.size,0,none⟩=some (.slice a1 t.a.length k1)∧w'.cell? ⟨w.heap.size,1,none⟩=some (.int .i64 t.e)) (first | exact ⟨by simp [go_sem],by simp [go_sem]⟩ | exact kz | exact ky | exact kx | fail) (first
      | (go_at_call 70
         (with_reducible refine (z2b _ _).mono ?_)
         rintro e w1 ⟨rfl,hb1⟩;have kz:BoxT w1 w.heap.size (.slice a1 t.a.length k1) t.e:=BoxT.below ⟨by simp [go_sem],by simp [go_sem]⟩ hb1;have B1:=Lib.hid (((HB.out _).drew).trans (hb1.mono (HB.out _).drew.size));clear hb1)
      | (go_at_call 69
         (with_reducible refine (ON.out _).mono ?_)
         rintro e w2 ⟨a4,k4,rfl,ht2,hb2⟩;have B2:=Lib.hid (B1.out.trans (hb2.mono B1.out.size));have T2:Hid (TsO (fun b=>ok b∨w.heap.size≤b) w2 (.slice a4 1 k4) [tick]):=Lib.hid (ht2.imp (ok':=fun b=>ok b∨w.heap.size≤b) fun b _ h=>h.elim (fun h=>h.elim) fun h=>.inr (Nat.le_trans B1.out.size h));have ky:=BoxT.below kz hb2;clear ht2 hb2)
      | (go_at_call 111
         (with_reducible refine (C.out _ _ _ (z0e (z0x HS.out fun _ _ h=>.inl h) B2.out) T2.out).mono ?_)
         intro e w3 ho;have HO:=Lib.hid (ho.up (ok:=ok) B2.out fun b h=>h);obtain ⟨a5,k5,rfl,_,hb5⟩:=ho;have kx:=BoxT.below ky hb5;clear hb5)
      | fail)
    go_wp2_with fail;go_ret;exact HO.out
theorem y5y (x y:Value) (A B:List Tr) (w:World) (hx:TsO any w x A) (hy:TsO any w y B) (hA:A.length≤1000000000000) (hB:B.length≤1000000000000) (hout:(going A B).length≤1000000000000) :
    Calls Tryz.prog 109 #[x,y] w (OutP any (going A B) w):=by
  have eg:∀ args w,(callFunc 163 args).run Tryz.prog w=.ok (.enter 163 args) w:=enters_of Tryz.func163 (by kernel_rfl) rfl
  have C:=Lib.hid (fun ty=>v0k 163 #[.pointer (some ⟨w.heap.size,0,none⟩)] eg any x A (going1 B) (w.alloc (.cells #[y] ty)) (hx.below (bel1 _ _))
    (fun wr hb t ht a ha=>by
      have hc:wr.cell? ⟨w.heap.size,0,none⟩=some y:=by rw [hb.cell (p:=⟨w.heap.size,0,none⟩) (by simp)]; exact z2v _ _ _
      have hY:=(((hy.imp (ok':=fun b=>any b∧b<(w.alloc (.cells #[y] ty)).heap.size) fun b hlt h=>⟨h,by simp; omega⟩).below (bel1 w (.cells #[y] ty))).below hb)
      exact y1r _ w.heap.size a y t B wr hc ha hY hB) hA hout)
  change Hid (∀ ty,Calls _ _ _ _ (OutP any (going A B) _)) at C;generalize going A B=L at C ⊢;obtain ⟨_,⟨_,a1,k1,rfl,_⟩,_⟩:=hx;obtain ⟨_,⟨_,a2,k2,rfl,_⟩,_⟩:=hy
  go_enter Tryz.func109,Tryz.ntmps109
  go_wp2_with fail;refine (C.out _).mono ?_;intro e w2 ho;have HO:=Lib.hid (ho.up (bel1 w _) fun b h=>.inl h);obtain ⟨a4,k4,rfl,_,_⟩:=ho;go_wp2_with fail;go_ret;exact HO.out
theorem y4r (T:TCon) (ok:Nat→Prop) (bx:Nat) (v1 v2 y:Value) (x:Pr) (l:List Tr) (w:World) (hb:w.cell? ⟨bx,0,none⟩=some y) (h1:StrsO ok w v1 x.p.a) (h2:StrsO ok w v2 x.q.a) (hl:TsO ok w y l) (hlen:l.length≤1000000000000) (hrow:∀ t∈l,x.q.a.length+t.a.length≤1000000) :
    Calls Tryz.prog 165 #[.agg #[v1,.int .i64 x.p.e,v2,.int .i64 x.q.e],.pointer (some ⟨bx,0,none⟩)] w (OutP ok (stack1 l x) w):=by
  have HB:=Lib.hid (fun o=>bel1 w o);have hlt:=Ap.z0a hb;have hL:stack1 l x=(l.map (thn x.q)).map (Pr.mk x.p):=by unfold stack1; rw [List.map_map]; rfl
  rw [hL];have TH:=Lib.hid (fun w1 (hb:Below w.heap.size w w1)=>z7t T ok v2 y x.q l w1 (z0e h2 hb) (hl.below hb) hlen hrow);have hml:=Lib.hid (show (l.map (thn x.q)).length=l.length by simp);generalize l.map (thn x.q)=M at TH hml ⊢;have C:=Lib.hid (fun y' w1 ok' (hp:StrsO ok' w1 v1 x.p.a) (hl:TsO ok' w1 y' M)=>z5z ok' v1 y' x.p M w1 hp hl (by have:=hml.out; omega));have H1:=Lib.hid h1;generalize M.map (Pr.mk x.p)=L at C ⊢;have bx0:Hid (∀ o:Obj,(w.alloc o).drew.cell? ⟨bx,0,none⟩=some y):=Lib.hid fun o=>by rw [((bel1 w o).drew).cell (p:=⟨bx,0,none⟩) hlt]; exact hb
  obtain ⟨_,a1,k1,rfl,_⟩:=h1;obtain ⟨_,a2,k2,rfl,_⟩:=h2;obtain ⟨_,⟨_,a3,k3,rfl,_⟩,_⟩:=hl;clear hL
  go_enter Tryz.func165,Tryz.ntmps165
  go_wp2_with fail
  go_region_held3 (fun w'=>w'.cell? ⟨w.heap.size,0,none⟩=some (.slice a1 x.p.a.length k1)∧w'.cell? ⟨w.heap.size,1,none⟩=some (.int .i64 x.p.e)∧w'.cell? ⟨w.heap.size,2,none⟩=some (.slice a2 x.q.a.length k2)∧w'.cell? ⟨w.heap.size,3,none⟩=some (.int .i64 x.q.e)∧w'.cell? ⟨bx,0,none⟩=some (.slice a3 l.length k3)) (first | exact ⟨by simp [go_sem],by simp [go_sem],by simp [go_sem],by simp [go_sem],bx0.out _⟩ | exact ⟨kz.1,kz.2.1,kz.2.2.1,kz.2.2.2,bx1⟩ | exact ⟨ky.1,ky.2.1,ky.2.2.1,ky.2.2.2,bx2⟩ | fail) (first
    | (go_at_call 113
       (with_reducible refine (TH.out _ (HB.out _).drew).mono ?_)
       rintro e w1 ⟨a4,k4,rfl,ht1,hb1⟩;have kz:BoxP w1 w.heap.size (.slice a1 x.p.a.length k1) x.p.e (.slice a2 x.q.a.length k2) x.q.e:=BoxP.below ⟨by simp [go_sem],by simp [go_sem],by simp [go_sem],by simp [go_sem]⟩ hb1;have B1:=Lib.hid (((HB.out _).drew).trans (hb1.mono (HB.out _).drew.size));have bx1:w1.cell? ⟨bx,0,none⟩=some (.slice a3 l.length k3):=by rw [B1.out.cell (p:=⟨bx,0,none⟩) hlt]; exact hb
       have T1:Hid (TsO (fun b=>ok b∨w.heap.size≤b) w1 (.slice a4 M.length k4) M):=Lib.hid (ht1.imp (ok':=fun b=>ok b∨w.heap.size≤b) fun b _ h=>h.imp id fun h=>Nat.le_trans (HB.out _).drew.size h);clear ht1 hb1)
    | (go_at_call 111
       (with_reducible refine (C.out _ _ _ (z0e (z0x H1.out fun _ _ h=>.inl h) B1.out) T1.out).mono ?_)
       intro e w3 ho;have HO:=Lib.hid (ho.up (ok:=ok) B1.out fun b h=>h);obtain ⟨a5,k5,rfl,_,hb5⟩:=ho;have ky:=BoxP.below kz hb5;have bx2:w3.cell? ⟨bx,0,none⟩=some (.slice a3 l.length k3):=by rw [hb5.cell (p:=⟨bx,0,none⟩) (Ap.z0a bx1)]; exact bx1
       clear hb5)
    | fail)
  go_wp2_with fail;go_ret;exact HO.out
theorem y7f (T:TCon) (x y:Value) (X:List Pr) (B:List Tr) (w:World) (hx:PsO any w x X) (hy:TsO any w y B) (hX:X.length≤1000000000000) (hC:B.length≤1000000000000) (hrow:∀ x∈X,∀ t∈B,x.q.a.length+t.a.length≤1000000) (hout:(stack X B).length≤1000000000000) :
    Calls Tryz.prog 110 #[x,y] w (OutP any (stack X B) w):=by
  have eg:∀ args w,(callFunc 165 args).run Tryz.prog w=.ok (.enter 165 args) w:=enters_of Tryz.func165 (by kernel_rfl) rfl
  have C:=Lib.hid (fun ty=>y6e 165 #[.pointer (some ⟨w.heap.size,0,none⟩)] eg any x X (stack1 B) (w.alloc (.cells #[y] ty)) (hx.below (bel1 _ _))
    (fun wr hb t ht a a' ha ha'=>by
      have hc:wr.cell? ⟨w.heap.size,0,none⟩=some y:=by rw [hb.cell (p:=⟨w.heap.size,0,none⟩) (by simp)]; exact z2v _ _ _
      have hY:=(((hy.imp (ok':=fun b=>any b∧b<(w.alloc (.cells #[y] ty)).heap.size) fun b hlt h=>⟨h,by simp; omega⟩).below (bel1 w (.cells #[y] ty))).below hb)
      exact y4r T _ w.heap.size a a' y t B wr hc ha ha' hY hC (hrow t ht)) hX hout)
  change Hid (∀ ty,Calls _ _ _ _ (OutP any (stack X B) _)) at C;generalize stack X B=L at C ⊢;obtain ⟨_,⟨_,a1,k1,rfl,_⟩,_⟩:=hx;obtain ⟨_,⟨_,a2,k2,rfl,_⟩,_⟩:=hy
  go_enter Tryz.func110,Tryz.ntmps110
  go_wp2_with fail;refine (C.out _).mono ?_;intro e w2 ho;have HO:=Lib.hid (ho.up (bel1 w _) fun b h=>.inl h);obtain ⟨a4,k4,rfl,_,_⟩:=ho;go_wp2_with fail;go_ret;exact HO.out


end Mn
namespace Se
open Go Go.RowKit Rw So
theorem z3a (w:World) (l:List Nd) (ty:TypeId):Nds (w.alloc (.cells (cls l).toArray ty)) (.slice (some ⟨w.heap.size,0,none⟩) l.length l.length) l:=by
  refine ⟨z2h l,some ⟨w.heap.size,0,none⟩,l.length,rfl,Nat.le_refl _,fun h=>(by cases h),fun _=>⟨w.heap.size,0,rfl,fun j u hu=>?_⟩⟩;rw [Nat.zero_add,World.cell?_alloc_new]
  simpa using hu
def OutN' (n:Nat) (l:List Nd) (w:World) (e:Ending) (w':World):Prop:=∃ a c,e=.returned (.slice a n c)∧Nds w' (.slice a n c) l∧Below w.heap.size w w'
end Se
end Go.Proofs.YtaapnkoooofalaaGreat
