/- Laws that the last text leans on. -/
import Derived.Test.YtpingbiibbmcaaaGreatDoorQ37
import Derived.Test.YtpingbiibbmcaaaGreatDoorQ18
import Derived.Sort.OwnSorted
import Derived.Lib.OwnBridge
import Derived.Lib.Join

set_option maxRecDepth 20000
set_option maxHeartbeats 2000000
namespace Go.Proofs.YtpingbiibbmcaaaGreatDoor.Tr
open Go Go.RowKit Go.Sort
set_option maxRecDepth 20000
structure El (w:World) (g:Nat) where
  v:Value
  t:Tr
  hs:StrsO (fun b=>b≠g) w v t.a
  hl:t.a.length≤1000000000000
instance (w:World) (g:Nat):Inhabited (El w g):=⟨⟨.slice none 0 0,⟨[],0⟩,⟨rfl,none,0,rfl,Nat.le_refl _,fun _=>⟨rfl,rfl⟩,fun h=>absurd h (Nat.lt_irrefl _)⟩,by simp⟩⟩
def El.pair {w:World} {g:Nat} (x:El w g):Value × Value:=(x.v,.int .i64 x.t.e)
def encT {w:World} {g:Nat} (x:El w g):List Value:=[x.v,.int .i64 x.t.e]
def cfT {w:World} {g:Nat} (x y:El w g):Int:=cmp x.t y.t
theorem y5h {w:World} {g:Nat} {v:Value} {l:List ByteArray} (h:StrsO (fun b=>b≠g) w v l) (m:Nat) (dk:Array (El w g)) (os:Array Obj):Strs (sortWorldK encT 2 w g 0 m dk os) v l:=by
  obtain ⟨hl,a,cap,hv,hc,hn,hcell⟩:=h;refine ⟨hl,a,cap,hv,hc,hn,fun h0=>?_⟩;obtain ⟨b,off,ha,hne,hlt,hj⟩:=hcell h0;refine ⟨b,off,ha,fun j u hu=>?_⟩;unfold sortWorldK;rw [cell?_grow _ _ _ (by rw [size_putRowK]; exact hlt),cell?_putRowK_other _ _ _ _ _ _ _ hne];exact hj j u hu
theorem swoT (w:World) (g:Nat):SWO (ltOf (cfT (w:=w) (g:=g))) where
  irrefl x:=by simp [ltOf,cfT,z3g]
  trans x y z h1 h2:=decide_eq_true (z2x (of_decide_eq_true h1) (of_decide_eq_true h2))
  ntrans x y z h1 h2:=by
    refine decide_eq_false fun h=>?_
    replace h:cmp x.t z.t<0:=h;replace h1:¬ cmp x.t y.t<0:=of_decide_eq_false h1;replace h2:¬ cmp y.t z.t<0:=of_decide_eq_false h2
    rcases Int.lt_trichotomy (cmp x.t y.t) 0 with h3 | h3 | h3
    · exact h1 h3
    · rw [z5r h3] at h;exact h2 h
    · have h4:cmp y.t x.t<0:=by have:=z5h x.t y.t; omega
      exact h2 (z2x h4 h)
theorem cmpLaysT (w:World) (g n:Nat):CmpLays Tryz.prog 62 #[] (encT (w:=w) (g:=g)) 2 cfT g 0 n w:=
  fun m os dk _ x y=>z2y x.v y.v x.t y.t _ (y5h x.hs m dk os) (y5h y.hs m dk os) x.hl y.hl
theorem encT_one {w:World} {g:Nat} (x:El w g):∀ v∈encT x,v.oneCell'=true:=by
  intro v hv;obtain ⟨_,a,c,hx,_⟩:=x.hs;simp only [encT,List.mem_cons,List.mem_nil_iff,or_false] at hv
  rcases hv with rfl | rfl
  · rw [hx]; rfl
  · rfl
theorem holdsT {w:World} {g cap:Nat} {e:TypeId} (d:Array (El w g)) (h:Own2 w g e cap (d.toList.map El.pair)):HoldsK encT 2 w g 0 d:=by
  intro j hj;rw [size_flatK] at hj;refine ⟨?_,?_⟩
  · rw [get_flatK encT 2 d j hj];have hj2:j / 2<d.size:=by omega
    have hl:j / 2<(d.toList.map El.pair).length:=by simpa using hj2
    have h0:=h.cell0 (j / 2) hl;have h1:=h.cell1 (j / 2) hl;have e:d[j / 2]! = d[j / 2]:=getElem!_pos d (j / 2) hj2;simp only [List.getElem_map,Array.getElem_toList] at h0 h1;rw [e,Nat.zero_add]
    rcases Nat.mod_two_eq_zero_or_one j with hm | hm
    · rw [show j / 2*2=j by omega] at h0;rw [hm,h0]
      rfl
    · rw [show j / 2*2+1=j by omega] at h1;rw [hm,h1]
      rfl
  · exact h.soft _
theorem ownT {w:World} {g cap n:Nat} {e:TypeId} {d d':Array (El w g)} {os:Array Obj} (h:Own2 w g e cap (d.toList.map El.pair)) (hs:d'.size=d.size):Own2 (sortWorldK encT 2 w g 0 n d' os) g e cap (d'.toList.map El.pair):=by
  have hlt:=h.lt;obtain ⟨cur,hg,hsz,hl,hc⟩:=h;have hl':d.size≤cap:=by simpa using hl
  refine ⟨putCells id 0 (flatK encT 2 d') cur,?_,by simpa [putCells] using hsz,by simpa [hs] using hl',fun j hj=>?_⟩
  · unfold sortWorldK
    show ((putRowK encT 2 (Sort.ahead w n) g 0 d').heap++os)[g]?=_
    rw [Array.getElem?_append_left (by rw [size_putRowK]; exact hlt)];simp [putRowK,putRow,mapBlock,Sort.ahead,Array.getElem?_modify,hg,onCells]
  · have hj':j<d'.size:=by simpa using hj
    have e:d'[j]! = d'[j]:=getElem!_pos d' j hj';simp only [List.getElem_map,Array.getElem_toList]
    constructor
    · rw [putCells,Array.getElem?_mapIdx,Array.getElem?_eq_getElem (by omega),Option.map_some,if_pos (by simp; omega)];rw [Nat.sub_zero,get_flatK encT 2 d' _ (by omega),show j*2 / 2=j by omega,show j*2 % 2=0 by omega,e]
      rfl
    · rw [putCells,Array.getElem?_mapIdx,Array.getElem?_eq_getElem (by omega),Option.map_some,if_pos (by simp; omega)];rw [Nat.sub_zero,get_flatK encT 2 d' _ (by omega),show (j*2+1) / 2=j by omega,show (j*2+1) % 2=1 by omega,e]
      rfl
theorem gbT {w:World} {g n:Nat} {d':Array (El w g)} {os:Array Obj}:w.grownBy (sortWorldK encT 2 w g 0 n d' os) (some g):=
  ⟨rfl,rfl,rfl,by
    show w.heap.size≤((putRowK encT 2 (Sort.ahead w n) g 0 d').heap++os).size
    rw [Array.size_append,size_putRowK];exact Nat.le_add_right _ _,fun k hk hr=>by
    show ((putRowK encT 2 (Sort.ahead w n) g 0 d').heap++os)[k]?=_
    rw [Array.getElem?_append_left (by rw [size_putRowK]; exact hk)];have hne:g≠k:=fun e=>hr (by rw [e])
    simp [putRowK,putRow,mapBlock,Sort.ahead,Array.getElem?_modify,hne]⟩
theorem x8c (g cap:Nat) (w:World) (d:Array (El w g)) (h:Own2 w g 33 cap (d.toList.map El.pair)) (hlen:d.size≤1000000000000) :
    Calls Tryz.prog 141 #[.slice (some ⟨g,0,none⟩) d.size cap,.func (.func 62) #[] #[]] w fun e w'=>
      e=.returned (.tuple #[])∧∃ d':Array (El w g),d'.toList.Perm d.toList∧(d'.toList.Pairwise fun x y=>¬ cmp y.t x.t<0)∧Own2 w' g 33 cap (d'.toList.map El.pair)∧w.grownBy w' (some g):=by
  have eg:∀ args w,(callFunc 62 args).run Tryz.prog w=.ok (.enter 62 args) w:=enters_of Tryz.func62 (by kernel_rfl) rfl;have hcon:=AnyQ.slices_SortFunc Tryz.laysSoT 2 Tryz.isAgg33 Tryz.sizeOf33 encT (fun _=>rfl) encT_one cfT (swoT w g) 62 #[] g 0 cap d w eg (cmpLaysT w g d.size) (holdsT d h) h.lt (by omega);change Calls Tryz.prog 141 _ _ _ at hcon;refine hcon.mono fun e w' ⟨he,d',n,os,hp,hs,hw⟩=>⟨he,d',?_,?_,?_,?_⟩
  · obtain ⟨hsz,_,hperm⟩:=hp;have e1:d'.extract 0 d.size=d':=by rw [← hsz]; exact Array.extract_size
    rw [e1,Array.extract_size] at hperm;exact hperm
  · rw [List.pairwise_iff_getElem];intro i j hi hj hij;have hi':i<d'.size:=by simpa using hi
    have hj':j<d'.size:=by simpa using hj
    have:=hs i j (Nat.zero_le _) hij (by rw [← hp.1]; exact hj');rw [getElem!_pos d' i hi',getElem!_pos d' j hj'] at this
    show ¬ cmp d'[j].t d'[i].t<0
    exact of_decide_eq_false this
  · rw [hw]; exact ownT h hp.1
  · rw [hw]; exact gbT
end Go.Proofs.YtpingbiibbmcaaaGreatDoor.Tr
namespace Go.Proofs.YtpingbiibbmcaaaGreatDoor.Tr
open Go Go.RowKit
set_option maxRecDepth 20000
theorem Strs.inj {w:World} {v:Value} {l m:List ByteArray} (h1:Strs w v l) (h2:Strs w v m):l=m:=by
  obtain ⟨_,a,cap,rfl,_,_,hc⟩:=h1;obtain ⟨_,a',cap',hv,_,_,hc'⟩:=h2;injection hv with hv1 hlm hv3;subst hv1
  by_cases h0:0<l.length
  · obtain ⟨b,off,ha,hj⟩:=hc h0;obtain ⟨b',off',ha',hj'⟩:=hc' (by omega);rw [ha] at ha'
    cases ha'
    refine List.ext_getElem (by omega) fun k hk hk'=>?_
    have e1:=hj k (.string l[k]) (by simp [hk]);have e2:=hj' k (.string m[k]) (by simp [hk']);rw [e1] at e2;injection e2 with e3;injection e3
  · have e1:l=[]:=List.eq_nil_of_length_eq_zero (by omega);have e2:m=[]:=List.eq_nil_of_length_eq_zero (by omega);rw [e1,e2]
theorem El.t_of {w:World} {g:Nat} {x y:El w g} (h:x.pair=y.pair):x.t=y.t:=by
  have h1:x.v=y.v:=congrArg Prod.fst h;have h2:(Value.int .i64 x.t.e)=.int .i64 y.t.e:=congrArg Prod.snd h;have h3:x.t.e=y.t.e:=by injection h2
  have h4:x.t.a=y.t.a:=Strs.inj (Ap.RdO.rd x.hs) (by rw [h1]; exact Ap.RdO.rd y.hs)
  have ext:∀ p q:Tr,p.a=q.a→p.e=q.e→p=q:=fun ⟨a,e⟩ ⟨a',e'⟩ h1 h2=>by
    simp only at h1 h2;rw [h1,h2]
  exact ext _ _ h4 h3
theorem els_of {w w1:World} {g:Nat} (hb:Below w.heap.size w w1) (hg:w.heap.size≤g):∀ {cs:List Value} {l:List Tr},TrCells w cs l→(∀ t∈l,t.a.length≤1000000000000)→∃ els:List (El w1 g),els.map (·.t)=l∧flv (els.map El.pair)=cs
  | [],[],_,_=>⟨[],rfl,rfl⟩
  | a::e::cs,t::l,h,hl=>by
    obtain ⟨els,h1,h2⟩:=els_of hb hg h.2.2 fun u hu=>hl u (by simp [hu])
    refine ⟨⟨a,t,Ap.RdO.below (Ap.RdO.imp (Ap.RdO.of (by omega) h.1) fun b hlt _=>by omega) hb,hl t (by simp)⟩::els,by simp [h1],?_⟩;simp [flv,h2,El.pair,h.2.1]
  | [],_::_,h,_=>h.elim
  | [_],[],h,_=>h.elim
  | [_],_::_,h,_=>h.elim
  | _::_::_,[],h,_=>h.elim
theorem eq_pairs (w:World) (g:Nat):∃ q:Value × Value→Value × Value→Bool,∀ x y:El w g,q x.pair y.pair=(cmp x.t y.t==0):=by
  refine ⟨fun a b=>@decide (∃ x y:El w g,x.pair=a∧y.pair=b∧cmp x.t y.t=0) (Classical.propDecidable _),fun x y=>?_⟩;rw [Bool.eq_iff_iff];simp only [decide_eq_true_eq,beq_iff_eq]
  constructor
  · rintro ⟨x',y',h1,h2,h3⟩;rw [← El.t_of h1,← El.t_of h2];exact h3
  · intro h;exact ⟨x,y,rfl,rfl,h⟩
theorem x3i {α β:Type} (f:α→β) (q:β→β→Bool) (q':α→α→Bool) (h:∀ x y,q (f x) (f y)=q' x y):∀ (p:α) (l:List α),cptF q (f p) (l.map f)=(cptF q' p l).map f
  | p,[]=>rfl
  | p,x::l=>by
    simp only [List.map_cons,cptF,h,x3i f q q' h x l]
    split <;> rfl
theorem v3m {α β:Type} (f:α→β) (q:β→β→Bool) (q':α→α→Bool) (h:∀ x y,q (f x) (f y)=q' x y):∀ l:List α,cpt q (l.map f)=(cpt q' l).map f
  | []=>rfl
  | x::l=>by simp only [List.map_cons,cpt,x3i f q q' h x l]
theorem v3n:∀ (p:Tr) (l:List Tr),(p::l).Pairwise (fun x y=>¬ cmp y x<0)→Up (p::cptF (fun x y=>cmp x y==0) p l)∧∀ t,(t∈p::cptF (fun x y=>cmp x y==0) p l↔t∈p::l)
  | p,[],_=>⟨List.pairwise_singleton _ _,fun t=>Iff.rfl⟩
  | p,x::l,h=>by
    obtain ⟨h1,h2⟩:=List.pairwise_cons.1 h;obtain ⟨u1,u2⟩:=v3n x l h2;have hxp:=h1 x (by simp);rw [cptF]
    by_cases hc:cmp x p=0
    · have e:=z5r hc;subst e;rw [if_pos (by simpa using hc)];refine ⟨u1,fun t=>?_⟩;rw [u2 t];simp
    · rw [if_neg (by simpa using hc)];have hpx:cmp p x<0:=by have:=z5h p x; omega
      refine ⟨?_,fun t=>?_⟩
      · refine List.pairwise_cons.2 ⟨fun y hy=>?_,u1⟩;obtain ⟨v1,_⟩:=List.pairwise_cons.1 u1
        rcases List.mem_cons.1 hy with rfl | hy
        · exact hpx
        · exact z2x hpx (v1 y hy)
      · rw [List.mem_cons,u2 t,← List.mem_cons]
theorem cpt_norm (l:List Tr) (h:l.Pairwise fun x y=>¬ cmp y x<0):cpt (fun x y=>cmp x y==0) l=norm l:=by
  cases l with
  | nil=>rfl
  | cons p l=>
    obtain ⟨u1,u2⟩:=v3n p l h;exact y9e u1 u2
def PT (w:World) (g:Nat) (ys:List (Value × Value)) (ts:List Tr):Prop:=
  ys.length=ts.length∧∀ j (h:j<ts.length) (h':j<ys.length),StrsO (fun b=>b≠g) w ys[j].1 ts[j].a∧ys[j].2=.int .i64 ts[j].e
theorem PT.gb {w w':World} {g:Nat} {ys:List (Value × Value)} {ts:List Tr} (h:PT w g ys ts) (hg:w.grownBy w' (some g)):PT w' g ys ts:=
  ⟨h.1,fun j h1 h2=>⟨by
    obtain ⟨hl,a,cap,hv,hc,hn,hcell⟩:=(h.2 j h1 h2).1;refine ⟨hl,a,cap,hv,hc,hn,fun h0=>?_⟩;obtain ⟨b,off,ha,hne,hlt,hj⟩:=hcell h0;refine ⟨b,off,ha,hne,Nat.lt_of_lt_of_le hlt hg.size,fun i u hu=>?_⟩;rw [World.cell?_of_block (w:=w) (a:=⟨b,off+i,none⟩) (hg.block b hlt fun e=>hne (by cases e; rfl))];exact hj i u hu,(h.2 j h1 h2).2⟩⟩
theorem PT.els {w:World} {g:Nat} (els:List (El w g)):PT w g (els.map El.pair) (els.map (·.t)):=
  ⟨by simp,fun j h1 h2=>by
    simp only [List.getElem_map];exact ⟨(els[j]'(by simpa using h1)).hs,rfl⟩⟩
theorem PT.set {w:World} {g:Nat} {ys:List (Value × Value)} {ts:List Tr} (h:PT w g ys ts) (k:Nat) (hk:k<ts.length) (hk':k<ys.length) (v:Value) (hv:StrsO (fun b=>b≠g) w v ts[k].a):PT w g (ys.set k (v,ys[k].2)) ts:=by
  refine ⟨by simpa using h.1,fun j h1 h2=>?_⟩
  by_cases hjk:k=j
  · subst hjk;simp only [List.getElem_set_self];exact ⟨hv,(h.2 k hk hk').2⟩
  · rw [List.getElem_set_ne hjk];exact h.2 j h1 (by simpa using h2)
theorem x5l {w:World} {base g:Nat} {v:Value} {l:List ByteArray} (h:w.ownsRow base 9 1 v l.length (l.map .string)) (hg:g<base):StrsO (fun b=>b≠g) w v l:=
  Ap.RdO.imp (Ap.RdO.fresh h) fun b _ hb=>by omega
theorem z4v (l:List ByteArray):∀ u∈l.map Value.string,u.oneCell'=true:=fun u hu=>by
  obtain ⟨b,_,rfl⟩:=List.mem_map.1 hu
  rfl
theorem x7q {w:World}:∀ {cs:List Value} {ts:List Tr},TrCells w cs ts→∀ u∈cs,u.oneCell'=true
  | [],[],_,u,hu=>by cases hu
  | a::e::cs,t::l,h,u,hu=>by
    rcases List.mem_cons.1 hu with rfl | hu
    · obtain ⟨_,_,_,rfl,_⟩:=h.1
      rfl
    · rcases List.mem_cons.1 hu with rfl | hu
      · rw [h.2.1]; rfl
      · exact x7q h.2.2 u hu
  | [],_::_,h,_,_=>h.elim
  | [_],[],h,_,_=>h.elim
  | [_],_::_,h,_,_=>h.elim
  | _::_::_,[],h,_,_=>h.elim
theorem y7i (c:Nat) (w:World):Calls Tryz.prog 142 #[.slice none 0 c,.func (.func 143) #[] #[]] w fun e w'=>e=.returned (.slice none 0 c)∧w'=w:=by
  go_enter Tryz.func142,Tryz.ntmps142
  go_wp2_with fail;go_ret;exact ⟨rfl,rfl⟩
theorem x8b (c:Nat) (fv:Value) (w:World):Calls Tryz.prog 141 #[.slice none 0 c,fv] w fun e w'=>e=.returned (.tuple #[])∧w'=w:=by
  have hcon:=AnyF.slices_SortFunc_none Tryz.laysSoT none c fv w;change Calls Tryz.prog 141 _ _ _ at hcon;exact hcon
theorem y7j {w:World} {g cap:Nat} (d:Array (El w g)) (w1:World) (hs:d.toList.Pairwise fun x y=>¬ cmp y.t x.t<0) (ho:Own2 w1 g 33 cap (d.toList.map El.pair)) (hg:w.grownBy w1 (some g)) (hlen:d.size≤1000000000000) :
    Calls Tryz.prog 142 #[.slice (some ⟨g,0,none⟩) d.size cap,.func (.func 143) #[] #[]] w1 fun e w'=>
      ∃ ys,e=.returned (.slice (some ⟨g,0,none⟩) (norm (d.toList.map (·.t))).length cap)∧Own2 w' g 33 cap ys∧PT w' g ys (norm (d.toList.map (·.t)))∧w1.grownBy w' (some g):=by
  obtain ⟨q,hq⟩:=eq_pairs w g
  have hcon:=compactT g cap q (d.toList.map El.pair) w1 ho (by simpa using hlen)
    (fun x hx=>by
      obtain ⟨el,_,rfl⟩:=List.mem_map.1 hx;obtain ⟨_,a,c,hv,_⟩:=el.hs;exact ⟨a,_,c,_,by rw [El.pair,hv]⟩)
    (fun W hW x hx y hy=>by
      obtain ⟨ex,_,rfl⟩:=List.mem_map.1 hx;obtain ⟨ey,_,rfl⟩:=List.mem_map.1 hy;have k:=(PT.els [ex,ey]).gb (z0o hg hW);have k0:=k.2 0 (by simp) (by simp);have k1:=k.2 1 (by simp) (by simp);have hc:=set1_any ex.v ey.v ex.t ey.t W (Ap.RdO.rd k0.1) (Ap.RdO.rd k1.1) ex.hl ey.hl;unfold EqPost at hc;rw [← hq] at hc;exact hc)
  have e1:cpt q (d.toList.map El.pair)=(cpt (fun x y:El w g=>cmp x.t y.t==0) d.toList).map El.pair:=v3m El.pair q _ hq _
  have e2:(cpt (fun x y:El w g=>cmp x.t y.t==0) d.toList).map (·.t)=norm (d.toList.map (·.t)):=by
    rw [← cpt_norm (d.toList.map (·.t)) (by rw [List.pairwise_map]; exact hs)];exact (v3m (fun x:El w g=>x.t) (fun x y=>cmp x y==0) _ (fun _ _=>rfl) _).symm
  rw [List.length_map,Array.length_toList] at hcon;refine hcon.mono fun e w' ⟨he,ho',hg'⟩=>⟨_,?_,ho',?_,hg'⟩
  · rw [he,e1,← e2,List.length_map,List.length_map]
  · rw [e1,← e2];exact (PT.els _).gb (z0o hg hg')
def PF (n0:Nat) (w:World) (g k:Nat) (ys:List (Value × Value)) (ts:List Tr):Prop:=∀ j,j<k→∀ (h1:j<ts.length) (h2:j<ys.length),StrsO (fun b=>n0≤b∧b≠g) w ys[j].1 ts[j].a
theorem PF.gb {n0:Nat} {w w':World} {g k:Nat} {ys:List (Value × Value)} {ts:List Tr} (h:PF n0 w g k ys ts) (hg:w.grownBy w' (some g)):PF n0 w' g k ys ts:=fun j hj h1 h2=>by
  obtain ⟨hl,a,cap,hv,hc,hn,hcell⟩:=h j hj h1 h2;refine ⟨hl,a,cap,hv,hc,hn,fun h0=>?_⟩;obtain ⟨b,off,ha,hne,hlt,hj⟩:=hcell h0;refine ⟨b,off,ha,hne,Nat.lt_of_lt_of_le hlt hg.size,fun i u hu=>?_⟩;rw [World.cell?_of_block (w:=w) (a:=⟨b,off+i,none⟩) (hg.block b hlt fun e=>hne.2 (by cases e; rfl))];exact hj i u hu
theorem PF.set {n0:Nat} {w:World} {g k:Nat} {ys:List (Value × Value)} {ts:List Tr} (h:PF n0 w g k ys ts) (hk:k<ts.length) (hk':k<ys.length) (v:Value) (hv:StrsO (fun b=>n0≤b∧b≠g) w v ts[k].a):PF n0 w g (k+1) (ys.set k (v,ys[k].2)) ts:=fun j hj h1 h2=>by
  by_cases hjk:k=j
  · subst hjk;simp only [List.getElem_set_self];exact hv
  · rw [List.getElem_set_ne hjk];exact h j (by omega) h1 (by simpa using h2)
def TrCO (ok:Nat→Prop) (w:World):List Value→List Tr→Prop
  | [],[]=>True
  | a::e::cs,t::ts=>StrsO ok w a t.a∧e=.int .i64 t.e∧TrCO ok w cs ts
  | _,_=>False
theorem PF.cells {n0:Nat} {w:World} {g:Nat}:∀ {ys:List (Value × Value)} {ts:List Tr},PT w g ys ts→PF n0 w g ts.length ys ts→TrCO (fun b=>n0≤b) w (flv ys) ts
  | [],[],_,_=>trivial
  | [],t::ts,h,_=>by simpa using h.1
  | y::ys,[],h,_=>by simpa using h.1
  | y::ys,t::ts,h,k=>by
    have h0:=h.2 0 (by simp) (by simp);refine ⟨Ap.RdO.imp (k 0 (by simp) (by simp) (by simp)) fun _ _ h=>h.1,h0.2,PF.cells (g:=g) ⟨by have:=h.1; simpa using this,fun j h1 h2=>?_⟩ fun j hj h1 h2=>?_⟩
    · have:=h.2 (j+1) (by simpa using h1) (by simpa using h2)
      simpa using this
    · have:=k (j+1) (by simpa using hj) (by simpa using h1) (by simpa using h2)
      simpa using this
def SetOwn (l:List Tr) (w:World) (e:Ending) (w':World):Prop:=∃ v cs,e=.returned v∧Ap.RdO (fun b=>w.heap.size≤b) w' 2 v l.length cs∧TrCO (fun b=>w.heap.size≤b) w' cs l∧Below w.heap.size w w'
theorem setF_any (x:Value) (l:List Tr) (w:World) (hx:Trs w x l) (hlen:l.length≤1000000000000) (hl:∀ t∈l,t.a.length≤1000000000000):Calls Tryz.prog 84 #[x] w (SetOwn (norm l) w):=by
  obtain ⟨cs,hrd,htc⟩:=hx;have HC:=Lib.hid (x6r x l.length cs w hrd (x7q htc) hlen);have HT:=Lib.hid htc;have HL:=Lib.hid hl;have HLN:=Lib.hid (fun t ht=>hl t ((z0s t l).1 ht));have hnl:=z2w l;obtain ⟨hcl,a,c,rfl,_,_,_⟩:=hrd;unfold SetOwn;clear htc hl;obtain ⟨nl,hnn⟩:∃ nl,norm l=nl:=⟨_,rfl⟩
  rw [hnn] at hnl HLN ⊢;have HNN:=Lib.hid hnn;clear hnn
  go_enter Tryz.func84,Tryz.ntmps84
  go_wp2_with fail;refine HC.out.mono ?_;rintro e w1 ⟨v1,rfl,hown,hb1⟩;obtain ⟨_,⟨rfl,h0⟩ | ⟨g,cap,cur,rfl,hrest⟩⟩:=id hown
  · obtain rfl:l=[]:=List.eq_nil_of_length_eq_zero h0;have HB:=Lib.hid hb1;clear hb1 hown
    go_wp2_with (first
      | (go_at_call 141; refine (x8b _ _ _).mono ?_; rintro e w' ⟨rfl,rfl⟩)
      | (go_at_call 142; refine (y7i _ _).mono ?_; rintro e w' ⟨rfl,rfl⟩))
    refine Go.wp_loop_rounds 1 ?_;rw [rounds_succ];go_wp2_with fail;go_ret;refine ⟨_,[],rfl,?_,?_,HB.out⟩
    · rw [← HNN.out];exact ⟨rfl,none,0,rfl,Nat.le_refl _,fun _=>⟨rfl,rfl⟩,fun h=>absurd h (Nat.lt_irrefl _)⟩
    · rw [← HNN.out]
      trivial
  · clear hrest;obtain ⟨ys,hf,hyl,ho,hbg,hcm⟩:=Own2.of hown;obtain ⟨els,he1,he2⟩:=els_of hb1 hbg HT.out HL.out
    have hys:ys=els.map El.pair:=by
      have hlen2:els.length=ys.length:=by rw [hyl,← he1,List.length_map]
      refine List.ext_getElem (by simpa using hlen2.symm) fun k hk hk'=>?_
      have f1:=y6r ys k hk;have f2:=y6r (els.map El.pair) k hk';rw [hf,← he2] at f1;rw [f2.1,f2.2] at f1;exact Prod.ext (by injection f1.1.symm) (by injection f1.2.symm)
    have hel:els.toArray.size=l.length:=by rw [← he1]; simp
    have S1:=Lib.hid (x8c g cap w1 els.toArray (by rw [← hys]; exact ho) (by omega));rw [hel] at S1;have HB:=Lib.hid hb1;have HBG:=Lib.hid hbg;have HE:=Lib.hid he1;have HW:=Lib.hid hb1.size;clear hys ho hown hf hyl he2 hb1 he1 hbg ys;go_wp2_with fail;refine S1.out.mono ?_;rintro e w2 ⟨rfl,d,hp,hs,ho2,hg2⟩;have hdl:d.size=l.length:=by rw [← hel]; have:=hp.length_eq; simpa using this
    have S2:=Lib.hid (y7j d w2 (hs.imp fun {x y} h=>by omega) ho2 hg2 (by omega))
    have e3:norm (d.toList.map (·.t))=nl:=by
      rw [← HNN.out];refine x5n fun t=>?_
      rw [← HE.out];exact (hp.map (·.t)).mem_iff
    rw [hdl,e3] at S2;have HG2:=Lib.hid hg2;clear hp hs ho2 hg2 e3 hdl S1;go_wp2_with fail;refine S2.out.mono ?_;rintro e w3 ⟨ys,rfl,ho3,hpt3,hg3⟩;have HO3:=Lib.hid ho3;have HP3:=Lib.hid hpt3;have HG3:=Lib.hid (z0o HG2.out hg3);clear ho3 hpt3 hg3 S2;go_wp2_with fail
    go_loopw [13] (fun kv wr=>∃ (k:Nat) (zs:List (Value × Value)),k≤nl.length∧kv=.int .i64 (k:Int)∧Own2 wr g 33 cap zs∧PT wr g zs nl∧w1.grownBy wr (some g)∧Hid (PF w.heap.size wr g k zs nl)) (fun kv _=>nl.length-(intOf kv).toNat)
    case atStart=>exact ⟨0,ys,Nat.zero_le _,rfl,HO3.out,HP3.out,HG3.out,Lib.hid fun j hj=>absurd hj (Nat.not_lt_zero _)⟩
    case round=>
      obtain ⟨k,zs,hk,rfl,ho,hpt,hg,HF⟩:=hrel;have HO:=Lib.hid ho;have HP:=Lib.hid hpt;have HG:=Lib.hid hg;have hzl:=hpt.1;clear ho hpt hg
      by_cases hlt:k<nl.length
      · have hkz:k<zs.length:=by omega
        have k0:=HP.out.2 k hlt hkz;have c0:=HO.out.cell0 k hkz;have CL:=Lib.hid (z7i zs[k].1 nl[k].a.length (nl[k].a.map .string) wr (Ap.RdO.rd k0.1) (z4v _) (HLN.out _ (List.getElem_mem hlt)));obtain ⟨_,a',c',hv',_⟩:=k0.1;rw [hv'] at c0 CL;clear hv' k0;go_wp2_with fail;refine CL.out.mono ?_;rintro e w4 ⟨v4,rfl,hown4,hb4⟩;have hgl:=HO.out.lt;have O4:=HO.out.below hb4;have f0:=O4.soft (k*2);have t0:w4.cell? ⟨g,k*2,none⟩=some (.slice a' nl[k].a.length c'):=by rw [hb4.cell (p:=⟨g,k*2,none⟩) hgl]; exact c0
        have PV:=Lib.hid (x5l hown4 hgl);have PW:=Lib.hid (show StrsO (fun b=>w.heap.size≤b∧b≠g) w4 v4 nl[k].a from Ap.RdO.imp (Ap.RdO.fresh hown4) fun b _ hb=>⟨by have:=HG.out.size; have:=HW.out; omega,by omega⟩);have HF4:=Lib.hid (HF.out.gb (z3f hb4));have HO4:=Lib.hid O4;have HP4:=Lib.hid (HP.out.gb (z3f hb4));have HG4:=Lib.hid (z0o HG.out (z3f hb4));obtain ⟨_,a4,c4,rfl,_⟩:=Ap.Rd.owned hown4;clear hown4 hb4 O4 c0 CL;go_wp2_with fail
        go_roundw
        case rel=>
          refine ⟨k+1,_,by omega,by go_num,HO4.out.store0 k hkz _,PT.gb (HP4.out.set k hlt hkz _ PV.out) (z1h _ _ _ _),z0o HG4.out (z1h _ _ _ _),Lib.hid (PF.gb (HF4.out.set hlt hkz _ PW.out) (z1h _ _ _ _))⟩
        case measure=>simp [intOf]; omega
      · go_wp2_with fail;go_ret;refine ⟨_,flv zs,rfl,?_,?_,?_⟩
        · have hzn:zs.length=nl.length:=by omega
          have:=HO.out.owns HBG.out hcm;rw [hzn] at this;exact Ap.RdO.fresh this
        · exact PF.cells HP.out fun j hj=>HF.out j (by omega)
        · exact below_gb HB.out HG.out HBG.out HW.out
end Go.Proofs.YtpingbiibbmcaaaGreatDoor.Tr
namespace Go.Proofs.YtpingbiibbmcaaaGreatDoor
namespace Tr
open Go Go.RowKit
theorem v3s (w:World) (a b:Value) (t:TypeId):(w.alloc (.cells #[a,b] t)).cell? ⟨w.heap.size,0,none⟩=some a:=by simp
theorem v3r (w:World) (a b:Value) (t:TypeId):(w.alloc (.cells #[a,b] t)).cell? ⟨w.heap.size,1,none⟩=some b:=by simp
theorem v0y {w:World} {base:Nat} {v:Value} {l:List ByteArray} (h:w.ownsRow base 9 1 v l.length (l.map .string)):Mine base w v l:=by
  refine ⟨Ap.RdO.fresh h,fun b off cap hv j hj=>?_⟩;obtain ⟨_,⟨rfl,h0⟩ | ⟨g,cap',cur,rfl,_,hg,_⟩⟩:=h
  · cases hv
  · cases hv
    simp [World.frozen?,hg]
theorem v0z {w w':World} {base g:Nat} {v:Value} {l:List ByteArray} (h:Mine base w v l) (hg:w.grownBy w' (some g)) (hgb:g<base):Mine base w' v l:=by
  obtain ⟨⟨hl,a,cap,hv,hc,hn,hcell⟩,hf⟩:=h;refine ⟨⟨hl,a,cap,hv,hc,hn,fun h0=>?_⟩,fun b off cap' hv' j hj=>?_⟩
  · obtain ⟨b,off,ha,hne,hlt,hj⟩:=hcell h0;refine ⟨b,off,ha,hne,Nat.lt_of_lt_of_le hlt hg.size,fun i u hu=>?_⟩;rw [World.cell?_of_block (w:=w) (a:=⟨b,off+i,none⟩) (hg.block b hlt fun e=>by cases e; omega)];exact hj i u hu
  · have h1:=hf b off cap' hv' j hj;rw [hv] at hv';injection hv' with hv1 hv2 hv3;obtain ⟨b',off',ha,hne,hlt,_⟩:=hcell (by omega);rw [hv1] at ha
    cases ha
    rw [World.frozen?_of_block (w:=w) (a:=⟨b,off+j,none⟩) (hg.block b hlt fun e=>by cases e; omega)];exact h1
theorem z6b {w:World} {base base':Nat} {v:Value} {l:List ByteArray} (h:Mine base w v l) (hb:base'≤base):Mine base' w v l:=⟨Ap.RdO.imp h.1 fun _ _ hb'=>Nat.le_trans hb hb',h.2⟩
theorem thn_if {p q:Tr} (h:p.e=1):thn p q=⟨p.a++q.a,q.e⟩:=by rw [thn,if_pos h]
theorem thn_not {p q:Tr} (h:¬ p.e=1):thn p q=p:=by rw [thn,if_neg h]
theorem y4t (w:World) (x y z:Obj):Below w.heap.size w (((w.alloc x).alloc y).alloc z):=(((Below.refl _ _).alloc (Nat.le_refl _) x).alloc (by simp) y).alloc (by simp; omega) z
theorem belowx4 (w:World) (x y z u:Obj):Below w.heap.size w ((((w.alloc x).alloc y).alloc z).alloc u):=(y4t w x y z).alloc (by simp; omega) u
def Bx3 (w w4:World) (a b c d:Value):Prop:=
  w4.cell? ⟨w.heap.size,0,none⟩=some a∧w4.cell? ⟨w.heap.size,1,none⟩=some b∧w4.cell? ⟨w.heap.size+1,0,none⟩=some c∧w4.cell? ⟨w.heap.size+1,1,none⟩=some d∧w4.cell? ⟨w.heap.size+1+1,0,none⟩=some (.slice none 0 0)∧w4.cell? ⟨w.heap.size+1+1,1,none⟩=some (.int .i64 0)∧w4.frozen? ⟨w.heap.size+1+1,0,none⟩=false∧w4.frozen? ⟨w.heap.size+1+1,1,none⟩=false
theorem y7m (w:World) (a b c d:Value) (t:TypeId):Bx3 w ((((w.alloc (.cells #[a,b] t)).alloc (.cells #[c,d] t)).alloc (.cells #[.slice none 0 0,.int .i64 0] t))) a b c d:=by
  refine ⟨?_,?_,?_,?_,?_,?_,?_,?_⟩ <;> simp [go_sem]
theorem Bx3.below {w w3 w4:World} {a b c d:Value} {B:Nat} (h:Bx3 w w3 a b c d) (hb:Below B w3 w4) (hB:w.heap.size+3≤B):Bx3 w w4 a b c d:=by
  obtain ⟨h1,h2,h3,h4,h5,h6,h7,h8⟩:=h;refine ⟨?_,?_,?_,?_,?_,?_,?_,?_⟩
  · rw [hb.cell (p:=⟨w.heap.size,0,none⟩) (by show w.heap.size<B; omega)]; exact h1
  · rw [hb.cell (p:=⟨w.heap.size,1,none⟩) (by show w.heap.size<B; omega)]; exact h2
  · rw [hb.cell (p:=⟨w.heap.size+1,0,none⟩) (by show w.heap.size+1<B; omega)]; exact h3
  · rw [hb.cell (p:=⟨w.heap.size+1,1,none⟩) (by show w.heap.size+1<B; omega)]; exact h4
  · rw [hb.cell (p:=⟨w.heap.size+1+1,0,none⟩) (by show w.heap.size+1+1<B; omega)]; exact h5
  · rw [hb.cell (p:=⟨w.heap.size+1+1,1,none⟩) (by show w.heap.size+1+1<B; omega)]; exact h6
  · rw [hb.frozen (p:=⟨w.heap.size+1+1,0,none⟩) (by show w.heap.size+1+1<B; omega)]; exact h7
  · rw [hb.frozen (p:=⟨w.heap.size+1+1,1,none⟩) (by show w.heap.size+1+1<B; omega)]; exact h8
theorem z4m {w4:World} {g b o o1 o2:Nat} {x y u:Value} (h:w4.cell? ⟨b,o,none⟩=some u) (hne:g≠b):((w4.setCell ⟨g,o1,none⟩ x).setCell ⟨g,o2,none⟩ y).cell? ⟨b,o,none⟩=some u:=by
  rw [World.cell?_of_block (w:=w4) (a:=⟨b,o,none⟩) (by rw [heap_setCell,if_neg hne,heap_setCell,if_neg hne])];exact h
theorem then_not (a1 a2:Option Addr) (c1 c2:Nat) (p q:Tr) (w:World) (h1:Strs w (.slice a1 p.a.length c1) p.a) (hp:¬ p.e=1) (hlen:p.a.length≤1000000000000) :
    Calls Tryz.prog 83 #[.agg #[.slice a1 p.a.length c1,.int .i64 p.e],.agg #[.slice a2 q.a.length c2,.int .i64 q.e]] w (ThnPost p w):=by
  have H1:=Lib.hid h1;have B3:=Lib.hid (y4t w);have CL:=Lib.hid (fun x y z=>z7i (.slice a1 p.a.length c1) p.a.length (p.a.map .string) (((w.alloc x).alloc y).alloc z).drew (H1.out.below ((B3.out x y z).drew)) (z4v _) hlen);have K0:=y7m w (.slice a1 p.a.length c1) (.int .i64 p.e) (.slice a2 q.a.length c2) (.int .i64 q.e) 33;have K0':=Lib.hid K0;obtain ⟨k1,k2,-⟩:=K0;unfold ThnPost;clear h1
  go_enter Tryz.func83,Tryz.ntmps83
  go_wp2_with fail
  go_region_held3 (fun w'=>w'.cell? ⟨w.heap.size,0,none⟩=some (.slice a1 p.a.length c1)∧w'.cell? ⟨w.heap.size,1,none⟩=some (.int .i64 p.e)) (first | (simp [go_sem]; done) | exact ⟨j1,j2⟩ | exact ⟨z4m j1 (by omega),z4m j2 (by omega)⟩ | fail) (first
    | (go_at_call 45
       refine (CL.out _ _ _).mono ?_;rintro e w4 ⟨v4,rfl,hown4,hb4⟩;have K4:=K0'.out.below ((Below.refl _ _).drew.trans hb4) (by simp);obtain ⟨j1,j2,_,_,j5,j6,j7,j8⟩:=K4;have O4:=Lib.hid hown4;have B4:=Lib.hid hb4;obtain ⟨_,a4,c4,rfl,_⟩:=Ap.Rd.owned hown4;clear hown4 hb4)
    | fail)
  go_wp2_with fail;refine bodyPost_ret (v:=.agg #[.slice a4 p.a.length c4,.int .i64 p.e]) (by simp [results,Tryz.results83,go_sem,j5,j6]) rfl ⟨_,rfl,?_,?_⟩
  · refine z6b (base:=w.heap.size+3) ?_ (by omega);exact v0z (z6b (v0y O4.out) (by simp)) (z0o (z1h _ _ _ _) (z1h _ _ _ _)) (by omega)
  · exact (((B3.out _ _ _).drew.trans (B4.out.mono (by simp; omega))).setCell (by show w.heap.size≤w.heap.size+1+1; omega) _).setCell (by show w.heap.size≤w.heap.size+1+1; omega) _
theorem then_yes (a1 a2:Option Addr) (c1 c2:Nat) (p q:Tr) (w:World) (h1:Strs w (.slice a1 p.a.length c1) p.a) (h2:Strs w (.slice a2 q.a.length c2) q.a) (hlen:p.a.length+q.a.length≤1000000000000) :
    Calls Tryz.prog 83 #[.agg #[.slice a1 p.a.length c1,.int .i64 1],.agg #[.slice a2 q.a.length c2,.int .i64 q.e]] w (ThnPost ⟨p.a++q.a,q.e⟩ w):=by
  have H1:=Lib.hid h1;have H2:=Lib.hid h2;have B3:=Lib.hid (y4t w);have B4:=Lib.hid (belowx4 w);have CL:=Lib.hid (fun x y z u e0 e1=>y0q (w.heap.size+1+1+1) (.slice a1 p.a.length c1) (.slice a2 q.a.length c2) p.a.length q.a.length (p.a.map .string) (q.a.map .string) ((((w.alloc x).alloc y).alloc z).alloc u).drew e0 e1 (H1.out.below ((B4.out x y z u).drew)) (H2.out.below ((B4.out x y z u).drew)) (z4v _) (z4v _) hlen);have K0:=y7m w (.slice a1 p.a.length c1) (.int .i64 1) (.slice a2 q.a.length c2) (.int .i64 q.e) 33;have K0':=Lib.hid K0;unfold ThnPost;clear h1 h2 K0
  go_enter Tryz.func83,Tryz.ntmps83
  go_wp2_with fail
  go_region_held3 (fun w'=>w'.cell? ⟨w.heap.size,0,none⟩=some (.slice a1 p.a.length c1)∧w'.cell? ⟨w.heap.size+1,0,none⟩=some (.slice a2 q.a.length c2)∧w'.cell? ⟨w.heap.size+1,1,none⟩=some (.int .i64 q.e)) (first | (simp [go_sem]; done) | exact ⟨j1,j3,j4⟩ | exact ⟨z4m j1 (by omega),z4m j3 (by omega),z4m j4 (by omega)⟩ | fail) (first
    | (go_at_call 71
       refine (CL.out _ _ _ _ (by simp [go_sem]) (by simp [go_sem])).mono ?_;rintro e w4 ⟨v4,rfl,hown4,hb4⟩;have K4:=K0'.out.below ((((Below.refl _ _).alloc (Nat.le_refl _) _).drew).trans (hb4.mono (by simp))) (by simp);obtain ⟨j1,_,j3,j4,j5,j6,j7,j8⟩:=K4;have O4:=Lib.hid hown4;have HB4:=Lib.hid hb4;obtain ⟨_,a4,c4,rfl,_⟩:=Ap.Rd.owned hown4;clear hown4 hb4)
    | fail)
  go_wp2_with fail;refine bodyPost_ret (v:=.agg #[.slice a4 (p.a.length+q.a.length) c4,.int .i64 q.e]) (by simp [results,Tryz.results83,go_sem,j5,j6]) rfl ⟨_,rfl,?_,?_⟩
  · refine z6b (base:=w.heap.size+3) ?_ (by omega);have O5:=O4.out;rw [← List.length_append,← List.map_append] at O5;have:=v0z (z6b (base':=w.heap.size+3) (v0y O5) (by simp)) (z0o (z1h _ (w.heap.size+1+1) 0 (.slice a4 (p.a++q.a).length c4)) (z1h _ (w.heap.size+1+1) 1 (.int .i64 q.e))) (by omega);rw [List.length_append] at this;exact this
  · exact (((B4.out _ _ _ _).drew.trans (HB4.out.mono (by simp; omega))).setCell (by show w.heap.size≤w.heap.size+1+1; omega) _).setCell (by show w.heap.size≤w.heap.size+1+1; omega) _
theorem x7x (v1 v2:Value) (p q:Tr) (w:World) (h1:Strs w v1 p.a) (h2:Strs w v2 q.a) (hlen:p.a.length+q.a.length≤1000000000000) :
    Calls Tryz.prog 83 #[.agg #[v1,.int .i64 p.e],.agg #[v2,.int .i64 q.e]] w (ThnPost (thn p q) w):=by
  have h1':=h1;have h2':=h2;obtain ⟨_,a1,c1,rfl,-⟩:=h1';obtain ⟨_,a2,c2,rfl,-⟩:=h2'
  by_cases hp:p.e=1
  · rw [thn_if hp,hp];exact then_yes a1 a2 c1 c2 p q w h1 h2 hlen
  · rw [thn_not hp];exact then_not a1 a2 c1 c2 p q w h1 hp (by omega)
def RsC (ok:Nat→Prop) (w:World):List Value→List Rst→Prop
  | [],[]=>True
  | a::b::cs,q::qs=>StrsO ok w a q.1∧StrsO ok w b q.2∧RsC ok w cs qs
  | _,_=>False
def Rss (ok:Nat→Prop) (w:World) (v:Value) (left:List Rst):Prop:=∃ cs,Ap.RdO ok w 2 v left.length cs∧RsC ok w cs left
theorem x2q (l:List ByteArray) (x:ByteArray):Lib.join ((l++[x]).map (·.data.toList)) [32]=txs l++x.data.toList:=by
  induction l with
  | nil=>simp [Lib.join_one,txs]
  | cons y l ih=>
    obtain ⟨z,r,hz⟩:∃ z r,(l++[x]).map (·.data.toList)=z::r:=by
      cases l with
      | nil=>exact ⟨_,_,rfl⟩
      | cons a l=>exact ⟨_,_,rfl⟩
    rw [List.cons_append,List.map_cons,txs,List.append_assoc,List.cons_append,← ih,hz];simp [Lib.join,List.intercalate]
theorem join_of {w:World} {base n:Nat} {v:Value} {xs:List ByteArray} {jt:List UInt8} (sep:ByteArray) (hn:xs.length=n) (hjt:Lib.join (xs.map (·.data.toList)) sep.data.toList=jt) (h:w.ownsRow base 9 1 v n (xs.map .string)) (h0:0<n) (hN:n≤1000000000000) (hlen:jt.length≤140737488355328) :
    ∃ a c,v=.slice a n c∧Calls Tryz.prog 70 #[.slice a n c,.string sep] w fun e w'=>e=.returned (.string ⟨jt.toArray⟩)∧Below w.heap.size w w':=by
  subst hn;subst hjt;have hr:=Ap.Rd.owned h;obtain ⟨_,a,c,rfl,hc,_,hcell⟩:=hr;obtain ⟨b,off,rfl,hj⟩:=hcell h0;have hbl:b<w.heap.size:=Ap.z0a (hj 0 (.string xs[0]) (by simp [h0]));refine ⟨_,c,rfl,?_⟩;have hcon:=Any.strings_Join Tryz.lays156 Tryz.Builder_Extra_156 b off c xs sep w (fun j x hx=>hj j _ (by simp [hx])) hbl (by omega) hc hlen;change Calls Tryz.prog 70 _ _ _ at hcon;exact hcon
theorem x7y (v:Value) (t:Tr) (w:World) (hT:Sg.Tab w) (hv:Strs w v t.a) (hlen:t.a.length≤100000) (hsum:(txs t.a).length≤1000000000) :
    Calls Tryz.prog 38 #[.agg #[v,.int .i64 t.e]] w fun e w'=>e=.returned (.string (txt t))∧Below w.heap.size w w':=by
  have HV:=Lib.hid hv;have HT:=Lib.hid hT;obtain ⟨_,a,c,rfl,-⟩:=hv;have htx:txt t=⟨(Lib.join ((t.a++[Sg.txt t.e]).map (·.data.toList)) [32]).toArray⟩:=by rw [txt,x2q]
  have hlt:(Lib.join ((t.a++[Sg.txt t.e]).map (·.data.toList)) [32]).length≤140737488355328:=by
    rw [x2q,List.length_append];have:=x4i t.e;have e2:(Sg.txt t.e).data.toList.length=(Sg.txt t.e).size:=by simp
    omega
  rw [htx];have HLT:=Lib.hid hlt;have TX:=Lib.hid (Sg.text_any t.e);obtain ⟨tx,hx⟩:∃ tx,Sg.txt t.e=tx:=⟨_,rfl⟩
  rw [hx] at HLT TX ⊢;obtain ⟨jt,hjt⟩:∃ jt,Lib.join ((t.a++[tx]).map (·.data.toList)) [32]=jt:=⟨_,rfl⟩
  rw [hjt] at HLT ⊢;have HJT:=Lib.hid hjt;clear hx htx hlt hT hjt;have B1:Hid (∀ x,Below w.heap.size w (w.alloc x).drew):=Lib.hid fun x=>((Below.refl _ _).alloc (Nat.le_refl _) x).drew
  have B3:Hid (∀ x y z,Below w.heap.size w (((w.alloc x).alloc y).alloc z).drew):=Lib.hid fun x y z=>(y4t w x y z).drew
  have CC:Hid (∀ x z ty,(((w.alloc x).alloc (.cells #[.string tx] ty)).alloc z).drew.cell? ⟨w.heap.size+1+1,0,none⟩=some (.slice a t.a.length c)→(((w.alloc x).alloc (.cells #[.string tx] ty)).alloc z).drew.cell? ⟨w.heap.size+1+1,1,none⟩=some (.slice (some ⟨w.heap.size+1,0,none⟩) 1 1)→_):=Lib.hid fun x z ty e0 e1=>
    y0q (w.heap.size+1+1) (.slice a t.a.length c) (.slice (some ⟨w.heap.size+1,0,none⟩) 1 1) t.a.length 1 (t.a.map .string) [.string tx] (((w.alloc x).alloc (.cells #[.string tx] ty)).alloc z).drew e0 e1 (HV.out.below (B3.out _ _ _))
      ⟨rfl,_,1,rfl,Nat.le_refl _,fun h=>(by cases h),fun _=>⟨w.heap.size+1,0,rfl,fun j u hu=>by
        match j,hu with
        | 0,hu=>
          simp at hu;subst hu;simp [go_sem]
        | j+1,hu=>simp at hu⟩⟩ (z4v _) (fun u hu=>by simp at hu; subst hu; rfl) (by omega)
  go_enter Tryz.func38,Tryz.ntmps38
  go_wp2_with fail;have TAB:Hid (∀ w',Below w.heap.size w w'→Sg.Tab w'):=Lib.hid fun w' hb=>Tab.below HT.out hb
  go_region_held3 (fun w'=>w'.cell? ⟨w.heap.size,0,none⟩=some (.slice a t.a.length c)∧w'.cell? ⟨w.heap.size,1,none⟩=some (.int .i64 t.e)) (first | (simp [go_sem]; done) | exact ⟨j1,j2⟩ | exact ⟨l1,l2⟩ | fail) (first
    | (go_at_call 72
       refine (TX.out _ (TAB.out _ (B1.out _))).mono ?_;rintro e w' ⟨rfl,rfl⟩)
    | (go_at_call 71
       refine (CC.out _ _ _ (by simp [go_sem]) (by simp [go_sem])).mono ?_;rintro e w4 ⟨v4,rfl,hown4,hb4⟩;have hB4:=(B3.out _ _ _).trans (hb4.mono (B3.out _ _ _).size);have j1:w4.cell? ⟨w.heap.size,0,none⟩=some (.slice a t.a.length c):=by rw [hb4.cell (p:=⟨w.heap.size,0,none⟩) (by simp; omega)]; simp [go_sem]
       have j2:w4.cell? ⟨w.heap.size,1,none⟩=some (.int .i64 t.e):=by rw [hb4.cell (p:=⟨w.heap.size,1,none⟩) (by simp; omega)]; simp [go_sem]
       have hown5:w4.ownsRow w.heap.size 9 1 v4 (t.a.length+1) ((t.a++[tx]).map .string):=by
         rw [List.map_append];exact Ap.z3e hown4 (B3.out _ _ _).size
       obtain ⟨a4,c4,rfl,hjn⟩:=join_of ⟨#[32]⟩ (by simp) HJT.out hown5 (by omega) (by omega) HLT.out;have JN:=Lib.hid hjn;have B4:=Lib.hid hB4;have hl4:w.heap.size<w4.heap.size:=Ap.z0a j1;clear hjn hown5 hown4 hb4 hB4)
    | (go_at_call 70
       refine JN.out.mono ?_;rintro e w5 ⟨rfl,hb5⟩;have l1:w5.cell? ⟨w.heap.size,0,none⟩=some (.slice a t.a.length c):=by rw [hb5.cell (p:=⟨w.heap.size,0,none⟩) hl4]; exact j1
       have l2:w5.cell? ⟨w.heap.size,1,none⟩=some (.int .i64 t.e):=by rw [hb5.cell (p:=⟨w.heap.size,1,none⟩) hl4]; exact j2
       have B5:=Lib.hid (B4.out.trans (hb5.mono B4.out.size));clear hb5)
    | fail)
  go_wp2_with fail;go_ret;exact ⟨rfl,B5.out⟩
end Tr
end Go.Proofs.YtpingbiibbmcaaaGreatDoor
