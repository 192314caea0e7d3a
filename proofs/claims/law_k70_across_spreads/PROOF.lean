import PyProof.Rows.All
import Wide.All
import OpenK.AllK
import Wide.FinOn
import HandS.ForMost
import HandS.SortInts
import HandS.IsInst
import HandS.Strs
import HandS.SetFor
import HandS.Flow
import HandS.Style
import HandS.TupAny
import HandS.TupLe
import HandS.Lambda
import HandS.ExcInit
import HandS.WordsExc
import HandS.FStr
import HandS.RaiseMore
import HandS.TryOnly
import KE.GoesMore
import KE.GoesEnum
import KE.DataMinMax
import HandS.Zip
import HandS.Deep
import HandS.SortKw
import PyProof.P3In
import HandS.Gcd
import HandS.TupMul
import PyProof.ListIndex
import PyProof.ListIndexNeg
import KE.KTupSum
import PyProof.ZipIter
import HandS.ExcIs
import HandS.ExcField
import HandS.EndOwn
import PySem.Challenge.RW_pinchworks_k70_across_spreads
set_option Elab.async false
set_option autoImplicit false
set_option linter.all false
set_option maxRecDepth 100000
/-! DW1: data held in the heap, seen without the heap -/
namespace DW
open PySem PySem.Spec L2
open PyProof.Rows hiding St

abbrev D := PyData
/-- the script as a datum: a list that stands locked -/
abbrev frl (ds : List D) : D := .dict [(.list ds, .none)]
abbrev Exn := Str × List D
/-- what stands fast while the law runs: the code objects' tables, the classes' places, the fields of exceptions -/
class Cfg where
  T : List (Addr × Str)
  cls : Str → Addr
  fld : Str → List Str

def keyD : Key → D
  | .inl i => .int i
  | .inr x => .str x
/-- the marker of a dict whose keys are tuples -/
abbrev tdict (kvs : List (D × D)) : D := .dict ((.none, .none) :: kvs)
mutual
inductive Rp (K : PySem.W.Frag) (H : Hp) : V → D → Prop
  | non : Rp K H .non .none
  | bl (b : Bool) : Rp K H (.bl b) (.bool b)
  | int (i : Int) : Rp K H (.int i) (.int i)
  | str (x : Str) : Rp K H (.str x) (.str x)
  | lst {a : Addr} {xs : List V} {ds : List D} : H a = some (.lst xs) → RpAll K H xs ds → Rp K H (.ref a) (.list ds)
  | tup {a : Addr} {xs : List V} {ds : List D} : H a = some (.tup xs) → RpAll K H xs ds → Rp K H (.ref a) (.tuple ds)
  | frl {a : Addr} {xs : List V} {ds : List D} : SqL K H a xs → RpAll K H xs ds → Rp K H (.ref a) (frl ds)
  | dk {a : Addr} {kvs : List (Key × V)} {ds : List (D × D)} : H a = some (.dK kvs) → RpKs K H kvs ds → Rp K H (.ref a) (.dict ds)
  | dt {a : Addr} {kvs : List (List Key × V)} {ds : List (D × D)} : H a = some (.dT kvs) → RpTs K H kvs ds → Rp K H (.ref a) (tdict ds)
inductive RpAll (K : PySem.W.Frag) (H : Hp) : List V → List D → Prop
  | nil : RpAll K H [] []
  | cons {v : V} {vs : List V} {d : D} {ds : List D} : Rp K H v d → RpAll K H vs ds → RpAll K H (v :: vs) (d :: ds)
inductive RpKs (K : PySem.W.Frag) (H : Hp) : List (Key × V) → List (D × D) → Prop
  | nil : RpKs K H [] []
  | cons {k : Key} {v : V} {vs : List (Key × V)} {d : D} {ds : List (D × D)} : Rp K H v d → RpKs K H vs ds → RpKs K H ((k, v) :: vs) ((keyD k, d) :: ds)
inductive RpTs (K : PySem.W.Frag) (H : Hp) : List (List Key × V) → List (D × D) → Prop
  | nil : RpTs K H [] []
  | cons {k : List Key} {v : V} {vs : List (List Key × V)} {d : D} {ds : List (D × D)} : Rp K H v d → RpTs K H vs ds → RpTs K H ((k, v) :: vs) ((.tuple (k.map keyD), d) :: ds)
end

section
variable {K : PySem.W.Frag} {H H' : Hp}
mutual
theorem Rp.mono (e : Same H H') : ∀ (d : D) (v : V), Rp K H v d → Rp K H' v d
  | _, _, .non => .non
  | _, _, .bl b => .bl b
  | _, _, .int i => .int i
  | _, _, .str x => .str x
  | _, _, .lst h1 h2 => .lst (e _ _ h1) (RpAll.mono e _ _ h2)
  | _, _, .tup h1 h2 => .tup (e _ _ h1) (RpAll.mono e _ _ h2)
  | _, _, .frl h1 h2 => .frl (e.seq h1) (RpAll.mono e _ _ h2)
  | _, _, .dk h1 h2 => .dk (e _ _ h1) (RpKs.mono e _ _ h2)
  | _, _, .dt h1 h2 => .dt (e _ _ h1) (RpTs.mono e _ _ h2)
theorem RpAll.mono (e : Same H H') : ∀ (ds : List D) (vs : List V), RpAll K H vs ds → RpAll K H' vs ds
  | _, _, .nil => .nil
  | _, _, .cons h1 h2 => .cons (Rp.mono e _ _ h1) (RpAll.mono e _ _ h2)
theorem RpKs.mono (e : Same H H') : ∀ (ds : List (D × D)) (vs : List (Key × V)), RpKs K H vs ds → RpKs K H' vs ds
  | _, _, .nil => .nil
  | _, _, .cons h1 h2 => .cons (Rp.mono e _ _ h1) (RpKs.mono e _ _ h2)
theorem RpTs.mono (e : Same H H') : ∀ (ds : List (D × D)) (vs : List (List Key × V)), RpTs K H vs ds → RpTs K H' vs ds
  | _, _, .nil => .nil
  | _, _, .cons h1 h2 => .cons (Rp.mono e _ _ h1) (RpTs.mono e _ _ h2)
end
theorem RpAll.length : ∀ {vs : List V} {ds : List D}, RpAll K H vs ds → vs.length = ds.length
  | _, _, .nil => rfl
  | _, _, .cons _ t => congrArg (· + 1) (RpAll.length t)
theorem RpAll.get : ∀ {vs : List V} {ds : List D} {i : Nat} {d : D}, RpAll K H vs ds → ds[i]? = some d → ∃ v, vs[i]? = some v ∧ Rp K H v d
  | _, _, _, _, .nil, e => by simp at e
  | _, _, 0, _, .cons r _, e => by
    simp at e
    subst e
    exact ⟨_, rfl, r⟩
  | _, _, i + 1, d, .cons _ t, e => RpAll.get (i := i) t (by simpa using e)
theorem RpAll.getV : ∀ {vs : List V} {ds : List D} {i : Nat} {v : V}, RpAll K H vs ds → vs[i]? = some v → ∃ d, ds[i]? = some d ∧ Rp K H v d
  | _, _, _, _, .nil, e => by simp at e
  | _, _, 0, _, .cons r _, e => by
    simp at e
    subst e
    exact ⟨_, rfl, r⟩
  | _, _, i + 1, d, .cons _ t, e => RpAll.getV (i := i) t (by simpa using e)
theorem RpAll.append : ∀ {vs ws : List V} {ds es : List D}, RpAll K H vs ds → RpAll K H ws es → RpAll K H (vs ++ ws) (ds ++ es)
  | _, _, _, _, .nil, s => s
  | _, _, _, _, .cons r t, s => .cons r (RpAll.append t s)
theorem RpAll.take : ∀ {vs : List V} {ds : List D} (n : Nat), RpAll K H vs ds → RpAll K H (vs.take n) (ds.take n)
  | _, _, 0, _ => .nil
  | _, _, _ + 1, .nil => .nil
  | _, _, n + 1, .cons r t => .cons r (RpAll.take n t)
theorem RpAll.drop : ∀ {vs : List V} {ds : List D} (n : Nat), RpAll K H vs ds → RpAll K H (vs.drop n) (ds.drop n)
  | _, _, 0, r => r
  | _, _, _ + 1, .nil => .nil
  | _, _, n + 1, .cons _ t => RpAll.drop n t
theorem RpAll.set {v : V} {d : D} (r : Rp K H v d) : ∀ {vs : List V} {ds : List D} (i : Nat), RpAll K H vs ds → RpAll K H (vs.set i v) (ds.set i d)
  | _, _, _, .nil => .nil
  | _, _, 0, .cons _ t => .cons r t
  | _, _, i + 1, .cons q t => .cons q (RpAll.set r i t)
theorem RpAll.reverse : ∀ {vs : List V} {ds : List D}, RpAll K H vs ds → RpAll K H vs.reverse ds.reverse
  | _, _, .nil => .nil
  | _, _, .cons r t => by
    rw [List.reverse_cons, List.reverse_cons]
    exact (RpAll.reverse t).append (.cons r .nil)
theorem RpAll.ints : ∀ {ns : List Int} {vs : List V}, RpAll K H vs (ns.map PyData.int) → vs = ns.map V.int
  | [], _, h => by cases h; rfl
  | n :: ns, _, h => by
    cases h with
    | cons h1 h2 =>
      cases h1
      rw [RpAll.ints h2]
      rfl
theorem RpAll.of_ints : ∀ {ns : List Int}, RpAll K H (ns.map V.int) (ns.map PyData.int)
  | [] => .nil
  | n :: ns => .cons (.int n) RpAll.of_ints
theorem RpAll.bools : ∀ {ns : List Bool} {vs : List V}, RpAll K H vs (ns.map PyData.bool) → vs = ns.map V.bl
  | [], _, h => by cases h; rfl
  | n :: ns, _, h => by
    cases h with
    | cons h1 h2 =>
      cases h1
      rw [RpAll.bools h2]
      rfl

/-! ### slots -/
/-- a place in a part of an owned net: a datum, or another part -/
inductive Cell | d (d : D) | p (n : Nat)
inductive Part
  | lst (cs : List Cell)
  | dct (kvs : List (Key × Cell))
  | obj (C : Str) (j : Nat) (fs : List (Str × Cell))
  | own (j : Nat)
inductive MO | lst (ds : List D) | dct (t : Bool) (kvs : List (D × D)) | net (ps : List Part)
inductive Sl | un | pd (d : D) | ow (t : Option Nat) (o : MO)
abbrev Ev := List Sl

def CRep (K : PySem.W.Frag) (Hs : Hp) (as : List Addr) (v : V) : Cell → Prop
  | .d d => Rp K Hs v d
  | .p n => ∃ a, as[n]? = some a ∧ v = .ref a
theorem CRep.mono {K : PySem.W.Frag} {Hs Hs' : Hp} {as : List Addr} {v : V} (e : Same Hs Hs') : ∀ {c : Cell}, CRep K Hs as v c → CRep K Hs' as v c
  | .d _, h => Rp.mono e _ _ h
  | .p _, h => h
def PRep [CF : Cfg] (K : PySem.W.Frag) (Hs H : Hp) (as : List Addr) (b : Addr) : Part → Prop
  | .lst cs => ∃ vs, H b = some (.lst vs) ∧ Paired (fun v c => CRep K Hs as v c) vs cs
  | .dct kvs => ∃ ks, H b = some (.dK ks) ∧ Paired (fun (x : Key × V) (y : Key × Cell) => x.1 = y.1 ∧ CRep K Hs as x.2 y.2) ks kvs
  | .obj C j fs => ∃ dx ks, as[j]? = some dx ∧ H b = some (.ins (CF.cls C) dx ks) ∧ Paired (fun (x : Str × V) (y : Str × Cell) => x.1 = y.1 ∧ CRep K Hs as x.2 y.2) ks fs
  | .own j => ∃ a, as[j]? = some a ∧ H b = some (.own a)
theorem paired_imp {α β : Type} {R S : α → β → Prop} (h : ∀ x y, R x y → S x y) : ∀ {l : List α} {m : List β}, Paired R l m → Paired S l m
  | _, _, .nil => .nil
  | _, _, .cons a b => .cons (h _ _ a) (paired_imp h b)
def ORep [CF : Cfg] (K : PySem.W.Frag) (Hs H : Hp) (a : Addr) (fp : Addr → Prop) : MO → Prop
  | .lst ds => (∀ b, fp b ↔ b = a) ∧ ∃ vs, H a = some (.lst vs) ∧ RpAll K Hs vs ds
  | .dct false kvs => (∀ b, fp b ↔ b = a) ∧ ∃ ks, H a = some (.dK ks) ∧ RpKs K Hs ks kvs
  | .dct true kvs => (∀ b, fp b ↔ b = a) ∧ ∃ ks, H a = some (.dT ks) ∧ RpTs K Hs ks kvs
  | .net ps => ∃ as : List Addr, as.length = ps.length ∧ as.Nodup ∧ as[0]? = some a ∧ (∀ b, fp b ↔ b ∈ as) ∧ ∀ (i : Nat) (p : Part) (b : Addr), ps[i]? = some p → as[i]? = some b → PRep K Hs H as b p
/-- no table, nothing known by its object -/
def NoTE (o : HO) : Prop := (∀ ps, o ≠ .tbl ps) ∧ ∀ φ, o ≠ .ext φ

theorem noL {xs : List V} : NoTE (.lst xs) := ⟨fun _ z => (by cases z), fun _ z => (by cases z)⟩
theorem noDK {xs : List (Key × V)} : NoTE (.dK xs) := ⟨fun _ z => (by cases z), fun _ z => (by cases z)⟩
theorem noDT {xs : List (List Key × V)} : NoTE (.dT xs) := ⟨fun _ z => (by cases z), fun _ z => (by cases z)⟩
theorem noI {C dx : Addr} {fs : List (Str × V)} : NoTE (.ins C dx fs) := ⟨fun _ z => (by cases z), fun _ z => (by cases z)⟩
theorem noO {a : Addr} : NoTE (.own a) := ⟨fun _ z => (by cases z), fun _ z => (by cases z)⟩
/-- what is told beside the heap: the static part, what the slots own, where the def began -/
structure Gh where
  st : Hp
  F : Nat → Addr → Prop
/-- where the def began -/
class Org where
  s0 : Hp
  h0 : Hp
  w0 : Addr → Prop
def Gh.ow (G : Gh) (a : Addr) : Prop := ∃ i, G.F i a
/-- no object but a table -/
def Fre (H : Hp) (a : Addr) : Prop := ∀ o, H a = some o → ∃ ps, o = .tbl ps
theorem Fre.of {H : Hp} {a : Addr} (h : H a = none) : Fre H a := fun o e => by
  rw [h] at e
  cases e
theorem Fre.no {H : Hp} {a : Addr} {o : HO} (h : Fre H a) (e : H a = some o) (n : ∀ ps, o ≠ .tbl ps) : False := by
  obtain ⟨ps, z⟩ := h o e
  exact n ps z
structure Core (Hs H : Hp) (O : Addr → Prop) (Hs' H' : Hp) (O' : Addr → Prop) : Prop where
  st : Same Hs Hs'
  nw : ∀ a o, Hs' a = some o → Hs a = some o ∨ Fre H a ∨ O a
  keep : ∀ a o, H a = some o → ¬ O a → (∀ ps, o ≠ .tbl ps) → H' a = some o
  own : ∀ a, O' a → O a ∨ Fre H a
  dom : ∀ a, Fre H' a → Fre H a
structure Step (G : Gh) (H : Hp) (G' : Gh) (H' : Hp) : Prop extends Core G.st H G.ow G'.st H' G'.ow
theorem Core.refl {Hs H : Hp} {O : Addr → Prop} : Core Hs H O Hs H O := ⟨Same.refl _, fun _ _ h => .inl h, fun _ _ h _ _ => h, fun _ h => .inl h, fun _ h => h⟩
theorem Step.refl {G : Gh} {H : Hp} : Step G H G H := ⟨Core.refl⟩
theorem Core.trans {Hs H Hs1 H1 Hs2 H2 : Hp} {O O1 O2 : Addr → Prop} (x : Core Hs H O Hs1 H1 O1) (y : Core Hs1 H1 O1 Hs2 H2 O2) : Core Hs H O Hs2 H2 O2 := by
  refine ⟨x.st.trans y.st, fun a o h => ?_, fun a o h n nt => ?_, fun a h => ?_, fun a h => x.dom a (y.dom a h)⟩
  · rcases y.nw a o h with h | h | h
    · exact x.nw a o h
    · exact .inr (.inl (x.dom a h))
    · rcases x.own a h with h | h
      · exact .inr (.inr h)
      · exact .inr (.inl h)
  · refine y.keep a o (x.keep a o h n nt) (fun z => ?_) nt
    rcases x.own a z with z | z
    · exact n z
    · exact z.no h nt
  · rcases y.own a h with z | z
    · exact x.own a z
    · exact .inr (x.dom a z)
theorem Step.trans {G G1 G2 : Gh} {H H1 H2 : Hp} (x : Step G H G1 H1) (y : Step G1 H1 G2 H2) : Step G H G2 H2 :=
  ⟨x.toCore.trans y.toCore⟩
theorem Core.weak {Hs H Hs1 H1 : Hp} {O O1 U U1 : Addr → Prop} (x : Core Hs H O Hs1 H1 O1) (h : ∀ a, O a → U a) (h1 : ∀ a, U1 a → U a ∨ Fre H a) : Core Hs H U Hs1 H1 U1 :=
  ⟨x.st, fun a o z => (x.nw a o z).imp id (Or.imp id (h a)), fun a o z n => x.keep a o z fun y => n (h a y), h1, x.dom⟩

/-- nothing is changed; the static part may have grown by new objects -/
structure Grow (Hs H Hs' H' : Hp) : Prop where
  st : Same Hs Hs'
  hh : Same H H'
  sub : Same Hs' H'
  nw : ∀ a o, Hs' a = some o → Hs a = some o ∨ H a = none
  nt : ∀ a ps, Hs' a = some (.tbl ps) → Hs a = some (.tbl ps)
theorem Grow.refl {Hs H : Hp} (h : Same Hs H) : Grow Hs H Hs H := ⟨Same.refl _, Same.refl _, h, fun _ _ z => .inl z, fun _ _ z => z⟩
theorem Grow.dom {Hs H Hs' H' : Hp} (g : Grow Hs H Hs' H') (a : Addr) (h : H' a = none) : H a = none := g.hh.free h
theorem Grow.core {Hs H Hs' H' : Hp} (g : Grow Hs H Hs' H') (O : Addr → Prop) : Core Hs H O Hs' H' O :=
  ⟨g.st, fun a o z => (g.nw a o z).imp id fun y => .inl (.of y), fun a o z _ _ => g.hh a o z, fun a z => .inl z, fun a z o e => z o (g.hh a o e)⟩
theorem Grow.step {G : Gh} {H Hs' H' : Hp} (g : Grow G.st H Hs' H') : Step G H { G with st := Hs' } H' := ⟨g.core G.ow⟩
theorem Grow.trans {Hs H Hs1 H1 Hs2 H2 : Hp} (x : Grow Hs H Hs1 H1) (y : Grow Hs1 H1 Hs2 H2) : Grow Hs H Hs2 H2 :=
  ⟨x.st.trans y.st, x.hh.trans y.hh, y.sub, fun a o z => by
    rcases y.nw a o z with z | z
    · exact x.nw a o z
    · exact .inr (x.dom a z), fun a ps z => x.nt a ps (y.nt a ps z)⟩
theorem same_upd {H : Hp} {p : Addr} {o : HO} (h : H p = none) : Same H (upd H p o) := fun b x e => by
  rw [upd_ne (ne_of_none e h)]
  exact e
/-- a new object that becomes part of the static heap -/
theorem Grow.new {Hs H : Hp} (hs : Same Hs H) {p : Addr} (o : HO) (h : H p = none) (ho : ∀ ps, o ≠ .tbl ps := by intro _ z; cases z) : Grow Hs H (upd Hs p o) (upd H p o) := by
  refine ⟨same_upd (hs.free h), same_upd h, fun b x e => ?_, fun b x e => ?_, fun b ps e => ?_⟩
  · by_cases hb : b = p
    · subst hb
      rw [upd_same] at e ⊢
      exact e
    · rw [upd_ne hb] at e ⊢
      exact hs _ _ e
  · by_cases hb : b = p
    · subst hb
      exact .inr h
    · rw [upd_ne hb] at e
      exact .inl e
  · by_cases hb : b = p
    · subst hb
      rw [upd_same] at e
      exact absurd (Option.some.inj e) (ho ps)
    · rw [upd_ne hb] at e
      exact e
/-- .. that stays owned -/
theorem Grow.newO {Hs H : Hp} (hs : Same Hs H) {p : Addr} (o : HO) (h : H p = none) : Grow Hs H Hs (upd H p o) :=
  ⟨Same.refl _, same_upd h, fun b x e => by rw [upd_ne (ne_of_none (hs _ _ e) h)]; exact hs _ _ e, fun _ _ e => .inl e, fun _ _ e => e⟩
/-- an owned object becomes static -/
theorem Grow.frz {Hs H : Hp} (hs : Same Hs H) {p : Addr} {o : HO} (h : H p = some o) : Same (upd Hs p o) H := fun b x e => by
  by_cases hb : b = p
  · subst hb
    rw [upd_same] at e
    rw [h]
    exact e
  · rw [upd_ne hb] at e
    exact hs _ _ e
section
variable [CF : Cfg]
theorem PRep.mono {Hs Hs' H H' : Hp} {as : List Addr} {b : Addr} (e : Same Hs Hs') (h : ∀ o, H b = some o → NoTE o → H' b = some o) : ∀ {p : Part}, PRep K Hs H as b p → PRep K Hs' H' as b p
  | .lst cs, ⟨vs, h1, h2⟩ => ⟨vs, h _ h1 noL, paired_imp (fun _ _ z => z.mono e) h2⟩
  | .dct kvs, ⟨vs, h1, h2⟩ => ⟨vs, h _ h1 noDK, paired_imp (fun _ _ z => ⟨z.1, z.2.mono e⟩) h2⟩
  | .obj C j fs, ⟨dx, vs, h0, h1, h2⟩ => ⟨dx, vs, h0, h _ h1 noI, paired_imp (fun _ _ z => ⟨z.1, z.2.mono e⟩) h2⟩
  | .own j, ⟨a, h0, h1⟩ => ⟨a, h0, h _ h1 noO⟩
theorem ORep.mono {Hs Hs' H H' : Hp} {a : Addr} {fp : Addr → Prop} (e : Same Hs Hs') : ∀ {o : MO}, (∀ b, fp b → ∀ u, H b = some u → NoTE u → H' b = some u) → ORep K Hs H a fp o → ORep K Hs' H' a fp o
  | .lst ds, h, ⟨h0, vs, h1, h2⟩ => ⟨h0, vs, h a ((h0 a).mpr rfl) _ h1 noL, RpAll.mono e _ _ h2⟩
  | .dct false ds, h, ⟨h0, vs, h1, h2⟩ => ⟨h0, vs, h a ((h0 a).mpr rfl) _ h1 noDK, RpKs.mono e _ _ h2⟩
  | .dct true ds, h, ⟨h0, vs, h1, h2⟩ => ⟨h0, vs, h a ((h0 a).mpr rfl) _ h1 noDT, RpTs.mono e _ _ h2⟩
  | .net ps, h, ⟨as, h1, h2, h3, h4, h5⟩ => ⟨as, h1, h2, h3, h4, fun i p b hp hb => (h5 i p b hp hb).mono e fun u hu n => h b ((h4 b).mpr (List.mem_of_getElem? hb)) u hu n⟩
theorem PRep.there {Hs H : Hp} {as : List Addr} {b : Addr} : ∀ {p : Part}, PRep K Hs H as b p → ∃ u, H b = some u ∧ NoTE u
  | .lst cs, ⟨vs, h1, h2⟩ => ⟨_, h1, noL⟩
  | .dct kvs, ⟨vs, h1, h2⟩ => ⟨_, h1, noDK⟩
  | .obj C j fs, ⟨dx, vs, h0, h1, h2⟩ => ⟨_, h1, noI⟩
  | .own j, ⟨a, h0, h1⟩ => ⟨_, h1, noO⟩
theorem ORep.there {Hs H : Hp} {a : Addr} {fp : Addr → Prop} : ∀ {o : MO}, ORep K Hs H a fp o → ∀ b, fp b → ∃ u, H b = some u ∧ NoTE u
  | .lst ds, ⟨h0, vs, h1, h2⟩, b, hb => by rw [(h0 b).mp hb]; exact ⟨_, h1, noL⟩
  | .dct false ds, ⟨h0, vs, h1, h2⟩, b, hb => by rw [(h0 b).mp hb]; exact ⟨_, h1, noDK⟩
  | .dct true ds, ⟨h0, vs, h1, h2⟩, b, hb => by rw [(h0 b).mp hb]; exact ⟨_, h1, noDT⟩
  | .net ps, ⟨as, h1, h2, h3, h4, h5⟩, b, hb => by
    obtain ⟨i, hi, e⟩ := List.getElem_of_mem ((h4 b).mp hb)
    have e1 : as[i]? = some b := by rw [List.getElem?_eq_getElem hi, e]
    have hp : ps[i]? = some ps[i] := List.getElem?_eq_getElem (by omega)
    exact (h5 i _ b hp e1).there
theorem ORep.root {Hs H : Hp} {a : Addr} {fp : Addr → Prop} : ∀ {o : MO}, ORep K Hs H a fp o → fp a
  | .lst ds, ⟨h0, _⟩ => (h0 a).mpr rfl
  | .dct false ds, ⟨h0, _⟩ => (h0 a).mpr rfl
  | .dct true ds, ⟨h0, _⟩ => (h0 a).mpr rfl
  | .net ps, ⟨as, h1, h2, h3, h4, h5⟩ => (h4 a).mpr (List.mem_of_getElem? h3)
/-- tables stay where no table and no code object is written -/
theorem tabs_upd {T : List (Addr × Str)} {H H' : Hp} (t : LamX.Tabs T H) (h : ∀ b o, H b = some o → ¬ NoTE o → H' b = some o) : LamX.Tabs T H' := fun p hp => by
  obtain ⟨ps, h1, h2, h3⟩ := t p hp
  refine ⟨ps, h _ _ h1 (fun z => z.1 _ rfl), h2, fun pos cv hc => ?_⟩
  obtain ⟨c, e1, e2⟩ := h3 pos cv hc
  exact ⟨c, e1, h _ _ e2 fun z => z.2 _ rfl⟩
theorem tabs_same {T : List (Addr × Str)} {H H' : Hp} (t : LamX.Tabs T H) (h : Same H H') : LamX.Tabs T H' := tabs_upd t fun b o z _ => h b o z

def SRep (K : PySem.W.Frag) (av : List V) (G : Gh) (H : Hp) (i : Nat) : Sl → Option (Option V) → Prop
  | .un, _ => True
  | .pd d, x => ∃ v, x = some (some v) ∧ Rp K G.st v d
  | .ow t o, x => ∃ a, x = some (some (.ref a)) ∧ ORep K G.st H a (G.F i) o ∧ ∀ k, t = some k → av[k]? = some (.ref a)
structure RepC (K : PySem.W.Frag) (av : List V) (G : Gh) (H : Hp) (ρ : Ev) (σ : St) (s0 h0 : Hp) (w0 : Addr → Prop) : Prop where
  same : Same G.st H
  len : ρ.length = σ.length
  sl : ∀ (i : Nat) (s : Sl), ρ[i]? = some s → SRep K av G H i s σ[i]?
  out : ∀ i a, G.F i a → ∃ t o, ρ[i]? = some (.ow t o)
  dis : ∀ i j a, G.F i a → G.F j a → i = j
  fre : ∀ a, G.ow a → G.st a = none
  tab : LamX.Tabs CF.T H
  nt : ∀ a ps, G.st a ≠ some (.tbl ps)
  org : Core s0 h0 w0 G.st H G.ow
variable [OG : Org]
abbrev Rep (K : PySem.W.Frag) (av : List V) (G : Gh) (H : Hp) (ρ : Ev) (σ : St) : Prop := RepC K av G H ρ σ OG.s0 OG.h0 OG.w0
variable {av : List V} {G G' : Gh} {ρ : Ev} {σ : St}
theorem Rep.owned (R : Rep K av G H ρ σ) {a : Addr} (h : G.ow a) : G.st a = none ∧ ∃ u, H a = some u ∧ NoTE u := by
  obtain ⟨i, hi⟩ := id h
  obtain ⟨t, o, e⟩ := R.out i a hi
  obtain ⟨b, _, h2, _⟩ := R.sl i _ e
  exact ⟨R.fre a h, h2.there a hi⟩
theorem Rep.grow (R : Rep K av G H ρ σ) {Hs' H' : Hp} (g : Grow G.st H Hs' H') : Rep K av { G with st := Hs' } H' ρ σ := by
  refine ⟨g.sub, R.len, fun i s e => ?_, R.out, R.dis, fun a h => ?_, tabs_same R.tab g.hh, fun a ps z => R.nt a ps (g.nt a ps z), R.org.trans (g.core _)⟩
  · have q := R.sl i s e
    cases s with
    | un => trivial
    | pd d =>
      obtain ⟨v, h1, h2⟩ := q
      exact ⟨v, h1, Rp.mono g.st _ _ h2⟩
    | ow t o =>
      obtain ⟨a, h1, h2, h4⟩ := q
      exact ⟨a, h1, h2.mono g.st (fun b _ u hu _ => g.hh b u hu), h4⟩
  · obtain ⟨h1, u, hu, _⟩ := R.owned (a := a) h
    show Hs' a = none
    cases e2 : Hs' a with
    | none => rfl
    | some z =>
      rcases g.nw a z e2 with z | z
      · rw [h1] at z
        cases z
      · rw [hu] at z
        cases z

/-! ### values of expressions -/
omit OG in
def VRep (K : PySem.W.Frag) (H0 : Hp) (G : Gh) (H : Hp) (v : V) : Sl → Prop
  | .un => False
  | .pd d => Rp K G.st v d
  | .ow _ o => ∃ a fp, v = .ref a ∧ ORep K G.st H a fp o ∧ ∀ b, fp b → Fre H0 b ∧ G.st b = none ∧ ¬ G.ow b
def frz : Sl → Option D
  | .un => none
  | .pd d => some d
  | .ow _ (.lst ds) => some (.list ds)
  | .ow _ (.dct false ks) => some (.dict ks)
  | .ow _ (.dct true ks) => some (tdict ks)
  | .ow _ (.net _) => none
/-- an object that is no table and that no slot owns becomes static -/
theorem Rep.still (R : Rep K av G H ρ σ) {H0 : Hp} {a : Addr} {o : HO} (h0 : Fre H0 a) (h1 : G.st a = none) (h2 : ¬ G.ow a) (h3 : H a = some o) (ho : ∀ ps, o ≠ .tbl ps) (hd : Fre OG.h0 a) :
    Rep K av { G with st := upd G.st a o } H ρ σ := by
  have sm : Same G.st (upd G.st a o) := same_upd h1
  refine ⟨Grow.frz R.same h3, R.len, fun i s e => ?_, R.out, R.dis, fun b hb => ?_, R.tab, fun b ps z => ?_, ⟨R.org.st.trans sm, fun b u z => ?_, R.org.keep, R.org.own, R.org.dom⟩⟩
  · have q := R.sl i s e
    cases s with
    | un => trivial
    | pd d =>
      obtain ⟨v, q1, q2⟩ := q
      exact ⟨v, q1, Rp.mono sm _ _ q2⟩
    | ow t o =>
      obtain ⟨b, q1, q2, q4⟩ := q
      exact ⟨b, q1, q2.mono sm (fun _ _ _ z _ => z), q4⟩
  · have nb : b ≠ a := fun z => h2 (z ▸ hb)
    show upd G.st a o b = none
    rw [upd_ne nb]
    exact R.fre b hb
  · by_cases hb : b = a
    · subst hb
      have z : upd G.st b o b = _ := z
      rw [upd_same] at z
      exact ho ps (Option.some.inj z)
    · have z : upd G.st a o b = _ := z
      rw [upd_ne hb] at z
      exact R.nt b ps z
  · by_cases hb : b = a
    · subst hb
      exact .inr (.inl hd)
    · have z : upd G.st a o b = _ := z
      rw [upd_ne hb] at z
      exact R.org.nw b u z
/-- a fresh value may be taken for static -/
theorem VRep.frz {H0 : Hp} {G0 : Gh} {v : V} {s : Sl} {d : D} (hv : VRep K H0 G H v s) (hd : frz s = some d) (R : Rep K av G H ρ σ) (st : Step G0 H0 G H) (org : ∀ a, Fre H0 a → Fre OG.h0 a) :
    ∃ Hs', Rep K av { G with st := Hs' } H ρ σ ∧ Step G0 H0 { G with st := Hs' } H ∧ Rp K Hs' v d := by
  have go : ∀ {a : Addr} {fp : Addr → Prop} {o : HO}, (∀ b, fp b → Fre H0 b ∧ G.st b = none ∧ ¬ G.ow b) → fp a → H a = some o → (∀ ps, o ≠ .tbl ps) → (Same G.st (upd G.st a o) → Rp K (upd G.st a o) v d) →
      ∃ Hs', Rep K av { G with st := Hs' } H ρ σ ∧ Step G0 H0 { G with st := Hs' } H ∧ Rp K Hs' v d := fun {a fp o} hf ha h3 ho hr => by
    obtain ⟨h0, h1, h2⟩ := hf a ha
    refine ⟨upd G.st a o, R.still h0 h1 h2 h3 ho (org a h0), ⟨⟨st.st.trans (same_upd h1), fun b u e => ?_, st.keep, st.own, st.dom⟩⟩, hr (same_upd h1)⟩
    by_cases hb : b = a
    · subst hb
      exact .inr (.inl h0)
    · have e : upd G.st a o b = _ := e
      rw [upd_ne hb] at e
      exact st.nw b u e
  cases s with
  | un => exact hv.elim
  | pd e =>
    cases hd
    exact ⟨G.st, R, st, hv⟩
  | ow t o =>
    obtain ⟨a, fp, rfl, hr, hf⟩ := hv
    have rt := hr.root
    cases o with
    | lst ds =>
      cases hd
      obtain ⟨_, vs, h3, h4⟩ := hr
      exact go hf rt h3 (fun _ z => by cases z) fun sm => .lst upd_same (RpAll.mono sm _ _ h4)
    | dct t ks =>
      cases t with
      | false =>
        cases hd
        obtain ⟨_, vs, h3, h4⟩ := hr
        exact go hf rt h3 (fun _ z => by cases z) fun sm => .dk upd_same (RpKs.mono sm _ _ h4)
      | true =>
        cases hd
        obtain ⟨_, vs, h3, h4⟩ := hr
        exact go hf rt h3 (fun _ z => by cases z) fun sm => .dt upd_same (RpTs.mono sm _ _ h4)
    | net ps => cases hd
end
end
end DW

set_option Elab.async false
set_option autoImplicit false
set_option linter.all false
set_option maxRecDepth 100000
/-! DW2: expressions, by data -/
namespace DW
open PySem PySem.Spec L2
open PyProof.Rows hiding St

/-! ### the widest readings -/
def sE (X : Cx) (e : Expr) : TE := fun σ H Q => ∀ (pins : List (Addr × Obj)) (s : Shared), Inv X pins σ H s → wpAny (model X.prog X.w) X.A (eval e X.env) (EP X pins σ Q) X.xe s
theorem pe_s {X : Cx} {e : Expr} : PE X e (sE X e) := ⟨fun pins s σ H Q I h => h pins s I⟩
theorem sE.of {X : Cx} {e : Expr} {t : TE} {σ : St} {H : Hp} {Q : VK} (h : PE X e t) (q : t σ H Q) : sE X e σ H Q := fun pins s I => h.run pins s σ H Q I q
def sT (X : Cx) (e : Expr) : TT := fun σ H Q => ∀ (pins : List (Addr × Obj)) (s : Shared), Inv X pins σ H s → wpAny (model X.prog X.w) X.A (isTrue e X.env (eval e X.env)) (TP X pins σ Q) X.xe s
theorem pt_s {X : Cx} {e : Expr} : PT X e (sT X e) := ⟨fun pins s σ H Q I h => h pins s I⟩
theorem sT.of {X : Cx} {e : Expr} {t : TT} {σ : St} {H : Hp} {Q : Bool → Hp → Prop} (h : PT X e t) (q : t σ H Q) : sT X e σ H Q := fun pins s I => h.run pins s σ H Q I q
def sW (X : Cx) (e : Expr) : TT := fun σ H Q => ∀ (wh : Sem Value) (pins : List (Addr × Obj)) (s : Shared), Inv X pins σ H s → wpAny (model X.prog X.w) X.A (isTrue e X.env wh) (TP X pins σ Q) X.xe s
theorem pw_s {X : Cx} {e : Expr} : PW X e (sW X e) := ⟨fun wh pins s σ H Q I h => h wh pins s I⟩
theorem sW.of {X : Cx} {e : Expr} {t : TT} {σ : St} {H : Hp} {Q : Bool → Hp → Prop} (h : PW X e t) (q : t σ H Q) : sW X e σ H Q := fun wh pins s I => h.run wh pins s σ H Q I q
def sA (X : Cx) (es : List Expr) : TA := fun σ H Q => ∀ (pos : Pos) (pins : List (Addr × Obj)) (s : Shared), Inv X pins σ H s → wpAny (model X.prog X.w) X.A (spliced (backTo pos (starEach es X.env))) (AP X pins σ Q) X.xe s
theorem pa_s {X : Cx} {es : List Expr} : PA X es (sA X es) := ⟨fun pos pins s σ H Q I h => h pos pins s I⟩
theorem sA.of {X : Cx} {es : List Expr} {t : TA} {σ : St} {H : Hp} {Q : List V → Hp → Prop} (h : PA X es t) (q : t σ H Q) : sA X es σ H Q := fun pos pins s I => h.run pos pins s σ H Q I q
/-- an operation on two values -/
def sO (X : Cx) (f : Value → Value → Sem Value) : R2 := fun x y H Q => ∀ (pins : List (Addr × Obj)) (s : Shared) (σ : St) (v u : Value), Inv X pins σ H s → RelV x v → RelV y u → wpAny (model X.prog X.w) X.A (f v u) (EP X pins σ Q) X.xe s
theorem op_s {X : Cx} {f : Value → Value → Sem Value} : OpR X f (sO X f) := fun pins s σ H x y v u Q I rx ry h => h pins s σ v u I rx ry
theorem sO.of {X : Cx} {f : Value → Value → Sem Value} {r : R2} {x y : V} {H : Hp} {Q : VK} (h : OpR X f r) (q : r x y H Q) : sO X f x y H Q := fun pins s σ v u I rx ry => h pins s σ H x y v u Q I rx ry q
def sU (X : Cx) (f : Value → Sem Value) : V → Hp → VK → Prop := fun x H Q => ∀ (pins : List (Addr × Obj)) (s : Shared) (σ : St) (v : Value), Inv X pins σ H s → RelV x v → wpAny (model X.prog X.w) X.A (f v) (EP X pins σ Q) X.xe s
theorem un_s {X : Cx} {f : Value → Sem Value} : UnR X f (sU X f) := fun pins s σ H x v Q I rx h => h pins s σ v I rx
theorem sU.of {X : Cx} {f : Value → Sem Value} {r : V → Hp → VK → Prop} {x : V} {H : Hp} {Q : VK} (h : UnR X f r) (q : r x H Q) : sU X f x H Q := fun pins s σ v I rx => h pins s σ H x v Q I rx q
def sC (X : Cx) (f : Value) : List V → Hp → VK → Prop := fun xs H Q => ∀ (pins : List (Addr × Obj)) (s : Shared) (σ : St) (us : List Value), Inv X pins σ H s → Vals xs us → wpAny (model X.prog X.w) X.A (call f us) (EP X pins σ Q) X.xe s
theorem ca_s {X : Cx} {f : Value} : CallR X f (sC X f) := fun pins s σ H xs us Q I r h => h pins s σ us I r
theorem sC.of {X : Cx} {f : Value} {r : List V → Hp → VK → Prop} {xs : List V} {H : Hp} {Q : VK} (h : CallR X f r) (q : r xs H Q) : sC X f xs H Q := fun pins s σ us I rx => h pins s σ H xs us Q I rx q

/-! ### the judgements by data -/
section
variable [CF : Cfg] [OG : Org]
variable (X : Cx) (av : List V)
def KE (ρ0 : Ev) (Hs0 : Gh) (H0 : Hp) (σ : St) (Q : Sl → Ev → Prop) (R : VK) : Prop := ∀ (v : V) (s : Sl) (ρ' : Ev) (Hs' : Gh) (H' : Hp), Step Hs0 H0 Hs' H' → Rep X.K av Hs' H' ρ' σ → VRep X.K H0 Hs' H' v s → Q s ρ' → R v H'
def KD (ρ0 : Ev) (Hs0 : Gh) (H0 : Hp) (σ : St) (Q : D → Ev → Prop) (R : VK) : Prop := ∀ (v : V) (d : D) (ρ' : Ev) (Hs' : Gh) (H' : Hp), Step Hs0 H0 Hs' H' → Rep X.K av Hs' H' ρ' σ → Rp X.K Hs'.st v d → Q d ρ' → R v H'
def KT (ρ0 : Ev) (Hs0 : Gh) (H0 : Hp) (σ : St) (Q : Bool → Ev → Prop) (R : Bool → Hp → Prop) : Prop := ∀ (b : Bool) (ρ' : Ev) (Hs' : Gh) (H' : Hp), Step Hs0 H0 Hs' H' → Rep X.K av Hs' H' ρ' σ → Q b ρ' → R b H'
def KA (ρ0 : Ev) (Hs0 : Gh) (H0 : Hp) (σ : St) (Q : List D → Ev → Prop) (R : List V → Hp → Prop) : Prop := ∀ (vs : List V) (ds : List D) (ρ' : Ev) (Hs' : Gh) (H' : Hp), Step Hs0 H0 Hs' H' → Rep X.K av Hs' H' ρ' σ → RpAll X.K Hs'.st vs ds → Q ds ρ' → R vs H'
/-- e has a value for which Q holds -/
def EX (e : Expr) (ρ : Ev) (Q : Sl → Ev → Prop) : Prop := ∀ (Hs : Gh) (H : Hp) (σ : St) (R : VK), Rep X.K av Hs H ρ σ → KE X av ρ Hs H σ Q R → sE X e σ H R
/-- .. a datum -/
def ED (e : Expr) (ρ : Ev) (Q : D → Ev → Prop) : Prop := EX X av e ρ fun s ρ' => ∃ d, frz s = some d ∧ Q d ρ'
def TX (e : Expr) (ρ : Ev) (Q : Bool → Ev → Prop) : Prop := ∀ (Hs : Gh) (H : Hp) (σ : St) (R : Bool → Hp → Prop), Rep X.K av Hs H ρ σ → KT X av ρ Hs H σ Q R → sT X e σ H R
def WX (e : Expr) (ρ : Ev) (Q : Bool → Ev → Prop) : Prop := ∀ (Hs : Gh) (H : Hp) (σ : St) (R : Bool → Hp → Prop), Rep X.K av Hs H ρ σ → KT X av ρ Hs H σ Q R → sW X e σ H R
def AX (es : List Expr) (ρ : Ev) (Q : List D → Ev → Prop) : Prop := ∀ (Hs : Gh) (H : Hp) (σ : St) (R : List V → Hp → Prop), Rep X.K av Hs H ρ σ → KA X av ρ Hs H σ Q R → sA X es σ H R
end

section
variable [CF : Cfg] [OG : Org]
variable {X : Cx} {av : List V} {ρ : Ev} {e a b : Expr} {es : List Expr}
theorem ED.run {Q : D → Ev → Prop} (h : ED X av e ρ Q) {Hs : Gh} {H : Hp} {σ : St} {R : VK} (r : Rep X.K av Hs H ρ σ) (k : KD X av ρ Hs H σ Q R) : sE X e σ H R :=
  h Hs H σ R r fun v s ρ' Hs' H' st r' hv q => by
    obtain ⟨d, hd, q⟩ := q
    obtain ⟨Hs2, r2, st2, rp⟩ := hv.frz hd r' st r.org.dom
    exact k v d ρ' _ H' st2 r2 rp q
theorem ex_of {Q : Sl → Ev → Prop} {t : TE} (hp : PE X e t) (h : ∀ (Hs : Gh) (H : Hp) (σ : St) (R : VK), Rep X.K av Hs H ρ σ → KE X av ρ Hs H σ Q R → t σ H R) : EX X av e ρ Q := fun Hs H σ R r k => sE.of hp (h Hs H σ R r k)
theorem tx_of {Q : Bool → Ev → Prop} {t : TT} (hp : PT X e t) (h : ∀ (Hs : Gh) (H : Hp) (σ : St) (R : Bool → Hp → Prop), Rep X.K av Hs H ρ σ → KT X av ρ Hs H σ Q R → t σ H R) : TX X av e ρ Q := fun Hs H σ R r k => sT.of hp (h Hs H σ R r k)
theorem wx_of {Q : Bool → Ev → Prop} {t : TT} (hp : PW X e t) (h : ∀ (Hs : Gh) (H : Hp) (σ : St) (R : Bool → Hp → Prop), Rep X.K av Hs H ρ σ → KT X av ρ Hs H σ Q R → t σ H R) : WX X av e ρ Q := fun Hs H σ R r k => sW.of hp (h Hs H σ R r k)
theorem ax_of {Q : List D → Ev → Prop} {t : TA} (hp : PA X es t) (h : ∀ (Hs : Gh) (H : Hp) (σ : St) (R : List V → Hp → Prop), Rep X.K av Hs H ρ σ → KA X av ρ Hs H σ Q R → t σ H R) : AX X av es ρ Q := fun Hs H σ R r k => sA.of hp (h Hs H σ R r k)

/-- what a primitive hands back -/
def Ret (K : PySem.W.Frag) (Hs H : Hp) (R : VK) (s : Sl) : Prop := ∀ (v : V) (Hs' H' : Hp), Grow Hs H Hs' H' → (match s with
  | .un => False
  | .pd d => Rp K Hs' v d
  | .ow _ o => ∃ a, v = .ref a ∧ H a = none ∧ Hs' a = none ∧ ORep K Hs' H' a (fun b => b = a) o) → R v H'
section
variable {K : PySem.W.Frag} {Hs H : Hp} {R : VK} {d : D} {v : V} {vs : List V} {ds : List D}
theorem Ret.val (h : Ret K Hs H R (.pd d)) (hs : Same Hs H) (rp : Rp K Hs v d) : R v H := h v Hs H (Grow.refl hs) rp
theorem Ret.tup (h : Ret K Hs H R (.pd (.tuple ds))) (hs : Same Hs H) (ra : RpAll K Hs vs ds) : ∀ p, H p = none → R (.ref p) (upd H p (.tup vs)) := fun p hp =>
  h (.ref p) _ _ (Grow.new hs (.tup vs) hp) (.tup upd_same (RpAll.mono (same_upd (hs.free hp)) _ _ ra))
theorem Ret.dk0 (h : Ret K Hs H R (.pd (.dict []))) (hs : Same Hs H) : ∀ p, H p = none → R (.ref p) (upd H p (.dK [])) := fun p hp =>
  h (.ref p) _ _ (Grow.new hs (.dK []) hp) (.dk upd_same .nil)
theorem Ret.lst (h : Ret K Hs H R (.ow none (.lst ds))) (hs : Same Hs H) (ra : RpAll K Hs vs ds) : ∀ p, H p = none → R (.ref p) (upd H p (.lst vs)) := fun p hp =>
  h (.ref p) _ _ (Grow.newO hs (.lst vs) hp) ⟨p, rfl, hp, hs.free hp, fun _ => Iff.rfl, vs, upd_same, ra⟩
theorem Ret.dct {t : Bool} (h : Ret K Hs H R (.ow none (.dct t []))) (hs : Same Hs H) : ∀ p, H p = none → R (.ref p) (upd H p (if t then .dT [] else .dK [])) := fun p hp =>
  h (.ref p) _ _ (Grow.newO hs _ hp) ⟨p, rfl, hp, hs.free hp, by
    cases t with
    | false => exact ⟨fun _ => Iff.rfl, [], upd_same, .nil⟩
    | true => exact ⟨fun _ => Iff.rfl, [], upd_same, .nil⟩⟩
end
theorem KE.ret {ρ0 : Ev} {Hs0 : Gh} {H0 : Hp} {Hs : Gh} {H : Hp} {σ : St} {Q : Sl → Ev → Prop} {R : VK} {s : Sl} (k : KE X av ρ0 Hs0 H0 σ Q R) (st : Step Hs0 H0 Hs H) (r : Rep X.K av Hs H ρ σ) (q : Q s ρ) : Ret X.K Hs.st H R s := by
  intro v Hs' H' g hv
  refine k v s ρ _ H' (st.trans g.step) (r.grow g) ?_ q
  cases s with
  | un => exact hv
  | pd d => exact hv
  | ow t o =>
    obtain ⟨a, e, h1, h2, h3⟩ := hv
    refine ⟨a, _, e, h3, fun b hb => ?_⟩
    subst hb
    refine ⟨st.dom b (.of h1), h2, fun z => ?_⟩
    obtain ⟨_, u, hu, _⟩ := r.owned z
    rw [h1] at hu
    cases hu

/-! ### names, constants -/
variable {Q : Sl → Ev → Prop}
theorem ex_name (i : Nat) {d : D} {x : Str} {pos : Pos} (h : ρ[i]? = some (.pd d)) (q : Q (.pd d) ρ) (hN : X.N[i]? = some x := by rfl) (hv : Vis X.env.scope x := by first | exact Or.inl rfl | exact Or.inr (Or.inl rfl) | exact Or.inr (Or.inr rfl))
    (hd : (x == ("__debug__" : Str)) = false := by decide) (hcd : (x == ("__classdict__" : Str)) = false := by decide) : EX X av (.Name x pos) ρ Q :=
  ex_of (pv i hN hv hd hcd) fun Hs H σ R r k => by
    obtain ⟨v, h1, h2⟩ := r.sl i _ h
    exact ⟨v, h1, (k.ret Step.refl r q).val r.same h2⟩
theorem ex_const {t : TE} {v : V} {d : D} (hp : PE X e t) (ht : t = tC v) (hd : ∀ Hs, Rp X.K Hs v d) (q : Q (.pd d) ρ) : EX X av e ρ Q :=
  ex_of hp fun Hs H σ R r k => by
    rw [ht]
    exact (k.ret Step.refl r q).val r.same (hd Hs.st)
theorem ex_int {i : Int} {j} {pos : Pos} (q : Q (.pd (.int i)) ρ) : EX X av (.Constant (.int i) j pos) ρ Q := ex_const pe_int rfl (fun _ => .int i) q
theorem ex_bl {i : Bool} {j} {pos : Pos} (q : Q (.pd (.bool i)) ρ) : EX X av (.Constant (.bool i) j pos) ρ Q := ex_const pe_bl rfl (fun _ => .bl i) q
theorem ex_non {j} {pos : Pos} (q : Q (.pd .none) ρ) : EX X av (.Constant .none j pos) ρ Q := ex_const pe_non rfl (fun _ => .non) q
theorem ex_str {x : Str} {j} {pos : Pos} (q : Q (.pd (.str x)) ρ) : EX X av (.Constant (.str x) j pos) ρ Q := ex_const pe_str rfl (fun _ => .str x) q
/-- a module's constant -/
theorem ex_glob {x : Str} {v : V} {u : Value} {d : D} {pos : Pos} (hm : X.mg x = some u) (r : RelV v u) (hd : ∀ Hs, Rp X.K Hs v d) (q : Q (.pd d) ρ) (hg : Gl X x := by rfl) (hb : (x == ("__debug__" : Str)) = false := by decide) : EX X av (.Name x pos) ρ Q :=
  ex_const (pe_glob hg hm r hb) rfl hd q

/-! ### operators -/
def B2 (X : Cx) (f : Value → Value → Sem Value) (x y : D) (s : Sl) : Prop := ∀ (Hs H : Hp) (vx vy : V) (R : VK), Same Hs H → Rp X.K Hs vx x → Rp X.K Hs vy y → Ret X.K Hs H R s → sO X f vx vy H R
def B1 (X : Cx) (f : Value → Sem Value) (x : D) (s : Sl) : Prop := ∀ (Hs H : Hp) (vx : V) (R : VK), Same Hs H → Rp X.K Hs vx x → Ret X.K Hs H R s → sU X f vx H R
def BC (X : Cx) (f : Value) (ds : List D) (s : Sl) : Prop := ∀ (Hs H : Hp) (vs : List V) (R : VK), Same Hs H → RpAll X.K Hs vs ds → Ret X.K Hs H R s → sC X f vs H R
theorem two_run {α : Type} {Fin : D → D → Ev → Prop} (h : ED X av a ρ fun x ρ1 => ED X av b ρ1 fun y ρ2 => Fin x y ρ2) {Hs : Gh} {H : Hp} {σ : St} (r : Rep X.K av Hs H ρ σ) {r2 : V → V → Hp → Prop}
    (k : ∀ (vx vy : V) (x y : D) (ρ' : Ev) (Hs' : Gh) (H' : Hp), Step Hs H Hs' H' → Rep X.K av Hs' H' ρ' σ → Rp X.K Hs'.st vx x → Rp X.K Hs'.st vy y → Fin x y ρ' → r2 vx vy H') :
    sE X a σ H fun x H1 => sE X b σ H1 fun y H2 => r2 x y H2 :=
  h.run r fun vx x ρ1 Hs1 H1 st1 r1 px qb => ED.run qb r1 fun vy y ρ2 Hs2 H2 st2 r2 py q => k vx vy x y ρ2 Hs2 H2 (st1.trans st2) r2 (Rp.mono st2.st _ _ px) py q
theorem ex_bin {op : Operator} {pos : Pos} (h : ED X av a ρ fun x ρ1 => ED X av b ρ1 fun y ρ2 => ∃ s, B2 X (binaryOp op) x y s ∧ Q s ρ2) : EX X av (.BinOp a op b pos) ρ Q :=
  ex_of (pe_op op_s pe_s pe_s) fun Hs H σ R r k => two_run (α := Unit) h r fun vx vy x y ρ' Hs' H' st r' px py ⟨s, p, q⟩ => p Hs'.st H' vx vy R r'.same px py (k.ret st r' q)
theorem ex_un {op : UnaryOp} {pos : Pos} (h : ED X av a ρ fun x ρ1 => ∃ s, B1 X (unaryOp op) x s ∧ Q s ρ1) : EX X av (.UnaryOp op a pos) ρ Q :=
  ex_of (pe_un un_s pe_s) fun Hs H σ R r k => h.run r fun vx x ρ' Hs' H' st r' px ⟨s, p, q⟩ => p Hs'.st H' vx R r'.same px (k.ret st r' q)
theorem ex_cmp {op : CmpOp} {pos : Pos} (h : ED X av a ρ fun x ρ1 => ED X av b ρ1 fun y ρ2 => ∃ s, B2 X (compareOp op) x y s ∧ Q s ρ2) (hm : behindInMarks op b = false := by first | exact nomark _ | rfl) : EX X av (.Compare a [op] [b] pos) ρ Q :=
  ex_of (pe_cmpR op_s pe_s pe_s hm) fun Hs H σ R r k => two_run (α := Unit) h r fun vx vy x y ρ' Hs' H' st r' px py ⟨s, p, q⟩ => p Hs'.st H' vx vy R r'.same px py (k.ret st r' q)
theorem tx_cmp {QT : Bool → Ev → Prop} {op : CmpOp} {pos : Pos} (h : ED X av a ρ fun x ρ1 => ED X av b ρ1 fun y ρ2 => ∃ k, B2 X (compareOp op) x y (.pd (.bool k)) ∧ QT k ρ2) (hm : behindInMarks op b = false := by first | exact nomark _ | rfl) : TX X av (.Compare a [op] [b] pos) ρ QT :=
  tx_of (pt_cmpR op_s pe_s pe_s hm) fun Hs H σ R r k => two_run (α := Unit) h r fun vx vy x y ρ' Hs' H' st r' px py ⟨c, p, q⟩ => p Hs'.st H' vx vy _ r'.same px py fun v Hs2 H2 g hv => by
    cases hv
    exact ⟨c, rfl, k c ρ' _ H2 (st.trans g.step) (r'.grow g) q⟩

/-! the primitives -/
theorem b2_I0 {f : Value → Value → Sem Value} {g : Int → Int → V} {i j : Int} {d : D} (ho : OpR X f (rI0 g)) (hd : ∀ Hs, Rp X.K Hs (g i j) d) : B2 X f (.int i) (.int j) (.pd d) := fun Hs H vx vy R hs px py k => by
  cases px
  cases py
  exact sO.of ho ⟨i, j, rfl, rfl, k.val hs (hd Hs)⟩
theorem b2_I {f : Value → Value → Sem Value} {C : Int → Int → Prop} {g : Int → Int → V} {i j : Int} {d : D} (ho : OpR X f (rI C g)) (hc : C i j) (hd : ∀ Hs, Rp X.K Hs (g i j) d) : B2 X f (.int i) (.int j) (.pd d) := fun Hs H vx vy R hs px py k => by
  cases px
  cases py
  exact sO.of ho ⟨i, j, rfl, rfl, hc, k.val hs (hd Hs)⟩
theorem b2_add {i j : Int} : B2 X (binaryOp .Add) (.int i) (.int j) (.pd (.int (i + j))) := b2_I0 op_add fun _ => .int _
theorem b2_sub {i j : Int} : B2 X (binaryOp .Sub) (.int i) (.int j) (.pd (.int (i - j))) := b2_I0 op_sub fun _ => .int _
theorem b2_mul {i j : Int} (h : CMul i j) : B2 X (binaryOp .Mult) (.int i) (.int j) (.pd (.int (i * j))) := b2_I op_mul h fun _ => .int _
theorem b2_mod {i j : Int} (h : 0 < j) : B2 X (binaryOp .Mod) (.int i) (.int j) (.pd (.int (i % j))) := b2_I (C := fun _ j => 0 < j) (g := fun i j => .int (i % j)) op_mod h fun _ => .int _
theorem b2_fdiv {i j : Int} (h : CDiv i j) : B2 X (binaryOp .FloorDiv) (.int i) (.int j) (.pd (.int (i / j))) := b2_I op_fdiv h fun _ => .int _
theorem b2_pow {i j : Int} (h : CPow i j) : B2 X (binaryOp .Pow) (.int i) (.int j) (.pd (.int (i ^ j.toNat))) := b2_I op_pow h fun _ => .int _
theorem b2_lt {i j : Int} : B2 X (compareOp .Lt) (.int i) (.int j) (.pd (.bool (decide (i < j)))) := b2_I0 op_lt fun _ => .bl _
theorem b2_le {i j : Int} : B2 X (compareOp .LtE) (.int i) (.int j) (.pd (.bool (decide (i ≤ j)))) := b2_I0 op_le fun _ => .bl _
theorem b2_gt {i j : Int} : B2 X (compareOp .Gt) (.int i) (.int j) (.pd (.bool (decide (j < i)))) := b2_I0 op_gt fun _ => .bl _
theorem b2_ge {i j : Int} : B2 X (compareOp .GtE) (.int i) (.int j) (.pd (.bool (decide (j ≤ i)))) := b2_I0 op_ge fun _ => .bl _
theorem dvi {i j : Int} : decide (V.int i = V.int j) = decide (i = j) := by simp
theorem dvb {i j : Bool} : decide (V.bl i = V.bl j) = decide (i = j) := by simp
theorem dvs {i j : Str} : decide (V.str i = V.str j) = decide (i = j) := by simp
theorem b2_eqI {i j : Int} : B2 X (compareOp .Eq) (.int i) (.int j) (.pd (.bool (decide (i = j)))) := fun Hs H vx vy R hs px py k => by
  cases px
  cases py
  exact sO.of op_eq ⟨rfl, k.val hs (by rw [dvi]; exact .bl _)⟩
theorem b2_neI {i j : Int} : B2 X (compareOp .NotEq) (.int i) (.int j) (.pd (.bool (!decide (i = j)))) := fun Hs H vx vy R hs px py k => by
  cases px
  cases py
  exact sO.of op_ne ⟨rfl, k.val hs (by rw [dvi]; exact .bl _)⟩
theorem b2_eqB {i j : Bool} : B2 X (compareOp .Eq) (.bool i) (.bool j) (.pd (.bool (decide (i = j)))) := fun Hs H vx vy R hs px py k => by
  cases px
  cases py
  exact sO.of op_eq ⟨rfl, k.val hs (by rw [dvb]; exact .bl _)⟩
theorem b2_neB {i j : Bool} : B2 X (compareOp .NotEq) (.bool i) (.bool j) (.pd (.bool (!decide (i = j)))) := fun Hs H vx vy R hs px py k => by
  cases px
  cases py
  exact sO.of op_ne ⟨rfl, k.val hs (by rw [dvb]; exact .bl _)⟩
theorem b2_eqS {i j : Str} : B2 X (compareOp .Eq) (.str i) (.str j) (.pd (.bool (decide (i = j)))) := fun Hs H vx vy R hs px py k => by
  cases px
  cases py
  exact sO.of op_eq ⟨rfl, k.val hs (by rw [dvs]; exact .bl _)⟩
theorem b2_isN {d : D} : B2 X (compareOp .Is) d .none (.pd (.bool (match d with | .none => true | _ => false))) := fun Hs H vx vy R hs px py k => by
  cases py
  refine sO.of op_isN ⟨rfl, k.val hs ?_⟩
  cases px <;> exact .bl _
theorem b2_notN {d : D} : B2 X (compareOp .IsNot) d .none (.pd (.bool (match d with | .none => false | _ => true))) := fun Hs H vx vy R hs px py k => by
  cases py
  refine sO.of op_notN ⟨rfl, k.val hs ?_⟩
  cases px <;> exact .bl _
theorem b1_neg {i : Int} : B1 X (unaryOp .USub) (.int i) (.pd (.int (-i))) := fun Hs H vx R hs px k => by
  cases px
  exact sU.of un_neg ⟨i, rfl, k.val hs (.int _)⟩

/-! ### tests -/
variable {QT : Bool → Ev → Prop}
def Tru (d : D) (k : Bool) : Prop := match d with
  | .none => k = false
  | .bool b => k = b
  | .int i => k = (i != 0)
  | .list ds => k = !ds.isEmpty
  | .tuple ds => k = !ds.isEmpty
  | _ => False
theorem isEmpty_rp {K : PySem.W.Frag} {Hs : Hp} {vs : List V} {ds : List D} (r : RpAll K Hs vs ds) : vs.isEmpty = ds.isEmpty := by cases r <;> rfl
theorem tx_val (h : ED X av e ρ fun d ρ' => ∃ k, Tru d k ∧ QT k ρ') (he : ∀ whole, isTrue e X.env whole = (do let v ← whole; standAt e.pos; holding [v] (truthy v)) := by intro _; rfl) : TX X av e ρ QT :=
  tx_of (pt_truth pe_s he) fun Hs H σ R r kt => h.run r fun v d ρ' Hs' H' st r' rp ⟨k, hk, q⟩ => by
    refine ⟨k, ?_, kt k ρ' Hs' H' st r' q⟩
    cases rp with
    | non => exact hk
    | bl b => exact hk
    | int i => exact hk
    | str x => exact hk.elim
    | lst h1 h2 => exact .inl ⟨_, .inl (.inl (r'.same _ _ h1)), by rw [isEmpty_rp h2]; exact hk⟩
    | tup h1 h2 => exact .inr (.inl ⟨_, .inl (.inl (r'.same _ _ h1)), by rw [isEmpty_rp h2]; exact hk⟩)
    | frl h1 h2 => exact hk.elim
    | dk h1 h2 => exact hk.elim
    | dt h1 h2 => exact hk.elim
theorem tx_not {pos : Pos} (h : TX X av a ρ fun b ρ' => QT (!b) ρ') : TX X av (.UnaryOp .Not a pos) ρ QT :=
  tx_of (pt_not pt_s) fun Hs H σ R r k => h Hs H σ _ r fun b ρ' Hs' H' st r' q => k (!b) ρ' Hs' H' st r' q
theorem tx_w (h : WX X av e ρ QT) : TX X av e ρ QT := tx_of (PW.pt pw_s) h
theorem wx_and1 {pos : Pos} (h : TX X av a ρ QT) : WX X av (.BoolOp .And [a] pos) ρ QT := wx_of (pw_and1 pt_s) h
theorem wx_or1 {pos : Pos} (h : TX X av a ρ QT) : WX X av (.BoolOp .Or [a] pos) ρ QT := wx_of (pw_or1 pt_s) h
theorem wx_and {rest : List Expr} {pos : Pos} (h : TX X av a ρ fun c ρ1 => (c = true → WX X av (.BoolOp .And (b :: rest) pos) ρ1 QT) ∧ (c = false → QT false ρ1)) : WX X av (.BoolOp .And (a :: b :: rest) pos) ρ QT :=
  wx_of (pw_and pt_s pw_s) fun Hs H σ R r k => h Hs H σ _ r fun c ρ1 Hs1 H1 st r1 ⟨q1, q2⟩ => by
    cases c with
    | true =>
      show sW X _ σ H1 R
      exact q1 rfl Hs1 H1 σ R r1 fun c2 ρ2 Hs2 H2 st2 r2 q => k c2 ρ2 Hs2 H2 (st.trans st2) r2 q
    | false => exact k false ρ1 Hs1 H1 st r1 (q2 rfl)
theorem wx_or {rest : List Expr} {pos : Pos} (h : TX X av a ρ fun c ρ1 => (c = false → WX X av (.BoolOp .Or (b :: rest) pos) ρ1 QT) ∧ (c = true → QT true ρ1)) : WX X av (.BoolOp .Or (a :: b :: rest) pos) ρ QT :=
  wx_of (pw_or pt_s pw_s) fun Hs H σ R r k => h Hs H σ _ r fun c ρ1 Hs1 H1 st r1 ⟨q1, q2⟩ => by
    cases c with
    | false =>
      show sW X _ σ H1 R
      exact q1 rfl Hs1 H1 σ R r1 fun c2 ρ2 Hs2 H2 st2 r2 q => k c2 ρ2 Hs2 H2 (st.trans st2) r2 q
    | true => exact k true ρ1 Hs1 H1 st r1 (q2 rfl)
theorem ex_ifexp {c : Expr} {pos : Pos} (h : TX X av c ρ fun k ρ1 => (k = true → EX X av a ρ1 Q) ∧ (k = false → EX X av b ρ1 Q)) : EX X av (.IfExp c a b pos) ρ Q :=
  ex_of (pe_ifExp pt_s pe_s pe_s) fun Hs H σ R r k => h Hs H σ _ r fun c ρ1 Hs1 H1 st r1 ⟨q1, q2⟩ => by
    have k2 : KE X av ρ1 Hs1 H1 σ Q R := fun v s ρ2 Hs2 H2 st2 r2 hv q => k v s ρ2 Hs2 H2 (st.trans st2) r2 (by
      cases s with
      | un => exact hv
      | pd d => exact hv
      | ow t o =>
        obtain ⟨a, fp, e1, h1, h2⟩ := hv
        exact ⟨a, fp, e1, h1, fun b hb => ⟨st.dom b (h2 b hb).1, (h2 b hb).2⟩⟩) q
    cases c with
    | true => exact q1 rfl Hs1 H1 σ R r1 k2
    | false => exact q2 rfl Hs1 H1 σ R r1 k2
/-- and, or, not as values: all but the last True or False -/
theorem KE.back {ρ1 : Ev} {Hs Hs1 : Gh} {H H1 : Hp} {σ : St} {R : VK} (k : KE X av ρ Hs H σ Q R) (st : Step Hs H Hs1 H1) : KE X av ρ1 Hs1 H1 σ Q R := fun v s ρ2 Hs2 H2 st2 r2 hv q => k v s ρ2 Hs2 H2 (st.trans st2) r2 (by
  cases s with
  | un => exact hv
  | pd d => exact hv
  | ow t o =>
    obtain ⟨a, fp, e1, h1, h2⟩ := hv
    exact ⟨a, fp, e1, h1, fun b hb => ⟨st.dom b (h2 b hb).1, (h2 b hb).2⟩⟩) q
theorem ex_one {op : BoolOp} {pos : Pos} (h : EX X av a ρ Q) : EX X av (.BoolOp op [a] pos) ρ Q := ex_of (pe_one pe_s) h
theorem ex_andV {rest : List Expr} {pos : Pos} (h : ED X av a ρ fun d ρ1 => ∃ c, d = .bool c ∧ (c = true → EX X av (.BoolOp .And (b :: rest) pos) ρ1 Q) ∧ (c = false → Q (.pd (.bool false)) ρ1)) : EX X av (.BoolOp .And (a :: b :: rest) pos) ρ Q :=
  ex_of (pe_and pe_s pe_s) fun Hs H σ R r k => h.run r fun v d ρ1 Hs1 H1 st r1 rp ⟨c, e1, q1, q2⟩ => by
    subst e1
    cases rp
    refine ⟨c, rfl, ?_⟩
    cases c with
    | true =>
      show sE X _ σ H1 R
      exact q1 rfl Hs1 H1 σ R r1 (k.back st)
    | false => exact (k.ret st r1 (q2 rfl)).val r1.same (.bl false)
theorem ex_orV {rest : List Expr} {pos : Pos} (h : ED X av a ρ fun d ρ1 => ∃ c, d = .bool c ∧ (c = false → EX X av (.BoolOp .Or (b :: rest) pos) ρ1 Q) ∧ (c = true → Q (.pd (.bool true)) ρ1)) : EX X av (.BoolOp .Or (a :: b :: rest) pos) ρ Q :=
  ex_of (pe_or pe_s pe_s) fun Hs H σ R r k => h.run r fun v d ρ1 Hs1 H1 st r1 rp ⟨c, e1, q1, q2⟩ => by
    subst e1
    cases rp
    refine ⟨c, rfl, ?_⟩
    cases c with
    | false =>
      show sE X _ σ H1 R
      exact q1 rfl Hs1 H1 σ R r1 (k.back st)
    | true => exact (k.ret st r1 (q2 rfl)).val r1.same (.bl true)
theorem ex_notV {pos : Pos} (h : ED X av a ρ fun d ρ1 => ∃ c, d = .bool c ∧ Q (.pd (.bool (!c))) ρ1) : EX X av (.UnaryOp .Not a pos) ρ Q :=
  ex_of (pe_not pe_s) fun Hs H σ R r k => h.run r fun v d ρ1 Hs1 H1 st r1 rp ⟨c, e1, q1⟩ => by
    subst e1
    cases rp
    exact ⟨c, rfl, (k.ret st r1 q1).val r1.same (.bl _)⟩

/-! ### argument lists, displays -/
theorem ax_nil {QA : List D → Ev → Prop} (q : QA [] ρ) : AX X av [] ρ QA := ax_of pa_nil fun Hs H σ R r k => k [] [] ρ Hs H Step.refl r .nil q
theorem ax_cons {QA : List D → Ev → Prop} (h : ED X av e ρ fun d ρ1 => AX X av es ρ1 fun ds ρ2 => QA (d :: ds) ρ2) (hs : starEach (e :: es) X.env = (false, eval e X.env) :: starEach es X.env := by rfl) : AX X av (e :: es) ρ QA :=
  ax_of (pa_cons pe_s pa_s hs) fun Hs H σ R r k => h.run r fun v d ρ1 Hs1 H1 st r1 rp q => q Hs1 H1 σ _ r1 fun vs ds ρ2 Hs2 H2 st2 r2 ra q2 => k (v :: vs) (d :: ds) ρ2 Hs2 H2 (st.trans st2) r2 (.cons (Rp.mono st2.st _ _ rp) ra) q2
theorem sz {n : Nat} (h : n ≤ 100000) : n ≤ sizeLine := Nat.le_trans h (by decide)
theorem ex_tup {x1} {pos : Pos} (h : AX X av es ρ fun ds ρ' => ds.length ≤ 100000 ∧ Q (.pd (.tuple ds)) ρ') : EX X av (.Tuple es x1 pos) ρ Q :=
  ex_of (pe_tup pa_s) fun Hs H σ R r k => h Hs H σ _ r fun vs ds ρ1 Hs1 H1 st r1 ra ⟨hl, q⟩ => ⟨sz (by rw [ra.length]; exact hl), (k.ret st r1 q).tup r1.same ra⟩
theorem ex_dk0 {pos : Pos} (q : Q (.pd (.dict [])) ρ) : EX X av (.Dict [] [] pos) ρ Q :=
  ex_of pe_dnewK fun Hs H σ R r k => (k.ret .refl r q).dk0 r.same
theorem ex_lst {pos : Pos} (h : AX X av es ρ fun ds ρ' => ds.length ≤ 100000 ∧ Q (.ow none (.lst ds)) ρ') : EX X av (.List es pos) ρ Q :=
  ex_of (pe_lst pa_s) fun Hs H σ R r k => h Hs H σ _ r fun vs ds ρ1 Hs1 H1 st r1 ra ⟨hl, q⟩ => ⟨sz (by rw [ra.length]; exact hl), (k.ret st r1 q).lst r1.same ra⟩
end
end DW

set_option Elab.async false
set_option autoImplicit false
set_option linter.all false
set_option maxRecDepth 100000
/-! DW3: statements, calls, defs, by data -/
namespace DW
open PySem PySem.Spec L2
open PyProof.Rows hiding St

def sS (X : Cx) (st : Stmt) : TS := fun D σ H => ∀ (pins : List (Addr × Obj)) (s : Shared), Inv X pins σ H s → wpAny (model X.prog X.w) X.A (exec st X.env) (SP X pins D) X.xe s
theorem ps_s {X : Cx} {st : Stmt} : PS X st (sS X st) := ⟨fun pins s σ H D I h => h pins s I⟩
theorem sS.of {X : Cx} {st : Stmt} {t : TS} {D : Ends} {σ : St} {H : Hp} (h : PS X st t) (q : t D σ H) : sS X st D σ H := fun pins s I => h.run pins s σ H D I q
def sB (X : Cx) (sts : List Stmt) : TS := fun D σ H => ∀ (pins : List (Addr × Obj)) (s : Shared), Inv X pins σ H s → wpAny (model X.prog X.w) X.A (execs sts X.env) (SP X pins D) X.xe s
theorem pb_s {X : Cx} {sts : List Stmt} : PSs X sts (sB X sts) := ⟨fun pins s σ H D I h => h pins s I⟩
theorem sB.of {X : Cx} {sts : List Stmt} {t : TS} {D : Ends} {σ : St} {H : Hp} (h : PSs X sts t) (q : t D σ H) : sB X sts D σ H := fun pins s I => h.run pins s σ H D I q
def sG (X : Cx) (tg : Expr) : TG := fun v σ H Q => ∀ (pins : List (Addr × Obj)) (s : Shared) (u : Value), Inv X pins σ H s → RelV v u → wpAny (model X.prog X.w) X.A (assign tg X.env u) (fun _ s' => ∃ σ' H', Inv X pins σ' H' s' ∧ Q σ' H') X.xe s
theorem pg_s {X : Cx} {tg : Expr} : PG X tg (sG X tg) := ⟨fun pins s σ H v u Q I r h => h pins s u I r⟩
theorem sG.of {X : Cx} {tg : Expr} {t : TG} {v : V} {σ : St} {H : Hp} {Q : St → Hp → Prop} (h : PG X tg t) (q : t v σ H Q) : sG X tg v σ H Q := fun pins s u I r => h.run pins s σ H v u Q I r q
def sGs (X : Cx) (ts : List Expr) : TGs := fun vs σ H Q => ∀ (pins : List (Addr × Obj)) (s : Shared) (us : List Value), Inv X pins σ H s → Vals vs us → wpAny (model X.prog X.w) X.A (assignInOrder ((assignEach ts X.env).map (·.2)) us) (fun _ s' => ∃ σ' H', Inv X pins σ' H' s' ∧ Q σ' H') X.xe s
theorem pgs_s {X : Cx} {ts : List Expr} : PGs X ts (sGs X ts) := ⟨fun pins s σ H vs us Q I r h => h pins s us I r⟩
theorem sGs.of {X : Cx} {ts : List Expr} {t : TGs} {vs : List V} {σ : St} {H : Hp} {Q : St → Hp → Prop} (h : PGs X ts t) (q : t vs σ H Q) : sGs X ts vs σ H Q := fun pins s us I r => h.run pins s σ H vs us Q I r q

def nrm : Sl → Sl
  | .ow _ o => .ow none o
  | s => s
structure Ph where
  nx : Ev → Prop
  rt : Sl → Ev → Prop
  bk : Ev → Prop := fun _ => False
  ct : Ev → Prop := fun _ => False
section
variable [CF : Cfg] [OG : Org]
variable (X : Cx) (av : List V)
structure KS (ρ0 : Ev) (Hs0 : Gh) (H0 : Hp) (σ0 : St) (Φ : Ph) (D : Ends) : Prop where
  nx : ∀ (σ' : St) (ρ' : Ev) (Hs' : Gh) (H' : Hp), Step Hs0 H0 Hs' H' → Rep X.K av Hs' H' ρ' σ' → Φ.nx ρ' → D.nx σ' H'
  rt : ∀ (v : V) (s : Sl) (σ' : St) (ρ' : Ev) (Hs' : Gh) (H' : Hp), Step Hs0 H0 Hs' H' → Rep X.K av Hs' H' ρ' σ' → VRep X.K H0 Hs' H' v s → Φ.rt s ρ' → D.rt v H'
  bk : ∀ (σ' : St) (ρ' : Ev) (Hs' : Gh) (H' : Hp), Step Hs0 H0 Hs' H' → Rep X.K av Hs' H' ρ' σ' → Φ.bk ρ' → D.bk σ' H'
  ct : ∀ (σ' : St) (ρ' : Ev) (Hs' : Gh) (H' : Hp), Step Hs0 H0 Hs' H' → Rep X.K av Hs' H' ρ' σ' → Φ.ct ρ' → D.ct σ' H'
def SX (st : Stmt) (ρ : Ev) (Φ : Ph) : Prop := ∀ (Hs : Gh) (H : Hp) (σ : St) (D : Ends), Rep X.K av Hs H ρ σ → KS X av ρ Hs H σ Φ D → sS X st D σ H
def BX (sts : List Stmt) (ρ : Ev) (Φ : Ph) : Prop := ∀ (Hs : Gh) (H : Hp) (σ : St) (D : Ends), Rep X.K av Hs H ρ σ → KS X av ρ Hs H σ Φ D → sB X sts D σ H
/-- a datum is assigned to a target -/
def GX (tg : Expr) (d : D) (ρ : Ev) (Q : Ev → Prop) : Prop := ∀ (Hs : Gh) (H : Hp) (σ : St) (v : V) (R : St → Hp → Prop), Rep X.K av Hs H ρ σ → Rp X.K Hs.st v d → (∀ (σ' : St) (ρ' : Ev) (Hs' : Gh), Hs'.st = Hs.st → Step Hs H Hs' H → Rep X.K av Hs' H ρ' σ' → Q ρ' → R σ' H) → sG X tg v σ H R
def GsX (ts : List Expr) (ds : List D) (ρ : Ev) (Q : Ev → Prop) : Prop := ∀ (Hs : Gh) (H : Hp) (σ : St) (vs : List V) (R : St → Hp → Prop), Rep X.K av Hs H ρ σ → RpAll X.K Hs.st vs ds → (∀ (σ' : St) (ρ' : Ev) (Hs' : Gh), Hs'.st = Hs.st → Step Hs H Hs' H → Rep X.K av Hs' H ρ' σ' → Q ρ' → R σ' H) → sGs X ts vs σ H R
end
section
variable [CF : Cfg] [OG : Org]
variable {X : Cx} {av : List V} {ρ : Ev} {e a b : Expr} {es : List Expr} {st : Stmt} {sts : List Stmt} {Φ : Ph}

theorem VRep.back {K : PySem.W.Frag} {H0 H1 H : Hp} {Hs : Gh} {v : V} : ∀ {s : Sl}, VRep K H1 Hs H v s → (∀ a, Fre H1 a → Fre H0 a) → VRep K H0 Hs H v s
  | .un, h, _ => h
  | .pd d, h, _ => h
  | .ow t o, ⟨a, fp, e, h1, h2⟩, k => ⟨a, fp, e, h1, fun b hb => ⟨k b (h2 b hb).1, (h2 b hb).2⟩⟩
theorem KS.back {ρ1 : Ev} {Hs Hs1 : Gh} {H H1 : Hp} {σ σ1 : St} {D : Ends} (k : KS X av ρ Hs H σ Φ D) (st : Step Hs H Hs1 H1) : KS X av ρ1 Hs1 H1 σ1 Φ D :=
  ⟨fun σ' ρ' Hs' H' s r q => k.nx σ' ρ' Hs' H' (st.trans s) r q, fun v s σ' ρ' Hs' H' s2 r hv q => k.rt v s σ' ρ' Hs' H' (st.trans s2) r (hv.back st.dom) q,
    fun σ' ρ' Hs' H' s r q => k.bk σ' ρ' Hs' H' (st.trans s) r q, fun σ' ρ' Hs' H' s r q => k.ct σ' ρ' Hs' H' (st.trans s) r q⟩
theorem sx_of {t : TS} (hp : PS X st t) (h : ∀ (Hs : Gh) (H : Hp) (σ : St) (D : Ends), Rep X.K av Hs H ρ σ → KS X av ρ Hs H σ Φ D → t D σ H) : SX X av st ρ Φ := fun Hs H σ D r k => sS.of hp (h Hs H σ D r k)
theorem bx_of {t : TS} (hp : PSs X sts t) (h : ∀ (Hs : Gh) (H : Hp) (σ : St) (D : Ends), Rep X.K av Hs H ρ σ → KS X av ρ Hs H σ Φ D → t D σ H) : BX X av sts ρ Φ := fun Hs H σ D r k => sB.of hp (h Hs H σ D r k)

/-! ### blocks -/
theorem bx_nil (q : Φ.nx ρ) : BX X av [] ρ Φ := bx_of pss_nil fun Hs H σ D r k => k.nx σ ρ Hs H Step.refl r q
theorem bx_cons (h : SX X av st ρ { Φ with nx := fun ρ1 => BX X av sts ρ1 Φ }) : BX X av (st :: sts) ρ Φ :=
  bx_of (pss_cons ps_s pb_s) fun Hs H σ D r k => h Hs H σ { D with nx := sB X sts D } r
    ⟨fun σ' ρ' Hs' H' s r' q => q Hs' H' σ' D r' (k.back s), k.rt, k.bk, k.ct⟩
theorem bx_one (h : SX X av st ρ Φ) : BX X av [st] ρ Φ := bx_of (pss_one ps_s) h
/-! ### an owned object becomes a datum -/
omit CF OG in
theorem set_get {α : Type} {l : List α} {i j : Nat} {x y : α} (h : (l.set i x)[j]? = some y) : (j = i ∧ y = x ∧ i < l.length) ∨ (j ≠ i ∧ l[j]? = some y) := by
  by_cases e : j = i
  · subst e
    by_cases hl : j < l.length
    · rw [List.getElem?_set_self hl] at h
      exact .inl ⟨rfl, (Option.some.inj h).symm, hl⟩
    · rw [List.getElem?_eq_none (by rw [List.length_set]; omega)] at h
      cases h
  · rw [List.getElem?_set_ne (Ne.symm e)] at h
    exact .inr ⟨e, h⟩
/-- the slot i owns fp from now on -/
def setF (F : Nat → Addr → Prop) (i : Nat) (fp : Addr → Prop) : Nat → Addr → Prop := fun j a => if j = i then fp a else F j a
omit CF OG in
theorem setF_same {F : Nat → Addr → Prop} {i : Nat} {fp : Addr → Prop} : setF F i fp i = fp := by
  funext a
  exact if_pos rfl
omit CF OG in
theorem setF_ne {F : Nat → Addr → Prop} {i j : Nat} {fp : Addr → Prop} (h : j ≠ i) : setF F i fp j = F j := by
  funext a
  exact if_neg h
omit CF OG in
theorem setF_at {F : Nat → Addr → Prop} {i j : Nat} {fp : Addr → Prop} {a : Addr} (h : setF F i fp j a) : (j = i ∧ fp a) ∨ (j ≠ i ∧ F j a) := by
  by_cases e : j = i
  · subst e
    rw [setF_same] at h
    exact .inl ⟨rfl, h⟩
  · rw [setF_ne e] at h
    exact .inr ⟨e, h⟩
/-- what a slot gets: a datum, or an object of its own -/
theorem Rep.put {K : PySem.W.Frag} {Hs : Gh} {H : Hp} {σ : St} (r : Rep K av Hs H ρ σ) {i : Nat} {v : V} {s : Sl} {fp : Addr → Prop} (hs : match s with
      | .un => ∀ a, ¬ fp a
      | .pd d => (∀ a, ¬ fp a) ∧ Rp K Hs.st v d
      | .ow t o => ∃ a, v = .ref a ∧ ORep K Hs.st H a fp o ∧ ∀ k, t = some k → av[k]? = some (.ref a)) (hi : i < ρ.length) (hf : ∀ b, fp b → Hs.st b = none ∧ (∀ j, j ≠ i → ¬ Hs.F j b) ∧ (Hs.ow b ∨ Fre OG.h0 b)) :
    Rep K av { Hs with F := setF Hs.F i fp } H (ρ.set i s) (σ.set i (some v)) := by
  refine ⟨r.same, by rw [List.length_set, List.length_set]; exact r.len, fun j x e => ?_, fun j a h => ?_, fun j k a h1 h2 => ?_, fun a h => ?_, r.tab, r.nt, ⟨r.org.st, r.org.nw, r.org.keep, fun a h => ?_, r.org.dom⟩⟩
  · rcases set_get e with ⟨rfl, rfl, hl⟩ | ⟨hj, e⟩
    · rw [List.getElem?_set_self (by rw [← r.len]; exact hl)]
      cases x with
      | un => trivial
      | pd d => exact ⟨v, rfl, hs.2⟩
      | ow t o =>
        obtain ⟨a, rfl, h1, h2⟩ := hs
        exact ⟨a, rfl, by show ORep K Hs.st H a (setF Hs.F j fp j) o; rw [setF_same]; exact h1, h2⟩
    · rw [List.getElem?_set_ne (Ne.symm hj)]
      have q := r.sl j x e
      cases x with
      | un => trivial
      | pd d => exact q
      | ow t o =>
        obtain ⟨a, h1, h2, h3⟩ := q
        exact ⟨a, h1, by show ORep K Hs.st H a (setF Hs.F i fp j) o; rw [setF_ne hj]; exact h2, h3⟩
  · rcases setF_at h with ⟨rfl, y⟩ | ⟨hj, y⟩
    · rw [List.getElem?_set_self hi]
      cases s with
      | un => exact (hs a y).elim
      | pd d => exact (hs.1 a y).elim
      | ow t o => exact ⟨t, o, rfl⟩
    · rw [List.getElem?_set_ne (Ne.symm hj)]
      exact r.out j a y
  · rcases setF_at h1 with ⟨rfl, y1⟩ | ⟨hj, y1⟩
    · rcases setF_at h2 with ⟨rfl, y2⟩ | ⟨hk, y2⟩
      · rfl
      · exact ((hf a y1).2.1 k hk y2).elim
    · rcases setF_at h2 with ⟨rfl, y2⟩ | ⟨hk, y2⟩
      · exact ((hf a y2).2.1 j hj y1).elim
      · exact r.dis j k a y1 y2
  · obtain ⟨j, h⟩ := h
    rcases setF_at h with ⟨rfl, y⟩ | ⟨hj, y⟩
    · exact (hf a y).1
    · exact r.fre a ⟨j, y⟩
  · obtain ⟨j, h⟩ := h
    rcases setF_at h with ⟨rfl, y⟩ | ⟨hj, y⟩
    · exact (hf a y).2.2.elim (r.org.own a) .inr
    · exact r.org.own a ⟨j, y⟩
theorem step_F {Hs : Gh} {H : Hp} {F : Nat → Addr → Prop} (h : ∀ j a, F j a → Hs.ow a ∨ Fre H a) : Step Hs H { Hs with F := F } H :=
  ⟨⟨Same.refl _, fun _ _ z => .inl z, fun _ _ z _ _ => z, fun a ⟨j, z⟩ => h j a z, fun _ z => z⟩⟩
theorem Rep.freeze {K : PySem.W.Frag} {Hs : Gh} {H : Hp} {σ : St} (r : Rep K av Hs H ρ σ) {i : Nat} {t : Option Nat} {o : MO} {d : D} (h : ρ[i]? = some (.ow t o)) (hd : frz (.ow t o) = some d) :
    ∃ Hs', Rep K av Hs' H (ρ.set i (.pd d)) σ ∧ Step Hs H Hs' H := by
  obtain ⟨a, h1, h2, h5⟩ := r.sl i _ h
  have hl : i < ρ.length := (List.getElem?_eq_some_iff.mp h).1
  have hr := h2.root
  have hfr := r.fre a ⟨i, hr⟩
  -- the footprint is the object alone
  have go : ∀ {u : HO}, (∀ b, Hs.F i b ↔ b = a) → H a = some u → (∀ ps, u ≠ .tbl ps) → (Same Hs.st (upd Hs.st a u) → Rp K (upd Hs.st a u) (.ref a) d) → ∃ Hs', Rep K av Hs' H (ρ.set i (.pd d)) σ ∧ Step Hs H Hs' H := fun {u} hF hu hn hp => by
    have sm : Same Hs.st (upd Hs.st a u) := same_upd hfr
    have hσ : σ.set i (some (.ref a)) = σ := by
      have hl2 : i < σ.length := by rw [← r.len]; exact hl
      have e : σ[i] = some (V.ref a) := by
        have := List.getElem?_eq_getElem hl2
        rw [h1] at this
        exact (Option.some.inj this).symm
      rw [← e]
      exact List.set_getElem_self hl2
    refine ⟨{ Hs with st := upd Hs.st a u, F := setF Hs.F i fun _ => False }, ⟨Grow.frz r.same hu, by rw [List.length_set]; exact r.len, fun j x e => ?_, fun j b z => ?_, fun j k b z1 z2 => ?_, fun b ⟨j, z⟩ => ?_, r.tab, fun b ps z => ?_, ⟨r.org.st.trans sm, fun b x z => ?_, r.org.keep, fun b ⟨j, z⟩ => ?_, r.org.dom⟩⟩,
      ⟨⟨sm, fun b x z => ?_, fun b x z _ _ => z, fun b ⟨j, z⟩ => ?_, fun _ z => z⟩⟩⟩
    · rcases set_get e with ⟨rfl, rfl, _⟩ | ⟨hj, e⟩
      · exact ⟨.ref a, h1, hp sm⟩
      · have q := r.sl j x e
        cases x with
        | un => trivial
        | pd d' =>
          obtain ⟨v, q1, q2⟩ := q
          exact ⟨v, q1, Rp.mono sm _ _ q2⟩
        | ow t' o' =>
          obtain ⟨b, q1, q2, q3⟩ := q
          refine ⟨b, q1, ?_, q3⟩
          show ORep K (upd Hs.st a u) H b (setF Hs.F i (fun _ => False) j) o'
          rw [setF_ne hj]
          exact q2.mono sm fun _ _ _ z _ => z
    · rcases setF_at (show setF Hs.F i (fun _ => False) j b from z) with ⟨_, y⟩ | ⟨hj, y⟩
      · exact y.elim
      · rw [List.getElem?_set_ne (Ne.symm hj)]
        exact r.out j b y
    · rcases setF_at (show setF Hs.F i (fun _ => False) j b from z1) with ⟨_, y⟩ | ⟨hj, y1⟩
      · exact y.elim
      · rcases setF_at (show setF Hs.F i (fun _ => False) k b from z2) with ⟨_, y⟩ | ⟨hk, y2⟩
        · exact y.elim
        · exact r.dis j k b y1 y2
    · rcases setF_at (show setF Hs.F i (fun _ => False) j b from z) with ⟨_, y⟩ | ⟨hj, y⟩
      · exact y.elim
      · have nb : b ≠ a := fun x => hj (r.dis j i b y ((hF b).mpr x))
        show upd Hs.st a u b = none
        rw [upd_ne nb]
        exact r.fre b ⟨j, y⟩
    · have z : upd Hs.st a u b = _ := z
      by_cases hb : b = a
      · subst hb
        rw [upd_same] at z
        exact hn ps (Option.some.inj z)
      · rw [upd_ne hb] at z
        exact r.nt b ps z
    · have z : upd Hs.st a u b = _ := z
      by_cases hb : b = a
      · subst hb
        exact (r.org.own b ⟨i, hr⟩).elim (fun y => .inr (.inr y)) fun y => .inr (.inl y)
      · rw [upd_ne hb] at z
        exact r.org.nw b x z
    · rcases setF_at (show setF Hs.F i (fun _ => False) j b from z) with ⟨_, y⟩ | ⟨hj, y⟩
      · exact y.elim
      · exact r.org.own b ⟨j, y⟩
    · have z : upd Hs.st a u b = _ := z
      by_cases hb : b = a
      · subst hb
        exact .inr (.inr ⟨i, hr⟩)
      · rw [upd_ne hb] at z
        exact .inl z
    · rcases setF_at (show setF Hs.F i (fun _ => False) j b from z) with ⟨_, y⟩ | ⟨hj, y⟩
      · exact y.elim
      · exact .inl ⟨j, y⟩
  cases o with
  | lst ds =>
    cases hd
    obtain ⟨hF, vs, h3, h4⟩ := h2
    exact go hF h3 noL.1 fun sm => .lst upd_same (RpAll.mono sm _ _ h4)
  | dct b ks =>
    cases b with
    | false =>
      cases hd
      obtain ⟨hF, vs, h3, h4⟩ := h2
      exact go hF h3 noDK.1 fun sm => .dk upd_same (RpKs.mono sm _ _ h4)
    | true =>
      cases hd
      obtain ⟨hF, vs, h3, h4⟩ := h2
      exact go hF h3 noDT.1 fun sm => .dt upd_same (RpTs.mono sm _ _ h4)
  | net ps => cases hd

/-! ### targets -/
theorem Rep.set_pd {K : PySem.W.Frag} {Hs : Gh} {H : Hp} {σ : St} (r : Rep K av Hs H ρ σ) {i : Nat} {v : V} {d : D} (hv : Rp K Hs.st v d) (hi : i < ρ.length) : Rep K av { Hs with F := setF Hs.F i fun _ => False } H (ρ.set i (.pd d)) (σ.set i (some v)) ∧ Step Hs H { Hs with F := setF Hs.F i fun _ => False } H :=
  ⟨r.put (s := .pd d) ⟨fun _ z => z, hv⟩ hi fun _ z => z.elim, step_F fun j a z => by
    rcases setF_at z with ⟨_, z⟩ | ⟨_, z⟩
    · exact z.elim
    · exact .inl ⟨j, z⟩⟩
omit CF OG in
/-- past the slots nothing is set -/
theorem set_out {α : Type} {l : List α} {i : Nat} {x : α} (h : ¬ i < l.length) : l.set i x = l := List.set_eq_of_length_le (by omega)
/-- what a slot may hold: v as s, owning fp -/
def Holds (K : PySem.W.Frag) (av : List V) (Hs : Gh) (H : Hp) (v : V) (fp : Addr → Prop) : Sl → Prop
  | .un => ∀ a, ¬ fp a
  | .pd d => (∀ a, ¬ fp a) ∧ Rp K Hs.st v d
  | .ow t o => ∃ a, v = .ref a ∧ ORep K Hs.st H a fp o ∧ ∀ k, t = some k → av[k]? = some (.ref a)
theorem Rep.seti {K : PySem.W.Frag} {Hs : Gh} {H : Hp} {σ : St} (r : Rep K av Hs H ρ σ) {i : Nat} {v : V} {s : Sl} {fp : Addr → Prop} (hs : Holds K av Hs H v fp s) (hf : ∀ b, fp b → Hs.st b = none ∧ ¬ Hs.ow b ∧ Fre OG.h0 b) :
    ∃ Hs' : Gh, Hs'.st = Hs.st ∧ Rep K av Hs' H (ρ.set i s) (σ.set i (some v)) ∧ ∀ b, Hs'.ow b → Hs.ow b ∨ fp b := by
  by_cases hi : i < ρ.length
  · refine ⟨{ Hs with F := setF Hs.F i fp }, rfl, r.put (by cases s <;> exact hs) hi fun b hb => ⟨(hf b hb).1, fun j _ z => (hf b hb).2.1 ⟨j, z⟩, .inr (hf b hb).2.2⟩, fun b ⟨j, z⟩ => ?_⟩
    rcases setF_at z with ⟨_, z⟩ | ⟨_, z⟩
    · exact .inr z
    · exact .inl ⟨j, z⟩
  · refine ⟨Hs, rfl, ?_, fun b z => .inl z⟩
    rw [set_out hi, set_out (by rw [← r.len]; exact hi)]
    exact r
theorem VRep.holds {K : PySem.W.Frag} {Hs : Gh} {H0 H : Hp} {v : V} : ∀ {s : Sl}, VRep K H0 Hs H v s → ∃ fp, Holds K av Hs H v fp (nrm s) ∧ ∀ b, fp b → Fre H0 b ∧ Hs.st b = none ∧ ¬ Hs.ow b ∧ ∃ u, H b = some u ∧ NoTE u
  | .un, h => h.elim
  | .pd d, h => ⟨fun _ => False, ⟨fun _ z => z, h⟩, fun _ z => z.elim⟩
  | .ow t o, ⟨a, fp, e, h1, h2⟩ => ⟨fp, ⟨a, e, h1, fun k z => by cases z⟩, fun b hb => ⟨(h2 b hb).1, (h2 b hb).2.1, (h2 b hb).2.2, h1.there b hb⟩⟩
theorem Holds.step {K : PySem.W.Frag} {Hs Hs' : Gh} {H H' : Hp} {v : V} {fp : Addr → Prop} (st : Same Hs.st Hs'.st) (kp : ∀ b, fp b → ∀ u, H b = some u → NoTE u → H' b = some u) : ∀ {s : Sl}, Holds K av Hs H v fp s → Holds K av Hs' H' v fp s
  | .un, h => h
  | .pd d, h => ⟨h.1, Rp.mono st _ _ h.2⟩
  | .ow t o, ⟨a, e, h1, h2⟩ => ⟨a, e, h1.mono st kp, h2⟩
variable {QG : Ev → Prop}
theorem gx_name (i : Nat) {x : Str} {d : D} {pos : Pos} (q : QG (ρ.set i (.pd d))) (hN : X.N.Nodup) (hi : X.N[i]? = some x := by rfl) (hx : Loc X.env.scope x := by first | exact Or.inl rfl | exact Or.inr rfl)
    (hf : X.fn x = true ∨ X.env.scope.names.lookup x = some .local := by first | exact Or.inl rfl | exact Or.inr rfl) : GX X av (.Name x pos) d ρ QG := fun Hs H σ v R r hv k =>
  sG.of (pg_name hN hi hx hf) (by
    by_cases hl : i < ρ.length
    · obtain ⟨r1, s1⟩ := r.set_pd hv hl
      exact k _ _ _ (by rfl) s1 r1 q
    · show R (σ.set i (some v)) H
      rw [set_out (by rw [← r.len]; exact hl)]
      rw [set_out hl] at q
      exact k _ _ _ rfl Step.refl r q)
theorem gxs_nil (q : QG ρ) : GsX X av [] [] ρ QG := fun Hs H σ vs R r hv k => sGs.of pgs_nil (by
  cases hv
  exact ⟨rfl, k σ ρ Hs rfl Step.refl r q⟩)
theorem gxs_cons {tg : Expr} {ts : List Expr} {d : D} {ds : List D} (h : GX X av tg d ρ fun ρ1 => GsX X av ts ds ρ1 QG) (hs : (assignEach (tg :: ts) X.env).map (·.2) = assign tg X.env :: (assignEach ts X.env).map (·.2) := by rfl) : GsX X av (tg :: ts) (d :: ds) ρ QG := fun Hs H σ vs R r hv k =>
  sGs.of (pgs_cons pg_s pgs_s hs) (by
    cases hv with
    | cons h1 h2 => exact ⟨_, _, rfl, h Hs H σ _ _ r h1 fun σ1 ρ1 Hs1 e1 s1 r1 q1 => q1 Hs1 H σ1 _ R r1 (by rw [e1]; exact h2) fun σ2 ρ2 Hs2 e2 s2 r2 q2 => k σ2 ρ2 Hs2 (e2.trans e1) (s1.trans s2) r2 q2⟩)
theorem gx_tup {ts : List Expr} {k : Nat} {n : Nat} {d : D} {pos : Pos} (h : ∃ ds, d = .tuple ds ∧ ds.length = n ∧ GsX X av ts ds ρ QG) (hc : X.calm = true := by rfl)
    (hn : (assignEach ts X.env).length = n := by rfl) (hst : (assignEach ts X.env).findIdx? (·.1) = none := by rfl) : GX X av (.Tuple ts k pos) d ρ QG := fun Hs H σ v R r hv kk => by
  obtain ⟨ds, rfl, hl, q⟩ := h
  cases hv with
  | tup h1 h2 => exact sG.of (pg_tup hc pgs_s hn hst) ⟨_, _, rfl, .inl (.inl (r.same _ _ h1)), h2.length.trans hl, q Hs H σ _ R r h2 kk⟩

/-! ### assignments -/
theorem sx_asg {tg : Expr} {pos : Pos} (h : ED X av e ρ fun d ρ1 => GX X av tg d ρ1 Φ.nx) (hs : swapsWithSole [tg] e pos.line X.env = pure false := by rfl) (hw : swappedStores [tg] e X.env = pure none := by rfl)
    (h1 : (assignEach [tg] X.env).map (·.2) = [assign tg X.env] := by rfl) : SX X av (.Assign [tg] e pos) ρ Φ :=
  sx_of (ps_asg pe_s pg_s hs hw h1) fun Hs H σ D r k => h.run r fun v d ρ1 Hs1 H1 st r1 rp q => q Hs1 H1 σ v _ r1 rp fun σ2 ρ2 Hs2 _ s2 r2 q2 => k.nx σ2 ρ2 Hs2 H1 (st.trans s2) r2 q2
/-- x = e, whatever e hands back -/
theorem Rep.set_any {K : PySem.W.Frag} {Hs : Gh} {H0 H : Hp} {σ : St} (r : Rep K av Hs H ρ σ) {i : Nat} {v : V} (hi : i < ρ.length) (h0 : ∀ a, Fre H0 a → Fre OG.h0 a) : ∀ {s : Sl}, VRep K H0 Hs H v s →
    ∃ Hs', Rep K av Hs' H (ρ.set i (nrm s)) (σ.set i (some v)) ∧ ∀ {G0 : Gh}, Step G0 H0 Hs H → Step G0 H0 Hs' H
  | .un, hv => hv.elim
  | .pd d, hv => ⟨_, (r.set_pd hv hi).1, fun s => s.trans (r.set_pd hv hi).2⟩
  | .ow t o, ⟨a, fp, e, hr, hf⟩ => ⟨_, r.put (s := .ow none o) ⟨a, e, hr, fun k z => by cases z⟩ hi fun b hb => ⟨(hf b hb).2.1, fun j _ z => (hf b hb).2.2 ⟨j, z⟩, .inr (h0 b (hf b hb).1)⟩, fun {G0} s =>
    ⟨⟨s.st, s.nw, s.keep, fun b ⟨j, z⟩ => by
      rcases setF_at z with ⟨_, z⟩ | ⟨_, z⟩
      · exact .inr (hf b z).1
      · exact s.own b ⟨j, z⟩, s.dom⟩⟩⟩
theorem sx_set (i : Nat) {x : Str} {pos pos' : Pos} (hN : X.N.Nodup) (h : EX X av e ρ fun s ρ1 => Φ.nx (ρ1.set i (nrm s)))
    (hi : X.N[i]? = some x := by rfl) (hx : Loc X.env.scope x := by first | exact Or.inl rfl | exact Or.inr rfl) (hs : swapsWith e (some (.Name x pos')) pos.line X.env = pure false := by rfl)
    (hf : X.fn x = true ∨ X.env.scope.names.lookup x = some .local := by first | exact Or.inl rfl | exact Or.inr rfl) : SX X av (.Assign [.Name x pos'] e pos) ρ Φ :=
  sx_of (ps_set hN hi hx pe_s hs hf) fun Hs H σ D r k => h Hs H σ _ r fun v s ρ1 Hs1 H1 st r1 hv q => by
    by_cases hl : i < ρ1.length
    · obtain ⟨Hs2, r2, o2⟩ := r1.set_any (i := i) hl r.org.dom hv
      exact k.nx _ _ Hs2 H1 (o2 st) r2 q
    · show D.nx (σ.set i (some v)) H1
      rw [set_out (by rw [← r1.len]; exact hl)]
      have q : Φ.nx (ρ1.set i (nrm s)) := q
      rw [set_out hl] at q
      exact k.nx _ _ Hs1 H1 st r1 q

/-! ### if, return -/
theorem sx_if {c : Expr} {s1 s2 : List Stmt} {pos : Pos} (h : TX X av c ρ fun k ρ1 => (k = true → BX X av s1 ρ1 Φ) ∧ (k = false → BX X av s2 ρ1 Φ)) : SX X av (.If c s1 s2 pos) ρ Φ :=
  sx_of (ps_if pt_s pb_s pb_s) fun Hs H σ D r k => h Hs H σ _ r fun c ρ1 Hs1 H1 st r1 ⟨q1, q2⟩ => by
    cases c with
    | true => exact q1 rfl Hs1 H1 σ D r1 (k.back st)
    | false => exact q2 rfl Hs1 H1 σ D r1 (k.back st)
theorem sx_ret {pos : Pos} (h : EX X av e ρ Φ.rt) : SX X av (.Return (some e) pos) ρ Φ := sx_of (ps_ret pe_s) fun Hs H σ D r k => h Hs H σ D.rt r fun v s ρ1 Hs1 H1 st r1 hv q => k.rt v s σ ρ1 Hs1 H1 st r1 hv q
theorem sx_retN {pos : Pos} (q : Φ.rt (.pd .none) ρ) : SX X av (.Return none pos) ρ Φ := sx_of ps_retN fun Hs H σ D r k => k.rt .non (.pd .none) σ ρ Hs H Step.refl r Rp.non q
theorem sx_pass {pos : Pos} (q : Φ.nx ρ) : SX X av (.Pass pos) ρ Φ := sx_of ps_pass fun Hs H σ D r k => k.nx σ ρ Hs H Step.refl r q
theorem sx_break {pos : Pos} (q : Φ.bk ρ) : SX X av (.Break pos) ρ Φ := sx_of ps_break fun Hs H σ D r k => k.bk σ ρ Hs H Step.refl r q
theorem sx_continue {pos : Pos} (q : Φ.ct ρ) : SX X av (.Continue pos) ρ Φ := sx_of ps_continue fun Hs H σ D r k => k.ct σ ρ Hs H Step.refl r q
theorem sx_drop {pos : Pos} (h : ED X av e ρ fun _ ρ1 => Φ.nx ρ1) (hs : swapsWith e none pos.line X.env = pure false := by rfl) : SX X av (.Expr e pos) ρ Φ :=
  sx_of (ps_expr pe_s hs) fun Hs H σ D r k => h.run r fun v d ρ1 Hs1 H1 st r1 rp q => k.nx σ ρ1 Hs1 H1 st r1 q
end
end DW

set_option Elab.async false
set_option autoImplicit false
set_option linter.all false
set_option maxRecDepth 100000
/-! DW4: owned lists, subscripts, slices, built-ins, loops, comprehensions, calls -/
namespace DW
open PySem PySem.Spec L2
open PyProof.Rows hiding St
section
variable [CF : Cfg] [OG : Org]
variable {X : Cx} {av : List V} {ρ : Ev} {e a b : Expr} {es : List Expr} {st : Stmt} {sts : List Stmt} {Φ : Ph} {Q : Sl → Ev → Prop}

/-! ### owned lists -/
theorem Rep.ow_at {K : PySem.W.Frag} {Hs : Gh} {H : Hp} {σ : St} (r : Rep K av Hs H ρ σ) {i : Nat} {t : Option Nat} {ds : List D} (h : ρ[i]? = some (.ow t (.lst ds))) : ∃ (a : Addr) (vs : List V), σ[i]? = some (some (.ref a)) ∧ (∀ b, Hs.F i b ↔ b = a) ∧ H a = some (.lst vs) ∧ RpAll K Hs.st vs ds := by
  obtain ⟨a, h1, ⟨h2, vs, h3, h4⟩, h5⟩ := r.sl i _ h
  exact ⟨a, vs, h1, h2, h3, h4⟩
/-- an owned object is written in place: what else the slot owns stays -/
theorem Rep.ow_write {K : PySem.W.Frag} {Hs : Gh} {H H' : Hp} {σ : St} (r : Rep K av Hs H ρ σ) {i : Nat} {t : Option Nat} {o o' : MO} (h : ρ[i]? = some (.ow t o)) (hk : ∀ b u, H b = some u → ¬ Hs.F i b → H' b = some u) (hd : ∀ b, Fre H' b → Fre H b) (hr : ∀ a, ORep K Hs.st H a (Hs.F i) o → ORep K Hs.st H' a (Hs.F i) o') :
    Rep K av Hs H' (ρ.set i (.ow t o')) σ ∧ Step Hs H Hs H' := by
  have hlt : i < ρ.length := (List.getElem?_eq_some_iff.mp h).1
  have keep : ∀ b u, H b = some u → ¬ NoTE u → H' b = some u := fun b u hb hn => hk b u hb fun z => by
    obtain ⟨_, x, hx, n⟩ := r.owned ⟨i, z⟩
    rw [hb] at hx
    cases hx
    exact hn n
  have co : Core Hs.st H Hs.ow Hs.st H' Hs.ow := ⟨Same.refl _, fun b x q => .inl q, fun b x q n _ => hk b x q fun z => n ⟨i, z⟩, fun b q => .inl q, hd⟩
  refine ⟨⟨fun b x q => hk b x (r.same b x q) fun z => (by rw [r.fre b ⟨i, z⟩] at q; cases q), (by rw [List.length_set]; exact r.len), fun j s q => ?_, fun j b z => ?_, r.dis, r.fre, tabs_upd r.tab keep, r.nt, r.org.trans co⟩, ⟨co⟩⟩
  · rcases set_get q with ⟨rfl, rfl, _⟩ | ⟨hj, q⟩
    · obtain ⟨a, h1, h2, h3⟩ := r.sl j _ h
      exact ⟨a, h1, hr a h2, h3⟩
    · have z := r.sl j s q
      cases s with
      | un => trivial
      | pd d => exact z
      | ow t' x =>
        obtain ⟨b, z1, z2, z3⟩ := z
        exact ⟨b, z1, z2.mono (Same.refl _) fun c hc u hu _ => hk c u hu fun y => hj (r.dis j i c hc y), z3⟩
  · obtain ⟨t1, o1, z1⟩ := r.out j b z
    by_cases hj : j = i
    · subst hj
      rw [List.getElem?_set_self hlt]
      exact ⟨_, _, rfl⟩
    · rw [List.getElem?_set_ne (Ne.symm hj)]
      exact ⟨t1, o1, z1⟩
/-- an owned list is changed in place -/
theorem Rep.ow_put {K : PySem.W.Frag} {Hs : Gh} {H : Hp} {σ : St} (r : Rep K av Hs H ρ σ) {i : Nat} {t : Option Nat} {ds : List D} {a : Addr} (h : ρ[i]? = some (.ow t (.lst ds))) (ha : σ[i]? = some (some (.ref a))) {ws : List V} {es : List D} (hr : RpAll K Hs.st ws es) :
    Rep K av Hs (upd H a (.lst ws)) (ρ.set i (.ow t (.lst es))) σ ∧ Step Hs H Hs (upd H a (.lst ws)) := by
  obtain ⟨a', vs, h1, hF, _⟩ := r.ow_at h
  rw [ha] at h1
  cases h1
  refine r.ow_write h (fun b u q n => by rw [upd_ne fun z => n ((hF b).mpr z)]; exact q) (fun b q => ?_) fun a' h => ?_
  · by_cases hb : b = a
    · rw [hb] at q
      exact (q.no upd_same noL.1).elim
    · exact fun o e => q o (by rw [upd_ne hb]; exact e)
  · have e : a' = a := (hF a').mp ((h.1 a').mpr rfl)
    subst e
    exact ⟨h.1, ws, upd_same, hr⟩
/-- x.append(e) -/
theorem sx_append (i : Nat) {x : Str} {p apos cpos pos : Pos} (h : ED X av e ρ fun d ρ1 => ∃ t ds, ρ1[i]? = some (.ow t (.lst ds)) ∧ ds.length < 100000 ∧ Φ.nx (ρ1.set i (.ow t (.lst (ds ++ [d])))))
    (h0 : ∃ t ds, ρ[i]? = some (.ow t (.lst ds)))
    (hN : X.N[i]? = some x := by rfl) (hv : Vis X.env.scope x := by first | exact Or.inl rfl | exact Or.inr (Or.inl rfl) | exact Or.inr (Or.inr rfl))
    (hd : (x == ("__debug__" : Str)) = false := by decide) (hcd : (x == ("__classdict__" : Str)) = false := by decide)
    (hbase : attributeBase (.Name x p) "append" X.env (eval (.Name x p) X.env) = eval (.Name x p) X.env := by rfl)
    (hfew : ((backTo cpos (starEach [e] X.env)).all (fun x => !x.1) && (backToKw cpos (keywordEach [] X.env)).all (fun x => x.1.isSome)
      && decide ([e].length + ([] : List Keyword).length + (if ([] : List Keyword).isEmpty then 0 else 1) < 30)) = true := by rfl)
    (hline : (apos.endLine == cpos.line) = true := by rfl) (hs1 : starEach [e] X.env = (false, eval e X.env) :: starEach [] X.env := by rfl) (hplain : (backTo cpos (starEach [] X.env)).any (·.1) = false := by rfl)
    (hs : swapsWith (.Call (.Attribute (.Name x p) "append" apos) [e] [] cpos) none pos.line X.env = pure false := by rfl) :
    SX X av (.Expr (.Call (.Attribute (.Name x p) "append" apos) [e] [] cpos) pos) ρ Φ :=
  sx_of (ps_expr (pe_bm PySem.F.plainAttrs_list PySem.F.slot_list_append PySem.F.type_list_append mt_append (pv i hN hv hd hcd) (pa_cons pe_s pa_nil hs1) hbase hfew hline hs1 hplain) hs) fun Hs H σ D r k => by
    obtain ⟨t, ds, h0⟩ := h0
    obtain ⟨a, vs, h1, h2, h3, h4⟩ := r.ow_at h0
    refine ⟨.ref a, h1, .inl ⟨rfl, vs, .inl (.inl h3)⟩, h.run r fun v d ρ1 Hs1 H1 s1 r1 rp q => ?_⟩
    obtain ⟨t, ds, g0, gl, q⟩ := q
    obtain ⟨a', vs', g1, g2, g3, g4⟩ := r1.ow_at g0
    rw [h1] at g1
    cases g1
    obtain ⟨r2, s2⟩ := r1.ow_put g0 h1 (g4.append (.cons rp .nil))
    exact ⟨a, vs', v, rfl, rfl, g3, Nat.lt_of_lt_of_le (by rw [g4.length]; exact gl) (by decide : 100000 ≤ sizeLine), k.nx σ _ Hs1 _ (s1.trans s2) r2 q⟩
/-! ### subscripts -/
omit CF OG in
theorem RpAll.atI {K : PySem.W.Frag} {Hs : Hp} {vs : List V} {ds : List D} {k : Int} {d : D} (r : RpAll K Hs vs ds) (h : L2.atI ds k = some d) : ∃ v, L2.atI vs k = some v ∧ Rp K Hs v d := by
  unfold L2.atI at h ⊢
  rw [r.length]
  cases e : ixN ds.length k with
  | none =>
    rw [e] at h
    cases h
  | some j =>
    rw [e] at h
    exact r.get h
def IxD : D → Int → Option D
  | .list ds, k => L2.atI ds k
  | .tuple ds, k => L2.atI ds k
  | .dict [(.list ds, .none)], k => L2.atI ds k
  | _, _ => none
omit CF OG in
theorem ixd_dk {K : PySem.W.Frag} {H : Hp} {ks : List (Key × V)} {ds : List (D × D)} {k : Int} (h : RpKs K H ks ds) : IxD (.dict ds) k = none := by
  cases h with
  | nil => rfl
  | @cons key _ _ _ _ _ _ => cases key <;> rfl
theorem ex_ix {pos : Pos} (h : ED X av a ρ fun x ρ1 => ED X av b ρ1 fun y ρ2 => ∃ k d, y = .int k ∧ IxD x k = some d ∧ Q (.pd d) ρ2) (hp : PlainIx b := by intro _ _; rfl) : EX X av (.Subscript a b pos) ρ Q :=
  ex_of (pe_ix ix_seq pe_s pe_s hp) fun Hs H σ R r k => two_run (α := Unit) h r fun vx vy x y ρ' Hs' H' st r' px py ⟨i, d, e1, e2, q⟩ => by
    subst e1
    cases py
    have kk := k.ret st r' q
    cases px with
    | lst h1 h2 =>
      obtain ⟨v, f1, f2⟩ := h2.atI e2
      exact .inl ⟨_, _, _, v, rfl, rfl, .inl (.inl (r'.same _ _ h1)), f1, kk.val r'.same f2⟩
    | tup h1 h2 =>
      obtain ⟨v, f1, f2⟩ := h2.atI e2
      exact .inr (.inl ⟨_, _, _, v, rfl, rfl, .inl (.inl (r'.same _ _ h1)), f1, kk.val r'.same f2⟩)
    | frl h1 h2 =>
      obtain ⟨v, f1, f2⟩ := h2.atI e2
      exact .inl ⟨_, _, _, v, rfl, rfl, r'.same.seq h1, f1, kk.val r'.same f2⟩
    | non => cases e2
    | bl _ => cases e2
    | int _ => cases e2
    | str _ => cases e2
    | dk h1 h2 =>
      rw [ixd_dk h2] at e2
      cases e2
    | dt h1 h2 => cases e2
/-- of an owned list -/
theorem ex_ixO (i : Nat) {x : Str} {p pos : Pos} (h : ED X av b ρ fun y ρ2 => ∃ t ds k d, ρ2[i]? = some (.ow t (.lst ds)) ∧ y = .int k ∧ L2.atI ds k = some d ∧ Q (.pd d) ρ2) (h0 : ∃ t ds, ρ[i]? = some (.ow t (.lst ds)))
    (hp : PlainIx b := by intro _ _; rfl) (hN : X.N[i]? = some x := by rfl) (hv : Vis X.env.scope x := by first | exact Or.inl rfl | exact Or.inr (Or.inl rfl) | exact Or.inr (Or.inr rfl))
    (hd : (x == ("__debug__" : Str)) = false := by decide) (hcd : (x == ("__classdict__" : Str)) = false := by decide) : EX X av (.Subscript (.Name x p) b pos) ρ Q :=
  ex_of (pe_ix ix_list (pv i hN hv hd hcd) pe_s hp) fun Hs H σ R r k => by
    obtain ⟨t, ds, h0⟩ := h0
    obtain ⟨a, vs, h1, h2, h3, h4⟩ := r.ow_at h0
    refine ⟨.ref a, h1, h.run r fun v y ρ1 Hs1 H1 s1 r1 rp q => ?_⟩
    obtain ⟨t, ds, n, d, g0, rfl, e2, q⟩ := q
    cases rp
    obtain ⟨a', vs', g1, g2, g3, g4⟩ := r1.ow_at g0
    rw [h1] at g1
    cases g1
    obtain ⟨w, f1, f2⟩ := g4.atI e2
    exact ⟨a, vs', n, w, rfl, rfl, .inl (.inl g3), f1, (k.ret s1 r1 q).val r1.same f2⟩
/-- x[k] = e, x an owned list -/
theorem sx_setix (i : Nat) {x : Str} {p ps pos : Pos} (h : ED X av e ρ fun d ρ1 => ED X av b ρ1 fun y ρ2 => ∃ t ds k j, ρ2[i]? = some (Sl.ow t (.lst ds)) ∧ y = .int k ∧ ixN ds.length k = some j ∧ Φ.nx (ρ2.set i (.ow t (.lst (ds.set j d)))))
    (h0 : ∃ t ds, ρ[i]? = some (Sl.ow t (.lst ds)))
    (hN : X.N[i]? = some x := by rfl) (hv : Vis X.env.scope x := by first | exact Or.inl rfl | exact Or.inr (Or.inl rfl) | exact Or.inr (Or.inr rfl))
    (hd : (x == ("__debug__" : Str)) = false := by decide) (hcd : (x == ("__classdict__" : Str)) = false := by decide)
    (ha : ∀ v, assign (.Subscript (.Name x p) b ps) X.env v = (do
      let ov ← holding [v] (eval (.Name x p) X.env)
      let iv ← holding [v, ov] (eval b X.env)
      standAt ps
      holding [v, ov, iv] (setItem ov iv v)
      release [v, ov, iv] []) := by intro _; rfl)
    (hs : swapsWithSole [.Subscript (.Name x p) b ps] e pos.line X.env = pure false := by rfl) (hw : swappedStores [.Subscript (.Name x p) b ps] e X.env = pure none := by rfl)
    (h1 : (assignEach [.Subscript (.Name x p) b ps] X.env).map (·.2) = [assign (.Subscript (.Name x p) b ps) X.env] := by rfl) : SX X av (.Assign [.Subscript (.Name x p) b ps] e pos) ρ Φ :=
  sx_of (ps_asg pe_s (pg_sub (pv i hN hv hd hcd) pe_s set_list ha) hs hw h1) fun Hs H σ D r k => by
    obtain ⟨t, ds, h0⟩ := h0
    obtain ⟨a, vs, g1, g2, g3, g4⟩ := r.ow_at h0
    refine h.run r fun v d ρ1 Hs1 H1 s1 r1 rp q => ?_
    refine ⟨.ref a, g1, q.run r1 fun w y ρ2 Hs2 H2 s2 r2 rq q => ?_⟩
    obtain ⟨t2, es, n, j, f0, rfl, fj, q⟩ := q
    cases rq
    obtain ⟨a', ws, f1, f2, f3, f4⟩ := r2.ow_at f0
    rw [g1] at f1
    cases f1
    obtain ⟨r3, s3⟩ := r2.ow_put f0 g1 (f4.set (Rp.mono s2.st _ _ rp) j)
    exact ⟨a, ws, n, j, rfl, rfl, f3, by rw [f4.length]; exact fj, k.nx σ _ Hs2 _ ((s1.trans s2).trans s3) r3 q⟩

/-! ### built-ins -/
theorem ex_callB {x : Str} {id : String} {p pos : Pos} (hv : bootBuiltins x = some (.builtin id)) (hm : X.mg x = none) (h : AX X av (e :: es) ρ fun ds ρ1 => ∃ s, BC X (.builtin id) ds s ∧ Q s ρ1)
    (hg : Gl X x := by rfl) (hn : x ≠ "__name__" := by decide) (hdb : (x == ("__debug__" : Str)) = false := by decide)
    (he : starEach (e :: es) X.env = (false, eval e X.env) :: starEach es X.env := by rfl) (hpl : (backTo pos (starEach es X.env)).any (·.1) = false := by rfl) : EX X av (.Call (.Name x p) (e :: es) [] pos) ρ Q :=
  ex_of (pe_callB ca_s hg hm hv pa_s hn hdb he hpl) fun Hs H σ R r k => h Hs H σ _ r fun vs ds ρ1 Hs1 H1 st r1 ra ⟨s, b, q⟩ => b Hs1.st H1 vs R r1.same ra (k.ret st r1 q)
theorem ex_callT {x : Str} {id : String} {p pos : Pos} (hv : bootBuiltins x = some (.type id)) (hm : X.mg x = none) (h : AX X av (e :: es) ρ fun ds ρ1 => ∃ s, BC X (.type id) ds s ∧ Q s ρ1)
    (hg : Gl X x := by rfl) (hn : x ≠ "__name__" := by decide) (hdb : (x == ("__debug__" : Str)) = false := by decide)
    (he : starEach (e :: es) X.env = (false, eval e X.env) :: starEach es X.env := by rfl) (hpl : (backTo pos (starEach es X.env)).any (·.1) = false := by rfl) : EX X av (.Call (.Name x p) (e :: es) [] pos) ρ Q :=
  ex_of (pe_callTy ca_s hg hm hv pa_s hn hdb he hpl) fun Hs H σ R r k => h Hs H σ _ r fun vs ds ρ1 Hs1 H1 st r1 ra ⟨s, b, q⟩ => b Hs1.st H1 vs R r1.same ra (k.ret st r1 q)
omit CF OG in
theorem rp1 {K : PySem.W.Frag} {Hs : Hp} {vs : List V} {d : D} (h : RpAll K Hs vs [d]) : ∃ v, vs = [v] ∧ Rp K Hs v d := by
  cases h with
  | cons h1 h2 =>
    cases h2
    exact ⟨_, rfl, h1⟩
omit CF OG in
theorem rp2 {K : PySem.W.Frag} {Hs : Hp} {vs : List V} {d f : D} (h : RpAll K Hs vs [d, f]) : ∃ v w, vs = [v, w] ∧ Rp K Hs v d ∧ Rp K Hs w f := by
  cases h with
  | cons h1 h2 =>
    obtain ⟨w, rfl, h3⟩ := rp1 h2
    exact ⟨_, w, rfl, h1, h3⟩
def SeqD : D → Option (List D)
  | .list ds => some ds
  | .tuple ds => some ds
  | .dict [(.list ds, .none)] => some ds
  | _ => none
omit CF OG in
theorem seqd_dk {K : PySem.W.Frag} {H : Hp} {ks : List (Key × V)} {ds : List (D × D)} (h : RpKs K H ks ds) : SeqD (.dict ds) = none := by
  cases h with
  | nil => rfl
  | @cons key _ _ _ _ _ _ => cases key <;> rfl
theorem bc_len {d : D} {ds : List D} (h : SeqD d = some ds) : BC X (.builtin "len") [d] (.pd (.int (ds.length : Int))) := fun Hs H vs R hs ra k => by
  obtain ⟨v, rfl, rp⟩ := rp1 ra
  have fin : ∀ {ys : List V} {n : Nat}, ys.length = n → n = ds.length → R (.int (ys.length : Nat)) H := fun h1 h2 => by
    rw [h1, h2]
    exact k.val hs (.int _)
  refine sC.of call_len_seq ?_
  cases rp with
  | lst h1 h2 => cases h; exact ⟨_, _, rfl, .inl (.inl (.inl (hs _ _ h1))), fin h2.length rfl⟩
  | tup h1 h2 => cases h; exact ⟨_, _, rfl, .inr (.inl (.inl (hs _ _ h1))), fin h2.length rfl⟩
  | frl h1 h2 => cases h; exact ⟨_, _, rfl, .inl (hs.seq h1), fin h2.length rfl⟩
  | non => cases h
  | bl _ => cases h
  | int _ => cases h
  | str _ => cases h
  | dk h1 h2 =>
    rw [seqd_dk h2] at h
    cases h
  | dt h1 h2 => cases h
theorem bc_max2 {i j : Int} (hc : X.calm = true := by rfl) : BC X (.builtin "max") [.int i, .int j] (.pd (.int (if j > i then j else i))) := fun Hs H vs R hs ra k => by
  obtain ⟨v, w, rfl, h1, h2⟩ := rp2 ra
  cases h1
  cases h2
  exact sC.of (call_max2 hc) ⟨i, j, rfl, k.val hs (.int _)⟩
theorem bc_min2 {i j : Int} (hc : X.calm = true := by rfl) : BC X (.builtin "min") [.int i, .int j] (.pd (.int (if j < i then j else i))) := fun Hs H vs R hs ra k => by
  obtain ⟨v, w, rfl, h1, h2⟩ := rp2 ra
  cases h1
  cases h2
  exact sC.of (call_min2 hc) ⟨i, j, rfl, k.val hs (.int _)⟩
theorem bc_abs {i : Int} : BC X (.builtin "abs") [.int i] (.pd (.int (if i < 0 then -i else i))) := fun Hs H vs R hs ra k => by
  obtain ⟨v, rfl, rp⟩ := rp1 ra
  cases rp
  exact sC.of call_abs ⟨i, rfl, k.val hs (.int _)⟩
theorem bc_int {i : Int} : BC X (.type "int") [.int i] (.pd (.int i)) := fun Hs H vs R hs ra k => by
  obtain ⟨v, rfl, rp⟩ := rp1 ra
  cases rp
  exact sC.of call_int1 (.inl ⟨i, rfl, k.val hs (.int _)⟩)
theorem bc_str {i : Int} (hi : i.natAbs.log2 < 1920) : BC X (.type "str") [.int i] (.pd (.str (toString i))) := fun Hs H vs R hs ra k => by
  obtain ⟨v, rfl, rp⟩ := rp1 ra
  cases rp
  exact sC.of call_str_int ⟨i, rfl, hi, k.val hs (.str _)⟩
theorem bc_intB {c : Bool} : BC X (.type "int") [.bool c] (.pd (.int (if c then 1 else 0))) := fun Hs H vs R hs ra k => by
  obtain ⟨v, rfl, rp⟩ := rp1 ra
  cases rp
  exact sC.of call_int1 (.inr ⟨c, rfl, k.val hs (.int _)⟩)
theorem bc_sum {ns : List Int} (hc : X.calm = true := by rfl) : BC X (.builtin "sum") [.list (ns.map .int)] (.pd (.int ns.sum)) := fun Hs H vs R hs ra k => by
  obtain ⟨v, rfl, rp⟩ := rp1 ra
  cases rp with
  | lst h1 h2 =>
    rw [h2.ints] at h1
    exact sC.of (cr_sum hc) ⟨_, ns, rfl, .inl (.inl (hs _ _ h1)), k.val hs (.int _)⟩
theorem bc_max {ns : List Int} {m : Int} (h0 : m ∈ ns) (hm : ∀ y ∈ ns, y ≤ m) (hc : X.calm = true := by rfl) : BC X (.builtin "max") [.list (ns.map .int)] (.pd (.int m)) := fun Hs H vs R hs ra k => by
  obtain ⟨v, rfl, rp⟩ := rp1 ra
  cases rp with
  | lst h1 h2 =>
    rw [h2.ints] at h1
    refine sC.of (cr_max hc) ⟨_, ns, rfl, .inl (.inl (hs _ _ h1)), List.length_pos_of_mem h0, fun m' a1 a2 => ?_⟩
    have e : m' = m := Int.le_antisymm (hm m' a1) (a2 m h0)
    rw [e]
    exact k.val hs (.int _)
theorem bc_min {ns : List Int} {m : Int} (h0 : m ∈ ns) (hm : ∀ y ∈ ns, m ≤ y) (hc : X.calm = true := by rfl) : BC X (.builtin "min") [.list (ns.map .int)] (.pd (.int m)) := fun Hs H vs R hs ra k => by
  obtain ⟨v, rfl, rp⟩ := rp1 ra
  cases rp with
  | lst h1 h2 =>
    rw [h2.ints] at h1
    refine sC.of (cr_min hc) ⟨_, ns, rfl, .inl (.inl (hs _ _ h1)), List.length_pos_of_mem h0, fun m' a1 a2 => ?_⟩
    have e : m' = m := Int.le_antisymm (a2 m h0) (hm m' a1)
    rw [e]
    exact k.val hs (.int _)
theorem bc_any {bs : List Bool} (hc : X.calm = true := by rfl) : BC X (.builtin "any") [.list (bs.map .bool)] (.pd (.bool (bs.any id))) := fun Hs H vs R hs ra k => by
  obtain ⟨v, rfl, rp⟩ := rp1 ra
  cases rp with
  | lst h1 h2 =>
    rw [h2.bools] at h1
    exact sC.of (cr_any hc) ⟨_, bs, rfl, .inl (.inl (hs _ _ h1)), k.val hs (.bl _)⟩
theorem bc_all {bs : List Bool} (hc : X.calm = true := by rfl) : BC X (.builtin "all") [.list (bs.map .bool)] (.pd (.bool (bs.all id))) := fun Hs H vs R hs ra k => by
  obtain ⟨v, rfl, rp⟩ := rp1 ra
  cases rp with
  | lst h1 h2 =>
    rw [h2.bools] at h1
    exact sC.of (cr_all hc) ⟨_, bs, rfl, .inl (.inl (hs _ _ h1)), k.val hs (.bl _)⟩
theorem bc_list {d : D} {ds : List D} (h : SeqD d = some ds) : BC X (.type "list") [d] (.ow none (.lst ds)) := fun Hs H vs R hs ra k => by
  obtain ⟨v, rfl, rp⟩ := rp1 ra
  refine sC.of call_list_of ?_
  cases rp with
  | lst h1 h2 => cases h; exact ⟨_, _, rfl, .inl (.inl (.inl (hs _ _ h1))), k.lst hs h2⟩
  | tup h1 h2 => cases h; exact ⟨_, _, rfl, .inr (.inl (.inl (hs _ _ h1))), k.lst hs h2⟩
  | frl h1 h2 => cases h; exact ⟨_, _, rfl, .inl (hs.seq h1), k.lst hs h2⟩
  | non => cases h
  | bl _ => cases h
  | int _ => cases h
  | str _ => cases h
  | dk h1 h2 =>
    rw [seqd_dk h2] at h
    cases h
  | dt h1 h2 => cases h
theorem bc_tuple {d : D} {ds : List D} (h : SeqD d = some ds) : BC X (.type "tuple") [d] (.pd (.tuple ds)) := fun Hs H vs R hs ra k => by
  obtain ⟨v, rfl, rp⟩ := rp1 ra
  refine sC.of call_tuple_of ?_
  cases rp with
  | lst h1 h2 => cases h; exact ⟨_, _, rfl, .inl ⟨.inl (.inl (hs _ _ h1)), k.tup hs h2⟩⟩
  | tup h1 h2 => cases h; exact ⟨_, _, rfl, .inr ⟨.inl (.inl (hs _ _ h1)), k.val hs (.tup h1 h2)⟩⟩
  | frl h1 h2 => cases h; exact ⟨_, _, rfl, .inl ⟨hs.seq h1, k.tup hs h2⟩⟩
  | non => cases h
  | bl _ => cases h
  | int _ => cases h
  | str _ => cases h
  | dk h1 h2 =>
    rw [seqd_dk h2] at h
    cases h
  | dt h1 h2 => cases h
theorem bc_sorted {ns : List Int} {s : Sl} (h : ∀ ns' : List Int, ns'.Perm ns → ns'.Pairwise (· ≤ ·) → s = .ow none (.lst (ns'.map .int))) : BC X (.builtin "sorted") [.list (ns.map .int)] s := fun Hs H vs R hs ra k => by
  obtain ⟨v, rfl, rp⟩ := rp1 ra
  cases rp with
  | lst h1 h2 =>
    rw [h2.ints] at h1
    refine sC.of cr_sortedI ⟨_, ns, rfl, .inl (.inl (hs _ _ h1)), fun ns' p hp hw hn => ?_⟩
    have e := h ns' hp hw
    subst e
    exact k.lst hs RpAll.of_ints p hn
/-- the class of a datum -/
def tyD : D → Option String
  | .none => some "NoneType"
  | .bool _ => some "bool"
  | .int _ => some "int"
  | .str _ => some "str"
  | .list _ => some "list"
  | .tuple _ => some "tuple"
  | .dict [] => some "dict"
  | .dict ((.int _, _) :: _) => some "dict"
  | .dict ((.str _, _) :: _) => some "dict"
  | _ => none
theorem tyX_of {K : PySem.W.Frag} {Hs H : Hp} {v : V} {d : D} {T : String} (hs : Same Hs H) (rp : Rp K Hs v d) (h : tyD d = some T) : TyX K H v (.type T) := by
  cases rp with
  | non => cases h; exact .base .non
  | bl b => cases h; exact .base (.bl b)
  | int i => cases h; exact .base (.int i)
  | str x => cases h; exact .base (.str x)
  | lst h1 h2 => cases h; exact .base (.lst (hs _ _ h1))
  | tup h1 h2 => cases h; exact .base (.tup (hs _ _ h1))
  | frl h1 h2 => cases h
  | dk h1 h2 =>
    have e : T = "dict" := by
      cases h2 with
      | nil => cases h; rfl
      | @cons key _ _ _ _ _ _ => cases key <;> (cases h; rfl)
    subst e
    exact .base (.dK (hs _ _ h1))
  | dt h1 h2 => cases h
/-- isinstance(e, T), T the bare name of a built-in class -/
theorem ex_isi {T : String} {n : Str} {p p2 pos : Pos} (hm : X.mg "isinstance" = none) (hmT : X.mg n = none) (hvT : bootBuiltins n = some (.type T)) (h : ED X av e ρ fun d ρ1 => ∃ U r, tyD d = some U ∧ kitB U T = some r ∧ Q (.pd (.bool r)) ρ1)
    (hg : Gl X "isinstance" := by rfl) (hgT : Gl X n := by rfl) (hn : n ≠ "__name__" := by decide) (hdb : (n == ("__debug__" : Str)) = false := by decide)
    (he : starEach [e, .Name n p2] X.env = (false, eval e X.env) :: starEach [.Name n p2] X.env := by rfl) (he2 : starEach [.Name n p2] X.env = (false, eval (.Name n p2) X.env) :: starEach [] X.env := by rfl) (hpl : (backTo pos (starEach [.Name n p2] X.env)).any (·.1) = false := by rfl) :
    EX X av (.Call (.Name "isinstance" p) [e, .Name n p2] [] pos) ρ Q :=
  ex_of (pe_callB call_isi hg hm (by decide +kernel) (pa_cons pe_s (pa_cons (pe_bltn (v := .ty T) hgT hmT hvT rfl hn hdb) pa_nil he2) he) (by decide) (by decide) he hpl) fun Hs H σ R rr k => h.run rr fun v d ρ1 Hs1 H1 st r1 rp ⟨U, r, t1, t2, q⟩ =>
    ⟨v, .ty T, .type U, .type T, r, rfl, .ty T, tyX_of r1.same rp t1, kit_ty t2, (k.ret st r1 q).val r1.same (.bl r)⟩
end
end DW

set_option Elab.async false
set_option autoImplicit false
set_option linter.all false
set_option maxRecDepth 100000
/-! DW5: loops, calls of defs, defs -/
namespace DW
open PySem PySem.Spec L2
open PyProof.Rows hiding St
section
variable [CF : Cfg] [OG : Org]
variable {X : Cx} {av : List V} {ρ : Ev} {e a b tg : Expr} {es : List Expr} {st : Stmt} {sts body : List Stmt} {Φ : Ph} {Q : Sl → Ev → Prop}

/-! ### for -/
/-- what stands between two turns, by data; Hs1 H1: where the loop began -/
def Pv (X : Cx) (av : List V) (Hs1 : Gh) (H1 : Hp) (W : Nat → Ev → Prop) (i : Nat) (σ : St) (H : Hp) : Prop := ∃ (ρ : Ev) (Hs : Gh), Step Hs1 H1 Hs H ∧ Rep X.K av Hs H ρ σ ∧ W i ρ
theorem turn_of {W : Nat → Ev → Prop} {Hs1 Hs : Gh} {H1 H : Hp} {ρ1 : Ev} {σ1 σ : St} {DD : Ends} {i : Nat} {v : V} {d : D} (k : KS X av ρ1 Hs1 H1 σ1 Φ DD) (st : Step Hs1 H1 Hs H) (r : Rep X.K av Hs H ρ σ) (hv : Rp X.K Hs.st v d)
    (h : GX X av tg d ρ fun ρ2 => BX X av body ρ2 { nx := W (i + 1), ct := W (i + 1), bk := Φ.nx, rt := Φ.rt }) :
    sG X tg v σ H fun σ2 H2 => sB X body { DD with nx := Pv X av Hs1 H1 W (i + 1), ct := Pv X av Hs1 H1 W (i + 1), bk := DD.nx } σ2 H2 :=
  h Hs H σ v _ r hv fun σ2 ρ2 Hs2 _ s2 r2 q2 => q2 Hs2 H σ2 _ r2 (by
    have st2 : Step Hs1 H1 Hs2 H := st.trans s2
    exact ⟨fun σ' ρ' Hs' H' s r' q => ⟨ρ', Hs', st2.trans s, r', q⟩, fun v s σ' ρ' Hs' H' s2 r' hv q => k.rt v s σ' ρ' Hs' H' (st2.trans s2) r' (hv.back st2.dom) q,
      fun σ' ρ' Hs' H' s r' q => k.nx σ' ρ' Hs' H' (st2.trans s) r' q, fun σ' ρ' Hs' H' s r' q => ⟨ρ', Hs', st2.trans s, r', q⟩⟩)

/-! ### while -/
theorem sx_while {c : Expr} {pos : Pos} (hp : PassesOwn (model X.prog X.w) X.A X.env X.xe) (W : Nat → Ev → Prop) (m0 : Nat) (w0 : W m0 ρ)
    (h : ∀ (m : Nat) (ρ1 : Ev), W m ρ1 → TX X av c ρ1 fun k ρ2 => (k = true → BX X av body ρ2 { nx := fun ρ3 => ∃ m', m' < m ∧ W m' ρ3, ct := fun ρ3 => ∃ m', m' < m ∧ W m' ρ3, bk := Φ.nx, rt := Φ.rt }) ∧ (k = false → Φ.nx ρ2)) : SX X av (.While c body [] pos) ρ Φ :=
  sx_of (ps_while hp pt_s pb_s) fun Hs H σ D r k => by
    refine ⟨fun m σ' H' => ∃ (ρ' : Ev) (Hs' : Gh), Step Hs H Hs' H' ∧ Rep X.K av Hs' H' ρ' σ' ∧ W m ρ', ⟨m0, ρ, Hs, Step.refl, r, w0⟩, ?_⟩
    rintro m σ' H' ⟨ρ', Hs', s', r', w⟩
    refine h m ρ' w Hs' H' σ' _ r' fun b ρ2 Hs2 H2 s2 r2 ⟨q1, q2⟩ => ?_
    have k2 := k.back (ρ1 := ρ2) (σ1 := σ') (s'.trans s2)
    cases b with
    | true =>
      refine ⟨fun σ3 H3 => ∃ (m' : Nat) (ρ3 : Ev) (Hs3 : Gh), m' < m ∧ Step Hs H Hs3 H3 ∧ Rep X.K av Hs3 H3 ρ3 σ3 ∧ W m' ρ3, fun σ3 H3 ⟨m', ρ3, Hs3, l, a1, a2, a3⟩ => ⟨m', l, ρ3, Hs3, a1, a2, a3⟩, ?_⟩
      have s3 := s'.trans s2
      exact q1 rfl Hs2 H2 σ' _ r2 ⟨fun σ3 ρ3 Hs3 H3 s r3 ⟨m', l, q⟩ => ⟨m', ρ3, Hs3, l, s3.trans s, r3, q⟩, fun v s σ3 ρ3 Hs3 H3 s4 r3 hv q => k.rt v s σ3 ρ3 Hs3 H3 (s3.trans s4) r3 (hv.back s3.dom) q,
        fun σ3 ρ3 Hs3 H3 s r3 q => k.nx σ3 ρ3 Hs3 H3 (s3.trans s) r3 q, fun σ3 ρ3 Hs3 H3 s r3 ⟨m', l, q⟩ => ⟨m', ρ3, Hs3, l, s3.trans s, r3, q⟩⟩
    | false => exact k2.nx σ' ρ2 Hs2 H2 Step.refl r2 (q2 rfl)
end


/-! ### exceptions -/
theorem pd_at {ds : List D} {i : Nat} {s : Sl} (q : (ds.map Sl.pd)[i]? = some s) : ∃ d, ds[i]? = some d ∧ s = .pd d := by
  rw [List.getElem?_map] at q
  cases hd : ds[i]? with
  | none =>
    rw [hd] at q
    cases q
  | some d =>
    rw [hd] at q
    cases q
    exact ⟨d, rfl, rfl⟩

/-- how an exception stands in the heap: its class and, where it has fields, its dict -/
def ERep [CF : Cfg] (K : PySem.W.Frag) (Hs H : Hp) (x : Exn) (cls : Value) (d : Option Addr) : Prop :=
  cls = .ref (CF.cls x.1) ∧ match x.2 with
    | [] => d = none
    | _ => ∃ dx kvs, d = some dx ∧ H dx = some (.xd kvs) ∧ kvs.map (·.1) = CF.fld x.1 ∧ RpAll K Hs (kvs.map (·.2)) x.2
/-- an exception left, begun at Hs, H -/
def EOut [CF : Cfg] (K : PySem.W.Frag) (Hs H : Hp) (O : Addr → Prop) (x : Exn) (cls : Value) (d : Option Addr) (H' : Hp) : Prop :=
  ∃ (Hs' : Hp) (O' : Addr → Prop), Core Hs H O Hs' H' O' ∧ Same Hs' H' ∧ (∀ a ps, Hs' a ≠ some (.tbl ps)) ∧ LamX.Tabs CF.T H' ∧ ERep K Hs' H' x cls d
/-- what a def wants of the exceptions that leave it -/
def WO [CF : Cfg] [OG : Org] (K : PySem.W.Frag) (xk : Exn → Prop) : L2.WX := fun cls d _ H => ∃ x, EOut K OG.s0 OG.h0 OG.w0 x cls d H ∧ xk x

/-! ### what a def promises, by data -/
def SpD [CF : Cfg] (K : PySem.W.Frag) (φ : Ev → (Sl → Ev → Prop) → (Exn → Prop) → Prop) : Sp := fun vs H R E => ∃ (G : Gh) (as : Ev) (P : Sl → Ev → Prop) (xk : Exn → Prop), RepC K vs G H as (vs.map some) G.st H G.ow ∧ φ as P xk ∧
  (∀ (v : V) (s : Sl) (as' : Ev) (G' : Gh) (H' : Hp), Step G H G' H' → RepC K vs G' H' as' (vs.map some) G.st H G.ow → VRep K H G' H' v s → P s as' → R v H') ∧
  ∀ x cls d H', EOut K G.st H G.ow x cls d H' → xk x → E cls d H'
section
variable [CF : Cfg] [OG : Org]
variable {X : Cx} {av : List V} {ρ : Ev} {e : Expr} {es : List Expr} {Q : Sl → Ev → Prop}
/-- data alone as arguments -/
abbrev G0 (Hs : Hp) : Gh := ⟨Hs, fun _ _ => False⟩
omit OG in
theorem rep_pd {K : PySem.W.Frag} {Hs H : Hp} (hs : Same Hs H) (nt : ∀ a ps, Hs a ≠ some (.tbl ps)) (tb : LamX.Tabs CF.T H) {vs : List V} {ds : List D} (h : RpAll K Hs vs ds) : RepC K vs (G0 Hs) H (ds.map .pd) (vs.map some) Hs H (G0 Hs).ow := by
  refine ⟨hs, by rw [List.length_map, List.length_map, h.length], fun i s q => ?_, fun i a z => z.elim, fun i j a z => z.elim, fun a ⟨i, z⟩ => z.elim, tb, nt, Core.refl⟩
  obtain ⟨d, hd, rfl⟩ := pd_at q
  obtain ⟨v, h1, h2⟩ := h.get hd
  exact ⟨v, by rw [List.getElem?_map, h1]; rfl, h2⟩
/-- behind a call that owned what the slot i owns (or nothing) -/
theorem Rep.over {K : PySem.W.Frag} {Hs : Gh} {H H' st' : Hp} {O O' : Addr → Prop} {σ : St} (r : Rep K av Hs H ρ σ) (c : Core Hs.st H O st' H' O') (sm : Same st' H') (nt : ∀ a ps, st' a ≠ some (.tbl ps)) (tb : LamX.Tabs CF.T H') (hO : ∀ a, ¬ O a) :
    Rep K av { Hs with st := st' } H' ρ σ ∧ Step Hs H { Hs with st := st' } H' := by
  have c2 : Core Hs.st H Hs.ow st' H' Hs.ow := c.weak (fun a z => (hO a z).elim) fun a z => .inl z
  have kp : ∀ b u, H b = some u → NoTE u → H' b = some u := fun b u hu n => c.keep b u hu (hO b) n.1
  refine ⟨⟨sm, r.len, fun i s e => ?_, r.out, r.dis, fun a h => ?_, tb, nt, r.org.trans c2⟩, ⟨c2⟩⟩
  · have q := r.sl i s e
    cases s with
    | un => trivial
    | pd d =>
      obtain ⟨v, h1, h2⟩ := q
      exact ⟨v, h1, Rp.mono c.st _ _ h2⟩
    | ow t o =>
      obtain ⟨a, h1, h2, h3⟩ := q
      exact ⟨a, h1, h2.mono c.st fun b _ u hu n => kp b u hu n, h3⟩
  · obtain ⟨h1, u, hu, hn⟩ := r.owned (a := a) h
    show st' a = none
    cases e : st' a with
    | none => rfl
    | some z =>
      rcases c.nw a z e with z | z | z
      · rw [h1] at z
        cases z
      · exact (z.no hu hn.1).elim
      · exact (hO a z).elim
/-- what the caller's origin makes of a callee's exception -/
theorem EOut.up {K : PySem.W.Frag} {Hs : Gh} {H : Hp} {O : Addr → Prop} {σ : St} {x : Exn} {cls : Value} {d : Option Addr} {H' : Hp} (r : Rep K av Hs H ρ σ) (hO : ∀ a, O a → Hs.ow a) (h : EOut K Hs.st H O x cls d H') : EOut K OG.s0 OG.h0 OG.w0 x cls d H' := by
  obtain ⟨Hs', O', c, h1, h2, h3, h4⟩ := h
  exact ⟨Hs', _, r.org.trans (c.weak (U1 := Hs.ow) hO fun a z => .inl z), h1, h2, h3, h4⟩
/-- f(e, ..): all arguments data -/
theorem ex_call {k : Nat} {f : Addr} {fd : FuncData} {ps : List Str} {φ : Ev → (Sl → Ev → Prop) → (Exn → Prop) → Prop} {xk : Exn → Prop} {x : Str} {p pos : Pos} (F : FnOk X.prog X.w X.K X.mg X.base (L2.CX X.prog X.w) k f fd ps (SpD X.K φ)) (hr : Room k X.A) (hm : X.mg x = some (.ref f)) (hk : PySem.W.keepIn X.K (.ref f) = true) (hb : Binds X.K fd ps []) (tk : Takes X (WO X.K xk))
    (h : AX X av (e :: es) ρ fun ds ρ1 => φ (ds.map .pd) (fun s _ => Q s ρ1) xk) (hg : Gl X x := by rfl) (hdb : (x == ("__debug__" : Str)) = false := by decide)
    (he : starEach (e :: es) X.env = (false, eval e X.env) :: starEach es X.env := by rfl) (hpl : (backTo pos (starEach es X.env)).any (·.1) = false := by rfl) : EX X av (.Call (.Name x p) (e :: es) [] pos) ρ Q :=
  ex_of (pe_call (E := fun cls d H => WO X.K xk cls d [] H) F hr hg hm hk hb .nil (passes_call tk fun _ _ _ _ z => z) pa_s hdb he hpl) fun Hs H σ R r kk => h Hs H σ _ r fun vs ds ρ1 Hs1 H1 st r1 ra q => by
    rw [List.append_nil]
    refine ⟨G0 Hs1.st, ds.map .pd, _, xk, rep_pd r1.same r1.nt r1.tab ra, q, fun v s as' G' H' s2 r2 hv q2 => ?_, fun y cls d H' ho hy => ⟨y, ho.up r1 (fun a ⟨_, z⟩ => z.elim), hy⟩⟩
    obtain ⟨r3, s3⟩ := r1.over s2.toCore r2.same r2.nt r2.tab fun a ⟨_, z⟩ => z.elim
    refine kk v s ρ1 _ H' (st.trans s3) r3 ?_ q2
    cases s with
    | un => exact hv
    | pd d => exact hv
    | ow t o =>
      obtain ⟨a, fp, e1, h1, h2⟩ := hv
      refine ⟨a, fp, e1, h1, fun b hb => ⟨st.dom b (h2 b hb).1, (h2 b hb).2.1, fun z => ?_⟩⟩
      obtain ⟨_, u, hu, hn⟩ := r1.owned (a := b) z
      exact (h2 b hb).1.no hu hn.1
/-- f(x, e, ..): x an owned object, handed on -/
theorem ex_callO (i : Nat) {k : Nat} {f : Addr} {fd : FuncData} {ps : List Str} {φ : Ev → (Sl → Ev → Prop) → (Exn → Prop) → Prop} {xk : Exn → Prop} {x y : Str} {p p2 pos : Pos} (F : FnOk X.prog X.w X.K X.mg X.base (L2.CX X.prog X.w) k f fd ps (SpD X.K φ)) (hr : Room k X.A) (hm : X.mg x = some (.ref f)) (hk : PySem.W.keepIn X.K (.ref f) = true) (hb : Binds X.K fd ps []) (tk : Takes X (WO X.K xk))
    (h : AX X av es ρ fun ds ρ1 => ∃ t o, ρ1[i]? = some (.ow t o) ∧ φ (.ow (some 0) o :: ds.map .pd) (fun s as' => ∃ o' rest, as' = .ow (some 0) o' :: rest ∧ Q s (ρ1.set i (.ow t o'))) xk) (h0 : ∃ t o, ρ[i]? = some (Sl.ow t o))
    (hN : X.N[i]? = some y := by rfl) (hv : Vis X.env.scope y := by first | exact Or.inl rfl | exact Or.inr (Or.inl rfl) | exact Or.inr (Or.inr rfl))
    (hd : (y == ("__debug__" : Str)) = false := by decide) (hcd : (y == ("__classdict__" : Str)) = false := by decide)
    (hg : Gl X x := by rfl) (hdb : (x == ("__debug__" : Str)) = false := by decide)
    (he : starEach (.Name y p2 :: es) X.env = (false, eval (.Name y p2) X.env) :: starEach es X.env := by rfl) (hpl : (backTo pos (starEach es X.env)).any (·.1) = false := by rfl) : EX X av (.Call (.Name x p) (.Name y p2 :: es) [] pos) ρ Q :=
  ex_of (pe_call (E := fun cls d H => WO X.K xk cls d [] H) F hr hg hm hk hb .nil (passes_call tk fun _ _ _ _ z => z) (pa_cons (pv i hN hv hd hcd) pa_s he) hdb he hpl) fun Hs H σ R r kk => by
    obtain ⟨t0, o0, h0⟩ := h0
    obtain ⟨a, h1, h2, h3⟩ := r.sl i _ h0
    refine ⟨.ref a, h1, h Hs H σ _ r fun vs ds ρ1 Hs1 H1 st r1 ra ⟨t, o, g0, q⟩ => ?_⟩
    show SpD X.K φ ((V.ref a :: vs) ++ []) H1 R _
    rw [List.append_nil]
    obtain ⟨a', g1, g2, g3⟩ := r1.sl i _ g0
    rw [h1] at g1
    cases g1
    have hlt : i < ρ1.length := (List.getElem?_eq_some_iff.mp g0).1
    let G : Gh := ⟨Hs1.st, fun j b => j = 0 ∧ Hs1.F i b⟩
    have eG : ∀ b, G.ow b → Hs1.F i b := fun b ⟨_, _, z⟩ => z
    have rp2 : RepC X.K (V.ref a :: vs) G H1 (.ow (some 0) o :: ds.map .pd) ((V.ref a :: vs).map some) G.st H1 G.ow := by
      refine ⟨r1.same, by simp [ra.length], fun j s z => ?_, fun j b z => ?_, fun j l b z1 z2 => z1.1.trans z2.1.symm, fun b z => r1.fre b ⟨i, eG b z⟩, r1.tab, r1.nt, Core.refl⟩
      · cases j with
        | zero =>
          simp at z
          subst z
          refine ⟨a, rfl, ?_, fun k z => by cases z; rfl⟩
          have e1 : G.F 0 = Hs1.F i := by
            funext b
            exact propext ⟨fun z => z.2, fun z => ⟨rfl, z⟩⟩
          rw [e1]
          exact g2
        | succ j =>
          obtain ⟨d, hd, rfl⟩ := pd_at (ds := ds) (i := j) (by simpa using z)
          obtain ⟨v, y1, y2⟩ := ra.get hd
          exact ⟨v, by simpa using y1, y2⟩
      · rw [z.1]
        exact ⟨_, _, rfl⟩
    refine ⟨G, _, _, xk, rp2, q, fun v s as' G' H' s2 r2 hv2 ⟨o', rest, e1, q2⟩ => ?_, fun y cls d H' ho hy => ⟨y, ho.up r1 (fun b z => ⟨i, eG b z⟩), hy⟩⟩
    subst e1
    obtain ⟨a2, f1, f2, f3⟩ := r2.sl 0 _ rfl
    simp at f1
    subst f1
    have kp : ∀ b u, H1 b = some u → ¬ Hs1.F i b → NoTE u → H' b = some u := fun b u z n nt => s2.keep b u z (fun y => n (eG b y)) nt.1
    have hw : ∀ b, G'.F 0 b → Hs1.F i b ∨ Fre H1 b := fun b z => (s2.own b ⟨0, z⟩).imp (eG b) id
    have old : ∀ j b, Hs1.F j b → ∃ u, H1 b = some u ∧ NoTE u := fun j b z => (r1.owned ⟨j, z⟩).2
    let G3 : Gh := ⟨G'.st, setF Hs1.F i (G'.F 0)⟩
    have ow3 : ∀ b, G3.ow b → Hs1.ow b ∨ Fre H1 b := fun b ⟨j, z⟩ => by
      rcases setF_at z with ⟨_, y⟩ | ⟨_, y⟩
      · exact (hw b y).imp (fun x => ⟨i, x⟩) id
      · exact .inl ⟨j, y⟩
    have c3 : Core Hs1.st H1 Hs1.ow G3.st H' G3.ow := s2.toCore.weak (fun b z => ⟨i, eG b z⟩) ow3
    have stn : ∀ b, (∃ j, Hs1.F j b ∧ j ≠ i) → G'.st b = none := fun b ⟨j, z, hj⟩ => by
      obtain ⟨u, hu, hn⟩ := old j b z
      cases e : G'.st b with
      | none => rfl
      | some y =>
        rcases s2.nw b y e with y | y | y
        · have y : Hs1.st b = _ := y
          rw [r1.fre b ⟨j, z⟩] at y
          cases y
        · exact (y.no hu hn.1).elim
        · exact (hj (r1.dis j i b z (eG b y))).elim
    have r3 : Rep X.K av G3 H' (ρ1.set i (.ow t o')) σ := by
      refine ⟨r2.same, by rw [List.length_set]; exact r1.len, fun j s z => ?_, fun j b z => ?_, fun j l b z1 z2 => ?_, fun b ⟨j, z⟩ => ?_, r2.tab, r2.nt, r1.org.trans c3⟩
      · rcases set_get z with ⟨rfl, rfl, _⟩ | ⟨hj, z⟩
        · refine ⟨a, h1, ?_, g3⟩
          show ORep X.K G'.st H' a (setF Hs1.F j (G'.F 0) j) o'
          rw [setF_same]
          exact f2
        · have w := r1.sl j s z
          cases s with
          | un => trivial
          | pd d =>
            obtain ⟨v, w1, w2⟩ := w
            exact ⟨v, w1, Rp.mono s2.st _ _ w2⟩
          | ow t1 o1 =>
            obtain ⟨b, w1, w2, w3⟩ := w
            refine ⟨b, w1, ?_, w3⟩
            show ORep X.K G'.st H' b (setF Hs1.F i (G'.F 0) j) o1
            rw [setF_ne hj]
            exact w2.mono s2.st fun c hc u hu n => kp c u hu (fun y => hj (r1.dis j i c hc y)) n
      · rcases setF_at z with ⟨y, _⟩ | ⟨hj, y⟩
        · rw [y, List.getElem?_set_self hlt]
          exact ⟨_, _, rfl⟩
        · rw [List.getElem?_set_ne (Ne.symm hj)]
          exact r1.out j b y
      · have no : ∀ j, j ≠ i → Hs1.F j b → ¬ G'.F 0 b := fun j hj y z => by
          rcases hw b z with x | x
          · exact hj (r1.dis j i b y x)
          · obtain ⟨u, hu, hn⟩ := old j b y
            exact x.no hu hn.1
        rcases setF_at z1 with ⟨y1, x1⟩ | ⟨hj, x1⟩
        · rcases setF_at z2 with ⟨y2, x2⟩ | ⟨hl, x2⟩
          · rw [y1, y2]
          · exact (no l hl x2 x1).elim
        · rcases setF_at z2 with ⟨y2, x2⟩ | ⟨hl, x2⟩
          · exact (no j hj x1 x2).elim
          · exact r1.dis j l b x1 x2
      · rcases setF_at z with ⟨_, y⟩ | ⟨hj, y⟩
        · exact r2.fre b ⟨0, y⟩
        · exact stn b ⟨j, y, hj⟩
    refine kk v s _ G3 H' (st.trans ⟨c3⟩) r3 ?_ q2
    cases s with
    | un => exact hv2
    | pd d => exact hv2
    | ow t1 o1 =>
      obtain ⟨b, fp, w1, w2, w3⟩ := hv2
      refine ⟨b, fp, w1, w2, fun c hc => ⟨st.dom c (w3 c hc).1, (w3 c hc).2.1, fun ⟨j, y⟩ => ?_⟩⟩
      rcases setF_at y with ⟨_, y⟩ | ⟨_, y⟩
      · exact (w3 c hc).2.2 ⟨0, y⟩
      · obtain ⟨u, hu, hn⟩ := old j c y
        exact (w3 c hc).1.no hu hn.1
end

/-! ### a def keeps its promise -/
/-- the arguments as they stand behind the call -/
def Back (as ρ' as' : Ev) : Prop := as'.length = as.length ∧ ∀ (i : Nat) (s : Sl), as'[i]? = some s → s = Sl.un ∨ (∃ d, s = Sl.pd d ∧ as[i]? = some (Sl.pd d)) ∨ ∃ o o0, s = Sl.ow (some i) o ∧ as[i]? = some (Sl.ow (some i) o0) ∧ ∃ j : Nat, ρ'[j]? = some (Sl.ow (some i) o)
theorem back_pd {ds : List D} {ρ' : Ev} : Back (ds.map .pd) ρ' (ds.map .pd) := ⟨rfl, fun i s h => by
  rw [List.getElem?_map] at h
  cases hd : ds[i]? with
  | none => rw [hd] at h; cases h
  | some d =>
    rw [hd] at h
    cases h
    exact .inr (.inl ⟨d, rfl, by rw [List.getElem?_map, hd]; rfl⟩)⟩
def ends (as : Ev) (P : Sl → Ev → Prop) : Ph := { nx := fun ρ' => ∃ as', Back as ρ' as' ∧ P (.pd .none) as', rt := fun s ρ' => ∃ as', Back as ρ' as' ∧ P s as' }
section
variable [CF : Cfg] [OG : Org]
theorem rep_start {K : PySem.W.Frag} {G : Gh} {H : Hp} {N : List Str} {vs : List V} {as : Ev} (r : Rep K vs G H as (vs.map some)) : Rep K vs G H (as ++ List.replicate (N.length - vs.length) .un) (L2.start N vs) := by
  have hl := r.len
  have lo : ∀ {i : Nat}, i < as.length → (L2.start N vs)[i]? = (vs.map some)[i]? := fun {i} h => by
    unfold L2.start
    rw [List.getElem?_append_left (by rw [← hl]; exact h)]
  have cut : ∀ {i : Nat} {s : Sl}, (as ++ List.replicate (N.length - vs.length) .un)[i]? = some s → (i < as.length ∧ as[i]? = some s) ∨ s = .un := fun {i s} q => by
    by_cases h : i < as.length
    · rw [List.getElem?_append_left h] at q
      exact .inl ⟨h, q⟩
    · rw [List.getElem?_append_right (by omega), List.getElem?_replicate] at q
      split at q
      · exact .inr (Option.some.inj q).symm
      · cases q
  refine ⟨r.same, ?_, fun i s q => ?_, fun i a z => ?_, r.dis, r.fre, r.tab, r.nt, r.org⟩
  · unfold L2.start
    rw [List.length_append, List.length_append, List.length_replicate, List.length_replicate, hl]
  · rcases cut q with ⟨h, q⟩ | rfl
    · rw [lo h]
      exact r.sl i s q
    · trivial
  · obtain ⟨t, o, e⟩ := r.out i a z
    have h : i < as.length := (List.getElem?_eq_some_iff.mp e).1
    exact ⟨t, o, by rw [List.getElem?_append_left h]; exact e⟩
/-- at the end: what the arguments own, the rest is let go -/
theorem fin_of {K : PySem.W.Frag} {G G' : Gh} {H H' : Hp} {vs : List V} {as ρ' as' : Ev} {σ' : St} (r0 : Rep K vs G H as (vs.map some)) (s : Step G H G' H') (r : Rep K vs G' H' ρ' σ') (b : Back as ρ' as') :
    ∃ G2 : Gh, G2.st = G'.st ∧ (∀ a, G2.ow a → G'.ow a) ∧ Step G H G2 H' ∧ Rep K vs G2 H' as' (vs.map some) := by
  have own : ∀ {i : Nat} {t : Option Nat} {o : MO}, as'[i]? = some (.ow t o) → t = some i ∧ ∃ (j : Nat) (a : Addr) (o0 : MO), ρ'[j]? = some (.ow (some i) o) ∧ (vs.map some)[i]? = some (some (V.ref a)) ∧ as[i]? = some (.ow (some i) o0) ∧ ORep K G'.st H' a (G'.F j) o := fun {i t o} q => by
    rcases b.2 i _ q with z | ⟨d, z, _⟩ | ⟨o1, o2, z, z0, j, zj⟩
    · cases z
    · cases z
    · cases z
      obtain ⟨a, h1, h2, h3⟩ := r.sl j _ zj
      exact ⟨rfl, j, a, o2, zj, by rw [List.getElem?_map, h3 i rfl]; rfl, z0, h2⟩
  -- where the i-th argument's object stands behind the call
  let F2 : Nat → Addr → Prop := fun i c => ∃ (o : MO) (j : Nat), as'[i]? = some (.ow (some i) o) ∧ ρ'[j]? = some (.ow (some i) o) ∧ G'.F j c
  have tag : ∀ {j : Nat} {i : Nat} {o : MO}, ρ'[j]? = some (.ow (some i) o) → ∀ {j2 : Nat} {i2 : Nat} {o2 : MO}, ρ'[j2]? = some (.ow (some i2) o2) → j = j2 → i = i2 := fun h1 _ _ _ h2 e => by
    subst e
    rw [h1] at h2
    cases h2
    rfl
  have same : ∀ {i j1 j2 : Nat} {o1 o2 : MO}, ρ'[j1]? = some (.ow (some i) o1) → ρ'[j2]? = some (.ow (some i) o2) → j1 = j2 := fun {i j1 j2 o1 o2} h1 h2 => by
    obtain ⟨a1, _, p2, p3⟩ := r.sl j1 _ h1
    obtain ⟨a2, _, q2, q3⟩ := r.sl j2 _ h2
    have e : a1 = a2 := by
      have := p3 i rfl
      rw [q3 i rfl] at this
      cases this
      rfl
    subst e
    exact r.dis j1 j2 a1 p2.root q2.root
  have ow2 : ∀ c, (∃ i, F2 i c) → G'.ow c := fun c ⟨i, o, j, _, _, z⟩ => ⟨j, z⟩
  have c2 : Core G.st H G.ow G'.st H' fun c => ∃ i, F2 i c := ⟨s.st, s.nw, s.keep, fun c z => s.own c (ow2 c z), s.dom⟩
  refine ⟨⟨G'.st, F2⟩, rfl, ow2, ⟨c2⟩, ⟨r.same, by rw [b.1]; exact r0.len, fun i x q => ?_, fun i c ⟨o, j, z, _⟩ => ⟨_, o, z⟩, fun i1 i2 c ⟨o1, j1, z1, y1, x1⟩ ⟨o2, j2, z2, y2, x2⟩ => tag y1 y2 (r.dis j1 j2 c x1 x2), fun c z => r.fre c (ow2 c z), r.tab, r.nt, ?_⟩⟩
  · cases x with
    | un => trivial
    | pd d =>
      rcases b.2 i _ q with z | ⟨e, z, z0⟩ | ⟨o1, o2, z, _⟩
      · cases z
      · cases z
        obtain ⟨v, h1, h2⟩ := r0.sl i _ z0
        exact ⟨v, h1, Rp.mono s.st _ _ h2⟩
      · cases z
    | ow t o =>
      obtain ⟨rfl, j, a, o0, h1, h3, h4, h6⟩ := own q
      refine ⟨a, h3, ?_, fun k z => ?_⟩
      · have e : F2 i = G'.F j := by
          funext c
          refine propext ⟨fun ⟨o', j', y1, y2, y3⟩ => ?_, fun z => ⟨o, j, q, h1, z⟩⟩
          rw [same h1 y2]
          exact y3
        show ORep K G'.st H' a (F2 i) o
        rw [e]
        exact h6
      · cases z
        rw [List.getElem?_map] at h3
        cases e : vs[i]? with
        | none => rw [e] at h3; cases h3
        | some v => rw [e] at h3; cases h3; rfl
  · exact ⟨r.org.st, r.org.nw, r.org.keep, fun c z => r.org.own c (ow2 c z), r.org.dom⟩
end
section
variable [CF : Cfg]
theorem fn_ok {P : Program} {w : World} {K : PySem.W.Frag} {mg : Str → Option Value} {base : Heap} {x qual : Str} {st : Stmt} {f : Addr} {fd : FuncData} {N ps : List Str} {k : Nat} {φ : Ev → (Sl → Ev → Prop) → (Exn → Prop) → Prop} (F : Fun K x qual st f fd) (S : FnScope N ps (defScope st)) (hl : ∀ as Pq xk, φ as Pq xk → as.length = ps.length)
    (hbody : ∀ [OG : Org] (cdv : Value) (A : Around) (outer : List Env) (s : Shared) (H : Hp) (E : XK) (vs : List V) (as : Ev) (Pq : Sl → Ev → Prop) (xk : Exn → Prop), fd.code = cdv → Room k (A.deeper (envOfC qual (defScope st) s.heap.objs.size f cdv)) → φ as Pq xk →
      Takes (cxOf (L2.CX P w) P w K mg base N qual (defScope st) f cdv A outer s H E) (WO K xk) →
      BX (cxOf (L2.CX P w) P w K mg base N qual (defScope st) f cdv A outer s H E) vs (defBody st) (as ++ List.replicate (N.length - as.length) .un) (ends as Pq)) : FnOk P w K mg base (L2.CX P w) (k + 1) f fd ps (SpD K φ) := by
  obtain ⟨oc, od, kV, doc, pm, an, cdv, ct, osl, rfl, lk, hcd⟩ := F.ex
  refine fn_of lk hcd S (fun vs H Q E h => ?_) fun A outer s H vs Q E hr h => ?_
  · obtain ⟨Hs, as, Pq, xk, r, hφ, _⟩ := h
    have h1 := r.len
    rw [List.length_map] at h1
    rw [← h1]
    exact hl as Pq xk hφ
  · obtain ⟨G, as, Pq, xk, r, hφ, kq, kx⟩ := h
    letI OG : Org := ⟨G.st, H, G.ow⟩
    have e1 : as.length = vs.length := by
      have z := r.len
      rw [List.length_map] at z
      exact z
    refine ⟨_, pb_s, ?_⟩
    have hb := hbody cdv A outer s H E vs as Pq xk rfl hr hφ ((takes_of rfl rfl rfl rfl).imp fun c d σ H' ⟨y, h1, h2⟩ => kx y c d H' h1 h2)
    rw [e1] at hb
    have r0 := rep_start (N := N) r
    refine hb G H _ _ r0 ⟨fun σ' ρ' Hs' H' s' r' q => ?_, fun v s σ' ρ' Hs' H' s' r' hv q => ?_, fun σ' ρ' Hs' H' s r' q => q.elim, fun σ' ρ' Hs' H' s r' q => q.elim⟩
    · obtain ⟨as', b, q⟩ := q
      obtain ⟨G2, _, _, s2, r2⟩ := fin_of r s' r' b
      exact kq .non (.pd .none) as' G2 H' s2 r2 .non q
    · obtain ⟨as', b, q⟩ := q
      obtain ⟨G2, eG, o2, s2, r2⟩ := fin_of r s' r' b
      refine kq v s as' G2 H' s2 r2 ?_ q
      cases s with
      | un => exact hv
      | pd d =>
        show Rp K G2.st v d
        rw [eG]
        exact hv
      | ow t o =>
        obtain ⟨a, fp, w1, w2, w3⟩ := hv
        exact ⟨a, fp, w1, by rw [eG]; exact w2, fun c hc => ⟨(w3 c hc).1, by rw [eG]; exact (w3 c hc).2.1, fun y => (w3 c hc).2.2 (o2 c y)⟩⟩
end
end DW

set_option Elab.async false
set_option autoImplicit false
set_option linter.all false
set_option maxRecDepth 100000
/-! DW6: comprehensions -/
namespace DW
open PySem PySem.Spec L2
open PyProof.Rows hiding St

def wipeR (ρ : Ev) : List Nat → Ev
  | [] => ρ
  | v :: vs => (wipeR ρ vs).set v .un
theorem wipeR_len (ρ : Ev) : ∀ vs : List Nat, (wipeR ρ vs).length = ρ.length
  | [] => rfl
  | v :: vs => by
    unfold wipeR
    rw [List.length_set, wipeR_len ρ vs]
theorem wipeR_at {ρ : Ev} {i : Nat} {s : Sl} : ∀ {vs : List Nat}, (wipeR ρ vs)[i]? = some s → s = .un ∨ (i ∉ vs ∧ ρ[i]? = some s)
  | [], h => .inr ⟨by simp, h⟩
  | v :: vs, h => by
    unfold wipeR at h
    rcases set_get h with ⟨_, z, _⟩ | ⟨hv, h⟩
    · exact .inl z
    · rcases wipeR_at h with z | ⟨z1, z2⟩
      · exact .inl z
      · exact .inr ⟨by simp only [List.mem_cons, not_or]; exact ⟨hv, z1⟩, z2⟩
theorem wipeR_out {ρ : Ev} {i : Nat} : ∀ {vs : List Nat}, i ∉ vs → (wipeR ρ vs)[i]? = ρ[i]?
  | [], _ => rfl
  | v :: vs, h => by
    unfold wipeR
    rw [List.getElem?_set_ne (fun z => h (by rw [z]; exact List.mem_cons_self)), wipeR_out fun z => h (List.mem_cons_of_mem _ z)]
theorem wipe_at {σ : St} {i : Nat} : ∀ {vs : List Nat}, i ∉ vs → (L2.wipe σ vs)[i]? = σ[i]?
  | [], _ => rfl
  | v :: vs, h => by
    unfold L2.wipe
    rw [List.getElem?_set_ne (fun z => h (by rw [z]; exact List.mem_cons_self)), wipe_at fun z => h (List.mem_cons_of_mem _ z)]
theorem wipe_set {σ : St} {x : Option V} {i : Nat} : ∀ {vs : List Nat}, i ∈ vs → L2.wipe (σ.set i x) vs = L2.wipe σ vs
  | [], h => by cases h
  | v :: vs, h => by
    unfold L2.wipe
    by_cases hv : i = v
    · subst hv
      by_cases hm : i ∈ vs
      · rw [wipe_set hm]
      · have e : L2.wipe (σ.set i x) vs = (L2.wipe σ vs).set i x := by
          clear h
          induction vs with
          | nil => rfl
          | cons v vs ih =>
            simp only [List.mem_cons, not_or] at hm
            unfold L2.wipe
            rw [ih hm.2, List.set_comm _ _ hm.1]
        rw [e, List.set_set]
    · rw [wipe_set (by rcases List.mem_cons.mp h with z | z; exact absurd z hv; exact z)]
theorem wipe_wipe {σ : St} : ∀ {vs : List Nat}, L2.wipe (L2.wipe σ vs) vs = L2.wipe σ vs := fun {vs} => by
  have h : ∀ (ws : List Nat), (∀ x ∈ ws, x ∈ vs) → L2.wipe (L2.wipe σ ws) vs = L2.wipe σ vs := fun ws => by
    induction ws with
    | nil => intro _; rfl
    | cons v ws ih =>
      intro hx
      show L2.wipe ((L2.wipe σ ws).set v none) vs = _
      rw [wipe_set (hx v List.mem_cons_self)]
      exact ih fun x q => hx x (List.mem_cons_of_mem _ q)
  exact h vs fun _ z => z
section
variable [CF : Cfg] [OG : Org]
/-- what the slots vs own is let go -/
def wipeF (F : Nat → Addr → Prop) (vs : List Nat) : Nat → Addr → Prop := fun i a => i ∉ vs ∧ F i a
theorem Rep.less {K : PySem.W.Frag} {av : List V} {G : Gh} {H : Hp} {ρ ρ' : Ev} {σ σ' : St} (r : Rep K av G H ρ σ) {vs : List Nat} (hl : ρ'.length = σ'.length) (h : ∀ i s, ρ'[i]? = some s → SRep K av { G with F := wipeF G.F vs } H i s σ'[i]?) (ho : ∀ i, i ∉ vs → ∀ t o, ρ[i]? = some (.ow t o) → ρ'[i]? = some (.ow t o)) :
    Rep K av { G with F := wipeF G.F vs } H ρ' σ' ∧ Step G H { G with F := wipeF G.F vs } H := by
  have ow : ∀ a, (∃ i, wipeF G.F vs i a) → G.ow a := fun a ⟨i, z⟩ => ⟨i, z.2⟩
  refine ⟨⟨r.same, hl, h, fun i a z => ?_, fun i j a z1 z2 => r.dis i j a z1.2 z2.2, fun a z => r.fre a (ow a z), r.tab, r.nt, ⟨r.org.st, r.org.nw, r.org.keep, fun a z => r.org.own a (ow a z), r.org.dom⟩⟩, ⟨⟨Same.refl _, fun _ _ z => .inl z, fun _ _ z _ _ => z, fun a z => .inl (ow a z), fun _ z => z⟩⟩⟩
  obtain ⟨t, o, e⟩ := r.out i a z.2
  exact ⟨t, o, ho i z.1 t o e⟩
theorem sRep_wipe {K : PySem.W.Frag} {av : List V} {G : Gh} {H : Hp} {vs : List Nat} {i : Nat} (hi : i ∉ vs) : ∀ {s : Sl} {x : Option (Option V)}, SRep K av G H i s x → SRep K av { G with F := wipeF G.F vs } H i s x
  | .un, _, h => h
  | .pd _, _, h => h
  | .ow t o, _, ⟨a, h1, h2, h3⟩ => ⟨a, h1, by
    have e : wipeF G.F vs i = G.F i := by
      funext b
      exact propext ⟨fun z => z.2, fun z => ⟨hi, z⟩⟩
    show ORep K G.st H a (wipeF G.F vs i) o
    rw [e]
    exact h2, h3⟩
theorem Rep.wipe {K : PySem.W.Frag} {av : List V} {G : Gh} {H : Hp} {ρ : Ev} {σ : St} (r : Rep K av G H ρ σ) (vs : List Nat) : Rep K av { G with F := wipeF G.F vs } H (wipeR ρ vs) (L2.wipe σ vs) ∧ Step G H { G with F := wipeF G.F vs } H :=
  r.less (by rw [wipeR_len, wipe_length]; exact r.len) (fun i s e => by
    rcases wipeR_at e with z | ⟨z1, z2⟩
    · subst z
      trivial
    · rw [wipe_at z1]
      exact sRep_wipe z1 (r.sl i s z2)) fun i hi t o e => by rw [wipeR_out hi]; exact e

/-- the target of a comprehension: its own names alone -/
def GC (X : Cx) (av : List V) (vs : List Nat) (tg : Expr) (d : D) (ρ : Ev) (Q : Ev → Prop) : Prop := ∀ (Hs : Gh) (H : Hp) (σ : St) (v : V) (R : St → Hp → Prop), Rep X.K av Hs H ρ σ → Rp X.K Hs.st v d →
  (∀ (σ' : St) (ρ' : Ev) (Hs' : Gh), Hs'.st = Hs.st → Step Hs H Hs' H → Rep X.K av Hs' H ρ' σ' → L2.wipe σ' vs = L2.wipe σ vs → (∀ i, i ∉ vs → ρ'[i]? = ρ[i]? ∧ σ'[i]? = σ[i]?) → Q ρ' → R σ' H) → sG X tg v σ H R
def GCs (X : Cx) (av : List V) (vs : List Nat) (ts : List Expr) (ds : List D) (ρ : Ev) (Q : Ev → Prop) : Prop := ∀ (Hs : Gh) (H : Hp) (σ : St) (ws : List V) (R : St → Hp → Prop), Rep X.K av Hs H ρ σ → RpAll X.K Hs.st ws ds →
  (∀ (σ' : St) (ρ' : Ev) (Hs' : Gh), Hs'.st = Hs.st → Step Hs H Hs' H → Rep X.K av Hs' H ρ' σ' → L2.wipe σ' vs = L2.wipe σ vs → (∀ i, i ∉ vs → ρ'[i]? = ρ[i]? ∧ σ'[i]? = σ[i]?) → Q ρ' → R σ' H) → sGs X ts ws σ H R
/-- the tests of a clause -/
def sI (X : Cx) (ifs : List Expr) : TT := fun σ H Q => ∀ (pins : List (Addr × Obj)) (s : Shared), Inv X pins σ H s →
    wpAny (model X.prog X.w) X.A (forIn ifs true fun c r => if r = true then do let ok ← isTrue c X.env (eval c X.env); pure (ForInStep.yield ok) else pure (ForInStep.yield r)) (TP X pins σ Q) X.xe s
def IX (X : Cx) (av : List V) (ifs : List Expr) (ρ : Ev) (Q : Bool → Ev → Prop) : Prop := ∀ (Hs : Gh) (H : Hp) (σ : St) (R : Bool → Hp → Prop), Rep X.K av Hs H ρ σ → KT X av ρ Hs H σ Q R → sI X ifs σ H R
variable {X : Cx} {av : List V} {ρ : Ev} {vs : List Nat} {QG : Ev → Prop} {QT : Bool → Ev → Prop}
theorem gc_name (i : Nat) {x : Str} {d : D} {pos : Pos} (q : QG (ρ.set i (.pd d))) (hN : X.N.Nodup) (hv : i ∈ vs := by decide) (hi : X.N[i]? = some x := by rfl) (hx : Loc X.env.scope x := by first | exact Or.inl rfl | exact Or.inr rfl)
    (hf : X.fn x = true ∨ X.env.scope.names.lookup x = some .local := by first | exact Or.inl rfl | exact Or.inr rfl) : GC X av vs (.Name x pos) d ρ QG := fun Hs H σ v R r hr k =>
  sG.of (pg_name hN hi hx hf) (by
    by_cases hl : i < ρ.length
    · obtain ⟨r1, s1⟩ := r.set_pd hr hl
      exact k _ _ _ (by rfl) s1 r1 (wipe_set hv) (fun j hj => ⟨List.getElem?_set_ne fun z => hj (by rw [← z]; exact hv), List.getElem?_set_ne fun z => hj (by rw [← z]; exact hv)⟩) q
    · show R (σ.set i (some v)) H
      rw [set_out (by rw [← r.len]; exact hl)]
      rw [set_out hl] at q
      exact k _ _ _ rfl Step.refl r rfl (fun _ _ => ⟨rfl, rfl⟩) q)
theorem gcs_nil (q : QG ρ) : GCs X av vs [] [] ρ QG := fun Hs H σ ws R r hv k => sGs.of pgs_nil (by
  cases hv
  exact ⟨rfl, k σ ρ Hs rfl Step.refl r rfl (fun _ _ => ⟨rfl, rfl⟩) q⟩)
theorem gcs_cons {tg : Expr} {ts : List Expr} {d : D} {ds : List D} (h : GC X av vs tg d ρ fun ρ1 => GCs X av vs ts ds ρ1 QG) (hs : (assignEach (tg :: ts) X.env).map (·.2) = assign tg X.env :: (assignEach ts X.env).map (·.2) := by rfl) : GCs X av vs (tg :: ts) (d :: ds) ρ QG := fun Hs H σ ws R r hv k =>
  sGs.of (pgs_cons pg_s pgs_s hs) (by
    cases hv with
    | cons h1 h2 => exact ⟨_, _, rfl, h Hs H σ _ _ r h1 fun σ1 ρ1 Hs1 e1 s1 r1 w1 k1 q1 => q1 Hs1 H σ1 _ R r1 (by rw [e1]; exact h2) fun σ2 ρ2 Hs2 e2 s2 r2 w2 k2 q2 => k σ2 ρ2 Hs2 (e2.trans e1) (s1.trans s2) r2 (w2.trans w1) (fun i hi => ⟨(k2 i hi).1.trans (k1 i hi).1, (k2 i hi).2.trans (k1 i hi).2⟩) q2⟩)
theorem gc_tup {ts : List Expr} {k : Nat} {n : Nat} {d : D} {pos : Pos} (h : ∃ ds, d = .tuple ds ∧ ds.length = n ∧ GCs X av vs ts ds ρ QG) (hc : X.calm = true := by rfl)
    (hn : (assignEach ts X.env).length = n := by rfl) (hst : (assignEach ts X.env).findIdx? (·.1) = none := by rfl) : GC X av vs (.Tuple ts k pos) d ρ QG := fun Hs H σ v R r hv kk => by
  obtain ⟨ds, rfl, hl, q⟩ := h
  cases hv with
  | tup h1 h2 => exact sG.of (pg_tup hc pgs_s hn hst) ⟨_, _, rfl, .inl (.inl (r.same _ _ h1)), h2.length.trans hl, q Hs H σ _ R r h2 kk⟩
theorem ix_nil (q : QT true ρ) : IX X av [] ρ QT := fun Hs H σ R r k pins s I => pts_nil.run pins s σ H R I (k true ρ Hs H Step.refl r q)
theorem ix_one {c : Expr} (h : TX X av c ρ QT) : IX X av [c] ρ QT := fun Hs H σ R r k pins s I => (pts_one pt_s).run pins s σ H R I (h Hs H σ R r k)
end

/-- the blocks of a comprehension -/
def Blk (X : Cx) (scope : Scope) (Y : Cx) : Prop := ∃ (s : Shared) (H : Hp) (C : Addr) (cl : List (Str × Addr)) (fp : List Addr), Y = X.blk s H scope (compEnvC scope cl C X.env) fp
def gA (X : Cx) (scope : Scope) (tg : Expr) : TG := fun v σ H R => ∀ Y, Blk X scope Y → sG Y tg v σ H R
def iA (X : Cx) (scope : Scope) (ifs : List Expr) : TT := fun σ H R => ∀ Y, Blk X scope Y → sI Y ifs σ H R
def eA (X : Cx) (scope : Scope) (e : Expr) : TE := fun σ H R => ∀ Y, Blk X scope Y → sE Y e σ H R
/-- [elt for tg in e if ..], e a list or a tuple -/
theorem pi_uni {X : Cx} {scope : Scope} {tg : Expr} : ∀ (s : Shared) (H : Hp) (C : Addr) (cl : List (Str × Addr)) (fp : List Addr), PG (X.blk s H scope (compEnvC scope cl C X.env) fp) tg (gA X scope tg) := fun s H C cl fp => ⟨fun pins s' σ H' v u Q I r h => h _ ⟨s, H, C, cl, fp, rfl⟩ pins s' u I r⟩
theorem pif_uni {X : Cx} {scope : Scope} {ifs : List Expr} : ∀ (s : Shared) (H : Hp) (C : Addr) (cl : List (Str × Addr)) (fp : List Addr), PTs (X.blk s H scope (compEnvC scope cl C X.env) fp) ifs (iA X scope ifs) := fun s H C cl fp => ⟨fun pins s' σ H' Q I h => h _ ⟨s, H, C, cl, fp, rfl⟩ pins s' I⟩
theorem pel_uni {X : Cx} {scope : Scope} {elt : Expr} : ∀ (s : Shared) (H : Hp) (C : Addr) (cl : List (Str × Addr)) (fp : List Addr), PE (X.blk s H scope (compEnvC scope cl C X.env) fp) elt (eA X scope elt) := fun s H C cl fp => ⟨fun pins s' σ H' Q I h => h _ ⟨s, H, C, cl, fp, rfl⟩ pins s' I⟩
end DW

set_option Elab.async false
set_option autoImplicit false
set_option linter.all false
set_option maxRecDepth 100000
/-! DW7: more words -/
namespace DW
open PySem PySem.Spec L2
open PyProof.Rows hiding St
section
variable [CF : Cfg] [OG : Org]
variable {X : Cx} {av : List V} {ρ : Ev} {e a b c : Expr} {es : List Expr} {Φ : Ph} {Q : Sl → Ev → Prop} {QT : Bool → Ev → Prop}

/-! ### sums of lists and tuples -/
theorem b2_catL {xs ys : List D} (hz : xs.length + ys.length ≤ 100000) : B2 X (binaryOp .Add) (.list xs) (.list ys) (.ow none (.lst (xs ++ ys))) := fun Hs H vx vy R hs px py k => by
  cases px with
  | lst h1 h2 =>
    cases py with
    | lst g1 g2 => exact sO.of op_cat ⟨_, _, _, _, rfl, rfl, hs _ _ h1, hs _ _ g1, sz (by rw [h2.length, g2.length]; exact hz), k.lst hs (h2.append g2)⟩
theorem b2_catT {xs ys : List D} (hz : xs.length + ys.length ≤ 100000) : B2 X (binaryOp .Add) (.tuple xs) (.tuple ys) (.pd (.tuple (xs ++ ys))) := fun Hs H vx vy R hs px py k => by
  cases px with
  | @tup a vs _ h1 h2 =>
    cases py with
    | @tup b ws _ g1 g2 =>
      refine sO.of op_catA ⟨a, b, vs, ws, rfl, rfl, .inl (.inl (hs _ _ h1)), .inl (.inl (hs _ _ g1)), sz (by rw [h2.length, g2.length]; exact hz), fun z => ?_, fun z z2 => ?_, fun z z2 => k.tup hs (h2.append g2)⟩
      · subst z
        cases h2
        exact k.val hs (.tup g1 g2)
      · subst z2
        cases g2
        rw [List.append_nil] at k
        exact k.val hs (.tup h1 h2)
theorem b2_rep {xs : List D} {n : Int} (h1 : -(2 ^ 63) ≤ n) (h2 : n < 2 ^ 63) (hz : xs.length * n.toNat ≤ 100000) : B2 X (binaryOp .Mult) (.list xs) (.int n) (.ow none (.lst (List.replicate n.toNat xs).flatten)) := fun Hs H vx vy R hs px py k => by
  cases py
  cases px with
  | lst g1 g2 =>
    refine sO.of op_rep ⟨_, n, _, rfl, rfl, hs _ _ g1, h1, h2, sz (by rw [g2.length]; exact hz), k.lst hs ?_⟩
    clear hz h1 h2
    induction n.toNat with
    | zero => exact .nil
    | succ m ih =>
      rw [List.replicate_succ, List.replicate_succ, List.flatten_cons, List.flatten_cons]
      exact g2.append ih
/-! ### == of data -/
mutual
theorem Rp.dp {K : PySem.W.Frag} {H : Hp} : ∀ (d : D) (v : V), d.canLay0 = true → Rp K H v d → Dp K H v d
  | _, _, _, .non => .non
  | _, _, _, .bl b => .bl b
  | _, _, _, .int i => .int i
  | _, _, _, .str x => .str x
  | .list ds, _, c, .lst h1 h2 => .lst (.inl (.inl h1)) (RpAll.dp ds _ (by simpa [PyData.canLay0] using c) h2)
  | .tuple ds, _, c, .tup h1 h2 => .tup (.inl (.inl h1)) (RpAll.dp ds _ (by simpa [PyData.canLay0] using c) h2)
  | .dict _, _, c, _ => by simp [PyData.canLay0] at c
theorem RpAll.dp {K : PySem.W.Frag} {H : Hp} : ∀ (ds : List D) (vs : List V), PyData.canLayAll0 ds = true → RpAll K H vs ds → DpAll K H vs ds
  | [], _, _, .nil => .nil
  | d :: ds, _, c, .cons h1 h2 => by
    have z : d.canLay0 = true ∧ PyData.canLayAll0 ds = true := by simpa [PyData.canLayAll0] using c
    exact .cons (Rp.dp d _ z.1 h1) (RpAll.dp ds _ z.2 h2)
end
theorem b2_eqD {d f : D} (hu : X.A.units + 64 < cLine) (h1 : SeqAt.shaped d = true) (h2 : SeqAt.shaped f = true) : B2 X (compareOp .Eq) d f (.pd (.bool (PyData.eqv d f))) := fun Hs H vx vy R hs px py k =>
  sO.of (op_eqD hu) ⟨d, f, Rp.dp d _ (SeqAt.canLay_of_shaped h1) (Rp.mono hs _ _ px), Rp.dp f _ (SeqAt.canLay_of_shaped h2) (Rp.mono hs _ _ py), h1, h2, k.val hs (.bl _)⟩
theorem b2_neD {d f : D} (hu : X.A.units + 64 < cLine) (h1 : SeqAt.shaped d = true) (h2 : SeqAt.shaped f = true) : B2 X (compareOp .NotEq) d f (.pd (.bool (!PyData.eqv d f))) := fun Hs H vx vy R hs px py k =>
  sO.of (op_neD hu) ⟨d, f, Rp.dp d _ (SeqAt.canLay_of_shaped h1) (Rp.mono hs _ _ px), Rp.dp f _ (SeqAt.canLay_of_shaped h2) (Rp.mono hs _ _ py), h1, h2, k.val hs (.bl _)⟩
/-! ### a < b < c -/
theorem ex_chain {op op' : CmpOp} {pos : Pos} (h : ED X av a ρ fun x ρ1 => ED X av b ρ1 fun y ρ2 => ∃ k, B2 X (compareOp op) x y (.pd (.bool k)) ∧ (k = true → ED X av c ρ2 fun z ρ3 => ∃ s, B2 X (compareOp op') y z s ∧ Q s ρ3) ∧ (k = false → Q (.pd (.bool false)) ρ2))
    (hm : lastMarks [op, op'] [b, c] = false := by with_unfolding_all rfl) : EX X av (.Compare a [op, op'] [b, c] pos) ρ Q :=
  ex_of (pe_chain op_s op_s pe_s pe_s pe_s hm) fun Hs H σ R r kk => two_run (α := Unit) h r fun vx vy x y ρ2 Hs2 H2 st r2 px py ⟨k, p, q1, q2⟩ => p Hs2.st H2 vx vy _ r2.same px py fun v Hs3 H3 g hv => by
    cases hv
    refine ⟨k, rfl, ?_⟩
    have r3 := r2.grow g
    have st3 := st.trans (g.step)
    cases k with
    | true => exact (q1 rfl).run r3 fun vz z ρ4 Hs4 H4 st4 r4 pz ⟨s, p2, q⟩ => p2 Hs4.st H4 vy vz R r4.same (Rp.mono (g.st.trans st4.st) _ _ py) pz (kk.ret (st3.trans st4) r4 q)
    | false => exact (kk.ret st3 r3 (q2 rfl)).val r3.same (.bl false)
theorem tx_chain {op op' : CmpOp} {pos : Pos} (h : ED X av a ρ fun x ρ1 => ED X av b ρ1 fun y ρ2 => ∃ k, B2 X (compareOp op) x y (.pd (.bool k)) ∧ (k = true → ED X av c ρ2 fun z ρ3 => ∃ k2, B2 X (compareOp op') y z (.pd (.bool k2)) ∧ QT k2 ρ3) ∧ (k = false → QT false ρ2))
    (hm : lastMarks [op, op'] [b, c] = false := by with_unfolding_all rfl) : TX X av (.Compare a [op, op'] [b, c] pos) ρ QT :=
  tx_of (pt_chain op_s op_s pe_s pe_s pe_s hm) fun Hs H σ R r kk => two_run (α := Unit) h r fun vx vy x y ρ2 Hs2 H2 st r2 px py ⟨k, p, q1, q2⟩ => p Hs2.st H2 vx vy _ r2.same px py fun v Hs3 H3 g hv => by
    cases hv
    refine ⟨k, rfl, ?_⟩
    have r3 := r2.grow g
    have st3 := st.trans (g.step)
    cases k with
    | true => exact (q1 rfl).run r3 fun vz z ρ4 Hs4 H4 st4 r4 pz ⟨k2, p2, q⟩ => p2 Hs4.st H4 vy vz _ r4.same (Rp.mono (g.st.trans st4.st) _ _ py) pz fun v Hs5 H5 g5 hv => (by
        cases hv
        exact ⟨k2, rfl, kk k2 ρ4 _ H5 ((st3.trans st4).trans g5.step) (r4.grow g5) q⟩)
    | false => exact ⟨false, rfl, kk false ρ2 _ H3 st3 r3 (q2 rfl)⟩
/-! ### slices -/
def cutD (xs : List D) (lo hi : Option Int) : List D := (xs.drop (HT.sIx xs.length 0 lo)).take (HT.sIx xs.length xs.length hi - HT.sIx xs.length 0 lo)
theorem RpAll.cut {K : PySem.W.Frag} {Hs : Hp} {vs : List V} {ds : List D} (r : RpAll K Hs vs ds) (lo hi : Option Int) : RpAll K Hs (cutV vs lo hi) (cutD ds lo hi) := by
  unfold cutV cutD
  rw [r.length]
  exact (r.drop _).take _
def SlD (lo hi : Option Int) : D → Option Sl
  | .list ds => some (.ow none (.lst (cutD ds lo hi)))
  | .tuple ds => some (.pd (.tuple (cutD ds lo hi)))
  | _ => none
def sSl (X : Cx) : V → Option Int → Option Int → Hp → VK → Prop := fun x lo hi H Q => rSlL X.K x lo hi H Q ∨ rSlA X.K x lo hi H Q
theorem slD_run {Hs H : Hp} {v : V} {d : D} {lo hi : Option Int} {s : Sl} {R : VK} (hs : Same Hs H) (rp : Rp X.K Hs v d) (h : SlD lo hi d = some s) (k : Ret X.K Hs H R s) : sSl X v lo hi H R := by
  cases rp with
  | lst h1 h2 =>
    cases h
    exact .inl ⟨_, _, rfl, .inl (.inl (hs _ _ h1)), k.lst hs (h2.cut lo hi)⟩
  | @tup a vs ds h1 h2 =>
    cases h
    refine .inr ⟨a, vs, rfl, .inl (.inl (hs _ _ h1)), fun z => ?_, fun _ => k.tup hs (h2.cut lo hi)⟩
    have e : cutD ds lo hi = ds := by
      unfold cutD
      rw [← h2.length, z.1, z.2]
      simp [h2.length]
    rw [e] at k
    exact k.val hs (.tup h1 h2)
  | frl h1 h2 => cases h
  | non => cases h
  | bl _ => cases h
  | int _ => cases h
  | str _ => cases h
  | dk h1 h2 => cases h
  | dt h1 h2 => cases h
theorem ex_sl2 {p2 pos : Pos} (h : ED X av e ρ fun x ρ1 => ED X av a ρ1 fun y ρ2 => ∃ i, y = .int i ∧ ED X av b ρ2 fun z ρ3 => ∃ j s, z = .int j ∧ SlD (some i) (some j) x = some s ∧ Q s ρ3) : EX X av (.Subscript e (.Slice (some a) (some b) none p2) pos) ρ Q :=
  ex_of (pe_slice (sl_list.or sl_tupA) pe_s (po_some pe_s) (po_some pe_s)) fun Hs H σ R r k => h.run r fun vx x ρ1 Hs1 H1 st1 r1 px q1 => q1.run r1 fun vy y ρ2 Hs2 H2 st2 r2 py ⟨i, e1, q2⟩ => by
    subst e1
    cases py
    refine ⟨i, rfl, q2.run r2 fun vz z ρ3 Hs3 H3 st3 r3 pz ⟨j, s, e2, e3, q⟩ => ?_⟩
    subst e2
    cases pz
    exact ⟨j, rfl, slD_run r3.same (Rp.mono (st2.st.trans st3.st) _ _ px) e3 (k.ret ((st1.trans st2).trans st3) r3 q)⟩
theorem ex_slL {p2 pos : Pos} (h : ED X av e ρ fun x ρ1 => ED X av a ρ1 fun y ρ2 => ∃ i s, y = .int i ∧ SlD (some i) none x = some s ∧ Q s ρ2) : EX X av (.Subscript e (.Slice (some a) none none p2) pos) ρ Q :=
  ex_of (pe_slice (sl_list.or sl_tupA) pe_s (po_some pe_s) po_none) fun Hs H σ R r k => h.run r fun vx x ρ1 Hs1 H1 st1 r1 px q1 => q1.run r1 fun vy y ρ2 Hs2 H2 st2 r2 py ⟨i, s, e1, e3, q⟩ => by
    subst e1
    cases py
    exact ⟨i, rfl, slD_run r2.same (Rp.mono st2.st _ _ px) e3 (k.ret (st1.trans st2) r2 q)⟩
theorem ex_slH {p2 pos : Pos} (h : ED X av e ρ fun x ρ1 => ED X av b ρ1 fun y ρ2 => ∃ i s, y = .int i ∧ SlD none (some i) x = some s ∧ Q s ρ2) : EX X av (.Subscript e (.Slice none (some b) none p2) pos) ρ Q :=
  ex_of (pe_slice (sl_list.or sl_tupA) pe_s po_none (po_some pe_s)) fun Hs H σ R r k => h.run r fun vx x ρ1 Hs1 H1 st1 r1 px q1 => q1.run r1 fun vy y ρ2 Hs2 H2 st2 r2 py ⟨i, s, e1, e3, q⟩ => by
    subst e1
    cases py
    exact ⟨i, rfl, slD_run r2.same (Rp.mono st2.st _ _ px) e3 (k.ret (st1.trans st2) r2 q)⟩
/-- e[::-1], a list -/
theorem ex_rev {k : Nat} {p1 p2 p3 pos : Pos} (h : ED X av e ρ fun x ρ1 => ∃ ds, x = .list ds ∧ Q (.ow none (.lst ds.reverse)) ρ1) : EX X av (.Subscript e (.Slice none none (some (.UnaryOp .USub (.Constant (.int 1) k p1) p2)) p3) pos) ρ Q :=
  ex_of (pe_revL pe_s) fun Hs H σ R r k => h.run r fun vx x ρ1 Hs1 H1 st1 r1 px ⟨ds, e1, q⟩ => by
    subst e1
    cases px with
    | @lst a vs _ h1 h2 => exact ⟨a, vs, rfl, .inl (.inl (r1.same _ _ h1)), (k.ret st1 r1 q).lst r1.same h2.reverse⟩
/-! ### two and three names at once -/
theorem sx_par (i j : Nat) {x y : Str} {px py pt pos : Pos} {kt k2 pt2} (hN : X.N.Nodup) (h : EX X av a ρ fun s ρ1 => EX X av b ρ1 fun t ρ2 => Φ.nx ((ρ2.set i (nrm s)).set j (nrm t)))
    (hc : X.calm = true := by rfl) (hi : X.N[i]? = some x := by rfl) (hj : X.N[j]? = some y := by rfl) (hij : i ≠ j := by decide)
    (hx : X.env.scope.names.lookup x = some .local := by rfl) (hy : X.env.scope.names.lookup y = some .local := by rfl)
    (he : starEach [a, b] X.env = (false, eval a X.env) :: starEach [b] X.env := by rfl) (he2 : starEach [b] X.env = (false, eval b X.env) :: starEach [] X.env := by rfl)
    (hw : swappedStores [.Tuple [.Name x px, .Name y py] kt pt] (.Tuple [a, b] k2 pt2) X.env = pure (some [x, y]) := by rfl)
    (hs : swapsWithSole [.Tuple [.Name x px, .Name y py] kt pt] (.Tuple [a, b] k2 pt2) pos.line X.env = pure false := by rfl) :
    SX X av (.Assign [.Tuple [.Name x px, .Name y py] kt pt] (.Tuple [a, b] k2 pt2) pos) ρ Φ :=
  sx_of (ps_par hc hN hi hj hij hx hy (pa_cons pe_s (pa_cons pe_s pa_nil he2) he) hw hs) fun Hs H σ DD r k => h Hs H σ _ r fun v s ρ1 Hs1 H1 st1 r1 hv q1 => q1 Hs1 H1 σ _ r1 fun w t ρ2 Hs2 H2 st2 r2 hw2 q2 => by
    refine ⟨v, w, rfl, ?_⟩
    obtain ⟨f1, g1, g2⟩ := hv.holds (av := av)
    obtain ⟨f2, g3, g4⟩ := hw2.holds (av := av)
    have no1 : ∀ c, f1 c → Hs2.st c = none := fun c hc => by
      obtain ⟨_, y1, y2, u, hu, hn⟩ := g2 c hc
      cases e : Hs2.st c with
      | none => rfl
      | some z =>
        rcases st2.nw c z e with z | z | z
        · rw [y1] at z
          cases z
        · exact (z.no hu hn.1).elim
        · exact (y2 z).elim
    have no2 : ∀ c, f1 c → ¬ Hs2.ow c := fun c hc z => by
      obtain ⟨_, y1, y2, u, hu, hn⟩ := g2 c hc
      rcases st2.own c z with z | z
      · exact y2 z
      · exact z.no hu hn.1
    have st12 := st1.trans st2
    obtain ⟨Hs3, e3, r3, o3⟩ := r2.seti (i := i) (g1.step st2.st fun c hc u hu n => st2.keep c u hu (g2 c hc).2.2.1 n.1) fun c hc => ⟨no1 c hc, no2 c hc, r.org.dom c (g2 c hc).1⟩
    have no3 : ∀ c, f2 c → ¬ Hs3.ow c := fun c hc z => by
      rcases o3 c z with z | z
      · exact (g4 c hc).2.2.1 z
      · obtain ⟨_, _, _, u, hu, hn⟩ := g2 c z
        exact (g4 c hc).1.no hu hn.1
    obtain ⟨Hs4, e4, r4, o4⟩ := r3.seti (i := j) (g3.step (Hs' := Hs3) (by rw [e3]; exact Same.refl _) fun c hc u hu n => hu) fun c hc => ⟨by rw [e3]; exact (g4 c hc).2.1, no3 c hc, r.org.dom c (st1.dom c (g4 c hc).1)⟩
    refine k.nx _ _ Hs4 H2 ⟨⟨by rw [e4, e3]; exact st12.st, by rw [e4, e3]; exact st12.nw, st12.keep, fun c z => ?_, st12.dom⟩⟩ r4 q2
    rcases o4 c z with z | z
    · rcases o3 c z with z | z
      · exact st12.own c z
      · exact .inr (g2 c z).1
    · exact .inr (st1.dom c (g4 c z).1)
/-! ### x op= e, a name -/
theorem sx_aug (i : Nat) {x : Str} {op : Operator} {d : D} {pos pos' : Pos} (hN : X.N.Nodup) (h0 : ρ[i]? = some (.pd d)) (h : ED X av e ρ fun y ρ1 => ∃ f, B2 X (inplaceOp op) d y (.pd f) ∧ Φ.nx (ρ1.set i (.pd f)))
    (hi : X.N[i]? = some x := by rfl) (hx : Loc X.env.scope x := by first | exact Or.inl rfl | exact Or.inr rfl)
    (hf : X.fn x = true ∨ X.env.scope.names.lookup x = some .local := by first | exact Or.inl rfl | exact Or.inr rfl) : SX X av (.AugAssign (.Name x pos') op e pos) ρ Φ :=
  sx_of (ps_aug (ti := sO X (inplaceOp op)) hN hi hx pe_s (fun pins s σ H x y v u Q I rx ry h => h pins s σ v u I rx ry) hf) fun Hs H σ DD r k => by
    obtain ⟨v, h1, h2⟩ := r.sl i _ h0
    refine ⟨v, h1, h.run r fun w y ρ1 Hs1 H1 st1 r1 rp ⟨f, b, q⟩ => b Hs1.st H1 v w _ r1.same (Rp.mono st1.st _ _ h2) rp fun z Hs2 H2 g hz => ?_⟩
    have r2 := r1.grow g
    by_cases hl : i < ρ1.length
    · obtain ⟨r3, s3⟩ := r2.set_pd (i := i) hz hl
      exact k.nx _ _ _ H2 ((st1.trans g.step).trans s3) r3 q
    · show DD.nx (σ.set i (some z)) H2
      rw [set_out (by rw [← r1.len]; exact hl)]
      rw [set_out hl] at q
      exact k.nx _ _ _ H2 (st1.trans g.step) r2 q
theorem b2_iadd {i j : Int} : B2 X (inplaceOp .Add) (.int i) (.int j) (.pd (.int (i + j))) := b2_I0 iop_add fun _ => .int _
theorem b2_isub {i j : Int} : B2 X (inplaceOp .Sub) (.int i) (.int j) (.pd (.int (i - j))) := b2_I0 iop_sub fun _ => .int _
/-! ### isinstance(e, (T, U)) -/
theorem ex_isi2 {T U : String} {n m : Str} {p p1 p2 p3 pos : Pos} {x1} (hm : X.mg "isinstance" = none) (hmT : X.mg n = none) (hvT : bootBuiltins n = some (.type T)) (hmU : X.mg m = none) (hvU : bootBuiltins m = some (.type U))
    (h : ED X av e ρ fun d ρ1 => ∃ W r1 r2, tyD d = some W ∧ kitB W T = some r1 ∧ kitB W U = some r2 ∧ Q (.pd (.bool (r1 || r2))) ρ1)
    (hg : Gl X "isinstance" := by rfl) (hgT : Gl X n := by rfl) (hgU : Gl X m := by rfl) (hn : n ≠ "__name__" := by decide) (hdb : (n == ("__debug__" : Str)) = false := by decide) (hn2 : m ≠ "__name__" := by decide) (hdb2 : (m == ("__debug__" : Str)) = false := by decide)
    (he : starEach [e, .Tuple [.Name n p2, .Name m p3] x1 p1] X.env = (false, eval e X.env) :: starEach [.Tuple [.Name n p2, .Name m p3] x1 p1] X.env := by rfl)
    (he2 : starEach [.Tuple [.Name n p2, .Name m p3] x1 p1] X.env = (false, eval (.Tuple [.Name n p2, .Name m p3] x1 p1) X.env) :: starEach [] X.env := by rfl)
    (he3 : starEach [.Name n p2, .Name m p3] X.env = (false, eval (.Name n p2) X.env) :: starEach [.Name m p3] X.env := by rfl) (he4 : starEach [.Name m p3] X.env = (false, eval (.Name m p3) X.env) :: starEach [] X.env := by rfl)
    (hpl : (backTo pos (starEach [.Tuple [.Name n p2, .Name m p3] x1 p1] X.env)).any (·.1) = false := by rfl) :
    EX X av (.Call (.Name "isinstance" p) [e, .Tuple [.Name n p2, .Name m p3] x1 p1] [] pos) ρ Q :=
  ex_of (pe_callB call_isiT hg hm (by decide +kernel) (pa_cons pe_s (pa_cons (pe_tup (pa_cons (pe_bltn (v := .ty T) hgT hmT hvT rfl hn hdb) (pa_cons (pe_bltn (v := .ty U) hgU hmU hvU rfl hn2 hdb2) pa_nil he4) he3)) pa_nil he2) he) (by decide) (by decide) he hpl) fun Hs H σ R rr k => h.run rr fun v d ρ1 Hs1 H1 st r1 rp ⟨W, b1, b2, t1, t2, t3, q⟩ => by
    refine ⟨by show 2 ≤ sizeLine; decide, fun p hp => ?_⟩
    have g := Grow.new r1.same (.tup [.ty T, .ty U]) hp
    have kk := k.ret (st.trans g.step) (r1.grow g) q
    refine ⟨v, p, [.ty T, .ty U], .type W, [.type T, .type U], (b1 || b2), rfl, upd_same, .cons (.ty T) (.cons (.ty U) .nil), tyX_of g.sub (Rp.mono g.st _ _ rp) t1, ?_, kk.val g.sub (.bl _)⟩
    refine kitAny_cons (kit_ty t2) (fun z => ?_) (fun z => by rw [z]; rfl)
    subst z
    refine kitAny_cons (kit_ty t3) (fun z => ?_) (fun z => by rw [z]; rfl)
    subst z
    exact kitAny_nil
/-! ### len of an owned list -/
theorem ex_lenO (i : Nat) {x : Str} {t : Option Nat} {ds : List D} {p p2 pos : Pos} (h0 : ρ[i]? = some (.ow t (.lst ds))) (hm : X.mg "len" = none) (q : Q (.pd (.int (ds.length : Int))) ρ)
    (hN : X.N[i]? = some x := by rfl) (hv : Vis X.env.scope x := by first | exact Or.inl rfl | exact Or.inr (Or.inl rfl) | exact Or.inr (Or.inr rfl))
    (hd : (x == ("__debug__" : Str)) = false := by decide) (hcd : (x == ("__classdict__" : Str)) = false := by decide) (hg : Gl X "len" := by rfl)
    (he : starEach [.Name x p2] X.env = (false, eval (.Name x p2) X.env) :: starEach [] X.env := by rfl) (hpl : (backTo pos (starEach [] X.env)).any (·.1) = false := by rfl) : EX X av (.Call (.Name "len" p) [.Name x p2] [] pos) ρ Q :=
  ex_of (pe_callB call_len_seq hg hm PySem.boot_len (pa_cons (pv i hN hv hd hcd) pa_nil he) (by decide) (by decide) he hpl) fun Hs H σ R r k => by
    obtain ⟨a, vs, h1, h2, h3, h4⟩ := r.ow_at h0
    refine ⟨.ref a, h1, a, vs, rfl, .inl (.inl (.inl h3)), ?_⟩
    rw [h4.length]
    exact (k.ret Step.refl r q).val r.same (.int _)
end
end DW

set_option Elab.async false
set_option autoImplicit false
set_option linter.all false
set_option maxRecDepth 100000
/-! DW8: for i, x in enumerate(a tuple) -/
namespace PySem
set_option maxHeartbeats 1000000 in
theorem dw_enumT {v : Value} {o : Obj} {HH : Heap → Prop} (B : Begins v o HH) :
    Meets (Builtin.«enumerate.__new__» ⟨[.type "enumerate", v], []⟩) (fun _ R s => HH s.heap ∧ R (.ok (.ret (.ref (s.heap.push o).objs.size)))
      { s with heap := (s.heap.push o).push { cls := .type "enumerate", data := .fields #[.none, .bool false, .ref s.heap.objs.size, rawInt 0, .none, .none] } }) :=
  .of_wp fun prog w A R s h => by
    cases s with
    | mk hp g d tk os =>
      have z := h.1
      have h := h.2
      have hsub := sub_enumerate
      have qi : ∀ {A' : Around} {E : Value → Shared → Prop} {Q : Value → Shared → Prop}, Q (.ref hp.objs.size) ⟨hp.push o, g, d, tk, os⟩ → wpAny (model prog w) A' (pyIter v) Q E ⟨hp, g, d, tk, os⟩ := fun q => B.iter prog w _ _ _ _ z q
      wp_walk using qi
      refine wpAny_stack_any fun _ => wpAny_pure ?_
      split
      · next c _ _ _ _ _ =>
        cases (c == Value.type "enumerate") <;> (wp_walk using qi; exact ⟨_, rfl, h⟩)
      · wp_walk using qi
        exact ⟨_, rfl, h⟩
theorem dw_call_enumT {prog : Program} {w : World} {A : Around} {E : Value → Shared → Prop} {s : Shared} {v : Value} {o : Obj} {HH : Heap → Prop} {Q : Value → Shared → Prop} (B : Begins v o HH) (h1 : HH s.heap)
    (h : ∀ h', IsEnum h' (s.heap.objs.size + 1) s.heap.objs.size 0 .none → h'.get? s.heap.objs.size = some o → (∀ b u, s.heap.get? b = some u → h'.get? b = some u) → Q (.ref (s.heap.objs.size + 1)) { s with heap := h' }) :
    wpAny (model prog w) A (call (.type "enumerate") [v]) Q E s := by
  have hz : (s.heap.push o).objs.size = s.heap.objs.size + 1 := Heap.size_push ..
  refine callType_new F.called_enumerate (by decide) (F.typeCall_enumerate_1 _) (F.newCall_enumerate_1 _) (fun obj => F.args_object_init_2 obj _) F.entry_enumerate_new (dw_enumT B) ⟨h1, ?_⟩
  generalize eo : ({ cls := .type "enumerate", data := .fields #[.none, .bool false, .ref s.heap.objs.size, rawInt 0, .none, .none] } : Obj) = en
  have he : ((s.heap.push o).push en).get? (s.heap.push o).objs.size = some en := Heap.get?_push_size _ (by rw [← eo]; rfl)
  rw [hz] at he
  show _ ∧ _
  rw [hz]
  exact ⟨⟨en, he, by rw [← eo]⟩, h _ (by rw [← eo] at he ⊢; exact he) (Heap.get?_push_of_some _ (Heap.get?_push_size _ B.free)) fun b u x => Heap.get?_push_of_some _ (Heap.get?_push_of_some _ x)⟩
end PySem
namespace DW
open PySem PySem.Spec L2
open PyProof.Rows hiding St
/-- each item of the tuple at a in a new pair with its number -/
def IteT (K : PySem.W.Frag) (a : Addr) : It :=
  ⟨fun i H => ∃ (xs : List V) (x : V), SqT K H a xs ∧ xs[i]? = some x, fun i H v H' => ∃ p x, v = .ref p ∧ H p = none ∧ H' = upd H p (.tup [.int (i : Nat), x]) ∧ ∀ xs, SqT K H a xs → xs[i]? = some x, fun i H => ∃ xs : List V, SqT K H a xs ∧ xs.length = i⟩
theorem turn_enumT {P : Program} {w : World} {K : PySem.W.Frag} {elts : List Expr} {kk : Nat} {tpos : Pos} (a e it : Addr) (hai : a ≠ it) (hae : a ≠ e) :
    Turn P w K (.Tuple elts kk tpos) (IteT K a) [e, it] e (fun i h => (∃ old, IsEnum h e it ((i : Nat) : Int) old) ∧ h.IsTupleIter it a i ∧ e ≠ it) where
  mem := List.mem_cons_self
  obj := fun i h st b hb => by
    obtain ⟨⟨old, he⟩, ⟨u, hu, _, hd⟩, _⟩ := st
    rcases List.mem_cons.mp hb with z | hb
    · subst z
      exact ⟨_, he, fun v q => nomatch q⟩
    · have z := List.mem_singleton.mp hb
      subst z
      exact ⟨u, hu, fun v q => by rw [hd] at q; cases q⟩
  keep := fun i h h' st k => ⟨st.1.imp fun old he => k e List.mem_cons_self _ he, st.2.1.at fun u q => k it (List.mem_cons_of_mem _ List.mem_cons_self) u q, st.2.2⟩
  item := by
    intro X hP hw hK hc i pins s σ H E I hf st hg
    subst hP hw hK
    obtain ⟨⟨old, he⟩, hit, hne⟩ := st
    obtain ⟨xs, x, hq, hx⟩ := hg
    obtain ⟨its, rv, p, hz⟩ := I.tuple hq
    obtain ⟨u, hu, ru⟩ := rv.get hx
    have hlt : i < its.toArray.size := by
      rw [List.size_toArray]
      exact (List.getElem?_eq_some_iff.mp hu).1
    have hh : X.A.in1.handled = none := I.ok.hd hc
    have hel : e < s.heap.objs.size := Heap.lt_size he
    have hil : it < s.heap.objs.size := by
      obtain ⟨_, q, _⟩ := hit
      exact Heap.lt_size q
    refine wpAny_pyNext_enum_itemD (Draws.tuple hh it a hai its.toArray) he ⟨hit, p⟩ hlt hne (by simp only [List.mem_cons, List.mem_singleton, List.not_mem_nil, or_false, not_or]; exact ⟨hne, Ne.symm hae⟩) fun y h' tk hy ho hst hT hsz hk => ?_
    have ey : y = u := by
      have q : its.toArray[i]? = some u := by simpa using hu
      exact Option.some.inj (hy.symm.trans q)
    subst ey
    refine ⟨_, rfl, wpAny_letOwnedTupleGo_enum (s := { s with heap := h', toks := tk + 1 }) ho fun h'' he' sb => ?_⟩
    have hT2 : h''.get? s.heap.objs.size = some { cls := .type "tuple", data := .seq #[.int i tk, y] } := (sb.2 _ (Nat.ne_of_gt hel)).trans hT
    have new : ObjOk X.prog X.w (upd H s.heap.objs.size (.tup [.int (i : Nat), x])) h'' s.heap.objs.size (.tup [.int (i : Nat), x]) :=
      ⟨by show 2 ≤ sizeLine; decide, [.int i tk, y], .cons ⟨_, rfl⟩ (.cons ru .nil), ⟨_, hT2, rfl, _, rfl⟩⟩
    have notm : ∀ {b : Addr}, b ∉ [e, it] → b ≠ e ∧ b ≠ it := fun {b} hb => by simpa using hb
    have I1 : Inv X pins σ (upd H s.heap.objs.size (.tup [.int (i : Nat), x])) { s with heap := h'', toks := tk + 1 } :=
      I.turnedNew (ch := [e, it]) (fun b ob hb q => (sb.2 b (notm hb).1).trans (hk b ob (notm hb).1 (notm hb).2 q)) hf (Nat.le_refl _) new
    refine ⟨.ref s.heap.objs.size, _, I1, rfl, ⟨_, x, rfl, I.hok.fresh (Nat.le_refl _), rfl, fun ys hy => by rw [I.tuple_inj hy hq]; exact hx⟩, ⟨⟨y, ?_⟩, hst.1.at fun o q => (sb.2 it (Ne.symm hne)).trans q, hne⟩, fun b hb => ?_⟩
    · rw [show ((i + 1 : Nat) : Int) = (i : Int) + 1 by omega]
      exact he'
    · have hb' : b < s.heap.objs.size := by
        rcases List.mem_cons.mp hb with z | z
        · rw [z]; exact hel
        · rw [List.mem_singleton.mp z]; exact hil
      rw [upd_ne (Nat.ne_of_lt hb')]
      exact (hf b hb).1
  done := by
    intro X hP hw hK hc i pins s σ H E I hf st hg
    subst hP hw hK
    obtain ⟨⟨old, he⟩, hit, hne⟩ := st
    obtain ⟨xs, hq, hx⟩ := hg
    obtain ⟨its, rv, p, hz⟩ := I.tuple hq
    obtain ⟨f0, f1, f2, f3, f4, f5⟩ := hf it (List.mem_cons_of_mem _ List.mem_cons_self)
    have hl := rv.length
    have hh : X.A.in1.handled = none := I.ok.hd hc
    have hn : its.toArray.size = i := by rw [List.size_toArray, ← hl, hx]
    refine wpAny_pyNext_enum_endD (Draws.tuple hh it a hai its.toArray) he (by rw [hn]; exact ⟨hit, p⟩) fun h' eb => ⟨rfl, I.turned (t' := s.toks) (fun b o hb q => eb b o hb q) f0 f1 f3 f4 f5⟩
  self := fun A i s Q E st h => let ⟨⟨_, he⟩, _⟩ := st; wpAny_pyIter_enum he h
end DW

set_option Elab.async false
set_option autoImplicit false
set_option linter.all false
set_option maxRecDepth 100000
/-! DW9: sorted(set(a list of ints)) -/
namespace DW
open PySem PySem.Spec L2
open PyProof.Rows hiding St
/-- the set object as it is born -/
abbrev S0 (w : World) : Obj := { cls := .type "set", dict := none, data := .set #[] 0 (.fresh 0 0 (!w.params.followText "set-order")) }
abbrev withS (w : World) (s : Shared) : Shared := { s with heap := s.heap.push (S0 w) }
def SetEnd (w : World) (s : Shared) (ns : List Int) (h' : Heap) (c : Nat) : Prop := SetR w h' s.heap.objs.size (fun j => decide (j ∈ ns)) c ∧ c ≤ ns.length ∧ ∀ b o, s.heap.get? b = some o → h'.get? b = some o
section
variable {P : Program} {w : World} {A : Around} {E : Value → Shared → Prop} {s : Shared}
set_option maxHeartbeats 3200000 in
/-- set.__init__ of the new set over a list -/
theorem set_fill {l : Addr} {items : Array Value} (ns : List Int) {B : Around} (hB : B.handled = none) (hl : s.heap.IsList l items) (hit : IntsAre items.toList ns) (hb : ns.length + 1 < scanBound) :
    wpAny (model P w) B (Builtin.«set.__init__» ⟨[.ref s.heap.objs.size, .ref l], []⟩) (fun r s2 => r = .done (.ret .none) ∧ ∃ (h' : Heap) (tk c : Nat), s2 = { s with heap := h', toks := tk } ∧ SetEnd w s ns h' c) E (withS w s) := by
  have hS : (withS w s).heap.get? s.heap.objs.size = some (S0 w) := Heap.get?_push_size _ rfl
  cases hl with
  | intro ol hol' =>
    obtain ⟨hol, hcl, nl, hdl⟩ := hol'
    cases ol with
    | mk ocls odict odata oslots =>
      change ocls = .type "list" at hcl
      change odata = .seq items nl at hdl
      subst hcl hdl
      have hlt : l < s.heap.objs.size := Heap.lt_size hol
      have hol2 : (withS w s).heap.get? l = some { cls := .type "list", dict := odict, data := .seq items nl, slots := oslots } := Heap.get?_push_of_some _ hol
      have hl2 : (withS w s).heap.IsList l items := ⟨_, hol2, rfl, nl, rfl⟩
      have hol' := hol2
      have hn1 := F.sub_list_set
      have hn2 := F.sub_list_frozenset
      have hn3 : (Value.type "list" == Value.type "dict") = false := by decide
      unfold Builtin.«set.__init__» noKeywords Builtin.Frozenset.updateFrom
      generalize hPI : pyIter = PI
      wp_walk
      subst hPI
      refine wpAny_pyIter_list hl2 (wpAny_bind (wpAny_runValue ?_))
      have zz : (withS w s).heap.objs.size = s.heap.objs.size + 1 := Heap.size_push ..
      have n1 : l ≠ (withS w s).heap.objs.size := by
        rw [zz]
        exact Nat.ne_of_lt (Nat.lt_succ_of_lt hlt)
      have n2 : s.heap.objs.size ∉ [(withS w s).heap.objs.size, l] := by
        rw [zz]
        intro hm
        rcases List.mem_cons.mp hm with z | z
        · exact absurd z (Nat.ne_of_lt (Nat.lt_succ_self _))
        · exact absurd (List.mem_singleton.mp z) (Nat.ne_of_gt hlt)
      have len : items.size = ns.length := by
        have q := IntsAre.length hit
        rwa [Array.length_toList] at q
      have at_ : ∀ (i : Nat) (v : Value), items[i]? = some v → ∃ k t, ns[i]? = some k ∧ v = .int k t := fun i v hv => by
        have hi : i < ns.length := by
          rw [← len]
          exact (Array.getElem?_eq_some_iff.mp hv).1
        obtain ⟨t, e⟩ := PyProof.Rows.IntsAre.int_at hit i v (by rw [Array.getElem?_toList]; exact hv)
        exact ⟨ns[i], t, List.getElem?_eq_getElem hi, by rw [e, List.getD_eq_getElem?_getD, List.getElem?_eq_getElem hi]; rfl⟩
      have hB2 : B.in1.handled = none := hB
      refine set_update_ints (Walks.list hB2 _ l n1 items).toS s.heap.objs.size n2 ns len hb at_ (items.size - 0) 0 _ (by omega) (Nat.zero_le _) ⟨⟨_, Heap.get?_push_size _ rfl, rfl, rfl⟩, hl2.push _⟩ ?_ ?_
      · exact ⟨0, Nat.le_refl 0, setR_new_at (Heap.get?_push_of_some _ hS)⟩
      · intro s' c' hm hc' hS'
        cases s' with
        | mk h' g2 d' tk' os' =>
          cases (show g2 = s.gens from hm.gens)
          cases (show d' = s.drawn from hm.drawn)
          cases (show os' = s.os from hm.os)
          refine wpAny_pure ?_
          show wpAny _ _ (ret Value.none) _ _ _
          rw [len] at hc'
          refine wpAny_pure ⟨rfl, h', tk', c', rfl, hS', hc', fun b o e => ?_⟩
          have hb0 : b < s.heap.objs.size := Heap.lt_size e
          refine hm.heap b o (fun hm2 => ?_) (Heap.get?_push_of_some _ (Heap.get?_push_of_some _ e))
          rcases List.mem_cons.mp hm2 with z | z
          · exact absurd z (Nat.ne_of_lt hb0)
          · have z := List.mem_singleton.mp z
            rw [zz] at z
            exact absurd z (Nat.ne_of_lt (Nat.lt_succ_of_lt hb0))
set_option maxHeartbeats 3200000 in
theorem set_of_list {l : Addr} {items : Array Value} (ns : List Int) {Q : Value → Shared → Prop} (hA : A.handled = none) (hl : s.heap.IsList l items) (hit : IntsAre items.toList ns) (hb : ns.length + 1 < scanBound)
    (hQ : ∀ (h' : Heap) (tk c : Nat), SetEnd w s ns h' c → Q (.ref s.heap.objs.size) { s with heap := h', toks := tk }) : wpAny (model P w) A (call (.type "set") [.ref l]) Q E s := by
  have cs := F.called_set
  obtain ⟨_, _, hmro⟩ := cs.mro
  have hmade := cs.made
  have hsub := cs.sub
  have h1 := cs.notType
  have h2 := cs.canCreate
  have hct := F.typeCall_set_1 (.ref l)
  have hli := cs.init.lookup
  refine wpAny_call (codeAny_of_tree (show wpAny _ _ (callAny (.type "set") _) _ _ _ from wpAny_pure ⟨Code.quiet_builtin _ (by decide +kernel), codeAny_builtin F.entry_type_call ?_⟩))
  rw [Around.under_plain (weight_type_call_type "set" [.ref l] []) rfl]
  repeat (any_goals (first | assumption | wp_step))
  refine codeAny_mono (code_set_led1 (.ref l) (E := E) (Q₁ := fun obj s₁ => obj = .ref s.heap.objs.size ∧ s₁ = withS w s) ⟨rfl, rfl⟩) fun r s₁ hr => ?_
  cases r with
  | error e => exact hr
  | ok fl =>
    cases fl with
    | next => exact hr.elim
    | brk => exact hr.elim
    | cont => exact hr.elim
    | ret obj =>
      obtain ⟨e1, e2⟩ := hr
      subst e1 e2
      have hS : (withS w s).heap.get? s.heap.objs.size = some (S0 w) := Heap.get?_push_size _ rfl
      have hT : (withS w s).TypeIs (.ref s.heap.objs.size) "set" := ⟨_, hS, rfl⟩
      have hbi := cs.init.bind (.ref s.heap.objs.size)
      repeat (any_goals (first | assumption | wp_step))
      refine codeAny_mono (codeAny_call_builtin (R := wants (fun r s₂ => r = .none ∧ ∃ (h' : Heap) (tk c : Nat), s₂ = { s with heap := h', toks := tk } ∧ SetEnd w s ns h' c) E) cs.init.plain F.entry_set_init (check_set_init_1 hT ?_)) fun r₂ s₂ hr₂ => ?_
      · refine wpAny_mono (set_fill (E := E) ns (show _ from hA) hl hit hb) (fun r s2 hq => ?_) fun _ _ z => z
        obtain ⟨e1, h', tk, c, e2, e3⟩ := hq
        subst e1
        exact ⟨rfl, h', tk, c, e2, e3⟩
      · cases r₂ with
        | error e => exact hr₂
        | ok f2 =>
          cases f2 with
          | next => exact hr₂.elim
          | brk => exact hr₂.elim
          | cont => exact hr₂.elim
          | ret r =>
            obtain ⟨e1, h', tk, c, e2, e3⟩ := hr₂
            subst e1 e2
            repeat (any_goals (first | assumption | wp_step))
            exact hQ h' tk c e3
end
section
variable {X : Cx}
theorem nodup_le : ∀ {l m : List Int}, l.Nodup → (∀ x ∈ l, x ∈ m) → l.length ≤ m.length
  | [], _, _, _ => Nat.zero_le _
  | a :: r, m, h, k => by
    obtain ⟨h1, h2⟩ := List.nodup_cons.mp h
    have ha := k a List.mem_cons_self
    have := nodup_le (m := m.erase a) h2 fun x hx => (List.mem_erase_of_ne (show x ≠ a from fun e => h1 (by rw [← e]; exact hx))).mpr (k x (List.mem_cons_of_mem _ hx))
    rw [List.length_erase_of_mem ha] at this
    have := List.length_pos_of_mem ha
    rw [List.length_cons]
    omega
theorem setR_card {w : World} {h : Heap} {a : Addr} {S : Int → Bool} {c : Nat} (R : SetR w h a S c) {L : List Int} (hL : ∀ k, S k = true → k ∈ L) : c ≤ L.length := by
  obtain ⟨o, es, ep, t, ho, hex, hd, g, nd, hm, hb, hf, hn, hr, hl⟩ := R
  have := nodup_le nd (m := L) fun x hx => hL x ((hm x).mpr hx)
  rw [List.length_map, Array.length_toList] at this
  omega
def rSetOfL (K : PySem.W.Frag) (w : World) : List V → Hp → VK → Prop := fun xs H Q => ∃ (l : Addr) (ns : List Int), xs = [V.ref l] ∧ SqL K H l (ns.map V.int) ∧ ns.length ≤ 1000 ∧ ∀ p c, H p = none → (∀ L : List Int, (∀ x ∈ ns, x ∈ L) → c ≤ L.length) → Q (.ref p) (upd H p (SetO w p (fun j => decide (j ∈ ns)) c))
theorem cr_setOfL (hc : X.calm = true) : CallR X (.type "set") (rSetOfL X.K X.w) := by
  intro pins s σ H xs us Q I r h
  obtain ⟨l, ns, rfl, hl, hz, q⟩ := h
  rw [Vals.ref1 r]
  obtain ⟨its, rv, pl, _⟩ := I.list hl
  have hn : H s.heap.objs.size = none := I.hok.fresh (Nat.le_refl _)
  refine set_of_list ns (I.ok.hd hc) pl.isList (by simpa using intsAre_of rv) (Nat.lt_of_le_of_lt (Nat.succ_le_succ hz) (by decide)) fun h' tk c ⟨e1, e2, e3⟩ => ?_
  exact ⟨.ref s.heap.objs.size, _, I.laid (t' := tk) e3 (Nat.le_refl _) (setO_new e1), rfl, q _ c hn fun L hL => setR_card e1 fun k hk => hL k (of_decide_eq_true hk)⟩
variable [CF : Cfg] [OG : Org]
variable {av : List V} {ρ : Ev} {e : Expr} {Q : Sl → Ev → Prop}
/-- sorted(set(e)), e a list of ints -/
theorem ex_sortedSet {p p2 pos pos2 : Pos} (hm : X.mg "sorted" = none) (hm2 : X.mg "set" = none) (h : ED X av e ρ fun d ρ1 => ∃ ns : List Int, d = .list (ns.map .int) ∧ (ns.length < 64 ∨ ∃ M : List Int, M.length < 64 ∧ ns.length ≤ 1000 ∧ ∀ x ∈ ns, x ∈ M) ∧ ∀ ms : List Int, ms.Pairwise (· < ·) → (∀ k : Int, k ∈ ms ↔ k ∈ ns) → Q (.ow none (.lst (ms.map .int))) ρ1)
    (hg : Gl X "sorted" := by rfl) (hg2 : Gl X "set" := by rfl) (hc : X.calm = true := by rfl) (he : starEach [e] X.env = (false, eval e X.env) :: starEach [] X.env := by rfl) (hpl : (backTo pos2 (starEach [] X.env)).any (·.1) = false := by rfl)
    (he2 : starEach [.Call (.Name "set" p2) [e] [] pos2] X.env = (false, eval (.Call (.Name "set" p2) [e] [] pos2) X.env) :: starEach [] X.env := by rfl) (hpl2 : (backTo pos (starEach [] X.env)).any (·.1) = false := by rfl) :
    EX X av (.Call (.Name "sorted" p) [.Call (.Name "set" p2) [e] [] pos2] [] pos) ρ Q :=
  ex_of (pe_callB (cr_sortedSet hc) hg hm (by decide +kernel) (pa_cons (pe_callTy (cr_setOfL hc) hg2 hm2 (by decide +kernel) (pa_cons pe_s pa_nil he) (by decide) (by decide) he hpl) pa_nil he2) (by decide) (by decide) he2 hpl2) fun Hs H σ R r k => h.run r fun v d ρ1 Hs1 H1 st r1 rp ⟨ns, e1, hz, q⟩ => by
    subst e1
    cases rp with
    | lst h1 h2 =>
      rw [h2.ints] at h1
      have hz1 : ns.length ≤ 1000 := by rcases hz with z | ⟨M, z1, z2, z3⟩ <;> omega
      have hz2 : ∀ c : Nat, (∀ L : List Int, (∀ x ∈ ns, x ∈ L) → c ≤ L.length) → c < 64 := fun c hc => by
        rcases hz with z | ⟨M, z1, z2, z3⟩
        · exact Nat.lt_of_le_of_lt (hc ns fun _ h => h) z
        · exact Nat.lt_of_le_of_lt (hc M z3) z1
      refine ⟨_, ns, rfl, .inl (.inl (r1.same _ _ h1)), hz1, fun p c hp hcn => ⟨p, _, c, rfl, upd_same, hz2 c hcn, fun ms p2 hw hmem hlen hp2 => ?_⟩⟩
      -- the set itself: a new object that nobody keeps
      have g := Grow.newO r1.same (SetO X.w p (fun j => decide (j ∈ ns)) c) hp
      have k2 : Ret X.K Hs1.st (upd H1 p (SetO X.w p (fun j => decide (j ∈ ns)) c)) R (.ow none (.lst (ms.map .int))) := k.ret (st.trans g.step) (r1.grow g) (q ms hw fun k => (hmem k).trans (by simp))
      exact k2.lst g.sub RpAll.of_ints p2 hp2
end
end DW

set_option Elab.async false
set_option autoImplicit false
set_option linter.all false
set_option maxRecDepth 100000
/-! DW10: defs called by name; ranges; what a law gets -/
namespace DW
open PySem PySem.Spec L2
open PyProof.Rows hiding St
abbrev Fi := Ev → (Sl → Ev → Prop) → (Exn → Prop) → Prop
/-- a def that can be called by its name -/
structure Cal [CF : Cfg] (P : Program) (w : World) (K : PySem.W.Frag) (mg : Str → Option Value) (base : Heap) (k : Nat) (x : Str) (ps : List Str) (φ : Fi) : Prop where
  ex : ∃ (f : Addr) (fd : FuncData), FnOk P w K mg base (L2.CX P w) k f fd ps (SpD K φ) ∧ mg x = some (.ref f) ∧ PySem.W.keepIn K (.ref f) = true ∧ Binds K fd ps []
theorem Cal.mk' [CF : Cfg] {P : Program} {w : World} {K : PySem.W.Frag} {mg : Str → Option Value} {base : Heap} {k : Nat} {x : Str} {ps : List Str} {φ : Fi} {f : Addr} {fd : FuncData} {st : Stmt} (h : FnOk P w K mg base (L2.CX P w) k f fd ps (SpD K φ)) (F : Fun K x x st f fd) (hm : mg x = some (.ref f)) (hb : Binds K fd ps []) : Cal P w K mg base k x ps φ :=
  ⟨f, fd, h, hm, F.kp, hb⟩
/-- a def over typed data -/
def fn1 {α : Type} (enc : α → List D) (pre : α → Prop) (f : α → D) : Fi := fun as P _ => ∃ x, as = (enc x).map .pd ∧ pre x ∧ P (.pd (f x)) as
section
variable [CF : Cfg] [OG : Org]
variable {X : Cx} {av : List V} {ρ : Ev} {e a b c tg elt : Expr} {es ifs : List Expr} {body sts : List Stmt} {Φ : Ph} {Q : Sl → Ev → Prop} {scope : Scope} {xk : Exn → Prop}
theorem ex_calC {k j : Nat} {ps : List Str} {φ : Fi} {x : Str} {p pos : Pos} (C : Cal X.prog X.w X.K X.mg X.base k x ps φ) (hr : Room j X.A) (hj : k ≤ j) (tk : Takes X (WO X.K xk)) (h : AX X av (e :: es) ρ fun ds ρ1 => φ (ds.map .pd) (fun s _ => Q s ρ1) xk)
    (hg : Gl X x := by rfl) (hdb : (x == ("__debug__" : Str)) = false := by decide) (he : starEach (e :: es) X.env = (false, eval e X.env) :: starEach es X.env := by rfl) (hpl : (backTo pos (starEach es X.env)).any (·.1) = false := by rfl) : EX X av (.Call (.Name x p) (e :: es) [] pos) ρ Q := by
  obtain ⟨f, fd, F, hm, hk, hb⟩ := C.ex
  exact ex_call F (hr.mono hj) hm hk hb tk h hg hdb he hpl
theorem ex_calO (i : Nat) {k j : Nat} {ps : List Str} {φ : Fi} {x y : Str} {p p2 pos : Pos} (C : Cal X.prog X.w X.K X.mg X.base k x ps φ) (hr : Room j X.A) (hj : k ≤ j) (tk : Takes X (WO X.K xk))
    (h : AX X av es ρ fun ds ρ1 => ∃ t o, ρ1[i]? = some (.ow t o) ∧ φ (.ow (some 0) o :: ds.map .pd) (fun s as' => ∃ o' rest, as' = .ow (some 0) o' :: rest ∧ Q s (ρ1.set i (.ow t o'))) xk) (h0 : ∃ t o, ρ[i]? = some (Sl.ow t o))
    (hN : X.N[i]? = some y := by rfl) (hv : Vis X.env.scope y := by first | exact Or.inl rfl | exact Or.inr (Or.inl rfl) | exact Or.inr (Or.inr rfl))
    (hd : (y == ("__debug__" : Str)) = false := by decide) (hcd : (y == ("__classdict__" : Str)) = false := by decide)
    (hg : Gl X x := by rfl) (hdb : (x == ("__debug__" : Str)) = false := by decide)
    (he : starEach (.Name y p2 :: es) X.env = (false, eval (.Name y p2) X.env) :: starEach es X.env := by rfl) (hpl : (backTo pos (starEach es X.env)).any (·.1) = false := by rfl) : EX X av (.Call (.Name x p) (.Name y p2 :: es) [] pos) ρ Q := by
  obtain ⟨f, fd, F, hm, hk, hb⟩ := C.ex
  exact ex_callO i F (hr.mono hj) hm hk hb tk h h0 hN hv hd hcd hg hdb he hpl
/-- x = [..]: the model's other statement -/
def LX (X : Cx) (av : List V) (e : Expr) (ρ : Ev) (Q : Sl → Ev → Prop) : Prop := ∃ t : TE, (∀ (i : Nat) (y : Str) (py spos : Pos), X.N[i]? = some y → X.env.scope.names.lookup y = some .local → swapsWith e (some (.Name y py)) spos.line X.env = pure true → PS X (.Assign [.Name y py] e spos) (tAsg t (gName i))) ∧
  ∀ (Hs : Gh) (H : Hp) (σ : St) (R : VK), Rep X.K av Hs H ρ σ → KE X av ρ Hs H σ Q R → t σ H R
theorem lx_of {t : TE} (h : ∀ (i : Nat) (y : Str) (py spos : Pos), X.N[i]? = some y → X.env.scope.names.lookup y = some .local → swapsWith e (some (.Name y py)) spos.line X.env = pure true → PS X (.Assign [.Name y py] e spos) (tAsg t (gName i))) (h2 : ∀ (Hs : Gh) (H : Hp) (σ : St) (R : VK), Rep X.K av Hs H ρ σ → KE X av ρ Hs H σ Q R → t σ H R) : LX X av e ρ Q := ⟨t, h, h2⟩
theorem sx_setLX (i : Nat) {y : Str} {py spos : Pos} (h : LX X av e ρ fun s ρ1 => Φ.nx (ρ1.set i (nrm s))) (hN : X.N[i]? = some y := by rfl) (hl : X.env.scope.names.lookup y = some .local := by rfl) (hs : swapsWith e (some (.Name y py)) spos.line X.env = pure true := by rfl) : SX X av (.Assign [.Name y py] e spos) ρ Φ := by
  obtain ⟨t, hp, h⟩ := h
  exact sx_of (hp i y py spos hN hl hs) fun Hs H σ D r k => h Hs H σ _ r fun v s ρ1 Hs1 H1 st r1 hv q => by
    by_cases hl : i < ρ1.length
    · obtain ⟨Hs2, r2, o2⟩ := r1.set_any (i := i) hl r.org.dom hv
      exact k.nx _ _ Hs2 H1 (o2 st) r2 q
    · show D.nx (σ.set i (some v)) H1
      rw [set_out (by rw [← r1.len]; exact hl)]
      have q : Φ.nx (ρ1.set i (nrm s)) := q
      rw [set_out hl] at q
      exact k.nx _ _ Hs1 H1 st r1 q
theorem TX.mono {Q1 Q2 : Bool → Ev → Prop} (h : TX X av c ρ Q1) (m : ∀ k ρ', Q1 k ρ' → Q2 k ρ') : TX X av c ρ Q2 := fun Hs H σ R r k => h Hs H σ R r fun b ρ' Hs' H' st r' q => k b ρ' Hs' H' st r' (m b ρ' q)
end
theorem split_at {α : Type} {l : List α} {i : Nat} {x : α} (h : l[i]? = some x) : l = l.take i ++ x :: l.drop (i + 1) := by
  obtain ⟨h1, h2⟩ := List.getElem?_eq_some_iff.mp h
  subst h2
  rw [← List.drop_eq_getElem_cons h1, List.take_append_drop]
theorem map_at {α β : Type} {f : α → β} {l : List α} {i : Nat} {y : β} (h : (l.map f)[i]? = some y) : ∃ x, l[i]? = some x ∧ y = f x := by
  rw [List.getElem?_map] at h
  cases e : l[i]? with
  | none => rw [e] at h; cases h
  | some x => rw [e] at h; exact ⟨x, rfl, (Option.some.inj h).symm⟩
def rangeI (lo hi : Int) : List Int := (List.range (hi - lo).toNat).map fun (i : Nat) => lo + (i : Int)
theorem rangeI_len {lo hi : Int} : (rangeI lo hi).length = (hi - lo).toNat := by simp [rangeI]
theorem mem_rangeI {lo hi k : Int} : k ∈ rangeI lo hi ↔ lo ≤ k ∧ k < hi := by
  simp only [rangeI, List.mem_map, List.mem_range]
  constructor
  · rintro ⟨i, h1, rfl⟩
    omega
  · rintro ⟨h1, h2⟩
    exact ⟨(k - lo).toNat, by omega, by omega⟩
theorem rangeI_at {lo hi : Int} {i : Nat} {x : Int} (h : (rangeI lo hi)[i]? = some x) : x = lo + (i : Int) ∧ lo + (i : Int) < hi := by
  have hl := (List.getElem?_eq_some_iff.mp h).1
  rw [rangeI_len] at hl
  unfold rangeI at h
  rw [List.getElem?_map, List.getElem?_range hl] at h
  exact ⟨(Option.some.inj h).symm, by omega⟩
theorem fm_map {α β : Type} {l : List α} {g : α → Option β} {h : α → β} (e : ∀ x ∈ l, g x = some (h x)) : l.filterMap g = l.map h := by
  induction l with
  | nil => rfl
  | cons a r ih =>
    rw [List.filterMap_cons, e a List.mem_cons_self, List.map_cons, ih fun x hx => e x (List.mem_cons_of_mem _ hx)]
theorem atI_at {α : Type} {l : List α} {k : Int} {d : α} (h0 : 0 ≤ k) (h : l[k.toNat]? = some d) : L2.atI l k = some d := by
  have e : k = (k.toNat : Int) := by omega
  rw [e]
  exact atI_nat h
theorem pick_at {ns : List Int} {v : Int} (h0 : 0 ≤ v) (h1 : v < ((ns.map PyData.int).length : Int)) : ∃ k, k ∈ ns ∧ IxD (.list (ns.map .int)) v = some (.int k) := by
  rw [List.length_map] at h1
  have hv : v.toNat < ns.length := by omega
  refine ⟨ns[v.toNat], List.getElem_mem hv, ?_⟩
  show L2.atI _ _ = _
  refine atI_at h0 ?_
  rw [List.getElem?_map, List.getElem?_eq_getElem hv]
  rfl
theorem pick_last {ns : List Int} (h : ns ≠ []) : IxD (.list (ns.map .int)) (-1) = some (.int (ns.getLast h)) := by
  have hv : 0 < ns.length := List.length_pos_iff.mpr h
  have e := List.getLast_eq_getElem h
  show L2.atI _ _ = _
  rw [e]
  have e2 : L2.ixN (ns.map PyData.int).length (-1) = some (ns.length - 1) := by
    unfold L2.ixN
    rw [if_neg (by omega), if_pos (by rw [List.length_map]; omega), List.length_map]
    congr 1
    omega
  unfold L2.atI
  rw [e2]
  show (ns.map PyData.int)[ns.length - 1]? = _
  rw [List.getElem?_map, List.getElem?_eq_getElem (by omega)]
  rfl
theorem eqv_nil : ∀ {l : List D}, PyData.eqv (.list l) (.list []) = l.isEmpty
  | [] => rfl
  | _ :: _ => rfl
theorem script_at {ns : List Int} {i : Int} (h0 : 0 ≤ i) (h1 : i < (ns.length : Int)) : ∃ k, IxD (frl (ns.map .int)) i = some (.int k) := by
  have hv : i.toNat < ns.length := by omega
  refine ⟨ns[i.toNat], ?_⟩
  show L2.atI _ _ = _
  refine atI_at h0 ?_
  rw [List.getElem?_map, List.getElem?_eq_getElem hv]
  rfl
theorem mem_rng_pre {n : Int} {pre post : List Int} {x : Int} (hl : rangeI 0 n = pre ++ x :: post) : (pre.length : Int) < n ∧ x = (pre.length : Int) := by
  have h1 := congrArg List.length hl
  rw [rangeI_len] at h1
  simp at h1
  have h2 : (rangeI 0 n)[pre.length]? = some x := by rw [hl]; simp
  have := rangeI_at h2
  omega
theorem lay_all {α : Type} {enc : α → D} {m : Nat} (h : ∀ x, (enc x).canLay0 = true ∧ (enc x).depth ≤ m) : ∀ l : List α, PyData.canLayAll0 (l.map enc) = true ∧ PyData.depthAll (l.map enc) ≤ m
  | [] => by simp [PyData.canLayAll0, PyData.depthAll]
  | a :: r => by
    have h1 := h a
    have h2 := lay_all h r
    simp only [List.map_cons, PyData.canLayAll0, PyData.depthAll, Bool.and_eq_true]
    exact ⟨⟨h1.1, h2.1⟩, by omega⟩
theorem shaped_list {α : Type} {enc : α → D} {m : Nat} (h : ∀ x, (enc x).canLay0 = true ∧ (enc x).depth ≤ m) (hm : m ≤ 60) (l : List α) : SeqAt.shaped (.list (l.map enc)) = true := by
  have h2 := lay_all h l
  unfold SeqAt.shaped
  rw [Bool.and_eq_true]
  refine ⟨by simp only [PyData.canLay0]; exact h2.1, decide_eq_true ?_⟩
  simp only [PyData.depth]
  omega
theorem lay_allT {α : Type} {enc : α → D} {m : Nat} (h : ∀ x, (enc x).canLay0 = true ∧ (enc x).depth ≤ m) (hm : m ≤ 60) (l : List α) : SeqAt.shaped (.tuple (l.map enc)) = true := by
  have h2 := lay_all h l
  unfold SeqAt.shaped
  rw [Bool.and_eq_true]
  refine ⟨by simp only [PyData.canLay0]; exact h2.1, decide_eq_true ?_⟩
  simp only [PyData.depth]
  omega
theorem shL : SeqAt.shaped (.list []) = true := rfl
theorem shT : SeqAt.shaped (.tuple []) = true := rfl
theorem layI (x : Int) : (PyData.int x).canLay0 = true ∧ (PyData.int x).depth ≤ 3 := ⟨rfl, by simp [PyData.depth]⟩
theorem eqv_nilT : ∀ {l : List D}, PyData.eqv (.tuple l) (.tuple []) = l.isEmpty
  | [] => rfl
  | _ :: _ => rfl
theorem eqvAll_ints : ∀ ns : List Int, PyData.eqvAll (ns.map .int) (ns.map .int) = true
  | [] => rfl
  | n :: r => by
    have h := eqvAll_ints r
    simp only [List.map_cons, PyData.eqvAll, PyData.eqv, h, beq_self_eq_true, Bool.and_self]
theorem eqv_ints (ns : List Int) : PyData.eqv (.list (ns.map .int)) (.list (ns.map .int)) = true := by
  simp only [PyData.eqv]
  exact eqvAll_ints ns
variable [CF : Cfg] [OG : Org]
variable {X : Cx}
def rMinP (K : PySem.W.Frag) : List V → Hp → VK → Prop := fun vs H Q => ∃ (a : Addr) (i j : Int), vs = [V.ref a] ∧ SqT K H a [.int i, .int j] ∧ Q (.int (min i j)) H
section
variable {X : Cx}
theorem cr_minP (hc : X.calm = true) (hu : X.A.units + 64 < cLine) : CallR X (.builtin "min") (rMinP X.K) := by
  intro pins s σ H vs us Q I r h
  obtain ⟨a, i, j, rfl, hs, q⟩ := h
  obtain ⟨its, rv, hl, _⟩ := I.tuple hs
  rw [Vals.ref1 r]
  cases rv with
  | cons r1 rv =>
    cases rv with
    | cons r2 rv =>
      cases rv
      obtain ⟨t1, rfl⟩ := r1
      obtain ⟨t2, rfl⟩ := r2
      refine PySem.W.min_tuple_data (x := .int i) (xs := [.int j]) (as := []) (I.ok.hd hc) hl (.cons (as := []) (bs := []) (.int i t1) (.cons (as := []) (bs := []) (.int j t2) .nil)) ?_ (by simp only [PyData.depthAll, PyData.depth]; omega) fun k v h' tk bs hv hr hk => ?_
      · refine ⟨?_, ?_⟩
        · intro x hx y hy
          simp only [List.mem_cons, List.not_mem_nil, or_false] at hx hy
          rcases hx with rfl | rfl <;> rcases hy with rfl | rfl <;> rfl
        · intro x hx
          simp only [List.mem_cons, List.not_mem_nil, or_false] at hx
          rcases hx with rfl | rfl <;> simp
      · have e : PySem.W.minD (.int i) [.int j] = .int (min i j) := PySem.W.minD_ints i [j]
        rw [e] at hr
        cases hr
        exact ⟨.int _, H, I.kept hk, ⟨_, rfl⟩, q⟩
theorem bc_minP {i j : Int} (hu : X.A.units + 64 < cLine) (hc : X.calm = true := by rfl) : BC X (.builtin "min") [.tuple [.int i, .int j]] (.pd (.int (min i j))) := fun Hs H vs R hs ra k => by
  obtain ⟨v, rfl, rp⟩ := rp1 ra
  cases rp with
  | tup h1 h2 =>
    rw [show ([PyData.int i, .int j] : List D) = [i, j].map .int from rfl] at h2
    rw [h2.ints] at h1
    exact sC.of (cr_minP hc hu) ⟨_, i, j, rfl, .inl (.inl (hs _ _ h1)), k.val hs (.int _)⟩
end
omit CF OG in
theorem mx2 {i j : Int} : (if j > i then j else i) = max i j := by omega
omit CF OG in
theorem mn2 {i j : Int} : (if j < i then j else i) = min i j := by omega
omit CF OG in
theorem fm_if {α β : Type} {l : List α} {q : α → Bool} {f : α → β} {g : α → Option β} (h : ∀ x, g x = if q x = true then some (f x) else none) : l.filterMap g = (l.filter q).map f := by
  induction l with
  | nil => rfl
  | cons a r ih =>
    rw [List.filterMap_cons, h a, List.filter_cons]
    cases q a <;> simp [ih]
def RowD (rw : List D) : Prop := ∃ (ns : List Int) (i s r : Int), rw = [frl (ns.map .int), .int i, .int s, .int r] ∧ ns.length ≤ 63 ∧ 0 ≤ i ∧ 0 ≤ s ∧ s < 2147483647
omit CF OG in
theorem back_row {rw : List D} {ds : List D} {o : MO} {ρ' : Ev} (h : ρ'[0]? = some (.ow (some 0) o)) : Back (.ow (some 0) (.lst rw) :: ds.map .pd) ρ' (.ow (some 0) o :: ds.map .pd) := by
  refine ⟨by simp, fun i s q => ?_⟩
  cases i with
  | zero =>
    simp at q
    exact .inr (.inr ⟨o, _, q.symm, rfl, 0, h⟩)
  | succ i =>
    rcases (back_pd (ds := ds) (ρ' := ρ')).2 i s (by simpa using q) with z | ⟨d, z, z2⟩ | ⟨o1, o2, z, z2, _⟩
    · exact .inl z
    · exact .inr (.inl ⟨d, z, by simpa using z2⟩)
    · rw [List.getElem?_map] at z2
      cases hd : ds[i]? with
      | none => rw [hd] at z2; cases z2
      | some d => rw [hd] at z2; cases z2
omit CF OG in
theorem rp_ns {K : PySem.W.Frag} {H : Hp} : ∀ ns : List Int, RpAll K H (ns.map V.int) (ns.map .int)
  | [] => .nil
  | n :: r => .cons (.int n) (rp_ns r)
def lawD : Fi := fn1 (fun ns : List Int => [frl (ns.map .int)]) (fun ns => ns.length ≤ 63) fun _ => .bool true
/-- the heap without its tables -/
def noTab (H : Hp) : Hp := fun a => match H a with
  | some (.tbl _) => none
  | o => o
omit CF OG in
theorem noTab_at {H : Hp} {a : Addr} {o : HO} (h : noTab H a = some o) : H a = some o ∧ ∀ ps, o ≠ .tbl ps := by
  unfold noTab at h
  split at h
  · cases h
  · rename_i z
    exact ⟨h, fun ps e => z ps (by rw [h, e])⟩
omit CF OG in
theorem noTab_of {H : Hp} {a : Addr} {o : HO} (h : H a = some o) (n : ∀ ps, o ≠ .tbl ps) : noTab H a = some o := by
  unfold noTab
  rw [h]
  cases o <;> first | rfl | exact absurd rfl (n _)
omit CF OG in
theorem noTab_seq {K : PySem.W.Frag} {H : Hp} {a : Addr} {xs : List V} (h : SqL K H a xs) : SqL K (noTab H) a xs := by
  rcases h with z | z
  · refine .inl ?_
    rcases z with z | ⟨o, z⟩
    · exact .inl (noTab_of z fun _ e => by cases e)
    · exact .inr ⟨o, noTab_of z fun _ e => by cases e⟩
  · exact .inr z
omit OG in
theorem law_sp {K : PySem.W.Frag} {H : Hp} {a : Addr} {ns : List Int} (hT : LamX.Tabs CF.T H) (hl : ns.length ≤ 63) (hS : SqL K H a (ns.map V.int)) : SpD K lawD [.ref a] H (fun v _ => v = .bl true) fun _ _ _ => False :=
  ⟨G0 (noTab H), [.pd (frl (ns.map .int))], fun s _ => s = .pd (.bool true), fun _ => False, rep_pd (ds := [frl (ns.map .int)]) (fun b o e => (noTab_at e).1) (fun b ps e => (noTab_at e).2 ps rfl) hT (.cons (.frl (noTab_seq hS) (rp_ns ns)) .nil), ⟨ns, rfl, hl, rfl⟩, fun v s as' Hs' H' st r hv hs => by
    subst hs
    cases hv
    rfl, fun _ _ _ _ _ z => z⟩
end DW

set_option Elab.async false
set_option autoImplicit false
set_option linter.all false
/-! M0: problems, bodies, levels as plain mathematics -/
namespace My
open DW PySem
abbrev Tri := Int × Int × Int
abbrev Bx := Int × Int
abbrev Prob := List Tri × List Bx × Int
def encT (s : Tri) : D := .tuple [.int s.1, .int s.2.1, .int s.2.2]
def encB (b : Bx) : D := .tuple [.int b.1, .int b.2]
def encP (p : Prob) : D := .tuple [.tuple (p.1.map encT), .tuple (p.2.1.map encB), .int p.2.2]
def encTs (l : List Tri) : D := .list (l.map encT)
def bodyS (g : Int) (s : Tri) : Tri := if s.2.1 < s.1 then (s.1 - g, s.2.1 - g, s.2.2) else (s.2.1, s.1, -s.2.2)
def bodyB (g : Int) (b : Bx) : Tri := (if 0 < b.2 then b.1 - g else b.1, if 0 < b.2 then b.1 - g else b.1, b.2)
def bodies (p : Prob) : List Tri := p.1.map (bodyS p.2.2) ++ p.2.1.map (bodyB p.2.2)
def OkS (s : Tri) : Prop := 0 ≤ s.1 ∧ s.1 ≤ 1000 ∧ 0 ≤ s.2.1 ∧ s.2.1 ≤ 1000 ∧ 1 ≤ s.2.2 ∧ s.2.2 ≤ 100 ∧ s.1 ≠ s.2.1
def OkB (b : Bx) : Prop := 0 ≤ b.1 ∧ b.1 ≤ 1000 ∧ -10000 ≤ b.2 ∧ b.2 ≤ 10000 ∧ b.2 ≠ 0
structure OkP (p : Prob) : Prop where
  ss : ∀ s ∈ p.1, OkS s
  bs : ∀ b ∈ p.2.1, OkB b
  ls : p.1.length ≤ 6
  lb : p.2.1.length ≤ 4
  g0 : 0 ≤ p.2.2
  g1 : p.2.2 ≤ 100
  ne : p.1 ≠ [] ∨ p.2.1 ≠ []
/-! ### strictly ascending lists -/
def ins (x : Int) : List Int → List Int
  | [] => [x]
  | y :: r => if x < y then x :: y :: r else if x = y then y :: r else y :: ins x r
def ssort : List Int → List Int
  | [] => []
  | x :: r => ins x (ssort r)
theorem mem_ins {x k : Int} : ∀ {l : List Int}, k ∈ ins x l ↔ k = x ∨ k ∈ l
  | [] => by simp [ins]
  | y :: r => by
    unfold ins
    split
    · simp
    · split
      · subst_vars
        simp
      · simp only [List.mem_cons, mem_ins (l := r)]
        constructor
        · rintro (h | h | h) <;> simp [h]
        · rintro (h | h | h) <;> simp [h]
theorem mem_ssort {k : Int} : ∀ {l : List Int}, k ∈ ssort l ↔ k ∈ l
  | [] => by simp [ssort]
  | x :: r => by
    unfold ssort
    rw [mem_ins, mem_ssort (l := r), List.mem_cons]
theorem ins_asc {x : Int} : ∀ {l : List Int}, l.Pairwise (· < ·) → (ins x l).Pairwise (· < ·)
  | [], _ => by simp [ins]
  | y :: r, h => by
    have h1 := (List.pairwise_cons.mp h).1
    have h2 := (List.pairwise_cons.mp h).2
    unfold ins
    split
    · rename_i hxy
      refine List.pairwise_cons.mpr ⟨fun z hz => ?_, h⟩
      rcases List.mem_cons.mp hz with e | e
      · rw [e]; exact hxy
      · have := h1 z e; omega
    · split
      · exact h
      · refine List.pairwise_cons.mpr ⟨fun z hz => ?_, ins_asc h2⟩
        rcases mem_ins.mp hz with e | e
        · omega
        · exact h1 z e
theorem ssort_asc : ∀ (l : List Int), (ssort l).Pairwise (· < ·)
  | [] => .nil
  | x :: r => ins_asc (ssort_asc r)
theorem asc_eq : ∀ {l m : List Int}, l.Pairwise (· < ·) → m.Pairwise (· < ·) → (∀ k, k ∈ l ↔ k ∈ m) → l = m
  | [], [], _, _, _ => rfl
  | [], y :: m, _, _, h => absurd ((h y).mpr List.mem_cons_self) (by simp)
  | x :: l, [], _, _, h => absurd ((h x).mp List.mem_cons_self) (by simp)
  | x :: l, y :: m, h1, h2, h => by
    have a1 := (List.pairwise_cons.mp h1).1
    have a2 := (List.pairwise_cons.mp h2).1
    have e : x = y := by
      rcases List.mem_cons.mp ((h x).mp List.mem_cons_self) with e | e
      · exact e
      · rcases List.mem_cons.mp ((h y).mpr List.mem_cons_self) with e2 | e2
        · exact e2.symm
        · have := a2 x e
          have := a1 y e2
          omega
    subst e
    congr 1
    refine asc_eq (List.pairwise_cons.mp h1).2 (List.pairwise_cons.mp h2).2 fun k => ⟨fun hk => ?_, fun hk => ?_⟩
    · rcases List.mem_cons.mp ((h k).mp (List.mem_cons_of_mem _ hk)) with e | e
      · have := a1 k hk
        omega
      · exact e
    · rcases List.mem_cons.mp ((h k).mpr (List.mem_cons_of_mem _ hk)) with e | e
      · have := a2 k hk
        omega
      · exact e
theorem ssort_of {l ms : List Int} (h : ms.Pairwise (· < ·)) (hm : ∀ k, k ∈ ms ↔ k ∈ l) : ms = ssort l := asc_eq h (ssort_asc l) fun k => (hm k).trans mem_ssort.symm
def ends2 (bs : List Tri) : List Int := bs.flatMap fun b => [b.1, b.2.1]
def levelsOf (bs : List Tri) : List Int := (ssort (ends2 bs)).reverse
/-- the heat of a body at levels above a level -/
def above (b : Tri) (lv : Int) (o : Bool) : Int :=
  if b.1 = b.2.1 then (if lv < b.1 ∨ (b.1 = lv ∧ o = false) then b.2.2 else 0) else b.2.2 * max 0 (b.1 - max b.2.1 lv)
end My
namespace My
open DW PySem
theorem ends2_len : ∀ (l : List Tri), (ends2 l).length = 2 * l.length
  | [] => rfl
  | a :: r => by
    have := ends2_len r
    simp only [ends2, List.flatMap_cons, List.length_append, List.length_cons, List.length_nil] at *
    omega
theorem ends2_le {l pre post : List Tri} {x : Tri} (hl : l = pre ++ x :: post) (h : l.length ≤ 31) : (ends2 pre).length ≤ 60 := by
  have := ends2_len pre
  rw [hl] at h
  simp at h
  omega
end My
namespace My
open DW PySem
theorem OkP.len {p : Prob} (h : OkP p) : (bodies p).length ≤ 31 := by
  have := h.ls
  have := h.lb
  simp only [bodies, List.length_append, List.length_map]
  omega
theorem bodies_rate {p : Prob} (h : OkP p) {b : Tri} (hb : b ∈ bodies p) : -10000 ≤ b.2.2 ∧ b.2.2 ≤ 10000 := by
  simp only [bodies, List.mem_append, List.mem_map] at hb
  rcases hb with ⟨s, hs, rfl⟩ | ⟨s, hs, rfl⟩
  · have := h.ss s hs
    unfold OkS at this
    unfold bodyS
    split <;> simp only <;> omega
  · have := h.bs s hs
    unfold OkB at this
    unfold bodyB
    simp only
    omega
def hsOf (p : Prob) (lv : Int) : List Int := (bodies p).map fun b => above b lv true
def givens (hs : List Int) : Int := (hs.filter fun h => decide (0 < h)).sum
def takens (hs : List Int) : Int := (hs.filter fun h => decide (h < 0)).sum
end My
namespace My
theorem len_pre {α : Type} {l pre post : List α} {x : α} {n : Nat} (hl : l = pre ++ x :: post) (h : l.length ≤ n) : pre.length < n := by
  rw [hl] at h
  simp at h
  omega
end My
namespace My
open DW PySem
theorem layT (x : Tri) : (encT x).canLay0 = true ∧ (encT x).depth ≤ 3 := by
  constructor
  · rfl
  · simp [encT, PyData.depth, PyData.depthAll]
theorem layB (x : Bx) : (encB x).canLay0 = true ∧ (encB x).depth ≤ 3 := ⟨rfl, by simp [encB, PyData.depth, PyData.depthAll]⟩
end My
namespace My
open DW PySem
theorem ok_add {α : Type} {P : α → Prop} {l : List α} {x : α} (h : ∀ s ∈ l, P s) (hx : P x) : ∀ s ∈ l ++ [x], P s := by
  intro s hs
  rcases List.mem_append.mp hs with h1 | h1
  · exact h s h1
  · rw [List.mem_singleton.mp h1]
    exact hx
theorem okS_draw {sc a b r : Int} (h : sc = 1 ∨ sc = 10 ∨ sc = 10 ∨ sc = 50) (a0 : 0 ≤ a) (a1 : a < 20) (b0 : 0 ≤ b) (b1 : b < 20) (r0 : 0 ≤ r) (r1 : r < 100) : OkS (sc * a, if (!decide (sc * b = sc * a)) = true then sc * b else sc * a + sc, 1 + r) := by
  unfold OkS
  simp only [Bool.not_eq_true', decide_eq_false_iff_not]
  rcases h with rfl | rfl | rfl | rfl <;> split <;> omega
theorem okB_draw {sc a h t : Int} {c : Bool} (hs : sc = 1 ∨ sc = 10 ∨ sc = 10 ∨ sc = 50) (a0 : 0 ≤ a) (a1 : a < 20) (hh : h = 1 ∨ h = 20 ∨ h = 100 ∨ h = 10000 ∨ h = 1 + t) (t0 : 0 ≤ t) (t1 : t < 500) : OkB (sc * a, if c = true then h else 0 - h) := by
  unfold OkB
  simp only
  rcases hs with rfl | rfl | rfl | rfl <;> split <;> omega
theorem okS1 {sc : Int} (h : sc = 1 ∨ sc = 10 ∨ sc = 10 ∨ sc = 50) : ∀ s ∈ [((0 : Int), sc, (1 : Int))], OkS s := by
  intro s hs
  rw [List.mem_singleton.mp hs]
  unfold OkS
  simp only
  omega
end My
namespace My
open DW PySem
theorem int_at {ns : List Int} {x : Int} (h : x ∈ rangeI 0 ((ns.map PyData.int).length : Int)) : IxD (.tuple (ns.map .int)) x = some (.int (ns.getD x.toNat 0)) := by
  have hm := mem_rangeI.mp h
  rw [List.length_map] at hm
  have hv : x.toNat < ns.length := by omega
  show L2.atI _ _ = _
  refine atI_at hm.1 ?_
  rw [List.getElem?_map, List.getElem?_eq_getElem hv, List.getD_eq_getElem?_getD, List.getElem?_eq_getElem hv]
  rfl
theorem tup_at {α : Type} {enc : α → D} {l : List α} {k : Int} (d : α) (h0 : 0 ≤ k) (h1 : k < (l.length : Int)) : ∃ x, l.getD k.toNat d = x ∧ IxD (.tuple (l.map enc)) k = some (enc x) := by
  have hv : k.toNat < l.length := by omega
  refine ⟨l[k.toNat], ?_, ?_⟩
  · rw [List.getD_eq_getElem?_getD, List.getElem?_eq_getElem hv]
    rfl
  · show L2.atI _ _ = _
    refine atI_at h0 ?_
    rw [List.getElem?_map, List.getElem?_eq_getElem hv]
    rfl
def sOf (p : Prob) (k : Int) : Tri := p.1.getD k.toNat (0, 0, 0)
def bOf (p : Prob) (k : Int) : Bx := p.2.1.getD (k - (p.1.length : Int)).toNat (0, 0)
def dnS (g : Int) (s : Tri) : Int := if decide (s.2.1 < s.1) = true then g else 0
def upOf (p : Prob) (k : Int) : Int := if k < (p.1.length : Int) then max (sOf p k).1 (sOf p k).2.1 - dnS p.2.2 (sOf p k) else if 0 < (bOf p k).2 then (bOf p k).1 - p.2.2 else (bOf p k).1
def loOf (p : Prob) (k : Int) : Int := if k < (p.1.length : Int) then min (sOf p k).1 (sOf p k).2.1 - dnS p.2.2 (sOf p k) else if 0 < (bOf p k).2 then (bOf p k).1 - p.2.2 else (bOf p k).1
def gvOf (p : Prob) (k : Int) : Bool := if k < (p.1.length : Int) then decide ((sOf p k).2.1 < (sOf p k).1) else decide (0 < (bOf p k).2)
def raOf (p : Prob) (k : Int) : Int := if k < (p.1.length : Int) then (sOf p k).2.2 else 0
def heOf (p : Prob) (k : Int) : Int := if k < (p.1.length : Int) then 0 else if 0 < (bOf p k).2 then (bOf p k).2 else 0 - (bOf p k).2
def spanD (p : Prob) (k : Int) : D := .tuple [.bool (gvOf p k), .int (upOf p k), .int (loOf p k), .int (raOf p k), .int (heOf p k)]
theorem span_s {ss : List Tri} {bs : List Bx} {g k a b c : Int} (h : k < (ss.length : Int)) (hs : ss.getD k.toNat (0, 0, 0) = (a, b, c)) : spanD (ss, bs, g) k = .tuple [.bool (decide (b < a)), .int (max a b - if decide (b < a) = true then g else 0), .int (min a b - if decide (b < a) = true then g else 0), .int c, .int 0] := by
  simp only [spanD, gvOf, upOf, loOf, raOf, heOf, sOf, dnS, if_pos h, hs]
theorem span_b {ss : List Tri} {bs : List Bx} {g k a h : Int} (hk : ¬ k < (ss.length : Int)) (hs : bs.getD (k - (ss.length : Int)).toNat (0, 0) = (a, h)) : spanD (ss, bs, g) k = if decide (0 < h) = true then .tuple [.bool (decide (0 < h)), .int (a - g), .int (a - g), .int 0, .int h] else .tuple [.bool false, .int a, .int a, .int 0, .int (0 - h)] := by
  simp only [spanD, gvOf, upOf, loOf, raOf, heOf, bOf, if_neg hk, hs]
  by_cases z : 0 < h <;> simp [z]
def lawEnds (p : Prob) (l : List Int) : List Int := l.flatMap fun k => [upOf p k, loOf p k]
theorem lawEnds_len (p : Prob) : ∀ (l : List Int), (lawEnds p l).length = 2 * l.length
  | [] => rfl
  | a :: r => by
    have := lawEnds_len p r
    simp only [lawEnds, List.flatMap_cons, List.length_append, List.length_cons, List.length_nil] at *
    omega
theorem flat_congr {α β : Type} {l : List α} {f g : α → List β} (h : ∀ x ∈ l, f x = g x) : l.flatMap f = l.flatMap g := by
  induction l with
  | nil => rfl
  | cons a r ih => rw [List.flatMap_cons, List.flatMap_cons, h a List.mem_cons_self, ih fun x hx => h x (List.mem_cons_of_mem _ hx)]
theorem ends_by (L : List Tri) (F : Int → List Int) (h : ∀ (i : Nat) (b : Tri), L[i]? = some b → F (i : Int) = [b.1, b.2.1]) : (rangeI 0 (L.length : Int)).flatMap F = ends2 L := by
  have e1 : rangeI 0 (L.length : Int) = (List.range L.length).map fun (i : Nat) => (i : Int) := by
    unfold rangeI
    rw [show ((L.length : Int) - 0).toNat = L.length by omega]
    exact List.map_congr_left fun i _ => by omega
  have e2 : L = (List.range L.length).map fun i => L.getD i (0, 0, 0) := by
    refine List.ext_getElem? fun i => ?_
    rw [List.getElem?_map]
    by_cases z : i < L.length
    · rw [List.getElem?_range z, List.getElem?_eq_getElem z]
      simp [List.getD_eq_getElem?_getD, z]
    · rw [List.getElem?_eq_none (by omega), List.getElem?_eq_none (by simp; omega)]
      rfl
  have e3 : ends2 L = (List.range L.length).flatMap fun i => [(L.getD i (0, 0, 0)).1, (L.getD i (0, 0, 0)).2.1] := by
    conv => lhs; rw [e2]
    unfold ends2
    rw [List.flatMap_map]
  rw [e1, e3, List.flatMap_map]
  refine flat_congr fun i hi => ?_
  have z := List.mem_range.mp hi
  exact h i (L.getD i (0, 0, 0)) (by rw [List.getElem?_eq_getElem z]; simp [List.getD_eq_getElem?_getD, z])
theorem lawEnds_eq (p : Prob) : lawEnds p (rangeI 0 (((p.1.map encT).length : Int) + ((p.2.1.map encB).length : Int))) = ends2 (bodies p) := by
  have hl : (((p.1.map encT).length : Int) + ((p.2.1.map encB).length : Int)) = ((bodies p).length : Int) := by simp [bodies]
  rw [hl]
  refine ends_by _ _ fun i b hb => ?_
  obtain ⟨ss, bs, g⟩ := p
  unfold bodies at hb
  simp only at hb
  by_cases z : i < ss.length
  · rw [List.getElem?_append_left (by simpa using z), List.getElem?_map, List.getElem?_eq_getElem z] at hb
    cases hb
    have hz : ((i : Nat) : Int) < (ss.length : Int) := by omega
    have hs : sOf (ss, bs, g) i = ss[i] := by simp [sOf, List.getD_eq_getElem?_getD, z]
    simp only [upOf, loOf, if_pos hz, hs, dnS, bodyS]
    split <;> rename_i hc <;> simp only [decide_eq_true_eq] at hc <;> simp only [hc, if_true, if_false] <;> congr 1 <;> (try congr 1) <;> (try omega)
  · rw [List.getElem?_append_right (by simpa using z), List.getElem?_map, List.length_map] at hb
    cases hq : bs[i - ss.length]? with
    | none => rw [hq] at hb; cases hb
    | some q =>
      rw [hq] at hb
      cases hb
      have hz : ¬ ((i : Nat) : Int) < (ss.length : Int) := by omega
      have hs : bOf (ss, bs, g) i = q := by
        unfold bOf
        simp only
        rw [show ((i : Int) - (ss.length : Int)).toNat = i - ss.length by omega, List.getD_eq_getElem?_getD, hq]
        rfl
      simp only [upOf, loOf, if_neg hz, hs, bodyB]
end My

set_option Elab.async false
set_option autoImplicit false
set_option linter.all false
set_option maxRecDepth 100000
/-! IR: a program's text without places, and what holds of it by data alone -/
namespace DW
open PySem PySem.Spec L2
open PyProof.Rows hiding St

inductive Ty | int | bool | str | tuple | list | dict | non
  deriving DecidableEq
structure Tb where
  /-- a def of data: what must hold of the arguments and of what is wanted -/
  fp : Str → List D → (D → Prop) → (Exn → Prop) → Prop
  /-- a def whose first argument is a list that it may change -/
  fo : Str → List D → List D → (D → List D → Prop) → (Exn → Prop) → Prop
  gl : Str → Option D
  xk : Exn → Prop
  /-- what the def that catches makes of an answer, and of an error -/
  tv : D → D := id
  tx : Exn → Option D := fun _ => none
  /-- the errors that an except clause is known to catch -/
  ec : List Str := []

inductive Tg
  | nm (i : Nat)
  | tp (ts : List Tg)

inductive Mth | gcd | lcm
inductive Bn | len | max | min | abs | sum | any | all | sorted | list | tuple | int | str

mutual
inductive IE
  | nm (i : Nat)
  | gl (x : Str)
  | cn (d : D)
  | ng (a : IE)
  | nt (a : IE)
  | bn (o : Operator) (a b : IE)
  | cp (o : CmpOp) (a b : IE)
  | ch (o o' : CmpOp) (a b c : IE)
  | an (a b : IE)
  | ro (a b : IE)
  | ie (c : IT) (a b : IE)
  | tu (es : IA)
  | li (es : IA)
  | ix (a b : IE)
  | ixo (i : Nat) (b : IE)
  | s2 (a l h : IE)
  | sL (a l : IE)
  | sH (a h : IE)
  | rv (a : IE)
  | bi (x : Bn) (es : IA)
  | ln (i : Nat)
  | isi (a : IE) (t : Ty)
  | isj (a : IE) (t u : Ty)
  | call (f : Str) (es : IA)
  | calo (f : Str) (i : Nat) (es : IA)
  | calq (f : Str) (es : IA)
  | caloq (f : Str) (i : Nat) (es : IA)
  | told (f : Str) (es : IA)
  | lc (elt : IE) (tg : Tg) (it : II) (ifs : IF) (vs : List Nat)
  | ss (a : IE)
  | mxd (a b : IE)
  | c4 (o o' o2 : CmpOp) (a b c d : IE)
  | ma (m : Mth) (a b : IE)
  | d0
  | fs (es : IA)
  | lc2 (elt : IE) (tg : Tg) (it : II) (ifs : IF) (tg1 : Tg) (it1 : II) (ifs1 : IF) (vs vs1 : List Nat)
inductive IA
  | nil
  | cons (e : IE) (es : IA)
inductive IT
  | cp (o : CmpOp) (a b : IE)
  | ch (o o' : CmpOp) (a b c : IE)
  | nt (a : IT)
  | an (a b : IT)
  | ro (a b : IT)
  | v (e : IE)
  | vl (i : Nat)
  | c4 (o o' o2 : CmpOp) (a b c d : IE)
inductive IF
  | nil
  | one (t : IT)
inductive II
  | e (a : IE)
  | r1 (a : IE)
  | r2 (a b : IE)
  | en (a : IE)
  | zp (a b : IE)
  | z3 (a b c : IE)
end

/-! ### primitives -/
def intsOf : List D → Option (List Int)
  | [] => some []
  | .int i :: r => (intsOf r).map (i :: ·)
  | _ => none
def boolsOf : List D → Option (List Bool)
  | [] => some []
  | .bool i :: r => (boolsOf r).map (i :: ·)
  | _ => none
@[simp] theorem intsOf_map (ns : List Int) : intsOf (ns.map .int) = some ns := by
  induction ns with
  | nil => rfl
  | cons n r ih => simp [intsOf, ih]
@[simp] theorem intsOf_mapf {α : Type} (l : List α) (f : α → Int) : intsOf (l.map fun x => .int (f x)) = some (l.map f) := by
  induction l with
  | nil => rfl
  | cons n r ih => simp [intsOf, ih]
@[simp] theorem boolsOf_map (ns : List Bool) : boolsOf (ns.map .bool) = some ns := by
  induction ns with
  | nil => rfl
  | cons n r ih => simp [boolsOf, ih]
@[simp] theorem boolsOf_mapf {α : Type} (l : List α) (f : α → Bool) : boolsOf (l.map fun x => .bool (f x)) = some (l.map f) := by
  induction l with
  | nil => rfl
  | cons n r ih => simp [boolsOf, ih]
theorem intsOf_some : ∀ {ds : List D} {ns : List Int}, intsOf ds = some ns → ds = ns.map .int
  | [], ns, h => by cases h; rfl
  | .int i :: r, ns, h => by
    simp only [intsOf] at h
    cases e : intsOf r with
    | none => rw [e] at h; cases h
    | some m => rw [e] at h; cases h; rw [intsOf_some e]; rfl
theorem boolsOf_some : ∀ {ds : List D} {ns : List Bool}, boolsOf ds = some ns → ds = ns.map .bool
  | [], ns, h => by cases h; rfl
  | .bool i :: r, ns, h => by
    simp only [boolsOf] at h
    cases e : boolsOf r with
    | none => rw [e] at h; cases h
    | some m => rw [e] at h; cases h; rw [boolsOf_some e]; rfl
def imax : List Int → Int
  | [] => 0
  | [a] => a
  | a :: b :: r => max a (imax (b :: r))
def imin : List Int → Int
  | [] => 0
  | [a] => a
  | a :: b :: r => min a (imin (b :: r))
def imaxd (ns : List Int) (d : Int) : Int := match ns with
  | [] => d
  | _ => imax ns
theorem imax_mem : ∀ {l : List Int}, l ≠ [] → imax l ∈ l
  | [], h => absurd rfl h
  | [a], _ => by simp [imax]
  | a :: b :: r, _ => by
    have := imax_mem (l := b :: r) (by simp)
    simp only [imax]
    rcases Int.le_total a (imax (b :: r)) with h | h
    · rw [Int.max_eq_right h]; exact List.mem_cons_of_mem _ this
    · rw [Int.max_eq_left h]; simp
theorem imax_le : ∀ {l : List Int} {y : Int}, y ∈ l → y ≤ imax l
  | [], y, h => by cases h
  | [a], y, h => by simp at h; simp [imax, h]
  | a :: b :: r, y, h => by
    simp only [imax]
    rcases List.mem_cons.mp h with e | h
    · omega
    · have := imax_le h
      omega
theorem imin_mem : ∀ {l : List Int}, l ≠ [] → imin l ∈ l
  | [], h => absurd rfl h
  | [a], _ => by simp [imin]
  | a :: b :: r, _ => by
    have := imin_mem (l := b :: r) (by simp)
    simp only [imin]
    rcases Int.le_total a (imin (b :: r)) with h | h
    · rw [Int.min_eq_left h]; simp
    · rw [Int.min_eq_right h]; exact List.mem_cons_of_mem _ this
theorem imin_le : ∀ {l : List Int} {y : Int}, y ∈ l → imin l ≤ y
  | [], y, h => by cases h
  | [a], y, h => by simp at h; simp [imin, h]
  | a :: b :: r, y, h => by
    simp only [imin]
    rcases List.mem_cons.mp h with e | h
    · omega
    · have := imin_le h
      omega
def isort (l : List Int) : List Int := l.mergeSort (fun a b => decide (a ≤ b))

def binW (o : Operator) (x y : D) (K : Sl → Prop) : Prop :=
  match o, x, y with
  | .Add, .int i, .int j => K (.pd (.int (i + j)))
  | .Add, .list xs, .list ys => xs.length + ys.length ≤ 100000 ∧ K (.ow none (.lst (xs ++ ys)))
  | .Add, .tuple xs, .tuple ys => xs.length + ys.length ≤ 100000 ∧ K (.pd (.tuple (xs ++ ys)))
  | .Sub, .int i, .int j => K (.pd (.int (i - j)))
  | .Mult, .int i, .int j => CMul i j ∧ K (.pd (.int (i * j)))
  | .Mult, .tuple xs, .int n => xs ≠ [] ∧ -(2 ^ 63) ≤ n ∧ n ≤ 1000 ∧ xs.length ≤ 1000 ∧ K (.pd (.tuple (List.replicate n.toNat xs).flatten))
  | .Mult, .list xs, .int n => -(2 ^ 63) ≤ n ∧ n < 2 ^ 63 ∧ xs.length * n.toNat ≤ 100000 ∧ K (.ow none (.lst (List.replicate n.toNat xs).flatten))
  | .LShift, .int i, .int j => CPow i j ∧ K (.pd (.int (i * 2 ^ j.toNat)))
  | .RShift, .int i, .int j => 0 ≤ j ∧ K (.pd (.int (i / 2 ^ j.toNat)))
  | .BitAnd, .int i, .int j => K (.pd (.int (Builtin.bitAnd i j)))
  | .BitOr, .int i, .int j => K (.pd (.int (Builtin.bitOr i j)))
  | .Mod, .int i, .int j => 0 < j ∧ K (.pd (.int (i % j)))
  | .FloorDiv, .int i, .int j => CDiv i j ∧ K (.pd (.int (i / j)))
  | .Pow, .int i, .int j => CPow i j ∧ K (.pd (.int (i ^ j.toNat)))
  | _, _, _ => False
def augW (o : Operator) (x y : D) (K : D → Prop) : Prop :=
  match o, x, y with
  | .Add, .int i, .int j => K (.int (i + j))
  | .Sub, .int i, .int j => K (.int (i - j))
  | _, _, _ => False
def kd : D → Option Ty
  | .none => some .non
  | .bool _ => some .bool
  | .int _ => some .int
  | .str _ => some .str
  | .list _ => some .list
  | .tuple _ => some .tuple
  | .dict [] => some .dict
  | _ => none
def sub : Ty → Ty → Bool
  | .int, .int => true
  | .bool, .bool => true
  | .bool, .int => true
  | .str, .str => true
  | .tuple, .tuple => true
  | .list, .list => true
  | .dict, .dict => true
  | _, _ => false
def isiW (x : D) (t : Ty) (K : Bool → Prop) : Prop := match kd x with
  | some k => K (sub k t)
  | none => False
def isjW (x : D) (t u : Ty) (K : Bool → Prop) : Prop := match kd x with
  | some k => K (sub k t || sub k u)
  | none => False
def isNoneD : D → Bool
  | .none => true
  | _ => false
def cmpW (o : CmpOp) (x y : D) (K : Bool → Prop) : Prop :=
  match o, x, y with
  | .Lt, .int i, .int j => K (decide (i < j))
  | .LtE, .int i, .int j => K (decide (i ≤ j))
  | .Gt, .int i, .int j => K (decide (j < i))
  | .GtE, .int i, .int j => K (decide (j ≤ i))
  | .Eq, .int i, .int j => K (decide (i = j))
  | .NotEq, .int i, .int j => K (!decide (i = j))
  | .Eq, .bool i, .bool j => K (decide (i = j))
  | .NotEq, .bool i, .bool j => K (!decide (i = j))
  | .Eq, d, f => SeqAt.shaped d = true ∧ SeqAt.shaped f = true ∧ K (PyData.eqv d f)
  | .NotEq, d, f => SeqAt.shaped d = true ∧ SeqAt.shaped f = true ∧ K (!PyData.eqv d f)
  | .Is, d, .none => K (isNoneD d)
  | .IsNot, d, .none => K (!isNoneD d)
  | .Is, .bool i, .bool j => K (decide (i = j))
  | .IsNot, .bool i, .bool j => K (!decide (i = j))
  | .In, d, .list ds => SeqAt.shaped d = true ∧ SeqAt.shaped (.list ds) = true ∧ K (ds.any fun z => PyData.eqv z d)
  | .In, d, .tuple ds => SeqAt.shaped d = true ∧ SeqAt.shaped (.tuple ds) = true ∧ K (ds.any fun z => PyData.eqv z d)
  | .NotIn, d, .list ds => SeqAt.shaped d = true ∧ SeqAt.shaped (.list ds) = true ∧ K (!ds.any fun z => PyData.eqv z d)
  | .NotIn, d, .tuple ds => SeqAt.shaped d = true ∧ SeqAt.shaped (.tuple ds) = true ∧ K (!ds.any fun z => PyData.eqv z d)
  | _, _, _ => False
def mthW (m : Mth) (i j : Int) (K : Int → Prop) : Prop := match m with
  | .gcd => K ((Nat.gcd i.natAbs j.natAbs : Nat) : Int)
  | .lcm => i.natAbs < 2 ^ 20 ∧ j.natAbs < 2 ^ 20 ∧ K ((Nat.lcm i.natAbs j.natAbs : Nat) : Int)
def truW (d : D) (K : Bool → Prop) : Prop :=
  match d with
  | .none => K false
  | .bool b => K b
  | .int i => K (i != 0)
  | .list ds => K (!ds.isEmpty)
  | .tuple ds => K (!ds.isEmpty)
  | _ => False
class KW (α : Type) where
  k : α → Prop
/-- what is wanted stands where simp does not look -/
def opI {α : Type} (o : Option α) [K : KW α] : Prop := match o with
  | some x => K.k x
  | none => False
def opW {α : Type} (o : Option α) (K : α → Prop) : Prop := @opI α o ⟨K⟩
theorem opI_some {α : Type} {x : α} {K : α → Prop} : @opI α (some x) ⟨K⟩ = K x := rfl
theorem opW_of {α : Type} {o : Option α} {K : α → Prop} (h : opW o K) : ∃ x, o = some x ∧ K x := by
  cases o with
  | none => exact h.elim
  | some x => exact ⟨x, rfl, h⟩
theorem opI_of {α : Type} {o : Option α} {x : α} {K : α → Prop} (e : o = some x) (h : K x) : @opI α o ⟨K⟩ := by
  subst e
  exact h
def owW (ρ : Ev) (i : Nat) (K : Option Nat → List D → Prop) : Prop := match ρ[i]? with
  | some (.ow t (.lst ds)) => K t ds
  | _ => False
theorem owW_of {ρ : Ev} {i : Nat} {K : Option Nat → List D → Prop} (h : owW ρ i K) : ∃ t ds, ρ[i]? = some (.ow t (.lst ds)) ∧ K t ds := by
  unfold owW at h
  split at h
  · exact ⟨_, _, by assumption, h⟩
  · exact h.elim
def bLen (ds : List D) (K : Sl → Prop) : Prop := match ds with
  | [.list l] => K (.pd (.int (l.length : Int)))
  | [.tuple l] => K (.pd (.int (l.length : Int)))
  | [.dict [(.list l, .none)]] => K (.pd (.int (l.length : Int)))
  | _ => False
def bMax (ds : List D) (K : Sl → Prop) : Prop := match ds with
  | [.int i, .int j] => K (.pd (.int (max i j)))
  | [.list l] => opW (intsOf l) fun ns => ns ≠ [] ∧ K (.pd (.int (imax ns)))
  | [.tuple l] => opW (intsOf l) fun ns => ns ≠ [] ∧ K (.pd (.int (imax ns)))
  | _ => False
def bMin (ds : List D) (K : Sl → Prop) : Prop := match ds with
  | [.int i, .int j] => K (.pd (.int (min i j)))
  | [.list l] => opW (intsOf l) fun ns => ns ≠ [] ∧ K (.pd (.int (imin ns)))
  | [.tuple [.int i, .int j]] => K (.pd (.int (min i j)))
  | _ => False
def bAbs (ds : List D) (K : Sl → Prop) : Prop := match ds with
  | [.int i] => K (.pd (.int (if i < 0 then -i else i)))
  | _ => False
def bSum (ds : List D) (K : Sl → Prop) : Prop := match ds with
  | [.list l] => opW (intsOf l) fun ns => K (.pd (.int ns.sum))
  | [.tuple l] => opW (intsOf l) fun ns => K (.pd (.int ns.sum))
  | _ => False
def bAny (ds : List D) (K : Sl → Prop) : Prop := match ds with
  | [.list l] => opW (boolsOf l) fun ns => K (.pd (.bool (ns.any id)))
  | _ => False
def bAll (ds : List D) (K : Sl → Prop) : Prop := match ds with
  | [.list l] => opW (boolsOf l) fun ns => K (.pd (.bool (ns.all id)))
  | _ => False
def bSorted (ds : List D) (K : Sl → Prop) : Prop := match ds with
  | [.list l] => opW (intsOf l) fun ns => K (.ow none (.lst ((isort ns).map .int)))
  | _ => False
def bList (ds : List D) (K : Sl → Prop) : Prop := match ds with
  | [.list l] => K (.ow none (.lst l))
  | [.tuple l] => K (.ow none (.lst l))
  | _ => False
def bTuple (ds : List D) (K : Sl → Prop) : Prop := match ds with
  | [.list l] => K (.pd (.tuple l))
  | [.tuple l] => K (.pd (.tuple l))
  | _ => False
def bInt (ds : List D) (K : Sl → Prop) : Prop := match ds with
  | [.int i] => K (.pd (.int i))
  | [.bool c] => K (.pd (.int (if c then 1 else 0)))
  | _ => False
def bStr (ds : List D) (K : Sl → Prop) : Prop := match ds with
  | [.int i] => i.natAbs.log2 < 1920 ∧ K (.pd (.str (toString i)))
  | _ => False
def bltW (x : Bn) (ds : List D) (K : Sl → Prop) : Prop := match x with
  | .len => bLen ds K
  | .max => bMax ds K
  | .min => bMin ds K
  | .abs => bAbs ds K
  | .sum => bSum ds K
  | .any => bAny ds K
  | .all => bAll ds K
  | .sorted => bSorted ds K
  | .list => bList ds K
  | .tuple => bTuple ds K
  | .int => bInt ds K
  | .str => bStr ds K

/-- a part of an f-string -/
def fmW (d : D) (K : Str → Prop) : Prop := match d with
  | .str y => y.length ≤ 100000 ∧ K y
  | .int i => i.natAbs.log2 < 1920 ∧ K (toString i)
  | _ => False
def rstR : List Nat → Ev → Ev → Ev
  | [], _, ρ' => ρ'
  | v :: vs, ρ, ρ' => (rstR vs ρ ρ').set v (match ρ[v]? with | some (.pd d) => .pd d | _ => .un)
mutual
def wpG : Tg → D → Ev → (Ev → Prop) → Prop
  | .nm i, d, ρ, Q => Q (ρ.set i (.pd d))
  | .tp ts, d, ρ, Q => (match d with
    | .tuple ds => ds.length = ts.length ∧ wpGs ts ds ρ Q
    | _ => False)
def wpGs : List Tg → List D → Ev → (Ev → Prop) → Prop
  | [], ds, ρ, Q => (match ds with
    | [] => Q ρ
    | _ => False)
  | t :: ts, ds, ρ, Q => (match ds with
    | d :: r => wpG t d ρ fun ρ1 => wpGs ts r ρ1 Q
    | _ => False)
end
def lcW (turn : D → Ev → (Option D → Ev → Prop) → Prop) : List D → List D → Ev → (List D → Ev → Prop) → Prop
  | [], acc, ρ, Q => Q acc ρ
  | d :: ds, acc, ρ, Q => turn d ρ fun r ρ' => lcW turn ds (acc ++ r.toList) ρ' Q
def lc2W (turn : D → List D → Ev → (List D → Ev → Prop) → Prop) : List D → List D → Ev → (List D → Ev → Prop) → Prop
  | [], acc, ρ, Q => Q acc ρ
  | d :: ds, acc, ρ, Q => turn d acc ρ fun acc' ρ' => lc2W turn ds acc' ρ' Q
def enD (ds : List D) : List D := ds.mapIdx fun i d => .tuple [.int (i : Int), d]
def zipD (xs ys : List D) : List D := List.zipWith (fun x y => .tuple [x, y]) xs ys
/-- items in turn -/
def zipN : List (List D) → List D
  | [xs, ys] => zipD xs ys
  | [xs, ys, zs] => List.zipWith (fun x p => .tuple [x, p.1, p.2]) xs (ys.zip zs)
  | _ => []
/-- a datum that is walked: which kind, its items -/
def seqOf : D → Option (Bool × List D)
  | .list l => some (true, l)
  | .tuple l => some (false, l)
  | _ => none
def frzW (s : Sl) (K : D → Prop) : Prop :=
  match s with
  | .un => False
  | .pd d => K d
  | .ow _ (.lst ds) => K (.list ds)
  | .ow _ (.dct false ks) => K (.dict ks)
  | .ow _ (.dct true ks) => K (tdict ks)
  | .ow _ (.net _) => False
def errs0 : List Str := ["BadProblem", "BadStreams", "BadBoxes", "BadGap", "BadLevel", "BadSupplies", "BadBarred", "BadLoads", "Unbalanced", "HasBoxes", "BadNetwork", "BadRing", "BadLoad"]
def errs1 : List Str := ["BadPeriods", "BadFlag", "BadHeating", "BadPath", "BadSpreads", "BadWater", "BadDirt", "BadPrice", "BadEngine", "BadPrices", "BadJobs", "BadName", "NoName"]
def errs2 : List Str := ["NothingToUndo", "BadGroup", "BadStructure", "BadSwings", "BadOwners", "BadColumns", "BadMains", "BadMatch", "OutOfRange", "OtherGap", "NotText", "InvalidText", "TooMany"]
def errs : List Str := errs0 ++ errs1 ++ errs2
def pdAt : List Nat → Ev → Option (List D)
  | [], _ => some []
  | i :: is, ρ => match ρ[i]?, pdAt is ρ with
    | some (.pd d), some ds => some (d :: ds)
    | _, _ => none
/-! ### expressions -/
variable (T : Tb)
mutual
def wpE : IE → Ev → (Sl → Ev → Prop) → Prop
  | .nm i, ρ, Q => (match ρ[i]? with
    | some (.pd d) => Q (.pd d) ρ
    | some (.ow _ (.lst ds)) => Q (.pd (.list ds)) (ρ.set i (.pd (.list ds)))
    | some (.ow _ (.dct false ks)) => Q (.pd (.dict ks)) (ρ.set i (.pd (.dict ks)))
    | some (.ow _ (.dct true ks)) => Q (.pd (tdict ks)) (ρ.set i (.pd (tdict ks)))
    | _ => False)
  | .gl x, ρ, Q => (match T.gl x with
    | some d => Q (.pd d) ρ
    | none => False)
  | .cn d, ρ, Q => Q (.pd d) ρ
  | .ng a, ρ, Q => wpE a ρ fun s ρ1 => frzW s fun x => (match x with
    | .int i => Q (.pd (.int (-i))) ρ1
    | _ => False)
  | .nt a, ρ, Q => wpE a ρ fun s ρ1 => frzW s fun x => (match x with
    | .bool k => Q (.pd (.bool (!k))) ρ1
    | _ => False)
  | .bn o a b, ρ, Q => wpE a ρ fun s ρ1 => frzW s fun x => wpE b ρ1 fun t ρ2 => frzW t fun y => binW o x y fun r => Q r ρ2
  | .cp o a b, ρ, Q => wpE a ρ fun s ρ1 => frzW s fun x => wpE b ρ1 fun t ρ2 => frzW t fun y => cmpW o x y fun k => Q (.pd (.bool k)) ρ2
  | .ch o o' a b c, ρ, Q => wpE a ρ fun s ρ1 => frzW s fun x => wpE b ρ1 fun t ρ2 => frzW t fun y => cmpW o x y fun k =>
      (k = true → wpE c ρ2 fun u ρ3 => frzW u fun z => cmpW o' y z fun k2 => Q (.pd (.bool k2)) ρ3) ∧ (k = false → Q (.pd (.bool false)) ρ2)
  | .an a b, ρ, Q => wpE a ρ fun s ρ1 => frzW s fun x => (match x with
    | .bool k => (k = true → wpE b ρ1 Q) ∧ (k = false → Q (.pd (.bool false)) ρ1)
    | _ => False)
  | .ro a b, ρ, Q => wpE a ρ fun s ρ1 => frzW s fun x => (match x with
    | .bool k => (k = false → wpE b ρ1 Q) ∧ (k = true → Q (.pd (.bool true)) ρ1)
    | _ => False)
  | .ie c a b, ρ, Q => wpT c ρ fun k ρ1 => (k = true → wpE a ρ1 Q) ∧ (k = false → wpE b ρ1 Q)
  | .tu es, ρ, Q => wpA es ρ fun ds ρ1 => ds.length ≤ 100000 ∧ Q (.pd (.tuple ds)) ρ1
  | .li es, ρ, Q => wpA es ρ fun ds ρ1 => ds.length ≤ 100000 ∧ Q (.ow none (.lst ds)) ρ1
  | .ix a b, ρ, Q => wpE a ρ fun s ρ1 => frzW s fun x => wpE b ρ1 fun t ρ2 => frzW t fun y => (match y with
    | .int k => opW (IxD x k) fun d => Q (.pd d) ρ2
    | _ => False)
  | .ixo i b, ρ, Q => (match ρ[i]? with
    | some (.pd x) => wpE b ρ fun t ρ2 => frzW t fun y => (match y with
      | .int k => opW (IxD x k) fun d => Q (.pd d) ρ2
      | _ => False)
    | some (.ow _ (.lst _)) => wpE b ρ fun t ρ2 => frzW t fun y => (match y with
      | .int k => owW ρ2 i fun u ds => opW (L2.atI ds k) fun d => Q (.pd d) ρ2
      | _ => False)
    | _ => False)
  | .s2 a l h, ρ, Q => wpE a ρ fun s ρ1 => frzW s fun x => wpE l ρ1 fun t ρ2 => frzW t fun y => (match y with
    | .int i => wpE h ρ2 fun u ρ3 => frzW u fun z => (match z with
      | .int j => opW (SlD (some i) (some j) x) fun r => Q r ρ3
      | _ => False)
    | _ => False)
  | .sL a l, ρ, Q => wpE a ρ fun s ρ1 => frzW s fun x => wpE l ρ1 fun t ρ2 => frzW t fun y => (match y with
    | .int i => opW (SlD (some i) none x) fun r => Q r ρ2
    | _ => False)
  | .sH a h, ρ, Q => wpE a ρ fun s ρ1 => frzW s fun x => wpE h ρ1 fun t ρ2 => frzW t fun y => (match y with
    | .int i => opW (SlD none (some i) x) fun r => Q r ρ2
    | _ => False)
  | .rv a, ρ, Q => wpE a ρ fun s ρ1 => frzW s fun x => (match x with
    | .list ds => Q (.ow none (.lst ds.reverse)) ρ1
    | .tuple ds => Q (.pd (.tuple ds.reverse)) ρ1
    | _ => False)
  | .d0, ρ, Q => Q (.pd (.dict [])) ρ
  | .fs es, ρ, Q => wpJ es Str.empty ρ fun x ρ1 => Q (.pd (.str x)) ρ1
  | .bi x es, ρ, Q => wpA es ρ fun ds ρ1 => bltW x ds fun r => Q r ρ1
  | .ln i, ρ, Q => (match ρ[i]? with
    | some (.pd (.list l)) => Q (.pd (.int (l.length : Int))) ρ
    | some (.pd (.tuple l)) => Q (.pd (.int (l.length : Int))) ρ
    | some (.pd (.dict [(.list l, .none)])) => Q (.pd (.int (l.length : Int))) ρ
    | some (.ow _ (.lst l)) => Q (.pd (.int (l.length : Int))) ρ
    | _ => False)
  | .isi a t, ρ, Q => wpE a ρ fun s ρ1 => frzW s fun x => isiW x t fun r => Q (.pd (.bool r)) ρ1
  | .isj a t u, ρ, Q => wpE a ρ fun s ρ1 => frzW s fun x => isjW x t u fun r => Q (.pd (.bool r)) ρ1
  | .call f es, ρ, Q => wpA es ρ fun ds ρ1 => T.fp f ds (fun d => Q (.pd d) ρ1) T.xk
  | .calo f i es, ρ, Q => (match ρ[i]? with
    | some (.ow _ _) => wpA es ρ fun ds ρ1 => owW ρ1 i fun t rw => T.fo f rw ds (fun d rw' => Q (.pd d) (ρ1.set i (.ow t (.lst rw')))) T.xk
    | _ => False)
  | .calq f es, ρ, Q => wpA es ρ fun ds ρ1 => T.fp f ds (fun d => Q (.pd d) ρ1) fun _ => False
  | .caloq f i es, ρ, Q => (match ρ[i]? with
    | some (.ow _ _) => wpA es ρ fun ds ρ1 => owW ρ1 i fun t rw => T.fo f rw ds (fun d rw' => Q (.pd d) (ρ1.set i (.ow t (.lst rw')))) fun _ => False
    | _ => False)
  | .told f es, ρ, Q => wpA es ρ fun ds ρ1 => T.fp f ds (fun d => Q (.pd (T.tv d)) ρ1) fun x => match T.tx x with
    | some d => Q (.pd d) ρ1
    | none => False
  | .lc elt tg it ifs vs, ρ, Q => wpI it ρ fun ds ρ1 => ds.length ≤ 100000 ∧
      lcW (fun d ρ K => wpG tg d (wipeR ρ vs) fun ρ2 => wpF ifs ρ2 fun k ρ3 => (k = true → wpE elt ρ3 fun s ρ4 => frzW s fun y => K (some y) (rstR vs ρ ρ4)) ∧ (k = false → K none (rstR vs ρ ρ3)))
        ds [] ρ1 fun acc ρ2 => Q (.ow none (.lst acc)) ρ2
  | .ss a, ρ, Q => wpE a ρ fun s ρ1 => frzW s fun x => (match x with
    | .list l => opW (intsOf l) fun ns => (ns.length < 64 ∨ ∃ M : List Int, M.length < 64 ∧ ns.length ≤ 1000 ∧ ∀ x ∈ ns, x ∈ M) ∧ ∀ ms : List Int, ms.Pairwise (· < ·) → (∀ k : Int, k ∈ ms ↔ k ∈ ns) → Q (.ow none (.lst (ms.map .int))) ρ1
    | _ => False)
  | .mxd a b, ρ, Q => wpE a ρ fun s ρ1 => frzW s fun x => wpE b ρ1 fun t ρ2 => frzW t fun y => (match x, y with
    | .list l, .int d => opW (intsOf l) fun ns => Q (.pd (.int (imaxd ns d))) ρ2
    | _, _ => False)
  | .c4 o o' o2 a b c d, ρ, Q => wpE a ρ fun s ρ1 => frzW s fun x => wpE b ρ1 fun t ρ2 => frzW t fun y => cmpW o x y fun k =>
      (k = true → wpE c ρ2 fun u ρ3 => frzW u fun z => cmpW o' y z fun k2 => (k2 = true → wpE d ρ3 fun v ρ4 => frzW v fun w => cmpW o2 z w fun k3 => Q (.pd (.bool k3)) ρ4) ∧ (k2 = false → Q (.pd (.bool false)) ρ3)) ∧ (k = false → Q (.pd (.bool false)) ρ2)
  | .ma m a b, ρ, Q => wpE a ρ fun s ρ1 => frzW s fun x => wpE b ρ1 fun t ρ2 => frzW t fun y => (match x, y with
    | .int i, .int j => mthW m i j fun r => Q (.pd (.int r)) ρ2
    | _, _ => False)
  | .lc2 elt tg it ifs tg1 it1 ifs1 vs vs1, ρ, Q => wpI it ρ fun ds ρ1 => lc2W (fun d acc ρ K => wpG tg d (wipeR ρ vs) fun ρ2 => wpF ifs ρ2 fun k ρ3 => (k = true → wpI it1 ρ3 fun es ρ4 => acc.length + es.length ≤ 100000 ∧
      lcW (fun d ρ K => wpG tg1 d (wipeR ρ vs1) fun ρ2 => wpF ifs1 ρ2 fun k ρ3 => (k = true → wpE elt ρ3 fun s ρ4 => frzW s fun y => K (some y) (rstR vs1 ρ ρ4)) ∧ (k = false → K none (rstR vs1 ρ ρ3))) es acc ρ4 fun acc' ρ5 => K acc' (rstR vs ρ ρ5)) ∧ (k = false → K acc (rstR vs ρ ρ3))) ds [] ρ1 fun acc ρ2 => Q (.ow none (.lst acc)) ρ2
def wpA : IA → Ev → (List D → Ev → Prop) → Prop
  | .nil, ρ, Q => Q [] ρ
  | .cons e es, ρ, Q => wpE e ρ fun s ρ1 => frzW s fun d => wpA es ρ1 fun ds ρ2 => Q (d :: ds) ρ2
def wpJ : IA → Str → Ev → (Str → Ev → Prop) → Prop
  | .nil, acc, ρ, Q => Q acc ρ
  | .cons e es, acc, ρ, Q => wpE e ρ fun s ρ1 => frzW s fun d => fmW d fun y => (acc ++ y).length ≤ 100000 ∧ wpJ es (acc ++ y) ρ1 Q
def wpT : IT → Ev → (Bool → Ev → Prop) → Prop
  | .cp o a b, ρ, Q => wpE a ρ fun s ρ1 => frzW s fun x => wpE b ρ1 fun t ρ2 => frzW t fun y => cmpW o x y fun k => Q k ρ2
  | .ch o o' a b c, ρ, Q => wpE a ρ fun s ρ1 => frzW s fun x => wpE b ρ1 fun t ρ2 => frzW t fun y => cmpW o x y fun k =>
      (k = true → wpE c ρ2 fun u ρ3 => frzW u fun z => cmpW o' y z fun k2 => Q k2 ρ3) ∧ (k = false → Q false ρ2)
  | .nt a, ρ, Q => wpT a ρ fun k ρ1 => Q (!k) ρ1
  | .an a b, ρ, Q => wpT a ρ fun k ρ1 => (k = true → wpT b ρ1 Q) ∧ (k = false → Q false ρ1)
  | .ro a b, ρ, Q => wpT a ρ fun k ρ1 => (k = false → wpT b ρ1 Q) ∧ (k = true → Q true ρ1)
  | .v e, ρ, Q => wpE e ρ fun s ρ1 => frzW s fun d => truW d fun k => Q k ρ1
  | .vl i, ρ, Q => (match ρ[i]? with
    | some (.ow _ (.lst l)) => Q (!l.isEmpty) ρ
    | some (.pd d) => truW d fun k => Q k ρ
    | _ => False)
  | .c4 o o' o2 a b c d, ρ, Q => wpE a ρ fun s ρ1 => frzW s fun x => wpE b ρ1 fun t ρ2 => frzW t fun y => cmpW o x y fun k =>
      (k = true → wpE c ρ2 fun u ρ3 => frzW u fun z => cmpW o' y z fun k2 => (k2 = true → wpE d ρ3 fun v ρ4 => frzW v fun w => cmpW o2 z w fun k3 => Q k3 ρ4) ∧ (k2 = false → Q false ρ3)) ∧ (k = false → Q false ρ2)
def wpF : IF → Ev → (Bool → Ev → Prop) → Prop
  | .nil, ρ, Q => Q true ρ
  | .one t, ρ, Q => wpT t ρ Q
def wpI : II → Ev → (List D → Ev → Prop) → Prop
  | .e a, ρ, Q => wpE a ρ fun s ρ1 => frzW s fun x => (match x with
    | .list ds => Q ds ρ1
    | .tuple ds => Q ds ρ1
    | _ => False)
  | .r1 a, ρ, Q => wpE a ρ fun s ρ1 => frzW s fun x => (match x with
    | .int n => -(2 ^ 62) ≤ n ∧ n < 2 ^ 62 ∧ Q ((rangeI 0 n).map .int) ρ1
    | _ => False)
  | .r2 a b, ρ, Q => wpE a ρ fun s ρ1 => frzW s fun x => wpE b ρ1 fun t ρ2 => frzW t fun y => (match x, y with
    | .int lo, .int hi => (-(2 ^ 62) ≤ lo ∧ lo < 2 ^ 62 ∧ -(2 ^ 62) ≤ hi ∧ hi < 2 ^ 62) ∧ Q ((rangeI lo hi).map .int) ρ2
    | _, _ => False)
  | .en a, ρ, Q => wpE a ρ fun s ρ1 => frzW s fun x => (match x with
    | .tuple ds => Q (enD ds) ρ1
    | .list ds => Q (enD ds) ρ1
    | _ => False)
  | .zp a b, ρ, Q => wpE a ρ fun s ρ1 => frzW s fun x => wpE b ρ1 fun t ρ2 => frzW t fun y => (match seqOf x, seqOf y with
    | some (_, xs), some (_, ys) => Q (zipD xs ys) ρ2
    | _, _ => False)
  | .z3 a b c, ρ, Q => wpE a ρ fun s ρ1 => frzW s fun x => wpE b ρ1 fun t ρ2 => frzW t fun y => wpE c ρ2 fun u ρ3 => frzW u fun z => (match seqOf x, seqOf y, seqOf z with
    | some (_, xs), some (_, ys), some (_, zs) => Q (zipN [xs, ys, zs]) ρ3
    | _, _, _ => False)
end

/-! ### statements -/
mutual
inductive IS
  | set (i : Nat) (e : IE)
  | asg (tg : Tg) (e : IE)
  | par (i j : Nat) (a b : IE)
  | par3 (i j l : Nat) (a b c : IE)
  | app (i : Nat) (e : IE)
  | sti (i : Nat) (k e : IE)
  | sti2 (i : Nat) (k : IE) (j : Nat) (l e : IE)
  | augs (i : Nat) (k : IE) (o : Operator) (e : IE)
  | aug (i : Nat) (o : Operator) (e : IE)
  | iff (c : IT) (s1 s2 : IB)
  | ret (e : IE)
  | retN
  | pass
  | brk
  | cnt
  | drop (e : IE)
  | rai (C : Str) (e : IE)
  | raif (C : Str) (es : IA)
  | dead
  | tryq (f : Str) (es : IA) (d : D)
  | fo (tg : Tg) (it : II) (body : IB)
  | wh (c : IT) (body : IB)
inductive IB
  | nil
  | cons (s : IS) (r : IB)
end
def loopW (step : D → Ev → Ph → Prop) : List D → Ev → Ph → Prop
  | [], ρ, Φ => Φ.nx ρ
  | d :: ds, ρ, Φ => step d ρ { nx := fun ρ' => loopW step ds ρ' Φ, ct := fun ρ' => loopW step ds ρ' Φ, bk := Φ.nx, rt := Φ.rt }
def whileW (test : Ev → (Bool → Ev → Prop) → Prop) (body : Ev → Ph → Prop) : Nat → Ev → Ph → Prop
  | 0, _, _ => False
  | n + 1, ρ, Φ => test ρ fun k ρ1 => (k = true → body ρ1 { nx := fun ρ' => whileW test body n ρ' Φ, ct := fun ρ' => whileW test body n ρ' Φ, bk := Φ.nx, rt := Φ.rt }) ∧ (k = false → Φ.nx ρ1)
mutual
def wpS : IS → Ev → Ph → Prop
  | .set i e, ρ, Φ => wpE T e ρ fun s ρ1 => Φ.nx (ρ1.set i (nrm s))
  | .asg tg e, ρ, Φ => wpE T e ρ fun s ρ1 => frzW s fun d => wpG tg d ρ1 Φ.nx
  | .par i j a b, ρ, Φ => wpE T a ρ fun s ρ1 => wpE T b ρ1 fun t ρ2 => Φ.nx ((ρ2.set i (nrm s)).set j (nrm t))
  | .par3 i j l a b c, ρ, Φ => wpE T a ρ fun s ρ1 => wpE T b ρ1 fun t ρ2 => wpE T c ρ2 fun u ρ3 => Φ.nx (((ρ3.set i (nrm s)).set j (nrm t)).set l (nrm u))
  | .app i e, ρ, Φ => (match ρ[i]? with
    | some (.ow _ (.lst _)) => wpE T e ρ fun s ρ1 => frzW s fun d => owW ρ1 i fun t ds => ds.length < 100000 ∧ Φ.nx (ρ1.set i (.ow t (.lst (ds ++ [d]))))
    | _ => False)
  | .sti i k e, ρ, Φ => (match ρ[i]? with
    | some (.ow _ (.lst _)) => wpE T e ρ fun s ρ1 => frzW s fun d => wpE T k ρ1 fun u ρ2 => frzW u fun y => (match y with
      | .int n => owW ρ2 i fun t ds => opW (ixN ds.length n) fun j => Φ.nx (ρ2.set i (.ow t (.lst (ds.set j d))))
      | _ => False)
    | _ => False)
  | .sti2 i k j l e, ρ, Φ => wpE T e ρ fun s ρ1 => frzW s fun d => (match d with
    | .tuple [d1, d2] => (match ρ1[i]? with
      | some (.ow _ (.lst _)) => wpE T k ρ1 fun u ρ2 => frzW u fun y => (match y with
        | .int n => owW ρ2 i fun t ds => opW (ixN ds.length n) fun m => (match (ρ2.set i (.ow t (.lst (ds.set m d1))))[j]? with
          | some (.ow _ (.lst _)) => wpE T l (ρ2.set i (.ow t (.lst (ds.set m d1)))) fun v ρ3 => frzW v fun z => (match z with
            | .int n2 => owW ρ3 j fun t2 ds2 => opW (ixN ds2.length n2) fun m2 => Φ.nx (ρ3.set j (.ow t2 (.lst (ds2.set m2 d2))))
            | _ => False)
          | _ => False)
        | _ => False)
      | _ => False)
    | _ => False)
  | .augs i k o e, ρ, Φ => (match ρ[i]? with
    | some (.ow _ (.lst _)) => wpE T k ρ fun u ρ1 => frzW u fun y => (match y with
      | .int n => owW ρ1 i fun _ ds => opW (L2.atI ds n) fun x => wpE T e ρ1 fun s ρ2 => frzW s fun z => augW o x z fun f => owW ρ2 i fun t2 ds2 => opW (ixN ds2.length n) fun m2 => Φ.nx (ρ2.set i (.ow t2 (.lst (ds2.set m2 f))))
      | _ => False)
    | _ => False)
  | .aug i o e, ρ, Φ => (match ρ[i]? with
    | some (.pd x) => wpE T e ρ fun s ρ1 => frzW s fun y => augW o x y fun f => Φ.nx (ρ1.set i (.pd f))
    | some (.ow _ (.lst _)) => wpE T e ρ fun s ρ1 => frzW s fun y => (match o, y with
      | .Add, .list es => owW ρ1 i fun t ds => ds.length + es.length ≤ 100000 ∧ Φ.nx (ρ1.set i (.ow t (.lst (ds ++ es))))
      | _, _ => False)
    | _ => False)
  | .iff c s1 s2, ρ, Φ => wpT T c ρ fun k ρ1 => (k = true → wpB s1 ρ1 Φ) ∧ (k = false → wpB s2 ρ1 Φ)
  | .ret e, ρ, Φ => wpE T e ρ Φ.rt
  | .retN, ρ, Φ => Φ.rt (.pd .none) ρ
  | .pass, ρ, Φ => Φ.nx ρ
  | .brk, ρ, Φ => Φ.bk ρ
  | .cnt, ρ, Φ => Φ.ct ρ
  | .drop e, ρ, Φ => wpE T e ρ fun s ρ1 => frzW s fun _ => Φ.nx ρ1
  | .rai C e, ρ, _ => wpE T e ρ fun s _ => frzW s fun d => (match d with
    | .str _ => T.xk (C, [])
    | _ => False)
  | .raif C es, ρ, _ => wpA T es ρ fun ds _ => T.xk (C, ds)
  | .dead, _, _ => False
  | .tryq f es d, ρ, Φ => wpA T es ρ fun ds ρ1 => T.fp f ds (fun _ => Φ.nx ρ1) fun x => x.1 ∈ T.ec ∧ Φ.rt (.pd d) ρ1
  | .fo tg it body, ρ, Φ => wpI T it ρ fun ds ρ1 => loopW (fun d ρ Φ => wpG tg d ρ fun ρ' => wpB body ρ' Φ) ds ρ1 Φ
  | .wh c body, ρ, Φ => ∃ n, whileW (fun ρ Q => wpT T c ρ Q) (fun ρ Φ => wpB body ρ Φ) n ρ Φ
def wpB : IB → Ev → Ph → Prop
  | .nil, ρ, Φ => Φ.nx ρ
  | .cons s r, ρ, Φ => wpS s ρ { Φ with nx := fun ρ1 => wpB r ρ1 Φ }
end
def ow0 (ρ : Ev) (K : List D → Prop) : Prop := match ρ with
  | .ow (some 0) (.lst rw) :: _ => K rw
  | _ => False
theorem ow0_of {ρ : Ev} {K : List D → Prop} (h : ow0 ρ K) : ∃ rw, ρ[0]? = some (.ow (some 0) (.lst rw)) ∧ K rw := by
  unfold ow0 at h
  split at h
  · exact ⟨_, rfl, h⟩
  · exact h.elim
/-- a def of data: what it hands back -/
def wpRun (ns : Nat) (body : IB) (ds : List D) (Q : D → Prop) : Prop := wpB T body (ds.map .pd ++ List.replicate (ns - ds.length) .un) { nx := fun _ => Q .none, rt := fun s _ => frzW s Q }
def wpRunO (ns : Nat) (body : IB) (rw : List D) (ds : List D) (Q : D → List D → Prop) : Prop := wpB T body (.ow (some 0) (.lst rw) :: ds.map .pd ++ List.replicate (ns - (ds.length + 1)) .un)
  { nx := fun ρ' => ow0 ρ' fun rw' => Q .none rw', rt := fun s ρ' => frzW s fun d => ow0 ρ' fun rw' => Q d rw' }
end DW

set_option Elab.async false
set_option autoImplicit false
set_option linter.all false
set_option maxRecDepth 100000
/-! DW19: iterators by data; loops and comprehensions over any of them, whose turns may change owned things -/
namespace DW
open PySem PySem.Spec L2
open PyProof.Rows hiding St

/-- J hands out ds, wherever Hs0 stands -/
structure Yl (K : PySem.W.Frag) (J : It) (ds : List D) (Hs0 : Hp) : Prop where
  go : ∀ (i : Nat) (H Hs : Hp), i < ds.length → Same Hs0 Hs → Same Hs H → J.go i H
  stop : ∀ (H Hs : Hp), Same Hs0 Hs → Same Hs H → J.stop ds.length H
  yld : ∀ (i : Nat) (H Hs H' : Hp) (x : V), i < ds.length → Same Hs0 Hs → Same Hs H → J.yld i H x H' → ∃ (Hs' : Hp) (d : D), Grow Hs H Hs' H' ∧ ds[i]? = some d ∧ Rp K Hs' x d
/-- the iterator of a for -/
def IXI [CF : Cfg] [OG : Org] (X : Cx) (av : List V) (tg iter : Expr) (ρ : Ev) (Q : List D → Ev → Prop) : Prop :=
  (∀ x, foldedSetIterable iter X.env x = pure x) ∧ ∃ wi : TI, PI X tg iter wi ∧ ∀ (Hs : Gh) (H : Hp) (σ : St) (R : It → Hp → Prop), Rep X.K av Hs H ρ σ →
    (∀ (J : It) (ds : List D) (ρ' : Ev) (Hs' : Gh) (H' : Hp), Step Hs H Hs' H' → Rep X.K av Hs' H' ρ' σ → Yl X.K J ds Hs'.st → Q ds ρ' → R J H') → wi σ H R
section
variable [CF : Cfg] [OG : Org]
variable {X : Cx} {av : List V} {ρ : Ev} {e a b tg elt iter : Expr} {ifs : List Expr} {body : List Stmt} {Φ : Ph} {scope : Scope} {own : List (Str × Nat)} {Q : List D → Ev → Prop}
/-- a list or a tuple, whichever comes -/
def iSeq (K : PySem.W.Frag) (tl : TE) : TI := fun σ H R => tl σ H fun x H1 => ∃ a, x = .ref a ∧ (((∃ xs, SqL K H1 a xs) ∧ R (Itl K a) H1) ∨ ((∃ xs, SqT K H1 a xs) ∧ R (Itt K a) H1))
theorem pi_seq {l : Expr} {tl : TE} (hl : PE X l tl) : PI X tg l (iSeq X.K tl) := by
  refine ⟨fun pn s0 σ0 H0 R0 I0 h0 => thn (hl.run pn s0 σ0 H0 _ I0 h0) fun v1 s1 ⟨x1, H1, I1, r1, q1⟩ => ?_⟩
  obtain ⟨ad, rfl, q1⟩ := q1
  cases r1
  have fr : ∀ b ∈ [s1.heap.objs.size], FpOk X pn H1 b := fun b hb => by
    rw [List.mem_singleton.mp hb]
    exact I1.fpOk (Nat.le_refl _) (I1.hok.fresh (Nat.le_refl _))
  rcases q1 with ⟨⟨ys, hy⟩, q1⟩ | ⟨⟨ys, hy⟩, q1⟩
  · obtain ⟨il, vl, pl, _⟩ := I1.list hy
    exact wpAny_pyIter_list pl.isList ⟨s1.heap.objs.size, [s1.heap.objs.size], _, _, H1, rfl, I1.kept (t' := s1.toks) fun b o z => Heap.get?_push_of_some _ z, turn_list ad _, ⟨_, Heap.get?_push_size _ rfl, rfl, rfl⟩, fr, q1⟩
  · obtain ⟨il, vl, pl, _⟩ := I1.tuple hy
    exact wpAny_pyIter_tuple (show s1.heap.IsTuple ad il.toArray from pl) ⟨s1.heap.objs.size, [s1.heap.objs.size], _, _, H1, rfl, I1.kept (t' := s1.toks) fun b o z => Heap.get?_push_of_some _ z, turn_tuple ad _, ⟨_, Heap.get?_push_size _ rfl, rfl, rfl⟩, fr, q1⟩
theorem yl_list {K : PySem.W.Frag} {Hs : Hp} {a : Addr} {vs : List V} {ds : List D} (h1 : Hs a = some (.lst vs)) (h2 : RpAll K Hs vs ds) : Yl K (Itl K a) ds Hs := by
  refine ⟨fun i H Hs hi e1 e2 => ?_, fun H Hs e1 e2 => ?_, fun i H Hs H' x hi e1 e2 y => ?_⟩
  · have hi' : i < vs.length := by rw [h2.length]; exact hi
    exact ⟨vs, vs[i], .inl (.inl (e2 _ _ (e1 _ _ h1))), by simp [hi']⟩
  · exact ⟨vs, .inl (.inl (e2 _ _ (e1 _ _ h1))), by rw [h2.length]; exact Nat.le_refl _⟩
  · obtain ⟨rfl, y⟩ := y
    obtain ⟨d, hd, rd⟩ := h2.getV (y vs (.inl (.inl (e2 _ _ (e1 _ _ h1)))))
    exact ⟨Hs, d, Grow.refl e2, hd, Rp.mono e1 _ _ rd⟩
theorem yl_tup {K : PySem.W.Frag} {Hs : Hp} {a : Addr} {vs : List V} {ds : List D} (h1 : Hs a = some (.tup vs)) (h2 : RpAll K Hs vs ds) : Yl K (Itt K a) ds Hs := by
  refine ⟨fun i H Hs hi e1 e2 => ?_, fun H Hs e1 e2 => ?_, fun i H Hs H' x hi e1 e2 y => ?_⟩
  · have hi' : i < vs.length := by rw [h2.length]; exact hi
    exact ⟨vs, vs[i], .inl (.inl (e2 _ _ (e1 _ _ h1))), by simp [hi']⟩
  · exact ⟨vs, .inl (.inl (e2 _ _ (e1 _ _ h1))), by rw [h2.length]; exact Nat.le_refl _⟩
  · obtain ⟨rfl, y⟩ := y
    obtain ⟨d, hd, rd⟩ := h2.getV (y vs (.inl (.inl (e2 _ _ (e1 _ _ h1)))))
    exact ⟨Hs, d, Grow.refl e2, hd, Rp.mono e1 _ _ rd⟩
theorem yl_range {K : PySem.W.Frag} {Hs : Hp} {lo hi : Int} : Yl K (Itr lo (hi - lo).toNat) ((rangeI lo hi).map .int) Hs := by
  have hl : ((rangeI lo hi).map PyData.int).length = (hi - lo).toNat := by rw [List.length_map, rangeI_len]
  refine ⟨fun i H Hs hh e1 e2 => ?_, fun H Hs e1 e2 => ?_, fun i H Hs H' x hh e1 e2 y => ?_⟩
  · rw [hl] at hh
    exact hh
  · rw [hl]
    exact Nat.le_refl _
  · rw [hl] at hh
    obtain ⟨rfl, rfl⟩ := y
    refine ⟨Hs, .int (lo + (i : Int)), Grow.refl e2, ?_, .int _⟩
    unfold rangeI
    rw [List.map_map, List.getElem?_map, List.getElem?_range hh]
    rfl
theorem yl_enT {K : PySem.W.Frag} {Hs : Hp} {a : Addr} {vs : List V} {ds : List D} (h1 : Hs a = some (.tup vs)) (h2 : RpAll K Hs vs ds) : Yl K (IteT K a) (enD ds) Hs := by
  have hl : (enD ds).length = ds.length := by simp [enD]
  refine ⟨fun i H Hs hi e1 e2 => ?_, fun H Hs e1 e2 => ?_, fun i H Hs H' x hi e1 e2 y => ?_⟩
  · have hi' : i < vs.length := by rw [h2.length, ← hl]; exact hi
    exact ⟨vs, vs[i], .inl (.inl (e2 _ _ (e1 _ _ h1))), by simp [hi']⟩
  · exact ⟨vs, .inl (.inl (e2 _ _ (e1 _ _ h1))), by rw [h2.length, hl]⟩
  · obtain ⟨p, x0, rfl, np, rfl, y⟩ := y
    obtain ⟨d, hd, rd⟩ := h2.getV (y vs (.inl (.inl (e2 _ _ (e1 _ _ h1)))))
    have g := Grow.new e2 (.tup [.int (i : Nat), x0]) np
    exact ⟨_, .tuple [.int (i : Nat), d], g, by simp [enD, hd], .tup upd_same (.cons (.int _) (.cons (Rp.mono (e1.trans g.st) _ _ rd) .nil))⟩
theorem ixi_seq (h : ED X av e ρ fun x ρ1 => match x with
    | .list ds => Q ds ρ1
    | .tuple ds => Q ds ρ1
    | _ => False) (hs : ∀ x, foldedSetIterable e X.env x = pure x) : IXI X av tg e ρ Q :=
  ⟨hs, _, pi_seq pe_s, fun Hs H σ R r k => h.run r fun v d ρ1 Hs1 H1 st r1 rp q => by
    cases rp with
    | @lst a vs ds h1 h2 => exact ⟨a, rfl, .inl ⟨⟨vs, .inl (.inl (r1.same _ _ h1))⟩, k _ ds ρ1 Hs1 H1 st r1 (yl_list h1 h2) q⟩⟩
    | @tup a vs ds h1 h2 => exact ⟨a, rfl, .inr ⟨⟨vs, .inl (.inl (r1.same _ _ h1))⟩, k _ ds ρ1 Hs1 H1 st r1 (yl_tup h1 h2) q⟩⟩
    | _ => exact q.elim⟩
theorem ixi_r1 {p pos : Pos} (hg : Gl X "range") (hm : X.mg "range" = none) (h : ED X av a ρ fun x ρ1 => match x with
    | .int n => -(2 ^ 62) ≤ n ∧ n < 2 ^ 62 ∧ Q ((rangeI 0 n).map .int) ρ1
    | _ => False) (he : starEach [a] X.env = [(false, eval a X.env)]) : IXI X av tg (.Call (.Name "range" p) [a] [] pos) ρ Q :=
  ⟨fun _ => rfl, _, pi_range1 hg hm (pa_cons pe_s pa_nil he) he, fun Hs H σ R r k => h.run r fun v d ρ1 Hs1 H1 st r1 rp q => by
    cases rp with
    | int n =>
      obtain ⟨q1, q2, q⟩ := q
      exact ⟨n, rfl, q1, q2, k _ _ ρ1 Hs1 H1 st r1 (by have z := yl_range (K := X.K) (Hs := Hs1.st) (lo := 0) (hi := n); rw [Int.sub_zero] at z; exact z) q⟩
    | _ => exact q.elim⟩
theorem ixi_r2 {p pos : Pos} (hg : Gl X "range") (hm : X.mg "range" = none) (h : ED X av a ρ fun x ρ1 => ED X av b ρ1 fun y ρ2 => match x, y with
    | .int lo, .int hi => (-(2 ^ 62) ≤ lo ∧ lo < 2 ^ 62 ∧ -(2 ^ 62) ≤ hi ∧ hi < 2 ^ 62) ∧ Q ((rangeI lo hi).map .int) ρ2
    | _, _ => False) (he : starEach [a, b] X.env = [(false, eval a X.env), (false, eval b X.env)]) (he2 : starEach [b] X.env = [(false, eval b X.env)]) : IXI X av tg (.Call (.Name "range" p) [a, b] [] pos) ρ Q :=
  ⟨fun _ => rfl, _, pi_range2 hg hm (pa_cons pe_s (pa_cons pe_s pa_nil he2) (by rw [he, he2])) he he2, fun Hs H σ R r k => two_run (α := Unit) h r fun vx vy x y ρ1 Hs1 H1 st r1 px py q => by
    cases px with
    | int lo =>
      cases py with
      | int hi => exact ⟨lo, hi, rfl, q.1, k _ _ ρ1 Hs1 H1 st r1 yl_range q.2⟩
      | _ => exact q.elim
    | _ => exact q.elim⟩
/-- enumerate of a list or a tuple, whichever comes -/
def iEnS (K : PySem.W.Frag) (ta : TA) : TI := fun σ H R => ta σ H fun vs H1 => ∃ a, vs = [.ref a] ∧ (((∃ xs, SqL K H1 a xs) ∧ R (Ite K a) H1) ∨ ((∃ xs, SqT K H1 a xs) ∧ R (IteT K a) H1))
theorem pi_enS {ta : TA} {p pos tpos : Pos} {elts : List Expr} {kk : Nat} (hg : Gl X "enumerate") (hm : X.mg "enumerate" = none) (ha : PA X [e] ta) (he : starEach [e] X.env = [(false, eval e X.env)]) : PI X (.Tuple elts kk tpos) (.Call (.Name "enumerate" p) [e] [] pos) (iEnS X.K ta) := by
  refine ⟨fun pn s0 σ0 H0 R0 I0 h0 => Call_ (ld_blt I0 hg hm boot_enumerate (PyProof.Rows.callWith_type1 (thn (ha.run pos pn s0 σ0 H0 _ I0 h0) fun us s1 q0 => ?_) he rfl))⟩
  obtain ⟨vs, H1, I1, r1, ad, ex, q⟩ := q0
  subst ex
  rw [Vals.ref1 r1]
  have fr : ∀ b ∈ [s1.heap.objs.size + 1, s1.heap.objs.size], FpOk X pn H1 b := fun b hb => by
    have hle : s1.heap.objs.size ≤ b := by
      rcases List.mem_cons.mp hb with z | z
      · rw [z]; exact Nat.le_succ _
      · rw [List.mem_singleton.mp z]; exact Nat.le_refl _
    exact I1.fpOk hle (I1.hok.fresh hle)
  rcases q with ⟨⟨ys, hy⟩, q⟩ | ⟨⟨ys, hy⟩, q⟩
  · obtain ⟨il, vl, pl, _⟩ := I1.list hy
    exact call_enumerate_list pl.isList fun h1 z1 z2 _ z4 => wpAny_pyIter_enum z1 ⟨_, [s1.heap.objs.size + 1, s1.heap.objs.size], _, _, H1, rfl, I1.kept (t' := s1.toks) z4, turn_enum ad (s1.heap.objs.size + 1) s1.heap.objs.size, ⟨⟨.none, z1⟩, z2, Nat.succ_ne_self _⟩, fr, q⟩
  · obtain ⟨il, vl, pl, _⟩ := I1.tuple hy
    have hlt : ad < s1.heap.objs.size := by
      obtain ⟨o, ho, _⟩ := pl
      exact Heap.lt_size ho
    exact dw_call_enumT (begins_tuple ad il.toArray) pl fun h1 z1 z2 z4 => wpAny_pyIter_enum z1 ⟨_, [s1.heap.objs.size + 1, s1.heap.objs.size], _, _, H1, rfl, I1.kept (t' := s1.toks) z4, turn_enumT ad (s1.heap.objs.size + 1) s1.heap.objs.size (Nat.ne_of_lt hlt) (Nat.ne_of_lt (Nat.lt_succ_of_lt hlt)), ⟨⟨.none, z1⟩, ⟨_, z2, rfl, rfl⟩, Nat.succ_ne_self _⟩, fr, q⟩
theorem yl_enL {K : PySem.W.Frag} {Hs : Hp} {a : Addr} {vs : List V} {ds : List D} (h1 : Hs a = some (.lst vs)) (h2 : RpAll K Hs vs ds) : Yl K (Ite K a) (enD ds) Hs := by
  have hl : (enD ds).length = ds.length := by simp [enD]
  refine ⟨fun i H Hs hi e1 e2 => ?_, fun H Hs e1 e2 => ?_, fun i H Hs H' x hi e1 e2 y => ?_⟩
  · have hi' : i < vs.length := by rw [h2.length, ← hl]; exact hi
    exact ⟨vs, vs[i], .inl (.inl (e2 _ _ (e1 _ _ h1))), by simp [hi']⟩
  · exact ⟨vs, .inl (.inl (e2 _ _ (e1 _ _ h1))), by rw [h2.length, hl]; exact Nat.le_refl _⟩
  · obtain ⟨p, x0, rfl, np, rfl, y⟩ := y
    obtain ⟨d, hd, rd⟩ := h2.getV (y vs (.inl (.inl (e2 _ _ (e1 _ _ h1)))))
    have g := Grow.new e2 (.tup [.int (i : Nat), x0]) np
    exact ⟨_, .tuple [.int (i : Nat), d], g, by simp [enD, hd], .tup upd_same (.cons (.int _) (.cons (Rp.mono (e1.trans g.st) _ _ rd) .nil))⟩
theorem ixi_enT {p pos pt : Pos} {ts : List Expr} {kt : Nat} (hg : Gl X "enumerate") (hm : X.mg "enumerate" = none) (h : ED X av a ρ fun x ρ1 => match x with
    | .tuple ds => Q (enD ds) ρ1
    | .list ds => Q (enD ds) ρ1
    | _ => False) (he : starEach [a] X.env = [(false, eval a X.env)]) : IXI X av (.Tuple ts kt pt) (.Call (.Name "enumerate" p) [a] [] pos) ρ Q :=
  ⟨fun _ => rfl, _, pi_enS hg hm (pa_cons pe_s pa_nil he) he, fun Hs H σ R r k => h.run r fun v d ρ1 Hs1 H1 st r1 rp q => by
    cases rp with
    | @tup a vs ds h1 h2 => exact ⟨a, rfl, .inr ⟨⟨vs, .inl (.inl (r1.same _ _ h1))⟩, k _ (enD ds) ρ1 Hs1 H1 st r1 (yl_enT h1 h2) q⟩⟩
    | @lst a vs ds h1 h2 => exact ⟨a, rfl, .inl ⟨⟨vs, .inl (.inl (r1.same _ _ h1))⟩, k _ (enD ds) ρ1 Hs1 H1 st r1 (yl_enL h1 h2) q⟩⟩
    | _ => exact q.elim⟩

/-! ### for -/
omit CF OG in
theorem drop_at {α : Type} {l : List α} {i : Nat} {x : α} (h : l[i]? = some x) : l.drop i = x :: l.drop (i + 1) := by
  obtain ⟨h1, h2⟩ := List.getElem?_eq_some_iff.mp h
  subst h2
  exact List.drop_eq_getElem_cons h1
theorem sx_forG {pos : Pos} (hp : PassesOwn (model X.prog X.w) X.A X.env X.xe) (hc : X.calm = true) (h : IXI X av tg iter ρ fun ds ρ1 => loopW (fun d ρ Φ => GX X av tg d ρ fun ρ' => BX X av body ρ' Φ) ds ρ1 Φ) : SX X av (.For tg iter body [] pos) ρ Φ := by
  obtain ⟨hs, wi, hi, h⟩ := h
  refine sx_of (ps_for hp hc hi pg_s pb_s hs) fun Hs H σ DD r k => h Hs H σ _ r fun J ds ρ1 Hs1 H1 st r1 yl q => ?_
  have k1 : KS X av ρ1 Hs1 H1 σ Φ DD := k.back st
  let W : Nat → Ev → Prop := fun i ρ => loopW (fun d ρ Φ => GX X av tg d ρ fun ρ' => BX X av body ρ' Φ) (ds.drop i) ρ Φ
  refine ⟨fun i m σ' H' => m = ds.length - i ∧ i ≤ ds.length ∧ Pv X av Hs1 H1 W i σ' H', ⟨_, rfl, Nat.zero_le _, ρ1, Hs1, Step.refl, r1, q⟩, ?_⟩
  rintro i m σ' H' ⟨rfl, hi, ρ', Hs', s', r', w⟩
  by_cases hlt : i < ds.length
  · refine .inr ⟨yl.go i H' Hs'.st hlt s'.st r'.same, Pv X av Hs1 H1 W (i + 1), fun σ2 H2 q => ⟨ds.length - (i + 1), by omega, rfl, hlt, q⟩, fun x H2 y => ?_⟩
    obtain ⟨Hs2, d, g, hd, rd⟩ := yl.yld i H' Hs'.st H2 x hlt s'.st r'.same y
    have w2 : loopW (fun d ρ Φ => GX X av tg d ρ fun ρ' => BX X av body ρ' Φ) (ds.drop i) ρ' Φ := w
    rw [drop_at hd] at w2
    exact turn_of (W := W) (i := i) (ρ1 := ρ1) (σ1 := σ) k1 (s'.trans g.step) (r'.grow g) rd w2
  · have e : i = ds.length := by omega
    subst e
    refine .inl ⟨yl.stop H' Hs'.st s'.st r'.same, ?_⟩
    have w2 : loopW (fun d ρ Φ => GX X av tg d ρ fun ρ' => BX X av body ρ' Φ) (ds.drop ds.length) ρ' Φ := w
    rw [List.drop_length] at w2
    exact k1.nx σ' ρ' Hs' H' s' r' w2

/-! ### comprehensions -/
omit CF OG in
theorem rstR_len (ρ ρ' : Ev) : ∀ vs : List Nat, (rstR vs ρ ρ').length = ρ'.length
  | [] => rfl
  | v :: vs => by
    unfold rstR
    rw [List.length_set, rstR_len ρ ρ' vs]
omit CF OG in
theorem rstR_at {ρ ρ' : Ev} {i : Nat} {s : Sl} : ∀ {vs : List Nat}, (rstR vs ρ ρ')[i]? = some s → s = .un ∨ (∃ d, s = .pd d ∧ ρ[i]? = some (.pd d)) ∨ (i ∉ vs ∧ ρ'[i]? = some s)
  | [], h => .inr (.inr ⟨by simp, h⟩)
  | v :: vs, h => by
    unfold rstR at h
    rcases set_get h with ⟨z0, z, _⟩ | ⟨hv, h⟩
    · subst z0
      split at z
      · exact .inr (.inl ⟨_, z, by assumption⟩)
      · exact .inl z
    · rcases rstR_at h with z | z | ⟨z1, z2⟩
      · exact .inl z
      · exact .inr (.inl z)
      · exact .inr (.inr ⟨by simp only [List.mem_cons, not_or]; exact ⟨hv, z1⟩, z2⟩)
omit CF OG in
theorem rstR_out {ρ ρ' : Ev} {i : Nat} : ∀ {vs : List Nat}, i ∉ vs → (rstR vs ρ ρ')[i]? = ρ'[i]?
  | [], _ => rfl
  | v :: vs, hi => by
    simp only [List.mem_cons, not_or] at hi
    unfold rstR
    rw [List.getElem?_set_ne (Ne.symm hi.1), rstR_out hi.2]
/-- behind a turn: the def's own slots again -/
theorem rst_back {K : PySem.W.Frag} {vs : List Nat} {Hs Hs2 Hs' : Gh} {H H' : Hp} {ρ1 ρ' : Ev} {σ σ2 : St} (r1 : Rep K av Hs H ρ1 σ) (s2 : Step Hs H Hs2 H) (k2 : ∀ i, i ∉ vs → σ2[i]? = σ[i]?) (l2 : ρ'.length = ρ1.length)
    (s' : Step Hs2 H Hs' H') (r' : Rep K av Hs' H' ρ' σ2) : ∃ G3 : Gh, G3.st = Hs'.st ∧ (∀ a, G3.ow a → Hs'.ow a) ∧ Step Hs H G3 H' ∧ Rep K av G3 H' (rstR vs ρ1 ρ') σ := by
  have ow : ∀ {i : Nat} {t : Option Nat} {o : MO}, (rstR vs ρ1 ρ')[i]? = some (.ow t o) → i ∉ vs ∧ ρ'[i]? = some (.ow t o) := fun {i t o} z => by
    rcases rstR_at z with z | ⟨d, z, _⟩ | z
    · cases z
    · cases z
    · exact z
  have s3 := s2.trans s'
  have out : ∀ {i : Nat}, i ∉ vs → (rstR vs ρ1 ρ')[i]? = ρ'[i]? := fun {i} hi => rstR_out hi
  obtain ⟨r4, s4⟩ := r'.less (ρ' := rstR vs ρ1 ρ') (σ' := σ) (vs := vs) (by rw [rstR_len, l2]; exact r1.len) (fun i s e => by
    rcases rstR_at e with z | ⟨d, z, z2⟩ | ⟨z1, z2⟩
    · subst z
      trivial
    · subst z
      obtain ⟨v, q1, q2⟩ := r1.sl i _ z2
      exact ⟨v, q1, Rp.mono s3.st _ _ q2⟩
    · rw [← k2 i z1]
      exact sRep_wipe z1 (r'.sl i s z2)) fun i hi t o e => by rw [out hi]; exact e
  exact ⟨{ Hs' with F := wipeF Hs'.F vs }, rfl, fun a ⟨i, z⟩ => ⟨i, z.2⟩, s3.trans s4, r4⟩
/-- the list that grows at Dl; ρ: the slots as they stand now -/
structure LgI (X : Cx) (av : List V) (Hs1 : Gh) (H1 : Hp) (ρ1 : Ev) (σ : St) (Dl : Addr) (acc : List D) (ρ : Ev) (H : Hp) : Prop where
  ex : ∃ (Hs : Gh) (ws : List V), Step Hs1 H1 Hs H ∧ Rep X.K av Hs H ρ σ ∧ Hs.st Dl = none ∧ ¬ Hs.ow Dl ∧ H Dl = some (.lst ws) ∧ RpAll X.K Hs.st ws acc ∧ ρ.length = ρ1.length
theorem LgI.start {Hs1 : Gh} {H1 : Hp} {ρ1 : Ev} {σ : St} {Dl : Addr} (r : Rep X.K av Hs1 H1 ρ1 σ) (hD : H1 Dl = none) : LgI X av Hs1 H1 ρ1 σ Dl [] ρ1 (upd H1 Dl (.lst [])) := by
  have g := Grow.newO r.same (.lst []) hD
  refine ⟨_, [], g.step, r.grow g, r.same.free hD, fun z => ?_, upd_same, .nil, rfl⟩
  obtain ⟨_, u, hu, _⟩ := r.owned z
  rw [hD] at hu
  cases hu
theorem LgI.done {Hs1 Hs0 : Gh} {H1 H0 H : Hp} {ρ0 ρ1 ρ : Ev} {σ : St} {Dl : Addr} {acc : List D} {Q : Sl → Ev → Prop} {R : VK} (I : LgI X av Hs1 H1 ρ1 σ Dl acc ρ H) (hD : H1 Dl = none) (k : KE X av ρ0 Hs0 H0 σ Q R) (st : Step Hs0 H0 Hs1 H1) (q : Q (.ow none (.lst acc)) ρ) : R (.ref Dl) H := by
  obtain ⟨Hs, ws, s1, r1, n1, n2, e1, e2, _⟩ := I.ex
  exact k _ (.ow none (.lst acc)) ρ Hs H (st.trans s1) r1 ⟨Dl, fun b => b = Dl, rfl, ⟨fun _ => Iff.rfl, ws, e1, e2⟩, fun b hb => by rw [hb]; exact ⟨st.dom Dl (.of hD), n1, n2⟩⟩ q
/-- one turn; K: what is wanted of the item (if any) and of the slots behind it -/
def TurnG (X : Cx) (av : List V) (scope : Scope) (vs : List Nat) (tg elt : Expr) (ifs : List Expr) (d : D) (ρ : Ev) (K : Option D → Ev → Prop) : Prop :=
  ∀ Y, Blk X scope Y → GC Y av vs tg d (wipeR ρ vs) fun ρ2 => ∀ Y, Blk X scope Y → IX Y av ifs ρ2 fun b ρ3 => (b = true → ∀ Y, Blk X scope Y → ED Y av elt ρ3 fun y ρ4 => K (some y) (rstR vs ρ ρ4)) ∧ (b = false → K none (rstR vs ρ ρ3))
/-- a list that nobody owns is written -/
theorem Rep.wr {K : PySem.W.Frag} {Hs : Gh} {H : Hp} {ρ : Ev} {σ : St} (r : Rep K av Hs H ρ σ) {Dl : Addr} {ws : List V} {x : List V} (n1 : Hs.st Dl = none) (n2 : ¬ Hs.ow Dl) (e1 : H Dl = some (.lst ws)) (hd : Fre OG.h0 Dl) : Rep K av Hs (upd H Dl (.lst x)) ρ σ := by
  have kp : ∀ b u, b ≠ Dl → H b = some u → upd H Dl (.lst x) b = some u := fun b u n z => by
    rw [upd_ne n]
    exact z
  refine ⟨fun b u q => kp b u (fun z => by rw [z, n1] at q; cases q) (r.same b u q), r.len, fun i s q => ?_, r.out, r.dis, r.fre, tabs_upd r.tab fun b u z n => kp b u (fun y => by
    rw [y, e1] at z
    cases z
    exact n noL) z, r.nt, ⟨r.org.st, r.org.nw, fun b u z n nt => ?_, r.org.own, fun b z => ?_⟩⟩
  · have z := r.sl i s q
    cases s with
    | un => trivial
    | pd d => exact z
    | ow t o =>
      obtain ⟨b, z1, z2, z3⟩ := z
      exact ⟨b, z1, z2.mono (Same.refl _) fun c hc u hu _ => kp c u (fun y => n2 ⟨i, by rw [← y]; exact hc⟩) hu, z3⟩
  · have nb : b ≠ Dl := fun y => by
      rw [y] at z
      exact hd.no z nt
    exact kp b u nb (r.org.keep b u z n nt)
  · by_cases hb : b = Dl
    · rw [hb]
      exact hd
    · exact r.org.dom b fun o e => z o (by rw [upd_ne hb]; exact e)
theorem turn_lg {vs : List Nat} {Hs1 : Gh} {H1 H : Hp} {ρ1 : Ev} {σ : St} {Dl : Addr} {acc : List D} {v : V} {d : D} {K : Option D → Ev → Prop} {Nx : Hp → Prop} (hD : H1 Dl = none) (hO : Fre OG.h0 Dl) {Hs : Gh} {ws : List V}
    (s1 : Step Hs1 H1 Hs H) (r1 : Rep X.K av Hs H ρ σ) (n1 : Hs.st Dl = none) (n2 : ¬ Hs.ow Dl) (e1 : H Dl = some (.lst ws)) (e2 : RpAll X.K Hs.st ws acc) (hl : ρ.length = ρ1.length) (hv : Rp X.K Hs.st v d) (hz : acc.length < 100000) (h : TurnG X av scope vs tg elt ifs d ρ K)
    (hN : ∀ r ρ' H', K r ρ' → LgI X av Hs1 H1 ρ1 σ Dl (acc ++ r.toList) ρ' H' → Nx H') :
    gA X scope tg v (L2.wipe σ vs) H fun σ2 H2 => L2.wipe σ2 vs = L2.wipe σ vs ∧ iA X scope ifs σ2 H2 fun b H3 => if b = true then eA X scope elt σ2 H3 fun y H4 => ∃ acc, H4 Dl = some (.lst acc) ∧ acc.length < sizeLine ∧ Nx (upd H4 Dl (.lst (acc ++ [y]))) else Nx H3 := by
  intro Y hY
  have hYK : Y.K = X.K := by
    obtain ⟨_, _, _, _, _, rfl⟩ := hY
    rfl
  have g := h Y hY
  unfold GC at g
  rw [hYK] at g
  obtain ⟨rw, sw⟩ := r1.wipe vs
  refine g _ H _ v _ rw hv fun σ2 ρ2 Hs2 e2s s2 r2 w2 k2 q2 => ⟨w2.trans wipe_wipe, fun Z hZ => ?_⟩
  have hZK : Z.K = X.K := by
    obtain ⟨_, _, _, _, _, rfl⟩ := hZ
    rfl
  have g2 := q2 Z hZ
  unfold IX KT at g2
  rw [hZK] at g2
  have sw2 : Step Hs H Hs2 H := sw.trans s2
  have kk : ∀ i, i ∉ vs → σ2[i]? = σ[i]? := fun i hi => by rw [(k2 i hi).2, wipe_at hi]
  have ll : σ2.length = ρ.length := by
    have z := congrArg List.length w2
    rw [L2.wipe_length, L2.wipe_length, L2.wipe_length] at z
    rw [z, r1.len]
  have dl : ∀ {Hs' : Gh} {H' : Hp}, Step Hs2 H Hs' H' → Hs'.st Dl = none ∧ H' Dl = some (.lst ws) ∧ ¬ Hs'.ow Dl := fun {Hs' H'} s' => by
    have s3 := sw2.trans s'
    refine ⟨?_, s3.keep Dl _ e1 n2 noL.1, fun z => ?_⟩
    · cases e : Hs'.st Dl with
      | none => rfl
      | some y =>
        rcases s3.nw Dl y e with y | y | y
        · rw [n1] at y
          cases y
        · exact (y.no e1 noL.1).elim
        · exact (n2 y).elim
    · rcases s3.own Dl z with y | y
      · exact n2 y
      · exact y.no e1 noL.1
  refine g2 Hs2 H σ2 _ r2 fun b ρ3 Hs3 H3 s3 r3 ⟨qt, qf⟩ => ?_
  have e3 : ρ3.length = ρ.length := r3.len.trans ll
  cases b with
  | false =>
    obtain ⟨G3, eG, oG, s4, r4⟩ := rst_back (vs := vs) r1 sw2 kk e3 s3 r3
    obtain ⟨d1, d2, d3⟩ := dl s3
    exact hN none _ H3 (qf rfl) ⟨G3, ws, s1.trans s4, r4, by rw [eG]; exact d1, fun z => d3 (oG _ z), d2, by simpa using RpAll.mono s4.st _ _ e2, by rw [rstR_len, e3, hl]⟩
  | true =>
    intro W hW
    have hWK : W.K = X.K := by
      obtain ⟨_, _, _, _, _, rfl⟩ := hW
      rfl
    have r3W : Rep W.K av Hs3 H3 ρ3 σ2 := by
      rw [hWK]
      exact r3
    refine (qt rfl W hW).run r3W fun y dy ρ4 Hs4 H4 s4 r4 rp ef => ?_
    rw [hWK] at r4 rp
    have e4 : ρ4.length = ρ.length := r4.len.trans ll
    obtain ⟨G5, eG, oG, s5, r5⟩ := rst_back (vs := vs) r1 sw2 kk e4 (s3.trans s4) r4
    obtain ⟨d1, d2, d3⟩ := dl (s3.trans s4)
    have d1 : G5.st Dl = none := by rw [eG]; exact d1
    have n5 : ¬ G5.ow Dl := fun z => d3 (oG _ z)
    refine ⟨ws, d2, Nat.lt_of_lt_of_le (by rw [e2.length]; exact hz) (by decide : 100000 ≤ sizeLine), hN (some dy) _ _ ef ⟨G5, ws ++ [y], ?_, r5.wr d1 n5 d2 hO, d1, n5, upd_same, ?_, by rw [rstR_len, e4, hl]⟩⟩
    · have s6 := s1.trans s5
      refine ⟨⟨s6.st, s6.nw, fun b u q n nt => ?_, s6.own, fun b q => ?_⟩⟩
      · have nb : b ≠ Dl := ne_of_none q hD
        rw [upd_ne nb]
        exact s6.keep b u q n nt
      · by_cases hb : b = Dl
        · rw [hb]
          exact .of hD
        · exact s6.dom b fun o e => q o (by rw [upd_ne hb]; exact e)
    · have ha := (RpAll.mono s5.st _ _ e2).append (.cons (by rw [eG]; exact rp) .nil)
      simpa using ha
theorem lc_run {wi : TI} {vs : List Nat} {Q : Sl → Ev → Prop} (h : ∀ (Hs : Gh) (H : Hp) (σ : St) (R : It → Hp → Prop), Rep X.K av Hs H ρ σ →
    (∀ (J : It) (ds : List D) (ρ' : Ev) (Hs' : Gh) (H' : Hp), Step Hs H Hs' H' → Rep X.K av Hs' H' ρ' σ → Yl X.K J ds Hs'.st → (ds.length ≤ 100000 ∧ lcW (TurnG X av scope vs tg elt ifs) ds [] ρ' fun acc ρ2 => Q (.ow none (.lst acc)) ρ2) → R J H') → wi σ H R)
    (Hs : Gh) (H : Hp) (σ : St) (R : VK) (r : Rep X.K av Hs H ρ σ) (k : KE X av ρ Hs H σ Q R) : tLc wi (gA X scope tg) (iA X scope ifs) (eA X scope elt) vs σ H R := by
  refine h Hs H σ _ r fun J ds ρ1 Hs1 H1 st r1 yl ⟨hz, q⟩ => fun Dl hD => ?_
  have hO := r1.org.dom Dl (.of hD)
  refine ⟨fun i m H' => m = ds.length - i ∧ i ≤ ds.length ∧ ∃ acc ρ', acc.length ≤ i ∧ LgI X av Hs1 H1 ρ1 σ Dl acc ρ' H' ∧ lcW (TurnG X av scope vs tg elt ifs) (ds.drop i) acc ρ' fun acc ρ2 => Q (.ow none (.lst acc)) ρ2, ⟨_, rfl, Nat.zero_le _, [], ρ1, Nat.zero_le _, LgI.start r1 hD, q⟩, ?_⟩
  rintro i m H' ⟨rfl, hi, acc, ρ', ha, I, w⟩
  obtain ⟨Hs', ws, s1, r1', n1, n2, e1, e2, hl⟩ := I.ex
  by_cases hlt : i < ds.length
  · refine .inr ⟨yl.go i H' Hs'.st hlt s1.st r1'.same, fun H2 => i + 1 ≤ ds.length ∧ ∃ acc ρ', acc.length ≤ i + 1 ∧ LgI X av Hs1 H1 ρ1 σ Dl acc ρ' H2 ∧ lcW (TurnG X av scope vs tg elt ifs) (ds.drop (i + 1)) acc ρ' fun acc ρ2 => Q (.ow none (.lst acc)) ρ2, fun H2 ⟨z, q⟩ => ⟨ds.length - (i + 1), by omega, rfl, z, q⟩, fun x H2 y => ?_⟩
    obtain ⟨Hs2, d, g, hd, rd⟩ := yl.yld i H' Hs'.st H2 x hlt s1.st r1'.same y
    rw [drop_at hd] at w
    have w2 : TurnG X av scope vs tg elt ifs d ρ' fun r ρ2 => lcW (TurnG X av scope vs tg elt ifs) (ds.drop (i + 1)) (acc ++ r.toList) ρ2 fun acc ρ2 => Q (.ow none (.lst acc)) ρ2 := w
    have nD : Hs2 Dl = none := by
      cases e : Hs2 Dl with
      | none => rfl
      | some o =>
        rcases g.nw Dl o e with z | z
        · rw [n1] at z
          cases z
        · rw [e1] at z
          cases z
    exact turn_lg (acc := acc) hD hO (s1.trans g.step) (r1'.grow g) nD n2 (g.hh _ _ e1) (RpAll.mono g.st _ _ e2) hl rd (by omega) w2 fun r ρ2 H3 q I3 => ⟨hlt, acc ++ r.toList, ρ2, by
      rw [List.length_append]
      cases r <;> simp <;> omega, I3, q⟩
  · have e : i = ds.length := by omega
    subst e
    refine .inl ⟨yl.stop H' Hs'.st s1.st r1'.same, ?_⟩
    rw [List.drop_length] at w
    exact I.done hD k st w
theorem ex_lcG (own : List (Str × Nat)) {Q : Sl → Ev → Prop} {pos : Pos} (hN : X.N.Nodup) (ok : BlkOk X.N X.env.scope scope own) (hc : X.calm = true) (h : IXI X av tg iter ρ fun ds ρ1 => ds.length ≤ 100000 ∧ lcW (TurnG X av scope (own.map (·.2)) tg elt ifs) ds [] ρ1 fun acc ρ2 => Q (.ow none (.lst acc)) ρ2) :
    EX X av (.ListComp elt [⟨tg, iter, ifs, 0⟩] scope pos) ρ Q := by
  obtain ⟨hs, wi, hi, h⟩ := h
  exact ex_of (pe_lc hc hN hi ok pi_uni pif_uni pel_uni hs) fun Hs H σ R r k => lc_run h Hs H σ R r k
theorem lx_lcG (own : List (Str × Nat)) {Q : Sl → Ev → Prop} {pos : Pos} (hN : X.N.Nodup) (ok : BlkOk X.N X.env.scope scope own) (hc : X.calm = true) (h : IXI X av tg iter ρ fun ds ρ1 => ds.length ≤ 100000 ∧ lcW (TurnG X av scope (own.map (·.2)) tg elt ifs) ds [] ρ1 fun acc ρ2 => Q (.ow none (.lst acc)) ρ2) :
    LX X av (.ListComp elt [⟨tg, iter, ifs, 0⟩] scope pos) ρ Q := by
  obtain ⟨hs, wi, hi, h⟩ := h
  exact lx_of (fun i y py spos h1 h2 h3 => ps_setLc hc hN h1 h2 h3 hi ok pi_uni pif_uni pel_uni hs) fun Hs H σ R r k => lc_run h Hs H σ R r k
end
end DW

set_option Elab.async false
set_option autoImplicit false
set_option linter.all false
set_option maxRecDepth 100000
/-! DW20: max(.., default=d); in and not in -/
namespace DW
open PySem PySem.Spec L2
open PyProof.Rows hiding St
def rMaxK (K : PySem.W.Frag) : List V → List V → Hp → VK → Prop := fun vs zs H Q => ∃ (a : Addr) (ns : List Int) (d : Int), vs = [V.ref a] ∧ zs = [V.int d] ∧ SqL K H a (ns.map V.int) ∧ Q (.int (imaxd ns d)) H
theorem reads_ints {h : Heap} : ∀ {ns : List Int} {us : List Value}, Vals (ns.map V.int) us → ReadsAll h us (ns.map PyData.int) []
  | [], _, v => by cases v; exact .nil
  | n :: ns, _, v => by
    cases v with
    | cons r rv =>
      obtain ⟨t, rfl⟩ := r
      exact .cons (as := []) (bs := []) (.int n t) (reads_ints rv)
theorem alike_ints (ns : List Int) : PySem.W.AlikeAll (ns.map PyData.int) := by
  refine ⟨?_, ?_⟩
  · intro x hx y hy
    obtain ⟨i, _, rfl⟩ := List.mem_map.mp hx
    obtain ⟨j, _, rfl⟩ := List.mem_map.mp hy
    rfl
  · intro x hx
    obtain ⟨i, _, rfl⟩ := List.mem_map.mp hx
    simp
theorem depth_ints : ∀ ns : List Int, PyData.depthAll (ns.map PyData.int) ≤ 1
  | [] => by simp [PyData.depthAll]
  | n :: ns => by
    have := depth_ints ns
    simp only [List.map_cons, PyData.depthAll, PyData.depth]
    omega
theorem foldl_max : ∀ (ns : List Int) (n : Int), ns.foldl max n = imax (n :: ns)
  | [], n => rfl
  | m :: ns, n => by
    have h1 := foldl_max ns (max n m)
    simp only [List.foldl_cons]
    rw [h1]
    cases ns with
    | nil => rfl
    | cons k r =>
      show max (max n m) (imax (k :: r)) = max n (max m (imax (k :: r)))
      omega
theorem cr_maxK {X : Cx} (hc : X.calm = true) (hu : X.A.units + 64 < cLine) : CallRK X (.builtin "max") ["default"] (rMaxK X.K) := by
  intro pins s σ H xs zs us ws Q I r rz h
  obtain ⟨a, ns, d, rfl, rfl, hs, q⟩ := h
  obtain ⟨its, rv, hl, _⟩ := I.list hs
  rw [Vals.ref1 r]
  cases rz with
  | cons rz1 rz2 =>
    cases rz2
    obtain ⟨t, rfl⟩ := rz1
    have hd := depth_ints ns
    refine PySem.W.max_list_default (xs := ns.map .int) (as := []) (I.ok.hd hc) hl.isList (by rw [show its.toArray.toList = its by simp]; exact reads_ints rv) (alike_ints ns) (by omega) (fun h0 h' tk hk => ?_) (fun y ys i v h' tk bs e hv hr hk => ?_)
    · have e : ns = [] := by simpa using h0
      subst e
      exact ⟨.int _, H, I.kept hk, ⟨_, rfl⟩, q⟩
    · cases ns with
      | nil => cases e
      | cons n ns =>
        cases e
        rw [PySem.W.maxD_ints] at hr
        cases hr
        refine ⟨.int _, H, I.kept hk, ⟨_, rfl⟩, ?_⟩
        rw [foldl_max]
        exact q
section
variable [CF : Cfg] [OG : Org]
variable {X : Cx} {av : List V} {ρ : Ev} {a b : Expr}
theorem ex_maxd {Q : Sl → Ev → Prop} {p pos kp : Pos} (hm : X.mg "max" = none) (hg : Gl X "max") (hc : X.calm = true) (hu : X.A.units + 64 < cLine)
    (h : ED X av a ρ fun x ρ1 => ED X av b ρ1 fun y ρ2 => ∃ (ns : List Int) (d : Int), x = .list (ns.map .int) ∧ y = .int d ∧ Q (.pd (.int (imaxd ns d))) ρ2) (he : starEach [a] X.env = [(false, eval a X.env)]) :
    EX X av (.Call (.Name "max" p) [a] [⟨some "default", b, kp⟩] pos) ρ Q :=
  ex_of (pe_callBK (ks := ["default"]) (cr_maxK hc hu) hg hm (by decide +kernel) (pa_cons pe_s pa_nil he) (pk_cons pe_s pk_nil) (by decide) (by decide) (by rw [he]; rfl) (by rw [he]; rfl) rfl rfl rfl) fun Hs H σ R r k => h.run r fun vx x ρ1 Hs1 H1 st1 r1 px q1 => q1.run r1 fun vy y ρ2 Hs2 H2 st2 r2 py ⟨ns, d, e1, e2, q⟩ => by
    subst e1 e2
    cases py
    have px2 := Rp.mono st2.st _ _ px
    cases px2 with
    | lst h1 h2 =>
      rw [h2.ints] at h1
      exact ⟨_, ns, d, rfl, rfl, .inl (.inl (r2.same _ _ h1)), (k.ret (st1.trans st2) r2 q).val r2.same (.int _)⟩
end
/-! ### in -/
section
variable [CF : Cfg] [OG : Org]
variable {X : Cx}
def rInTD (K : PySem.W.Frag) : R2 := fun x y H Q => ∃ d ds, Dp K H x d ∧ Dp K H y (.tuple ds) ∧ SeqAt.shaped d = true ∧ SeqAt.shaped (.tuple ds) = true ∧ Q (.bl (ds.any fun z => PyData.eqv z d)) H
def rNotInTD (K : PySem.W.Frag) : R2 := fun x y H Q => ∃ d ds, Dp K H x d ∧ Dp K H y (.tuple ds) ∧ SeqAt.shaped d = true ∧ SeqAt.shaped (.tuple ds) = true ∧ Q (.bl (!ds.any fun z => PyData.eqv z d)) H
theorem op_inTD (hu : X.A.units + 65 < cLine) : OpR X (compareOp .In) (rInTD X.K) := by
  intro pins s σ H x y v u Q I rx ry h
  obtain ⟨d, ds, hd, he, sd, se, q⟩ := h
  obtain ⟨as, r1⟩ := Dp.reads I d x v hd rx
  obtain ⟨bs, r2⟩ := Dp.reads I (.tuple ds) y u he ry
  exact SeqAt.in_tuple_reads r2 r1 (SeqAt.canLay_of_shaped se) (SeqAt.canLay_of_shaped sd) (room_in_shaped sd hu) ⟨.bl _, H, I, rfl, q⟩
theorem op_notInTD (hu : X.A.units + 65 < cLine) : OpR X (compareOp .NotIn) (rNotInTD X.K) := by
  intro pins s σ H x y v u Q I rx ry h
  obtain ⟨d, ds, hd, he, sd, se, q⟩ := h
  obtain ⟨as, r1⟩ := Dp.reads I d x v hd rx
  obtain ⟨bs, r2⟩ := Dp.reads I (.tuple ds) y u he ry
  exact SeqAt.notIn_tuple_reads r2 r1 (SeqAt.canLay_of_shaped se) (SeqAt.canLay_of_shaped sd) (room_in_shaped sd hu) ⟨.bl _, H, I, rfl, q⟩
theorem b2_inL {d : D} {ds : List D} (hu : X.A.units + 65 < cLine) (h1 : SeqAt.shaped d = true) (h2 : SeqAt.shaped (.list ds) = true) : B2 X (compareOp .In) d (.list ds) (.pd (.bool (ds.any fun z => PyData.eqv z d))) := fun Hs H vx vy R hs px py k =>
  sO.of (op_inD hu) ⟨d, ds, Rp.dp d _ (SeqAt.canLay_of_shaped h1) (Rp.mono hs _ _ px), Rp.dp _ _ (SeqAt.canLay_of_shaped h2) (Rp.mono hs _ _ py), h1, h2, k.val hs (.bl _)⟩
theorem b2_ninL {d : D} {ds : List D} (hu : X.A.units + 65 < cLine) (h1 : SeqAt.shaped d = true) (h2 : SeqAt.shaped (.list ds) = true) : B2 X (compareOp .NotIn) d (.list ds) (.pd (.bool (!ds.any fun z => PyData.eqv z d))) := fun Hs H vx vy R hs px py k =>
  sO.of (op_notInD hu) ⟨d, ds, Rp.dp d _ (SeqAt.canLay_of_shaped h1) (Rp.mono hs _ _ px), Rp.dp _ _ (SeqAt.canLay_of_shaped h2) (Rp.mono hs _ _ py), h1, h2, k.val hs (.bl _)⟩
theorem b2_inT {d : D} {ds : List D} (hu : X.A.units + 65 < cLine) (h1 : SeqAt.shaped d = true) (h2 : SeqAt.shaped (.tuple ds) = true) : B2 X (compareOp .In) d (.tuple ds) (.pd (.bool (ds.any fun z => PyData.eqv z d))) := fun Hs H vx vy R hs px py k =>
  sO.of (op_inTD hu) ⟨d, ds, Rp.dp d _ (SeqAt.canLay_of_shaped h1) (Rp.mono hs _ _ px), Rp.dp _ _ (SeqAt.canLay_of_shaped h2) (Rp.mono hs _ _ py), h1, h2, k.val hs (.bl _)⟩
theorem b2_ninT {d : D} {ds : List D} (hu : X.A.units + 65 < cLine) (h1 : SeqAt.shaped d = true) (h2 : SeqAt.shaped (.tuple ds) = true) : B2 X (compareOp .NotIn) d (.tuple ds) (.pd (.bool (!ds.any fun z => PyData.eqv z d))) := fun Hs H vx vy R hs px py k =>
  sO.of (op_notInTD hu) ⟨d, ds, Rp.dp d _ (SeqAt.canLay_of_shaped h1) (Rp.mono hs _ _ px), Rp.dp _ _ (SeqAt.canLay_of_shaped h2) (Rp.mono hs _ _ py), h1, h2, k.val hs (.bl _)⟩
end
/-! ### zip -/
section
variable [CF : Cfg] [OG : Org]
variable {X : Cx} {av : List V} {ρ : Ev} {a b tg : Expr} {Q : List D → Ev → Prop}
theorem zipD_at {xs ys : List D} {i : Nat} {x y : D} (h1 : xs[i]? = some x) (h2 : ys[i]? = some y) : (zipD xs ys)[i]? = some (.tuple [x, y]) := by
  unfold zipD
  rw [List.getElem?_zipWith, h1, h2]
theorem yl_zipL {K : PySem.W.Frag} {Hs : Hp} {a b : Addr} {vs ws : List V} {ds es : List D} (h1 : Hs a = some (.lst vs)) (h2 : RpAll K Hs vs ds) (g1 : Hs b = some (.lst ws)) (g2 : RpAll K Hs ws es) : Yl K (Itz K a b) (zipD ds es) Hs := by
  have hl : (zipD ds es).length = min ds.length es.length := by simp [zipD]
  have l1 := h2.length
  have l2 := g2.length
  refine ⟨fun i H Hs hi e1 e2 => ?_, fun H Hs e1 e2 => ?_, fun i H Hs H' x hi e1 e2 y => ?_⟩
  · have hi1 : i < vs.length := by omega
    have hi2 : i < ws.length := by omega
    exact ⟨vs, ws, vs[i], ws[i], .inl (.inl (e2 _ _ (e1 _ _ h1))), .inl (.inl (e2 _ _ (e1 _ _ g1))), by simp [hi1], by simp [hi2]⟩
  · exact ⟨vs, ws, .inl (.inl (e2 _ _ (e1 _ _ h1))), .inl (.inl (e2 _ _ (e1 _ _ g1))), by omega⟩
  · obtain ⟨p, x0, y0, rfl, np, rfl, y1, y2⟩ := y
    obtain ⟨d, hd, rd⟩ := h2.getV (y1 vs (.inl (.inl (e2 _ _ (e1 _ _ h1)))))
    obtain ⟨f, hf, rf⟩ := g2.getV (y2 ws (.inl (.inl (e2 _ _ (e1 _ _ g1)))))
    have g := Grow.new e2 (.tup [x0, y0]) np
    exact ⟨_, .tuple [d, f], g, zipD_at hd hf, .tup upd_same (.cons (Rp.mono (e1.trans g.st) _ _ rd) (.cons (Rp.mono (e1.trans g.st) _ _ rf) .nil))⟩
theorem yl_zipT {K : PySem.W.Frag} {Hs : Hp} {a b : Addr} {vs ws : List V} {ds es : List D} (h1 : Hs a = some (.tup vs)) (h2 : RpAll K Hs vs ds) (g1 : Hs b = some (.tup ws)) (g2 : RpAll K Hs ws es) : Yl K (RZ.ItzT K a b) (zipD ds es) Hs := by
  have hl : (zipD ds es).length = min ds.length es.length := by simp [zipD]
  have l1 := h2.length
  have l2 := g2.length
  refine ⟨fun i H Hs hi e1 e2 => ?_, fun H Hs e1 e2 => ?_, fun i H Hs H' x hi e1 e2 y => ?_⟩
  · have hi1 : i < vs.length := by omega
    have hi2 : i < ws.length := by omega
    exact ⟨vs, ws, vs[i], ws[i], .inl (.inl (e2 _ _ (e1 _ _ h1))), .inl (.inl (e2 _ _ (e1 _ _ g1))), by simp [hi1], by simp [hi2]⟩
  · exact ⟨vs, ws, .inl (.inl (e2 _ _ (e1 _ _ h1))), .inl (.inl (e2 _ _ (e1 _ _ g1))), by omega⟩
  · obtain ⟨p, x0, y0, rfl, np, rfl, y1, y2⟩ := y
    obtain ⟨d, hd, rd⟩ := h2.getV (y1 vs (.inl (.inl (e2 _ _ (e1 _ _ h1)))))
    obtain ⟨f, hf, rf⟩ := g2.getV (y2 ws (.inl (.inl (e2 _ _ (e1 _ _ g1)))))
    have g := Grow.new e2 (.tup [x0, y0]) np
    exact ⟨_, .tuple [d, f], g, zipD_at hd hf, .tup upd_same (.cons (Rp.mono (e1.trans g.st) _ _ rd) (.cons (Rp.mono (e1.trans g.st) _ _ rf) .nil))⟩
theorem ixi_zip {p pos pt : Pos} {ts : List Expr} {kt : Nat} (hg : Gl X "zip") (hm : X.mg "zip" = none) (h : ED X av a ρ fun x ρ1 => ED X av b ρ1 fun y ρ2 => match x, y with
    | .list xs, .list ys => Q (zipD xs ys) ρ2
    | .tuple xs, .tuple ys => Q (zipD xs ys) ρ2
    | _, _ => False) (he : starEach [a, b] X.env = [(false, eval a X.env), (false, eval b X.env)]) (he2 : starEach [b] X.env = [(false, eval b X.env)]) : IXI X av (.Tuple ts kt pt) (.Call (.Name "zip" p) [a, b] [] pos) ρ Q :=
  ⟨fun _ => rfl, _, RZ.pi_zipA hg hm (pa_cons pe_s (pa_cons pe_s pa_nil he2) (by rw [he, he2])) (by rw [he, he2]) (by rw [he2]; rfl), fun Hs H σ R r k => two_run (α := Unit) h r fun vx vy x y ρ1 Hs1 H1 st r1 px py q => by
    cases px with
    | @lst a1 vs ds h1 h2 =>
      cases py with
      | @lst b1 ws es g1 g2 => exact ⟨a1, b1, vs, ws, rfl, .inl ⟨.inl (.inl (r1.same _ _ h1)), .inl (.inl (r1.same _ _ g1)), k _ _ ρ1 Hs1 H1 st r1 (yl_zipL h1 h2 g1 g2) q⟩⟩
      | _ => exact q.elim
    | @tup a1 vs ds h1 h2 =>
      cases py with
      | @tup b1 ws es g1 g2 => exact ⟨a1, b1, vs, ws, rfl, .inr ⟨.inl (.inl (r1.same _ _ h1)), .inl (.inl (r1.same _ _ g1)), k _ _ ρ1 Hs1 H1 st r1 (yl_zipT h1 h2 g1 g2) q⟩⟩
      | _ => exact q.elim
    | _ => exact q.elim⟩
end
end DW

set_option Elab.async false
set_option autoImplicit false
set_option linter.all false
set_option maxRecDepth 100000
/-! DW21: t[::-1] of a tuple; a chain of three comparisons; gcd -/
namespace DW
open PySem PySem.Spec L2
open PyProof.Rows hiding St
section
variable {prog : Program} {w : World} {A : Around} {E : Value → Shared → Prop} {s : Shared}
theorem adjust_back (n : Nat) : Builtin.Slice.sliceAdjust none none (-1) (n : Int) = ((n : Int) - 1, -1) := by
  unfold Builtin.Slice.sliceAdjust
  simp
theorem places_back (n : Nat) : Builtin.Slice.slicePlaces ((n : Int) - 1) (-1) (-1) = n := by
  unfold Builtin.Slice.slicePlaces
  have h1 : ¬ ((-1 : Int) > 0) := by decide
  simp only [h1, if_false]
  by_cases h : (n : Int) - 1 > -1
  · rw [if_pos h, show (- -1 : Int) = 1 from by decide, Int.ediv_one]
    omega
  · rw [if_neg h]
    omega
theorem sliceApplied_back {sl : Addr} {vs : Value} {n : Nat} {Q : Int × Int × Nat → Shared → Prop} (hs : s.heap.IsSliceOf sl .none .none vs) (ps : IsPart vs (some (-1))) (h : Q ((n : Int) - 1, -1, n) s) :
    wpAny (model prog w) A (Builtin.Slice.sliceApplied (.ref sl) (pure (n : Int))) Q E s := by
  obtain ⟨os, hos, hcs, hds⟩ := id hs
  unfold Builtin.Slice.sliceApplied Builtin.Slice.sliceFields
  refine wpAny_bind (wpAny_bind (wpAny_field hos hds (x := .none) rfl (wpAny_bind (wpAny_field hos hds (x := .none) rfl (wpAny_bind (wpAny_field hos hds (x := vs) rfl (wpAny_pure ?_)))))))
  refine wpAny_bind (HT.slicePart_ ps ?_)
  show wpAny _ _ (if ((-1 : Int) == 0) = true then _ else _) _ _ s
  rw [if_neg (by decide)]
  refine wpAny_bind (HT.slicePart_ (o := none) .none (wpAny_bind (HT.slicePart_ (o := none) .none (wpAny_bind (wpAny_pure ?_)))))
  show wpAny _ _ (match Builtin.Slice.sliceAdjust none none (-1) (n : Int) with | (lo, hi) => pure (lo, (-1 : Int), Builtin.Slice.slicePlaces lo hi (-1))) _ _ s
  rw [adjust_back n]
  show wpAny _ _ (pure ((n : Int) - 1, (-1 : Int), Builtin.Slice.slicePlaces ((n : Int) - 1) (-1) (-1))) _ _ s
  rw [places_back]
  exact wpAny_pure h
theorem fm_some {α β : Type} {f : α → Option β} {g : α → β} : ∀ {l : List α}, (∀ x ∈ l, f x = some (g x)) → l.filterMap f = l.map g
  | [], _ => rfl
  | a :: r, h => by rw [List.filterMap_cons, h a List.mem_cons_self, List.map_cons, fm_some fun x hx => h x (List.mem_cons_of_mem _ hx)]
theorem pick_back (xs : Array Value) : ((List.range xs.size).filterMap fun (k : Nat) => xs[((xs.size : Int) - 1 + (k : Int) * (-1)).toNat]?).toArray = xs.toList.reverse.toArray := by
  congr 1
  apply List.ext_getElem?
  intro i
  have e : (List.range xs.size).filterMap (fun (k : Nat) => xs[((xs.size : Int) - 1 + (k : Int) * (-1)).toNat]?) = (List.range xs.size).map fun k => xs.toList.reverse.getD k .none := by
    refine fm_some fun k hk => ?_
    have hk2 := List.mem_range.mp hk
    have h1 : ((xs.size : Int) - 1 + (k : Int) * (-1)).toNat = xs.size - 1 - k := by omega
    rw [h1]
    have h2 : xs.size - 1 - k < xs.size := by omega
    rw [Array.getElem?_eq_getElem h2]
    simp only [Function.comp_apply, List.getD_eq_getElem?_getD, Option.some.injEq]
    rw [List.getElem?_reverse (by simpa using hk2)]
    simp only [Array.length_toList, Array.getElem?_toList]
    rw [Array.getElem?_eq_getElem h2]
    rfl
  rw [e]
  by_cases hi : i < xs.size
  · rw [List.getElem?_map, List.getElem?_range hi]
    simp [List.getD_eq_getElem?_getD, hi]
  · rw [List.getElem?_eq_none (by simp; omega), List.getElem?_eq_none (by simp; omega)]
theorem getItem_tuple_back {t sl : Addr} {items : Array Value} {vs : Value} {Q : Value → Shared → Prop} (ht : IsTup s.heap t items) (hs : s.heap.IsSliceOf sl .none .none vs) (ps : IsPart vs (some (-1)))
    (h : Q (.ref s.heap.objs.size) { s with heap := s.heap.push { cls := .type "tuple", data := .seq items.toList.reverse.toArray } })
    (hsz : items.size ≤ sizeLine) : wpAny (model prog w) A (getItem (.ref t) (.ref sl)) Q E s := by
  have htake : sizeOk (.seq items.toList.reverse.toArray) := by
    show items.toList.reverse.toArray.size ≤ sizeLine
    rw [List.size_toArray, List.length_reverse, Array.length_toList]
    exact hsz
  obtain ⟨os, hos, hcs, hds⟩ := id hs
  have hTs : s.TypeIs (.ref sl) "slice" := ⟨os, hos, hcs⟩
  unfold getItem
  try with_reducible refine wpAny_holding ?_
  first | refine wpAny_bind (wpAny_pure ?_) | skip
  refine wpAny_bind (wpAny_sequenceKey ht.typeIs (by decide) ?_)
  refine wpAny_bind (wpAny_callSpecial?_slot (name := Str.ofString "__getitem__") ht.typeIs PyProof.Rows.slot_tuple_getitem
    (wpAny_call_entry PyProof.Rows.slot_tuple_getitem ht.typeIs entry_tuple_getitem ?_ (args_tuple_getitem _ _)))
  show wpAny _ _ (Builtin.Tuple.tupleItemsOf (.ref t) >>= _) _ _ s
  refine wpAny_bind (tupleItemsOf_ ht ?_)
  refine wpAny_bind (wpAny_typeOf hTs ?_)
  rw [if_pos (by decide)]
  refine wpAny_bind (sliceApplied_back (n := items.size) hs ps ?_)
  have hno : ¬ ((((items.size : Int) - 1) == 0 && (-1 : Int) == 1 && items.size == items.size) = true) := by
    intro q
    rw [Bool.and_eq_true, Bool.and_eq_true] at q
    exact absurd (eq_of_beq q.1.2) (by decide)
  show wpAny _ _ (if (((items.size : Int) - 1) == 0 && (-1 : Int) == 1 && items.size == items.size) = true then _ else _) _ _ s
  rw [if_neg hno, pick_back]
  first
    | exact wpAny_bind (m := Builtin.Tuple.tupleExact _) (wpAny_newObj_type (wpAny_pure ⟨_, rfl, wpAny_pure h⟩) htake)
    | exact wpAny_bind (m := Builtin.Tuple.tupleExact _) (wpAny_newObj_type (wpAny_bind (wpAny_pure (wpAny_pure ⟨_, rfl, wpAny_pure h⟩))) htake)
    | exact wpAny_bind (wpAny_bind (m := Builtin.Tuple.tupleExact _) (wpAny_newObj_type (wpAny_pure (wpAny_pure ⟨_, rfl, wpAny_pure h⟩)) htake))
    | exact wpAny_bind (wpAny_bind (m := Builtin.Tuple.tupleExact _) (wpAny_newObj_type (wpAny_pure ⟨_, rfl, wpAny_pure h⟩) htake))
end
/-- a list or a tuple, turned around -/
def tRevS (K : PySem.W.Frag) (te : TE) : TE := fun σ H Q => te σ H fun x H1 => ∃ a xs, x = .ref a ∧ ((SqL K H1 a xs ∧ ∀ p, H1 p = none → Q (.ref p) (upd H1 p (.lst xs.reverse))) ∨ (SqT K H1 a xs ∧ ∀ p, H1 p = none → Q (.ref p) (upd H1 p (.tup xs.reverse))))
theorem pe_revS {X : Cx} {e : Expr} {te : TE} {k : Nat} {p1 p2 p3 pos : Pos} (he : PE X e te) : PE X (.Subscript e (.Slice none none (some (.UnaryOp .USub (.Constant (.int 1) k p1) p2)) p3) pos) (tRevS X.K te) := by
  refine ⟨fun pins s σ H Q I h => ?_⟩
  refine Subscript_ (thn (he.run pins s σ H _ I h) fun v s1 ⟨x, H1, I1, r1, q1⟩ => ?_)
  obtain ⟨a, xs, ex, q⟩ := q1
  subst ex
  cases r1
  have hst : PO X (some (.UnaryOp .USub (.Constant (.int 1) k p1) p2)) (tPart (tUn (rU fun i => .int (-i)) (tC (.int 1)))) := po_some (pe_un un_neg pe_int)
  refine wpAny_Slice (thn (po_none.run pins s1 σ H1 (fun o H2 => o = none ∧ H2 = H1) I1 ⟨rfl, rfl⟩) fun vl s2 ⟨l, H2, I2, pl, el, e2⟩ => ?_)
  subst el e2
  refine thn (po_none.run pins s2 σ H2 (fun o H3 => o = none ∧ H3 = H2) I2 ⟨rfl, rfl⟩) fun vu s3 ⟨u, H3, I3, pu, eu, e3⟩ => ?_
  subst eu e3
  refine thn (hst.run pins s3 σ H3 (fun o H4 => o = some (-1) ∧ H4 = H3) I3 ⟨1, rfl, -1, rfl, rfl, rfl⟩) fun vs s4 ⟨o, H4, I4, ps, eo, e4⟩ => ?_
  subst eo e4
  have I5 : Inv X pins σ H4 { s4 with heap := s4.heap.push { cls := .type "slice", data := .fields #[vl, vu, vs] } } := I4.kept (t' := s4.toks) fun b ob q => Heap.get?_push_of_some _ q
  show wpAny (model X.prog X.w) X.A (subscriptTail e (.Slice none none (some (.UnaryOp .USub (.Constant (.int 1) k p1) p2)) p3) (.ref a) (.ref s4.heap.objs.size)) (EP X pins σ Q) X.xe { s4 with heap := s4.heap.push { cls := .type "slice", data := .fields #[vl, vu, vs] } }
  rcases q with ⟨hx, q⟩ | ⟨hx, q⟩
  · obtain ⟨its, r, ht, hz⟩ := I5.list hx
    have hlen := r.length
    refine tail_any (ops := [.ref a, .ref s4.heap.objs.size]) ht.isList.typeIs (PySem.slot_list_getitem.lookup) ?_ (by with_unfolding_all rfl)
    refine wpAny_getItem_list_slice ht.isList (Heap.IsSliceOf.new _ vl vu vs) pl pu ps (by decide) ?_ (by rw [List.size_toArray]; omega)
    rw [PySem.W.krv_pick]
    refine ⟨.ref _, _, I5.laid (t' := s4.toks) (o := .lst xs.reverse) (fun b ob q => Heap.get?_push_of_some _ q) (Nat.le_refl _) ?_, rfl, q _ (I5.hok.fresh (Nat.le_refl _))⟩
    exact ⟨by rw [List.length_reverse]; exact hz, _, 0, r.reverse, Heap.get?_push_size _ rfl⟩
  · obtain ⟨its, r, ht, hz⟩ := I5.tuple hx
    have hlen := r.length
    cases pl
    cases pu
    refine tail_any (ops := [.ref a, .ref s4.heap.objs.size]) ht.typeIs (PyProof.Rows.slot_tuple_getitem.lookup) ?_ (by with_unfolding_all rfl)
    refine getItem_tuple_back ht (Heap.IsSliceOf.new _ .none .none vs) ps ?_ (by rw [List.size_toArray]; omega)
    refine ⟨.ref _, _, I5.laid (t' := s4.toks) (o := .tup xs.reverse) (fun b ob q => Heap.get?_push_of_some _ q) (Nat.le_refl _) ?_, rfl, q _ (I5.hok.fresh (Nat.le_refl _))⟩
    exact ⟨by rw [List.length_reverse]; exact hz, _, r.reverse, ⟨_, Heap.get?_push_size _ rfl, rfl, _, rfl⟩⟩
section
variable [CF : Cfg] [OG : Org]
variable {X : Cx} {av : List V} {ρ : Ev} {e a b c d : Expr} {Q : Sl → Ev → Prop} {QT : Bool → Ev → Prop}
theorem ex_revS {k : Nat} {p1 p2 p3 pos : Pos} (h : ED X av e ρ fun x ρ1 => match x with
    | .list ds => Q (.ow none (.lst ds.reverse)) ρ1
    | .tuple ds => Q (.pd (.tuple ds.reverse)) ρ1
    | _ => False) : EX X av (.Subscript e (.Slice none none (some (.UnaryOp .USub (.Constant (.int 1) k p1) p2)) p3) pos) ρ Q :=
  ex_of (pe_revS pe_s) fun Hs H σ R r k => h.run r fun vx x ρ1 Hs1 H1 st1 r1 px q => by
    cases px with
    | @lst a vs _ h1 h2 => exact ⟨a, vs, rfl, .inl ⟨.inl (.inl (r1.same _ _ h1)), (k.ret st1 r1 q).lst r1.same h2.reverse⟩⟩
    | @tup a vs _ h1 h2 => exact ⟨a, vs, rfl, .inr ⟨.inl (.inl (r1.same _ _ h1)), (k.ret st1 r1 q).tup r1.same h2.reverse⟩⟩
    | _ => exact q.elim
end

/-! ### a < b < c < d -/
section
variable {X : Cx} {a b c d : Expr} {ta tb tc td : TE} {pos : Pos}
def tChain3 (r r' r2 : R2) (ta tb tc td : TE) : TE := fun σ H Q => ta σ H fun x H1 => tb σ H1 fun y H2 => r x y H2 fun z H3 => ∃ k, z = .bl k ∧
  (if k = true then tc σ H3 fun w H4 => r' y w H4 fun z H5 => ∃ k, z = .bl k ∧ (if k = true then td σ H5 fun v H6 => r2 w v H6 Q else Q (.bl false) H5) else Q (.bl false) H3)
theorem pe_chain3 {op op' op2 : CmpOp} {r r' r2 : R2} (ho : OpR X (compareOp op) r) (ho' : OpR X (compareOp op') r') (ho2 : OpR X (compareOp op2) r2) (ha : PE X a ta) (hb : PE X b tb) (hc : PE X c tc) (hd : PE X d td)
    (hm : lastMarks [op, op', op2] [b, c, d] = false) : PE X (.Compare a [op, op', op2] [b, c, d] pos) (tChain3 r r' r2 ta tb tc td) := by
  refine ⟨fun pins s σ H Q I h => ?_⟩
  refine Compare_chain (thn (ha.run pins s σ H _ I h) fun v s1 ⟨x, H1, I1, r1, q1⟩ => chain_link (thn (hb.run pins s1 σ H1 _ I1 q1) fun u s2 ⟨y, H2, I2, r2, q2⟩ =>
    thn (ho pins s2 σ H2 x y v u _ I2 r1 r2 q2) fun d s3 ⟨z, H3, I3, r3, k, e, q3⟩ => ?_)) hm
  subst e
  cases r3
  refine wpAny_truthy_bool ?_
  cases k with
  | false => exact ite_ff ⟨.bl false, H3, I3, rfl, q3⟩
  | true =>
    refine ite_tt (chain_link (thn (hc.run pins s3 σ H3 _ I3 q3) fun w' s4 ⟨z', H4, I4, r4, q4⟩ => thn (ho' pins s4 σ H4 y z' u w' _ I4 r2 r4 q4) fun d5 s5 ⟨z5, H5, I5, r5, k5, e5, q5⟩ => ?_))
    subst e5
    cases r5
    refine wpAny_truthy_bool ?_
    cases k5 with
    | false => exact ite_ff ⟨.bl false, H5, I5, rfl, q5⟩
    | true => exact ite_tt (chain_last (thn (hd.run pins s5 σ H5 _ I5 q5) fun w6 s6 ⟨z6, H6, I6, r6, q6⟩ => ho2 pins s6 σ H6 z' z6 w' w6 Q I6 r4 r6 q6))
theorem pt_chain3 {op op' op2 : CmpOp} {r r' r2 : R2} (ho : OpR X (compareOp op) r) (ho' : OpR X (compareOp op') r') (ho2 : OpR X (compareOp op2) r2) (ha : PE X a ta) (hb : PE X b tb) (hc : PE X c tc) (hd : PE X d td)
    (hm : lastMarks [op, op', op2] [b, c, d] = false) : PT X (.Compare a [op, op', op2] [b, c, d] pos) (tTest (tChain3 r r' r2 ta tb tc td)) := by
  refine ⟨fun pins s σ H Q I h => ?_⟩
  refine isTrue_chain (thn (ha.run pins s σ H _ I h) fun v s1 ⟨x, H1, I1, r1, q1⟩ => test_link (thn (hb.run pins s1 σ H1 _ I1 q1) fun u s2 ⟨y, H2, I2, r2, q2⟩ =>
    thn (ho pins s2 σ H2 x y v u _ I2 r1 r2 q2) fun d s3 ⟨z, H3, I3, r3, k, e, q3⟩ => ?_)) hm
  subst e
  cases r3
  refine wpAny_truthy_bool ?_
  cases k with
  | false =>
    obtain ⟨k', e', q'⟩ := q3
    cases e'
    exact ite_ff ⟨H3, I3, q'⟩
  | true =>
    refine ite_tt (test_link (thn (hc.run pins s3 σ H3 _ I3 q3) fun w' s4 ⟨z', H4, I4, r4, q4⟩ => thn (ho' pins s4 σ H4 y z' u w' _ I4 r2 r4 q4) fun d5 s5 ⟨z5, H5, I5, r5, k5, e5, q5⟩ => ?_))
    subst e5
    cases r5
    refine wpAny_truthy_bool ?_
    cases k5 with
    | false =>
      obtain ⟨k', e', q'⟩ := q5
      cases e'
      exact ite_ff ⟨H5, I5, q'⟩
    | true =>
      refine ite_tt (test_last (thn (hd.run pins s5 σ H5 _ I5 q5) fun w6 s6 ⟨z6, H6, I6, r6, q6⟩ => thn (ho2 pins s6 σ H6 z' z6 w' w6 _ I6 r4 r6 q6) fun d7 s7 ⟨z7, H7, I7, r7, k7, e7, q7⟩ => ?_))
      subst e7
      cases r7
      exact wpAny_truthy_bool ⟨H7, I7, q7⟩
variable [CF : Cfg] [OG : Org]
variable {av : List V} {ρ : Ev} {Q : Sl → Ev → Prop} {QT : Bool → Ev → Prop}
theorem ex_chain3 {op op' op2 : CmpOp} (hm : lastMarks [op, op', op2] [b, c, d] = false) (h : ED X av a ρ fun x ρ1 => ED X av b ρ1 fun y ρ2 => ∃ k, B2 X (compareOp op) x y (.pd (.bool k)) ∧ (k = true → ED X av c ρ2 fun z ρ3 => ∃ k, B2 X (compareOp op') y z (.pd (.bool k)) ∧ (k = true → ED X av d ρ3 fun w ρ4 => ∃ s, B2 X (compareOp op2) z w s ∧ Q s ρ4) ∧ (k = false → Q (.pd (.bool false)) ρ3)) ∧ (k = false → Q (.pd (.bool false)) ρ2)) :
    EX X av (.Compare a [op, op', op2] [b, c, d] pos) ρ Q :=
  ex_of (pe_chain3 op_s op_s op_s pe_s pe_s pe_s pe_s hm) fun Hs H σ R r kk => two_run (α := Unit) h r fun vx vy x y ρ2 Hs2 H2 st r2 px py ⟨k, p, q1, q2⟩ => p Hs2.st H2 vx vy _ r2.same px py fun v Hs3 H3 g hv => by
    cases hv
    refine ⟨k, rfl, ?_⟩
    have r3 := r2.grow g
    have st3 := st.trans (g.step)
    cases k with
    | true =>
      refine (q1 rfl).run r3 fun vz z ρ4 Hs4 H4 st4 r4 pz ⟨k, p2, q1, q2⟩ => p2 Hs4.st H4 vy vz _ r4.same (Rp.mono (g.st.trans st4.st) _ _ py) pz fun v Hs5 H5 g5 hv => ?_
      cases hv
      refine ⟨k, rfl, ?_⟩
      have r5 := r4.grow g5
      have st5 := (st3.trans st4).trans (g5.step)
      cases k with
      | true => exact (q1 rfl).run r5 fun vw w ρ6 Hs6 H6 st6 r6 pw ⟨s, p3, q⟩ => p3 Hs6.st H6 vz vw R r6.same (Rp.mono (g5.st.trans st6.st) _ _ pz) pw (kk.ret (st5.trans st6) r6 q)
      | false => exact (kk.ret st5 r5 (q2 rfl)).val r5.same (.bl false)
    | false => exact (kk.ret st3 r3 (q2 rfl)).val r3.same (.bl false)
theorem tx_chain3 {op op' op2 : CmpOp} (hm : lastMarks [op, op', op2] [b, c, d] = false) (h : ED X av a ρ fun x ρ1 => ED X av b ρ1 fun y ρ2 => ∃ k, B2 X (compareOp op) x y (.pd (.bool k)) ∧ (k = true → ED X av c ρ2 fun z ρ3 => ∃ k, B2 X (compareOp op') y z (.pd (.bool k)) ∧ (k = true → ED X av d ρ3 fun w ρ4 => ∃ k, B2 X (compareOp op2) z w (.pd (.bool k)) ∧ QT k ρ4) ∧ (k = false → QT false ρ3)) ∧ (k = false → QT false ρ2)) :
    TX X av (.Compare a [op, op', op2] [b, c, d] pos) ρ QT :=
  tx_of (pt_chain3 op_s op_s op_s pe_s pe_s pe_s pe_s hm) fun Hs H σ R r kk => two_run (α := Unit) h r fun vx vy x y ρ2 Hs2 H2 st r2 px py ⟨k, p, q1, q2⟩ => p Hs2.st H2 vx vy _ r2.same px py fun v Hs3 H3 g hv => by
    cases hv
    refine ⟨k, rfl, ?_⟩
    have r3 := r2.grow g
    have st3 := st.trans (g.step)
    cases k with
    | true =>
      refine (q1 rfl).run r3 fun vz z ρ4 Hs4 H4 st4 r4 pz ⟨k, p2, q1, q2⟩ => p2 Hs4.st H4 vy vz _ r4.same (Rp.mono (g.st.trans st4.st) _ _ py) pz fun v Hs5 H5 g5 hv => ?_
      cases hv
      refine ⟨k, rfl, ?_⟩
      have r5 := r4.grow g5
      have st5 := (st3.trans st4).trans (g5.step)
      cases k with
      | true => exact (q1 rfl).run r5 fun vw w ρ6 Hs6 H6 st6 r6 pw ⟨k2, p3, q⟩ => p3 Hs6.st H6 vz vw _ r6.same (Rp.mono (g5.st.trans st6.st) _ _ pz) pw fun v Hs7 H7 g7 hv => (by
          cases hv
          exact ⟨k2, rfl, kk k2 ρ6 _ H7 ((st5.trans st6).trans g7.step) (r6.grow g7) q⟩)
      | false => exact ⟨false, rfl, kk false ρ4 _ H5 st5 r5 (q2 rfl)⟩
    | false => exact ⟨false, rfl, kk false ρ2 _ H3 st3 r3 (q2 rfl)⟩
end
/-! ### gcd, lcm -/
section
variable [CF : Cfg] [OG : Org]
variable {X : Cx} {av : List V} {ρ : Ev} {a b : Expr} {Q : Sl → Ev → Prop}
def rLcm : List V → Hp → VK → Prop := fun vs H Q => ∃ a b : Int, vs = [.int a, .int b] ∧ a.natAbs < 2 ^ 20 ∧ b.natAbs < 2 ^ 20 ∧ Q (.int ((Nat.lcm a.natAbs b.natAbs : Nat) : Int)) H
theorem lcm_small {a b : Nat} (ha : a < 2 ^ 20) (hb : b < 2 ^ 20) : Nat.lcm a b < 2 ^ 40 := by
  have h1 : Nat.lcm a b ≤ a * b := Nat.div_le_self _ _
  have h2 : a * b ≤ 2 ^ 20 * 2 ^ 20 := Nat.mul_le_mul (Nat.le_of_lt ha) (Nat.le_of_lt hb)
  have h3 : a * b < 2 ^ 40 := by
    rcases Nat.eq_zero_or_pos b with z | z
    · subst z
      omega
    · have := Nat.mul_lt_mul_of_lt_of_le ha (Nat.le_of_lt hb) (by omega)
      omega
  omega
theorem cr_lcm : CallR X (.builtin "math.lcm") rLcm := by
  intro pins s σ H vs us Q I r h
  obtain ⟨a, b, rfl, ha, hb, q⟩ := h
  obtain ⟨t, u, rfl⟩ := Vals.int2 r
  have e : (((Nat.lcm 1 a.natAbs).lcm b.natAbs : Nat) : Int) = ((Nat.lcm a.natAbs b.natAbs : Nat) : Int) := by rw [Nat.lcm_one_left]
  refine PySem.W.mg_lcm_v (by omega) (by omega) e ?_ ⟨.int _, H, I.tok _, ⟨_, rfl⟩, q⟩
  have h := lcm_small ha hb
  rw [Int.natAbs_natCast]
  have h2 := PySem.W.mg_log (k := 39) h
  exact Nat.lt_of_le_of_lt h2 (by decide)
theorem ex_math {x : Str} {id : String} {f : Int → Int → Int} {C : Int → Int → Prop} {p pos : Pos} (hc : CallR X (.builtin id) (fun vs H Q => ∃ a b : Int, vs = [.int a, .int b] ∧ C a b ∧ Q (.int (f a b)) H)) (hg : Gl X x) (hm : X.mg x = some (.builtin id)) (hdb : (x == ("__debug__" : Str)) = false)
    (h : ED X av a ρ fun x ρ1 => ED X av b ρ1 fun y ρ2 => ∃ i j, x = .int i ∧ y = .int j ∧ C i j ∧ Q (.pd (.int (f i j))) ρ2) (he : starEach [a, b] X.env = [(false, eval a X.env), (false, eval b X.env)]) (he2 : starEach [b] X.env = [(false, eval b X.env)]) :
    EX X av (.Call (.Name x p) [a, b] [] pos) ρ Q :=
  ex_of (pe_callBfun hc hg hm (pa_cons pe_s (pa_cons pe_s pa_nil he2) (by rw [he, he2])) hdb (by rw [he, he2]) (by rw [he2]; rfl)) fun Hs H σ R r k => two_run (α := Unit) h r fun vx vy x y ρ1 Hs1 H1 st r1 px py ⟨i, j, e1, e2, c, q⟩ => by
    subst e1 e2
    cases px
    cases py
    exact ⟨i, j, rfl, c, (k.ret st r1 q).val r1.same (.int _)⟩
end
end DW

set_option Elab.async false
set_option autoImplicit false
set_option linter.all false
set_option maxRecDepth 100000
/-! DW22: comprehensions of two fors -/
namespace DW
open PySem PySem.Spec L2
open PyProof.Rows hiding St
def sPI (X : Cx) (tg iter : Expr) : TI := fun σ H R => ∀ (pins : List (Addr × Obj)) (s : Shared), Inv X pins σ H s →
    wpAny (model X.prog X.w) X.A (eval iter X.env) (fun v s1 => wpAny (model X.prog X.w) X.A (pyIter v) (PIE X pins σ tg R) X.xe s1) X.xe s
def wA (X : Cx) (scope : Scope) (tg iter : Expr) : TI := fun σ H R => ∀ Y, Blk X scope Y → sPI Y tg iter σ H R
theorem pit_uni {X : Cx} {scope : Scope} {tg iter : Expr} : ∀ (s : Shared) (H : Hp) (C : Addr) (cl : List (Str × Addr)) (fp : List Addr), PI (X.blk s H scope (compEnvC scope cl C X.env) fp) tg iter (wA X scope tg iter) := fun s H C cl fp => ⟨fun pins s' σ H' R I h => h _ ⟨s, H, C, cl, fp, rfl⟩ pins s' I⟩
section
variable [CF : Cfg] [OG : Org]
variable {X : Cx} {av : List V} {ρ : Ev} {tg elt iter tg1 iter1 : Expr} {ifs ifs1 : List Expr} {scope : Scope}
/-- the list that grows at Dl, wherever the slots stand -/
structure LgJ (X : Cx) (av : List V) (Hs1 : Gh) (H1 : Hp) (Hb : Hp) (n : Nat) (Dl : Addr) (acc : List D) (ρ : Ev) (σ : St) (H : Hp) : Prop where
  ex : ∃ (Hs : Gh) (ws : List V), Step Hs1 H1 Hs H ∧ Same Hb Hs.st ∧ Rep X.K av Hs H ρ σ ∧ Hs.st Dl = none ∧ ¬ Hs.ow Dl ∧ H Dl = some (.lst ws) ∧ RpAll X.K Hs.st ws acc ∧ ρ.length = n
theorem turn_lj {vs : List Nat} {Hs1 : Gh} {H1 H : Hp} {Hb : Hp} {n : Nat} {σ : St} {Dl : Addr} {acc : List D} {v : V} {d : D} {K : Option D → Ev → Prop} {Nx : Hp → Prop} (hD : H1 Dl = none) (hO : Fre OG.h0 Dl) {Hs : Gh} {ws : List V}
    (s1 : Step Hs1 H1 Hs H) (eb : Same Hb Hs.st) (r1 : Rep X.K av Hs H ρ σ) (n1 : Hs.st Dl = none) (n2 : ¬ Hs.ow Dl) (e1 : H Dl = some (.lst ws)) (e2 : RpAll X.K Hs.st ws acc) (hl : ρ.length = n) (hv : Rp X.K Hs.st v d) (hz : acc.length < 100000) (h : TurnG X av scope vs tg elt ifs d ρ K)
    (hN : ∀ r ρ' H', K r ρ' → LgJ X av Hs1 H1 Hb n Dl (acc ++ r.toList) ρ' σ H' → Nx H') :
    gA X scope tg v (L2.wipe σ vs) H fun σ2 H2 => L2.wipe σ2 vs = L2.wipe σ vs ∧ iA X scope ifs σ2 H2 fun b H3 => if b = true then eA X scope elt σ2 H3 fun y H4 => ∃ acc, H4 Dl = some (.lst acc) ∧ acc.length < sizeLine ∧ Nx (upd H4 Dl (.lst (acc ++ [y]))) else Nx H3 := by
  intro Y hY
  have hYK : Y.K = X.K := by
    obtain ⟨_, _, _, _, _, rfl⟩ := hY
    rfl
  have g := h Y hY
  unfold GC at g
  rw [hYK] at g
  obtain ⟨rw, sw⟩ := r1.wipe vs
  refine g _ H _ v _ rw hv fun σ2 ρ2 Hs2 e2s s2 r2 w2 k2 q2 => ⟨w2.trans wipe_wipe, fun Z hZ => ?_⟩
  have hZK : Z.K = X.K := by
    obtain ⟨_, _, _, _, _, rfl⟩ := hZ
    rfl
  have g2 := q2 Z hZ
  unfold IX KT at g2
  rw [hZK] at g2
  have sw2 : Step Hs H Hs2 H := sw.trans s2
  have kk : ∀ i, i ∉ vs → σ2[i]? = σ[i]? := fun i hi => by rw [(k2 i hi).2, wipe_at hi]
  have ll : σ2.length = ρ.length := by
    have z := congrArg List.length w2
    rw [L2.wipe_length, L2.wipe_length, L2.wipe_length] at z
    rw [z, r1.len]
  have dl : ∀ {Hs' : Gh} {H' : Hp}, Step Hs2 H Hs' H' → Hs'.st Dl = none ∧ H' Dl = some (.lst ws) ∧ ¬ Hs'.ow Dl := fun {Hs' H'} s' => by
    have s3 := sw2.trans s'
    refine ⟨?_, s3.keep Dl _ e1 n2 noL.1, fun z => ?_⟩
    · cases e : Hs'.st Dl with
      | none => rfl
      | some y =>
        rcases s3.nw Dl y e with y | y | y
        · rw [n1] at y
          cases y
        · exact (y.no e1 noL.1).elim
        · exact (n2 y).elim
    · rcases s3.own Dl z with y | y
      · exact n2 y
      · exact y.no e1 noL.1
  refine g2 Hs2 H σ2 _ r2 fun b ρ3 Hs3 H3 s3 r3 ⟨qt, qf⟩ => ?_
  have e3 : ρ3.length = ρ.length := r3.len.trans ll
  cases b with
  | false =>
    obtain ⟨G3, eG, oG, s4, r4⟩ := rst_back (vs := vs) r1 sw2 kk e3 s3 r3
    obtain ⟨d1, d2, d3⟩ := dl s3
    exact hN none _ H3 (qf rfl) ⟨G3, ws, s1.trans s4, eb.trans s4.st, r4, by rw [eG]; exact d1, fun z => d3 (oG _ z), d2, by simpa using RpAll.mono s4.st _ _ e2, by rw [rstR_len, e3, hl]⟩
  | true =>
    intro W hW
    have hWK : W.K = X.K := by
      obtain ⟨_, _, _, _, _, rfl⟩ := hW
      rfl
    have r3W : Rep W.K av Hs3 H3 ρ3 σ2 := by
      rw [hWK]
      exact r3
    refine (qt rfl W hW).run r3W fun y dy ρ4 Hs4 H4 s4 r4 rp ef => ?_
    rw [hWK] at r4 rp
    have e4 : ρ4.length = ρ.length := r4.len.trans ll
    obtain ⟨G5, eG, oG, s5, r5⟩ := rst_back (vs := vs) r1 sw2 kk e4 (s3.trans s4) r4
    obtain ⟨d1, d2, d3⟩ := dl (s3.trans s4)
    have d1 : G5.st Dl = none := by rw [eG]; exact d1
    have n5 : ¬ G5.ow Dl := fun z => d3 (oG _ z)
    refine ⟨ws, d2, Nat.lt_of_lt_of_le (by rw [e2.length]; exact hz) (by decide : 100000 ≤ sizeLine), hN (some dy) _ _ ef ⟨G5, ws ++ [y], ?_, eb.trans s5.st, r5.wr d1 n5 d2 hO, d1, n5, upd_same, ?_, by rw [rstR_len, e4, hl]⟩⟩
    · have s6 := s1.trans s5
      refine ⟨⟨s6.st, s6.nw, fun b u q n nt => ?_, s6.own, fun b q => ?_⟩⟩
      · have nb : b ≠ Dl := ne_of_none q hD
        rw [upd_ne nb]
        exact s6.keep b u q n nt
      · by_cases hb : b = Dl
        · rw [hb]
          exact .of hD
        · exact s6.dom b fun o e => q o (by rw [upd_ne hb]; exact e)
    · have ha := (RpAll.mono s5.st _ _ e2).append (.cons (by rw [eG]; exact rp) .nil)
      simpa using ha
/-- one turn of the outer for -/
def Turn2 (X : Cx) (av : List V) (scope : Scope) (vs vs1 : List Nat) (tg tg1 iter1 elt : Expr) (ifs ifs1 : List Expr) (d : D) (acc : List D) (ρ : Ev) (K : List D → Ev → Prop) : Prop :=
  ∀ Y, Blk X scope Y → GC Y av vs tg d (wipeR ρ vs) fun ρ2 => ∀ Y, Blk X scope Y → IX Y av ifs ρ2 fun b ρ3 => (b = true → ∀ Y, Blk X scope Y → IXI Y av tg1 iter1 ρ3 fun es ρ4 => acc.length + es.length ≤ 100000 ∧ lcW (TurnG X av scope vs1 tg1 elt ifs1) es acc ρ4 fun acc' ρ5 => K acc' (rstR vs ρ ρ5)) ∧ (b = false → K acc (rstR vs ρ ρ3))
theorem lcW_len {turn : D → Ev → (Option D → Ev → Prop) → Prop} {Q : List D → Ev → Prop} : ∀ {ds acc : List D} {ρ : Ev}, lcW turn ds acc ρ Q → True := fun _ => trivial
theorem rst_rep {K : PySem.W.Frag} {vs : List Nat} {Hs Hs' : Gh} {H H' : Hp} {ρ1 ρ' : Ev} {σ σ2 : St} (r1 : Rep K av Hs H ρ1 σ) (e : Same Hs.st Hs'.st) (k2 : ∀ i, i ∉ vs → σ2[i]? = σ[i]?) (l2 : ρ'.length = ρ1.length) (r' : Rep K av Hs' H' ρ' σ2) :
    ∃ G3 : Gh, G3.st = Hs'.st ∧ (∀ a, G3.ow a → Hs'.ow a) ∧ Step Hs' H' G3 H' ∧ Rep K av G3 H' (rstR vs ρ1 ρ') σ := by
  obtain ⟨r4, s4⟩ := r'.less (ρ' := rstR vs ρ1 ρ') (σ' := σ) (vs := vs) (by rw [rstR_len, l2]; exact r1.len) (fun i s z => by
    rcases rstR_at z with z | ⟨d, z, z2⟩ | ⟨z1, z2⟩
    · subst z
      trivial
    · subst z
      obtain ⟨v, q1, q2⟩ := r1.sl i _ z2
      exact ⟨v, q1, Rp.mono e _ _ q2⟩
    · rw [← k2 i z1]
      exact sRep_wipe z1 (r'.sl i s z2)) fun i hi t o z => by rw [rstR_out hi]; exact z
  exact ⟨{ Hs' with F := wipeF Hs'.F vs }, rfl, fun a ⟨i, z⟩ => ⟨i, z.2⟩, s4, r4⟩
theorem lc2_run {wi : TI} {vs vs1 : List Nat} {Q : Sl → Ev → Prop} (h : ∀ (Hs : Gh) (H : Hp) (σ : St) (R : It → Hp → Prop), Rep X.K av Hs H ρ σ →
    (∀ (J : It) (ds : List D) (ρ' : Ev) (Hs' : Gh) (H' : Hp), Step Hs H Hs' H' → Rep X.K av Hs' H' ρ' σ → Yl X.K J ds Hs'.st → lc2W (Turn2 X av scope vs vs1 tg tg1 iter1 elt ifs ifs1) ds [] ρ' (fun acc ρ2 => Q (.ow none (.lst acc)) ρ2) → R J H') → wi σ H R)
    (Hs : Gh) (H : Hp) (σ : St) (R : VK) (r : Rep X.K av Hs H ρ σ) (k : KE X av ρ Hs H σ Q R) : tLc2 wi (gA X scope tg) (iA X scope ifs) (wA X scope tg1 iter1) (gA X scope tg1) (iA X scope ifs1) (eA X scope elt) vs vs1 σ H R := by
  refine h Hs H σ _ r fun J ds ρ1 Hs1 H1 st r1 yl q => fun Dl hD => ?_
  have hO := r1.org.dom Dl (.of hD)
  have I0 : LgJ X av Hs1 H1 Hs1.st ρ1.length Dl [] ρ1 σ (upd H1 Dl (.lst [])) := by
    have g := Grow.newO r1.same (.lst []) hD
    refine ⟨_, [], g.step, Same.refl _, r1.grow g, r1.same.free hD, fun z => ?_, upd_same, .nil, rfl⟩
    obtain ⟨_, u, hu, _⟩ := r1.owned z
    rw [hD] at hu
    cases hu
  refine ⟨fun i m H' => m = ds.length - i ∧ i ≤ ds.length ∧ ∃ acc ρ', LgJ X av Hs1 H1 Hs1.st ρ1.length Dl acc ρ' σ H' ∧ lc2W (Turn2 X av scope vs vs1 tg tg1 iter1 elt ifs ifs1) (ds.drop i) acc ρ' fun acc ρ2 => Q (.ow none (.lst acc)) ρ2, ⟨_, rfl, Nat.zero_le _, [], ρ1, I0, q⟩, ?_⟩
  rintro i m H' ⟨rfl, hi, acc, ρ', I, w⟩
  obtain ⟨Hs', ws, s1, eb, r1', n1, n2, e1, e2, hl⟩ := I.ex
  by_cases hlt : i < ds.length
  · refine .inr ⟨yl.go i H' Hs'.st hlt s1.st r1'.same, fun H2 => i + 1 ≤ ds.length ∧ ∃ acc ρ', LgJ X av Hs1 H1 Hs1.st ρ1.length Dl acc ρ' σ H2 ∧ lc2W (Turn2 X av scope vs vs1 tg tg1 iter1 elt ifs ifs1) (ds.drop (i + 1)) acc ρ' fun acc ρ2 => Q (.ow none (.lst acc)) ρ2, fun H2 ⟨z, q⟩ => ⟨ds.length - (i + 1), by omega, rfl, z, q⟩, fun x H2 y => ?_⟩
    obtain ⟨Hs2', d, g, hd, rd⟩ := yl.yld i H' Hs'.st H2 x hlt s1.st r1'.same y
    rw [drop_at hd] at w
    have w2 : Turn2 X av scope vs vs1 tg tg1 iter1 elt ifs ifs1 d acc ρ' fun acc' ρ2 => lc2W (Turn2 X av scope vs vs1 tg tg1 iter1 elt ifs ifs1) (ds.drop (i + 1)) acc' ρ2 fun acc ρ2 => Q (.ow none (.lst acc)) ρ2 := w
    let Hs2 : Gh := { Hs' with st := Hs2' }
    have rr : Rep X.K av Hs2 H2 ρ' σ := r1'.grow g
    have sg : Step Hs' H' Hs2 H2 := g.step
    have ss : Step Hs1 H1 Hs2 H2 := s1.trans sg
    have nD : Hs2.st Dl = none := by
      cases e : Hs2.st Dl with
      | none => rfl
      | some o =>
        rcases g.nw Dl o e with z | z
        · rw [n1] at z
          cases z
        · rw [e1] at z
          cases z
    have ee1 : H2 Dl = some (.lst ws) := g.hh _ _ e1
    have ee2 : RpAll X.K Hs2.st ws acc := RpAll.mono g.st _ _ e2
    intro Y hY
    have hYK : Y.K = X.K := by
      obtain ⟨_, _, _, _, _, rfl⟩ := hY
      rfl
    have gg := w2 Y hY
    unfold GC at gg
    rw [hYK] at gg
    obtain ⟨rw, sw⟩ := rr.wipe vs
    refine gg _ H2 _ x _ rw rd fun σ2 ρ2 Hs3 e3s s3' r2 w2 k2 q2 => ⟨w2.trans wipe_wipe, fun Z hZ => ?_⟩
    have hZK : Z.K = X.K := by
      obtain ⟨_, _, _, _, _, rfl⟩ := hZ
      rfl
    have g2 := q2 Z hZ
    unfold IX KT at g2
    rw [hZK] at g2
    have sw2 : Step Hs2 H2 Hs3 H2 := sw.trans s3'
    have kk : ∀ i, i ∉ vs → σ2[i]? = σ[i]? := fun i hi => by rw [(k2 i hi).2, wipe_at hi]
    have ll : σ2.length = ρ'.length := by
      have z := congrArg List.length w2
      rw [L2.wipe_length, L2.wipe_length, L2.wipe_length] at z
      rw [z, rr.len]
    have dl : ∀ {Hs' : Gh} {H' : Hp}, Step Hs3 H2 Hs' H' → Hs'.st Dl = none ∧ H' Dl = some (.lst ws) ∧ ¬ Hs'.ow Dl := fun {Hs' H'} s' => by
      have s4 := sw2.trans s'
      refine ⟨?_, s4.keep Dl _ ee1 n2 noL.1, fun z => ?_⟩
      · cases e : Hs'.st Dl with
        | none => rfl
        | some y =>
          rcases s4.nw Dl y e with y | y | y
          · rw [nD] at y
            cases y
          · exact (y.no ee1 noL.1).elim
          · exact (n2 y).elim
      · rcases s4.own Dl z with y | y
        · exact n2 y
        · exact y.no ee1 noL.1
    refine g2 Hs3 H2 σ2 _ r2 fun b ρ3 Hs4 H3 s3 r3 ⟨qt, qf⟩ => ?_
    have e3 : ρ3.length = ρ'.length := r3.len.trans ll
    have ss2 : Step Hs1 H1 Hs3 H2 := ss.trans sw2
    cases b with
    | false =>
      obtain ⟨G4, eG, oG, s4, r4⟩ := rst_back (vs := vs) rr sw2 kk e3 s3 r3
      obtain ⟨d1, d2, d3⟩ := dl s3
      have s5 := ss.trans s4
      exact ⟨hlt, acc, _, ⟨G4, ws, s5, s5.st, r4, by rw [eG]; exact d1, fun z => d3 (oG _ z), d2, RpAll.mono s4.st _ _ ee2, by rw [rstR_len, e3, hl]⟩, qf rfl⟩
    | true =>
      intro W hW
      have hWK : W.K = X.K := by
        obtain ⟨_, _, _, _, _, rfl⟩ := hW
        rfl
      obtain ⟨_, wi1, hpi, hq⟩ := qt rfl W hW
      rw [hWK] at hq
      intro pins s I
      refine hpi.run pins s σ2 H3 _ I (hq Hs4 H3 σ2 _ r3 fun J1 es ρ4 Hs5 H4 s4 r4 yl1 ⟨hz, w4⟩ => ?_)
      have e4 : ρ4.length = ρ'.length := r4.len.trans ll
      have s34 := s3.trans s4
      obtain ⟨d1, d2, d3⟩ := dl s34
      have s24 := ss2.trans s34
      have eb2 : Same Hs2.st Hs5.st := (sw2.trans s34).st
      refine ⟨fun j m H' => m = es.length - j ∧ j ≤ es.length ∧ ∃ acc' ρ5, acc'.length ≤ acc.length + j ∧ LgJ X av Hs1 H1 Hs5.st ρ'.length Dl acc' ρ5 σ2 H' ∧ lcW (TurnG X av scope vs1 tg1 elt ifs1) (es.drop j) acc' ρ5 fun acc' ρ5 => lc2W (Turn2 X av scope vs vs1 tg tg1 iter1 elt ifs ifs1) (ds.drop (i + 1)) acc' (rstR vs ρ' ρ5) fun acc ρ2 => Q (.ow none (.lst acc)) ρ2,
        ⟨_, rfl, Nat.zero_le _, acc, ρ4, by omega, ⟨Hs5, ws, s24, Same.refl _, r4, d1, d3, d2, RpAll.mono eb2 _ _ ee2, e4⟩, w4⟩, ?_⟩
      rintro j m5 H5 ⟨rfl, hj, acc', ρ5, ha, I5, w5⟩
      obtain ⟨Hs6, ws5, s5, eb5, r5, m1, m2, f1, f2, hl5⟩ := I5.ex
      by_cases hjt : j < es.length
      · refine .inr ⟨yl1.go j H5 Hs6.st hjt eb5 r5.same, fun H6 => j + 1 ≤ es.length ∧ ∃ acc'' ρ6, acc''.length ≤ acc.length + (j + 1) ∧ LgJ X av Hs1 H1 Hs5.st ρ'.length Dl acc'' ρ6 σ2 H6 ∧ lcW (TurnG X av scope vs1 tg1 elt ifs1) (es.drop (j + 1)) acc'' ρ6 fun acc' ρ5 => lc2W (Turn2 X av scope vs vs1 tg tg1 iter1 elt ifs ifs1) (ds.drop (i + 1)) acc' (rstR vs ρ' ρ5) fun acc ρ2 => Q (.ow none (.lst acc)) ρ2,
          fun H6 ⟨z, q⟩ => ⟨es.length - (j + 1), by omega, rfl, z, q⟩, fun x6 H6 y6 => ?_⟩
        obtain ⟨Hs7, d6, g6, hd6, rd6⟩ := yl1.yld j H5 Hs6.st H6 x6 hjt eb5 r5.same y6
        rw [drop_at hd6] at w5
        have nD6 : Hs7 Dl = none := by
          cases e : Hs7 Dl with
          | none => rfl
          | some o =>
            rcases g6.nw Dl o e with z | z
            · rw [m1] at z
              cases z
            · rw [f1] at z
              cases z
        exact turn_lj (acc := acc') hD hO (s5.trans g6.step) (eb5.trans g6.st) (r5.grow g6) nD6 m2 (g6.hh _ _ f1) (RpAll.mono g6.st _ _ f2) hl5 rd6 (by omega) w5 fun r ρ6 H7 q I7 => ⟨hjt, acc' ++ r.toList, ρ6, by
          rw [List.length_append]
          cases r <;> simp <;> omega, I7, q⟩
      · have e : j = es.length := by omega
        subst e
        refine .inl ⟨yl1.stop H5 Hs6.st eb5 r5.same, hlt, acc', rstR vs ρ' ρ5, ?_, ?_⟩
        · obtain ⟨G6, eG, oG, s6, r6⟩ := rst_rep (vs := vs) rr (eb2.trans eb5) kk hl5 r5
          exact ⟨G6, ws5, s5.trans s6, (s5.trans s6).st, r6, by rw [eG]; exact m1, fun z => m2 (oG _ z), f1, by rw [eG]; exact f2, by rw [rstR_len, hl5, hl]⟩
        · rw [List.drop_length] at w5
          exact w5
  · have e : i = ds.length := by omega
    subst e
    refine .inl ⟨yl.stop H' Hs'.st s1.st r1'.same, ?_⟩
    rw [List.drop_length] at w
    exact k _ (.ow none (.lst acc)) ρ' Hs' H' (st.trans s1) r1' ⟨Dl, fun b => b = Dl, rfl, ⟨fun _ => Iff.rfl, ws, e1, e2⟩, fun b hb => by rw [hb]; exact ⟨st.dom Dl (.of hD), n1, n2⟩⟩ w
theorem ex_lc2G (own : List (Str × Nat)) {vs1 : List Nat} {Q : Sl → Ev → Prop} {pos : Pos} (hN : X.N.Nodup) (ok : BlkOk X.N X.env.scope scope own) (hc : X.calm = true) (hv : ∀ i ∈ vs1, i ∈ own.map (·.2)) (hs1 : ∀ env x, foldedSetIterable iter1 env x = pure x)
    (h : IXI X av tg iter ρ fun ds ρ1 => lc2W (Turn2 X av scope (own.map (·.2)) vs1 tg tg1 iter1 elt ifs ifs1) ds [] ρ1 fun acc ρ2 => Q (.ow none (.lst acc)) ρ2) :
    EX X av (.ListComp elt [⟨tg, iter, ifs, 0⟩, ⟨tg1, iter1, ifs1, 0⟩] scope pos) ρ Q := by
  obtain ⟨hs, wi, hi, h⟩ := h
  exact ex_of (pe_lc2 hc hN hi ok hv pi_uni pif_uni pit_uni pi_uni pif_uni pel_uni hs hs1) fun Hs H σ R r k => lc2_run h Hs H σ R r k
theorem lx_lc2G (own : List (Str × Nat)) {vs1 : List Nat} {Q : Sl → Ev → Prop} {pos : Pos} (hN : X.N.Nodup) (ok : BlkOk X.N X.env.scope scope own) (hc : X.calm = true) (hv : ∀ i ∈ vs1, i ∈ own.map (·.2)) (hs1 : ∀ env x, foldedSetIterable iter1 env x = pure x)
    (h : IXI X av tg iter ρ fun ds ρ1 => lc2W (Turn2 X av scope (own.map (·.2)) vs1 tg tg1 iter1 elt ifs ifs1) ds [] ρ1 fun acc ρ2 => Q (.ow none (.lst acc)) ρ2) :
    LX X av (.ListComp elt [⟨tg, iter, ifs, 0⟩, ⟨tg1, iter1, ifs1, 0⟩] scope pos) ρ Q := by
  obtain ⟨hs, wi, hi, h⟩ := h
  exact lx_of (fun i y py spos h1 h2 h3 => ps_setLc2 hc hN h1 h2 h3 hi ok hv pi_uni pif_uni pit_uni pi_uni pif_uni pel_uni hs hs1) fun Hs H σ R r k => lc2_run h Hs H σ R r k
end
section
variable [CF : Cfg] [OG : Org]
variable {X : Cx}
theorem op_isB : OpR X (compareOp .Is) (fun x y H Q => ∃ a b, x = .bl a ∧ y = .bl b ∧ Q (.bl (decide (a = b))) H) := by
  intro pins s σ H x y v u Q I rx ry h
  obtain ⟨a, b, rfl, rfl, q⟩ := h
  cases rx
  cases ry
  show wpAny _ _ ((isSame (Value.bool a) (Value.bool b)) >>= fun z => pure (Value.bool z)) _ _ s
  refine wpAny_bind (wpAny_isSame_plain rfl (wpAny_pure (fin_bl I q ?_)))
  cases a <;> cases b <;> rfl
theorem op_isnB : OpR X (compareOp .IsNot) (fun x y H Q => ∃ a b, x = .bl a ∧ y = .bl b ∧ Q (.bl (!decide (a = b))) H) := by
  intro pins s σ H x y v u Q I rx ry h
  obtain ⟨a, b, rfl, rfl, q⟩ := h
  cases rx
  cases ry
  show wpAny _ _ ((isSame (Value.bool a) (Value.bool b)) >>= fun z => pure (Value.bool (!z))) _ _ s
  refine wpAny_bind (wpAny_isSame_plain rfl (wpAny_pure (fin_bl I q ?_)))
  cases a <;> cases b <;> rfl
theorem b2_isB {a b : Bool} : B2 X (compareOp .Is) (.bool a) (.bool b) (.pd (.bool (decide (a = b)))) := fun Hs H vx vy R hs px py k => by
  cases px
  cases py
  exact sO.of op_isB ⟨_, _, rfl, rfl, k.val hs (.bl _)⟩
theorem b2_isnB {a b : Bool} : B2 X (compareOp .IsNot) (.bool a) (.bool b) (.pd (.bool (!decide (a = b)))) := fun Hs H vx vy R hs px py k => by
  cases px
  cases py
  exact sO.of op_isnB ⟨_, _, rfl, rfl, k.val hs (.bl _)⟩
end
end DW

set_option Elab.async false
set_option autoImplicit false
set_option linter.all false
set_option maxRecDepth 100000
set_option maxHeartbeats 4000000
/-! DW23: a tuple times 0, 1 or more -/
namespace DW
open PySem PySem.Spec L2
open PyProof.Rows hiding St
theorem tuple_mul1 (l : Addr) (items : Array Value) (n : Nat) (dd : Option Addr) (sl : Array (Option Value)) (u : Tok) :
    Meets (Builtin.«tuple.__mul__» ⟨[.ref l, .int 1 u], []⟩) (fun _ R s => s.heap.get? l = some { cls := .type "tuple", dict := dd, data := .seq items n, slots := sl } ∧ R (.ok (.ret (Value.ref l))) s) :=
  .of_wp fun prog w A R s h => by
    obtain ⟨hp, g, d, tk, os⟩ := s
    obtain ⟨hl, h⟩ := h
    have f1 := AutoSeq1.idx_int
    have c1 : (items.isEmpty || (1 : Int) == 1) = true := by simp
    wp_walk using wpAny_loadPart' hl
    repeat (first
      | (refine wpAny_ite_false (by decide) ?_; wp_walk using wpAny_loadPart' hl)
      | (refine wpAny_ite_true (decide_eq_true c1) ?_; wp_walk using wpAny_loadPart' hl)
      | (refine wpAny_ite_true c1 ?_; wp_walk using wpAny_loadPart' hl))
    exact ⟨_, rfl, h⟩
theorem tuple_mul0 (l : Addr) (items : Array Value) (n : Nat) (dd : Option Addr) (sl : Array (Option Value)) (x : Int) (u : Tok) (c0 : (decide (x < -(2 ^ 63)) || decide (x ≥ 2 ^ 63)) = false) (c1 : (items.isEmpty || x == 1) = false) (c2 : (decide (x ≤ 0) || items.isEmpty) = true) :
    Meets (Builtin.«tuple.__mul__» ⟨[.ref l, .int x u], []⟩) (fun _ R s => s.heap.get? l = some { cls := .type "tuple", dict := dd, data := .seq items n, slots := sl } ∧
      R (.ok (.ret (Value.ref s.heap.objs.size))) { s with heap := s.heap.push { cls := Value.type "tuple", data := Data.seq #[] }, toks := s.toks }) :=
  .of_wp fun prog w A R s h => by
    obtain ⟨hp, g, d, tk, os⟩ := s
    obtain ⟨hl, h⟩ := h
    have f1 := AutoSeq1.idx_int
    wp_walk using wpAny_loadPart' hl
    repeat (first
      | (refine wpAny_ite_false (decide_eq_false (by rw [c0]; exact Bool.false_ne_true)) ?_; wp_walk using wpAny_loadPart' hl)
      | (refine wpAny_ite_false (decide_eq_false (by rw [c1]; exact Bool.false_ne_true)) ?_; wp_walk using wpAny_loadPart' hl)
      | (refine wpAny_ite_true (decide_eq_true c2) ?_; wp_walk using wpAny_loadPart' hl))
    exact ⟨_, rfl, h⟩
section
variable [CF : Cfg] [OG : Org]
variable {X : Cx}
theorem op_repT1 : OpR X (binaryOp .Mult) (fun x y H Q => ∃ l xs, x = .ref l ∧ y = .int 1 ∧ SqT X.K H l xs ∧ Q (.ref l) H) := by
  intro pins s σ H x y v u Q I rx ry h
  obtain ⟨l, xs, rfl, rfl, hT, q⟩ := h
  cases rx
  obtain ⟨t, rfl⟩ := ry
  obtain ⟨its, r, ⟨⟨cls, dd, data, sl⟩, ho, hc, n, hd⟩, hs⟩ := I.tuple hT
  simp only at hc hd
  subst hc hd
  refine wpAny_binaryOp_repeat_ref (T := "tuple") (U := "int") (by decide) ⟨_, ho, rfl⟩ (fun s' => typeIs_int s' 1 t) noFill_tuple_mul F.fills_int_mul F.slot_int_rmul repeat_tuple F.slot_int_index.lookup
    (call_meets F.slot_int_rmul (typeIs_int s 1 t) F.entry_int_rmul (F.args_int_rmul_2 _ _) (int_rmul_tuple 1 t l its.toArray n dd sl)
      ⟨ho, rfl, ⟨_, ho, rfl⟩, call_meets F.slot_tuple_mul ⟨_, ho, rfl⟩ F.entry_tuple_mul (F.args_tuple_mul_2 _ _) (tuple_mul1 l its.toArray n dd sl t) ⟨ho, ?_⟩⟩)
  exact ⟨.ref l, _, I, rfl, q⟩
theorem op_repT0 : OpR X (binaryOp .Mult) (fun x y H Q => ∃ l k xs, x = .ref l ∧ y = .int k ∧ SqT X.K H l xs ∧ xs ≠ [] ∧ -(2 ^ 63) ≤ k ∧ k ≤ 0 ∧ ∀ p, H p = none → Q (.ref p) (upd H p (.tup []))) := by
  intro pins s σ H x y v u Q I rx ry h
  obtain ⟨l, k, xs, rfl, rfl, hT, hne, h1, h2, q⟩ := h
  cases rx
  obtain ⟨t, rfl⟩ := ry
  obtain ⟨its, r, ⟨⟨cls, dd, data, sl⟩, ho, hc, n, hd⟩, hs⟩ := I.tuple hT
  simp only at hc hd
  subst hc hd
  have hle : its.length = xs.length := r.length.symm
  have hn : its ≠ [] := fun e => hne (by
    rw [e] at hle
    exact List.eq_nil_of_length_eq_zero hle.symm)
  have hi : its.toArray.isEmpty = false := by
    cases its with
    | nil => exact absurd rfl hn
    | cons a b => rfl
  have c0 : (decide (k < -(2 ^ 63)) || decide (k ≥ 2 ^ 63)) = false := by
    rw [decide_eq_false (by omega), decide_eq_false (by omega)] <;> rfl
  have c1 : (its.toArray.isEmpty || k == 1) = false := by
    rw [hi, Bool.false_or]
    exact beq_eq_false_iff_ne.mpr (by omega)
  have c2 : (decide (k ≤ 0) || its.toArray.isEmpty) = true := by
    rw [decide_eq_true h2, Bool.true_or]
  refine wpAny_binaryOp_repeat_ref (T := "tuple") (U := "int") (by decide) ⟨_, ho, rfl⟩ (fun s' => typeIs_int s' k t) noFill_tuple_mul F.fills_int_mul F.slot_int_rmul repeat_tuple F.slot_int_index.lookup
    (call_meets F.slot_int_rmul (typeIs_int s k t) F.entry_int_rmul (F.args_int_rmul_2 _ _) (int_rmul_tuple k t l its.toArray n dd sl)
      ⟨ho, rfl, ⟨_, ho, rfl⟩, call_meets F.slot_tuple_mul ⟨_, ho, rfl⟩ F.entry_tuple_mul (F.args_tuple_mul_2 _ _) (tuple_mul0 l its.toArray n dd sl k t c0 c1 c2) ⟨ho, ?_⟩⟩)
  refine ⟨.ref s.heap.objs.size, _, I.laid (t' := s.toks) (o := .tup []) (fun b ob q => Heap.get?_push_of_some _ q) (Nat.le_refl _) ?_, rfl, q _ (I.hok.fresh (Nat.le_refl _))⟩
  exact ⟨Nat.zero_le _, [], .nil, IsTup.new _ _⟩
theorem b2_repT {xs : List D} {k : Int} (hne : xs ≠ []) (h1 : -(2 ^ 63) ≤ k) (h2 : k ≤ 1000) (hz : xs.length ≤ 1000) : B2 X (binaryOp .Mult) (.tuple xs) (.int k) (.pd (.tuple (List.replicate k.toNat xs).flatten)) := fun Hs H vx vy R hs px py kk => by
  cases py
  cases px with
  | @tup a vs ds g1 g2 =>
    have hv : vs ≠ [] := fun e => hne (by rw [e] at g2; cases g2; rfl)
    by_cases w1 : k = 1
    · subst w1
      refine sO.of op_repT1 ⟨a, vs, rfl, rfl, .inl (.inl (hs _ _ g1)), ?_⟩
      have e : (List.replicate (1 : Int).toNat xs).flatten = xs := by simp
      rw [e] at kk
      exact kk.val hs (.tup g1 g2)
    · by_cases w0 : k ≤ 0
      · refine sO.of op_repT0 ⟨a, k, vs, rfl, rfl, .inl (.inl (hs _ _ g1)), hv, h1, w0, ?_⟩
        have e : (List.replicate k.toNat xs).flatten = [] := by
          rw [show k.toNat = 0 by omega]
          rfl
        rw [e] at kk
        exact kk.tup hs .nil
      · refine sO.of op_repT ⟨a, k, vs, rfl, rfl, .inl (.inl (hs _ _ g1)), hv, by omega, h2, by rw [g2.length]; exact hz, kk.tup hs ?_⟩
        induction k.toNat with
        | zero => exact .nil
        | succ m ih =>
          rw [List.replicate_succ, List.replicate_succ, List.flatten_cons, List.flatten_cons]
          exact g2.append ih
theorem b2_shl {i j : Int} (h : CPow i j) : B2 X (binaryOp .LShift) (.int i) (.int j) (.pd (.int (i * 2 ^ j.toNat))) := fun Hs H vx vy R hs px py k => by
  cases px
  cases py
  exact sO.of op_shl ⟨i, j, rfl, rfl, h, k.val hs (.int _)⟩
theorem b2_shr {i j : Int} (h : 0 ≤ j) : B2 X (binaryOp .RShift) (.int i) (.int j) (.pd (.int (i / 2 ^ j.toNat))) := fun Hs H vx vy R hs px py k => by
  cases px
  cases py
  exact sO.of op_shr ⟨i, j, rfl, rfl, h, k.val hs (.int _)⟩
theorem b2_band {i j : Int} : B2 X (binaryOp .BitAnd) (.int i) (.int j) (.pd (.int (Builtin.bitAnd i j))) := fun Hs H vx vy R hs px py k => by
  cases px
  cases py
  exact sO.of op_and ⟨i, j, rfl, rfl, k.val hs (.int _)⟩
theorem b2_bor {i j : Int} : B2 X (binaryOp .BitOr) (.int i) (.int j) (.pd (.int (Builtin.bitOr i j))) := fun Hs H vx vy R hs px py k => by
  cases px
  cases py
  exact sO.of op_or ⟨i, j, rfl, rfl, k.val hs (.int _)⟩
end
section
variable [CF : Cfg] [OG : Org]
variable {X : Cx} {av : List V} {ρ : Ev}
/-- the truth of a local that is a list of its own -/
theorem tx_truO (i : Nat) {QT : Bool → Ev → Prop} {x : Str} {t : Option Nat} {ds : List D} {pos : Pos} (h0 : ρ[i]? = some (.ow t (.lst ds))) (q : QT (!ds.isEmpty) ρ)
    (hN : X.N[i]? = some x := by rfl) (hv : Vis X.env.scope x := by first | exact Or.inl rfl | exact Or.inr (Or.inl rfl) | exact Or.inr (Or.inr rfl))
    (hd : (x == ("__debug__" : Str)) = false := by decide) (hcd : (x == ("__classdict__" : Str)) = false := by decide) : TX X av (.Name x pos) ρ QT :=
  tx_of (pt_truth (pv i hN hv hd hcd) (by intro _; rfl)) fun Hs H σ R r kt => by
    obtain ⟨a, vs, h1, h2, h3, h4⟩ := r.ow_at h0
    exact ⟨.ref a, h1, !ds.isEmpty, .inl ⟨_, .inl (.inl h3), by rw [isEmpty_rp h4]⟩, kt _ ρ Hs H Step.refl r q⟩
end
end DW

set_option Elab.async false
set_option autoImplicit false
set_option linter.all false
set_option maxRecDepth 100000
/-! DW24: a list is run on in place: x += e -/
namespace DW
open PySem PySem.Spec L2
open PyProof.Rows hiding St
theorem seq_list_iadd : seqSlot? (.type "list") (dunderI "add") = pure (some (.builtin "list.__iadd__")) := PySem.seqSlot_of F.slot_list_iadd.lookup (by decide +kernel)
theorem inplace_seq {M : Model} {A : Around} {E : Value → Shared → Prop} {s : Shared} {a b : Value} {Q : Value → Shared → Prop} (ha : s.TypeIs a "list") (hb : s.TypeIs b "list") (hc : wpAny M A (call (.builtin "list.__iadd__") [a, b]) Q E s) : wpAny M A (inplaceOp .Add a b) Q E s := by
  have fill : fillsInplaceSlot (.type "list") "add" (Operator.Add == .Add) = pure false := by
    unfold fillsInplaceSlot
    have e : typeLookup (.type "list") (dunderI "add") = pure (some (.builtin "list.__iadd__")) := F.slot_list_iadd.lookup
    have z : isSeqSlot (some (.builtin "list.__iadd__")) = true := by decide +kernel
    show (typeLookup (.type "list") (dunderI "add") >>= fun fi => pure (fi.isSome && !isSeqSlot fi)) = pure false
    rw [e]
    show (pure ((some (Value.builtin "list.__iadd__")).isSome && !isSeqSlot (some (.builtin "list.__iadd__"))) : Sem Bool) = pure false
    rw [z]
    rfl
  unfold inplaceOp
  refine wpAny_holding (wpAny_bind (wpAny_typeOf ha (wpAny_bind (wpAny_of_eq fill ?_))))
  show wpAny M A (if false = true then _ else _) Q E s
  rw [if_neg Bool.false_ne_true]
  exact wpAny_bind (wpAny_binaryOp1_none (nm := "add") ha hb noFill_list_add (wpAny_bind (wpAny_of_eq seq_list_iadd (wpAny_bind (wpAny_rule hc)))))
/-- a list, and what is added -/
def rIcat : V → V → Hp → VK → Prop := fun x y H Q => ∃ l b xs zs, x = .ref l ∧ y = .ref b ∧ H l = some (.lst xs) ∧ H b = some (.lst zs) ∧ xs.length + zs.length ≤ sizeLine ∧ Q (.ref l) (upd H l (.lst (xs ++ zs)))
theorem iop_cat {X : Cx} : OpR X (inplaceOp .Add) rIcat := by
  intro pins s σ H x y v u Q I rx ry h
  obtain ⟨l, b, xs, zs, rfl, rfl, hH, hB, hz, q⟩ := h
  cases rx
  cases ry
  obtain ⟨z, its, n, r, hl, e⟩ := I.lstM hH
  obtain ⟨z2, its2, n2, r2, hl2, e2⟩ := I.lstM hB
  have hsz : its.toArray.size + its2.toArray.size ≤ sizeLine := by rw [List.size_toArray, List.size_toArray]; omega
  have hlong : ¬ (!its.toArray.isEmpty && Builtin.List.listTooLong (its.toArray.size + its2.toArray.size)) = true := by
    rw [notLongL hsz, Bool.and_false]
    exact Bool.false_ne_true
  refine inplace_seq ⟨_, e, rfl⟩ ⟨_, e2, rfl⟩ (call_meets F.slot_list_iadd ⟨_, e, rfl⟩ F.entry_list_iadd (F.args_list_iadd_2 _ _) (AutoSeq1.list___iadd___list_list_0 l its.toArray n b its2.toArray n2 hlong (by rw [List.size_toArray]; omega) (by omega)) ⟨e, e2, ?_⟩)
  refine ⟨.ref l, _, I.lset (its' := its ++ its2) hH e (by simp) (r.append r2) ?_, rfl, q⟩
  rw [List.length_append]
  omega
section
variable [CF : Cfg] [OG : Org]
variable {X : Cx} {av : List V} {ρ : Ev} {e : Expr} {Φ : Ph}
/-- x += e, x an owned list -/
theorem sx_augO (i : Nat) {x : Str} {op : Operator} {t0 : Option Nat} {ds0 : List D} {pos pos' : Pos} (hN : X.N.Nodup) (h0 : ρ[i]? = some (.ow t0 (.lst ds0))) (h : ED X av e ρ fun y ρ1 => ∃ t ds es, op = .Add ∧ ρ1[i]? = some (.ow t (.lst ds)) ∧ y = .list es ∧ ds.length + es.length ≤ 100000 ∧ Φ.nx (ρ1.set i (.ow t (.lst (ds ++ es)))))
    (hi : X.N[i]? = some x := by rfl) (hx : Loc X.env.scope x := by first | exact Or.inl rfl | exact Or.inr rfl)
    (hf : X.fn x = true ∨ X.env.scope.names.lookup x = some .local := by first | exact Or.inl rfl | exact Or.inr rfl) : SX X av (.AugAssign (.Name x pos') op e pos) ρ Φ :=
  sx_of (ps_aug (ti := sO X (inplaceOp op)) hN hi hx pe_s (fun pins s σ H x y v u Q I rx ry h => h pins s σ v u I rx ry) hf) fun Hs H σ DD r k => by
    obtain ⟨a, h1, h2, h3⟩ := r.sl i _ h0
    refine ⟨.ref a, h1, h.run r fun w y ρ1 Hs1 H1 st1 r1 rp ⟨t, ds, es, eo, g0, ey, hz, q⟩ => ?_⟩
    subst ey eo
    obtain ⟨a', vs, g1, g2, g3, g4⟩ := r1.ow_at g0
    rw [h1] at g1
    cases g1
    cases rp with
    | @lst b ws _ p1 p2 =>
      refine sO.of iop_cat ⟨a, b, vs, ws, rfl, rfl, g3, r1.same _ _ p1, Nat.le_trans (by rw [g4.length, p2.length]; exact hz) (by decide : 100000 ≤ sizeLine), ?_⟩
      obtain ⟨r2, s2⟩ := r1.ow_put g0 h1 (g4.append p2)
      have e1 : σ.set i (some (.ref a)) = σ := List.ext_getElem? fun j => by
        by_cases hj : i = j
        · subst hj
          rw [List.getElem?_set_self (List.getElem?_eq_some_iff.mp h1).1, h1]
        · rw [List.getElem?_set_ne hj]
      show DD.nx (σ.set i (some (.ref a))) _
      rw [e1]
      exact k.nx _ _ _ _ (st1.trans s2) r2 q
end
end DW

set_option Elab.async false
set_option autoImplicit false
set_option linter.all false
set_option maxRecDepth 100000
/-! DW25: three names at once -/
namespace DW
open PySem PySem.Spec L2
open PyProof.Rows hiding St
section
variable [CF : Cfg] [OG : Org]
variable {X : Cx} {av : List V} {ρ : Ev} {a b c : Expr} {Φ : Ph}
/-- a value that nobody owns yet, made after H0 -/
def FVal (K : PySem.W.Frag) (av : List V) (H0 : Hp) (Hs : Gh) (H : Hp) (v : V) (s : Sl) (fp : Addr → Prop) : Prop := Holds K av Hs H v fp (nrm s) ∧ ∀ c, fp c → Fre H0 c ∧ Hs.st c = none ∧ ¬ Hs.ow c ∧ ∃ u, H c = some u ∧ NoTE u
theorem FVal.carry {K : PySem.W.Frag} {H0 H1 H2 : Hp} {Hs1 Hs2 : Gh} {v : V} {s : Sl} {fp : Addr → Prop} (h : FVal K av H0 Hs1 H1 v s fp) (st : Step Hs1 H1 Hs2 H2) : FVal K av H0 Hs2 H2 v s fp := by
  obtain ⟨g1, g2⟩ := h
  refine ⟨g1.step st.st fun c hc u hu n => st.keep c u hu (g2 c hc).2.2.1 n.1, fun c hc => ?_⟩
  obtain ⟨y0, y1, y2, u, hu, hn⟩ := g2 c hc
  refine ⟨y0, ?_, fun z => ?_, u, st.keep c u hu y2 hn.1, hn⟩
  · cases e : Hs2.st c with
    | none => rfl
    | some z =>
      rcases st.nw c z e with z | z | z
      · rw [y1] at z
        cases z
      · exact (z.no hu hn.1).elim
      · exact (y2 z).elim
  · rcases st.own c z with z | z
    · exact y2 z
    · exact z.no hu hn.1
/-- a, b, c = .. -/
theorem sx_par3 (i j l : Nat) {x y z : Str} {px py pz pt pos : Pos} {kt k2 pt2} (hN : X.N.Nodup) (h : EX X av a ρ fun s ρ1 => EX X av b ρ1 fun t ρ2 => EX X av c ρ2 fun u ρ3 => Φ.nx (((ρ3.set i (nrm s)).set j (nrm t)).set l (nrm u)))
    (hc : X.calm = true) (hi : X.N[i]? = some x) (hj : X.N[j]? = some y) (hl : X.N[l]? = some z) (hij : i ≠ j) (hil : i ≠ l) (hjl : j ≠ l)
    (hx : X.env.scope.names.lookup x = some .local) (hy : X.env.scope.names.lookup y = some .local) (hz : X.env.scope.names.lookup z = some .local)
    (he : starEach [a, b, c] X.env = (false, eval a X.env) :: starEach [b, c] X.env) (he2 : starEach [b, c] X.env = (false, eval b X.env) :: starEach [c] X.env) (he3 : starEach [c] X.env = (false, eval c X.env) :: starEach [] X.env)
    (hw : swappedStores [.Tuple [.Name x px, .Name y py, .Name z pz] kt pt] (.Tuple [a, b, c] k2 pt2) X.env = pure (some [x, y, z]))
    (hs : swapsWithSole [.Tuple [.Name x px, .Name y py, .Name z pz] kt pt] (.Tuple [a, b, c] k2 pt2) pos.line X.env = pure false) :
    SX X av (.Assign [.Tuple [.Name x px, .Name y py, .Name z pz] kt pt] (.Tuple [a, b, c] k2 pt2) pos) ρ Φ :=
  sx_of (ps_par3 hc hN hi hj hl hij hil hjl hx hy hz (pa_cons pe_s (pa_cons pe_s (pa_cons pe_s pa_nil he3) he2) he) hw hs) fun Hs H σ DD r k => h Hs H σ _ r fun v s ρ1 Hs1 H1 st1 r1 hv q1 => q1 Hs1 H1 σ _ r1 fun w t ρ2 Hs2 H2 st2 r2 hw2 q2 => q2 Hs2 H2 σ _ r2 fun o u ρ3 Hs3 H3 st3 r3 ho q3 => by
    refine ⟨v, w, o, rfl, ?_⟩
    obtain ⟨f1, m1⟩ := hv.holds (av := av)
    obtain ⟨f2, m2⟩ := hw2.holds (av := av)
    obtain ⟨f3, m3⟩ := ho.holds (av := av)
    have n1 : FVal X.K av H Hs1 H1 v s f1 := m1
    have n2 : FVal X.K av H1 Hs2 H2 w t f2 := m2
    have n3 : FVal X.K av H2 Hs3 H3 o u f3 := m3
    have n1b := n1.carry st2
    have n1c := n1b.carry st3
    have n2c := n2.carry st3
    have d12 : ∀ c, f1 c → ¬ f2 c := fun c h1 h2 => by
      obtain ⟨_, _, _, u, hu, hn⟩ := n1.2 c h1
      exact (n2.2 c h2).1.no hu hn.1
    have d13 : ∀ c, f1 c → ¬ f3 c := fun c h1 h3 => by
      obtain ⟨_, _, _, u, hu, hn⟩ := n1b.2 c h1
      exact (n3.2 c h3).1.no hu hn.1
    have d23 : ∀ c, f2 c → ¬ f3 c := fun c h2 h3 => by
      obtain ⟨_, _, _, u, hu, hn⟩ := n2.2 c h2
      exact (n3.2 c h3).1.no hu hn.1
    have st13 := (st1.trans st2).trans st3
    have fr2 : ∀ c, f2 c → Fre H c := fun c hc => st1.dom c (n2.2 c hc).1
    have fr3 : ∀ c, f3 c → Fre H c := fun c hc => (st1.trans st2).dom c (n3.2 c hc).1
    obtain ⟨G1, e1, s1, o1⟩ := r3.seti (i := i) n1c.1 fun c hc => ⟨(n1c.2 c hc).2.1, (n1c.2 c hc).2.2.1, r.org.dom c (n1.2 c hc).1⟩
    obtain ⟨G2, e2, s2, o2⟩ := s1.seti (i := j) (n2c.1.step (Hs' := G1) (by rw [e1]; exact Same.refl _) fun c hc u hu n => hu) fun c hc => ⟨by rw [e1]; exact (n2c.2 c hc).2.1, fun z => by
      rcases o1 c z with z | z
      · exact (n2c.2 c hc).2.2.1 z
      · exact d12 c z hc, r.org.dom c (fr2 c hc)⟩
    obtain ⟨G3, e3, s3, o3⟩ := s2.seti (i := l) (n3.1.step (Hs' := G2) (by rw [e2, e1]; exact Same.refl _) fun c hc u hu n => hu) fun c hc => ⟨by rw [e2, e1]; exact (n3.2 c hc).2.1, fun z => by
      rcases o2 c z with z | z
      · rcases o1 c z with z | z
        · exact (n3.2 c hc).2.2.1 z
        · exact d13 c z hc
      · exact d23 c z hc, r.org.dom c (fr3 c hc)⟩
    refine k.nx _ _ G3 H3 ⟨⟨by rw [e3, e2, e1]; exact st13.st, by rw [e3, e2, e1]; exact st13.nw, st13.keep, fun c z => ?_, st13.dom⟩⟩ s3 q3
    rcases o3 c z with z | z
    · rcases o2 c z with z | z
      · rcases o1 c z with z | z
        · exact st13.own c z
        · exact .inr (n1.2 c z).1
      · exact .inr (fr2 c z)
    · exact .inr (fr3 c z)
end
end DW

set_option Elab.async false
set_option autoImplicit false
set_option linter.all false
set_option maxRecDepth 100000
/-! DW26: x[a], y[b] = e and x[a] op= e, x and y owned lists -/
namespace DW
open PySem PySem.Spec L2
open PyProof.Rows hiding St
section
variable [CF : Cfg] [OG : Org]
variable {X : Cx} {av : List V} {ρ : Ev} {e a b : Expr} {Φ : Ph}
theorem sx_set2 (i j : Nat) {x y : Str} {p ps p' ps' pt pos : Pos} {kt : Nat}
    (h : ED X av e ρ fun d ρ1 => ∃ d1 d2, d = .tuple [d1, d2] ∧ (∃ t ds, ρ1[i]? = some (Sl.ow t (.lst ds))) ∧ ED X av a ρ1 fun n1 ρ2 => ∃ t ds k m, ρ2[i]? = some (Sl.ow t (.lst ds)) ∧ n1 = .int k ∧ ixN ds.length k = some m ∧
      (∃ t' ds', (ρ2.set i (.ow t (.lst (ds.set m d1))))[j]? = some (Sl.ow t' (.lst ds'))) ∧ ED X av b (ρ2.set i (.ow t (.lst (ds.set m d1)))) fun n2 ρ3 => ∃ t' ds' k' m', ρ3[j]? = some (Sl.ow t' (.lst ds')) ∧ n2 = .int k' ∧ ixN ds'.length k' = some m' ∧ Φ.nx (ρ3.set j (.ow t' (.lst (ds'.set m' d2)))))
    (hc : X.calm = true) (hN : X.N[i]? = some x) (hv : Vis X.env.scope x) (hd : (x == ("__debug__" : Str)) = false) (hcd : (x == ("__classdict__" : Str)) = false)
    (hN2 : X.N[j]? = some y) (hv2 : Vis X.env.scope y) (hd2 : (y == ("__debug__" : Str)) = false) (hcd2 : (y == ("__classdict__" : Str)) = false)
    (ha : ∀ v, assign (.Subscript (.Name x p) a ps) X.env v = (do
      let ov ← holding [v] (eval (.Name x p) X.env)
      let iv ← holding [v, ov] (eval a X.env)
      standAt ps
      holding [v, ov, iv] (setItem ov iv v)
      release [v, ov, iv] []))
    (ha2 : ∀ v, assign (.Subscript (.Name y p') b ps') X.env v = (do
      let ov ← holding [v] (eval (.Name y p') X.env)
      let iv ← holding [v, ov] (eval b X.env)
      standAt ps'
      holding [v, ov, iv] (setItem ov iv v)
      release [v, ov, iv] []))
    (hs : swapsWithSole [.Tuple [.Subscript (.Name x p) a ps, .Subscript (.Name y p') b ps'] kt pt] e pos.line X.env = pure false) (hw : swappedStores [.Tuple [.Subscript (.Name x p) a ps, .Subscript (.Name y p') b ps'] kt pt] e X.env = pure none) :
    SX X av (.Assign [.Tuple [.Subscript (.Name x p) a ps, .Subscript (.Name y p') b ps'] kt pt] e pos) ρ Φ :=
  sx_of (ps_asg pe_s (pg_tup (n := 2) hc (pgs_cons (pg_sub (pv i hN hv hd hcd) pe_s set_list ha) (pgs_cons (pg_sub (pv j hN2 hv2 hd2 hcd2) pe_s set_list ha2) pgs_nil rfl) rfl) rfl rfl) hs hw rfl) fun Hs H σ D r k => by
    refine h.run r fun v d ρ1 Hs1 H1 s1 r1 rp q => ?_
    obtain ⟨d1, d2, rfl, ⟨t0, ds0, h0⟩, q⟩ := q
    cases rp with
    | tup w1 w2 =>
      obtain ⟨v1, v2, rfl, rp1, rp2⟩ := rp2 w2
      refine ⟨_, _, rfl, .inl (.inl (r1.same _ _ w1)), rfl, v1, [v2], rfl, ?_⟩
      obtain ⟨a0, vs0, g1, _, _, _⟩ := r1.ow_at h0
      refine ⟨.ref a0, g1, q.run r1 fun w n1 ρ2 Hs2 H2 s2 r2 rq q => ?_⟩
      obtain ⟨t, ds, kk, m, f0, rfl, fj, ⟨t1, ds1, h1⟩, q⟩ := q
      cases rq
      obtain ⟨a', ws, f1, f2, f3, f4⟩ := r2.ow_at f0
      rw [g1] at f1
      cases f1
      obtain ⟨r3, s3⟩ := r2.ow_put f0 g1 (f4.set (Rp.mono s2.st _ _ rp1) m)
      refine ⟨a0, ws, kk, m, rfl, rfl, f3, by rw [f4.length]; exact fj, ?_⟩
      refine ⟨v2, [], rfl, ?_⟩
      obtain ⟨b0, us0, e1, _, _, _⟩ := r3.ow_at h1
      refine ⟨.ref b0, e1, q.run r3 fun w n2 ρ4 Hs4 H4 s4 r4 rq q => ?_⟩
      obtain ⟨t', ds', k', m', z0, rfl, zj, q⟩ := q
      cases rq
      obtain ⟨b', us, z1, z2, z3, z4⟩ := r4.ow_at z0
      rw [e1] at z1
      cases z1
      obtain ⟨r5, s5⟩ := r4.ow_put z0 e1 (z4.set (Rp.mono s4.st _ _ (Rp.mono s3.st _ _ (Rp.mono s2.st _ _ rp2))) m')
      exact ⟨b0, us, k', m', rfl, rfl, z3, by rw [z4.length]; exact zj, rfl, k.nx σ _ Hs4 _ ((((s1.trans s2).trans s3).trans s4).trans s5) r5 q⟩
omit CF OG in
theorem get_list : PGet X (rIxL X.K) := by
  intro pins s σ H x y v u Q I rx ry h
  obtain ⟨p, xs, i, z, rfl, rfl, hq, he, q⟩ := h
  cases rx
  obtain ⟨t, rfl⟩ := ry
  obtain ⟨its, r, pl, hz⟩ := I.list hq
  obtain ⟨j, h1, h2, h3, h4, h5⟩ := atI_get he
  obtain ⟨w, ew, rw'⟩ := r.get h2
  have hl := r.length
  have hn := line63
  have fin : EP X pins σ Q w s := ⟨z, H, I, rw', q⟩
  by_cases h0 : 0 ≤ i
  · have hj : i.toNat = j := by
      rw [seqIndex_of h0 h5] at h1
      exact Option.some.inj h1
    exact wpAny_getItem_list (x := w) (Q := EP X pins σ Q) pl.isList h0 (by omega) (by rw [hj]; simpa using ew) fin
  · have hj : (i + (its.toArray.size : Int)).toNat = j := by
      rw [seqIndex_neg (by omega) h4] at h1
      rw [List.size_toArray, ← hl]
      exact Option.some.inj h1
    exact wpAny_getItem_list_neg (x := w) (Q := EP X pins σ Q) pl.isList (by omega) (by rw [List.size_toArray] <;> omega) (by omega) (by rw [hj]; simpa using ew) fin
/-- x[a] op= e, x an owned list -/
theorem sx_augS (i : Nat) {x : Str} {op : Operator} {p ps pos : Pos} (h0 : ∃ t ds, ρ[i]? = some (Sl.ow t (.lst ds)))
    (h : ED X av a ρ fun n ρ1 => ∃ t ds k d, ρ1[i]? = some (Sl.ow t (.lst ds)) ∧ n = .int k ∧ L2.atI ds k = some d ∧ ED X av e ρ1 fun y ρ2 => ∃ f t' ds' m, B2 X (inplaceOp op) d y (.pd f) ∧ ρ2[i]? = some (Sl.ow t' (.lst ds')) ∧ ixN ds'.length k = some m ∧ Φ.nx (ρ2.set i (.ow t' (.lst (ds'.set m f)))))
    (hN : X.N[i]? = some x) (hv : Vis X.env.scope x) (hd : (x == ("__debug__" : Str)) = false) (hcd : (x == ("__classdict__" : Str)) = false)
    (ha : ∀ ov iv new, augStore a ov iv new = (do holding [new, ov, iv] (setItem ov iv new); release [new, ov, iv] []; pure .next)) : SX X av (.AugAssign (.Subscript (.Name x p) a ps) op e pos) ρ Φ :=
  sx_of (ps_augS (tip := sO X (inplaceOp op)) (pv i hN hv hd hcd) pe_s get_list pe_s (fun pins s σ H x y v u Q I rx ry h => h pins s σ v u I rx ry) set_list ha) fun Hs H σ D r k => by
    obtain ⟨t0, ds0, h0⟩ := h0
    obtain ⟨a0, vs0, g1, _, _, _⟩ := r.ow_at h0
    refine ⟨.ref a0, g1, h.run r fun w n ρ1 Hs1 H1 s1 r1 rq q => ?_⟩
    obtain ⟨t, ds, kk, d, f0, rfl, fd, q⟩ := q
    cases rq
    obtain ⟨a', ws, f1, f2, f3, f4⟩ := r1.ow_at f0
    rw [g1] at f1
    cases f1
    obtain ⟨vd, e1, e2⟩ := f4.atI fd
    refine ⟨a0, ws, kk, vd, rfl, rfl, .inl (.inl f3), e1, q.run r1 fun w y ρ2 Hs2 H2 s2 r2 rp q => ?_⟩
    obtain ⟨f, t', ds', m, b, z0, zm, q⟩ := q
    refine b Hs2.st H2 vd w _ r2.same (Rp.mono s2.st _ _ e2) rp fun z Hs3 H3 g hz => ?_
    have r3 := r2.grow g
    obtain ⟨b', us, z1, z2, z3, z4⟩ := r3.ow_at z0
    rw [g1] at z1
    cases z1
    obtain ⟨r5, s5⟩ := r3.ow_put z0 g1 (z4.set hz m)
    exact ⟨a0, us, kk, m, rfl, rfl, z3, by rw [z4.length]; exact zm, k.nx σ _ _ _ (((s1.trans s2).trans g.step).trans s5) r5 q⟩
end
end DW

set_option Elab.async false
set_option autoImplicit false
set_option linter.all false
set_option maxRecDepth 100000
/-! DW27: sum, max and min of a tuple of ints -/
namespace DW
open PySem PySem.Spec L2
open PyProof.Rows hiding St
theorem reads_intsT {h : Heap} : ∀ {ns : List Int} {us : List Value}, Vals (ns.map V.int) us → ReadsAll h us (ns.map .int) []
  | [], us, r => by
    cases r
    exact .nil
  | n :: ns, us, r => by
    cases r with
    | cons r1 r2 =>
      obtain ⟨t, rfl⟩ := r1
      exact .cons (as := []) (bs := []) (.int n t) (reads_intsT r2)
theorem alike_intsT (ns : List Int) : PySem.W.AlikeAll (ns.map .int) := by
  refine ⟨fun x hx y hy => ?_, fun x hx => ?_⟩
  · obtain ⟨a, _, rfl⟩ := List.mem_map.mp hx
    obtain ⟨b, _, rfl⟩ := List.mem_map.mp hy
    rfl
  · obtain ⟨a, _, rfl⟩ := List.mem_map.mp hx
    simp
theorem depth_intsT : ∀ ns : List Int, PyData.depthAll (ns.map .int) ≤ 1
  | [] => by simp [PyData.depthAll]
  | n :: ns => by
    have := depth_intsT ns
    simp only [List.map_cons, PyData.depthAll, PyData.depth]
    omega
def rAggT (K : PySem.W.Frag) (f : Int → List Int → Int) : List V → Hp → VK → Prop := fun vs H Q => ∃ (a : Addr) (n : Int) (ns : List Int), vs = [V.ref a] ∧ SqT K H a ((n :: ns).map .int) ∧ Q (.int (f n ns)) H
section
variable {X : Cx}
theorem cr_maxT (hc : X.calm = true) (hu : X.A.units + 64 < cLine) : CallR X (.builtin "max") (rAggT X.K fun n ns => ns.foldl max n) := by
  intro pins s σ H vs us Q I r h
  obtain ⟨a, n, ns, rfl, hs, q⟩ := h
  obtain ⟨its, rv, hl, _⟩ := I.tuple hs
  rw [Vals.ref1 r]
  have hd := depth_intsT (n :: ns)
  refine PySem.W.max_tuple_data (x := .int n) (xs := ns.map .int) (as := []) (I.ok.hd hc) hl (reads_intsT rv) (alike_intsT (n :: ns)) (by simp only [List.map_cons] at hd; omega) fun k v h' tk bs hv hr hk => ?_
  rw [PySem.W.maxD_ints] at hr
  cases hr
  exact ⟨.int _, H, I.kept hk, ⟨_, rfl⟩, q⟩
theorem cr_minT (hc : X.calm = true) (hu : X.A.units + 64 < cLine) : CallR X (.builtin "min") (rAggT X.K fun n ns => ns.foldl min n) := by
  intro pins s σ H vs us Q I r h
  obtain ⟨a, n, ns, rfl, hs, q⟩ := h
  obtain ⟨its, rv, hl, _⟩ := I.tuple hs
  rw [Vals.ref1 r]
  have hd := depth_intsT (n :: ns)
  refine PySem.W.min_tuple_data (x := .int n) (xs := ns.map .int) (as := []) (I.ok.hd hc) hl (reads_intsT rv) (alike_intsT (n :: ns)) (by simp only [List.map_cons] at hd; omega) fun k v h' tk bs hv hr hk => ?_
  rw [PySem.W.minD_ints] at hr
  cases hr
  exact ⟨.int _, H, I.kept hk, ⟨_, rfl⟩, q⟩
theorem cr_sumT (hc : X.calm = true) : CallR X (.builtin "sum") (fun vs H Q => ∃ (a : Addr) (ns : List Int), vs = [V.ref a] ∧ SqT X.K H a (ns.map .int) ∧ Q (.int ns.sum) H) := by
  intro pins s σ H vs us Q I r h
  obtain ⟨a, ns, rfl, hs, q⟩ := h
  obtain ⟨its, rv, hl, _⟩ := I.tuple hs
  rw [Vals.ref1 r]
  have hi := rv.ints
  obtain ⟨xs, hx⟩ := hi.allInts.items
  have hn : numsOf its.toArray.toList = ns := by rw [show its.toArray.toList = its from rfl, hi.numsOf]
  have hl2 : s.heap.IsTuple a its.toArray := hl
  rw [hx] at hl2 hn
  rw [nums_intItems] at hn
  refine PySem.W.ktm_sumG (I.ok.hd hc) hl2 fun h' tk t' hk => ?_
  rw [preSum_eq, List.take_of_length_le (by simp), hn]
  exact ⟨.int _, H, I.kept hk, ⟨_, rfl⟩, q⟩
end
section
variable [CF : Cfg] [OG : Org]
variable {X : Cx}
theorem bc_sumT {ns : List Int} (hc : X.calm = true) : BC X (.builtin "sum") [.tuple (ns.map .int)] (.pd (.int ns.sum)) := fun Hs H vs R hs ra k => by
  obtain ⟨v, rfl, rp⟩ := rp1 ra
  cases rp with
  | tup h1 h2 =>
    rw [h2.ints] at h1
    exact sC.of (cr_sumT hc) ⟨_, ns, rfl, .inl (.inl (hs _ _ h1)), k.val hs (.int _)⟩
omit CF OG in
theorem max_fold (n : Int) (ns : List Int) : ns.foldl max n ∈ (n :: ns) ∧ ∀ y ∈ (n :: ns), y ≤ ns.foldl max n := by
  induction ns generalizing n with
  | nil =>
    refine ⟨List.mem_cons_self, fun y hy => ?_⟩
    rw [List.mem_singleton.mp hy]
    exact Int.le_refl _
  | cons a r ih =>
    obtain ⟨h1, h2⟩ := ih (max n a)
    have h3 := h2 _ List.mem_cons_self
    refine ⟨?_, fun y hy => ?_⟩
    · rcases List.mem_cons.mp h1 with e | e
      · show r.foldl max (max n a) ∈ _
        rw [e]
        rcases Int.le_total n a with z | z
        · rw [Int.max_eq_right z]
          simp
        · rw [Int.max_eq_left z]
          simp
      · exact List.mem_cons_of_mem _ (List.mem_cons_of_mem _ e)
    · show y ≤ r.foldl max (max n a)
      rcases List.mem_cons.mp hy with rfl | hy
      · omega
      rcases List.mem_cons.mp hy with rfl | hy
      · omega
      · exact h2 y (List.mem_cons_of_mem _ hy)
omit CF OG in
theorem min_fold (n : Int) (ns : List Int) : ns.foldl min n ∈ (n :: ns) ∧ ∀ y ∈ (n :: ns), ns.foldl min n ≤ y := by
  induction ns generalizing n with
  | nil =>
    refine ⟨List.mem_cons_self, fun y hy => ?_⟩
    rw [List.mem_singleton.mp hy]
    exact Int.le_refl _
  | cons a r ih =>
    obtain ⟨h1, h2⟩ := ih (min n a)
    have h3 := h2 _ List.mem_cons_self
    refine ⟨?_, fun y hy => ?_⟩
    · rcases List.mem_cons.mp h1 with e | e
      · show r.foldl min (min n a) ∈ _
        rw [e]
        rcases Int.le_total n a with z | z
        · rw [Int.min_eq_left z]
          simp
        · rw [Int.min_eq_right z]
          simp
      · exact List.mem_cons_of_mem _ (List.mem_cons_of_mem _ e)
    · show r.foldl min (min n a) ≤ y
      rcases List.mem_cons.mp hy with rfl | hy
      · omega
      rcases List.mem_cons.mp hy with rfl | hy
      · omega
      · exact h2 y (List.mem_cons_of_mem _ hy)
omit CF OG in
theorem max_uni {ns : List Int} {a b : Int} (h1 : a ∈ ns ∧ ∀ y ∈ ns, y ≤ a) (h2 : b ∈ ns ∧ ∀ y ∈ ns, y ≤ b) : a = b := by
  have := h1.2 b h2.1
  have := h2.2 a h1.1
  omega
omit CF OG in
theorem min_uni {ns : List Int} {a b : Int} (h1 : a ∈ ns ∧ ∀ y ∈ ns, a ≤ y) (h2 : b ∈ ns ∧ ∀ y ∈ ns, b ≤ y) : a = b := by
  have := h1.2 b h2.1
  have := h2.2 a h1.1
  omega
theorem bc_maxT {ns : List Int} {m : Int} (h0 : m ∈ ns) (hm : ∀ y ∈ ns, y ≤ m) (hu : X.A.units + 64 < cLine) (hc : X.calm = true) : BC X (.builtin "max") [.tuple (ns.map .int)] (.pd (.int m)) := fun Hs H vs R hs ra k => by
  obtain ⟨v, rfl, rp⟩ := rp1 ra
  cases rp with
  | tup h1 h2 =>
    rw [h2.ints] at h1
    cases ns with
    | nil => cases h0
    | cons n ns =>
      rw [max_uni ⟨h0, hm⟩ (max_fold n ns)] at k
      exact sC.of (cr_maxT hc hu) ⟨_, n, ns, rfl, .inl (.inl (hs _ _ h1)), k.val hs (.int _)⟩
theorem bc_minT {ns : List Int} {m : Int} (h0 : m ∈ ns) (hm : ∀ y ∈ ns, m ≤ y) (hu : X.A.units + 64 < cLine) (hc : X.calm = true) : BC X (.builtin "min") [.tuple (ns.map .int)] (.pd (.int m)) := fun Hs H vs R hs ra k => by
  obtain ⟨v, rfl, rp⟩ := rp1 ra
  cases rp with
  | tup h1 h2 =>
    rw [h2.ints] at h1
    cases ns with
    | nil => cases h0
    | cons n ns =>
      rw [min_uni ⟨h0, hm⟩ (min_fold n ns)] at k
      exact sC.of (cr_minT hc hu) ⟨_, n, ns, rfl, .inl (.inl (hs _ _ h1)), k.val hs (.int _)⟩
end
end DW

set_option Elab.async false
set_option autoImplicit false
set_option linter.all false
set_option maxRecDepth 100000
set_option maxHeartbeats 1000000
/-! DZ: zip of any number of lists and tuples, mixed -/
namespace DZ
open PySem
/-- one thing that is walked: a list or a tuple, its iterator, its items -/
structure Src where
  k : Bool
  it : Addr
  l : Addr
def SIt (h : Heap) (c : Src) (i : Nat) : Prop := match c.k with
  | true => h.IsListIter c.it c.l i
  | false => h.IsTupleIter c.it c.l i
def SSq (h : Heap) (c : Src) (xs : Array Value) : Prop := match c.k with
  | true => h.IsList c.l xs
  | false => h.IsTuple c.l xs
theorem SIt.stay {h h' : Heap} {c : Src} {i : Nat} (x : SIt h c i) (e : ∀ o, h.get? c.it = some o → h'.get? c.it = some o) : SIt h' c i := by
  unfold SIt at x ⊢
  split at x
  · exact x.at e
  · exact x.at e
theorem SSq.stay {h h' : Heap} {c : Src} {xs : Array Value} (x : SSq h c xs) (e : ∀ o, h.get? c.l = some o → h'.get? c.l = some o) : SSq h' c xs := by
  unfold SSq at x ⊢
  split at x
  · exact x.at e
  · exact x.at e
theorem SIt.there {h : Heap} {c : Src} {i : Nat} (x : SIt h c i) : ∃ o, h.get? c.it = some o := by
  unfold SIt at x
  split at x <;> (obtain ⟨o, ho, _⟩ := x; exact ⟨o, ho⟩)
section
variable {prog : Program} {w : World} {A : Around} {E : Value → Shared → Prop} {s : Shared}
theorem nx_item {c : Src} {xs : Array Value} {i : Nat} {x : Value} {Q : Value → Shared → Prop} (hi : SIt s.heap c i) (hl : SSq s.heap c xs) (hx : xs[i]? = some x)
    (hq : ∀ h', SIt h' c (i + 1) → Heap.SameBut c.it s.heap h' → Q x { s with heap := h' }) : wpAny (model prog w) A (Builtin.SmallTypes.nextOf (.ref c.it)) Q E s := by
  obtain ⟨k, it, l⟩ := c
  cases k
  · exact RZ.nextOf_tuple_item hi hl hx hq
  · exact wpAny_nextOf_list_item hi hl hx hq
theorem nx_end {c : Src} {xs : Array Value} {i : Nat} {Q : Value → Shared → Prop} (hh : A.handled = none) (hi : SIt s.heap c i) (hl : SSq s.heap c xs) (hx : xs[i]? = none)
    (hE : ∀ h' e, Heap.ExtBut c.it s.heap h' → (∃ o, h'.get? e = some o ∧ o.cls = .type "StopIteration") → E (.ref e) { s with heap := h' }) : wpAny (model prog w) A (Builtin.SmallTypes.nextOf (.ref c.it)) Q E s := by
  obtain ⟨k, it, l⟩ := c
  cases k
  · exact RZ.nextOf_tuple_end hh hi hl hx hE
  · exact wpAny_nextOf_list_end hh hi hl hx hE
/-- a loop over numbered things whose state is left as it was -/
theorem loop_in {M : Model} {β : Type} {body : Value × Nat → β → Sem (ForInStep β)} {b : β} (P : Nat → Shared → Prop) : ∀ (L : List Value) (n : Nat) (s : Shared),
    (∀ k v s, L[k]? = some v → P (n + k) s → wpAny M A (body (v, n + k) b) (fun r s' => r = .yield b ∧ P (n + k + 1) s') E s) → P n s → wpAny M A (forIn (L.zipIdx n) b body) (fun r s' => r = b ∧ P (n + L.length) s') E s
  | [], n, s, _, h => by
    rw [List.zipIdx_nil, List.forIn_nil]
    exact wpAny_pure ⟨rfl, h⟩
  | v :: L, n, s, ht, h => by
    rw [List.zipIdx_cons, List.forIn_cons]
    refine wpAny_bind (wpAny_mono (ht 0 v s rfl h) (fun r s' hr => ?_) fun _ _ z => z)
    obtain ⟨rfl, h1⟩ := hr
    have z := loop_in P L (n + 1) s' (fun k v s hk hp => by
      have y := ht (k + 1) v s (by simpa using hk) (by rw [show n + (k + 1) = n + 1 + k from by omega]; exact hp)
      rw [show n + (k + 1) = n + 1 + k from by omega] at y
      exact y) h1
    rw [show n + (v :: L).length = n + 1 + L.length from by simp; omega]
    exact z
/-- the same, left by an error at the m-th thing -/
theorem loop_out {M : Model} {β : Type} {body : Value × Nat → β → Sem (ForInStep β)} {b : β} {Q : β → Shared → Prop} (P : Nat → Shared → Prop) (m : Nat) : ∀ (L : List Value) (n : Nat) (s : Shared), n ≤ m → m < n + L.length →
    (∀ k v s, L[k]? = some v → n + k < m → P (n + k) s → wpAny M A (body (v, n + k) b) (fun r s' => r = .yield b ∧ P (n + k + 1) s') E s) →
    (∀ k v s, L[k]? = some v → n + k = m → P (n + k) s → wpAny M A (body (v, n + k) b) (fun _ _ => False) E s) → P n s → wpAny M A (forIn (L.zipIdx n) b body) Q E s
  | [], n, s, h1, h2, _, _, h => by
    rw [List.length_nil] at h2
    omega
  | v :: L, n, s, h1, h2, ht, he, h => by
    rw [List.zipIdx_cons, List.forIn_cons]
    by_cases hm : n = m
    · exact wpAny_bind (wpAny_mono (he 0 v s rfl hm h) (fun r s' hr => hr.elim) fun _ _ z => z)
    · refine wpAny_bind (wpAny_mono (ht 0 v s rfl (by omega) h) (fun r s' hr => ?_) fun _ _ z => z)
      obtain ⟨rfl, h3⟩ := hr
      have e1 : ∀ k, n + (k + 1) = n + 1 + k := fun k => by omega
      refine loop_out P m L (n + 1) s' (by omega) (by rw [List.length_cons] at h2; omega) (fun k v s hk hl hp => ?_) (fun k v s hk hl hp => ?_) h3
      · have y := ht (k + 1) v s (by simpa using hk) (by omega) (by rw [e1]; exact hp)
        rw [e1] at y
        exact y
      · have y := he (k + 1) v s (by simpa using hk) (by omega) (by rw [e1]; exact hp)
        rw [e1] at y
        exact y
end
/-- all that a zip holds stands apart -/
structure Apt (z TI TO : Addr) (S : List Src) : Prop where
  zi : TI ≠ z
  zo : TO ≠ z
  io : TI ≠ TO
  it : ∀ c ∈ S, c.it ≠ z ∧ c.it ≠ TI ∧ c.it ≠ TO ∧ c.l ≠ z ∧ c.l ≠ TO
  two : ∀ (j k : Nat) (c d : Src), S[j]? = some c → S[k]? = some d → j ≠ k → c.it ≠ d.it
  src : ∀ c ∈ S, ∀ d ∈ S, c.l ≠ d.it
/-- a zip between two turns -/
structure Zi (h : Heap) (z TI TO : Addr) (S : List Src) (i : Nat) : Prop where
  hz : IsZip h z TI TO .none
  hti : h.get? TI = some { cls := .type "tuple", data := .seq (S.map fun c => Value.ref c.it).toArray }
  hto : ∃ vs : List Value, vs.length = S.length ∧ h.get? TO = some { cls := .type "tuple", data := .seq vs.toArray }
  hit : ∀ c ∈ S, SIt h c i
/-- within a turn: the first k have been asked -/
structure Zk (Xs : Nat → Array Value) (h0 : Heap) (z TI TO : Addr) (S : List Src) (i k : Nat) (h : Heap) : Prop where
  sz : h.objs.size = h0.objs.size
  hz : IsZip h z TI TO .ellipsis
  hto : ∃ vs : List Value, vs.length = S.length ∧ h.get? TO = some { cls := .type "tuple", data := .seq vs.toArray } ∧ ∀ j c, j < k → S[j]? = some c → (Xs j)[i]? = vs[j]?
  hit : ∀ j c, S[j]? = some c → SIt h c (if j < k then i + 1 else i)
  keep : ∀ b o, b ≠ z → b ≠ TO → (∀ c ∈ S, b ≠ c.it) → h0.get? b = some o → h.get? b = some o
section
variable {prog : Program} {w : World} {A : Around} {E : Value → Shared → Prop} {s : Shared} {z TI TO : Addr} {S : List Src} {i : Nat} {Xs : Nat → Array Value}
theorem at_map {S : List Src} {k : Nat} {v : Value} (h : (S.map fun c => Value.ref c.it)[k]? = some v) : ∃ c, S[k]? = some c ∧ v = .ref c.it := by
  rw [List.getElem?_map] at h
  cases e : S[k]? with
  | none =>
    rw [e] at h
    cases h
  | some c =>
    rw [e] at h
    cases h
    exact ⟨c, rfl, rfl⟩
/-- one thing is asked -/
theorem Zk.step {h0 h h2 h3 : Heap} {k : Nat} {c : Src} {x : Value} (D : Apt z TI TO S) (hc : S[k]? = some c) (K : Zk Xs h0 z TI TO S i k h) (h1 : SIt h2 c (i + 1)) (sb : Heap.SameBut c.it h h2) (sb2 : Heap.SameBut TO h2 h3) (hx : (Xs k)[i]? = some x)
    {vs : List Value} (hv : vs.length = S.length) (hp : ∀ (j : Nat) (c : Src), j < k → S[j]? = some c → (Xs j)[i]? = vs[j]?) (ht : h3.get? TO = some { cls := .type "tuple", data := .seq (vs.set k x).toArray }) : Zk Xs h0 z TI TO S i (k + 1) h3 := by
  have mem := List.mem_of_getElem? hc
  have hk : k < S.length := (List.getElem?_eq_some_iff.mp hc).1
  obtain ⟨a1, a2, a3, a4, a5⟩ := D.it c mem
  refine ⟨by rw [sb2.1, sb.1, K.sz], sb2.extBut _ _ D.zo.symm (sb.extBut _ _ a1.symm K.hz), ⟨vs.set k x, by simpa using hv, ht, fun j d hj hd => ?_⟩, fun j d hd => ?_, fun b o n1 n2 n3 e => sb2.extBut _ _ n2 (sb.extBut _ _ (n3 c mem) (K.keep b o n1 n2 n3 e))⟩
  · by_cases e : j = k
    · subst e
      rw [hc] at hd
      cases hd
      rw [List.getElem?_set_self (by omega), hx]
    · rw [List.getElem?_set_ne (Ne.symm e)]
      exact hp j d (by omega) hd
  · have mem2 := List.mem_of_getElem? hd
    obtain ⟨_, _, b3, _, _⟩ := D.it d mem2
    by_cases e : j = k
    · subst e
      rw [hc] at hd
      cases hd
      rw [if_pos (Nat.lt_succ_self _)]
      exact h1.stay fun o q => sb2.extBut _ _ b3 q
    · have y := K.hit j d hd
      have ne : d.it ≠ c.it := D.two j k d c hd hc e
      have e2 : (if j < k + 1 then i + 1 else i) = if j < k then i + 1 else i := by
        by_cases h : j < k
        · rw [if_pos h, if_pos (by omega)]
        · rw [if_neg h, if_neg (by omega)]
      rw [e2]
      exact y.stay fun o q => sb2.extBut _ _ b3 (sb.extBut _ _ ne q)
theorem zn_item {us : List Value} {Q : Value → Shared → Prop} (D : Apt z TI TO S) (Z : Zi s.heap z TI TO S i) (hS : S ≠ []) (hL : S.length ≤ 10) (sq : ∀ (j : Nat) (c : Src), S[j]? = some c → SSq s.heap c (Xs j)) (hu : us.length = S.length) (hus : ∀ (j : Nat) (c : Src), S[j]? = some c → (Xs j)[i]? = us[j]?)
    (hq : ∀ h', IsZip h' z TI TO (rawInt s.heap.objs.size) → h'.get? TI = some { cls := .type "tuple", data := .seq (S.map fun c => Value.ref c.it).toArray } → (∃ vs : List Value, vs.length = S.length ∧ h'.get? TO = some { cls := .type "tuple", data := .seq vs.toArray }) →
      (∀ c ∈ S, SIt h' c (i + 1)) → h'.get? s.heap.objs.size = some { cls := .type "tuple", data := .seq us.toArray } → h'.objs.size = s.heap.objs.size + 1 → (∀ b o, b ≠ z → b ≠ TO → (∀ c ∈ S, b ≠ c.it) → s.heap.get? b = some o → h'.get? b = some o) → Q (.ref s.heap.objs.size) { s with heap := h' }) :
    wpAny (model prog w) A (Builtin.«zip.__next__» ⟨[.ref z], []⟩) (fun fin s' => ∃ v, fin = .done (.ret v) ∧ Q v s') E s := by
  obtain ⟨vs0, hv0, hto0⟩ := Z.hto
  refine wpAny_bind (m := field (.ref z) 2) (wpAny_field Z.hz rfl (x := .bool false) rfl ?_)
  refine wpAny_bind (m := field (.ref z) 3) (wpAny_field Z.hz rfl (x := .ref TI) rfl ?_)
  refine wpAny_bind (wpAny_seqItems Z.hti rfl ?_)
  have ne : ((S.map fun c => Value.ref c.it).toArray).isEmpty = false := by
    cases S with
    | nil => exact absurd rfl hS
    | cons c r => rfl
  simp only [ne, Bool.false_eq_true, if_false]
  unfold Builtin.SmallTypes.ownedTupleIsFree
  refine wpAny_bind (wpAny_bind (wpAny_field Z.hz rfl (x := .none) rfl (wpAny_pure ?_)))
  simp only [beq_self_eq_true, if_true]
  refine wpAny_bind (wpAny_rule (wpAny_bind (wpAny_field Z.hz rfl (x := .ref TO) rfl ?_)))
  refine wpAny_bind (wpAny_setField_rec Z.hz (by simp) fun h₁ hz₁ sb => ?_)
  have K0 : Zk Xs s.heap z TI TO S i 0 h₁ := ⟨sb.1, hz₁, ⟨vs0, hv0, sb.extBut _ _ D.zo hto0, fun j c hj => absurd hj (Nat.not_lt_zero _)⟩,
    fun j c hc => by
      rw [if_neg (Nat.not_lt_zero _)]
      exact (Z.hit c (List.mem_of_getElem? hc)).stay fun o e => sb.extBut _ _ (D.it c (List.mem_of_getElem? hc)).1 e,
    fun b o n1 _ _ e => sb.extBut _ _ n1 e⟩
  refine wpAny_bind (wpAny_mono (loop_in (fun k s' => ∃ h, s' = { s with heap := h } ∧ Zk Xs s.heap z TI TO S i k h) _ 0 _ (fun k v s' hk hs' => ?_) ⟨h₁, rfl, K0⟩) (fun r s' hr => ?_) fun _ _ x => x)
  · rw [Nat.zero_add] at hs' ⊢
    obtain ⟨h, rfl, K⟩ := hs'
    obtain ⟨c, hc, rfl⟩ := at_map hk
    have mem := List.mem_of_getElem? hc
    have hkl : k < S.length := (List.getElem?_eq_some_iff.mp hc).1
    obtain ⟨x, hx⟩ : ∃ x, us[k]? = some x := ⟨us[k], by simp [hu, hkl]⟩
    refine wpAny_bind (wpAny_onRaise ?_)
    have hit := K.hit k c hc
    rw [if_neg (Nat.lt_irrefl _)] at hit
    obtain ⟨a1, a2, a3, a4, a5⟩ := D.it c mem
    have sqc : SSq h c (Xs k) := (sq k c hc).stay fun o e => K.keep _ _ a4 a5 (fun d hd => D.src c mem d hd) e
    refine wpAny_bind (m := Builtin.SmallTypes.nextOf (.ref c.it)) (nx_item (s := { s with heap := h }) hit sqc ((hus k c hc).trans hx) fun h₂ hi₂ sb₂ => wpAny_pure ?_)
    obtain ⟨vs, hv, hto, hp⟩ := K.hto
    have hto2 := sb₂.extBut _ _ (Ne.symm a3) hto
    refine wpAny_bind (wpAny_seqItems hto2 rfl ?_)
    refine wpAny_bind (wpAny_updateSeq hto2 rfl ?_ (by rw [List.size_toArray, hv, sizeLine_eq]; omega) (by rw [Array.size_setIfInBounds, List.size_toArray, hv, sizeLine_eq]; omega))
    refine wpAny_bind (wpAny_letGo (wpAny_pure ⟨rfl, _, rfl, ?_⟩))
    refine K.step D hc hi₂ sb₂ (Heap.SameBut.update ..) ((hus k c hc).trans hx) hv hp ?_
    rw [Heap.get?_update_self _ hto2 rfl]
    simp [Obj.mapSeq]
  · obtain ⟨rfl, h5, rfl, K⟩ := hr
    rw [Nat.zero_add, List.length_map] at K
    obtain ⟨vs, hv, hto, hp⟩ := K.hto
    have evs : vs = us := by
      refine List.ext_getElem? fun j => ?_
      by_cases hj : j < S.length
      · have hc : S[j]? = some S[j] := by simp [hj]
        rw [← hp j _ hj hc, hus j _ hc]
      · rw [List.getElem?_eq_none (by omega), List.getElem?_eq_none (by omega)]
    subst evs
    refine wpAny_bind (wpAny_seqItems hto rfl ?_)
    refine wpAny_bind (wpAny_newTuple ?_)
    have hzl : z < h5.objs.size := Heap.lt_size K.hz
    unfold Builtin.SmallTypes.ownedTupleHandOut
    refine wpAny_bind ?_
    refine wpAny_bind (wpAny_setField_rec (s := { s with heap := _ }) (Heap.get?_push_of_some _ K.hz) (by simp) fun h₇ hz₇ hs₇ => ?_)
    refine wpAny_setField_rec (s := { s with heap := h₇ }) hz₇ (by simp) fun h₈ hz₈ hs₈ => ?_
    have up : ∀ b o, b ≠ z → h5.get? b = some o → h₈.get? b = some o := fun b o n e => hs₈.extBut _ _ n (hs₇.extBut _ _ n (Heap.get?_push_of_some _ e))
    have hT : h₈.get? h5.objs.size = some _ := hs₈.extBut _ _ (Nat.ne_of_gt hzl) (hs₇.extBut _ _ (Nat.ne_of_gt hzl) (Heap.get?_push_size _ rfl))
    have size8 : h₈.objs.size = h5.objs.size + 1 := by rw [hs₈.1, hs₇.1, Heap.size_push]
    have es := K.sz
    rw [es] at hT size8
    refine wpAny_pure ⟨_, rfl, ?_⟩
    show Q (.ref h5.objs.size) _
    rw [es]
    have zz : IsZip h₈ z TI TO (rawInt h5.objs.size) := hz₈
    rw [es] at zz
    refine hq h₈ zz (up _ _ D.zi (K.keep _ _ D.zi D.io (fun c hc => (D.it c hc).2.1.symm) Z.hti)) ⟨vs, hv, up _ _ D.zo hto⟩ (fun c hc => ?_) hT size8 fun b o n1 n2 n3 e => up _ _ n1 (K.keep _ _ n1 n2 n3 e)
    obtain ⟨j, hj⟩ := List.getElem?_of_mem hc
    have y := K.hit j c hj
    rw [if_pos (List.getElem?_eq_some_iff.mp hj).1] at y
    exact y.stay fun o e => up _ _ (D.it c hc).1 e
theorem zn_end {Q : Fin → Shared → Prop} {m : Nat} {cm : Src} (hh : A.handled = none) (D : Apt z TI TO S) (Z : Zi s.heap z TI TO S i) (hL : S.length ≤ 10) (sq : ∀ (j : Nat) (c : Src), S[j]? = some c → SSq s.heap c (Xs j)) (hm : S[m]? = some cm) (hx : (Xs m)[i]? = none) (hlt : ∀ (j : Nat) (c : Src), j < m → S[j]? = some c → ∃ x, (Xs j)[i]? = some x)
    (hE : ∀ h' e, (∀ b o, b ≠ z → b ≠ TO → (∀ c ∈ S, b ≠ c.it) → s.heap.get? b = some o → h'.get? b = some o) → (∃ o, h'.get? e = some o ∧ o.cls = .type "StopIteration") → E (.ref e) { s with heap := h' }) :
    wpAny (model prog w) A (Builtin.«zip.__next__» ⟨[.ref z], []⟩) Q E s := by
  have hml : m < S.length := (List.getElem?_eq_some_iff.mp hm).1
  obtain ⟨vs0, hv0, hto0⟩ := Z.hto
  refine wpAny_bind (m := field (.ref z) 2) (wpAny_field Z.hz rfl (x := .bool false) rfl ?_)
  refine wpAny_bind (m := field (.ref z) 3) (wpAny_field Z.hz rfl (x := .ref TI) rfl ?_)
  refine wpAny_bind (wpAny_seqItems Z.hti rfl ?_)
  have ne : ((S.map fun c => Value.ref c.it).toArray).isEmpty = false := by
    cases S with
    | nil => exact absurd hml (Nat.not_lt_zero _)
    | cons c r => rfl
  simp only [ne, Bool.false_eq_true, if_false]
  unfold Builtin.SmallTypes.ownedTupleIsFree
  refine wpAny_bind (wpAny_bind (wpAny_field Z.hz rfl (x := .none) rfl (wpAny_pure ?_)))
  simp only [beq_self_eq_true, if_true]
  refine wpAny_bind (wpAny_rule (wpAny_bind (wpAny_field Z.hz rfl (x := .ref TO) rfl ?_)))
  refine wpAny_bind (wpAny_setField_rec Z.hz (by simp) fun h₁ hz₁ sb => ?_)
  have K0 : Zk Xs s.heap z TI TO S i 0 h₁ := ⟨sb.1, hz₁, ⟨vs0, hv0, sb.extBut _ _ D.zo hto0, fun j c hj => absurd hj (Nat.not_lt_zero _)⟩,
    fun j c hc => by
      rw [if_neg (Nat.not_lt_zero _)]
      exact (Z.hit c (List.mem_of_getElem? hc)).stay fun o e => sb.extBut _ _ (D.it c (List.mem_of_getElem? hc)).1 e,
    fun b o n1 _ _ e => sb.extBut _ _ n1 e⟩
  refine wpAny_bind (loop_out (fun k s' => ∃ h, s' = { s with heap := h } ∧ Zk Xs s.heap z TI TO S i k h) m _ 0 _ (Nat.zero_le _) (by rw [Nat.zero_add, List.length_map]; exact hml) (fun k v s' hk hlt' hs' => ?_) (fun k v s' hk he hs' => ?_) ⟨h₁, rfl, K0⟩)
  · rw [Nat.zero_add] at hs' hlt' ⊢
    obtain ⟨h, rfl, K⟩ := hs'
    obtain ⟨c, hc, rfl⟩ := at_map hk
    have mem := List.mem_of_getElem? hc
    have hkl : k < S.length := (List.getElem?_eq_some_iff.mp hc).1
    obtain ⟨x, hx⟩ := hlt k c hlt' hc
    refine wpAny_bind (wpAny_onRaise ?_)
    have hit := K.hit k c hc
    rw [if_neg (Nat.lt_irrefl _)] at hit
    obtain ⟨a1, a2, a3, a4, a5⟩ := D.it c mem
    have sqc : SSq h c (Xs k) := (sq k c hc).stay fun o e => K.keep _ _ a4 a5 (fun d hd => D.src c mem d hd) e
    refine wpAny_bind (m := Builtin.SmallTypes.nextOf (.ref c.it)) (nx_item (s := { s with heap := h }) hit sqc hx fun h₂ hi₂ sb₂ => wpAny_pure ?_)
    obtain ⟨vs, hv, hto, hp⟩ := K.hto
    have hto2 := sb₂.extBut _ _ (Ne.symm a3) hto
    refine wpAny_bind (wpAny_seqItems hto2 rfl ?_)
    refine wpAny_bind (wpAny_updateSeq hto2 rfl ?_ (by rw [List.size_toArray, hv, sizeLine_eq]; omega) (by rw [Array.size_setIfInBounds, List.size_toArray, hv, sizeLine_eq]; omega))
    refine wpAny_bind (wpAny_letGo (wpAny_pure ⟨rfl, _, rfl, ?_⟩))
    refine K.step D hc hi₂ sb₂ (Heap.SameBut.update ..) hx hv hp ?_
    rw [Heap.get?_update_self _ hto2 rfl]
    simp [Obj.mapSeq]
  · rw [Nat.zero_add] at hs' he ⊢
    subst he
    obtain ⟨h, rfl, K⟩ := hs'
    obtain ⟨c, hc, rfl⟩ := at_map hk
    rw [hm] at hc
    cases hc
    have mem := List.mem_of_getElem? hm
    have hit := K.hit k cm hm
    rw [if_neg (Nat.lt_irrefl _)] at hit
    obtain ⟨a1, a2, a3, a4, a5⟩ := D.it cm mem
    have sqc : SSq h cm (Xs k) := (sq k cm hm).stay fun o e => K.keep _ _ a4 a5 (fun d hd => D.src cm mem d hd) e
    refine wpAny_bind (wpAny_onRaise ?_)
    refine wpAny_bind (m := Builtin.SmallTypes.nextOf (.ref cm.it)) (nx_end (s := { s with heap := h }) hh hit sqc hx fun h₂ e sb₂ he => ?_)
    obtain ⟨oe, hoe, hce⟩ := he
    have hz₂ : IsZip h₂ z TI TO .ellipsis := sb₂ _ _ a1.symm K.hz
    have hez : e ≠ z := fun y => by
      subst y
      rw [hz₂] at hoe
      cases hoe
      simp at hce
    exact wpAny_setField_rec (s := { s with heap := h₂ }) hz₂ (by simp) fun h₃ _ sb₃ => hE h₃ e (fun b o n1 n2 n3 y => sb₃.extBut _ _ n1 (sb₂ _ _ (n3 cm mem) (K.keep b o n1 n2 n3 y))) ⟨oe, sb₃.extBut _ _ hez hoe, hce⟩
end
end DZ

set_option Elab.async false
set_option autoImplicit false
set_option linter.all false
set_option maxRecDepth 100000
set_option maxHeartbeats 1000000
/-! DZ2: what a for over such a zip meets -/
namespace DZ
open PySem PySem.Spec PyProof.Rows L2
def SqK (K : PySem.W.Frag) (H : Hp) (p : Bool × Addr) (xs : List V) : Prop := match p.1 with
  | true => SqL K H p.2 xs
  | false => SqT K H p.2 xs
def ItN (K : PySem.W.Frag) (B : List (Bool × Addr)) : It :=
  ⟨fun i H => ∀ (j : Nat) (p : Bool × Addr), B[j]? = some p → ∃ (xs : List V) (x : V), SqK K H p xs ∧ xs[i]? = some x,
   fun i H v H' => ∃ (T : Addr) (vs : List V), v = .ref T ∧ H T = none ∧ H' = upd H T (.tup vs) ∧ vs.length = B.length ∧ ∀ (j : Nat) (p : Bool × Addr) (xs : List V), B[j]? = some p → SqK K H p xs → xs[i]? = vs[j]?,
   fun i H => (∀ (j : Nat) (p : Bool × Addr), B[j]? = some p → ∃ xs : List V, SqK K H p xs) ∧ ∃ (j : Nat) (p : Bool × Addr) (xs : List V), B[j]? = some p ∧ SqK K H p xs ∧ xs.length ≤ i⟩
section
variable {X : Cx} {pins : List (Addr × Obj)} {σ : L2.St} {H : Hp} {s : Shared}
theorem sq_at (I : Inv X pins σ H s) {k : Bool} {it l : Addr} {xs : List V} (h : SqK X.K H (k, l) xs) : ∃ its : List Value, Vals xs its ∧ SSq s.heap ⟨k, it, l⟩ its.toArray := by
  cases k
  · obtain ⟨its, r, p, _⟩ := I.tuple h
    exact ⟨its, r, p⟩
  · obtain ⟨its, r, p, _⟩ := I.list h
    exact ⟨its, r, p.isList⟩
theorem sq_inj (I : Inv X pins σ H s) {p : Bool × Addr} {xs ys : List V} (h : SqK X.K H p xs) (h' : SqK X.K H p ys) : xs = ys := by
  obtain ⟨k, l⟩ := p
  cases k
  · exact I.tuple_inj h h'
  · exact I.list_inj h h'
end
theorem least_of {p : Nat → Prop} : ∀ {n : Nat}, p n → ∃ m, p m ∧ ∀ k, k < m → ¬ p k := by
  intro n
  induction n using Nat.strongRecOn with
  | ind n ih =>
    intro h
    by_cases c : ∃ k, k < n ∧ p k
    · obtain ⟨k, h1, h2⟩ := c
      exact ih k h1 h2
    · exact ⟨n, h, fun k hk hp => c ⟨k, hk, hp⟩⟩
theorem turn_zipN {P : Program} {w : World} {K : PySem.W.Frag} {elts : List Expr} {kk : Nat} {tpos : Pos} {z TI TO : Addr} {S : List Src} (D : Apt z TI TO S) (hS : S ≠ []) (hL : S.length ≤ 10) :
    Turn P w K (.Tuple elts kk tpos) (ItN K (S.map fun c => (c.k, c.l))) (z :: TI :: TO :: S.map (·.it)) z (fun i h => Zi h z TI TO S i) where
  mem := List.mem_cons_self
  obj := fun i h Z b hb => by
    rcases List.mem_cons.mp hb with rfl | hb
    · exact ⟨_, Z.hz, fun v q => nomatch q⟩
    rcases List.mem_cons.mp hb with rfl | hb
    · exact ⟨_, Z.hti, fun v q => nomatch q⟩
    rcases List.mem_cons.mp hb with rfl | hb
    · obtain ⟨vs, _, e⟩ := Z.hto
      exact ⟨_, e, fun v q => nomatch q⟩
    · obtain ⟨c, hc, rfl⟩ := List.mem_map.mp hb
      have y := Z.hit c hc
      unfold SIt at y
      split at y
      · obtain ⟨o, e, _, d⟩ := y
        exact ⟨o, e, fun v q => by rw [d] at q; cases q⟩
      · obtain ⟨o, e, _, d⟩ := y
        exact ⟨o, e, fun v q => by rw [d] at q; cases q⟩
  keep := fun i h h' Z k => by
    obtain ⟨vs, hv, e⟩ := Z.hto
    exact ⟨k _ (by simp) _ Z.hz, k _ (by simp) _ Z.hti, ⟨vs, hv, k _ (by simp) _ e⟩, fun c hc => (Z.hit c hc).stay fun o q => k c.it (by simp; exact .inr (.inr (.inr ⟨c, hc, rfl⟩))) o q⟩
  item := by
    intro X hP hw hK hc i pins s σ H E I hf Z hg
    subst hP hw hK
    have B : ∀ (j : Nat) (c : Src), S[j]? = some c → (S.map fun c => (c.k, c.l))[j]? = some (c.k, c.l) := fun j c hj => by rw [List.getElem?_map, hj]; rfl
    have ch : ∀ j : Nat, ∃ q : List V × List Value × V × Value, ∀ c, S[j]? = some c → SqK X.K H (c.k, c.l) q.1 ∧ Vals q.1 q.2.1 ∧ SSq s.heap c q.2.1.toArray ∧ q.1[i]? = some q.2.2.1 ∧ q.2.1[i]? = some q.2.2.2 ∧ RelV q.2.2.1 q.2.2.2 := fun j => by
      cases e : S[j]? with
      | none => exact ⟨([], [], .non, .none), fun c hc => by cases hc⟩
      | some c =>
        obtain ⟨xs, x, h1, h2⟩ := hg j _ (B j c e)
        obtain ⟨its, h3, h4⟩ := sq_at (it := c.it) I h1
        obtain ⟨u, h5, h6⟩ := h3.get h2
        exact ⟨(xs, its, x, u), fun d hd => by cases hd; exact ⟨h1, h3, h4, h2, h5, h6⟩⟩
    obtain ⟨f, hfn⟩ := Classical.axiomOfChoice ch
    have hzl : z < s.heap.objs.size := Heap.lt_size Z.hz
    have rl : ∀ (n : Nat) (L : List Nat), (∀ j ∈ L, j < S.length) → Vals (L.map fun j => (f j).2.2.1) (L.map fun j => (f j).2.2.2) := fun _ L => by
      induction L with
      | nil => exact fun _ => .nil
      | cons j L ih => exact fun hL => .cons ((hfn j (S[j]'(hL j List.mem_cons_self)) (List.getElem?_eq_getElem (hL j List.mem_cons_self))).2.2.2.2.2) (ih fun k hk => hL k (List.mem_cons_of_mem _ hk))
    have rel := rl 0 (List.range S.length) (fun j hj => List.mem_range.mp hj)
    have at1 : ∀ {α : Type} (g : Nat → α) (j : Nat), j < S.length → ((List.range S.length).map g)[j]? = some (g j) := fun g j hj => by simp [hj]
    have hT := fun (j : Nat) (c : Src) (hc : S[j]? = some c) => (List.getElem?_eq_some_iff.mp hc).1
    unfold pyNext
    have ty : s.TypeIs (.ref z) "zip" := ⟨_, Z.hz, rfl⟩
    refine wpAny_bind (wpAny_attempt (wpAny_callSpecial?_slot (name := Str.ofString "__next__") ty F.slot_zip_next (wpAny_call_entry F.slot_zip_next ty F.entry_zip_next
      (zn_item (Xs := fun j => (f j).2.1.toArray) (us := (List.range S.length).map fun j => (f j).2.2.2) D Z hS hL (fun j c hc => (hfn j c hc).2.2.1) (by simp) (fun j c hc => by
        rw [at1 _ j (hT j c hc)]
        simpa using (hfn j c hc).2.2.2.2.1) fun h' z' ti' to' it' hn hsz keep => ?_) (F.args_zip_next_1 _))))
    refine wpAny_pure ⟨_, rfl, wpAny_letOwnedTupleGo_zip (s := { s with heap := h' }) z' fun h'' z'' sb => ?_⟩
    have nz : s.heap.objs.size ≠ z := Nat.ne_of_gt hzl
    have hn2 := (sb.2 _ nz).trans hn
    have new : ObjOk X.prog X.w (upd H s.heap.objs.size (.tup ((List.range S.length).map fun j => (f j).2.2.1))) h'' s.heap.objs.size (.tup ((List.range S.length).map fun j => (f j).2.2.1)) :=
      ⟨by rw [List.length_map, List.length_range, sizeLine_eq]; omega, _, rel, ⟨_, hn2, rfl, _, rfl⟩⟩
    have I1 : Inv X pins σ (upd H s.heap.objs.size (.tup ((List.range S.length).map fun j => (f j).2.2.1))) { s with heap := h'' } :=
      I.turnedNew (t' := s.toks) (ch := z :: TI :: TO :: S.map (·.it)) (fun b o hb q => by
        simp only [List.mem_cons, List.mem_map, not_or, not_exists, not_and] at hb
        exact (sb.2 b hb.1).trans (keep b o hb.1 hb.2.2.1 (fun c hc e => hb.2.2.2 c hc e.symm) q)) hf (Nat.le_refl _) new
    refine ⟨.ref s.heap.objs.size, _, I1, rfl, ⟨_, _, rfl, I.hok.fresh (Nat.le_refl _), rfl, by simp, fun j p xs hp hx => ?_⟩, ⟨z'', (sb.2 _ D.zi).trans ti', ?_, fun c hc => (it' c hc).stay fun o q => (sb.2 _ (D.it c hc).1).trans q⟩, fun b hb => ?_⟩
    · rw [List.getElem?_map] at hp
      cases e : S[j]? with
      | none => rw [e] at hp; cases hp
      | some c =>
        rw [e] at hp
        cases hp
        rw [at1 _ j (hT j c e), sq_inj I hx (hfn j c e).1]
        exact (hfn j c e).2.2.2.1
    · obtain ⟨vs, hv, e⟩ := to'
      exact ⟨vs, hv, (sb.2 _ D.zo).trans e⟩
    · have hlt : b < s.heap.objs.size := by
        rcases List.mem_cons.mp hb with rfl | hb
        · exact hzl
        rcases List.mem_cons.mp hb with rfl | hb
        · exact Heap.lt_size Z.hti
        rcases List.mem_cons.mp hb with rfl | hb
        · obtain ⟨vs, _, e⟩ := Z.hto
          exact Heap.lt_size e
        · obtain ⟨c, hc, rfl⟩ := List.mem_map.mp hb
          obtain ⟨o, e⟩ := (Z.hit c hc).there
          exact Heap.lt_size e
      rw [upd_ne (Nat.ne_of_lt hlt)]
      exact (hf b hb).1
  done := by
    intro X hP hw hK hc i pins s σ H E I hf Z hg
    subst hP hw hK
    have B : ∀ (j : Nat) (c : Src), S[j]? = some c → (S.map fun c => (c.k, c.l))[j]? = some (c.k, c.l) := fun j c hj => by rw [List.getElem?_map, hj]; rfl
    obtain ⟨g1, j0, p0, xs0, g2, g3, g4⟩ := hg
    have ch : ∀ j : Nat, ∃ q : List V × List Value, ∀ c, S[j]? = some c → SqK X.K H (c.k, c.l) q.1 ∧ Vals q.1 q.2 ∧ SSq s.heap c q.2.toArray := fun j => by
      cases e : S[j]? with
      | none => exact ⟨([], []), fun c hc => by cases hc⟩
      | some c =>
        obtain ⟨xs, h1⟩ := g1 j _ (B j c e)
        obtain ⟨its, h3, h4⟩ := sq_at (it := c.it) I h1
        exact ⟨(xs, its), fun d hd => by cases hd; exact ⟨h1, h3, h4⟩⟩
    obtain ⟨f, hfn⟩ := Classical.axiomOfChoice ch
    have st0 : ∃ c, S[j0]? = some c ∧ (f j0).2[i]? = none := by
      rw [List.getElem?_map] at g2
      cases e : S[j0]? with
      | none => rw [e] at g2; cases g2
      | some c =>
        rw [e] at g2
        cases g2
        obtain ⟨h1, h2, h3⟩ := hfn j0 c e
        have := sq_inj I g3 h1
        subst this
        have := h2.length
        exact ⟨c, rfl, List.getElem?_eq_none (by omega)⟩
    obtain ⟨m, ⟨cm, hm, hx⟩, hlt⟩ := least_of (p := fun j => ∃ c, S[j]? = some c ∧ (f j).2[i]? = none) st0
    have ty : s.TypeIs (.ref z) "zip" := ⟨_, Z.hz, rfl⟩
    unfold pyNext
    refine wpAny_bind (wpAny_attempt (wpAny_callSpecial?_slot (name := Str.ofString "__next__") ty F.slot_zip_next (wpAny_call_entry F.slot_zip_next ty F.entry_zip_next
      (zn_end (Xs := fun j => (f j).2.toArray) (I.ok.hd hc) D Z hL (fun j c hc => (hfn j c hc).2.2) hm (by simpa using hx) (fun j c hj hc => by
        cases e : (f j).2[i]? with
        | none => exact absurd ⟨c, hc, e⟩ (hlt j hj)
        | some x => exact ⟨x, by simpa using e⟩) fun h' e keep he => ?_) (F.args_zip_next_1 _))))
    obtain ⟨o, ho, hcl⟩ := he
    refine wpAny_bind (wpAny_isInstance (T := "StopIteration") (b := true) ⟨o, ho, hcl⟩ isSubtype_stop ?_)
    refine wpAny_pure ⟨rfl, I.turnedL (t' := s.toks) (ch := z :: TI :: TO :: S.map (·.it)) (fun b o hb q => ?_) hf⟩
    simp only [List.mem_cons, List.mem_map, not_or, not_exists, not_and] at hb
    exact keep b o hb.1 hb.2.2.1 (fun c hc e => hb.2.2.2 c hc e.symm) q
  self := fun A i s Q E Z h => wpAny_pyIter_zip Z.hz h
end DZ

set_option Elab.async false
set_option autoImplicit false
set_option linter.all false
set_option maxRecDepth 100000
set_option maxHeartbeats 1000000
/-! DZ3: zip(a, b), zip(a, b, c) begun -/
namespace DZ
open PySem
abbrev itO (k : Bool) (l : Addr) : Obj := { cls := .type (match k with | true => "list_iterator" | false => "tuple_iterator"), data := .fields #[.ref l, .int 0 0] }
theorem it_new {h : Heap} {c : Src} (e : h.get? c.it = some (itO c.k c.l)) : SIt h c 0 := by
  obtain ⟨k, it, l⟩ := c
  cases k
  · exact ⟨_, e, rfl, rfl⟩
  · exact ⟨_, e, rfl, rfl⟩
section
variable {prog : Program} {w : World} {A : Around} {E : Value → Shared → Prop} {s : Shared}
theorem it_any {k : Bool} {it l : Addr} {xs : Array Value} {Q : Value → Shared → Prop} (h : SSq s.heap ⟨k, it, l⟩ xs) (q : Q (.ref s.heap.objs.size) { s with heap := s.heap.push (itO k l) }) : wpAny (model prog w) A (pyIter (.ref l)) Q E s := by
  cases k
  · exact wpAny_pyIter_tuple h q
  · exact wpAny_pyIter_list h q
theorem SSq.up {h : Heap} {c : Src} {xs : Array Value} (x : SSq h c xs) (o : Obj) : SSq (h.push o) c xs := x.stay fun _ e => Heap.get?_push_of_some _ e
end
abbrev zh1 (h : Heap) (k : Bool) (l : Addr) : Heap := h.push (itO k l)
abbrev zhT (h : Heap) (its vs : List Value) (TI TO : Addr) : Heap := ((h.push { cls := .type "tuple", data := .seq its.toArray }).push { cls := .type "tuple", data := .seq vs.toArray }).push
  { cls := .type "zip", data := .fields #[.none, .bool false, .bool false, .ref TI, .ref TO] }
theorem new2 (k1 k2 : Bool) (l1 l2 : Addr) (xs ys : Array Value) :
    Meets (Builtin.«zip.__new__» ⟨[.type "zip", .ref l1, .ref l2], []⟩) (fun _ R s => SSq s.heap ⟨k1, 0, l1⟩ xs ∧ SSq s.heap ⟨k2, 0, l2⟩ ys ∧
      R (.ok (.ret (.ref (s.heap.objs.size + 4)))) { s with heap := zhT (zh1 (zh1 s.heap k1 l1) k2 l2) [.ref s.heap.objs.size, .ref (s.heap.objs.size + 1)] [.none, .none] (s.heap.objs.size + 2) (s.heap.objs.size + 3) }) :=
  .of_wp fun prog w A R s h => by
    obtain ⟨hp, g, d, tk, os⟩ := s
    obtain ⟨h1, h2, h⟩ := h
    have hsub := sub_zip
    have a1 : SSq (Shared.heap ⟨hp, g, d, tk, os⟩) ⟨k1, 0, l1⟩ xs := h1
    have a2 : SSq (Shared.heap ⟨zh1 hp k1 l1, g, d, tk, os⟩) ⟨k2, 0, l2⟩ ys := h2.up _
    wp_walk using it_any a1, it_any a2
    refine ⟨_, rfl, ?_⟩
    simp only [Heap.size_push, Nat.add_assoc, Nat.reduceAdd] at h ⊢
    exact h
theorem new3 (k1 k2 k3 : Bool) (l1 l2 l3 : Addr) (xs ys zs : Array Value) :
    Meets (Builtin.«zip.__new__» ⟨[.type "zip", .ref l1, .ref l2, .ref l3], []⟩) (fun _ R s => SSq s.heap ⟨k1, 0, l1⟩ xs ∧ SSq s.heap ⟨k2, 0, l2⟩ ys ∧ SSq s.heap ⟨k3, 0, l3⟩ zs ∧
      R (.ok (.ret (.ref (s.heap.objs.size + 5)))) { s with heap := zhT (zh1 (zh1 (zh1 s.heap k1 l1) k2 l2) k3 l3) [.ref s.heap.objs.size, .ref (s.heap.objs.size + 1), .ref (s.heap.objs.size + 2)] [.none, .none, .none] (s.heap.objs.size + 3) (s.heap.objs.size + 4) }) :=
  .of_wp fun prog w A R s h => by
    obtain ⟨hp, g, d, tk, os⟩ := s
    obtain ⟨h1, h2, h3, h⟩ := h
    have hsub := sub_zip
    have a1 : SSq (Shared.heap ⟨hp, g, d, tk, os⟩) ⟨k1, 0, l1⟩ xs := h1
    have a2 : SSq (Shared.heap ⟨zh1 hp k1 l1, g, d, tk, os⟩) ⟨k2, 0, l2⟩ ys := h2.up _
    have a3 : SSq (Shared.heap ⟨zh1 (zh1 hp k1 l1) k2 l2, g, d, tk, os⟩) ⟨k3, 0, l3⟩ zs := (h3.up _).up _
    wp_walk using it_any a1, it_any a2, it_any a3
    refine ⟨_, rfl, ?_⟩
    simp only [Heap.size_push, Nat.add_assoc, Nat.reduceAdd] at h ⊢
    exact h
theorem tc3 (a b c : Value) : checkTypeCall "zip" ⟨[a, b, c], []⟩ = pure () := by kernel_rfl
theorem nc3 (a b c : Value) : checkBuiltinCall "zip.__new__" ⟨[.type "zip", a, b, c], []⟩ = pure () := by kernel_rfl
theorem ao4 (a b c d : Value) : argsOk "object.__init__" ⟨[a, b, c, d], []⟩ := by
  have h := F.args_object_init_3 a b c
  unfold argsOk at h ⊢
  rw [signature?_of (id := "object.__init__") (n := ['_', '_', 't', 'i', 'n', 'i', '_', '_']) (o := ['t', 'c', 'e', 'j', 'b', 'o']) (by kernel_rfl) F.owner_object]
  kernel_rfl
end DZ

set_option Elab.async false
set_option autoImplicit false
set_option linter.all false
set_option maxRecDepth 100000
set_option maxHeartbeats 1000000
/-! DZ4: zip called; as what a loop walks -/
namespace DZ
open PySem PySem.Spec PyProof.Rows L2
theorem sq_lt {h : Heap} {c : Src} {xs : Array Value} (x : SSq h c xs) : c.l < h.objs.size := by
  unfold SSq at x
  split at x <;> (obtain ⟨o, ho, _⟩ := x; exact Heap.lt_size ho)
/-- a zip just made -/
def Made (h0 h : Heap) (B : List (Bool × Addr)) (z : Addr) : Prop := ∃ (TI TO : Addr) (S : List Src), S.map (fun c => (c.k, c.l)) = B ∧ Apt z TI TO S ∧ Zi h z TI TO S 0 ∧ (∀ b ∈ z :: TI :: TO :: S.map (·.it), h0.objs.size ≤ b) ∧ ∀ b o, h0.get? b = some o → h.get? b = some o
theorem nea {a b : Nat} (h : a ≠ b) : (show Addr from a) ≠ (show Addr from b) := h
theorem apt_of {n : Nat} {S : List Src} (h1 : ∀ (j : Nat) (c : Src), S[j]? = some c → c.it = n + j ∧ c.l < n) : Apt (n + S.length + 2) (n + S.length) (n + S.length + 1) S := by
  have q : ∀ c ∈ S, ∃ a b : Nat, c.it = a ∧ c.l = b ∧ a < n + S.length ∧ b < n ∧ n ≤ a := fun c hc => by
    obtain ⟨j, hj⟩ := List.getElem?_of_mem hc
    obtain ⟨x1, x2⟩ := h1 j c hj
    have y : j < S.length := (List.getElem?_eq_some_iff.mp hj).1
    exact ⟨n + j, c.l, x1, rfl, by omega, x2, by omega⟩
  refine ⟨nea (by omega), nea (by omega), nea (by omega), fun c hc => ?_, fun j k c d hc hd hn e => ?_, fun c hc d hd e => ?_⟩
  · obtain ⟨a, b, e1, e2, y1, y2, y3⟩ := q c hc
    rw [e1, e2]
    exact ⟨nea (by omega), nea (by omega), nea (by omega), nea (by omega), nea (by omega)⟩
  · have a1 := (h1 j c hc).1
    have a2 := (h1 k d hd).1
    have z : n + j = n + k := a1.symm.trans (e.trans a2)
    omega
  · obtain ⟨a, b, e1, e2, y1, y2, y3⟩ := q c hc
    obtain ⟨a', b', e1', e2', y1', y2', y3'⟩ := q d hd
    have z : b = a' := e2.symm.trans (e.trans e1')
    omega
theorem made_T {h : Heap} {its vs : List Value} {n : Nat} (hn : h.objs.size = n) : (zhT h its vs n (n + 1)).get? (n + 2) = some { cls := .type "zip", dict := none, data := .fields #[.none, .bool false, .bool false, .ref n, .ref (n + 1)], slots := #[] } ∧
    (zhT h its vs n (n + 1)).get? n = some { cls := .type "tuple", data := .seq its.toArray } ∧ (zhT h its vs n (n + 1)).get? (n + 1) = some { cls := .type "tuple", data := .seq vs.toArray } ∧ ∀ b o, h.get? b = some o → (zhT h its vs n (n + 1)).get? b = some o := by
  have z1 : (h.push { cls := .type "tuple", data := .seq its.toArray }).objs.size = n + 1 := by rw [Heap.size_push, hn]
  have z2 : ((h.push { cls := .type "tuple", data := .seq its.toArray }).push { cls := .type "tuple", data := .seq vs.toArray }).objs.size = n + 2 := by rw [Heap.size_push, z1]
  have g1 := Heap.get?_push_size ((h.push { cls := .type "tuple", data := .seq its.toArray }).push { cls := .type "tuple", data := .seq vs.toArray }) (o := { cls := .type "zip", data := .fields #[.none, .bool false, .bool false, .ref n, .ref (n + 1)] }) rfl
  have g2 := Heap.get?_push_size h (o := { cls := .type "tuple", data := .seq its.toArray }) rfl
  have g3 := Heap.get?_push_size (h.push { cls := .type "tuple", data := .seq its.toArray }) (o := { cls := .type "tuple", data := .seq vs.toArray }) rfl
  rw [z2] at g1
  rw [hn] at g2
  rw [z1] at g3
  exact ⟨g1, Heap.get?_push_of_some _ (Heap.get?_push_of_some _ g2), Heap.get?_push_of_some _ g3, fun b o e => Heap.get?_push_of_some _ (Heap.get?_push_of_some _ (Heap.get?_push_of_some _ e))⟩
section
variable {prog : Program} {w : World} {A : Around} {E : Value → Shared → Prop} {s : Shared}
theorem call2 {k1 k2 : Bool} {l1 l2 : Addr} {xs ys : Array Value} {Q : Value → Shared → Prop} (h1 : SSq s.heap ⟨k1, 0, l1⟩ xs) (h2 : SSq s.heap ⟨k2, 0, l2⟩ ys) (q : ∀ h z, Made s.heap h [(k1, l1), (k2, l2)] z → Q (.ref z) { s with heap := h }) :
    wpAny (model prog w) A (call (.type "zip") [.ref l1, .ref l2]) Q E s := by
  have b1 := sq_lt h1
  have b2 := sq_lt h2
  refine callType_new F.called_zip (by decide) (F.typeCall_zip_2 _ _) (F.newCall_zip_2 _ _) (fun obj => F.args_object_init_3 obj _ _) F.entry_zip_new (new2 k1 k2 l1 l2 xs ys) ⟨h1, h2, ?_⟩
  have z1 : (zh1 s.heap k1 l1).objs.size = s.heap.objs.size + 1 := Heap.size_push ..
  have z2 : (zh1 (zh1 s.heap k1 l1) k2 l2).objs.size = s.heap.objs.size + 2 := by rw [Heap.size_push, z1]
  obtain ⟨g1, g2, g3, g4⟩ := made_T (h := zh1 (zh1 s.heap k1 l1) k2 l2) (its := [.ref s.heap.objs.size, .ref (s.heap.objs.size + 1)]) (vs := [.none, .none]) z2
  have i1 := g4 _ _ (Heap.get?_push_of_some (itO k2 l2) (Heap.get?_push_size s.heap (o := itO k1 l1) rfl))
  have i2 := g4 _ _ (Heap.get?_push_size (zh1 s.heap k1 l1) (o := itO k2 l2) rfl)
  rw [z1] at i2
  refine ⟨⟨_, g1, rfl⟩, q _ _ ⟨s.heap.objs.size + 2, s.heap.objs.size + 3, [⟨k1, s.heap.objs.size, l1⟩, ⟨k2, s.heap.objs.size + 1, l2⟩], rfl, apt_of (n := s.heap.objs.size) (S := [⟨k1, s.heap.objs.size, l1⟩, ⟨k2, s.heap.objs.size + 1, l2⟩]) (fun j c hc => ?_), ⟨g1, g2, ⟨[.none, .none], rfl, g3⟩, fun c hc => ?_⟩, fun b hb => ?_, fun b o e => g4 _ _ (Heap.get?_push_of_some _ (Heap.get?_push_of_some _ e))⟩⟩
  · match j, hc with
    | 0, rfl => exact ⟨rfl, b1⟩
    | 1, rfl => exact ⟨rfl, b2⟩
  · rcases List.mem_cons.mp hc with rfl | hc
    · exact it_new i1
    · rw [List.mem_singleton.mp hc]
      exact it_new i2
  · simp only [List.map_cons, List.map_nil, List.mem_cons, List.not_mem_nil, or_false] at hb
    rcases hb with rfl | rfl | rfl | rfl | rfl <;> first | exact Nat.le_refl _ | exact Nat.le_add_right _ _
theorem call3 {k1 k2 k3 : Bool} {l1 l2 l3 : Addr} {xs ys zs : Array Value} {Q : Value → Shared → Prop} (h1 : SSq s.heap ⟨k1, 0, l1⟩ xs) (h2 : SSq s.heap ⟨k2, 0, l2⟩ ys) (h3 : SSq s.heap ⟨k3, 0, l3⟩ zs) (q : ∀ h z, Made s.heap h [(k1, l1), (k2, l2), (k3, l3)] z → Q (.ref z) { s with heap := h }) :
    wpAny (model prog w) A (call (.type "zip") [.ref l1, .ref l2, .ref l3]) Q E s := by
  have b1 := sq_lt h1
  have b2 := sq_lt h2
  have b3 := sq_lt h3
  refine callType_new F.called_zip (by decide) (tc3 _ _ _) (nc3 _ _ _) (fun obj => ao4 obj _ _ _) F.entry_zip_new (new3 k1 k2 k3 l1 l2 l3 xs ys zs) ⟨h1, h2, h3, ?_⟩
  have z1 : (zh1 s.heap k1 l1).objs.size = s.heap.objs.size + 1 := Heap.size_push ..
  have z2 : (zh1 (zh1 s.heap k1 l1) k2 l2).objs.size = s.heap.objs.size + 2 := by rw [Heap.size_push, z1]
  have z3 : (zh1 (zh1 (zh1 s.heap k1 l1) k2 l2) k3 l3).objs.size = s.heap.objs.size + 3 := by rw [Heap.size_push, z2]
  obtain ⟨g1, g2, g3, g4⟩ := made_T (h := zh1 (zh1 (zh1 s.heap k1 l1) k2 l2) k3 l3) (its := [.ref s.heap.objs.size, .ref (s.heap.objs.size + 1), .ref (s.heap.objs.size + 2)]) (vs := [.none, .none, .none]) z3
  have i1 := g4 _ _ (Heap.get?_push_of_some (itO k3 l3) (Heap.get?_push_of_some (itO k2 l2) (Heap.get?_push_size s.heap (o := itO k1 l1) rfl)))
  have i2 := g4 _ _ (Heap.get?_push_of_some (itO k3 l3) (Heap.get?_push_size (zh1 s.heap k1 l1) (o := itO k2 l2) rfl))
  have i3 := g4 _ _ (Heap.get?_push_size (zh1 (zh1 s.heap k1 l1) k2 l2) (o := itO k3 l3) rfl)
  rw [z1] at i2
  rw [z2] at i3
  refine ⟨⟨_, g1, rfl⟩, q _ _ ⟨s.heap.objs.size + 3, s.heap.objs.size + 4, [⟨k1, s.heap.objs.size, l1⟩, ⟨k2, s.heap.objs.size + 1, l2⟩, ⟨k3, s.heap.objs.size + 2, l3⟩], rfl, apt_of (n := s.heap.objs.size) (S := [⟨k1, s.heap.objs.size, l1⟩, ⟨k2, s.heap.objs.size + 1, l2⟩, ⟨k3, s.heap.objs.size + 2, l3⟩]) (fun j c hc => ?_), ⟨g1, g2, ⟨[.none, .none, .none], rfl, g3⟩, fun c hc => ?_⟩, fun b hb => ?_, fun b o e => g4 _ _ (Heap.get?_push_of_some _ (Heap.get?_push_of_some _ (Heap.get?_push_of_some _ e)))⟩⟩
  · match j, hc with
    | 0, rfl => exact ⟨rfl, b1⟩
    | 1, rfl => exact ⟨rfl, b2⟩
    | 2, rfl => exact ⟨rfl, b3⟩
  · simp only [List.mem_cons, List.not_mem_nil, or_false] at hc
    rcases hc with rfl | rfl | rfl
    · exact it_new i1
    · exact it_new i2
    · exact it_new i3
  · simp only [List.map_cons, List.map_nil, List.mem_cons, List.not_mem_nil, or_false] at hb
    rcases hb with rfl | rfl | rfl | rfl | rfl | rfl <;> first | exact Nat.le_refl _ | exact Nat.le_add_right _ _
end
/-- what zip(e, ..) is as a thing to walk -/
def iZipN (K : PySem.W.Frag) (ta : TA) : TI := fun σ H R => ta σ H fun vs H1 => ∃ B : List (Bool × Addr), vs = B.map (fun p => V.ref p.2) ∧ (B.length = 2 ∨ B.length = 3) ∧ (∀ p ∈ B, ∃ xs, SqK K H1 p xs) ∧ R (ItN K B) H1
theorem made_run {X : Cx} {pins : List (Addr × Obj)} {σ : L2.St} {H : Hp} {s : Shared} {B : List (Bool × Addr)} {elts : List Expr} {kk : Nat} {tpos : Pos} {R : It → Hp → Prop} {h : Heap} {z : Addr} (I : Inv X pins σ H s) (M : Made s.heap h B z) (hB : B ≠ []) (hL : B.length ≤ 10) (q : R (ItN X.K B) H) :
    wpAny (model X.prog X.w) X.A (pyIter (.ref z)) (PIE X pins σ (.Tuple elts kk tpos) R) X.xe { s with heap := h } := by
  obtain ⟨TI, TO, S, rfl, D, Z, fr, kp⟩ := M
  refine wpAny_pyIter_zip (s := { s with heap := h }) Z.hz ?_
  have I2 : Inv X pins σ H { s with heap := h } := I.kept (t' := s.toks) kp
  exact ⟨z, _, _, _, H, rfl, I2, turn_zipN D (fun e => hB (by rw [e]; rfl)) (by rw [List.length_map] at hL; exact hL), Z, fun b hb => I.fpOk (fr b hb) (I.hok.fresh (fr b hb)), q⟩
theorem pi_zipN {X : Cx} {e : Expr} {es : List Expr} {ta : TA} {p pos tpos : Pos} {elts : List Expr} {kk : Nat} (hg : Gl X "zip") (hm : X.mg "zip" = none) (ha : PA X (e :: es) ta)
    (hs : starEach (e :: es) X.env = (false, eval e X.env) :: starEach es X.env) (hpl : (backTo pos (starEach es X.env)).any (·.1) = false) :
    PI X (.Tuple elts kk tpos) (.Call (.Name "zip" p) (e :: es) [] pos) (iZipN X.K ta) := by
  refine ⟨fun pins s σ H R I h => ?_⟩
  refine Call_ (ld_blt I hg hm PyProof.Rows.boot_zip (PyProof.Rows.callWith_type1 (thn (ha.run pos pins s σ H _ I h) fun us s1 ⟨vs, H1, I1, r1, B, ev, hl, sq, q1⟩ => ?_) hs hpl))
  subst ev
  have sqs : ∀ q : Bool × Addr, q ∈ B → ∃ xs : Array Value, SSq s1.heap ⟨q.1, 0, q.2⟩ xs := fun q hm => by
    obtain ⟨xs, hx⟩ := sq _ hm
    obtain ⟨its, _, y⟩ := sq_at (it := 0) I1 hx
    exact ⟨_, y⟩
  clear sq
  match B, hl, r1, q1, sqs with
  | [(k1, a), (k2, b)], _, r1, q1, sqs =>
    cases r1 with
    | cons r rr =>
      cases rr with
      | cons r' rr =>
        cases rr
        cases r
        cases r'
        obtain ⟨xs, h1⟩ := sqs (k1, a) (by simp)
        obtain ⟨ys, h2⟩ := sqs (k2, b) (by simp)
        exact call2 h1 h2 fun h z M => made_run I1 M (by simp) (by simp) q1
  | [(k1, a), (k2, b), (k3, c)], _, r1, q1, sqs =>
    cases r1 with
    | cons r rr =>
      cases rr with
      | cons r' rr =>
        cases rr with
        | cons r'' rr =>
          cases rr
          cases r
          cases r'
          cases r''
          obtain ⟨xs, h1⟩ := sqs (k1, a) (by simp)
          obtain ⟨ys, h2⟩ := sqs (k2, b) (by simp)
          obtain ⟨zs, h3⟩ := sqs (k3, c) (by simp)
          exact call3 h1 h2 h3 fun h z M => made_run I1 M (by simp) (by simp) q1
end DZ

set_option Elab.async false
set_option autoImplicit false
set_option linter.all false
set_option maxRecDepth 100000
set_option maxHeartbeats 1000000
/-! DW28: zip of two and three, lists and tuples mixed -/
namespace DW
open PySem PySem.Spec L2
open PyProof.Rows hiding St
def hoK (k : Bool) (vs : List V) : HO := match k with
  | true => .lst vs
  | false => .tup vs
theorem RpAll.sqk {K : PySem.W.Frag} {Hs H : Hp} {v : V} {d : D} {k : Bool} {l : List D} (h : Rp K Hs v d) (e : seqOf d = some (k, l)) : ∃ (a : Addr) (vs : List V), v = .ref a ∧ Hs a = some (hoK k vs) ∧ RpAll K Hs vs l := by
  cases h with
  | lst h1 h2 =>
    cases e
    exact ⟨_, _, rfl, h1, h2⟩
  | tup h1 h2 =>
    cases e
    exact ⟨_, _, rfl, h1, h2⟩
  | _ => cases e
theorem sqk_of {K : PySem.W.Frag} {H : Hp} {k : Bool} {a : Addr} {vs : List V} (h : H a = some (hoK k vs)) : DZ.SqK K H (k, a) vs := by
  cases k
  · exact .inl (.inl h)
  · exact .inl (.inl h)
theorem RpAll.getV' {K : PySem.W.Frag} {Hs : Hp} {vs : List V} {ds : List D} {i : Nat} (h : RpAll K Hs vs ds) (hi : i < ds.length) : ∃ v d, vs[i]? = some v ∧ ds[i]? = some d ∧ Rp K Hs v d := by
  have hl := h.length
  have e : vs[i]? = some vs[i] := by simp [hl, hi]
  obtain ⟨d, h1, h2⟩ := h.getV e
  exact ⟨_, d, e, h1, h2⟩
theorem zip_at2 {xs ys : List D} {i : Nat} {x y : D} (h1 : xs[i]? = some x) (h2 : ys[i]? = some y) : (zipN [xs, ys])[i]? = some (.tuple [x, y]) := by
  show (List.zipWith _ xs ys)[i]? = _
  rw [List.getElem?_zipWith, h1, h2]
theorem zip_at3 {xs ys zs : List D} {i : Nat} {x y z : D} (h1 : xs[i]? = some x) (h2 : ys[i]? = some y) (h3 : zs[i]? = some z) : (zipN [xs, ys, zs])[i]? = some (.tuple [x, y, z]) := by
  show (List.zipWith _ xs (ys.zip zs))[i]? = _
  have e : (ys.zip zs)[i]? = some (y, z) := List.getElem?_zip_eq_some.mpr ⟨h2, h3⟩
  rw [List.getElem?_zipWith, h1, e]
theorem yl_zip2 {K : PySem.W.Frag} {Hs : Hp} {k1 k2 : Bool} {a b : Addr} {vs ws : List V} {ds es : List D} (h1 : Hs a = some (hoK k1 vs)) (h2 : RpAll K Hs vs ds)
    (g1 : Hs b = some (hoK k2 ws)) (g2 : RpAll K Hs ws es) : Yl K (DZ.ItN K [(k1, a), (k2, b)]) (zipN [ds, es]) Hs := by
  have hl : (zipN [ds, es]).length = min ds.length es.length := by simp [zipN, zipD]
  have l1 := h2.length
  have l2 := g2.length
  have sa : ∀ {H Hs' : Hp}, Same Hs Hs' → Same Hs' H → DZ.SqK K H (k1, a) vs := fun e1 e2 => sqk_of (e2 _ _ (e1 _ _ h1))
  have sb : ∀ {H Hs' : Hp}, Same Hs Hs' → Same Hs' H → DZ.SqK K H (k2, b) ws := fun e1 e2 => sqk_of (e2 _ _ (e1 _ _ g1))
  refine ⟨fun i H Hs' hi e1 e2 => ?_, fun H Hs' e1 e2 => ?_, fun i H Hs' H' x hi e1 e2 y => ?_⟩
  · intro j p hp
    match j, hp with
    | 0, rfl => exact ⟨vs, vs[i]'(by omega), sa e1 e2, by simp⟩
    | 1, rfl => exact ⟨ws, ws[i]'(by omega), sb e1 e2, by simp⟩
  · refine ⟨fun j p hp => ?_, ?_⟩
    · match j, hp with
      | 0, rfl => exact ⟨vs, sa e1 e2⟩
      | 1, rfl => exact ⟨ws, sb e1 e2⟩
    · by_cases c : vs.length ≤ ws.length
      · exact ⟨0, _, vs, rfl, sa e1 e2, by omega⟩
      · exact ⟨1, _, ws, rfl, sb e1 e2, by omega⟩
  · obtain ⟨T, us, rfl, np, rfl, ul, y⟩ := y
    obtain ⟨x0, d, hx0, hd, rd⟩ := h2.getV' (i := i) (by omega)
    obtain ⟨y0, f, hy0, hf, rf⟩ := g2.getV' (i := i) (by omega)
    have u0 := (y 0 _ vs rfl (sa e1 e2)).symm.trans hx0
    have u1 := (y 1 _ ws rfl (sb e1 e2)).symm.trans hy0
    have eu : us = [x0, y0] := by
      match us, ul with
      | [p, q], _ =>
        cases u0
        cases u1
        rfl
    subst eu
    have g := Grow.new e2 (.tup [x0, y0]) np
    exact ⟨_, .tuple [d, f], g, zip_at2 hd hf, .tup upd_same (.cons (Rp.mono (e1.trans g.st) _ _ rd) (.cons (Rp.mono (e1.trans g.st) _ _ rf) .nil))⟩
theorem yl_zip3 {K : PySem.W.Frag} {Hs : Hp} {k1 k2 k3 : Bool} {a b c : Addr} {vs ws zs : List V} {ds es fs : List D} (h1 : Hs a = some (hoK k1 vs)) (h2 : RpAll K Hs vs ds)
    (g1 : Hs b = some (hoK k2 ws)) (g2 : RpAll K Hs ws es) (f1 : Hs c = some (hoK k3 zs)) (f2 : RpAll K Hs zs fs) : Yl K (DZ.ItN K [(k1, a), (k2, b), (k3, c)]) (zipN [ds, es, fs]) Hs := by
  have hl : (zipN [ds, es, fs]).length = min ds.length (min es.length fs.length) := by simp [zipN]
  have l1 := h2.length
  have l2 := g2.length
  have l3 := f2.length
  have sa : ∀ {H Hs' : Hp}, Same Hs Hs' → Same Hs' H → DZ.SqK K H (k1, a) vs := fun e1 e2 => sqk_of (e2 _ _ (e1 _ _ h1))
  have sb : ∀ {H Hs' : Hp}, Same Hs Hs' → Same Hs' H → DZ.SqK K H (k2, b) ws := fun e1 e2 => sqk_of (e2 _ _ (e1 _ _ g1))
  have sc : ∀ {H Hs' : Hp}, Same Hs Hs' → Same Hs' H → DZ.SqK K H (k3, c) zs := fun e1 e2 => sqk_of (e2 _ _ (e1 _ _ f1))
  refine ⟨fun i H Hs' hi e1 e2 => ?_, fun H Hs' e1 e2 => ?_, fun i H Hs' H' x hi e1 e2 y => ?_⟩
  · intro j p hp
    match j, hp with
    | 0, rfl => exact ⟨vs, vs[i]'(by omega), sa e1 e2, by simp⟩
    | 1, rfl => exact ⟨ws, ws[i]'(by omega), sb e1 e2, by simp⟩
    | 2, rfl => exact ⟨zs, zs[i]'(by omega), sc e1 e2, by simp⟩
  · refine ⟨fun j p hp => ?_, ?_⟩
    · match j, hp with
      | 0, rfl => exact ⟨vs, sa e1 e2⟩
      | 1, rfl => exact ⟨ws, sb e1 e2⟩
      | 2, rfl => exact ⟨zs, sc e1 e2⟩
    · by_cases q1 : vs.length ≤ ws.length ∧ vs.length ≤ zs.length
      · exact ⟨0, _, vs, rfl, sa e1 e2, by omega⟩
      · by_cases q2 : ws.length ≤ zs.length
        · exact ⟨1, _, ws, rfl, sb e1 e2, by omega⟩
        · exact ⟨2, _, zs, rfl, sc e1 e2, by omega⟩
  · obtain ⟨T, us, rfl, np, rfl, ul, y⟩ := y
    obtain ⟨x0, d, hx0, hd, rd⟩ := h2.getV' (i := i) (by omega)
    obtain ⟨y0, f, hy0, hf, rf⟩ := g2.getV' (i := i) (by omega)
    obtain ⟨z0, t, hz0, ht, rt⟩ := f2.getV' (i := i) (by omega)
    have u0 := (y 0 _ vs rfl (sa e1 e2)).symm.trans hx0
    have u1 := (y 1 _ ws rfl (sb e1 e2)).symm.trans hy0
    have u2 := (y 2 _ zs rfl (sc e1 e2)).symm.trans hz0
    have eu : us = [x0, y0, z0] := by
      match us, ul with
      | [p, q, r], _ =>
        cases u0
        cases u1
        cases u2
        rfl
    subst eu
    have g := Grow.new e2 (.tup [x0, y0, z0]) np
    exact ⟨_, .tuple [d, f, t], g, zip_at3 hd hf ht, .tup upd_same (.cons (Rp.mono (e1.trans g.st) _ _ rd) (.cons (Rp.mono (e1.trans g.st) _ _ rf) (.cons (Rp.mono (e1.trans g.st) _ _ rt) .nil)))⟩
section
variable [CF : Cfg] [OG : Org]
variable {X : Cx} {av : List V} {ρ : Ev} {a b : Expr} {es : List Expr} {Q : List D → Ev → Prop}
theorem ixi_zipN {p pos pt : Pos} {ts : List Expr} {kt : Nat} (hg : Gl X "zip") (hm : X.mg "zip" = none) (h : AX X av (a :: es) ρ fun ds ρ1 => (∃ x y k1 k2 xs ys, ds = [x, y] ∧ seqOf x = some (k1, xs) ∧ seqOf y = some (k2, ys) ∧ Q (zipN [xs, ys]) ρ1) ∨
      ∃ x y z k1 k2 k3 xs ys zs, ds = [x, y, z] ∧ seqOf x = some (k1, xs) ∧ seqOf y = some (k2, ys) ∧ seqOf z = some (k3, zs) ∧ Q (zipN [xs, ys, zs]) ρ1)
    (he : starEach (a :: es) X.env = (false, eval a X.env) :: starEach es X.env) (hpl : (backTo pos (starEach es X.env)).any (·.1) = false) : IXI X av (.Tuple ts kt pt) (.Call (.Name "zip" p) (a :: es) [] pos) ρ Q :=
  ⟨fun _ => rfl, _, DZ.pi_zipN hg hm pa_s he hpl, fun Hs H σ R r k => h Hs H σ _ r fun vs ds ρ1 Hs1 H1 st r1 ra q => by
    rcases q with ⟨x, y, k1, k2, xs, ys, rfl, e1, e2, q⟩ | ⟨x, y, z, k1, k2, k3, xs, ys, zs, rfl, e1, e2, e3, q⟩
    · obtain ⟨v, w, rfl, p1, p2⟩ := rp2 ra
      obtain ⟨A, us, rfl, m1, m2⟩ := RpAll.sqk (H := H) p1 e1
      obtain ⟨B, ws, rfl, n1, n2⟩ := RpAll.sqk (H := H) p2 e2
      refine ⟨[(k1, A), (k2, B)], rfl, .inl rfl, fun p hp => ?_, k _ _ ρ1 Hs1 H1 st r1 (yl_zip2 m1 m2 n1 n2) q⟩
      simp only [List.mem_cons, List.not_mem_nil, or_false] at hp
      rcases hp with rfl | rfl
      · exact ⟨us, sqk_of (r1.same _ _ m1)⟩
      · exact ⟨ws, sqk_of (r1.same _ _ n1)⟩
    · cases ra with
      | cons p1 ra =>
        obtain ⟨v, w, rfl, p2, p3⟩ := rp2 ra
        obtain ⟨A, us, rfl, m1, m2⟩ := RpAll.sqk (H := H) p1 e1
        obtain ⟨B, ws, rfl, n1, n2⟩ := RpAll.sqk (H := H) p2 e2
        obtain ⟨C, zs', rfl, o1, o2⟩ := RpAll.sqk (H := H) p3 e3
        refine ⟨[(k1, A), (k2, B), (k3, C)], rfl, .inr rfl, fun p hp => ?_, k _ _ ρ1 Hs1 H1 st r1 (yl_zip3 m1 m2 n1 n2 o1 o2) q⟩
        simp only [List.mem_cons, List.not_mem_nil, or_false] at hp
        rcases hp with rfl | rfl | rfl
        · exact ⟨us, sqk_of (r1.same _ _ m1)⟩
        · exact ⟨ws, sqk_of (r1.same _ _ n1)⟩
        · exact ⟨zs', sqk_of (r1.same _ _ o1)⟩⟩
end
end DW

set_option Elab.async false
set_option autoImplicit false
set_option linter.all false
set_option maxRecDepth 100000
/-! IRc: from a text with places to one without -/
namespace DW
open PySem PySem.Spec L2
open PyProof.Rows hiding St

structure Prm where
  N : List Str
  B : List Str
  G : List Str
  F : List Str
  O : List Str
  M : List Str := []
  /-- classes of errors: with a message, with fields -/
  E : List Str := []
  E1 : List Str := []
  /-- the def that tells, and the error that is caught -/
  L : Option Str := none
  C : Option Str := none
  /-- nothing is raised here -/
  q : Bool := false
/-- within a comprehension -/
def Prm.qt (P : Prm) : Prm := { P with q := true, L := none, C := none }
@[simp] theorem Prm.qt_N (P : Prm) : P.qt.N = P.N := rfl
def mthV (x : Str) : Option Value := if x = "gcd" then some (.builtin "math.gcd") else if x = "lcm" then some (.builtin "math.lcm") else none

def ixOf (x : Str) : List Str → Option Nat
  | [] => none
  | y :: r => if y = x then some 0 else (ixOf x r).map (· + 1)
theorem ixOf_at {x : Str} : ∀ {N : List Str} {i : Nat}, ixOf x N = some i → N[i]? = some x
  | [], i, h => by cases h
  | y :: r, i, h => by
    unfold ixOf at h
    split at h
    · rename_i e
      cases h
      rw [e]
      rfl
    · cases e : ixOf x r with
      | none => rw [e] at h; cases h
      | some j =>
        rw [e] at h
        cases h
        simpa using ixOf_at e
def dunder (x : Str) : Bool := x == ("__debug__" : Str) || x == ("__classdict__" : Str) || x == ("__name__" : Str)
def visB (sc : Scope) (x : Str) : Bool := match sc.names.lookup x with
  | some .local => true
  | some .cell => true
  | some .free => true
  | _ => false
def locB (sc : Scope) (x : Str) : Bool := match sc.names.lookup x with
  | some .local => true
  | some .cell => true
  | _ => false
def gloB (sc : Scope) (x : Str) : Bool := match sc.names.lookup x with
  | some .globalImplicit => !dunder x
  | _ => false
def slotOf (P : Prm) (sc : Scope) (x : Str) : Option Nat := if visB sc x && !dunder x then ixOf x P.N else none
def tslotOf (P : Prm) (sc : Scope) (x : Str) : Option Nat := if locB sc x && !dunder x then ixOf x P.N else none
def tyName : Ty → Str
  | .int => "int"
  | .bool => "bool"
  | .str => "str"
  | .tuple => "tuple"
  | .list => "list"
  | .dict => "dict"
  | .non => "NoneType"
def tyS : Ty → String
  | .int => "int"
  | .bool => "bool"
  | .str => "str"
  | .tuple => "tuple"
  | .list => "list"
  | .dict => "dict"
  | .non => "NoneType"
def typB (x : Str) : Option Ty := [Ty.int, .bool, .str, .tuple, .list, .dict].find? fun b => tyName b = x
mutual
def cG (P : Prm) (sc : Scope) : Expr → Option Tg
  | .Name x _ => (tslotOf P sc x).map .nm
  | .Tuple ts _ _ => (cGs P sc ts).map .tp
  | _ => none
def cGs (P : Prm) (sc : Scope) : List Expr → Option (List Tg)
  | [] => some []
  | t :: r => match cG P sc t, cGs P sc r with
    | some a, some b => some (a :: b)
    | _, _ => none
end
mutual
def tgs : Tg → List Nat
  | .nm i => [i]
  | .tp ts => tgss ts
def tgss : List Tg → List Nat
  | [] => []
  | t :: r => tgs t ++ tgss r
end
def ownOf (P : Prm) (t : Tg) : List (Str × Nat) := (tgs t).filterMap fun i => (P.N[i]?).map fun x => (x, i)
def o1 {α β : Type} (a : Option α) (f : α → β) : Option β := match a with
  | some x => some (f x)
  | none => none
def o2 {α β γ : Type} (a : Option α) (b : Option β) (f : α → β → γ) : Option γ := match a, b with
  | some x, some y => some (f x y)
  | _, _ => none
def o3 {α β γ δ : Type} (a : Option α) (b : Option β) (c : Option γ) (f : α → β → γ → δ) : Option δ := match a, b, c with
  | some x, some y, some z => some (f x y z)
  | _, _, _ => none
def o4 {α β γ δ ε : Type} (a : Option α) (b : Option β) (c : Option γ) (d : Option δ) (f : α → β → γ → δ → ε) : Option ε := match a, b, c, d with
  | some x, some y, some z, some w => some (f x y z w)
  | _, _, _, _ => none
def bnName : Bn → Str
  | .len => "len"
  | .max => "max"
  | .min => "min"
  | .abs => "abs"
  | .sum => "sum"
  | .any => "any"
  | .all => "all"
  | .sorted => "sorted"
  | .list => "list"
  | .tuple => "tuple"
  | .int => "int"
  | .str => "str"
def bnOf (f : Str) : Option Bn := [Bn.len, .max, .min, .abs, .sum, .any, .all, .sorted, .list, .tuple, .int, .str].find? fun b => bnName b = f

def valTest : Expr → Bool
  | .UnaryOp .Not _ _ => false
  | .BoolOp _ _ _ => false
  | .IfExp _ _ _ _ => false
  | .Compare _ _ _ _ => false
  | _ => true
def isSet : Expr → Bool
  | .Set _ _ _ => true
  | _ => false
mutual
def cE : Prm → Nat → Scope → Expr → Option IE
  | _, 0, _, _ => none
  | P, n + 1, sc, e => match e with
    | .Name x _ => (match slotOf P sc x with
      | some i => some (.nm i)
      | none => if gloB sc x && decide (x ∈ P.G) then some (.gl x) else none)
    | .Constant c _ _ => (match c with
      | .none => some (.cn .none)
      | .bool b => some (.cn (.bool b))
      | .int i => some (.cn (.int i))
      | .str s => some (.cn (.str s))
      | _ => none)
    | .UnaryOp .USub a _ => o1 (cE P n sc a) .ng
    | .UnaryOp .Not a _ => o1 (cE P n sc a) .nt
    | .BinOp a o b _ => o2 (cE P n sc a) (cE P n sc b) (.bn o)
    | .Compare a [o] [b] _ => if behindInMarks o b then none else o2 (cE P n sc a) (cE P n sc b) (.cp o)
    | .Compare a [o, o'] [b, c] _ => if lastMarks [o, o'] [b, c] then none else o3 (cE P n sc a) (cE P n sc b) (cE P n sc c) (.ch o o')
    | .Compare a [o, o', o2] [b, c, d] _ => if lastMarks [o, o', o2] [b, c, d] then none else o4 (cE P n sc a) (cE P n sc b) (cE P n sc c) (cE P n sc d) (.c4 o o' o2)
    | .BoolOp _ [a] _ => cE P n sc a
    | .BoolOp .And (a :: b :: r) p => o2 (cE P n sc a) (cE P n sc (.BoolOp .And (b :: r) p)) .an
    | .BoolOp .Or (a :: b :: r) p => o2 (cE P n sc a) (cE P n sc (.BoolOp .Or (b :: r) p)) .ro
    | .IfExp c a b _ => o3 (cT P n sc c) (cE P n sc a) (cE P n sc b) .ie
    | .Tuple es _ _ => o1 (cA P n sc es) .tu
    | .List es _ => o1 (cA P n sc es) .li
    | .Dict [] [] _ => some .d0
    | .JoinedStr (a :: b :: r) _ => o1 (cJ P n sc (a :: b :: r)) .fs
    | .Subscript a (.Slice (some l) (some h) none _) _ => o3 (cE P n sc a) (cE P n sc l) (cE P n sc h) .s2
    | .Subscript a (.Slice (some l) none none _) _ => o2 (cE P n sc a) (cE P n sc l) .sL
    | .Subscript a (.Slice none (some h) none _) _ => o2 (cE P n sc a) (cE P n sc h) .sH
    | .Subscript a (.Slice none none (some (.UnaryOp .USub (.Constant (.int 1) _ _) _)) _) _ => o1 (cE P n sc a) .rv
    | .Subscript _ (.Slice _ _ _ _) _ => none
    | .Subscript (.Name x _) b _ => (match slotOf P sc x with
      | some i => o1 (cE P n sc b) (.ixo i)
      | none => none)
    | .Subscript a b _ => o2 (cE P n sc a) (cE P n sc b) .ix
    | .Call (.Name f p) [.Lambda ⟨[], [], none, [], [], none, []⟩ b lsc _] [] _ => if gloB sc f = true ∧ P.L = some f ∧ LamX.lamSB sc lsc = true then (match b with
      | .Call (.Name g _) (a :: r) [] _ => if gloB lsc g = true ∧ g ∈ P.F then o1 (cA P.qt n lsc (a :: r)) (.told g) else none
      | _ => none) else none
    | .Call (.Name f _) args [] _ => if gloB sc f then cC P n sc f args else none
    | .Call (.Name f _) [a] [⟨some nm, b, _⟩] _ => if f = "max" ∧ nm = "default" ∧ gloB sc "max" = true ∧ ("max" : Str) ∈ P.B then o2 (cE P n sc a) (cE P n sc b) .mxd else none
    | .ListComp elt [⟨tg, it, ifs, 0⟩] scope _ => (match cG P.qt scope tg with
      | some t => if blkC P.N sc scope (ownOf P.qt t) then (match cE P.qt n scope elt, cI P n sc tg it, cF P.qt n scope ifs with
        | some a, some i, some c => some (.lc a t i c ((ownOf P.qt t).map (·.2)))
        | _, _, _ => none) else none
      | none => none)
    | .ListComp elt [⟨tg, it, ifs, 0⟩, ⟨tg1, it1, ifs1, 0⟩] scope _ => (match cG P.qt scope tg, cG P.qt scope tg1 with
      | some t, some t1 => if blkC P.N sc scope (ownOf P.qt (.tp [t, t1])) then (match cE P.qt n scope elt, cI P n sc tg it, cF P.qt n scope ifs, cI P.qt n scope tg1 it1, cF P.qt n scope ifs1 with
        | some a, some i, some c, some i1, some c1 => some (.lc2 a t i c t1 i1 c1 ((ownOf P.qt (.tp [t, t1])).map (·.2)) ((ownOf P.qt t1).map (·.2)))
        | _, _, _, _, _ => none) else none
      | _, _ => none)
    | _ => none
/-- the parts of an f-string -/
def cJ : Prm → Nat → Scope → List Expr → Option IA
  | _, 0, _, _ => none
  | P, _ + 1, _, [] => some .nil
  | P, n + 1, sc, .Constant (.str x) k p :: es => o2 (cE P n sc (.Constant (.str x) k p)) (cJ P n sc es) .cons
  | P, n + 1, sc, .FormattedValue e c none _ :: es => if c = -1 then o2 (cE P n sc e) (cJ P n sc es) .cons else none
  | P, n + 1, sc, _ => none
/-- calls -/
def cC : Prm → Nat → Scope → Str → List Expr → Option IE
  | _, 0, _, _, _ => none
  | P, n + 1, sc, f, args =>
    if f ∈ P.O then (match args with
      | .Name y _ :: es => (match slotOf P sc y with
          | some i => o1 (cA P n sc es) fun x => if P.q then .caloq f i x else .calo f i x
          | none => none)
      | _ => none)
    else if f ∈ P.F then (match args with
      | [] => none
      | _ => o1 (cA P n sc args) fun x => if P.q then .calq f x else .call f x)
    else if f ∈ P.M then (match args with
      | [a, b] => if f = "gcd" then o2 (cE P n sc a) (cE P n sc b) (.ma .gcd) else if f = "lcm" then o2 (cE P n sc a) (cE P n sc b) (.ma .lcm) else none
      | _ => none)
    else if f ∈ P.B then
      (if f = "isinstance" then (match args with
        | [a, .Name t _] => if gloB sc t && decide (t ∈ P.B) then (match typB t with
          | some u => o1 (cE P n sc a) fun x => .isi x u
          | none => none) else none
        | [a, .Tuple [.Name t _, .Name t' _] _ _] => if gloB sc t && decide (t ∈ P.B) && gloB sc t' && decide (t' ∈ P.B) then (match typB t, typB t' with
          | some u, some u' => o1 (cE P n sc a) fun x => .isj x u u'
          | _, _ => none) else none
        | _ => none)
      else if f = "sorted" then (match args with
        | [.Call (.Name g _) [a] [] _] => if g = "set" then (if gloB sc g && decide (g ∈ P.B) then o1 (cE P n sc a) .ss else none) else o1 (cA P n sc args) (.bi .sorted)
        | [] => none
        | _ => o1 (cA P n sc args) (.bi .sorted))
      else if f = "len" then (match args with
        | [.Name y _] => o1 (slotOf P sc y) .ln
        | [] => none
        | _ => o1 (cA P n sc args) (.bi .len))
      else if args.isEmpty then none
      else (match bnOf f with
        | some b => o1 (cA P n sc args) (.bi b)
        | none => none))
    else none
def cA : Prm → Nat → Scope → List Expr → Option IA
  | _, 0, _, _ => none
  | P, _ + 1, _, [] => some .nil
  | P, n + 1, sc, e :: es => o2 (cE P n sc e) (cA P n sc es) .cons
def cT : Prm → Nat → Scope → Expr → Option IT
  | _, 0, _, _ => none
  | P, n + 1, sc, e => match e with
    | .Compare a [o] [b] _ => if behindInMarks o b then none else o2 (cE P n sc a) (cE P n sc b) (.cp o)
    | .Compare a [o, o'] [b, c] _ => if lastMarks [o, o'] [b, c] then none else o3 (cE P n sc a) (cE P n sc b) (cE P n sc c) (.ch o o')
    | .Compare a [o, o', o2] [b, c, d] _ => if lastMarks [o, o', o2] [b, c, d] then none else o4 (cE P n sc a) (cE P n sc b) (cE P n sc c) (cE P n sc d) (.c4 o o' o2)
    | .UnaryOp .Not a _ => o1 (cT P n sc a) .nt
    | .BoolOp .And (a :: r) _ => cW P n sc true a r
    | .BoolOp .Or (a :: r) _ => cW P n sc false a r
    | .Name x p => (match slotOf P sc x with
      | some i => some (.vl i)
      | none => o1 (cE P n sc (.Name x p)) .v)
    | e => if valTest e then o1 (cE P n sc e) .v else none
/-- and, or as tests -/
def cW : Prm → Nat → Scope → Bool → Expr → List Expr → Option IT
  | _, 0, _, _, _, _ => none
  | P, n + 1, sc, _, a, [] => cT P n sc a
  | P, n + 1, sc, k, a, b :: r => o2 (cT P n sc a) (cW P n sc k b r) fun x y => if k then .an x y else .ro x y
def cF : Prm → Nat → Scope → List Expr → Option IF
  | _, 0, _, _ => none
  | P, _ + 1, _, [] => some .nil
  | P, n + 1, sc, [c] => o1 (cT P n sc c) .one
  | P, _ + 1, _, _ => none
def cI : Prm → Nat → Scope → Expr → Expr → Option II
  | _, 0, _, _, _ => none
  | P, n + 1, sc, tg, e => if isSet e then none else match e with
    | .Call (.Name f _) args [] _ =>
      if f = "range" then (if gloB sc f && decide (f ∈ P.B) then (match args with
        | [a] => o1 (cE P n sc a) .r1
        | [a, b] => o2 (cE P n sc a) (cE P n sc b) .r2
        | _ => none) else none)
      else if f = "enumerate" then (if gloB sc f && decide (f ∈ P.B) then (match tg, args with
        | .Tuple _ _ _, [a] => o1 (cE P n sc a) .en
        | _, _ => none) else none)
      else if f = "zip" then (if gloB sc f && decide (f ∈ P.B) then (match tg, args with
        | .Tuple _ _ _, [a, b] => o2 (cE P n sc a) (cE P n sc b) .zp
        | .Tuple _ _ _, [a, b, c] => o3 (cE P n sc a) (cE P n sc b) (cE P n sc c) .z3
        | _, _ => none) else none)
      else o1 (cE P n sc e) .e
    | e => o1 (cE P n sc e) .e
end

def isComp : Expr → Option Scope
  | .ListComp _ _ s _ => some s
  | .SetComp _ _ s _ => some s
  | .DictComp _ _ _ s _ => some s
  | _ => none
def swapB (sc : Scope) (t : Str) (pl vl : Nat) (s : Scope) : Bool := sc.names.lookup t == some .local && pl == vl && !(s.names.any fun (n, k) => n == t && (k == .local || k == .cell))
def parB (sc : Scope) (x y : Str) (px py : Pos) (a b : Expr) : Bool :=
  sc.names.lookup x == some .local && sc.names.lookup y == some .local && px.line == py.line && x != y && !([a, b].all (foldedForSure 8)) && !([a, b].all (constantsAlone 8))
def parB3 (sc : Scope) (x y z : Str) (px py pz : Pos) (a b c : Expr) : Bool :=
  sc.names.lookup x == some .local && sc.names.lookup y == some .local && sc.names.lookup z == some .local && px.line == py.line && px.line == pz.line && x != y && x != z && y != z && !([a, b, c].all (foldedForSure 8)) && !([a, b, c].all (constantsAlone 8))
def parN3 (sc : Scope) (x y z : Str) : Bool := !(sc.names.lookup x == some .local && sc.names.lookup y == some .local && sc.names.lookup z == some .local)
def parN (sc : Scope) (x y : Str) : Bool := !(sc.names.lookup x == some .local && sc.names.lookup y == some .local)
mutual
def cS (P : Prm) : Nat → Scope → Stmt → Option IS
  | 0, _, _ => none
  | n + 1, sc, s => match s with
    | .Assign [.Name x _] e _ => (match tslotOf P sc x with
      | some i => (match isComp e with
        | some _ => (match e with
          | .ListComp _ [⟨_, _, _, 0⟩] _ _ => o1 (cE P n sc e) (.set i)
          | .ListComp _ [⟨_, _, _, 0⟩, ⟨_, _, _, 0⟩] _ _ => o1 (cE P n sc e) (.set i)
          | _ => none)
        | none => o1 (cE P n sc e) (.set i))
      | none => none)
    | .Assign [.Tuple [.Name x px, .Name y py] kt pt] (.Tuple [a, b] k2 p2) _ => (match tslotOf P sc x, tslotOf P sc y with
      | some i, some j => if i ≠ j ∧ parB sc x y px py a b = true then o2 (cE P n sc a) (cE P n sc b) (.par i j) else
          if ([a, b].all (foldedForSure 8) || parN sc x y) = true then o2 (cG P sc (.Tuple [.Name x px, .Name y py] kt pt)) (cE P n sc (.Tuple [a, b] k2 p2)) .asg else none
      | _, _ => none)
    | .Assign [.Tuple [.Name x px, .Name y py, .Name z pz] kt pt] (.Tuple [a, b, c] k2 p2) _ => (match tslotOf P sc x, tslotOf P sc y, tslotOf P sc z with
      | some i, some j, some l => if i ≠ j ∧ i ≠ l ∧ j ≠ l ∧ parB3 sc x y z px py pz a b c = true then o3 (cE P n sc a) (cE P n sc b) (cE P n sc c) (.par3 i j l) else
          if ([a, b, c].all (foldedForSure 8) || parN3 sc x y z) = true then o2 (cG P sc (.Tuple [.Name x px, .Name y py, .Name z pz] kt pt)) (cE P n sc (.Tuple [a, b, c] k2 p2)) .asg else none
      | _, _, _ => none)
    | .Assign [.Tuple [.Subscript (.Name x _) (.Slice _ _ _ _) _, _] _ _] _ _ => none
    | .Assign [.Tuple [_, .Subscript (.Name x _) (.Slice _ _ _ _) _] _ _] _ _ => none
    | .Assign [.Tuple [.Subscript (.Name x _) a _, .Subscript (.Name y _) b _] _ _] (.Tuple es k2 p2) _ => (match slotOf P sc x, slotOf P sc y with
      | some i, some j => o3 (cE P n sc a) (cE P n sc b) (cE P n sc (.Tuple es k2 p2)) fun k l e => .sti2 i k j l e
      | _, _ => none)
    | .Assign [.Tuple _ _ _] (.Tuple _ _ _) _ => none
    | .Assign [.Tuple ts kt pt] e _ => (match isComp e with
      | some _ => none
      | none => o2 (cG P sc (.Tuple ts kt pt)) (cE P n sc e) .asg)
    | .Assign [.Subscript (.Name x _) (.Slice _ _ _ _) _] e _ => none
    | .Assign [.Subscript (.Name x _) b _] e _ => (match slotOf P sc x, isComp e with
      | some i, none => o2 (cE P n sc b) (cE P n sc e) (.sti i)
      | _, _ => none)
    | .AugAssign (.Subscript (.Name x _) (.Slice _ _ _ _) _) o e _ => none
    | .AugAssign (.Subscript (.Name x _) a _) o e _ => (match slotOf P sc x with
      | some i => o2 (cE P n sc a) (cE P n sc e) fun k e => .augs i k o e
      | none => none)
    | .AugAssign (.Name x _) o e _ => (match tslotOf P sc x with
      | some i => o1 (cE P n sc e) (.aug i o)
      | none => none)
    | .If c s1 s2 _ => o3 (cT P n sc c) (cB P n sc s1) (cB P n sc s2) .iff
    | .Return none _ => some .retN
    | .Return (some e) _ => o1 (cE P n sc e) .ret
    | .Pass _ => some .pass
    | .Break _ => some .brk
    | .Continue _ => some .cnt
    | .Expr (.Call (.Attribute (.Name x _) at_ apos) [e] [] cpos) _ => if at_ = "append" ∧ (apos.endLine == cpos.line) = true then (match slotOf P sc x with
      | some i => o1 (cE P n sc e) (.app i)
      | none => none) else none
    | .Expr e _ => (match isComp e with
      | some _ => none
      | none => o1 (cE P n sc e) .drop)
    | .Raise (some (.Call (.Name C _) es [] _)) none _ => if gloB sc C = true ∧ P.q = false then
        (if C ∈ P.E then (match es with
          | [e] => some ((o1 (cE P n sc e) (.rai C)).getD .dead)
          | _ => some .dead)
        else if C ∈ P.E1 then (match es with
          | e :: r => some ((o1 (cA P n sc (e :: r)) (.raif C)).getD .dead)
          | _ => some .dead)
        else some .dead) else some .dead
    | .Raise _ _ _ => some .dead
    | .Try [.Expr (.Call (.Name f _) (a :: r) [] _) _] [.ExceptHandler (some (.Name C _)) none [.Return (some (.Constant (.bool d) _ _)) _] _] [] [] _ => if gloB sc f = true ∧ f ∈ P.F ∧ gloB sc C = true ∧ P.C = some C then o1 (cA P.qt n sc (a :: r)) (fun x => .tryq f x (.bool d)) else none
    | .For tg it body [] _ => o3 (cG P sc tg) (cI P n sc tg it) (cB P n sc body) .fo
    | .While c body [] _ => o2 (cT P n sc c) (cB P n sc body) .wh
    | _ => none
def cB (P : Prm) : Nat → Scope → List Stmt → Option IB
  | 0, _, _ => none
  | _ + 1, _, [] => some .nil
  | n + 1, sc, s :: r => o2 (cS P n sc s) (cB P n sc r) .cons
end
end DW

set_option Elab.async false
set_option autoImplicit false
set_option linter.all false
set_option maxRecDepth 100000
/-! IRs: what holds of the text without places holds of the text -/
namespace DW
open PySem PySem.Spec L2
open PyProof.Rows hiding St

theorem frzW_frz {s : Sl} {K : D → Prop} (h : frzW s K) : ∃ d, frz s = some d ∧ K d := by
  cases s with
  | un => exact h.elim
  | pd d => exact ⟨d, rfl, h⟩
  | ow t o =>
    cases o with
    | lst ds => exact ⟨_, rfl, h⟩
    | dct t ks => cases t <;> exact ⟨_, rfl, h⟩
    | net ps => exact h.elim
section
variable [CF : Cfg] [OG : Org]
variable {X : Cx} {av : List V} {ρ : Ev} {e a b c : Expr} {es : List Expr}
theorem EX.mono {Q Q' : Sl → Ev → Prop} (h : EX X av e ρ Q) (m : ∀ s ρ', Q s ρ' → Q' s ρ') : EX X av e ρ Q' := fun Hs H σ R r k => h Hs H σ R r fun v s ρ' Hs' H' st r' hv q => k v s ρ' Hs' H' st r' hv (m s ρ' q)
theorem AX.mono {Q Q' : List D → Ev → Prop} (h : AX X av es ρ Q) (m : ∀ s ρ', Q s ρ' → Q' s ρ') : AX X av es ρ Q' := fun Hs H σ R r k => h Hs H σ R r fun v s ρ' Hs' H' st r' hv q => k v s ρ' Hs' H' st r' hv (m s ρ' q)
theorem ED.of {Q : D → Ev → Prop} (h : EX X av e ρ fun s ρ1 => frzW s fun d => Q d ρ1) : ED X av e ρ Q := h.mono fun s ρ' q => frzW_frz q
theorem ED.mono {Q Q' : D → Ev → Prop} (h : ED X av e ρ Q) (m : ∀ s ρ', Q s ρ' → Q' s ρ') : ED X av e ρ Q' := EX.mono h fun s ρ' ⟨d, e, q⟩ => ⟨d, e, m d ρ' q⟩
theorem bin_ok {o : Operator} {x y : D} {K : Sl → Prop} (h : binW o x y K) : ∃ s, B2 X (binaryOp o) x y s ∧ K s := by
  unfold binW at h
  split at h
  · exact ⟨_, b2_add, h⟩
  · exact ⟨_, b2_catL h.1, h.2⟩
  · exact ⟨_, b2_catT h.1, h.2⟩
  · exact ⟨_, b2_sub, h⟩
  · exact ⟨_, b2_mul h.1, h.2⟩
  · exact ⟨_, b2_repT h.1 h.2.1 h.2.2.1 h.2.2.2.1, h.2.2.2.2⟩
  · exact ⟨_, b2_rep h.1 h.2.1 h.2.2.1, h.2.2.2⟩
  · exact ⟨_, b2_shl h.1, h.2⟩
  · exact ⟨_, b2_shr h.1, h.2⟩
  · exact ⟨_, b2_band, h⟩
  · exact ⟨_, b2_bor, h⟩
  · exact ⟨_, b2_mod h.1, h.2⟩
  · exact ⟨_, b2_fdiv h.1, h.2⟩
  · exact ⟨_, b2_pow h.1, h.2⟩
  · exact h.elim
theorem aug_ok {o : Operator} {x y : D} {K : D → Prop} (h : augW o x y K) : ∃ f, B2 X (inplaceOp o) x y (.pd f) ∧ K f := by
  unfold augW at h
  split at h
  · exact ⟨_, b2_iadd, h⟩
  · exact ⟨_, b2_isub, h⟩
  · exact h.elim
theorem cmp_ok {o : CmpOp} {x y : D} {K : Bool → Prop} (hu : X.A.units + 65 < cLine) (h : cmpW o x y K) : ∃ k, B2 X (compareOp o) x y (.pd (.bool k)) ∧ K k := by
  unfold cmpW at h
  split at h
  · exact ⟨_, b2_lt, h⟩
  · exact ⟨_, b2_le, h⟩
  · exact ⟨_, b2_gt, h⟩
  · exact ⟨_, b2_ge, h⟩
  · exact ⟨_, b2_eqI, h⟩
  · exact ⟨_, b2_neI, h⟩
  · exact ⟨_, b2_eqB, h⟩
  · exact ⟨_, b2_neB, h⟩
  · exact ⟨_, b2_eqD (by omega) h.1 h.2.1, h.2.2⟩
  · exact ⟨_, b2_neD (by omega) h.1 h.2.1, h.2.2⟩
  · exact ⟨_, b2_isN, h⟩
  · refine ⟨_, ?_, h⟩
    cases x <;> exact b2_notN
  · exact ⟨_, b2_isB, h⟩
  · exact ⟨_, b2_isnB, h⟩
  · exact ⟨_, b2_inL hu h.1 h.2.1, h.2.2⟩
  · exact ⟨_, b2_inT hu h.1 h.2.1, h.2.2⟩
  · exact ⟨_, b2_ninL hu h.1 h.2.1, h.2.2⟩
  · exact ⟨_, b2_ninT hu h.1 h.2.1, h.2.2⟩
  · exact h.elim
omit CF OG in
theorem tru_ok {d : D} {K : Bool → Prop} (h : truW d K) : ∃ k, Tru d k ∧ K k := by
  unfold truW at h
  split at h
  · exact ⟨_, rfl, h⟩
  · exact ⟨_, rfl, h⟩
  · exact ⟨_, rfl, h⟩
  · exact ⟨_, rfl, h⟩
  · exact ⟨_, rfl, h⟩
  · exact h.elim
omit CF OG in
theorem sorted_eq : ∀ {l m : List Int}, l.Perm m → l.Pairwise (· ≤ ·) → m.Pairwise (· ≤ ·) → l = m
  | [], m, p, _, _ => by rw [List.Perm.nil_eq p]
  | a :: r, [], p, _, _ => by have := p.length_eq; simp at this
  | a :: r, b :: s, p, h1, h2 => by
    have e : a = b := by
      have m1 : a ∈ b :: s := p.subset List.mem_cons_self
      have m2 : b ∈ a :: r := p.symm.subset List.mem_cons_self
      rcases List.mem_cons.mp m1 with z | z
      · exact z
      · rcases List.mem_cons.mp m2 with y | y
        · exact y.symm
        · exact Int.le_antisymm ((List.pairwise_cons.mp h1).1 b y) ((List.pairwise_cons.mp h2).1 a z)
    subst e
    rw [sorted_eq (List.Perm.cons_inv p) (List.pairwise_cons.mp h1).2 (List.pairwise_cons.mp h2).2]
omit CF OG in
theorem isort_perm (l : List Int) : (isort l).Perm l := List.mergeSort_perm l _
omit CF OG in
theorem isort_pw (l : List Int) : (isort l).Pairwise (· ≤ ·) := by
  have z := List.pairwise_mergeSort (le := fun a b : Int => decide (a ≤ b)) (fun a b c h1 h2 => by simp at *; omega) (fun a b => by simp; omega) l
  exact z.imp fun h => by simpa using h
/-- a call of a built-in that has an answer -/
def BltOk (X : Cx) (x : Str) (ds : List D) (K : Sl → Prop) : Prop := (∃ id s, bootBuiltins x = some (.builtin id) ∧ BC X (.builtin id) ds s ∧ K s) ∨ (∃ id s, bootBuiltins x = some (.type id) ∧ BC X (.type id) ds s ∧ K s)
theorem blt_ok {x : Bn} {ds : List D} {K : Sl → Prop} (hc : X.calm = true) (hu : X.A.units + 64 < cLine) (h : bltW x ds K) : BltOk X (bnName x) ds K := by
  cases x with
  | len =>
    unfold bltW bLen at h
    simp only at h
    split at h
    · exact .inl ⟨"len", _, by decide +kernel, bc_len rfl, h⟩
    · exact .inl ⟨"len", _, by decide +kernel, bc_len rfl, h⟩
    · exact .inl ⟨"len", _, by decide +kernel, bc_len rfl, h⟩
    · exact h.elim
  | max =>
    unfold bltW bMax at h
    simp only at h
    split at h
    · exact .inl ⟨"max", _, by decide +kernel, bc_max2 hc, by rw [mx2]; exact h⟩
    · obtain ⟨ns, h1, h2, h3⟩ := opW_of h
      rw [intsOf_some h1]
      exact .inl ⟨"max", _, by decide +kernel, bc_max (imax_mem h2) (fun y hy => imax_le hy) hc, h3⟩
    · obtain ⟨ns, h1, h2, h3⟩ := opW_of h
      rw [intsOf_some h1]
      exact .inl ⟨"max", _, by decide +kernel, bc_maxT (imax_mem h2) (fun y hy => imax_le hy) hu hc, h3⟩
    · exact h.elim
  | min =>
    unfold bltW bMin at h
    simp only at h
    split at h
    · exact .inl ⟨"min", _, by decide +kernel, bc_min2 hc, by rw [mn2]; exact h⟩
    · obtain ⟨ns, h1, h2, h3⟩ := opW_of h
      rw [intsOf_some h1]
      exact .inl ⟨"min", _, by decide +kernel, bc_min (imin_mem h2) (fun y hy => imin_le hy) hc, h3⟩
    · exact .inl ⟨"min", _, by decide +kernel, bc_minP hu hc, h⟩
    · exact h.elim
  | abs =>
    unfold bltW bAbs at h
    simp only at h
    split at h
    · exact .inl ⟨"abs", _, by decide +kernel, bc_abs, h⟩
    · exact h.elim
  | sum =>
    unfold bltW bSum at h
    simp only at h
    split at h
    · obtain ⟨ns, h1, h3⟩ := opW_of h
      rw [intsOf_some h1]
      exact .inl ⟨"sum", _, by decide +kernel, bc_sum hc, h3⟩
    · obtain ⟨ns, h1, h3⟩ := opW_of h
      rw [intsOf_some h1]
      exact .inl ⟨"sum", _, by decide +kernel, bc_sumT hc, h3⟩
    · exact h.elim
  | any =>
    unfold bltW bAny at h
    simp only at h
    split at h
    · obtain ⟨ns, h1, h3⟩ := opW_of h
      rw [boolsOf_some h1]
      exact .inl ⟨"any", _, by decide +kernel, bc_any hc, h3⟩
    · exact h.elim
  | all =>
    unfold bltW bAll at h
    simp only at h
    split at h
    · obtain ⟨ns, h1, h3⟩ := opW_of h
      rw [boolsOf_some h1]
      exact .inl ⟨"all", _, by decide +kernel, bc_all hc, h3⟩
    · exact h.elim
  | sorted =>
    unfold bltW bSorted at h
    simp only at h
    split at h
    · obtain ⟨ns, h1, h3⟩ := opW_of h
      rw [intsOf_some h1]
      exact .inl ⟨"sorted", _, by decide +kernel, bc_sorted fun ns' p1 p2 => by rw [sorted_eq (p1.trans (isort_perm ns).symm) p2 (isort_pw ns)], h3⟩
    · exact h.elim
  | list =>
    unfold bltW bList at h
    simp only at h
    split at h
    · exact .inr ⟨"list", _, by decide +kernel, bc_list rfl, h⟩
    · exact .inr ⟨"list", _, by decide +kernel, bc_list rfl, h⟩
    · exact h.elim
  | tuple =>
    unfold bltW bTuple at h
    simp only at h
    split at h
    · exact .inr ⟨"tuple", _, by decide +kernel, bc_tuple rfl, h⟩
    · exact .inr ⟨"tuple", _, by decide +kernel, bc_tuple rfl, h⟩
    · exact h.elim
  | int =>
    unfold bltW bInt at h
    simp only at h
    split at h
    · exact .inr ⟨"int", _, by decide +kernel, bc_int, h⟩
    · exact .inr ⟨"int", _, by decide +kernel, bc_intB, h⟩
    · exact h.elim
  | str =>
    unfold bltW bStr at h
    simp only at h
    split at h
    · exact .inr ⟨"str", _, by decide +kernel, bc_str h.1, h.2⟩
    · exact h.elim
omit CF OG in
def fiP (T : Tb) (f : Str) : Fi := fun as Pq xk => ∃ ds, as = ds.map .pd ∧ T.fp f ds (fun d => Pq (.pd d) as) xk
omit CF OG in
def fiO (T : Tb) (f : Str) : Fi := fun as Pq xk => ∃ rw ds, as = .ow (some 0) (.lst rw) :: ds.map .pd ∧ T.fo f rw ds (fun d rw' => Pq (.pd d) (.ow (some 0) (.lst rw') :: ds.map .pd)) xk
/-- C(e) is raised -/
def RaiM (X : Cx) (T : Tb) (C : Str) : Prop := ∀ {av : List V} {ρ : Ev} {Φ : Ph} {e : Expr} {p p2 pos : Pos}, Gl X C → (C == ("__debug__" : Str)) = false → starEach [e] X.env = (false, eval e X.env) :: starEach [] X.env →
  (ED X av e ρ fun d _ => (∃ x, d = .str x) ∧ T.xk (C, [])) → SX X av (.Raise (some (.Call (.Name C p) [e] [] p2)) none pos) ρ Φ
/-- C(e, ..), with fields -/
def RaiF (X : Cx) (T : Tb) (C : Str) : Prop := ∀ {av : List V} {ρ : Ev} {Φ : Ph} {e : Expr} {es : List Expr} {p p2 pos : Pos}, Gl X C → (C == ("__debug__" : Str)) = false → starEach (e :: es) X.env = (false, eval e X.env) :: starEach es X.env → (backTo p2 (starEach es X.env)).any (·.1) = false →
  (AX X av (e :: es) ρ fun ds _ => T.xk (C, ds)) → SX X av (.Raise (some (.Call (.Name C p) (e :: es) [] p2)) none pos) ρ Φ
/-- try: f(e, ..) / except C: return b -/
def TryOk (X : Cx) (T : Tb) (C : Str) : Prop := ∀ {av : List V} {ρ : Ev} {Φ : Ph} {f : Str} {a : Expr} {r : List Expr} {b : Bool} {k : Nat} {ps : List Str} {p1 p2 p3 p4 p5 p6 p7 p8 : Pos}, Gl X f → (f == ("__debug__" : Str)) = false → Gl X C → (C == ("__debug__" : Str)) = false →
  (∀ pn xe, starEach (a :: r) (X.tr pn xe).env = (false, eval a (X.tr pn xe).env) :: starEach r (X.tr pn xe).env ∧ (backTo p2 (starEach r (X.tr pn xe).env)).any (·.1) = false) → (∃ k j, k ≤ j ∧ Room j X.A ∧ Cal X.prog X.w X.K X.mg X.base k f ps (fiP T f)) →
  (∀ pn xe, PassesOwn (model X.prog X.w) X.A X.env xe → AX (X.tr pn xe) av (a :: r) ρ fun ds ρ1 => T.fp f ds (fun _ => Φ.nx ρ1) fun x => x.1 ∈ T.ec ∧ Φ.rt (.pd (.bool b)) ρ1) →
  SX X av (.Try [.Expr (.Call (.Name f p1) (a :: r) [] p2) p3] [.ExceptHandler (some (.Name C p4)) none [.Return (some (.Constant (.bool b) k p5)) p6] p7] [] [] p8) ρ Φ
/-- what is known where a text stands -/
structure Gd0 (X : Cx) (T : Tb) (P : Prm) (sc : Scope) : Prop where
  N : X.N = P.N
  nd : P.N.Nodup
  kind : X.env.scope.kind = .function
  loc : ∀ x, sc.names.lookup x = some .local → X.env.scope.names.lookup x = some .local
  cel : ∀ x, sc.names.lookup x = some .cell → X.env.scope.names.lookup x = some .cell
  fre : ∀ x, sc.names.lookup x = some .free → X.env.scope.names.lookup x = some .free ∨ X.env.scope.names.lookup x = some .cell
  glo : ∀ x, sc.names.lookup x = some .globalImplicit → X.env.scope.names.lookup x = some .globalImplicit
  fn : ∀ x, locB sc x = true → X.fn x = true ∨ X.env.scope.names.lookup x = some .local
  calm : X.calm = true
  un : X.A.units + 65 < cLine
  cal : ∀ f ∈ P.F, ∃ k j ps, k ≤ j ∧ Room j X.A ∧ Cal X.prog X.w X.K X.mg X.base k f ps (fiP T f)
  cao : ∀ f ∈ P.O, ∃ k j ps, k ≤ j ∧ Room j X.A ∧ Cal X.prog X.w X.K X.mg X.base k f ps (fiO T f)
  blt : ∀ x ∈ P.B, X.mg x = none
  mat : ∀ x ∈ P.M, X.mg x = mthV x
  gl : ∀ x d, T.gl x = some d → ∃ u v, X.mg x = some u ∧ RelV v u ∧ ∀ Hs, Rp X.K Hs v d
  ph : PassesOwn (model X.prog X.w) X.A X.env X.xe
  tk : P.q = false → Takes X (WO X.K T.xk)
/-- a def that tells what a lambda made -/
def TolOk (X : Cx) (T : Tb) (P : Prm) (sc : Scope) (x : Str) : Prop := ∀ {av : List V} {ρ : Ev} {Q : Sl → Ev → Prop} {g : Str} {a : Expr} {r : List Expr} {lsc : Scope} {p1 p2 p3 p4 p5 : Pos}, Gl X x → (x == ("__debug__" : Str)) = false → LamX.lamSB sc lsc = true → gloB lsc g = true → g ∈ P.F →
  (∀ Y, Gd0 Y T P.qt lsc → AX Y av (a :: r) ρ fun ds ρ1 => T.fp g ds (fun d => Q (.pd (T.tv d)) ρ1) fun x => match T.tx x with
    | some d => Q (.pd d) ρ1
    | none => False) → (∀ env, starEach (a :: r) env = (false, eval a env) :: starEach r env ∧ (backTo p2 (starEach r env)).any (·.1) = false) →
  EX X av (.Call (.Name x p1) [.Lambda ⟨[], [], none, [], [], none, []⟩ (.Call (.Name g p3) (a :: r) [] p2) lsc p4] [] p5) ρ Q
structure Gd (X : Cx) (T : Tb) (P : Prm) (sc : Scope) : Prop extends Gd0 X T P sc where
  exm : P.q = false → ∀ C ∈ P.E, RaiM X T C
  exf : P.q = false → ∀ C ∈ P.E1, RaiF X T C
  tol : ∀ f, P.L = some f → TolOk X T P sc f
  trq : ∀ C, P.C = some C → TryOk X T C
/-- where nothing is raised -/
theorem Gd0.up {X : Cx} {T : Tb} {P : Prm} {sc : Scope} (g : Gd0 X T P.qt sc) : Gd X T P.qt sc := ⟨g, fun z => (by cases z), fun z => (by cases z), fun _ z => (by cases z), fun _ z => (by cases z)⟩
variable {T : Tb} {P : Prm} {sc : Scope}
omit CF OG in
theorem lk_map {f : Str × NameKind → Str × NameKind} (hf : ∀ p, (f p).1 = p.1) {x : Str} {q : NameKind} : ∀ {nm : List (Str × NameKind)}, nm.lookup x = some q → ∃ n, (nm.map f).lookup x = some (f (n, q)).2
  | [], h => by cases h
  | (n, k) :: r, h => by
    rw [List.lookup_cons] at h
    rw [List.map_cons, show f (n, k) = ((f (n, k)).1, (f (n, k)).2) from rfl, List.lookup_cons, hf]
    cases e : x == n with
    | true =>
      rw [e] at h
      cases h
      exact ⟨n, by simp [e]⟩
    | false =>
      rw [e] at h
      obtain ⟨m, z⟩ := lk_map hf h
      exact ⟨m, by simpa [e] using z⟩
omit CF OG in
def rlF (env : Env) : Str × NameKind → Str × NameKind := fun (n, k) => if (k == NameKind.free && env.scope.kind == .function && env.kindOf n == some .cell) then (n, NameKind.cell) else (n, k)
omit CF OG in
theorem rlF_1 (env : Env) (p : Str × NameKind) : (rlF env p).1 = p.1 := by
  obtain ⟨n, k⟩ := p
  show (if _ then _ else _ : Str × NameKind).1 = n
  split <;> rfl
omit CF OG in
theorem rlF_2 (env : Env) (n : Str) (q : NameKind) : (q ≠ .free → (rlF env (n, q)).2 = q) ∧ (q = .free → (rlF env (n, q)).2 = .free ∨ (rlF env (n, q)).2 = .cell) := by
  unfold rlF
  refine ⟨fun h => ?_, fun h => ?_⟩
  · have : (q == NameKind.free) = false := by cases q <;> first | rfl | exact absurd rfl h
    simp [this]
  · subst h
    simp only
    split
    · exact .inr rfl
    · exact .inl rfl
theorem Gd.blk {Y : Cx} {scope : Scope} (g : Gd X T P sc) (hk : scope.kind = .function) (hY : Blk X scope Y) : Gd Y T P.qt scope := by
  obtain ⟨s, H, C, cl, fp, rfl⟩ := hY
  have hn : ∀ x q, scope.names.lookup x = some q → q ≠ .free → (relabel scope X.env).names.lookup x = some q := fun x q h hq => by
    obtain ⟨n, z⟩ := lk_map (rlF_1 X.env) h
    rw [(rlF_2 X.env n q).1 hq] at z
    exact z
  refine Gd0.up ⟨g.N, g.nd, hk, fun x h => hn x _ h (by decide), fun x h => hn x _ h (by decide), fun x h => by
    obtain ⟨n, z⟩ := lk_map (rlF_1 X.env) h
    rcases (rlF_2 X.env n .free).2 rfl with y | y
    · rw [y] at z; exact .inl z
    · rw [y] at z; exact .inr z, fun x h => hn x _ h (by decide), fun x h => ?_, g.calm, g.un, g.cal, g.cao, g.blt, g.mat, g.gl, PassesOwn.never, fun z => (by cases z)⟩
  unfold DW.locB at h
  split at h
  · exact .inr (hn x _ (by assumption) (by decide))
  · refine .inl ?_
    show (scope.names.lookup x == some .cell) = true
    rename_i z
    rw [z]
    rfl
  · cases h
theorem Gd.vis (g : Gd X T P sc) {x : Str} (h : visB sc x = true) : Vis X.env.scope x := by
  unfold visB at h
  split at h
  · exact .inl (g.loc x (by assumption))
  · exact .inr (.inl (g.cel x (by assumption)))
  · rcases g.fre x (by assumption) with z | z
    · exact .inr (.inr z)
    · exact .inr (.inl z)
  · cases h
theorem Gd.locB (g : Gd X T P sc) {x : Str} (h : locB sc x = true) : Loc X.env.scope x := by
  unfold DW.locB at h
  split at h
  · exact .inl (g.loc x (by assumption))
  · exact .inr (g.cel x (by assumption))
  · cases h
omit CF OG in
theorem dunder_no {x : Str} (h : dunder x = false) : (x == ("__debug__" : Str)) = false ∧ (x == ("__classdict__" : Str)) = false ∧ x ≠ "__name__" := by
  unfold dunder at h
  rw [Bool.or_eq_false_iff, Bool.or_eq_false_iff] at h
  exact ⟨h.1.1, h.1.2, fun z => by rw [z] at h; exact absurd h.2 (by decide)⟩
theorem Gd.gloB (g : Gd X T P sc) {x : Str} (h : gloB sc x = true) : Gl X x ∧ (x == ("__debug__" : Str)) = false ∧ (x == ("__classdict__" : Str)) = false ∧ x ≠ "__name__" := by
  unfold DW.gloB at h
  split at h
  · exact ⟨g.glo x (by assumption), dunder_no (by simpa using h)⟩
  · cases h
theorem slotOf_at {x : Str} {i : Nat} (g : Gd X T P sc) (h : slotOf P sc x = some i) : X.N[i]? = some x ∧ Vis X.env.scope x ∧ (x == ("__debug__" : Str)) = false ∧ (x == ("__classdict__" : Str)) = false := by
  unfold slotOf at h
  split at h
  · rename_i e
    rw [Bool.and_eq_true] at e
    have d := dunder_no (x := x) (by simpa using e.2)
    exact ⟨by rw [g.N]; exact ixOf_at h, g.vis e.1, d.1, d.2.1⟩
  · cases h
theorem tslotOf_at {x : Str} {i : Nat} (g : Gd X T P sc) (h : tslotOf P sc x = some i) : X.N[i]? = some x ∧ Loc X.env.scope x ∧ (X.fn x = true ∨ X.env.scope.names.lookup x = some .local) := by
  unfold tslotOf at h
  split at h
  · rename_i e
    rw [Bool.and_eq_true] at e
    exact ⟨by rw [g.N]; exact ixOf_at h, g.locB e.1, g.fn x e.1⟩
  · cases h

/-! ### stars, folded things -/
omit CF OG in
theorem star_of {n : Nat} {ir : IE} (h : cE P n sc e = some ir) (rest : List Expr) (env : Env) : starEach (e :: rest) env = (false, eval e env) :: starEach rest env := by
  cases e <;> first | rfl | (cases n <;> simp [cE] at h)
omit CF OG in
theorem plain_of {n : Nat} {ir : IE} (h : cE P n sc b = some ir) : PlainIx b := by
  cases b <;> first | (intro _ _; rfl) | (cases n <;> simp [cE] at h)
omit CF OG in
theorem set_of {env : Env} {x : Value} (h : isSet e = false) : foldedSetIterable e env x = pure x := by
  cases e <;> first | rfl | cases h
omit CF OG in
theorem comp_of {t : Option Expr} {l : Nat} {env : Env} (h : isComp e = none) : swapsWith e t l env = pure false := by
  cases e <;> first | rfl | cases h
omit CF OG in
theorem test_of {whole : Sem Value} {env : Env} (h : valTest e = true) : isTrue e env whole = (do let v ← whole; standAt e.pos; holding [v] (truthy v)) := by
  cases e with
  | UnaryOp op a p => cases op <;> first | rfl | cases h
  | _ => first | rfl | cases h
omit CF OG in
theorem o4_some {α β γ δ ε : Type} {a : Option α} {b : Option β} {c : Option γ} {d : Option δ} {f : α → β → γ → δ → ε} {y : ε} (h : o4 a b c d f = some y) : ∃ u v w x, a = some u ∧ b = some v ∧ c = some w ∧ d = some x ∧ y = f u v w x := by
  unfold o4 at h
  split at h
  · cases h
    exact ⟨_, _, _, _, rfl, rfl, rfl, rfl, rfl⟩
  · cases h
omit CF OG in
theorem o1_some {α β : Type} {a : Option α} {f : α → β} {y : β} (h : o1 a f = some y) : ∃ x, a = some x ∧ y = f x := by
  cases a with
  | none => cases h
  | some x => cases h; exact ⟨x, rfl, rfl⟩
omit CF OG in
theorem o2_some {α β γ : Type} {a : Option α} {b : Option β} {f : α → β → γ} {y : γ} (h : o2 a b f = some y) : ∃ x z, a = some x ∧ b = some z ∧ y = f x z := by
  cases a with
  | none => cases h
  | some x =>
    cases b with
    | none => cases h
    | some z => cases h; exact ⟨x, z, rfl, rfl, rfl⟩
omit CF OG in
theorem o3_some {α β γ δ : Type} {a : Option α} {b : Option β} {c : Option γ} {f : α → β → γ → δ} {y : δ} (h : o3 a b c f = some y) : ∃ x z w, a = some x ∧ b = some z ∧ c = some w ∧ y = f x z w := by
  cases a with
  | none => cases h
  | some x =>
    cases b with
    | none => cases h
    | some z =>
      cases c with
      | none => cases h
      | some w => cases h; exact ⟨x, z, w, rfl, rfl, rfl, rfl⟩
omit CF OG in
theorem cA_star {env : Env} {pos : Pos} : ∀ {n : Nat} {es : List Expr} {ia : IA}, cA P n sc es = some ia → (backTo pos (starEach es env)).any (·.1) = false
  | 0, _, _, h => by simp [cA] at h
  | n + 1, [], _, _ => rfl
  | n + 1, e :: es, ia, h => by
    simp only [cA] at h
    obtain ⟨x, z, h1, h2, _⟩ := o2_some h
    rw [star_of h1]
    have ih := cA_star (env := env) (pos := pos) h2
    simpa [backTo] using ih

/-! ### names -/
theorem ex_frz {Q : Sl → Ev → Prop} {x : Str} {i : Nat} {pos : Pos} {t : Option Nat} {o : MO} {d : D} (g : Gd X T P sc) (hi : ρ[i]? = some (.ow t o)) (hd : frz (.ow t o) = some d) (h1 : X.N[i]? = some x) (h2 : Vis X.env.scope x) (h3 : (x == ("__debug__" : Str)) = false) (h4 : (x == ("__classdict__" : Str)) = false) (h : Q (.pd d) (ρ.set i (.pd d))) : EX X av (.Name x pos) ρ Q :=
  ex_of (pv i h1 h2 h3 h4) fun Hs H σ R r k => by
    obtain ⟨Hs', r', st⟩ := r.freeze hi hd
    have hl : i < ρ.length := (List.getElem?_eq_some_iff.mp hi).1
    obtain ⟨v, q1, q2⟩ := r'.sl i (.pd d) (List.getElem?_set_self hl)
    exact ⟨v, q1, k v (.pd d) _ Hs' H st r' q2 h⟩
theorem ex_nm {Q : Sl → Ev → Prop} {x : Str} {i : Nat} {pos : Pos} (g : Gd X T P sc) (hs : slotOf P sc x = some i) (h : wpE T (.nm i) ρ Q) : EX X av (.Name x pos) ρ Q := by
  obtain ⟨h1, h2, h3, h4⟩ := slotOf_at g hs
  simp only [wpE] at h
  split at h
  · exact ex_name i (by assumption) h h1 h2 h3 h4
  · rename_i t ds hi
    exact ex_frz g hi rfl h1 h2 h3 h4 h
  · rename_i t ds hi
    exact ex_frz g hi rfl h1 h2 h3 h4 h
  · rename_i t ds hi
    exact ex_frz g hi rfl h1 h2 h3 h4 h
  · exact h.elim

/-! ### targets -/
omit CF OG in
theorem cG_cases {tg : Expr} {t : Tg} (h : cG P sc tg = some t) : (∃ x pos i, tg = .Name x pos ∧ tslotOf P sc x = some i ∧ t = .nm i) ∨ (∃ ts k pos l, tg = .Tuple ts k pos ∧ cGs P sc ts = some l ∧ t = .tp l) := by
  cases tg with
  | Name x pos =>
    simp only [cG] at h
    cases e : tslotOf P sc x with
    | none => rw [e] at h; cases h
    | some i => rw [e] at h; cases h; exact .inl ⟨x, pos, i, rfl, e, rfl⟩
  | Tuple ts k pos =>
    simp only [cG] at h
    cases e : cGs P sc ts with
    | none => rw [e] at h; cases h
    | some l => rw [e] at h; cases h; exact .inr ⟨ts, k, pos, l, rfl, e, rfl⟩
  | _ => simp [cG] at h
omit CF OG in
theorem cGs_cons {ts : List Expr} {t : Tg} {l : List Tg} (h : cGs P sc ts = some (t :: l)) : ∃ tg r, ts = tg :: r ∧ cG P sc tg = some t ∧ cGs P sc r = some l := by
  cases ts with
  | nil => simp [cGs] at h
  | cons tg r =>
    simp only [cGs] at h
    split at h
    · cases h
      exact ⟨tg, r, rfl, by assumption, by assumption⟩
    · cases h
omit CF OG in
theorem cGs_nil {ts : List Expr} (h : cGs P sc ts = some []) : ts = [] := by
  cases ts with
  | nil => rfl
  | cons tg r =>
    simp only [cGs] at h
    split at h <;> cases h
omit CF OG in
theorem ase_cons {env : Env} {tg : Expr} {t : Tg} (h : cG P sc tg = some t) (r : List Expr) : assignEach (tg :: r) env = (false, assign tg env) :: assignEach r env := by
  rcases cG_cases h with ⟨x, p, i, rfl, _⟩ | ⟨ts, k, p, l, rfl, _⟩ <;> rfl
omit CF OG in
theorem ase_all {env : Env} : ∀ {l : List Tg} {ts : List Expr}, cGs P sc ts = some l → (assignEach ts env).length = l.length ∧ (assignEach ts env).findIdx? (·.1) = none
  | [], ts, h => by
    rw [cGs_nil h]
    exact ⟨rfl, rfl⟩
  | t :: l, ts, h => by
    obtain ⟨tg, r, rfl, h1, h2⟩ := cGs_cons h
    obtain ⟨i1, i2⟩ := ase_all (env := env) h2
    rw [ase_cons h1]
    refine ⟨by simp [i1], ?_⟩
    simp [List.findIdx?_cons, i2]
theorem GX.mono {tg : Expr} {d : D} {Q Q' : Ev → Prop} (h : GX X av tg d ρ Q) (m : ∀ ρ', Q ρ' → Q' ρ') : GX X av tg d ρ Q' := fun Hs H σ v R r hv k => h Hs H σ v R r hv fun σ' ρ' G' e' s' r' q => k σ' ρ' G' e' s' r' (m ρ' q)
theorem GC.mono {vs : List Nat} {tg : Expr} {d : D} {Q Q' : Ev → Prop} (h : GC X av vs tg d ρ Q) (m : ∀ ρ', Q ρ' → Q' ρ') : GC X av vs tg d ρ Q' := fun Hs H σ v R r hv k => h Hs H σ v R r hv fun σ' ρ' G' e' s' r' w' k' q => k σ' ρ' G' e' s' r' w' k' (m ρ' q)
mutual
theorem gx_of (g : Gd X T P sc) : ∀ (t : Tg) (tg : Expr) (d : D) (ρ : Ev) (Q : Ev → Prop), cG P sc tg = some t → wpG t d ρ Q → GX X av tg d ρ Q
  | .nm j, tg, d, ρ, Q, h, q => by
    rcases cG_cases h with ⟨x, pos, i, rfl, h1, h2⟩ | ⟨ts, k, pos, l, _, _, h2⟩
    · cases h2
      obtain ⟨a1, a2, a3⟩ := tslotOf_at g h1
      simp only [wpG] at q
      exact gx_name j q (by rw [g.N]; exact g.nd) a1 a2 a3
    · cases h2
  | .tp l, tg, d, ρ, Q, h, q => by
    rcases cG_cases h with ⟨x, pos, i, _, _, h2⟩ | ⟨ts, k, pos, l', rfl, h1, h2⟩
    · cases h2
    · cases h2
      simp only [wpG] at q
      split at q
      · obtain ⟨b1, b2⟩ := ase_all (env := X.env) h1
        exact gx_tup ⟨_, rfl, q.1, gxs_of g l ts _ ρ Q h1 q.2⟩ g.calm b1 b2
      · exact q.elim
theorem gxs_of (g : Gd X T P sc) : ∀ (l : List Tg) (ts : List Expr) (ds : List D) (ρ : Ev) (Q : Ev → Prop), cGs P sc ts = some l → wpGs l ds ρ Q → GsX X av ts ds ρ Q
  | [], ts, ds, ρ, Q, h, q => by
    simp only [wpGs] at q
    rw [cGs_nil h]
    split at q
    · exact gxs_nil q
    · exact q.elim
  | t :: l, ts, ds, ρ, Q, h, q => by
    simp only [wpGs] at q
    obtain ⟨tg, r', rfl, h1, h2⟩ := cGs_cons h
    split at q
    · refine gxs_cons ?_ (by rw [ase_cons h1]; rfl)
      exact (gx_of g t tg _ ρ _ h1 q).mono fun ρ1 q1 => gxs_of g l r' _ ρ1 Q h2 q1
    · exact q.elim
end
mutual
theorem gc_of {vs : List Nat} (g : Gd X T P sc) : ∀ (t : Tg) (tg : Expr) (d : D) (ρ : Ev) (Q : Ev → Prop), cG P sc tg = some t → (∀ i ∈ tgs t, i ∈ vs) → wpG t d ρ Q → GC X av vs tg d ρ Q
  | .nm j, tg, d, ρ, Q, h, hv, q => by
    rcases cG_cases h with ⟨x, pos, i, rfl, h1, h2⟩ | ⟨ts, k, pos, l, _, _, h2⟩
    · cases h2
      obtain ⟨a1, a2, a3⟩ := tslotOf_at g h1
      simp only [wpG] at q
      exact gc_name j q (by rw [g.N]; exact g.nd) (hv j (by simp [tgs])) a1 a2 a3
    · cases h2
  | .tp l, tg, d, ρ, Q, h, hv, q => by
    rcases cG_cases h with ⟨x, pos, i, _, _, h2⟩ | ⟨ts, k, pos, l', rfl, h1, h2⟩
    · cases h2
    · cases h2
      simp only [wpG] at q
      split at q
      · obtain ⟨b1, b2⟩ := ase_all (env := X.env) h1
        exact gc_tup ⟨_, rfl, q.1, gcs_of g l ts _ ρ Q h1 (fun i z => hv i (by simpa [tgs] using z)) q.2⟩ g.calm b1 b2
      · exact q.elim
theorem gcs_of {vs : List Nat} (g : Gd X T P sc) : ∀ (l : List Tg) (ts : List Expr) (ds : List D) (ρ : Ev) (Q : Ev → Prop), cGs P sc ts = some l → (∀ i ∈ tgss l, i ∈ vs) → wpGs l ds ρ Q → GCs X av vs ts ds ρ Q
  | [], ts, ds, ρ, Q, h, hv, q => by
    simp only [wpGs] at q
    rw [cGs_nil h]
    split at q
    · exact gcs_nil q
    · exact q.elim
  | t :: l, ts, ds, ρ, Q, h, hv, q => by
    simp only [wpGs] at q
    obtain ⟨tg, r', rfl, h1, h2⟩ := cGs_cons h
    split at q
    · refine gcs_cons ?_ (by rw [ase_cons h1]; rfl)
      exact (gc_of g t tg _ ρ _ h1 (fun i z => hv i (by simp [tgss, z])) q).mono fun ρ1 q1 => gcs_of g l r' _ ρ1 Q h2 (fun i z => hv i (by simp [tgss, z])) q1
    · exact q.elim
end
end
end DW

set_option Elab.async false
set_option autoImplicit false
set_option linter.all false
set_option maxRecDepth 100000
set_option maxHeartbeats 1000000
/-! IRt: expressions -/
namespace DW
open PySem PySem.Spec L2
open PyProof.Rows hiding St
variable [CF : Cfg] [OG : Org]
def SE (P : Prm) (n : Nat) : Prop := ∀ {X : Cx} {T : Tb} {sc : Scope}, Gd X T P sc → ∀ {e : Expr} {ir : IE}, cE P n sc e = some ir → ∀ (av : List V) (ρ : Ev) (Q : Sl → Ev → Prop), wpE T ir ρ Q → EX X av e ρ Q
def SC (P : Prm) (n : Nat) : Prop := ∀ {X : Cx} {T : Tb} {sc : Scope}, Gd X T P sc → ∀ {f : Str} {args : List Expr} {p pos : Pos} {ir : IE}, gloB sc f = true → cC P n sc f args = some ir → ∀ (av : List V) (ρ : Ev) (Q : Sl → Ev → Prop), wpE T ir ρ Q → EX X av (.Call (.Name f p) args [] pos) ρ Q
def SA (P : Prm) (n : Nat) : Prop := ∀ {X : Cx} {T : Tb} {sc : Scope}, Gd X T P sc → ∀ {es : List Expr} {ir : IA}, cA P n sc es = some ir → ∀ (av : List V) (ρ : Ev) (Q : List D → Ev → Prop), wpA T ir ρ Q → AX X av es ρ Q
def ST (P : Prm) (n : Nat) : Prop := ∀ {X : Cx} {T : Tb} {sc : Scope}, Gd X T P sc → ∀ {e : Expr} {ir : IT}, cT P n sc e = some ir → ∀ (av : List V) (ρ : Ev) (Q : Bool → Ev → Prop), wpT T ir ρ Q → TX X av e ρ Q
def SW (P : Prm) (n : Nat) : Prop := ∀ {X : Cx} {T : Tb} {sc : Scope}, Gd X T P sc → ∀ {k : Bool} {a : Expr} {r : List Expr} {p : Pos} {ir : IT}, cW P n sc k a r = some ir → ∀ (av : List V) (ρ : Ev) (Q : Bool → Ev → Prop), wpT T ir ρ Q → WX X av (.BoolOp (if k then .And else .Or) (a :: r) p) ρ Q
def SF (P : Prm) (n : Nat) : Prop := ∀ {X : Cx} {T : Tb} {sc : Scope}, Gd X T P sc → ∀ {es : List Expr} {ir : IF}, cF P n sc es = some ir → ∀ (av : List V) (ρ : Ev) (Q : Bool → Ev → Prop), wpF T ir ρ Q → IX X av es ρ Q
def SI (P : Prm) (n : Nat) : Prop := ∀ {X : Cx} {T : Tb} {sc : Scope}, Gd X T P sc → ∀ {tg e : Expr} {ir : II}, cI P n sc tg e = some ir → ∀ (av : List V) (ρ : Ev) (Q : List D → Ev → Prop), wpI T ir ρ Q → IXI X av tg e ρ Q
/-- the parts of an f-string from acc on -/
def JX (X : Cx) (av : List V) (es : List Expr) (acc : Str) (ρ : Ev) (Q : Str → Ev → Prop) : Prop := ∀ (Hs : Gh) (H : Hp) (σ : St) (R : Str → Hp → Prop), Rep X.K av Hs H ρ σ → (∀ (x : Str) (ρ' : Ev) (Hs' : Gh) (H' : Hp), Step Hs H Hs' H' → Rep X.K av Hs' H' ρ' σ → Q x ρ' → R x H') → tJs (es.map (sE X)) acc σ H R
def SJ (P : Prm) (n : Nat) : Prop := ∀ {X : Cx} {T : Tb} {sc : Scope}, Gd X T P sc → ∀ {es : List Expr} {ir : IA}, cJ P n sc es = some ir → ∀ (av : List V) (acc : Str) (ρ : Ev) (Q : Str → Ev → Prop), wpJ T ir acc ρ Q → JX X av es acc ρ Q
omit CF OG in
theorem pj_s {X : Cx} : ∀ es : List Expr, PJ X es (es.map (sE X))
  | [] => .nil
  | _ :: r => .cons pe_s (pj_s r)
section
variable {P : Prm} {n : Nat}
theorem SE.ed (h : SE P n) {X : Cx} {T : Tb} {sc : Scope} (g : Gd X T P sc) {e : Expr} {ir : IE} (c : cE P n sc e = some ir) (av : List V) (ρ : Ev) (Q : D → Ev → Prop) (w : wpE T ir ρ fun s ρ1 => frzW s fun d => Q d ρ1) : ED X av e ρ Q := ED.of (h g c av ρ _ w)
theorem TX.mono' {X : Cx} {av : List V} {ρ : Ev} {c : Expr} {Q Q' : Bool → Ev → Prop} (h : TX X av c ρ Q) (m : ∀ s ρ', Q s ρ' → Q' s ρ') : TX X av c ρ Q' := fun Hs H σ R r k => h Hs H σ R r fun v ρ' Hs' H' st r' q => k v ρ' Hs' H' st r' (m v ρ' q)
theorem IX.mono {X : Cx} {av : List V} {ρ : Ev} {c : List Expr} {Q Q' : Bool → Ev → Prop} (h : IX X av c ρ Q) (m : ∀ s ρ', Q s ρ' → Q' s ρ') : IX X av c ρ Q' := fun Hs H σ R r k => h Hs H σ R r fun v ρ' Hs' H' st r' q => k v ρ' Hs' H' st r' (m v ρ' q)
theorem IXI.mono {X : Cx} {av : List V} {ρ : Ev} {tg e : Expr} {Q Q' : List D → Ev → Prop} (h : IXI X av tg e ρ Q) (m : ∀ s ρ', Q s ρ' → Q' s ρ') : IXI X av tg e ρ Q' := ⟨h.1, h.2.choose, h.2.choose_spec.1, fun Hs H σ R r k => h.2.choose_spec.2 Hs H σ R r fun J ds ρ' Hs' H' st r' y q => k J ds ρ' Hs' H' st r' y (m ds ρ' q)⟩
omit CF OG in
mutual
theorem tgs_ok {sc : Scope} : ∀ (t : Tg) (tg : Expr), cG P sc tg = some t → ∀ i ∈ tgs t, ∃ x, P.N[i]? = some x
  | .nm j, tg, h, i, hi => by
    rcases cG_cases h with ⟨x, pos, k, rfl, h1, h2⟩ | ⟨ts, k, pos, l, _, _, h2⟩
    · cases h2
      simp only [tgs, List.mem_singleton] at hi
      subst hi
      unfold tslotOf at h1
      split at h1
      · exact ⟨x, ixOf_at h1⟩
      · cases h1
    · cases h2
  | .tp l, tg, h, i, hi => by
    rcases cG_cases h with ⟨x, pos, k, _, _, h2⟩ | ⟨ts, k, pos, l', rfl, h1, h2⟩
    · cases h2
    · cases h2
      exact tgss_ok l ts h1 i (by simpa [tgs] using hi)
theorem tgss_ok {sc : Scope} : ∀ (l : List Tg) (ts : List Expr), cGs P sc ts = some l → ∀ i ∈ tgss l, ∃ x, P.N[i]? = some x
  | [], ts, h, i, hi => by simp [tgss] at hi
  | t :: l, ts, h, i, hi => by
    obtain ⟨tg, r', rfl, h1, h2⟩ := cGs_cons h
    simp only [tgss, List.mem_append] at hi
    rcases hi with hi | hi
    · exact tgs_ok t tg h1 i hi
    · exact tgss_ok l r' h2 i hi
end
omit CF OG in
theorem mem_own {sc : Scope} {t : Tg} {tg : Expr} (h : cG P sc tg = some t) {i : Nat} (hi : i ∈ tgs t) : i ∈ (ownOf P t).map (·.2) := by
  obtain ⟨x, hx⟩ := tgs_ok t tg h i hi
  unfold ownOf
  rw [List.mem_map]
  exact ⟨(x, i), List.mem_filterMap.mpr ⟨i, hi, by rw [hx]; rfl⟩, rfl⟩
theorem blk_of {X : Cx} {T : Tb} {sc scope : Scope} {own : List (Str × Nat)} (g : Gd X T P sc) (h : blkC P.N sc scope own = true) : BlkOk X.N X.env.scope scope own := by
  have b := blkOk_by h
  rw [g.N]
  refine ⟨b.kind, b.uniq, b.ix, fun y hy e => ?_, b.own⟩
  rcases b.free y hy e with z | z
  · exact .inl (g.cel _ z)
  · rcases g.fre _ z with y | y
    · exact .inr y
    · exact .inl y
omit CF OG in
theorem bnOf_eq {f : Str} {b : Bn} (h : bnOf f = some b) : bnName b = f := by
  have z := List.find?_some h
  simpa using z
theorem snd_A (hE : SE P n) (hA : SA P n) : SA P (n + 1) := fun {X T sc} g {es ir} h av ρ Q w => by
  cases es with
  | nil =>
    simp only [cA] at h
    cases h
    exact ax_nil (by simpa only [wpA] using w)
  | cons e es =>
    simp only [cA] at h
    obtain ⟨x, z, h1, h2, rfl⟩ := o2_some h
    simp only [wpA] at w
    exact ax_cons ((hE.ed g h1 av ρ _ w).mono fun d ρ1 w1 => hA g h2 av ρ1 _ w1) (star_of h1 _ _)
omit CF OG in
theorem fmW_of {d : D} {K : Str → Prop} (h : fmW d K) : (∃ y, d = .str y ∧ y.length ≤ 100000 ∧ K y) ∨ ∃ i : Int, d = .int i ∧ i.natAbs.log2 < 1920 ∧ K (toString i) := by
  unfold fmW at h
  split at h
  · exact .inl ⟨_, rfl, h⟩
  · exact .inr ⟨_, rfl, h⟩
  · exact h.elim
theorem snd_J (hE : SE P n) (hJ : SJ P n) : SJ P (n + 1) := fun {X T sc} g {es ir} h av acc ρ Q w => by
  cases es with
  | nil =>
    simp only [cJ] at h
    cases h
    simp only [wpJ] at w
    exact fun Hs H σ R r k => k acc ρ Hs H Step.refl r w
  | cons e es =>
  cases e with
  | Constant c k0 p =>
    cases c with
    | str x =>
      simp only [cJ] at h
      obtain ⟨y, z, h1, h2, rfl⟩ := o2_some h
      have e1 : y = .cn (.str x) := by
        cases n with
        | zero => simp [cE] at h1
        | succ m => simpa [cE] using h1.symm
      subst e1
      simp only [wpJ, wpE] at w
      obtain ⟨_, hl, w⟩ := (show x.length ≤ 100000 ∧ ((acc ++ x).length ≤ 100000 ∧ wpJ T z (acc ++ x) ρ Q) from w)
      intro Hs H σ R r k
      exact sE.of pe_str ⟨x, rfl, Nat.le_trans hl (by decide : 100000 ≤ sizeLine), hJ g h2 av _ ρ Q w Hs H σ R r k⟩
    | _ => simp [cJ] at h
  | FormattedValue e c sp p =>
    cases sp with
    | some _ => simp [cJ] at h
    | none =>
    simp only [cJ] at h
    split at h
    · rename_i hc
      subst hc
      obtain ⟨x, z, h1, h2, rfl⟩ := o2_some h
      simp only [wpJ] at w
      intro Hs H σ R r k
      refine sE.of (pe_fmt pe_s) ((hE.ed g h1 av ρ _ w).run r fun v d ρ1 Hs1 H1 st1 r1 rp w1 => ?_)
      rcases fmW_of w1 with ⟨y, rfl, hy, hl, w2⟩ | ⟨i, rfl, hl, hl2, w2⟩
      · cases rp
        exact .inl ⟨y, rfl, Nat.le_trans hy (by decide : 100000 ≤ sizeLine), y, rfl, Nat.le_trans hl (by decide : 100000 ≤ sizeLine), hJ g h2 av _ ρ1 Q w2 Hs1 H1 σ R r1 fun x ρ' Hs' H' st r' q => k x ρ' Hs' H' (st1.trans st) r' q⟩
      · cases rp
        exact .inr ⟨i, rfl, hl, toString i, rfl, Nat.le_trans hl2 (by decide : 100000 ≤ sizeLine), hJ g h2 av _ ρ1 Q w2 Hs1 H1 σ R r1 fun x ρ' Hs' H' st r' q => k x ρ' Hs' H' (st1.trans st) r' q⟩
    · cases h
  | _ => simp [cJ] at h
omit CF OG in
theorem bn_boot (b : Bn) : (∃ id, bootBuiltins (bnName b) = some (.builtin id)) ∨ (∃ id, bootBuiltins (bnName b) = some (.type id)) := by
  cases b
  · exact .inl ⟨"len", by decide +kernel⟩
  · exact .inl ⟨"max", by decide +kernel⟩
  · exact .inl ⟨"min", by decide +kernel⟩
  · exact .inl ⟨"abs", by decide +kernel⟩
  · exact .inl ⟨"sum", by decide +kernel⟩
  · exact .inl ⟨"any", by decide +kernel⟩
  · exact .inl ⟨"all", by decide +kernel⟩
  · exact .inl ⟨"sorted", by decide +kernel⟩
  · exact .inr ⟨"list", by decide +kernel⟩
  · exact .inr ⟨"tuple", by decide +kernel⟩
  · exact .inr ⟨"int", by decide +kernel⟩
  · exact .inr ⟨"str", by decide +kernel⟩
theorem ex_bltn {X : Cx} {T : Tb} {sc : Scope} {av : List V} {ρ : Ev} {e : Expr} {es : List Expr} {b : Bn} {p pos : Pos} {ia : IA} {Q : Sl → Ev → Prop} {m : Nat} (g : Gd X T P sc) (hA : SA P m) (hg : gloB sc (bnName b) = true) (hB : bnName b ∈ P.B) (h : cA P m sc (e :: es) = some ia) (w : wpA T ia ρ fun ds ρ1 => bltW b ds fun r => Q r ρ1) : EX X av (.Call (.Name (bnName b) p) (e :: es) [] pos) ρ Q := by
  obtain ⟨g1, g2, g3, g4⟩ := g.gloB hg
  have st : starEach (e :: es) X.env = (false, eval e X.env) :: starEach es X.env ∧ (backTo pos (starEach es X.env)).any (·.1) = false := by
    cases m with
    | zero => simp [cA] at h
    | succ m =>
      simp only [cA] at h
      obtain ⟨x, z, h1, h2, _⟩ := o2_some h
      exact ⟨star_of h1 _ _, cA_star h2⟩
  have ax := hA g h av ρ _ w
  have pick : ∀ {ds ρ1}, bltW b ds (fun r => Q r ρ1) → BltOk X (bnName b) ds fun r => Q r ρ1 := fun w => blt_ok g.calm (by have := g.un; omega) w
  by_cases ht : ∃ id, bootBuiltins (bnName b) = some (.builtin id)
  · obtain ⟨id, hid⟩ := ht
    refine ex_callB hid (g.blt _ hB) (ax.mono fun ds ρ1 w => ?_) g1 g4 g2 st.1 st.2
    rcases pick w with ⟨id', s, e1, e2, e3⟩ | ⟨id', s, e1, e2, e3⟩
    · rw [hid] at e1
      cases e1
      exact ⟨s, e2, e3⟩
    · rw [hid] at e1
      cases e1
  · obtain ⟨id, hid⟩ := (bn_boot b).resolve_left ht
    refine ex_callT hid (g.blt _ hB) (ax.mono fun ds ρ1 w => ?_) g1 g4 g2 st.1 st.2
    rcases pick w with ⟨id', s, e1, e2, e3⟩ | ⟨id', s, e1, e2, e3⟩
    · rw [hid] at e1
      cases e1
    · rw [hid] at e1
      cases e1
      exact ⟨s, e2, e3⟩

theorem snd_T (hE : SE P n) (hT : ST P n) (hW : SW P n) : ST P (n + 1) := fun {X T sc} g {e ir} h av ρ Q w => by
  unfold cT at h
  split at h
  · rename_i a o b pos
    split at h
    · cases h
    · rename_i hm
      obtain ⟨x, y, h1, h2, rfl⟩ := o2_some h
      simp only [wpT] at w
      exact tx_cmp ((hE.ed g h1 av ρ _ w).mono fun d ρ1 w1 => (hE.ed g h2 av ρ1 _ w1).mono fun f ρ2 w2 => cmp_ok g.un w2) (by simpa using hm)
  · rename_i a o o' b c pos
    split at h
    · cases h
    · rename_i hm
      obtain ⟨x, y, z, h1, h2, h3, rfl⟩ := o3_some h
      simp only [wpT] at w
      refine tx_chain ((hE.ed g h1 av ρ _ w).mono fun d ρ1 w1 => (hE.ed g h2 av ρ1 _ w1).mono fun f ρ2 w2 => ?_) (by simpa using hm)
      obtain ⟨k, k1, k2, k3⟩ := cmp_ok g.un w2
      exact ⟨k, k1, fun e => (hE.ed g h3 av ρ2 _ (k2 e)).mono fun q ρ3 w3 => cmp_ok g.un w3, k3⟩
  · rename_i a o o' o2 b c d pos
    split at h
    · cases h
    · rename_i hm
      obtain ⟨x, y, z, w4, h1, h2, h3, h4, rfl⟩ := o4_some h
      simp only [wpT] at w
      refine tx_chain3 (by simpa using hm) ((hE.ed g h1 av ρ _ w).mono fun d ρ1 w1 => (hE.ed g h2 av ρ1 _ w1).mono fun f ρ2 w2 => ?_)
      obtain ⟨k, k1, k2, k3⟩ := cmp_ok g.un w2
      refine ⟨k, k1, fun e => (hE.ed g h3 av ρ2 _ (k2 e)).mono fun q ρ3 w3 => ?_, k3⟩
      obtain ⟨k', z1, z2, z3⟩ := cmp_ok g.un w3
      exact ⟨k', z1, fun e => (hE.ed g h4 av ρ3 _ (z2 e)).mono fun q ρ4 w4 => cmp_ok g.un w4, z3⟩
  · rename_i a pos
    obtain ⟨x, h1, rfl⟩ := o1_some h
    simp only [wpT] at w
    exact tx_not (hT g h1 av ρ _ w)
  · exact tx_w (hW (k := true) g h av ρ Q w)
  · exact tx_w (hW (k := false) g h av ρ Q w)
  · split at h
    · rename_i i hi
      cases h
      simp only [wpT] at w
      obtain ⟨a1, a2, a3, a4⟩ := slotOf_at g hi
      split at w
      · exact tx_truO i (by assumption) w a1 a2 a3 a4
      · exact tx_val (ED.of (ex_name i (by assumption) (by exact tru_ok w) a1 a2 a3 a4)) (fun whole => test_of rfl)
      · exact w.elim
    · obtain ⟨x, h1, rfl⟩ := o1_some h
      simp only [wpT] at w
      exact tx_val ((hE.ed g h1 av ρ _ w).mono fun d ρ1 w1 => tru_ok w1) (fun whole => test_of rfl)
  · split at h
    · rename_i hv
      obtain ⟨x, h1, rfl⟩ := o1_some h
      simp only [wpT] at w
      exact tx_val ((hE.ed g h1 av ρ _ w).mono fun d ρ1 w1 => tru_ok w1) (fun whole => test_of hv)
    · cases h
theorem snd_W (hT : ST P n) (hW : SW P n) : SW P (n + 1) := fun {X T sc} g {k a r p ir} h av ρ Q w => by
  cases r with
  | nil =>
    simp only [cW] at h
    cases k with
    | true => exact wx_and1 (hT g h av ρ Q w)
    | false => exact wx_or1 (hT g h av ρ Q w)
  | cons b r =>
    simp only [cW] at h
    obtain ⟨x, y, h1, h2, e⟩ := o2_some h
    cases k with
    | true =>
      simp only [if_true] at e
      subst e
      simp only [wpT] at w
      exact wx_and ((hT g h1 av ρ _ w).mono' fun c ρ1 w1 => ⟨fun e => hW (k := true) g h2 av ρ1 Q (w1.1 e), w1.2⟩)
    | false =>
      have e : ir = .ro x y := e
      subst e
      simp only [wpT] at w
      exact wx_or ((hT g h1 av ρ _ w).mono' fun c ρ1 w1 => ⟨fun e => hW (k := false) g h2 av ρ1 Q (w1.1 e), w1.2⟩)
omit CF OG in
theorem cI_set {m : Nat} {sc : Scope} {tg e : Expr} {i : II} (h : cI P m sc tg e = some i) : isSet e = false := by
  cases m with
  | zero => exact nomatch (show (none : Option II) = some i from h)
  | succ m =>
    unfold cI at h
    split at h
    · cases h
    · rename_i z
      simpa using z
theorem snd_F (hT : ST P n) : SF P (n + 1) := fun {X T sc} g {es ir} h av ρ Q w => by
  cases es with
  | nil =>
    simp only [cF] at h
    cases h
    exact ix_nil (by simpa only [wpF] using w)
  | cons c r =>
    cases r with
    | nil =>
      simp only [cF] at h
      obtain ⟨x, h1, rfl⟩ := o1_some h
      simp only [wpF] at w
      exact ix_one (hT g h1 av ρ Q w)
    | cons d r => simp [cF] at h
theorem snd_I (hE : SE P n) : SI P (n + 1) := fun {X T sc} g {tg e ir} h av ρ Q w => by
  unfold cI at h
  split at h
  · cases h
  rename_i hset
  have hset : isSet e = false := by simpa using hset
  split at h
  · rename_i f p args pos
    split at h
    · rename_i ef
      subst ef
      split at h
      · rename_i hb
        rw [Bool.and_eq_true, decide_eq_true_eq] at hb
        obtain ⟨g1, g2, g3, g4⟩ := g.gloB hb.1
        have hm := g.blt _ hb.2
        split at h
        · obtain ⟨x, h1, rfl⟩ := o1_some h
          simp only [wpI] at w
          exact ixi_r1 g1 hm ((hE.ed g h1 av ρ _ w).mono fun d ρ1 w1 => w1) (star_of h1 _ _)
        · obtain ⟨x, y, h1, h2, rfl⟩ := o2_some h
          simp only [wpI] at w
          exact ixi_r2 g1 hm ((hE.ed g h1 av ρ _ w).mono fun d ρ1 w1 => (hE.ed g h2 av ρ1 _ w1).mono fun d ρ1 w1 => w1) (by rw [star_of h1, star_of h2]; rfl) (star_of h2 _ _)
        · cases h
      · cases h
    · split at h
      · rename_i ef
        subst ef
        split at h
        · rename_i hb
          rw [Bool.and_eq_true, decide_eq_true_eq] at hb
          obtain ⟨g1, g2, g3, g4⟩ := g.gloB hb.1
          have hm := g.blt _ hb.2
          split at h
          · obtain ⟨x, h1, rfl⟩ := o1_some h
            simp only [wpI] at w
            exact ixi_enT g1 hm ((hE.ed g h1 av ρ _ w).mono fun d ρ1 w1 => w1) (star_of h1 _ _)
          · cases h
        · cases h
      split at h
      · rename_i ef
        subst ef
        split at h
        · rename_i hb
          rw [Bool.and_eq_true, decide_eq_true_eq] at hb
          obtain ⟨g1, g2, g3, g4⟩ := g.gloB hb.1
          have hm := g.blt _ hb.2
          split at h
          · obtain ⟨x, y, h1, h2, rfl⟩ := o2_some h
            simp only [wpI] at w
            refine ixi_zipN g1 hm (ax_cons ((hE.ed g h1 av ρ _ w).mono fun d ρ1 w1 => ax_cons ((hE.ed g h2 av ρ1 _ w1).mono fun d2 ρ2 w2 => ax_nil ?_) (star_of h2 _ _)) (star_of h1 _ _)) (star_of h1 _ _) (by rw [star_of h2]; rfl)
            revert w2
            cases e1 : seqOf d with
            | none => intro w2; exact w2.elim
            | some p =>
              cases e2 : seqOf d2 with
              | none => intro w2; exact w2.elim
              | some q => intro w2; exact .inl ⟨_, _, _, _, _, _, rfl, e1, e2, w2⟩
          · obtain ⟨x, y, z, h1, h2, h3, rfl⟩ := o3_some h
            simp only [wpI] at w
            refine ixi_zipN g1 hm (ax_cons ((hE.ed g h1 av ρ _ w).mono fun d ρ1 w1 => ax_cons ((hE.ed g h2 av ρ1 _ w1).mono fun d2 ρ2 w2 => ax_cons ((hE.ed g h3 av ρ2 _ w2).mono fun d3 ρ3 w3 => ax_nil ?_) (star_of h3 _ _)) (star_of h2 _ _)) (star_of h1 _ _)) (star_of h1 _ _) (by rw [star_of h2, star_of h3]; rfl)
            revert w3
            cases e1 : seqOf d with
            | none => intro w2; exact w2.elim
            | some p =>
              cases e2 : seqOf d2 with
              | none => intro w2; exact w2.elim
              | some q =>
                cases e3 : seqOf d3 with
                | none => intro w2; exact w2.elim
                | some r => intro w2; exact .inr ⟨_, _, _, _, _, _, _, _, _, rfl, e1, e2, e3, w2⟩
          · cases h
        · cases h
      · obtain ⟨x, h1, rfl⟩ := o1_some h
        simp only [wpI] at w
        exact ixi_seq ((hE.ed g h1 av ρ _ w).mono fun d ρ1 w1 => w1) (fun x => set_of hset)
  · obtain ⟨x, h1, rfl⟩ := o1_some h
    simp only [wpI] at w
    exact ixi_seq ((hE.ed g h1 av ρ _ w).mono fun d ρ1 w1 => w1) (fun x => set_of hset)
end
end DW

set_option Elab.async false
set_option autoImplicit false
set_option linter.all false
set_option maxRecDepth 100000
set_option maxHeartbeats 1000000
/-! IRu: calls, all expressions -/
namespace DW
open PySem PySem.Spec L2
open PyProof.Rows hiding St
section
variable [CF : Cfg] [OG : Org]
variable {P : Prm} {n : Nat}
omit CF OG in
theorem args_star {m : Nat} {X : Cx} {sc : Scope} {e : Expr} {es : List Expr} {ia : IA} {pos : Pos} (h : cA P m sc (e :: es) = some ia) : starEach (e :: es) X.env = (false, eval e X.env) :: starEach es X.env ∧ (backTo pos (starEach es X.env)).any (·.1) = false := by
  cases m with
  | zero => simp [cA] at h
  | succ m =>
    simp only [cA] at h
    obtain ⟨x, z, h1, h2, _⟩ := o2_some h
    exact ⟨star_of h1 _ _, cA_star h2⟩
theorem takesF (X : Cx) : Takes X (WO X.K fun _ => False) := LamX.takes0.imp fun _ _ _ _ ⟨_, _, z⟩ => z
theorem ex_own {X : Cx} {T : Tb} {sc : Scope} {av : List V} {ρ : Ev} {e : Expr} {es : List Expr} {f : Str} {p pos : Pos} {ia : IA} {Q : Sl → Ev → Prop} {m : Nat} (g : Gd X T P sc) (hA : SA P m) (hg : gloB sc f = true) (hF : f ∈ P.F) (h : cA P m sc (e :: es) = some ia) (w : wpE T (if P.q then .calq f ia else .call f ia) ρ Q) : EX X av (.Call (.Name f p) (e :: es) [] pos) ρ Q := by
  obtain ⟨g1, g2, g3, g4⟩ := g.gloB hg
  obtain ⟨s1, s2⟩ := args_star (X := X) (pos := pos) h
  obtain ⟨k, j, ps, hj, hr, C⟩ := g.cal f hF
  cases hq : P.q with
  | true =>
    rw [hq] at w
    simp only [if_true, wpE] at w
    exact ex_calC C hr hj (takesF _) ((hA g h av ρ _ w).mono fun ds ρ1 w1 => ⟨ds, rfl, w1⟩) g1 g2 s1 s2
  | false =>
    rw [hq] at w
    simp only [if_false, Bool.false_eq_true, wpE] at w
    exact ex_calC C hr hj (g.tk hq) ((hA g h av ρ _ w).mono fun ds ρ1 w1 => ⟨ds, rfl, w1⟩) g1 g2 s1 s2
theorem ex_lnn {X : Cx} {T : Tb} {sc : Scope} {av : List V} {ρ : Ev} {y : Str} {i : Nat} {p p2 pos : Pos} {Q : Sl → Ev → Prop} (g : Gd X T P sc) (hg : gloB sc "len" = true) (hB : ("len" : Str) ∈ P.B) (h : slotOf P sc y = some i) (w : wpE T (.ln i) ρ Q) : EX X av (.Call (.Name "len" p) [.Name y p2] [] pos) ρ Q := by
  obtain ⟨g1, g2, g3, g4⟩ := g.gloB hg
  obtain ⟨a1, a2, a3, a4⟩ := slotOf_at g h
  simp only [wpE] at w
  have pdc : ∀ {d : D} {l : List D}, ρ[i]? = some (.pd d) → SeqD d = some l → Q (.pd (.int (l.length : Int))) ρ → EX X av (.Call (.Name "len" p) [.Name y p2] [] pos) ρ Q := fun {d l} e1 e2 q =>
    ex_callB (id := "len") (by decide +kernel) (g.blt _ hB) (ax_cons (ED.of (ex_name i e1 (by exact ax_nil ⟨_, bc_len e2, q⟩) a1 a2 a3 a4)) rfl) g1 g4 g2 rfl rfl
  split at w
  · exact pdc (by assumption) rfl w
  · exact pdc (by assumption) rfl w
  · exact pdc (by assumption) rfl w
  · exact ex_lenO i (by assumption) (g.blt _ hB) w a1 a2 a3 a4 g1
  · exact w.elim
omit CF OG in
theorem typ_of {t : Str} {u : Ty} (h : typB t = some u) : bootBuiltins t = some (.type (tyS u)) := by
  have z := List.find?_some h
  have e : tyName u = t := by simpa using z
  have m := List.mem_of_find?_eq_some h
  subst e
  simp only [List.mem_cons, List.not_mem_nil, or_false] at m
  rcases m with e | e | e | e | e | e <;> subst e <;> decide +kernel
omit CF OG in
theorem kd_ty {d : D} {k : Ty} (h : kd d = some k) : tyD d = some (tyS k) := by
  unfold kd at h
  split at h <;> cases h <;> rfl
omit CF OG in
theorem sub_kit {k t : Ty} (h : t ≠ .non) : kitB (tyS k) (tyS t) = some (sub k t) := by
  cases k <;> cases t <;> first | (exact absurd rfl h) | decide +kernel
omit CF OG in
theorem typ_nn {t : Str} {u : Ty} (h : typB t = some u) : u ≠ .non := by
  have m := List.mem_of_find?_eq_some h
  intro z
  subst z
  simp at m
omit CF OG in
theorem isi_ok {x : D} {t : Ty} {K : Bool → Prop} (hn : t ≠ .non) (h : isiW x t K) : ∃ U r, tyD x = some U ∧ kitB U (tyS t) = some r ∧ K r := by
  unfold isiW at h
  split at h
  · rename_i k e
    exact ⟨_, _, kd_ty e, sub_kit hn, h⟩
  · exact h.elim
omit CF OG in
theorem isj_ok {x : D} {t u : Ty} {K : Bool → Prop} (hn : t ≠ .non) (hm : u ≠ .non) (h : isjW x t u K) : ∃ U r1 r2, tyD x = some U ∧ kitB U (tyS t) = some r1 ∧ kitB U (tyS u) = some r2 ∧ K (r1 || r2) := by
  unfold isjW at h
  split at h
  · rename_i k e
    exact ⟨_, _, _, kd_ty e, sub_kit hn, sub_kit hm, h⟩
  · exact h.elim
theorem snd_C (hE : SE P n) (hA : SA P n) : SC P (n + 1) := fun {X T sc} g {f args p pos ir} hg h av ρ Q w => by
  unfold cC at h
  split at h
  · rename_i hF
    split at h
    · rename_i y p2 es
      split at h
      · rename_i i hi
        obtain ⟨ia, h1, rfl⟩ := o1_some h
        obtain ⟨g1, g2, g3, g4⟩ := g.gloB hg
        obtain ⟨a1, a2, a3, a4⟩ := slotOf_at g hi
        obtain ⟨k, j, ps, hj, hr, C⟩ := g.cao f hF
        have s2 : (backTo pos (starEach es X.env)).any (·.1) = false := cA_star h1
        have fin : ∀ {xk : Exn → Prop} {t : Option Nat} {o : MO}, Takes X (WO X.K xk) → ρ[i]? = some (.ow t o) → (wpA T ia ρ fun ds ρ1 => owW ρ1 i fun t rw => T.fo f rw ds (fun d rw' => Q (.pd d) (ρ1.set i (.ow t (.lst rw')))) xk) → EX X av (.Call (.Name f p) (.Name y p2 :: es) [] pos) ρ Q := fun {xk t o} tk ho w => by
          refine ex_calO i C hr hj tk ((hA g h1 av ρ _ w).mono fun ds ρ1 w0 => ?_) ⟨t, o, ho⟩ a1 a2 a3 a4 g1 g2 rfl s2
          obtain ⟨t1, rw, w1, w2⟩ := owW_of w0
          exact ⟨t1, .lst rw, w1, rw, ds, rfl, by
            have e : (fun d rw' => Q (.pd d) (ρ1.set i (.ow t1 (.lst rw')))) = fun (d : D) (rw' : List D) => ∃ o' rest, (Sl.ow (some 0) (.lst rw') :: ds.map .pd : Ev) = .ow (some 0) o' :: rest ∧ Q (.pd d) (ρ1.set i (.ow t1 o')) := by
              funext d rw'
              refine propext ⟨fun z => ⟨_, _, rfl, z⟩, fun ⟨o', rest, z1, z2⟩ => ?_⟩
              cases z1
              exact z2
            rw [← e]
            exact w2⟩
        cases hq : P.q with
        | true =>
          rw [hq] at w
          simp only [if_true, wpE] at w
          split at w
          · exact fin (takesF X) (by assumption) w
          · exact w.elim
        | false =>
          rw [hq] at w
          simp only [if_false, Bool.false_eq_true, wpE] at w
          split at w
          · exact fin (g.tk hq) (by assumption) w
          · exact w.elim
      · cases h
    · cases h
  split at h
  · rename_i hF
    split at h
    · cases h
    · obtain ⟨ia, h1, rfl⟩ := o1_some h
      cases args with
      | nil => exact absurd rfl (by assumption)
      | cons e es => exact ex_own g hA hg hF h1 w
  split at h
  · rename_i hM
    obtain ⟨g1, g2, g3, g4⟩ := g.gloB hg
    have hm := g.mat _ hM
    split at h
    · split at h
      · rename_i ef
        subst ef
        obtain ⟨x, y, h1, h2, rfl⟩ := o2_some h
        simp only [wpE] at w
        refine ex_math (f := fun i j => ((Nat.gcd i.natAbs j.natAbs : Nat) : Int)) (C := fun _ _ => True) (fun pins s σ H vs us Q I r ⟨a, b, e1, _, q⟩ => cr_gcd pins s σ H vs us Q I r ⟨a, b, e1, q⟩) g1 hm g2 ((hE.ed g h1 av ρ _ w).mono fun d ρ1 w1 => (hE.ed g h2 av ρ1 _ w1).mono fun f ρ2 w2 => ?_) (by rw [star_of h1, star_of h2]; rfl) (star_of h2 _ _)
        split at w2
        · exact ⟨_, _, rfl, rfl, trivial, w2⟩
        · exact w2.elim
      · split at h
        · rename_i _ ef
          subst ef
          obtain ⟨x, y, h1, h2, rfl⟩ := o2_some h
          simp only [wpE] at w
          refine ex_math (f := fun i j => ((Nat.lcm i.natAbs j.natAbs : Nat) : Int)) (C := fun i j => i.natAbs < 2 ^ 20 ∧ j.natAbs < 2 ^ 20) (fun pins s σ H vs us Q I r ⟨a, b, e1, c, q⟩ => cr_lcm pins s σ H vs us Q I r ⟨a, b, e1, c.1, c.2, q⟩) g1 hm g2 ((hE.ed g h1 av ρ _ w).mono fun d ρ1 w1 => (hE.ed g h2 av ρ1 _ w1).mono fun f ρ2 w2 => ?_) (by rw [star_of h1, star_of h2]; rfl) (star_of h2 _ _)
          split at w2
          · exact ⟨_, _, rfl, rfl, ⟨w2.1, w2.2.1⟩, w2.2.2⟩
          · exact w2.elim
        · cases h
    · cases h
  split at h
  · rename_i hB
    split at h
    · rename_i ef
      subst ef
      obtain ⟨g1, g2, g3, g4⟩ := g.gloB hg
      split at h
      · rename_i a t tp
        split at h
        · rename_i hb
          rw [Bool.and_eq_true, decide_eq_true_eq] at hb
          obtain ⟨b1, b2, b3, b4⟩ := g.gloB hb.1
          split at h
          · rename_i u hu
            obtain ⟨x, h1, rfl⟩ := o1_some h
            simp only [wpE] at w
            exact ex_isi (g.blt _ hB) (g.blt _ hb.2) (typ_of hu) ((hE.ed g h1 av ρ _ w).mono fun d ρ1 w1 => isi_ok (typ_nn hu) w1) g1 b1 b4 b2 (star_of h1 _ _)
          · cases h
        · cases h
      · rename_i a t tp t' tp' kk tpp
        split at h
        · rename_i hb
          simp only [Bool.and_eq_true, decide_eq_true_eq] at hb
          obtain ⟨⟨⟨hb1, hb2⟩, hb3⟩, hb4⟩ := hb
          obtain ⟨b1, b2, b3, b4⟩ := g.gloB hb1
          obtain ⟨c1, c2, c3, c4⟩ := g.gloB hb3
          split at h
          · rename_i u u' hu hu'
            obtain ⟨x, h1, rfl⟩ := o1_some h
            simp only [wpE] at w
            exact ex_isi2 (g.blt _ hB) (g.blt _ hb2) (typ_of hu) (g.blt _ hb4) (typ_of hu') ((hE.ed g h1 av ρ _ w).mono fun d ρ1 w1 => isj_ok (typ_nn hu) (typ_nn hu') w1) g1 b1 c1 b4 b2 c4 c2 (star_of h1 _ _)
          · cases h
        · cases h
      · cases h
    split at h
    · rename_i _ ef
      subst ef
      split at h
      · rename_i g' gp a gpos
        split at h
        · rename_i eg
          subst eg
          split at h
          · rename_i hb
            rw [Bool.and_eq_true, decide_eq_true_eq] at hb
            obtain ⟨g1, g2, g3, g4⟩ := g.gloB hg
            obtain ⟨b1, b2, b3, b4⟩ := g.gloB hb.1
            obtain ⟨x, h1, rfl⟩ := o1_some h
            simp only [wpE] at w
            refine ex_sortedSet (g.blt _ hB) (g.blt _ hb.2) ((hE.ed g h1 av ρ _ w).mono fun d ρ1 w1 => ?_) g1 b1 g.calm (star_of h1 _ _)
            split at w1
            · obtain ⟨ns, n1, n2, n3⟩ := opW_of w1
              exact ⟨ns, by rw [intsOf_some n1], n2, n3⟩
            · exact w1.elim
          · cases h
        · obtain ⟨ia, h1, rfl⟩ := o1_some h
          simp only [wpE] at w
          exact ex_bltn (b := .sorted) g hA hg hB h1 w
      · cases h
      · obtain ⟨ia, h1, rfl⟩ := o1_some h
        simp only [wpE] at w
        cases args with
        | nil => exact absurd rfl (by assumption)
        | cons e es => exact ex_bltn (b := .sorted) g hA hg hB h1 w
    split at h
    · rename_i _ _ ef
      subst ef
      split at h
      · rename_i y p2
        obtain ⟨i, h1, rfl⟩ := o1_some h
        exact ex_lnn g hg hB h1 w
      · cases h
      · obtain ⟨ia, h1, rfl⟩ := o1_some h
        simp only [wpE] at w
        cases args with
        | nil => exact absurd rfl (by assumption)
        | cons e es => exact ex_bltn (b := .len) g hA hg hB h1 w
    split at h
    · cases h
    · rename_i hne
      split at h
      · rename_i b hb
        obtain ⟨ia, h1, rfl⟩ := o1_some h
        simp only [wpE] at w
        have e := bnOf_eq hb
        subst e
        cases args with
        | nil => exact absurd rfl hne
        | cons e es => exact ex_bltn g hA hg hB h1 w
      · cases h
  · cases h
end
end DW

set_option Elab.async false
set_option autoImplicit false
set_option linter.all false
set_option maxRecDepth 100000
set_option maxHeartbeats 2000000
/-! IRv: all expressions -/
namespace DW
open PySem PySem.Spec L2
open PyProof.Rows hiding St
section
variable [CF : Cfg] [OG : Org]
variable {P : Prm} {n : Nat}
omit CF OG in
theorem lcW_mono {turn turn' : D → Ev → (Option D → Ev → Prop) → Prop} (ht : ∀ d ρ K, turn d ρ K → turn' d ρ K) (hm : ∀ d ρ K K', (∀ r ρ', K r ρ' → K' r ρ') → turn' d ρ K → turn' d ρ K') {Q : List D → Ev → Prop} : ∀ {ds acc : List D} {ρ : Ev}, lcW turn ds acc ρ Q → lcW turn' ds acc ρ Q
  | [], acc, ρ, h => h
  | d :: ds, acc, ρ, h => hm _ _ _ _ (fun r ρ' z => lcW_mono ht hm z) (ht _ _ _ h)
theorem TurnG.mono {X : Cx} {av : List V} {scope : Scope} {vs : List Nat} {tg elt : Expr} {ifs : List Expr} {d : D} {ρ : Ev} {K K' : Option D → Ev → Prop} (m : ∀ r ρ', K r ρ' → K' r ρ') (h : TurnG X av scope vs tg elt ifs d ρ K) : TurnG X av scope vs tg elt ifs d ρ K' := fun Y hY => (h Y hY).mono fun ρ2 q Z hZ => (q Z hZ).mono fun b ρ3 q => ⟨fun e W hW => (q.1 e W hW).mono fun y ρ4 z => m _ _ z, fun e => m _ _ (q.2 e)⟩
theorem snd_lc (hE : SE P.qt n) (hF : SF P.qt n) (hI : SI P n) {X : Cx} {T : Tb} {sc scope : Scope} {av : List V} {ρ : Ev} {Q : Sl → Ev → Prop} {tg it elt : Expr} {ifs : List Expr} {t : Tg} {a : IE} {i : II} {c : IF} (g : Gd X T P sc) (h0 : cG P.qt scope tg = some t) (hb : blkC P.N sc scope (ownOf P.qt t) = true) (h1 : cE P.qt n scope elt = some a) (h2 : cI P n sc tg it = some i) (h3 : cF P.qt n scope ifs = some c)
    (w : wpE T (.lc a t i c ((ownOf P.qt t).map (·.2))) ρ Q) : IXI X av tg it ρ fun ds ρ1 => ds.length ≤ 100000 ∧ lcW (TurnG X av scope ((ownOf P.qt t).map (·.2)) tg elt ifs) ds [] ρ1 fun acc ρ2 => Q (.ow none (.lst acc)) ρ2 := by
  have ok := blkOk_by hb
  simp only [wpE] at w
  refine (hI g h2 av ρ _ w).mono fun ds ρ1 w1 => ⟨w1.1, ?_⟩
  refine lcW_mono (fun d ρ K z => ?_) (fun d ρ K K' m z => z.mono m) w1.2
  intro Y hY
  refine (gc_of (g.blk ok.kind hY) t tg d _ _ h0 (fun j hj => mem_own h0 hj) z).mono fun ρ2 z2 Z hZ => ?_
  refine (hF ((g.blk ok.kind hZ)) h3 av ρ2 _ z2).mono fun b ρ3 z3 => ⟨fun e W hW => ?_, z3.2⟩
  exact hE.ed (g.blk ok.kind hW) h1 av ρ3 _ (z3.1 e)
omit CF OG in
theorem own_sub (t t1 : Tg) : ∀ i ∈ (ownOf P t1).map (·.2), i ∈ (ownOf P (.tp [t, t1])).map (·.2) := by
  intro i hi
  have e : tgs (.tp [t, t1]) = tgs t ++ (tgs t1 ++ []) := rfl
  unfold ownOf at hi ⊢
  rw [e, List.append_nil, List.filterMap_append, List.map_append]
  exact List.mem_append_right _ hi
omit CF OG in
theorem own_tp {sc : Scope} {t t1 : Tg} {tg tg1 : Expr} (h : cG P sc tg = some t) (h1 : cG P sc tg1 = some t1) {i : Nat} (hi : i ∈ tgs t) : i ∈ (ownOf P (.tp [t, t1])).map (·.2) := by
  have e : tgs (.tp [t, t1]) = tgs t ++ (tgs t1 ++ []) := rfl
  have z := mem_own h hi
  unfold ownOf at z ⊢
  rw [e, List.append_nil, List.filterMap_append, List.map_append]
  exact List.mem_append_left _ z
omit CF OG in
theorem lc2W_mono {turn turn' : D → List D → Ev → (List D → Ev → Prop) → Prop} (ht : ∀ d acc ρ K, turn d acc ρ K → turn' d acc ρ K) (hm : ∀ d acc ρ K K', (∀ r ρ', K r ρ' → K' r ρ') → turn' d acc ρ K → turn' d acc ρ K') {Q : List D → Ev → Prop} : ∀ {ds acc : List D} {ρ : Ev}, lc2W turn ds acc ρ Q → lc2W turn' ds acc ρ Q
  | [], acc, ρ, h => h
  | d :: ds, acc, ρ, h => hm _ _ _ _ _ (fun r ρ' z => lc2W_mono ht hm z) (ht _ _ _ _ h)
omit CF OG in
theorem lcW_end {turn : D → Ev → (Option D → Ev → Prop) → Prop} (hm : ∀ d ρ K K', (∀ r ρ', K r ρ' → K' r ρ') → turn d ρ K → turn d ρ K') {Q Q' : List D → Ev → Prop} (m : ∀ acc ρ, Q acc ρ → Q' acc ρ) : ∀ {ds acc : List D} {ρ : Ev}, lcW turn ds acc ρ Q → lcW turn ds acc ρ Q'
  | [], acc, ρ, h => m _ _ h
  | d :: ds, acc, ρ, h => hm _ _ _ _ (fun r ρ' z => lcW_end hm m z) h
theorem Turn2.mono {X : Cx} {av : List V} {scope : Scope} {vs vs1 : List Nat} {tg tg1 iter1 elt : Expr} {ifs ifs1 : List Expr} {d : D} {acc : List D} {ρ : Ev} {K K' : List D → Ev → Prop} (m : ∀ r ρ', K r ρ' → K' r ρ') (h : Turn2 X av scope vs vs1 tg tg1 iter1 elt ifs ifs1 d acc ρ K) : Turn2 X av scope vs vs1 tg tg1 iter1 elt ifs ifs1 d acc ρ K' := fun Y hY => (h Y hY).mono fun ρ2 q Z hZ => (q Z hZ).mono fun b ρ3 q => ⟨fun e W hW => (q.1 e W hW).mono fun es ρ4 z => ⟨z.1, lcW_end (fun _ _ _ _ m z => z.mono m) (fun acc ρ y => m _ _ y) z.2⟩, fun e => m _ _ (q.2 e)⟩
theorem snd_lc2 (hE : SE P.qt n) (hF : SF P.qt n) (hI : SI P n) (hI1 : SI P.qt n) {X : Cx} {T : Tb} {sc scope : Scope} {av : List V} {ρ : Ev} {Q : Sl → Ev → Prop} {tg it elt tg1 it1 : Expr} {ifs ifs1 : List Expr} {t t1 : Tg} {a : IE} {i i1 : II} {c c1 : IF} (g : Gd X T P sc) (h0 : cG P.qt scope tg = some t) (h0' : cG P.qt scope tg1 = some t1) (hb : blkC P.N sc scope (ownOf P.qt (.tp [t, t1])) = true) (h1 : cE P.qt n scope elt = some a) (h2 : cI P n sc tg it = some i) (h3 : cF P.qt n scope ifs = some c) (h4 : cI P.qt n scope tg1 it1 = some i1) (h5 : cF P.qt n scope ifs1 = some c1)
    (w : wpE T (.lc2 a t i c t1 i1 c1 ((ownOf P.qt (.tp [t, t1])).map (·.2)) ((ownOf P.qt t1).map (·.2))) ρ Q) : IXI X av tg it ρ fun ds ρ1 => lc2W (Turn2 X av scope ((ownOf P.qt (.tp [t, t1])).map (·.2)) ((ownOf P.qt t1).map (·.2)) tg tg1 it1 elt ifs ifs1) ds [] ρ1 fun acc ρ2 => Q (.ow none (.lst acc)) ρ2 := by
  have ok := blkOk_by hb
  simp only [wpE] at w
  refine (hI g h2 av ρ _ w).mono fun ds ρ1 w1 => ?_
  refine lc2W_mono (fun d acc ρ K z => ?_) (fun d acc ρ K K' m z => z.mono m) w1
  intro Y hY
  refine (gc_of (g.blk ok.kind hY) t tg d _ _ h0 (fun j hj => own_tp h0 h0' hj) z).mono fun ρ2 z2 Z hZ => ?_
  refine (hF (g.blk ok.kind hZ) h3 av ρ2 _ z2).mono fun b ρ3 z3 => ⟨fun e W hW => ?_, z3.2⟩
  refine (hI1 (g.blk ok.kind hW) h4 av ρ3 _ (z3.1 e)).mono fun es ρ4 z4 => ⟨z4.1, ?_⟩
  refine lcW_mono (fun d ρ K z => ?_) (fun d ρ K K' m z => z.mono m) z4.2
  intro Y hY
  refine (gc_of (g.blk ok.kind hY) t1 tg1 d _ _ h0' (fun j hj => mem_own h0' hj) z).mono fun ρ2 z2 Z hZ => ?_
  refine (hF (g.blk ok.kind hZ) h5 av ρ2 _ z2).mono fun b ρ3 z3 => ⟨fun e W hW => ?_, z3.2⟩
  exact hE.ed (g.blk ok.kind hW) h1 av ρ3 _ (z3.1 e)
theorem snd_E (hE : SE P n) (hC : SC P n) (hA : SA P n) (hT : ST P n) (hI : SI P n) (qE : SE P.qt n) (qA : SA P.qt n) (qF : SF P.qt n) (qI : SI P.qt n) (hJ : SJ P n) : SE P (n + 1) := fun {X T sc} g {e ir} h av ρ Q w => by
  unfold cE at h
  split at h
  · -- Name
    rename_i x pos
    split at h
    · cases h
      exact ex_nm g (by assumption) w
    · split at h
      · rename_i hb
        cases h
        rw [Bool.and_eq_true, decide_eq_true_eq] at hb
        obtain ⟨b1, b2, b3, b4⟩ := g.gloB hb.1
        simp only [wpE] at w
        split at w
        · rename_i d e1
          obtain ⟨u, v, u1, u2, u3⟩ := g.gl _ _ e1
          exact ex_glob u1 u2 u3 w b1 b2
        · exact w.elim
      · cases h
  · -- Constant
    split at h
    · cases h; exact ex_non (by simpa only [wpE] using w)
    · cases h; exact ex_bl (by simpa only [wpE] using w)
    · cases h; exact ex_int (by simpa only [wpE] using w)
    · cases h; exact ex_str (by simpa only [wpE] using w)
    · cases h
  · -- neg
    obtain ⟨x, h1, rfl⟩ := o1_some h
    simp only [wpE] at w
    refine ex_un ((hE.ed g h1 av ρ _ w).mono fun d ρ1 w1 => ?_)
    split at w1
    · exact ⟨_, b1_neg, w1⟩
    · exact w1.elim
  · -- not
    obtain ⟨x, h1, rfl⟩ := o1_some h
    simp only [wpE] at w
    refine ex_notV ((hE.ed g h1 av ρ _ w).mono fun d ρ1 w1 => ?_)
    split at w1
    · exact ⟨_, rfl, w1⟩
    · exact w1.elim
  · -- bin
    obtain ⟨x, y, h1, h2, rfl⟩ := o2_some h
    simp only [wpE] at w
    exact ex_bin ((hE.ed g h1 av ρ _ w).mono fun d ρ1 w1 => (hE.ed g h2 av ρ1 _ w1).mono fun f ρ2 w2 => bin_ok w2)
  · -- cmp
    split at h
    · cases h
    · rename_i hm
      obtain ⟨x, y, h1, h2, rfl⟩ := o2_some h
      simp only [wpE] at w
      refine ex_cmp ((hE.ed g h1 av ρ _ w).mono fun d ρ1 w1 => (hE.ed g h2 av ρ1 _ w1).mono fun f ρ2 w2 => ?_) (by simpa using hm)
      obtain ⟨k, k1, k2⟩ := cmp_ok g.un w2
      exact ⟨_, k1, k2⟩
  · -- chain
    split at h
    · cases h
    · rename_i hm
      obtain ⟨x, y, z, h1, h2, h3, rfl⟩ := o3_some h
      simp only [wpE] at w
      refine ex_chain ((hE.ed g h1 av ρ _ w).mono fun d ρ1 w1 => (hE.ed g h2 av ρ1 _ w1).mono fun f ρ2 w2 => ?_) (by simpa using hm)
      obtain ⟨k, k1, k2, k3⟩ := cmp_ok g.un w2
      refine ⟨k, k1, fun e => (hE.ed g h3 av ρ2 _ (k2 e)).mono fun q ρ3 w3 => ?_, k3⟩
      obtain ⟨k', z1, z2⟩ := cmp_ok g.un w3
      exact ⟨_, z1, z2⟩
  · -- chain of three
    split at h
    · cases h
    · rename_i hm
      obtain ⟨x, y, z, w4, h1, h2, h3, h4, rfl⟩ := o4_some h
      simp only [wpE] at w
      refine ex_chain3 (by simpa using hm) ((hE.ed g h1 av ρ _ w).mono fun d ρ1 w1 => (hE.ed g h2 av ρ1 _ w1).mono fun f ρ2 w2 => ?_)
      obtain ⟨k, k1, k2, k3⟩ := cmp_ok g.un w2
      refine ⟨k, k1, fun e => (hE.ed g h3 av ρ2 _ (k2 e)).mono fun q ρ3 w3 => ?_, k3⟩
      obtain ⟨k', z1, z2, z3⟩ := cmp_ok g.un w3
      refine ⟨k', z1, fun e => (hE.ed g h4 av ρ3 _ (z2 e)).mono fun q ρ4 w4 => ?_, z3⟩
      obtain ⟨k5, y1, y2⟩ := cmp_ok g.un w4
      exact ⟨_, y1, y2⟩
  · exact ex_one (hE g h av ρ Q w)
  · -- and
    obtain ⟨x, y, h1, h2, rfl⟩ := o2_some h
    simp only [wpE] at w
    refine ex_andV ((hE.ed g h1 av ρ _ w).mono fun d ρ1 w1 => ?_)
    split at w1
    · rename_i k
      exact ⟨k, rfl, fun e => hE g h2 av ρ1 Q (w1.1 e), w1.2⟩
    · exact w1.elim
  · -- or
    obtain ⟨x, y, h1, h2, rfl⟩ := o2_some h
    simp only [wpE] at w
    refine ex_orV ((hE.ed g h1 av ρ _ w).mono fun d ρ1 w1 => ?_)
    split at w1
    · rename_i k
      exact ⟨k, rfl, fun e => hE g h2 av ρ1 Q (w1.1 e), w1.2⟩
    · exact w1.elim
  · -- if
    obtain ⟨x, y, z, h1, h2, h3, rfl⟩ := o3_some h
    simp only [wpE] at w
    exact ex_ifexp ((hT g h1 av ρ _ w).mono' fun k ρ1 w1 => ⟨fun e => hE g h2 av ρ1 Q (w1.1 e), fun e => hE g h3 av ρ1 Q (w1.2 e)⟩)
  · -- tuple
    obtain ⟨x, h1, rfl⟩ := o1_some h
    simp only [wpE] at w
    exact ex_tup (hA g h1 av ρ _ w)
  · -- list
    obtain ⟨x, h1, rfl⟩ := o1_some h
    simp only [wpE] at w
    exact ex_lst (hA g h1 av ρ _ w)
  · -- {}
    cases h
    simp only [wpE] at w
    exact ex_dk0 w
  · -- f".."
    obtain ⟨x, h1, rfl⟩ := o1_some h
    simp only [wpE] at w
    have z := hJ g h1 av Str.empty ρ _ w
    exact ex_of (pe_joined (pj_s _)) fun Hs H σ R r k => z Hs H σ _ r fun x ρ' Hs' H' st r' q => (k.ret st r' q).val r'.same (.str x)
  · -- a[l:h]
    obtain ⟨x, y, z, h1, h2, h3, rfl⟩ := o3_some h
    simp only [wpE] at w
    refine ex_sl2 ((hE.ed g h1 av ρ _ w).mono fun d ρ1 w1 => (hE.ed g h2 av ρ1 _ w1).mono fun f ρ2 w2 => ?_)
    split at w2
    · rename_i i
      refine ⟨i, rfl, (hE.ed g h3 av ρ2 _ w2).mono fun q ρ3 w3 => ?_⟩
      split at w3
      · rename_i j
        obtain ⟨r, r1, r2⟩ := opW_of w3
        exact ⟨j, r, rfl, r1, r2⟩
      · exact w3.elim
    · exact w2.elim
  · -- a[l:]
    obtain ⟨x, y, h1, h2, rfl⟩ := o2_some h
    simp only [wpE] at w
    refine ex_slL ((hE.ed g h1 av ρ _ w).mono fun d ρ1 w1 => (hE.ed g h2 av ρ1 _ w1).mono fun f ρ2 w2 => ?_)
    split at w2
    · obtain ⟨r, r1, r2⟩ := opW_of w2
      exact ⟨_, r, rfl, r1, r2⟩
    · exact w2.elim
  · -- a[:h]
    obtain ⟨x, y, h1, h2, rfl⟩ := o2_some h
    simp only [wpE] at w
    refine ex_slH ((hE.ed g h1 av ρ _ w).mono fun d ρ1 w1 => (hE.ed g h2 av ρ1 _ w1).mono fun f ρ2 w2 => ?_)
    split at w2
    · obtain ⟨r, r1, r2⟩ := opW_of w2
      exact ⟨_, r, rfl, r1, r2⟩
    · exact w2.elim
  · -- a[::-1]
    obtain ⟨x, h1, rfl⟩ := o1_some h
    simp only [wpE] at w
    exact ex_revS ((hE.ed g h1 av ρ _ w).mono fun d ρ1 w1 => w1)
  · cases h
  · -- x[b]
    rename_i x xp b pos _
    split at h
    · rename_i i hi
      obtain ⟨y, h1, rfl⟩ := o1_some h
      obtain ⟨a1, a2, a3, a4⟩ := slotOf_at g hi
      simp only [wpE] at w
      split at w
      · rename_i d hd
        refine ex_ix (ED.of (ex_name i hd ?_ a1 a2 a3 a4)) (plain_of h1)
        refine (hE.ed g h1 av ρ _ w).mono fun f ρ2 w2 => ?_
        split at w2
        · obtain ⟨d', r1, r2⟩ := opW_of w2
          exact ⟨_, d', rfl, r1, r2⟩
        · exact w2.elim
      · rename_i t ds0 ho
        refine ex_ixO i ((hE.ed g h1 av ρ _ w).mono fun f ρ2 w2 => ?_) ⟨t, ds0, ho⟩ (plain_of h1) a1 a2 a3 a4
        split at w2
        · obtain ⟨u, ds, r0, w3⟩ := owW_of w2
          obtain ⟨d, r1, r2⟩ := opW_of w3
          exact ⟨u, ds, _, d, r0, rfl, r1, r2⟩
        · exact w2.elim
      · exact w.elim
    · cases h
  · -- a[b]
    obtain ⟨x, y, h1, h2, rfl⟩ := o2_some h
    simp only [wpE] at w
    refine ex_ix ((hE.ed g h1 av ρ _ w).mono fun d ρ1 w1 => (hE.ed g h2 av ρ1 _ w1).mono fun f ρ2 w2 => ?_) (plain_of h2)
    split at w2
    · obtain ⟨d', r1, r2⟩ := opW_of w2
      exact ⟨_, d', rfl, r1, r2⟩
    · exact w2.elim
  · -- told
    split at h
    · rename_i hc
      obtain ⟨c1, c2, c3⟩ := hc
      split at h
      · rename_i g' p1 a r p2
        split at h
        · rename_i hg
          obtain ⟨ia, h1, rfl⟩ := o1_some h
          obtain ⟨g1, g2, g3, g4⟩ := g.gloB c1
          simp only [wpE] at w
          refine g.tol _ c2 g1 g2 c3 hg.1 hg.2 (fun Y G => qA G.up h1 av ρ _ w) fun env => ?_
          cases n with
          | zero => simp [cA] at h1
          | succ m =>
            have z := h1
            simp only [cA] at z
            obtain ⟨x, y, z1, z2, _⟩ := o2_some z
            exact ⟨star_of z1 _ _, cA_star z2⟩
        · cases h
      · cases h
    · cases h
  · -- calls
    split at h
    · exact hC g (by assumption) h av ρ Q w
    · cases h
  · -- max(a, default=b)
    split at h
    · rename_i hb
      obtain ⟨e1, e2, e3, e4⟩ := hb
      subst e1 e2
      obtain ⟨x, y, h1, h2, rfl⟩ := o2_some h
      obtain ⟨g1, g2, g3, g4⟩ := g.gloB e3
      simp only [wpE] at w
      refine ex_maxd (g.blt _ e4) g1 g.calm (by have := g.un; omega) ((hE.ed g h1 av ρ _ w).mono fun d ρ1 w1 => (hE.ed g h2 av ρ1 _ w1).mono fun f ρ2 w2 => ?_) (star_of h1 _ _)
      split at w2
      · obtain ⟨ns, n1, n2⟩ := opW_of w2
        exact ⟨ns, _, by rw [intsOf_some n1], rfl, n2⟩
      · exact w2.elim
    · cases h
  · -- comprehensions
    split at h
    · rename_i t ht
      split at h
      · rename_i hb
        split at h
        · rename_i a i c h1 h2 h3
          cases h
          exact ex_lcG _ (by rw [g.N]; exact g.nd) (blk_of g hb) g.calm (snd_lc qE qF hI g ht hb h1 h2 h3 w)
        · cases h
      · cases h
    · cases h
  · -- two fors
    split at h
    · rename_i t t1 ht ht1
      split at h
      · rename_i hb
        split at h
        · rename_i a i c i1 c1 h1 h2 h3 h4 h5
          cases h
          exact ex_lc2G _ (by rw [g.N]; exact g.nd) (blk_of g hb) g.calm (own_sub t t1) (fun env x => set_of (cI_set h4)) (snd_lc2 qE qF hI qI g ht ht1 hb h1 h2 h3 h4 h5 w)
        · cases h
      · cases h
    · cases h
  · cases h
theorem snd : ∀ (n : Nat) (P : Prm), SE P n ∧ SC P n ∧ SA P n ∧ ST P n ∧ SW P n ∧ SF P n ∧ SI P n ∧ SJ P n
  | 0, P => by
    refine ⟨?_, ?_, ?_, ?_, ?_, ?_, ?_, ?_⟩
    · intro X T sc g e ir h
      exact nomatch (show (none : Option IE) = some ir from h)
    · intro X T sc g f args p pos ir hg h
      exact nomatch (show (none : Option IE) = some ir from h)
    · intro X T sc g es ir h
      exact nomatch (show (none : Option IA) = some ir from h)
    · intro X T sc g e ir h
      exact nomatch (show (none : Option IT) = some ir from h)
    · intro X T sc g k a r p ir h
      exact nomatch (show (none : Option IT) = some ir from h)
    · intro X T sc g es ir h
      exact nomatch (show (none : Option IF) = some ir from h)
    · intro X T sc g tg e ir h
      exact nomatch (show (none : Option II) = some ir from h)
    · intro X T sc g es ir h
      exact nomatch (show (none : Option IA) = some ir from h)
  | n + 1, P => by
    obtain ⟨hE, hC, hA, hT, hW, hF, hI, hJ⟩ := snd n P
    obtain ⟨qE, qC, qA, qT, qW, qF, qI, qJ⟩ := snd n P.qt
    exact ⟨snd_E hE hC hA hT hI qE qA qF qI hJ, snd_C hE hA, snd_A hE hA, snd_T hE hT hW, snd_W hT hW, snd_F hT, snd_I hE, snd_J hE hJ⟩
end
end DW

set_option Elab.async false
set_option autoImplicit false
set_option linter.all false
set_option maxRecDepth 100000
set_option maxHeartbeats 2000000
/-! IRw: statements, defs -/
namespace DW
open PySem PySem.Spec L2
open PyProof.Rows hiding St
section
variable [CF : Cfg] [OG : Org]
def SS (P : Prm) (n : Nat) : Prop := ∀ {X : Cx} {T : Tb} {sc : Scope}, Gd X T P sc → X.env.scope = sc → ∀ {s : Stmt} {ir : IS}, cS P n sc s = some ir → ∀ (av : List V) (ρ : Ev) (Φ : Ph), wpS T ir ρ Φ → SX X av s ρ Φ
def SB (P : Prm) (n : Nat) : Prop := ∀ {X : Cx} {T : Tb} {sc : Scope}, Gd X T P sc → X.env.scope = sc → ∀ {s : List Stmt} {ir : IB}, cB P n sc s = some ir → ∀ (av : List V) (ρ : Ev) (Φ : Ph), wpB T ir ρ Φ → BX X av s ρ Φ
section
variable {P : Prm} {n : Nat} {X : Cx} {T : Tb} {sc : Scope} {av : List V} {ρ : Ev} {Φ : Ph}
theorem BX.mono {b : List Stmt} {Φ' : Ph} (h : BX X av b ρ Φ) (m1 : ∀ ρ, Φ.nx ρ → Φ'.nx ρ) (m2 : ∀ s ρ, Φ.rt s ρ → Φ'.rt s ρ) (m3 : ∀ ρ, Φ.bk ρ → Φ'.bk ρ) (m4 : ∀ ρ, Φ.ct ρ → Φ'.ct ρ) : BX X av b ρ Φ' := fun Hs H σ DD r k => h Hs H σ DD r
  ⟨fun σ' ρ' Hs' H' st r' q => k.nx σ' ρ' Hs' H' st r' (m1 _ q), fun v s σ' ρ' Hs' H' st r' hv q => k.rt v s σ' ρ' Hs' H' st r' hv (m2 _ _ q), fun σ' ρ' Hs' H' st r' q => k.bk σ' ρ' Hs' H' st r' (m3 _ q), fun σ' ρ' Hs' H' st r' q => k.ct σ' ρ' Hs' H' st r' (m4 _ q)⟩
omit CF OG in
theorem loopW_mono {st st' : D → Ev → Ph → Prop} (h : ∀ d ρ Φ, st d ρ Φ → st' d ρ Φ) (hm : ∀ d ρ (Φ Φ' : Ph), (∀ ρ, Φ.nx ρ → Φ'.nx ρ) → (∀ s ρ, Φ.rt s ρ → Φ'.rt s ρ) → (∀ ρ, Φ.bk ρ → Φ'.bk ρ) → (∀ ρ, Φ.ct ρ → Φ'.ct ρ) → st' d ρ Φ → st' d ρ Φ') : ∀ {ds : List D} {ρ : Ev} {Φ : Ph}, loopW st ds ρ Φ → loopW st' ds ρ Φ
  | [], ρ, Φ, z => z
  | d :: ds, ρ, Φ, z => by
    have z' : st d ρ { nx := fun ρ' => loopW st ds ρ' Φ, ct := fun ρ' => loopW st ds ρ' Φ, bk := Φ.nx, rt := Φ.rt } := z
    exact hm d ρ { nx := fun ρ' => loopW st ds ρ' Φ, ct := fun ρ' => loopW st ds ρ' Φ, bk := Φ.nx, rt := Φ.rt } { nx := fun ρ' => loopW st' ds ρ' Φ, ct := fun ρ' => loopW st' ds ρ' Φ, bk := Φ.nx, rt := Φ.rt } (fun ρ q => loopW_mono h hm q) (fun _ _ q => q) (fun _ q => q) (fun ρ q => loopW_mono h hm q) (h _ _ _ z')
omit CF OG in
theorem swapsWith_lc {elt : Expr} {gs : List Comprehension} {scope : Scope} {p : Pos} {t : Str} {py : Pos} {l : Nat} {env : Env} (hk : env.scope.kind = .function) :
    swapsWith (.ListComp elt gs scope p) (some (.Name t py)) l env = pure (env.kindOf t == some .local && py.line == p.line && !(scope.names.any fun (n, k) => n == t && (k == .local || k == .cell))) := by
  have e : (env.blockKind == .function) = true := by
    unfold Env.blockKind
    rw [hk]
    rfl
  unfold swapsWith
  simp only [e, Bool.true_and]
  rfl

omit CF OG in
theorem kind_blk {env : Env} (hk : env.scope.kind = .function) : env.blockKind = .function := by
  unfold Env.blockKind
  rw [hk]
  rfl
def isStar : Expr → Bool
  | .Starred _ _ => true
  | _ => false
omit CF OG in
theorem star_any {a : Expr} {n : Nat} {ir : IE} (h : cE P n sc a = some ir) : isStar a = false := by
  cases a <;> first | rfl | (cases n <;> simp [cE] at h)
omit CF OG in
theorem swapped_par {x y : Str} {px py pt p2 : Pos} {kt k2 : Nat} {a b : Expr} {env : Env} (hk : env.scope.kind = .function) (he : env.scope = sc) (h : parB sc x y px py a b = true) (ha : isStar a = false) (hb : isStar b = false) :
    swappedStores [.Tuple [.Name x px, .Name y py] kt pt] (.Tuple [a, b] k2 p2) env = pure (some [x, y]) := by
  unfold parB at h
  simp only [Bool.and_eq_true, Bool.not_eq_true', beq_iff_eq, bne_iff_ne, ne_eq] at h
  obtain ⟨⟨⟨⟨⟨h1, h2⟩, h3⟩, h4⟩, h5⟩, h6⟩ := h
  have e1 : env.kindOf x = some .local := by
    unfold Env.kindOf
    rw [he]
    exact h1
  have e2 : env.kindOf y = some .local := by
    unfold Env.kindOf
    rw [he]
    exact h2
  have e3 : (env.blockKind != ScopeKind.function) = false := by
    rw [kind_blk hk]
    rfl
  have e4 : ([x, y] : List Str).eraseDups = [x, y] := by
    have z : (y == x) = false := by simpa using Ne.symm h4
    simp [List.eraseDups_cons, z]
  have e5 : [a, b].any isStar = false := by
    simp only [List.any_cons, List.any_nil, ha, hb, Bool.or_false]
  have e6 : ([a, b].any fun | .Starred .. => true | _ => false) = [a, b].any isStar := by
    congr 1
  have e7 : ([.Name x px, .Name y py] : List Expr).filterMap (fun | .Name id pos => if env.kindOf id == some .local && pos.line == px.line then some id else none | _ => none) = [x, y] := by
    simp [e1, e2, h3]
  unfold swappedStores
  simp only [e3, e6, e5, h5, h6]
  rw [if_neg (by simp), if_neg (fun z => by have w : [a, b].any isStar = true := z; rw [e5] at w; cases w)]
  simp [e1, e2, h3, e4, Expr.pos]

omit CF OG in
theorem swapped_par3 {x y z : Str} {px py pz pt p2 : Pos} {kt k2 : Nat} {a b c : Expr} {env : Env} (hk : env.scope.kind = .function) (he : env.scope = sc) (h : parB3 sc x y z px py pz a b c = true) (ha : isStar a = false) (hb : isStar b = false) (hc : isStar c = false) :
    swappedStores [.Tuple [.Name x px, .Name y py, .Name z pz] kt pt] (.Tuple [a, b, c] k2 p2) env = pure (some [x, y, z]) := by
  unfold parB3 at h
  simp only [Bool.and_eq_true, Bool.not_eq_true', beq_iff_eq, bne_iff_ne, ne_eq] at h
  obtain ⟨⟨⟨⟨⟨⟨⟨⟨⟨h1, h2⟩, h3⟩, l1⟩, l2⟩, n1⟩, n2⟩, n3⟩, h5⟩, h6⟩ := h
  have e1 : env.kindOf x = some .local := by
    unfold Env.kindOf
    rw [he]
    exact h1
  have e2 : env.kindOf y = some .local := by
    unfold Env.kindOf
    rw [he]
    exact h2
  have e3 : env.kindOf z = some .local := by
    unfold Env.kindOf
    rw [he]
    exact h3
  have e0 : (env.blockKind != ScopeKind.function) = false := by
    rw [kind_blk hk]
    rfl
  have e4 : ([x, y, z] : List Str).eraseDups = [x, y, z] := by
    have z1 : (y == x) = false := by simpa using Ne.symm n1
    have z2 : (z == x) = false := by simpa using Ne.symm n2
    have z3 : (z == y) = false := by simpa using Ne.symm n3
    simp [List.eraseDups_cons, z1, z2, z3]
  have e5 : [a, b, c].any isStar = false := by
    simp only [List.any_cons, List.any_nil, ha, hb, hc, Bool.or_false]
  have e6 : ([a, b, c].any fun | .Starred .. => true | _ => false) = [a, b, c].any isStar := by
    congr 1
  unfold swappedStores
  simp only [e0, e6, e5, h5, h6]
  rw [if_neg (by simp), if_neg (fun z => by have w : [a, b, c].any isStar = true := z; rw [e5] at w; cases w)]
  simp [e1, e2, e3, l1, l2, e4, Expr.pos]
  try simp [← l1, ← l2, e1, e2, e3, e4]
omit CF OG in
theorem swapped_const3 {a b c : Expr} {ts : List Expr} {kt k2 : Nat} {pt p2 : Pos} {env : Env} (h : [a, b, c].all (foldedForSure 8) = true) : swappedStores [.Tuple ts kt pt] (.Tuple [a, b, c] k2 p2) env = pure none := by
  unfold swappedStores
  simp only [h]
  split
  · rfl
  · split
    · rfl
    · split
      · rfl
      · rfl
omit CF OG in
theorem swapped_nl3 {x y z : Str} {px py pz pt p2 : Pos} {kt k2 : Nat} {a b c : Expr} {env : Env} (he : env.scope = sc) (h : parN3 sc x y z = true) :
    swappedStores [.Tuple [.Name x px, .Name y py, .Name z pz] kt pt] (.Tuple [a, b, c] k2 p2) env = pure none := by
  have e1 : ¬ (env.kindOf x = some .local ∧ env.kindOf y = some .local ∧ env.kindOf z = some .local) := fun w => by
    unfold Env.kindOf at w
    rw [he] at w
    unfold parN3 at h
    rw [w.1, w.2.1, w.2.2] at h
    cases h
  unfold swappedStores
  simp only
  split
  · rfl
  · split
    · rfl
    · split
      · rfl
      · rename_i w
        exfalso
        apply w
        by_cases h1 : env.kindOf x = some .local
        · by_cases h2 : env.kindOf y = some .local
          · have h3 : ¬ env.kindOf z = some .local := fun w => e1 ⟨h1, h2, w⟩
            by_cases l1 : py.line = px.line <;> by_cases l2 : pz.line = px.line <;> simp [h1, h2, h3, l1, l2, Expr.pos]
          · by_cases h3 : env.kindOf z = some .local <;> by_cases l1 : py.line = px.line <;> by_cases l2 : pz.line = px.line <;> simp [h1, h2, h3, l1, l2, Expr.pos]
        · by_cases h2 : env.kindOf y = some .local <;> by_cases h3 : env.kindOf z = some .local <;> by_cases l1 : py.line = px.line <;> by_cases l2 : pz.line = px.line <;> simp [h1, h2, h3, l1, l2, Expr.pos]
omit CF OG in
theorem swapped_none {ts : List Expr} {kt : Nat} {pt : Pos} {e : Expr} {env : Env} (h : ∀ vs k p, e ≠ .Tuple vs k p) : swappedStores [.Tuple ts kt pt] e env = pure none := by
  cases e <;> first | rfl | exact absurd rfl (h _ _ _)
omit CF OG in
theorem swapped_const {a b : Expr} {ts : List Expr} {kt k2 : Nat} {pt p2 : Pos} {env : Env} (h : [a, b].all (foldedForSure 8) = true) : swappedStores [.Tuple ts kt pt] (.Tuple [a, b] k2 p2) env = pure none := by
  unfold swappedStores
  simp only [h]
  split
  · rfl
  · split
    · rfl
    · split
      · rfl
      · rfl
omit CF OG in
theorem swapped_nl {x y : Str} {px py pt p2 : Pos} {kt k2 : Nat} {a b : Expr} {env : Env} (he : env.scope = sc) (h : parN sc x y = true) :
    swappedStores [.Tuple [.Name x px, .Name y py] kt pt] (.Tuple [a, b] k2 p2) env = pure none := by
  have e1 : ¬ (env.kindOf x = some .local ∧ env.kindOf y = some .local) := fun z => by
    unfold Env.kindOf at z
    rw [he] at z
    unfold parN at h
    rw [z.1, z.2] at h
    cases h
  unfold swappedStores
  simp only
  split
  · rfl
  · split
    · rfl
    · split
      · rfl
      · rename_i z
        exfalso
        apply z
        by_cases h1 : env.kindOf x = some .local
        · have h2 : ¬ env.kindOf y = some .local := fun w => e1 ⟨h1, w⟩
          by_cases h3 : py.line = px.line <;> simp [h1, h2, h3, Expr.pos]
        · by_cases h2 : env.kindOf y = some .local <;> by_cases h3 : py.line = px.line <;> simp [h1, h2, h3, Expr.pos]
omit CF OG in
theorem swapped_either {x y : Str} {px py pt p2 : Pos} {kt k2 : Nat} {a b : Expr} {env : Env} (he : env.scope = sc) (h : ([a, b].all (foldedForSure 8) || parN sc x y) = true) :
    swappedStores [.Tuple [.Name x px, .Name y py] kt pt] (.Tuple [a, b] k2 p2) env = pure none := by
  rcases Bool.or_eq_true_iff.mp h with z | z
  · exact swapped_const z
  · exact swapped_nl he z
omit CF OG in
theorem sole_of {e t : Expr} {l : Nat} {env : Env} (h : isComp e = none) : swapsWithSole [t] e l env = pure false := by
  unfold swapsWithSole
  exact comp_of h
omit CF OG in
theorem sole_par {x y : Str} {px py pt p2 : Pos} {kt k2 l : Nat} {a b : Expr} {env : Env} : swapsWithSole [.Tuple [.Name x px, .Name y py] kt pt] (.Tuple [a, b] k2 p2) l env = pure false := rfl
omit CF OG in
theorem set_asg {x : Str} {p ps : Pos} {b : Expr} {n : Nat} {ir : IE} {env : Env} (h : cE P n sc b = some ir) (v : Value) : assign (.Subscript (.Name x p) b ps) env v = (do
      let ov ← holding [v] (eval (.Name x p) env)
      let iv ← holding [v, ov] (eval b env)
      standAt ps
      holding [v, ov, iv] (setItem ov iv v)
      release [v, ov, iv] []) := by
  cases b <;> first | rfl | (cases n <;> simp [cE] at h)
theorem swapped_sub {x y : Str} {px py ps ps' pt p2 : Pos} {kt k2 : Nat} {a b : Expr} {es : List Expr} {env : Env} :
    swappedStores [.Tuple [.Subscript (.Name x px) a ps, .Subscript (.Name y py) b ps'] kt pt] (.Tuple es k2 p2) env = pure none := by
  unfold swappedStores
  simp only
  split
  · rfl
  · split
    · rfl
    · split
      · rfl
      · rename_i z
        exfalso
        apply z
        simp
omit CF OG in
theorem aug_asg {b : Expr} {n : Nat} {ir : IE} (h : cE P n sc b = some ir) (ov iv new : Value) : augStore b ov iv new = (do holding [new, ov, iv] (setItem ov iv new); release [new, ov, iv] []; pure .next) := by
  cases b <;> first | rfl | (cases n <;> simp [cE] at h)
theorem snd_S (hB : SB P n) : SS P (n + 1) := fun {X T sc} g hsc {s ir} h av ρ Φ w => by
  have hE : SE P n := (snd n P).1
  have hT : ST P n := (snd n P).2.2.2.1
  have hI : SI P n := (snd n P).2.2.2.2.2.2.1
  have nd : X.N.Nodup := by rw [g.N]; exact g.nd
  have hp : PassesOwn (model X.prog X.w) X.A X.env X.xe := g.ph
  unfold cS at h
  split at h
  · -- x = e
    rename_i x px e pos
    split at h
    · rename_i i hi
      obtain ⟨a1, a2, a3⟩ := tslotOf_at g hi
      split at h
      · rename_i scp hcomp
        split at h
        · rename_i elt tg it ifs scope p2
          obtain ⟨y, h1, rfl⟩ := o1_some h
          simp only [wpS] at w
          have sw := swapsWith_lc (elt := elt) (gs := [⟨tg, it, ifs, 0⟩]) (scope := scope) (p := p2) (t := x) (py := px) (l := pos.line) (env := X.env) g.kind
          by_cases hb : (X.env.kindOf x == some .local && px.line == p2.line && !(scope.names.any fun (n, k) => n == x && (k == .local || k == .cell))) = true
          · rw [hb] at sw
            have lx : LX X av (.ListComp elt [⟨tg, it, ifs, 0⟩] scope p2) ρ fun s ρ1 => Φ.nx (ρ1.set i (nrm s)) := by
              cases n with
              | zero => exact nomatch (show (none : Option IE) = some _ from h1)
              | succ m =>
                unfold cE at h1
                simp only at h1
                split at h1
                · rename_i t ht
                  split at h1
                  · rename_i hbk
                    split at h1
                    · rename_i a i' c q1 q2 q3
                      cases h1
                      exact lx_lcG _ nd (blk_of g hbk) g.calm (snd_lc (snd m P.qt).1 (snd m P.qt).2.2.2.2.2.1 (snd m P).2.2.2.2.2.2.1 g ht hbk q1 q2 q3 w)
                    · cases h1
                  · cases h1
                · cases h1
            have hloc : X.env.scope.names.lookup x = some .local := by
              rw [Bool.and_eq_true, Bool.and_eq_true] at hb
              simpa [Env.kindOf] using hb.1.1
            exact sx_setLX i lx a1 hloc sw
          · have hb' := Bool.eq_false_iff.mpr hb
            rw [hb'] at sw
            exact sx_set i nd (hE g h1 av ρ _ w) a1 a2 sw a3
        · rename_i elt tg it ifs tg1 it1 ifs1 scope p2
          obtain ⟨y, h1, rfl⟩ := o1_some h
          simp only [wpS] at w
          have sw := swapsWith_lc (elt := elt) (gs := [⟨tg, it, ifs, 0⟩, ⟨tg1, it1, ifs1, 0⟩]) (scope := scope) (p := p2) (t := x) (py := px) (l := pos.line) (env := X.env) g.kind
          by_cases hb : (X.env.kindOf x == some .local && px.line == p2.line && !(scope.names.any fun (n, k) => n == x && (k == .local || k == .cell))) = true
          · rw [hb] at sw
            have lx : LX X av (.ListComp elt [⟨tg, it, ifs, 0⟩, ⟨tg1, it1, ifs1, 0⟩] scope p2) ρ fun s ρ1 => Φ.nx (ρ1.set i (nrm s)) := by
              cases n with
              | zero => exact nomatch (show (none : Option IE) = some _ from h1)
              | succ m =>
                unfold cE at h1
                simp only at h1
                split at h1
                · rename_i t t1 ht ht1
                  split at h1
                  · rename_i hbk
                    split at h1
                    · rename_i a i' c i1 c1 q1 q2 q3 q4 q5
                      cases h1
                      exact lx_lc2G _ nd (blk_of g hbk) g.calm (own_sub t t1) (fun env x => set_of (cI_set q4)) (snd_lc2 (snd m P.qt).1 (snd m P.qt).2.2.2.2.2.1 (snd m P).2.2.2.2.2.2.1 (snd m P.qt).2.2.2.2.2.2.1 g ht ht1 hbk q1 q2 q3 q4 q5 w)
                    · cases h1
                  · cases h1
                · cases h1
            have hloc : X.env.scope.names.lookup x = some .local := by
              rw [Bool.and_eq_true, Bool.and_eq_true] at hb
              simpa [Env.kindOf] using hb.1.1
            exact sx_setLX i lx a1 hloc sw
          · have hb' := Bool.eq_false_iff.mpr hb
            rw [hb'] at sw
            exact sx_set i nd (hE g h1 av ρ _ w) a1 a2 sw a3
        · cases h
      · rename_i hcomp
        obtain ⟨y, h1, rfl⟩ := o1_some h
        simp only [wpS] at w
        exact sx_set i nd (hE g h1 av ρ _ w) a1 a2 (comp_of hcomp) a3
    · cases h
  · -- a, b = e, f
    rename_i x px y py kt pt a b k2 p2 pos
    split at h
    · rename_i i j hi hj
      obtain ⟨a1, a2, a3⟩ := tslotOf_at g hi
      obtain ⟨b1, b2, b3⟩ := tslotOf_at g hj
      split at h
      · rename_i hc
        obtain ⟨u, v, h1, h2, rfl⟩ := o2_some h
        simp only [wpS] at w
        have pb := hc.2
        have lx : X.env.scope.names.lookup x = some .local ∧ X.env.scope.names.lookup y = some .local := by
          unfold parB at pb
          simp only [Bool.and_eq_true, beq_iff_eq] at pb
          rw [hsc]
          exact ⟨pb.1.1.1.1.1, pb.1.1.1.1.2⟩
        exact sx_par i j nd ((hE g h1 av ρ _ w).mono fun s ρ1 w1 => hE g h2 av ρ1 _ w1) g.calm a1 b1 hc.1 lx.1 lx.2 (star_of h1 _ _) (star_of h2 _ _) (swapped_par g.kind hsc pb (star_any h1) (star_any h2)) sole_par
      · split at h
        · rename_i hc
          obtain ⟨u, v, h1, h2, rfl⟩ := o2_some h
          simp only [wpS] at w
          exact sx_asg ((hE.ed g h2 av ρ _ w).mono fun d ρ1 w1 => gx_of g _ _ _ _ _ h1 w1) rfl (swapped_either hsc hc) (by rw [ase_cons h1]; rfl)
        · cases h
    · cases h
  · -- a, b, c = e, f, g
    rename_i x px y py z pz kt pt a b c k2 p2 pos
    split at h
    · rename_i i j l hi hj hl
      obtain ⟨a1, a2, a3⟩ := tslotOf_at g hi
      obtain ⟨b1, b2, b3⟩ := tslotOf_at g hj
      obtain ⟨c1, c2, c3⟩ := tslotOf_at g hl
      split at h
      · rename_i hc
        obtain ⟨u, v, w', h1, h2, h3, rfl⟩ := o3_some h
        simp only [wpS] at w
        have pb := hc.2.2.2
        have lx : X.env.scope.names.lookup x = some .local ∧ X.env.scope.names.lookup y = some .local ∧ X.env.scope.names.lookup z = some .local := by
          unfold parB3 at pb
          simp only [Bool.and_eq_true, beq_iff_eq] at pb
          rw [hsc]
          exact ⟨pb.1.1.1.1.1.1.1.1.1, pb.1.1.1.1.1.1.1.1.2, pb.1.1.1.1.1.1.1.2⟩
        exact sx_par3 i j l nd ((hE g h1 av ρ _ w).mono fun s ρ1 w1 => (hE g h2 av ρ1 _ w1).mono fun t ρ2 w2 => hE g h3 av ρ2 _ w2) g.calm a1 b1 c1 hc.1 hc.2.1 hc.2.2.1 lx.1 lx.2.1 lx.2.2 (star_of h1 _ _) (star_of h2 _ _) (star_of h3 _ _) (swapped_par3 g.kind hsc pb (star_any h1) (star_any h2) (star_any h3)) rfl
      · split at h
        · rename_i hc
          obtain ⟨u, v, h1, h2, rfl⟩ := o2_some h
          simp only [wpS] at w
          refine sx_asg ((hE.ed g h2 av ρ _ w).mono fun d ρ1 w1 => gx_of g _ _ _ _ _ h1 w1) rfl ?_ (by rw [ase_cons h1]; rfl)
          rcases Bool.or_eq_true_iff.mp hc with q | q
          · exact swapped_const3 q
          · exact swapped_nl3 hsc q
        · cases h
    · cases h
  · cases h
  · cases h
  · -- x[a], y[b] = e
    rename_i x xp a sp y yp b sp' kt pt es k2 p2 pos hns1 hns2
    split at h
    · rename_i i j hi hj
      obtain ⟨u, v, w', h1, h2, h3, rfl⟩ := o3_some h
      obtain ⟨a1, a2, a3, a4⟩ := slotOf_at g hi
      obtain ⟨b1, b2, b3, b4⟩ := slotOf_at g hj
      simp only [wpS] at w
      refine sx_set2 i j ((hE.ed g h3 av ρ _ w).mono fun d ρ1 w1 => ?_) g.calm a1 a2 a3 a4 b1 b2 b3 b4 (set_asg h1) (set_asg h2) rfl swapped_sub
      split at w1
      · rename_i d1 d2
        refine ⟨d1, d2, rfl, ?_⟩
        split at w1
        · rename_i t ds0 ho
          refine ⟨⟨t, ds0, ho⟩, (hE.ed g h1 av ρ1 _ w1).mono fun n1 ρ2 w2 => ?_⟩
          split at w2
          · rename_i n
            obtain ⟨t2, ds, z1, w3⟩ := owW_of w2
            obtain ⟨m, z2, w4⟩ := opW_of w3
            refine ⟨t2, ds, n, m, z1, rfl, z2, ?_⟩
            split at w4
            · rename_i t3 ds3 ho3
              refine ⟨⟨t3, ds3, ho3⟩, (hE.ed g h2 av _ _ w4).mono fun n2 ρ3 w5 => ?_⟩
              split at w5
              · rename_i n'
                obtain ⟨t4, ds4, y1, w6⟩ := owW_of w5
                obtain ⟨m', y2, w7⟩ := opW_of w6
                exact ⟨t4, ds4, n', m', y1, rfl, y2, w7⟩
              · exact w5.elim
            · exact w4.elim
          · exact w2.elim
        · exact w1.elim
      · exact w1.elim
    · cases h
  · cases h
  · -- tuple = e
    rename_i ts kt pt e pos hne1 hne2
    split at h
    · cases h
    · rename_i hc
      obtain ⟨u, v, h1, h2, rfl⟩ := o2_some h
      simp only [wpS] at w
      exact sx_asg ((hE.ed g h2 av ρ _ w).mono fun d ρ1 w1 => gx_of g _ _ _ _ _ h1 w1) (sole_of hc) (swapped_none fun vs k p z => hne2 _ _ _ z) (by rw [ase_cons h1]; rfl)
  · cases h
  · -- x[k] = e
    rename_i x xp b sp e pos hns
    split at h
    · rename_i i hi hc
      obtain ⟨u, v, h1, h2, rfl⟩ := o2_some h
      obtain ⟨a1, a2, a3, a4⟩ := slotOf_at g hi
      simp only [wpS] at w
      split at w
      · rename_i t ds0 ho
        refine sx_setix i ((hE.ed g h2 av ρ _ w).mono fun d ρ1 w1 => (hE.ed g h1 av ρ1 _ w1).mono fun y ρ2 w2 => ?_) ⟨t, ds0, ho⟩ a1 a2 a3 a4 (set_asg h1) (sole_of hc)
        split at w2
        · obtain ⟨t2, ds, z1, w3⟩ := owW_of w2
          obtain ⟨j, z2, z3⟩ := opW_of w3
          exact ⟨t2, ds, _, j, z1, rfl, z2, z3⟩
        · exact w2.elim
      · exact w.elim
    · cases h
  · cases h
  · -- x[a] op= e
    rename_i x xp a sp o e pos hns
    split at h
    · rename_i i hi
      obtain ⟨u, v, h1, h2, rfl⟩ := o2_some h
      obtain ⟨a1, a2, a3, a4⟩ := slotOf_at g hi
      simp only [wpS] at w
      split at w
      · rename_i t ds0 ho
        refine sx_augS i ⟨t, ds0, ho⟩ ((hE.ed g h1 av ρ _ w).mono fun n1 ρ1 w1 => ?_) a1 a2 a3 a4 (aug_asg h1)
        split at w1
        · rename_i n
          obtain ⟨t1, ds, z1, w2⟩ := owW_of w1
          obtain ⟨x0, z2, w3⟩ := opW_of w2
          refine ⟨t1, ds, n, x0, z1, rfl, z2, (hE.ed g h2 av ρ1 _ w3).mono fun y ρ2 w4 => ?_⟩
          obtain ⟨f, z3, w5⟩ := aug_ok w4
          obtain ⟨t2, ds2, y1, w6⟩ := owW_of w5
          obtain ⟨m2, y2, w7⟩ := opW_of w6
          exact ⟨f, t2, ds2, m2, z3, y1, y2, w7⟩
        · exact w1.elim
      · exact w.elim
    · cases h
  · -- aug
    rename_i x xp o e pos
    split at h
    · rename_i i hi
      obtain ⟨y, h1, rfl⟩ := o1_some h
      obtain ⟨a1, a2, a3⟩ := tslotOf_at g hi
      simp only [wpS] at w
      split at w
      · exact sx_aug i nd (by assumption) ((hE.ed g h1 av ρ _ w).mono fun d ρ1 w1 => aug_ok w1) a1 a2 a3
      · refine sx_augO i nd (by assumption) ((hE.ed g h1 av ρ _ w).mono fun d ρ1 w1 => ?_) a1 a2 a3
        split at w1
        · obtain ⟨t, ds, z1, z2, z3⟩ := owW_of w1
          exact ⟨t, ds, _, rfl, z1, rfl, z2, z3⟩
        · exact w1.elim
      · exact w.elim
    · cases h
  · -- if
    obtain ⟨x, y, z, h1, h2, h3, rfl⟩ := o3_some h
    simp only [wpS] at w
    exact sx_if ((hT g h1 av ρ _ w).mono' fun k ρ1 w1 => ⟨fun e => hB g hsc h2 av ρ1 Φ (w1.1 e), fun e => hB g hsc h3 av ρ1 Φ (w1.2 e)⟩)
  · cases h
    exact sx_retN (by simpa only [wpS] using w)
  · obtain ⟨x, h1, rfl⟩ := o1_some h
    simp only [wpS] at w
    exact sx_ret (hE g h1 av ρ _ w)
  · cases h
    exact sx_pass (by simpa only [wpS] using w)
  · cases h
    exact sx_break (by simpa only [wpS] using w)
  · cases h
    exact sx_continue (by simpa only [wpS] using w)
  · -- append
    split at h
    · rename_i hc
      obtain ⟨rfl, hline⟩ := hc
      split at h
      · rename_i i hi
        obtain ⟨y, h1, rfl⟩ := o1_some h
        obtain ⟨a1, a2, a3, a4⟩ := slotOf_at g hi
        simp only [wpS] at w
        split at w
        · rename_i t ds0 ho
          exact sx_append i ((hE.ed g h1 av ρ _ w).mono fun d ρ1 w1 => owW_of w1) ⟨t, ds0, ho⟩ a1 a2 a3 a4 rfl (by rw [star_of h1]; rfl) hline (star_of h1 _ _) rfl rfl
        · exact w.elim
      · cases h
    · cases h
  · -- e
    split at h
    · cases h
    · rename_i hc
      obtain ⟨x, h1, rfl⟩ := o1_some h
      simp only [wpS] at w
      exact sx_drop ((hE.ed g h1 av ρ _ w).mono fun d ρ1 w1 => w1) (comp_of hc)
  · -- raise
    rename_i C cp es cpos pos
    split at h
    · rename_i hc
      obtain ⟨g1, g2, g3, g4⟩ := g.gloB hc.1
      split at h
      · rename_i hE1
        split at h
        · rename_i e
          cases h1 : cE P n sc e with
          | none =>
            simp only [h1, o1, Option.getD_none, Option.some.injEq] at h
            subst h
            simp only [wpS] at w
          | some x =>
          simp only [h1, o1, Option.getD_some, Option.some.injEq] at h
          subst h
          simp only [wpS] at w
          refine g.exm hc.2 C hE1 g1 g2 (star_of h1 _ _) ((hE.ed g h1 av ρ _ w).mono fun d ρ1 w1 => ?_)
          split at w1
          · exact ⟨⟨_, rfl⟩, w1⟩
          · exact w1.elim
        · cases h
          simp only [wpS] at w
      · split at h
        · rename_i hE2
          split at h
          · rename_i e r
            cases h1 : cA P n sc (e :: r) with
            | none =>
              simp only [h1, o1, Option.getD_none, Option.some.injEq] at h
              subst h
              simp only [wpS] at w
            | some x =>
            simp only [h1, o1, Option.getD_some, Option.some.injEq] at h
            subst h
            simp only [wpS] at w
            obtain ⟨s1, s2⟩ := args_star (X := X) (pos := cpos) h1
            exact g.exf hc.2 C hE2 g1 g2 s1 s2 ((snd n P).2.2.1 g h1 av ρ _ w)
          · cases h
            simp only [wpS] at w
        · cases h
          simp only [wpS] at w
    · cases h
      simp only [wpS] at w
  · cases h
    simp only [wpS] at w
  · -- try
    split at h
    · rename_i hc
      obtain ⟨c1, c2, c3, c4⟩ := hc
      obtain ⟨ia, h1, rfl⟩ := o1_some h
      obtain ⟨g1, g2, g3, g4⟩ := g.gloB c1
      obtain ⟨b1, b2, b3, b4⟩ := g.gloB c3
      obtain ⟨k, j, ps, hj, hr, C⟩ := g.cal _ c2
      simp only [wpS] at w
      refine g.trq _ c4 g1 g2 b1 b2 (fun pn xe => args_star (X := X.tr pn xe) h1) ⟨k, j, hj, hr, C⟩ fun pn xe hx => ?_
      have G : Gd0 (X.tr pn xe) T P.qt sc := ⟨g.N, g.nd, g.kind, g.loc, g.cel, g.fre, g.glo, g.fn, g.calm, g.un, g.cal, g.cao, g.blt, g.mat, g.gl, hx, fun z => (by cases z)⟩
      exact (snd n P.qt).2.2.1 G.up h1 av ρ _ w
    · cases h
  · -- for
    obtain ⟨x, y, z, h1, h2, h3, rfl⟩ := o3_some h
    simp only [wpS] at w
    refine sx_forG hp g.calm ((hI g h2 av ρ _ w).mono fun ds ρ1 w1 => ?_)
    exact loopW_mono (fun d ρ Φ q => (gx_of g _ _ d ρ _ h1 q).mono fun ρ' q' => hB g hsc h3 av ρ' Φ q') (fun d ρ Φ Φ' m1 m2 m3 m4 q => q.mono fun ρ' q' => BX.mono q' m1 m2 m3 m4) w1
  · -- while
    obtain ⟨x, y, h1, h2, rfl⟩ := o2_some h
    simp only [wpS] at w
    obtain ⟨m0, w0⟩ := w
    refine sx_while hp (fun m ρ => whileW (fun ρ Q => wpT T x ρ Q) (fun ρ Φ => wpB T y ρ Φ) m ρ Φ) m0 w0 fun m ρ1 wm => ?_
    cases m with
    | zero => exact wm.elim
    | succ m =>
      simp only [whileW] at wm
      refine (hT g h1 av ρ1 _ wm).mono' fun k ρ2 w2 => ⟨fun e => ?_, w2.2⟩
      exact (hB g hsc h2 av ρ2 _ (w2.1 e)).mono (fun ρ q => ⟨m, Nat.lt_succ_self m, q⟩) (fun _ _ q => q) (fun _ q => q) (fun ρ q => ⟨m, Nat.lt_succ_self m, q⟩)
  · cases h

theorem snd_B (hS : SS P n) (hB : SB P n) : SB P (n + 1) := fun {X T sc} g hsc {s ir} h av ρ Φ w => by
  cases s with
  | nil =>
    simp only [cB] at h
    cases h
    exact bx_nil (by simpa only [wpB] using w)
  | cons s r =>
    simp only [cB] at h
    obtain ⟨x, y, h1, h2, rfl⟩ := o2_some h
    simp only [wpB] at w
    refine bx_cons ?_
    have z := hS g hsc h1 av ρ _ w
    exact fun Hs H σ DD r k => z Hs H σ DD r ⟨fun σ' ρ' Hs' H' st r' q => k.nx σ' ρ' Hs' H' st r' (hB g hsc h2 av ρ' Φ q), k.rt, k.bk, k.ct⟩
theorem sndB : ∀ n, SS P n ∧ SB P n
  | 0 => by
    refine ⟨?_, ?_⟩
    · intro X T sc g hsc e ir h
      exact nomatch (show (none : Option IS) = some ir from h)
    · intro X T sc g hsc e ir h
      exact nomatch (show (none : Option IB) = some ir from h)
  | n + 1 => ⟨snd_S (sndB n).2, snd_B (sndB n).1 (sndB n).2⟩
/-- what is handed back is taken for a datum -/
theorem bx_frz {b : List Stmt} {R : D → Ev → Prop} (h : BX X av b ρ { Φ with rt := fun s ρ' => frzW s fun d => R d ρ' }) (m : ∀ d ρ', R d ρ' → Φ.rt (.pd d) ρ') : BX X av b ρ Φ := fun Hs H σ DD r k => h Hs H σ DD r
  ⟨k.nx, fun v s σ' ρ' Hs' H' st r' hv q => by
    obtain ⟨d, hd, q⟩ := frzW_frz q
    obtain ⟨Hs2, r2, st2, rp⟩ := hv.frz hd r' st r.org.dom
    exact k.rt v (.pd d) σ' ρ' _ H' st2 r2 rp (m d ρ' q), k.bk, k.ct⟩
end
/-- what is known where a def stands -/
structure Ws (Pr : Program) (w : World) (K : PySem.W.Frag) (mg : Str → Option Value) (base : Heap) (T : Tb) (P : Prm) (k : Nat) : Prop where
  nd : P.N.Nodup
  q : P.q = false
  cal : ∀ f ∈ P.F, ∃ j ps, j ≤ k ∧ Cal Pr w K mg base j f ps (fiP T f)
  cao : ∀ f ∈ P.O, ∃ j ps, j ≤ k ∧ Cal Pr w K mg base j f ps (fiO T f)
  blt : ∀ x ∈ P.B, mg x = none
  mat : ∀ x ∈ P.M, mg x = mthV x
  gl : ∀ x d, T.gl x = some d → ∃ u v, mg x = some u ∧ RelV v u ∧ ∀ Hs, Rp K Hs v d
abbrev Tb.at (T : Tb) (xk : Exn → Prop) : Tb := { T with xk := xk }
end
section
variable [CF : Cfg]
/-- what a def that raises, catches or tells needs beyond -/
def Xs (Pr : Program) (w : World) (K : PySem.W.Frag) (mg : Str → Option Value) (base : Heap) (T : Tb) (P : Prm) (k : Nat) (f : Str) (st : Stmt) (fa : Addr) (fd : FuncData) : Prop :=
  ∀ [OG : Org] (cdv : Value) (A : Around) (outer : List Env) (s : Shared) (H : Hp) (E : XK) (xk : Exn → Prop), fd.code = cdv → Room k (A.deeper (envOfC f (defScope st) s.heap.objs.size fa cdv)) → Takes (cxOf (L2.CX Pr w) Pr w K mg base P.N f (defScope st) fa cdv A outer s H E) (WO K xk) →
    (∀ C ∈ P.E, RaiM (cxOf (L2.CX Pr w) Pr w K mg base P.N f (defScope st) fa cdv A outer s H E) (T.at xk) C) ∧ (∀ C ∈ P.E1, RaiF (cxOf (L2.CX Pr w) Pr w K mg base P.N f (defScope st) fa cdv A outer s H E) (T.at xk) C) ∧
    (∀ x, P.L = some x → TolOk (cxOf (L2.CX Pr w) Pr w K mg base P.N f (defScope st) fa cdv A outer s H E) (T.at xk) P (defScope st) x) ∧ ∀ C, P.C = some C → TryOk (cxOf (L2.CX Pr w) Pr w K mg base P.N f (defScope st) fa cdv A outer s H E) (T.at xk) C
variable {Pr : Program} {w : World} {K : PySem.W.Frag} {mg : Str → Option Value} {base : Heap} {T : Tb} {P : Prm} {k : Nat} {f : Str} {st : Stmt} {fa : Addr} {fd : FuncData} {ps : List Str} {m : Nat} {body : IB}
theorem xs_none (h1 : P.E = []) (h2 : P.E1 = []) (h3 : P.L = none) (h4 : P.C = none) : Xs Pr w K mg base T P k f st fa fd := fun cdv A outer s H E xk _ hr tk =>
  ⟨fun C z => (by rw [h1] at z; cases z), fun C z => (by rw [h2] at z; cases z), fun C z => (by rw [h3] at z; cases z), fun C z => (by rw [h4] at z; cases z)⟩
theorem gd0_of [OG : Org] (W : Ws Pr w K mg base T P k) {cdv : Value} {A : Around} {outer : List Env} {s : Shared} {H : Hp} {E : XK} {xk : Exn → Prop} (hk : (defScope st).kind = .function) (hr : Room k (A.deeper (envOfC f (defScope st) s.heap.objs.size fa cdv)))
    (tk : Takes (cxOf (L2.CX Pr w) Pr w K mg base P.N f (defScope st) fa cdv A outer s H E) (WO K xk)) : Gd0 (cxOf (L2.CX Pr w) Pr w K mg base P.N f (defScope st) fa cdv A outer s H E) (T.at xk) P (defScope st) :=
  ⟨rfl, W.nd, hk, fun _ h => h, fun _ h => h, fun _ h => .inl h, fun _ h => h, fun _ _ => .inl rfl, rfl, by
    have := hr.un
    show (A.deeper (envOfC f (defScope st) s.heap.objs.size fa cdv)).units + 65 < cLine
    omega, fun g hg => by
    obtain ⟨j, qs, hj, C⟩ := W.cal g hg
    exact ⟨j, k, qs, hj, hr, C⟩, fun g hg => by
    obtain ⟨j, qs, hj, C⟩ := W.cao g hg
    exact ⟨j, k, qs, hj, hr, C⟩, W.blt, W.mat, W.gl, passes_of rfl, fun _ => tk⟩
theorem gd_of [OG : Org] (W : Ws Pr w K mg base T P k) (XX : Xs Pr w K mg base T P k f st fa fd) {cdv : Value} {A : Around} {outer : List Env} {s : Shared} {H : Hp} {E : XK} {xk : Exn → Prop} (hcd : fd.code = cdv) (hk : (defScope st).kind = .function) (hr : Room k (A.deeper (envOfC f (defScope st) s.heap.objs.size fa cdv)))
    (tk : Takes (cxOf (L2.CX Pr w) Pr w K mg base P.N f (defScope st) fa cdv A outer s H E) (WO K xk)) : Gd (cxOf (L2.CX Pr w) Pr w K mg base P.N f (defScope st) fa cdv A outer s H E) (T.at xk) P (defScope st) := by
  obtain ⟨x1, x2, x3, x4⟩ := XX cdv A outer s H E xk hcd hr tk
  exact ⟨gd0_of W hk hr tk, fun _ => x1, fun _ => x2, x3, x4⟩
theorem bxO_end [OG : Org] {X : Cx} {av : List V} {ρ : Ev} {b : List Stmt} {rw ds : List D} {Pq : Sl → Ev → Prop} (h : BX X av b ρ { nx := fun ρ' => ow0 ρ' fun rw' => Pq (.pd .none) (.ow (some 0) (.lst rw') :: ds.map .pd), rt := fun s ρ' => frzW s fun d => ow0 ρ' fun rw' => Pq (.pd d) (.ow (some 0) (.lst rw') :: ds.map .pd) }) :
    BX X av b ρ (ends (.ow (some 0) (.lst rw) :: ds.map .pd) Pq) := by
  refine bx_frz (R := fun d ρ' => ∃ rw', ρ'[0]? = some (Sl.ow (some 0) (.lst rw')) ∧ Pq (.pd d) (.ow (some 0) (.lst rw') :: ds.map .pd)) (BX.mono h (fun ρ q => ?_) (fun s ρ q => ?_) (fun _ q => q) (fun _ q => q)) fun d ρ' q => ?_
  · obtain ⟨rw', q1, q2⟩ := ow0_of q
    exact ⟨_, back_row q1, q2⟩
  · cases s with
    | un => exact q.elim
    | pd d' => exact ow0_of q
    | ow t o => cases o with
      | lst l => exact ow0_of q
      | dct t ks => cases t <;> exact ow0_of q
      | net ps => exact q.elim
  · obtain ⟨rw', q1, q2⟩ := q
    exact ⟨_, back_row q1, q2⟩
theorem fnP (W : Ws Pr w K mg base T P k) (XX : Xs Pr w K mg base T P k f st fa fd) (F : Fun K f f st fa fd) (S : FnScope P.N ps (defScope st)) (hc : cB P m (defScope st) (defBody st) = some body)
    (hw : ∀ ds Q xk, T.fp f ds Q xk → ds.length = ps.length ∧ wpRun (T.at xk) P.N.length body ds Q) : FnOk Pr w K mg base (L2.CX Pr w) (k + 1) fa fd ps (SpD K (fiP T f)) := by
  refine fn_ok F S (fun as Pq xk h => ?_) (fun cdv A outer s H E vs as Pq xk hcd hr h tk => ?_)
  · obtain ⟨ds, rfl, h⟩ := h
    rw [List.length_map]
    exact (hw _ _ _ h).1
  · obtain ⟨ds, rfl, h⟩ := h
    have z := (hw _ _ _ h).2
    unfold wpRun at z
    have b := (sndB m).2 (gd_of (cdv := cdv) (s := s) (H := H) (outer := outer) (E := E) W XX hcd S.kind hr tk) rfl hc vs _ _ z
    rw [List.length_map]
    refine bx_frz (R := fun d _ => Pq (.pd d) (ds.map .pd)) (BX.mono b (fun ρ q => ⟨_, back_pd, q⟩) (fun _ _ q => q) (fun _ q => q) (fun _ q => q)) fun d ρ' q => ⟨_, back_pd, q⟩
theorem fnOw (W : Ws Pr w K mg base T P k) (XX : Xs Pr w K mg base T P k f st fa fd) (F : Fun K f f st fa fd) (S : FnScope P.N ps (defScope st)) (hc : cB P m (defScope st) (defBody st) = some body)
    (hw : ∀ rw ds Q xk, T.fo f rw ds Q xk → ds.length + 1 = ps.length ∧ wpRunO (T.at xk) P.N.length body rw ds Q) : FnOk Pr w K mg base (L2.CX Pr w) (k + 1) fa fd ps (SpD K (fiO T f)) := by
  refine fn_ok F S (fun as Pq xk h => ?_) (fun cdv A outer s H E vs as Pq xk hcd hr h tk => ?_)
  · obtain ⟨rw, ds, rfl, h⟩ := h
    rw [List.length_cons, List.length_map]
    exact (hw _ _ _ _ h).1
  · obtain ⟨rw, ds, rfl, h⟩ := h
    have z := (hw _ _ _ _ h).2
    unfold wpRunO at z
    have b := (sndB m).2 (gd_of (cdv := cdv) (s := s) (H := H) (outer := outer) (E := E) W XX hcd S.kind hr tk) rfl hc vs _ _ z
    rw [List.length_cons, List.length_map]
    exact bxO_end b
theorem calP (W : Ws Pr w K mg base T P k) (XX : Xs Pr w K mg base T P k f st fa fd) (F : Fun K f f st fa fd) (hm : mg f = some (.ref fa)) (hb : Binds K fd ps []) (S : FnScope P.N ps (defScope st)) (hc : cB P m (defScope st) (defBody st) = some body)
    (hw : ∀ ds Q xk, T.fp f ds Q xk → ds.length = ps.length ∧ wpRun (T.at xk) P.N.length body ds Q) : Cal Pr w K mg base (k + 1) f ps (fiP T f) := Cal.mk' (fnP W XX F S hc hw) F hm hb
theorem calO (W : Ws Pr w K mg base T P k) (XX : Xs Pr w K mg base T P k f st fa fd) (F : Fun K f f st fa fd) (hm : mg f = some (.ref fa)) (hb : Binds K fd ps []) (S : FnScope P.N ps (defScope st)) (hc : cB P m (defScope st) (defBody st) = some body)
    (hw : ∀ rw ds Q xk, T.fo f rw ds Q xk → ds.length + 1 = ps.length ∧ wpRunO (T.at xk) P.N.length body rw ds Q) : Cal Pr w K mg base (k + 1) f ps (fiO T f) := Cal.mk' (fnOw W XX F S hc hw) F hm hb
end
end DW

set_option Elab.async false
set_option autoImplicit false
set_option linter.all false
set_option maxRecDepth 100000
set_option maxHeartbeats 2000000
/-! IRx: what raises, catches, tells -/
namespace DW
open PySem PySem.Spec L2
open PyProof.Rows hiding St
section
variable [CF : Cfg]
/-- a class of errors that stands in the heap, made of one message -/
structure EM (K : PySem.W.Frag) (mg : Str → Option Value) (C : Str) : Prop where
  q : PySem.W.excIn K (CF.cls C) PySem.HandSPX.veTail "ValueError.__new__" = true
  m : mg C = some (.ref (CF.cls C))
  k : PySem.W.keepIn K (.ref (CF.cls C)) = true
  s : PySem.W.subIn K (.ref (CF.cls C)) (.type "BaseException") = some true
  t : PySem.W.typeIn K (.ref (CF.cls C)) = some (.type "type")
/-- what an except clause of A says to the errors of C -/
def Caught (K : PySem.W.Frag) (A : Addr) (C : Str) (b : Bool) : Prop := PySem.W.exmOne K (.ref (CF.cls C)) (.ref A) = some b
variable [OG : Org]
variable {X : Cx} {T : Tb} {C : Str}
theorem raiM_of (h : EM X.K X.mg C) (hc : X.calm = true) (tk : Takes X (WO X.K T.xk)) : RaiM X T C := fun {av ρ Φ e p p2 pos} hg hdb he hED =>
  sx_of (ps_raise hc tk (SkE.pmk_own1 F.excBase_ValueError h.q h.m h.k (raises_own h.s h.t) hg pe_s he hdb)) fun Hs H σ D r k => hED.run r fun v d ρ1 Hs1 H1 st1 r1 rp ⟨_, hx⟩ =>
    ⟨(C, []), ⟨Hs1.st, Hs1.ow, r1.org, r1.same, r1.nt, r1.tab, rfl, rfl⟩, hx⟩
theorem tryOk_of {A : Addr} (hs : X.stack = X.env :: X.outer) (hf : X.env.frame = some X.env.locals) (hm : X.mg C = some (.ref A)) (hc : ∀ x ∈ T.ec, Caught X.K A x true) : TryOk X T C := by
  intro av ρ Φ f a r b k ps p1 p2 p3 p4 p5 p6 p7 p8 hgf hdf hgC hdC hstar hcal h
  obtain ⟨k0, j, hj, hr, Cal⟩ := hcal
  obtain ⟨fa, fd, F, hmf, hk, hb⟩ := Cal.ex
  refine sx_of (ps_try_only (X := X) (c := .ref A) (tb := fun W D σ H => ∀ (pn : List (Addr × Obj)) (xe : Value → Shared → Prop), Takes (X.tr pn xe) W → PassesOwn (model X.prog X.w) X.A X.env xe → sB (X.tr pn xe) [.Expr (.Call (.Name f p1) (a :: r) [] p2) p3] D σ H) hs hf ⟨hgC, hdC, .inl hm⟩ LamX.takes0
    (fun W pn xe tk hp => ⟨fun pins s σ H D I z => z pn xe tk hp pins s I⟩) (fun a' oe cls d pn _ _ => pss_one (ps_ret pe_bl))) fun Hs H σ D r0 kk => ?_
  intro pn xe tk hp
  have hst := hstar pn xe
  refine sB.of (pss_one (ps_expr (pe_call (X := X.tr pn xe) (E := fun cls d H' => PySem.W.exmOne X.K cls (.ref A) = some true ∧ D.rt (.bl b) H') F (hr.mono hj) hgf hmf hk hb .nil (passes_call tk fun cls d σ' H' ⟨z1, z2⟩ => ⟨true, z1, fun _ a _ => z2, fun z => (by cases z)⟩) pa_s hdf hst.1 hst.2) rfl)) ?_
  have ha := h pn xe hp
  refine ha Hs H σ _ r0 fun vs ds ρ1 Hs1 H1 st r1 ra q => ?_
  show SpD X.K (fiP T f) (vs ++ []) H1 _ _
  rw [List.append_nil]
  refine ⟨G0 Hs1.st, ds.map .pd, fun _ _ => Φ.nx ρ1, _, rep_pd r1.same r1.nt r1.tab ra, ⟨ds, rfl, q⟩, fun v s as' G' H' s2 r2 hv q2 => ?_, fun y cls d H' ho ⟨hy1, hy2⟩ => ?_⟩
  · obtain ⟨r3, s3⟩ := r1.over s2.toCore r2.same r2.nt r2.tab fun a ⟨_, z⟩ => z.elim
    exact kk.nx σ ρ1 _ H' (st.trans s3) r3 q2
  · obtain ⟨Hs', O', c, sm, nt, tb, er⟩ := ho
    obtain ⟨r3, s3⟩ := r1.over c sm nt tb fun a ⟨_, z⟩ => z.elim
    refine ⟨?_, kk.rt (.bl b) (.pd (.bool b)) σ ρ1 _ H' (st.trans s3) r3 (.bl b) hy2⟩
    rw [er.1]
    exact hc _ hy1
/-- all but the tables stays -/
theorem Rep.extn {K : PySem.W.Frag} {av : List V} {G : Gh} {H H1 : Hp} {ρ : Ev} {σ : St} (r : Rep K av G H ρ σ) (e : LamX.ExtN H H1) (t : LamX.Tabs CF.T H1) : Rep K av G H1 ρ σ ∧ Step G H G H1 := by
  have co : Core G.st H G.ow G.st H1 G.ow := ⟨Same.refl _, fun _ _ z => .inl z, fun b o z _ nt => e b o z nt, fun _ z => .inl z, fun b z o q => by
    refine Classical.byContradiction fun n => ?_
    obtain ⟨ps, y⟩ := z o (e b o q fun ps y => n ⟨ps, y⟩)
    exact n ⟨ps, y⟩⟩
  refine ⟨⟨fun b o z => e b o (r.same b o z) fun ps y => r.nt b ps (by rw [z, y]), r.len, fun i s q => ?_, r.out, r.dis, r.fre, t, r.nt, r.org.trans co⟩, ⟨co⟩⟩
  have z := r.sl i s q
  cases s with
  | un => trivial
  | pd d => exact z
  | ow t o =>
    obtain ⟨a, h1, h2, h3⟩ := z
    exact ⟨a, h1, h2.mono (Same.refl _) fun b _ u hu n => e b u hu n.1, h3⟩
/-- what is wanted of an error that is told -/
def WH (K : PySem.W.Frag) (tx : Exn → Option D) (cls : Value) (d : Option Addr) (H : Hp) (Q : VK) : Prop :=
  ∃ y dd Hs, tx y = some dd ∧ Same Hs H ∧ ERep K Hs H y cls d ∧ ∀ v Hs' H', Grow Hs H Hs' H' → Rp K Hs' v dd → Q v H'
def TTx (K : PySem.W.Frag) (tx : Exn → Option D) : (XK → Hp → VK → Prop) → Hp → VK → Prop := fun tl H Q => tl (fun cls d H' => WH K tx cls d H' Q) H Q
theorem lam_gd {P : Prm} {sc : Scope} (g : Gd0 X T P sc) {A : Around} {outer : List Env} {s : Shared} {H : Hp} {E : XK} {lsc : Scope} {f c' : Addr} {k : Nat} (hr : Room k (A.deeper (LamX.lamEnv X lsc s.heap.objs.size f c'))) (L : LamX.LamS sc lsc)
    (hc : ∀ g ∈ P.F, ∃ j ps, j ≤ k ∧ Cal X.prog X.w X.K X.mg X.base j g ps (fiP T g)) (ho : ∀ g ∈ P.O, ∃ j ps, j ≤ k ∧ Cal X.prog X.w X.K X.mg X.base j g ps (fiO T g)) : Gd0 (LamX.lamCx X A outer s H E lsc f c') T P.qt lsc :=
  ⟨g.N, g.nd, L.kind, fun _ h => h, fun _ h => h, fun _ h => .inl h, fun _ h => h, fun x h => (by
    unfold DW.locB at h
    split at h
    · exact absurd rfl (L.own _ (PySem.mem_of_lookup (by assumption))).1
    · exact absurd rfl (L.own _ (PySem.mem_of_lookup (by assumption))).2
    · cases h), rfl, by
    have := hr.un
    show (A.deeper (LamX.lamEnv X lsc s.heap.objs.size f c')).units + 65 < cLine
    omega, fun g hg => by
    obtain ⟨j, qs, hj, C⟩ := hc g hg
    exact ⟨j, k, qs, hj, hr, C⟩, fun g hg => by
    obtain ⟨j, qs, hj, C⟩ := ho g hg
    exact ⟨j, k, qs, hj, hr, C⟩, g.blt, g.mat, g.gl, passes_of rfl, fun z => (by cases z)⟩
theorem tolOk_of {P : Prm} {sc : Scope} {x a : Str} {ga c P0 : Addr} {k : Nat} {pg : Arguments} {bg : List Stmt} {sg : Scope} {dV kV doc pm cdv ct oc : Value} {an od : Option Addr} {osl : Array (Option Value)} {Ng : List Str}
    (g : Gd0 X T P sc) (hsc : X.env.scope = sc) (hm : X.mg x = some (.ref ga)) (hk : PySem.W.keepIn X.K (.ref ga) = true) (lk : X.K.lookup ga = some ⟨oc, od, .func (PySem.W.fnOf x x pg bg sg dV kV doc pm an cdv ct), osl⟩) (hcg : PySem.W.codeIn X.K cdv x = true)
    (hb : L2.Binds X.K (PySem.W.fnOf x x pg bg sg dV kV doc pm an cdv ct) [a] []) (Sg : FnScope Ng [a] sg) (hNg : Ng[0]? = some a) (hva : Vis sg a) (hG : LamX.GivesTo X Ng x sg ga cdv bg a (X.env.qual ++ "<lambda>") (TTx X.K T.tx))
    (TB : LamX.TabB X.base X.mg c P0) (hcode : X.env.code = .ref c) (hT : CF.T = [(P0, X.env.qual ++ "<lambda>")]) (hr : Room (k + 2) X.A) (htv : ∀ d, T.tv d = d)
    (hc : ∀ g ∈ P.F, ∃ j ps, j ≤ k ∧ Cal X.prog X.w X.K X.mg X.base j g ps (fiP T g)) (ho : ∀ g ∈ P.O, ∃ j ps, j ≤ k ∧ Cal X.prog X.w X.K X.mg X.base j g ps (fiO T g))
    (hd : (a == ("__debug__" : Str)) = false := by decide) (hcd : (a == ("__classdict__" : Str)) = false := by decide) : TolOk X T P sc x := by
  intro av ρ Q g' a' r lsc p1 p2 p3 p4 p5 hg hdb hlam hgg hgF h hst
  have L : LamX.LamS X.env.scope lsc := by
    rw [hsc]
    exact LamX.lamS_by hlam
  refine ex_of (LamX.pe_lamcall (T := CF.T) (TT := TTx X.K T.tx) (k := k) (t := fun E σ H Q => ∀ (A : Around) (outer : List Env) (s : Shared) (H0 : Hp) (f c' : Addr), Room k (A.deeper (LamX.lamEnv X lsc s.heap.objs.size f c')) → sE (LamX.lamCx X A outer s H0 E lsc f c') (.Call (.Name g' p3) (a' :: r) [] p2) σ H Q)
    hg hm hk lk hcg hb Sg hNg hva hG TB hcode (by rw [hT]; exact List.mem_singleton_self _) (fun p hp _ => by rw [hT] at hp; rw [List.mem_singleton.mp hp]) hr L rfl (fun _ _ _ _ _ => rfl)
    (fun A outer s H E f c' hr2 => ⟨fun pins s' σ H' Q I z => z A outer s H f c' hr2 pins s' I⟩) hdb hd hcd) fun Hs H σ R r0 kk => ⟨r0.tab, fun H1 eN T1 => ?_⟩
  obtain ⟨r1, st1⟩ := r0.extn eN T1
  intro A outer s H0 f c' hr2
  have G : Gd0 (LamX.lamCx X A outer s H0 (fun cls d H' => WH X.K T.tx cls d H' R) lsc f c') T P.qt lsc := lam_gd g hr2 (by rw [← hsc]; exact L) hc ho
  obtain ⟨j, ps, hj, C⟩ := hc g' hgF
  obtain ⟨fa, fd, F, hmf, hkf, hbf⟩ := C.ex
  obtain ⟨q1, q2, q3, q4⟩ := G.up.gloB hgg
  refine sE.of (pe_call (X := LamX.lamCx X A outer s H0 (fun cls d H' => WH X.K T.tx cls d H' R) lsc f c') (E := fun cls d H' => WH X.K T.tx cls d H' R) F (hr2.mono hj) q1 hmf hkf hbf .nil (passes_call (takes_of rfl rfl rfl rfl) fun _ _ _ _ z => z) pa_s q2 (hst _).1 (hst _).2) ?_
  refine h _ G Hs H1 σ _ r1 fun vs ds ρ1 Hs2 H2 st2 r2 ra q => ?_
  show SpD X.K (fiP T g') (vs ++ []) H2 _ _
  rw [List.append_nil]
  refine ⟨G0 Hs2.st, ds.map .pd, fun s _ => (match s with
    | .pd d => Q (.pd (T.tv d)) ρ1
    | _ => False), _, rep_pd r2.same r2.nt r2.tab ra, ⟨ds, rfl, q⟩, fun v s as' G' H' s2 r2' hv q2 => ?_, fun y cls d H' ho hy => ?_⟩
  · obtain ⟨r3, s3⟩ := r2.over s2.toCore r2'.same r2'.nt r2'.tab fun a ⟨_, z⟩ => z.elim
    cases s with
    | un => exact hv.elim
    | ow t o => exact q2.elim
    | pd d =>
      have q2 : Q (.pd (T.tv d)) ρ1 := q2
      rw [htv] at q2
      exact kk v (.pd d) ρ1 _ H' ((st1.trans st2).trans s3) r3 hv q2
  · obtain ⟨Hs', O', c, sm, nt, tb, er⟩ := ho
    obtain ⟨r3, s3⟩ := r2.over c sm nt tb fun a ⟨_, z⟩ => z.elim
    cases e : T.tx y with
    | none =>
      rw [e] at hy
      exact hy.elim
    | some dd =>
      rw [e] at hy
      exact ⟨y, dd, Hs', e, sm, er, fun v Hs'' H'' gr rp => kk v (.pd dd) ρ1 _ H'' (((st1.trans st2).trans s3).trans gr.step) (r3.grow gr) rp hy⟩
/-- the context of the except suite of the def that tells -/
abbrev telCx (X : Cx) (Ng : List Str) (x : Str) (sg : Scope) (g : Addr) (cdg : Value) (s : Shared) (H0 : Hp) (a : Addr) (oe : Obj) (pn : List (Addr × Obj)) : Cx :=
  (cxOf C8.CX0 X.prog X.w X.K X.mg X.base Ng x sg g cdg X.A X.stack s H0 C8.E0).nox.suite a ((a, oe) :: pn)
/-- what is handed back of a caught error -/
def Tells (X : Cx) (tx : Exn → Option D) (Ng : List Str) (x : Str) (sg : Scope) (g : Addr) (cdg : Value) (ex : Expr) : Prop :=
  ∀ (s : Shared) (H0 : Hp) (y : Exn) (dd : D) (Hs : Hp) (cls : Value) (d : Option Addr) (a : Addr) (oe : Obj) (pn : List (Addr × Obj)) (σ : L2.St) (H : Hp) (R : VK), tx y = some dd → ERep X.K Hs H y cls d → Same Hs H → Zc cls d oe → (∃ vs, oe.data = .fields vs) → σ[1]? = some (some (.ref a)) →
    (∀ v Hs' H', Grow Hs H Hs' H' → Rp X.K Hs' v dd → R v H') → sE (telCx X Ng x sg g cdg s H0 a oe pn) ex σ H R
theorem gives_as {tx : Exn → Option D} {Ng : List Str} {x a e C q : Str} {sg : Scope} {g CS : Addr} {cdg : Value} {ex : Expr} {p1 p2 p3 p4 p6 p7 p8 : Pos} (hN : Ng.Nodup) (hi : Ng[1]? = some e) (hle : sg.names.lookup e = some .local) (hC : sg.names.lookup C = some .globalImplicit) (hm : X.mg C = some (.ref CS))
    (hdC : (C == ("__debug__" : Str)) = false) (h0 : ∀ f : Addr, (L2.start Ng [V.ref f])[0]? = some (some (V.ref f))) (hx : ∀ y dd, tx y = some dd → Caught X.K CS y.1 true) (hex : Tells X tx Ng x sg g cdg ex) :
    LamX.GivesTo X Ng x sg g cdg [.Try [.Return (some (.Call (.Name a p1) [] [] p2)) p3] [.ExceptHandler (some (.Name C p4)) (some e) [.Return (some ex) p6] p7] [] [] p8] a q (TTx X.K tx) := by
  intro f c' s H Q tl act hc h
  have hgl : Gl (cxOf C8.CX0 X.prog X.w X.K X.mg X.base Ng x sg g cdg X.A X.stack s H C8.E0).nox C := hC
  have hlt : 1 < Ng.length := (List.getElem?_eq_some_iff.mp hi).1
  refine ⟨_, pss_one (ps_try_as (X := (cxOf C8.CX0 X.prog X.w X.K X.mg X.base Ng x sg g cdg X.A X.stack s H C8.E0).nox) (i := 1) (c := .ref CS)
      (tb := fun W D σ H => ∃ Ech : XK, (∀ cls d (σ' : L2.St) H', Ech cls d H' → σ'.length = Ng.length → W cls d σ' H') ∧ σ[0]? = some (some (.ref f)) ∧ H c' = some (LamX.CodeO c' q) ∧ tl Ech H D.rt)
      (ts := fun b cls d D σ H1 => ∀ oe pn, Zc cls d oe → (∃ vs, oe.data = .fields vs) → sB (telCx X Ng x sg g cdg s H b oe pn) [.Return (some ex) p6] D σ H1)
      rfl rfl hN hi (show (sg.names.lookup e) = some .local from hle) ⟨hgl, hdC, .inl hm⟩ LamX.takes0 (fun W pn xe tk _ => ?_) (fun b oe cls d pn hz hf => ⟨fun pins s' σ H1 D I z => z oe pn hz hf pins s' I⟩)), ?_⟩
  · refine ⟨fun pins s' σ H' D I h' => ?_⟩
    obtain ⟨Ech, hW, h1, h2, h3⟩ := h'
    have tk2 : Takes ((cxOf C8.CX0 X.prog X.w X.K X.mg X.base Ng x sg g cdg X.A X.stack s H C8.E0).tr pn xe) (fun cls d σ H => σ.length = Ng.length → W cls d σ H) := fun u s' ⟨a, B, sI, pins, σ, H, cls, d, e, I, nb, up, sky, na, os, ag, w⟩ =>
      tk u s' ⟨a, B, sI, pins, σ, H, cls, d, e, I, nb, up, sky, na, os, ag, w I.len⟩
    have hp := act (fun cls d σ H => σ.length = Ng.length → W cls d σ H) pn xe Ech p1 p2 tk2 fun cls d σ' H' z l => hW cls d σ' H' z l
    have hq := pss_one (ps_ret (pos := p3) hp)
    exact hq.run pins s' σ H' D I ⟨h1, h2, h3⟩
  · refine ⟨fun cls d H' => WH X.K tx cls d H' Q, fun cls d σ' H' ⟨y, dd, Hs, e1, sm, er, k⟩ hl => ⟨true, ?_, fun _ b _ oe pn hz hf => ?_, fun z => (by cases z)⟩, h0 f, hc, h⟩
    · have z := hx y dd e1
      unfold Caught at z
      rw [er.1]
      exact z
    · exact sB.of (pss_one (ps_ret pe_s)) (hex s H y dd Hs cls d b oe pn _ H' Q e1 er sm hz hf (by rw [List.getElem?_set_self (by rw [hl]; exact hlt)]) k)
/-- u if isinstance(e, C) else v: of an error with a message -/
theorem tel_is {Ng : List Str} {x e C : Str} {sg : Scope} {g CA DA : Addr} {cdg : Value} {u v : Expr} {p p1 p2 p3 p4 : Pos} {s : Shared} {H0 : Hp} {a : Addr} {oe : Obj} {pn : List (Addr × Obj)} {σ : L2.St} {H : Hp} {R : VK} (b : Bool) (hi : Ng[1]? = some e) (hle : sg.names.lookup e = some .local) (hlI : sg.names.lookup ("isinstance" : Str) = some .globalImplicit) (hlC : sg.names.lookup C = some .globalImplicit)
    (hmI : X.mg "isinstance" = none) (hmC : X.mg C = some (.ref CA)) (E : ExcC X.K DA) (hz : Zc (.ref DA) none oe) (hf : ∃ vs, oe.data = .fields vs) (hk : PySem.W.kitOne X.K (.ref DA) (.ref CA) = some b) (h1 : σ[1]? = some (some (.ref a)))
    (he1 : (e == ("__debug__" : Str)) = false) (he2 : (e == ("__classdict__" : Str)) = false) (hC : (C == ("__debug__" : Str)) = false) (h : if b = true then sE (telCx X Ng x sg g cdg s H0 a oe pn) u σ H R else sE (telCx X Ng x sg g cdg s H0 a oe pn) v σ H R) :
    sE (telCx X Ng x sg g cdg s H0 a oe pn) (.IfExp (.Call (.Name "isinstance" p1) [.Name e p2, .Name C p3] [] p4) u v p) σ H R := by
  have hgI : Gl (telCx X Ng x sg g cdg s H0 a oe pn) "isinstance" := hlI
  have hgC : Gl (telCx X Ng x sg g cdg s H0 a oe pn) C := hlC
  refine sE.of (pe_ifExp (pt_val (pe_callB (X := telCx X Ng x sg g cdg s H0 a oe pn) (call_isE E hz hf) hgI hmI (by decide +kernel) (pa_cons (pe_var (i := 1) hi (.inl hle) he1 he2) (pa_cons (pe_glob (v := .ref CA) hgC hmC rfl hC) pa_nil rfl) rfl) (by decide) (by decide) rfl rfl)) pe_s pe_s) ?_
  exact ⟨.ref a, h1, .ref CA, .ref CA, b, rfl, fun _ z => z, hk, b, rfl, h⟩
end
end DW

set_option Elab.async false
set_option autoImplicit false
set_option linter.all false
set_option maxRecDepth 100000
/-! WP0: helps for showing what holds by data alone -/
namespace DW
open PySem PySem.Spec L2
open PyProof.Rows hiding St
abbrev Ct := List D → (D → Prop) → (Exn → Prop) → Prop
theorem loop_i {α : Type} {step : D → Ev → Ph → Prop} {Φ : Ph} (l : List α) (enc : α → D) (I : List α → Ev → Prop) {ρ : Ev} (h0 : I [] ρ)
    (ht : ∀ (pre : List α) (x : α) (post : List α) (ρ : Ev) (Φ' : Ph), l = pre ++ x :: post → I pre ρ → (∀ ρ', I (pre ++ [x]) ρ' → Φ'.nx ρ') → (∀ ρ', I (pre ++ [x]) ρ' → Φ'.ct ρ') → Φ'.rt = Φ.rt → Φ'.bk = Φ.nx → step (enc x) ρ Φ')
    (hd : ∀ ρ, I l ρ → Φ.nx ρ) : loopW step (l.map enc) ρ Φ := by
  have go : ∀ (post pre : List α) (ρ : Ev), l = pre ++ post → I pre ρ → loopW step (post.map enc) ρ Φ := by
    intro post
    induction post with
    | nil =>
      intro pre ρ e h
      rw [List.append_nil] at e
      subst e
      exact hd ρ h
    | cons x post ih =>
      intro pre ρ e h
      have k : ∀ ρ', I (pre ++ [x]) ρ' → loopW step (post.map enc) ρ' Φ := fun ρ' h' => ih (pre ++ [x]) ρ' (by rw [e]; simp) h'
      exact ht pre x post ρ _ e h k k rfl rfl
  exact go l [] ρ rfl h0
theorem lc_i {α : Type} {turn : D → Ev → (Option D → Ev → Prop) → Prop} {Q : List D → Ev → Prop} (l : List α) (enc : α → D) (g : α → Option D) (ρ : Ev)
    (ht : ∀ x ∈ l, ∀ K : Option D → Ev → Prop, K (g x) ρ → turn (enc x) ρ K) (q : Q (l.filterMap g) ρ) : lcW turn (l.map enc) [] ρ Q := by
  have go : ∀ (post : List α) (acc : List D), (∀ x ∈ post, x ∈ l) → Q (acc ++ post.filterMap g) ρ → lcW turn (post.map enc) acc ρ Q := by
    intro post
    induction post with
    | nil =>
      intro acc _ h
      simpa [lcW] using h
    | cons x post ih =>
      intro acc hm h
      refine ht x (hm x List.mem_cons_self) _ (ih _ (fun y hy => hm y (List.mem_cons_of_mem _ hy)) ?_)
      rw [List.filterMap_cons] at h
      cases e : g x with
      | none => simpa [e] using h
      | some d => simpa [e] using h
  exact go l [] (fun _ h => h) (by simpa using q)
/-- every item gives one -/
theorem lc_m {α : Type} {turn : D → Ev → (Option D → Ev → Prop) → Prop} {Q : List D → Ev → Prop} (l : List α) (enc : α → D) (g : α → D) (ρ : Ev)
    (ht : ∀ x ∈ l, ∀ K : Option D → Ev → Prop, K (some (g x)) ρ → turn (enc x) ρ K) (q : Q (l.map g) ρ) : lcW turn (l.map enc) [] ρ Q :=
  lc_i l enc (fun x => some (g x)) ρ ht (by rw [show l.filterMap (fun x => some (g x)) = l.map g from by induction l <;> simp_all]; exact q)
def isIntD : D → Bool
  | .int _ => true
  | _ => false
def isTupD : D → Bool
  | .tuple _ => true
  | _ => false
def isBoolD : D → Bool
  | .bool _ => true
  | _ => false

theorem at_nat {α : Type} {l : List α} {n : Nat} : L2.atI l (n : Int) = l[n]? := by
  cases e : l[n]? with
  | some d => exact atI_nat e
  | none =>
    have h : l.length ≤ n := List.getElem?_eq_none_iff.mp e
    unfold L2.atI L2.ixN
    rw [if_pos (by omega), if_neg (by omega)]
    rfl
theorem at0 {α : Type} {a : α} {l : List α} : L2.atI (a :: l) 0 = some a := at_nat (n := 0)
theorem at1 {α : Type} {a b : α} {l : List α} : L2.atI (a :: b :: l) 1 = some b := at_nat (n := 1)
theorem at2 {α : Type} {a b c : α} {l : List α} : L2.atI (a :: b :: c :: l) 2 = some c := at_nat (n := 2)
theorem at3 {α : Type} {a b c d : α} {l : List α} : L2.atI (a :: b :: c :: d :: l) 3 = some d := at_nat (n := 3)
theorem at4 {α : Type} {a b c d e : α} {l : List α} : L2.atI (a :: b :: c :: d :: e :: l) 4 = some e := at_nat (n := 4)
theorem atE {α : Type} {k : Int} : L2.atI ([] : List α) k = none := by
  unfold L2.atI L2.ixN
  cases (if 0 ≤ k then (if k < (([] : List α).length : Int) then some k.toNat else none) else if -((([] : List α).length : Nat) : Int) ≤ k then some (k + (([] : List α).length : Nat)).toNat else none) <;> rfl
theorem ixN0 {n : Nat} (h : 0 < n) : L2.ixN n 0 = some 0 := by
  unfold L2.ixN
  rw [if_pos (by omega), if_pos (by omega)]
  rfl
theorem ix40 : L2.ixN 4 0 = some 0 := by decide
theorem ix41 : L2.ixN 4 1 = some 1 := by decide
theorem ix42 : L2.ixN 4 2 = some 2 := by decide
theorem ix43 : L2.ixN 4 3 = some 3 := by decide
end DW

set_option Elab.async false
set_option autoImplicit false
set_option linter.all false
set_option maxRecDepth 100000
/-! WP1: what is wanted stands where simp does not look, until the operands are known -/
namespace DW
open PySem PySem.Spec L2
class KW2 (α β : Type) where
  k : α → β → Prop
def binI (o : Operator) (x y : D) [K : KW Sl] : Prop := binW o x y K.k
def binK (o : Operator) (x y : D) (K : Sl → Prop) : Prop := @binI o x y ⟨K⟩
def augI (o : Operator) (x y : D) [K : KW D] : Prop := augW o x y K.k
def augK (o : Operator) (x y : D) (K : D → Prop) : Prop := @augI o x y ⟨K⟩
def cmpI (o : CmpOp) (x y : D) [K : KW Bool] : Prop := cmpW o x y K.k
def cmpK (o : CmpOp) (x y : D) (K : Bool → Prop) : Prop := @cmpI o x y ⟨K⟩
def truI (x : D) [K : KW Bool] : Prop := truW x K.k
def truK (x : D) (K : Bool → Prop) : Prop := @truI x ⟨K⟩
def isiI (x : D) (t : Ty) [K : KW Bool] : Prop := isiW x t K.k
def isiK (x : D) (t : Ty) (K : Bool → Prop) : Prop := @isiI x t ⟨K⟩
def isjI (x : D) (t u : Ty) [K : KW Bool] : Prop := isjW x t u K.k
def isjK (x : D) (t u : Ty) (K : Bool → Prop) : Prop := @isjI x t u ⟨K⟩
def bltI (x : Bn) (ds : List D) [K : KW Sl] : Prop := bltW x ds K.k
def bltK (x : Bn) (ds : List D) (K : Sl → Prop) : Prop := @bltI x ds ⟨K⟩
def frzI (s : Sl) [K : KW D] : Prop := frzW s K.k
def frzK (s : Sl) (K : D → Prop) : Prop := @frzI s ⟨K⟩
def fmI (d : D) [K : KW Str] : Prop := fmW d K.k
def fmK (d : D) (K : Str → Prop) : Prop := @fmI d ⟨K⟩
def fpI (T : Tb) (f : Str) (ds : List D) [K : KW D] : Prop := T.fp f ds K.k T.xk
def fpK (T : Tb) (f : Str) (ds : List D) (K : D → Prop) : Prop := @fpI T f ds ⟨K⟩
def foI (T : Tb) (f : Str) (rw ds : List D) [K : KW2 D (List D)] : Prop := T.fo f rw ds K.k T.xk
def foK (T : Tb) (f : Str) (rw ds : List D) (K : D → List D → Prop) : Prop := @foI T f rw ds ⟨K⟩
theorem fpI_of {T : Tb} {f : Str} {c : List D → (D → Prop) → (Exn → Prop) → Prop} (h : T.fp f = c) {ds : List D} {K : D → Prop} : @fpI T f ds ⟨K⟩ = c ds K T.xk := by subst h; rfl
theorem foI_of {T : Tb} {f : Str} {c : List D → List D → (D → List D → Prop) → (Exn → Prop) → Prop} (h : T.fo f = c) {rw ds : List D} {K : D → List D → Prop} : @foI T f rw ds ⟨K⟩ = c rw ds K T.xk := by subst h; rfl
/-- .. where nothing is raised -/
def fqI (T : Tb) (f : Str) (ds : List D) [K : KW D] : Prop := T.fp f ds K.k fun _ => False
def fqK (T : Tb) (f : Str) (ds : List D) (K : D → Prop) : Prop := @fqI T f ds ⟨K⟩
def oqI (T : Tb) (f : Str) (rw ds : List D) [K : KW2 D (List D)] : Prop := T.fo f rw ds K.k fun _ => False
def oqK (T : Tb) (f : Str) (rw ds : List D) (K : D → List D → Prop) : Prop := @oqI T f rw ds ⟨K⟩
/-- .. told -/
def ftI (T : Tb) (f : Str) (ds : List D) [K : KW D] : Prop := T.fp f ds (fun d => K.k (T.tv d)) fun x => match T.tx x with
  | some d => K.k d
  | none => False
def ftK (T : Tb) (f : Str) (ds : List D) (K : D → Prop) : Prop := @ftI T f ds ⟨K⟩
/-- .. tried -/
def fyI (T : Tb) (f : Str) (ds : List D) [K : KW D] [E : KW Exn] : Prop := T.fp f ds K.k E.k
def fyK (T : Tb) (f : Str) (ds : List D) (K : D → Prop) (E : Exn → Prop) : Prop := @fyI T f ds ⟨K⟩ ⟨E⟩
theorem fqI_of {T : Tb} {f : Str} {c : List D → (D → Prop) → (Exn → Prop) → Prop} (h : T.fp f = c) {ds : List D} {K : D → Prop} : @fqI T f ds ⟨K⟩ = c ds K fun _ => False := by subst h; rfl
theorem oqI_of {T : Tb} {f : Str} {c : List D → List D → (D → List D → Prop) → (Exn → Prop) → Prop} (h : T.fo f = c) {rw ds : List D} {K : D → List D → Prop} : @oqI T f rw ds ⟨K⟩ = c rw ds K fun _ => False := by subst h; rfl
theorem ftI_of {T : Tb} {f : Str} {c : List D → (D → Prop) → (Exn → Prop) → Prop} (h : T.fp f = c) {ds : List D} {K : D → Prop} : @ftI T f ds ⟨K⟩ = c ds (fun d => K (T.tv d)) fun x => match T.tx x with
  | some d => K d
  | none => False := by subst h; rfl
theorem fyI_of {T : Tb} {f : Str} {c : List D → (D → Prop) → (Exn → Prop) → Prop} (h : T.fp f = c) {ds : List D} {K : D → Prop} {E : Exn → Prop} : @fyI T f ds ⟨K⟩ ⟨E⟩ = c ds K E := by subst h; rfl
section
variable {K : Sl → Prop} {KD : D → Prop} {KB : Bool → Prop} {i j : Int} {b c : Bool} {xs ys l : List D} {d f : D} {s : Str}
theorem nrm_pd : nrm (.pd d) = .pd d := rfl
theorem nrm_ow {t : Option Nat} {o : MO} : nrm (.ow t o) = .ow none o := rfl
theorem nrm_un : nrm .un = .un := rfl
theorem frz_pd : @frzI (.pd d) ⟨KD⟩ = KD d := rfl
theorem frz_ow {t : Option Nat} : @frzI (.ow t (.lst l)) ⟨KD⟩ = KD (.list l) := rfl
theorem frz_dk {t : Option Nat} {l : List (D × D)} : @frzI (.ow t (.dct false l)) ⟨KD⟩ = KD (.dict l) := rfl
theorem frz_dt {t : Option Nat} {l : List (D × D)} : @frzI (.ow t (.dct true l)) ⟨KD⟩ = KD (tdict l) := rfl
theorem frz_un : @frzI .un ⟨KD⟩ = False := rfl
theorem bi_add : @binI .Add (.int i) (.int j) ⟨K⟩ = K (.pd (.int (i + j))) := rfl
theorem bi_addL : @binI .Add (.list xs) (.list ys) ⟨K⟩ = (xs.length + ys.length ≤ 100000 ∧ K (.ow none (.lst (xs ++ ys)))) := rfl
theorem bi_addT : @binI .Add (.tuple xs) (.tuple ys) ⟨K⟩ = (xs.length + ys.length ≤ 100000 ∧ K (.pd (.tuple (xs ++ ys)))) := rfl
theorem bi_sub : @binI .Sub (.int i) (.int j) ⟨K⟩ = K (.pd (.int (i - j))) := rfl
theorem bi_mul : @binI .Mult (.int i) (.int j) ⟨K⟩ = (CMul i j ∧ K (.pd (.int (i * j)))) := rfl
theorem bi_rep : @binI .Mult (.list xs) (.int i) ⟨K⟩ = (-(2 ^ 63) ≤ i ∧ i < 2 ^ 63 ∧ xs.length * i.toNat ≤ 100000 ∧ K (.ow none (.lst (List.replicate i.toNat xs).flatten))) := rfl
theorem bi_repT : @binI .Mult (.tuple xs) (.int i) ⟨K⟩ = (xs ≠ [] ∧ -(2 ^ 63) ≤ i ∧ i ≤ 1000 ∧ xs.length ≤ 1000 ∧ K (.pd (.tuple (List.replicate i.toNat xs).flatten))) := rfl
theorem bi_shl : @binI .LShift (.int i) (.int j) ⟨K⟩ = (CPow i j ∧ K (.pd (.int (i * 2 ^ j.toNat)))) := rfl
theorem bi_shr : @binI .RShift (.int i) (.int j) ⟨K⟩ = (0 ≤ j ∧ K (.pd (.int (i / 2 ^ j.toNat)))) := rfl
theorem bi_band : @binI .BitAnd (.int i) (.int j) ⟨K⟩ = K (.pd (.int (Builtin.bitAnd i j))) := rfl
theorem bi_bor : @binI .BitOr (.int i) (.int j) ⟨K⟩ = K (.pd (.int (Builtin.bitOr i j))) := rfl
theorem bi_mod : @binI .Mod (.int i) (.int j) ⟨K⟩ = (0 < j ∧ K (.pd (.int (i % j)))) := rfl
theorem bi_fdiv : @binI .FloorDiv (.int i) (.int j) ⟨K⟩ = (CDiv i j ∧ K (.pd (.int (i / j)))) := rfl
theorem bi_pow : @binI .Pow (.int i) (.int j) ⟨K⟩ = (CPow i j ∧ K (.pd (.int (i ^ j.toNat)))) := rfl
theorem au_add : @augI .Add (.int i) (.int j) ⟨KD⟩ = KD (.int (i + j)) := rfl
theorem au_sub : @augI .Sub (.int i) (.int j) ⟨KD⟩ = KD (.int (i - j)) := rfl
theorem ci_lt : @cmpI .Lt (.int i) (.int j) ⟨KB⟩ = KB (decide (i < j)) := rfl
theorem ci_le : @cmpI .LtE (.int i) (.int j) ⟨KB⟩ = KB (decide (i ≤ j)) := rfl
theorem ci_gt : @cmpI .Gt (.int i) (.int j) ⟨KB⟩ = KB (decide (j < i)) := rfl
theorem ci_ge : @cmpI .GtE (.int i) (.int j) ⟨KB⟩ = KB (decide (j ≤ i)) := rfl
theorem ci_eq : @cmpI .Eq (.int i) (.int j) ⟨KB⟩ = KB (decide (i = j)) := rfl
theorem ci_ne : @cmpI .NotEq (.int i) (.int j) ⟨KB⟩ = KB (!decide (i = j)) := rfl
theorem ci_eqB : @cmpI .Eq (.bool b) (.bool c) ⟨KB⟩ = KB (decide (b = c)) := rfl
theorem ci_neB : @cmpI .NotEq (.bool b) (.bool c) ⟨KB⟩ = KB (!decide (b = c)) := rfl
theorem ci_eqT : @cmpI .Eq (.tuple xs) f ⟨KB⟩ = (SeqAt.shaped (.tuple xs) = true ∧ SeqAt.shaped f = true ∧ KB (PyData.eqv (.tuple xs) f)) := by cases f <;> rfl
theorem ci_eqL : @cmpI .Eq (.list xs) f ⟨KB⟩ = (SeqAt.shaped (.list xs) = true ∧ SeqAt.shaped f = true ∧ KB (PyData.eqv (.list xs) f)) := by cases f <;> rfl
theorem ci_eqN : @cmpI .Eq .none f ⟨KB⟩ = (SeqAt.shaped .none = true ∧ SeqAt.shaped f = true ∧ KB (PyData.eqv .none f)) := by cases f <;> rfl
theorem ci_eqS : @cmpI .Eq (.str s) f ⟨KB⟩ = (SeqAt.shaped (.str s) = true ∧ SeqAt.shaped f = true ∧ KB (PyData.eqv (.str s) f)) := by cases f <;> rfl
theorem ci_neT : @cmpI .NotEq (.tuple xs) f ⟨KB⟩ = (SeqAt.shaped (.tuple xs) = true ∧ SeqAt.shaped f = true ∧ KB (!PyData.eqv (.tuple xs) f)) := by cases f <;> rfl
theorem ci_neL : @cmpI .NotEq (.list xs) f ⟨KB⟩ = (SeqAt.shaped (.list xs) = true ∧ SeqAt.shaped f = true ∧ KB (!PyData.eqv (.list xs) f)) := by cases f <;> rfl
theorem ci_neN : @cmpI .NotEq .none f ⟨KB⟩ = (SeqAt.shaped .none = true ∧ SeqAt.shaped f = true ∧ KB (!PyData.eqv .none f)) := by cases f <;> rfl
theorem ci_neS : @cmpI .NotEq (.str s) f ⟨KB⟩ = (SeqAt.shaped (.str s) = true ∧ SeqAt.shaped f = true ∧ KB (!PyData.eqv (.str s) f)) := by cases f <;> rfl
theorem ci_is : @cmpI .Is d .none ⟨KB⟩ = KB (isNoneD d) := by cases d <;> rfl
theorem ci_isB {a b : Bool} : @cmpI .Is (.bool a) (.bool b) ⟨KB⟩ = KB (decide (a = b)) := rfl
theorem ci_isnB {a b : Bool} : @cmpI .IsNot (.bool a) (.bool b) ⟨KB⟩ = KB (!decide (a = b)) := rfl
theorem ci_isn : @cmpI .IsNot d .none ⟨KB⟩ = KB (!isNoneD d) := by cases d <;> rfl
theorem ci_inL : @cmpI .In d (.list xs) ⟨KB⟩ = (SeqAt.shaped d = true ∧ SeqAt.shaped (.list xs) = true ∧ KB (xs.any fun z => PyData.eqv z d)) := by cases d <;> rfl
theorem ci_inT : @cmpI .In d (.tuple xs) ⟨KB⟩ = (SeqAt.shaped d = true ∧ SeqAt.shaped (.tuple xs) = true ∧ KB (xs.any fun z => PyData.eqv z d)) := by cases d <;> rfl
theorem ci_ninL : @cmpI .NotIn d (.list xs) ⟨KB⟩ = (SeqAt.shaped d = true ∧ SeqAt.shaped (.list xs) = true ∧ KB (!xs.any fun z => PyData.eqv z d)) := by cases d <;> rfl
theorem ci_ninT : @cmpI .NotIn d (.tuple xs) ⟨KB⟩ = (SeqAt.shaped d = true ∧ SeqAt.shaped (.tuple xs) = true ∧ KB (!xs.any fun z => PyData.eqv z d)) := by cases d <;> rfl
theorem fm_s {KS : Str → Prop} : @fmI (.str s) ⟨KS⟩ = (s.length ≤ 100000 ∧ KS s) := rfl
theorem fm_i {KS : Str → Prop} : @fmI (.int i) ⟨KS⟩ = (i.natAbs.log2 < 1920 ∧ KS (toString i)) := rfl
theorem nn_n : isNoneD .none = true := rfl
theorem nn_i : isNoneD (.int i) = false := rfl
theorem nn_b : isNoneD (.bool b) = false := rfl
theorem nn_s : isNoneD (.str s) = false := rfl
theorem nn_l : isNoneD (.list l) = false := rfl
theorem nn_d : isNoneD (.dict []) = false := rfl
theorem nn_t : isNoneD (.tuple l) = false := rfl
theorem ti_n : @truI .none ⟨KB⟩ = KB false := rfl
theorem ti_b : @truI (.bool b) ⟨KB⟩ = KB b := rfl
theorem ti_i : @truI (.int i) ⟨KB⟩ = KB (i != 0) := rfl
theorem ti_l : @truI (.list l) ⟨KB⟩ = KB (!l.isEmpty) := rfl
theorem ti_t : @truI (.tuple l) ⟨KB⟩ = KB (!l.isEmpty) := rfl
variable {t u : Ty}
theorem ii_n : @isiI .none t ⟨KB⟩ = KB (sub .non t) := rfl
theorem ii_b : @isiI (.bool b) t ⟨KB⟩ = KB (sub .bool t) := rfl
theorem ii_i : @isiI (.int i) t ⟨KB⟩ = KB (sub .int t) := rfl
theorem ii_s : @isiI (.str s) t ⟨KB⟩ = KB (sub .str t) := rfl
theorem ii_l : @isiI (.list l) t ⟨KB⟩ = KB (sub .list t) := rfl
theorem ii_d : @isiI (.dict []) t ⟨KB⟩ = KB (sub .dict t) := rfl
theorem ii_t : @isiI (.tuple l) t ⟨KB⟩ = KB (sub .tuple t) := rfl
theorem ij_n : @isjI .none t u ⟨KB⟩ = KB (sub .non t || sub .non u) := rfl
theorem ij_b : @isjI (.bool b) t u ⟨KB⟩ = KB (sub .bool t || sub .bool u) := rfl
theorem ij_i : @isjI (.int i) t u ⟨KB⟩ = KB (sub .int t || sub .int u) := rfl
theorem ij_s : @isjI (.str s) t u ⟨KB⟩ = KB (sub .str t || sub .str u) := rfl
theorem ij_l : @isjI (.list l) t u ⟨KB⟩ = KB (sub .list t || sub .list u) := rfl
theorem ij_d : @isjI (.dict []) t u ⟨KB⟩ = KB (sub .dict t || sub .dict u) := rfl
theorem ij_t : @isjI (.tuple l) t u ⟨KB⟩ = KB (sub .tuple t || sub .tuple u) := rfl
theorem bt_lenL : @bltI .len [.list l] ⟨K⟩ = K (.pd (.int (l.length : Int))) := rfl
theorem bt_lenT : @bltI .len [.tuple l] ⟨K⟩ = K (.pd (.int (l.length : Int))) := rfl
theorem bt_lenF : @bltI .len [.dict [(.list l, .none)]] ⟨K⟩ = K (.pd (.int (l.length : Int))) := rfl
theorem bt_max2 : @bltI .max [.int i, .int j] ⟨K⟩ = K (.pd (.int (max i j))) := rfl
theorem bt_maxL : @bltI .max [.list l] ⟨K⟩ = opW (intsOf l) fun ns => ns ≠ [] ∧ K (.pd (.int (imax ns))) := rfl
theorem bt_maxT : @bltI .max [.tuple l] ⟨K⟩ = opW (intsOf l) fun ns => ns ≠ [] ∧ K (.pd (.int (imax ns))) := rfl
theorem bt_sumT : @bltI .sum [.tuple l] ⟨K⟩ = opW (intsOf l) fun ns => K (.pd (.int ns.sum)) := rfl
theorem bt_min2 : @bltI .min [.int i, .int j] ⟨K⟩ = K (.pd (.int (min i j))) := rfl
theorem bt_minL : @bltI .min [.list l] ⟨K⟩ = opW (intsOf l) fun ns => ns ≠ [] ∧ K (.pd (.int (imin ns))) := rfl
theorem bt_minT : @bltI .min [.tuple [.int i, .int j]] ⟨K⟩ = K (.pd (.int (min i j))) := rfl
theorem bt_abs : @bltI .abs [.int i] ⟨K⟩ = K (.pd (.int (if i < 0 then -i else i))) := rfl
theorem bt_sum : @bltI .sum [.list l] ⟨K⟩ = opW (intsOf l) fun ns => K (.pd (.int ns.sum)) := rfl
theorem bt_any : @bltI .any [.list l] ⟨K⟩ = opW (boolsOf l) fun ns => K (.pd (.bool (ns.any id))) := rfl
theorem bt_all : @bltI .all [.list l] ⟨K⟩ = opW (boolsOf l) fun ns => K (.pd (.bool (ns.all id))) := rfl
theorem bt_sorted : @bltI .sorted [.list l] ⟨K⟩ = opW (intsOf l) fun ns => K (.ow none (.lst ((isort ns).map .int))) := rfl
theorem bt_listL : @bltI .list [.list l] ⟨K⟩ = K (.ow none (.lst l)) := rfl
theorem bt_listT : @bltI .list [.tuple l] ⟨K⟩ = K (.ow none (.lst l)) := rfl
theorem bt_tupL : @bltI .tuple [.list l] ⟨K⟩ = K (.pd (.tuple l)) := rfl
theorem bt_tupT : @bltI .tuple [.tuple l] ⟨K⟩ = K (.pd (.tuple l)) := rfl
theorem bt_int : @bltI .int [.int i] ⟨K⟩ = K (.pd (.int i)) := rfl
theorem bt_str : @bltI .str [.int i] ⟨K⟩ = (i.natAbs.log2 < 1920 ∧ K (.pd (.str (toString i)))) := rfl
theorem bt_intB : @bltI .int [.bool c] ⟨K⟩ = K (.pd (.int (if c then 1 else 0))) := rfl
end
end DW

set_option Elab.async false
set_option autoImplicit false
set_option linter.all false
set_option maxRecDepth 100000
/-! SEM: the meaning of a text as a structure: nothing of it is ever unfolded -/
namespace DW
open PySem PySem.Spec L2
structure Mng (T : Tb) where
  vE : IE → Ev → (Sl → Ev → Prop) → Prop
  vA : IA → Ev → (List D → Ev → Prop) → Prop
  vJ : IA → Str → Ev → (Str → Ev → Prop) → Prop
  vT : IT → Ev → (Bool → Ev → Prop) → Prop
  vF : IF → Ev → (Bool → Ev → Prop) → Prop
  vI : II → Ev → (List D → Ev → Prop) → Prop
  ex : IB → List IB → Ev → Ph → Prop
  loopC : Tg → IB → List D → Ev → IB → List IB → Ph → Prop
  whileC : IT → IB → Ev → IB → List IB → Ph → Prop
  lcC : IE → Tg → IF → List Nat → List D → Ev → (Sl → Ev → Prop) → Prop
  lcI : IE → Tg → IF → List Nat → List D → List D → Ev → (List D → Ev → Prop) → Prop
  lc2C : IE → Tg → IF → Tg → II → IF → List Nat → List Nat → List D → Ev → (Sl → Ev → Prop) → Prop
  lcI_eq : ∀ elt tg ifs vs es acc ρ K, lcI elt tg ifs vs es acc ρ K = lcW (fun d ρ K => wpG tg d (wipeR ρ vs) fun ρ2 => vF ifs ρ2 fun k ρ3 => (k = true → vE elt ρ3 fun s ρ4 => frzK s fun y => K (some y) (rstR vs ρ ρ4)) ∧ (k = false → K none (rstR vs ρ ρ3))) es acc ρ K
  lc2_eq : ∀ elt tg ifs tg1 it1 ifs1 vs vs1 ds ρ Q, lc2C elt tg ifs tg1 it1 ifs1 vs vs1 ds ρ Q = lc2W (fun d acc ρ K => wpG tg d (wipeR ρ vs) fun ρ2 => vF ifs ρ2 fun k ρ3 => (k = true → vI it1 ρ3 fun es ρ4 => acc.length + es.length ≤ 100000 ∧ lcI elt tg1 ifs1 vs1 es acc ρ4 fun acc' ρ5 => K acc' (rstR vs ρ ρ5)) ∧ (k = false → K acc (rstR vs ρ ρ3))) ds [] ρ fun acc ρ2 => Q (.ow none (.lst acc)) ρ2
  loop_eq : ∀ tg body ds ρ r K Φ, loopC tg body ds ρ r K Φ = loopW (fun d ρ Φ => wpG tg d ρ fun ρ' => ex body [] ρ' Φ) ds ρ { Φ with nx := fun ρ' => ex r K ρ' Φ }
  while_eq : ∀ c body ρ r K Φ, whileC c body ρ r K Φ = ∃ n, whileW (fun ρ Q => vT c ρ Q) (fun ρ Φ => ex body [] ρ Φ) n ρ { Φ with nx := fun ρ' => ex r K ρ' Φ }
  lc_eq : ∀ elt tg ifs vs ds ρ Q, lcC elt tg ifs vs ds ρ Q = lcW (fun d ρ K => wpG tg d (wipeR ρ vs) fun ρ2 => vF ifs ρ2 fun k ρ3 => (k = true → vE elt ρ3 fun s ρ4 => frzK s fun y => K (some y) (rstR vs ρ ρ4)) ∧ (k = false → K none (rstR vs ρ ρ3))) ds [] ρ fun acc ρ2 => Q (.ow none (.lst acc)) ρ2
  E_nm : ∀ (i : Nat) (ρ : Ev) (Q : Sl → Ev → Prop), vE (.nm i) ρ Q = ((match ρ[i]? with
    | some (.pd d) => Q (.pd d) ρ
    | some (.ow _ (.lst ds)) => Q (.pd (.list ds)) (ρ.set i (.pd (.list ds)))
    | some (.ow _ (.dct false ks)) => Q (.pd (.dict ks)) (ρ.set i (.pd (.dict ks)))
    | some (.ow _ (.dct true ks)) => Q (.pd (tdict ks)) (ρ.set i (.pd (tdict ks)))
    | _ => False))
  E_gl : ∀ (x : Str) (ρ : Ev) (Q : Sl → Ev → Prop), vE (.gl x) ρ Q = ((match T.gl x with
    | some d => Q (.pd d) ρ
    | none => False))
  E_cn : ∀ (d : D) (ρ : Ev) (Q : Sl → Ev → Prop), vE (.cn d) ρ Q = (Q (.pd d) ρ)
  E_ng : ∀ (a : IE) (ρ : Ev) (Q : Sl → Ev → Prop), vE (.ng a) ρ Q = (vE a ρ fun s ρ1 => frzK s fun x => (match x with
    | .int i => Q (.pd (.int (-i))) ρ1
    | _ => False))
  E_nt : ∀ (a : IE) (ρ : Ev) (Q : Sl → Ev → Prop), vE (.nt a) ρ Q = (vE a ρ fun s ρ1 => frzK s fun x => (match x with
    | .bool k => Q (.pd (.bool (!k))) ρ1
    | _ => False))
  E_bn : ∀ (o : Operator) (a : IE) (b : IE) (ρ : Ev) (Q : Sl → Ev → Prop), vE (.bn o a b) ρ Q = (vE a ρ fun s ρ1 => frzK s fun x => vE b ρ1 fun t ρ2 => frzK t fun y => binK o x y fun r => Q r ρ2)
  E_cp : ∀ (o : CmpOp) (a : IE) (b : IE) (ρ : Ev) (Q : Sl → Ev → Prop), vE (.cp o a b) ρ Q = (vE a ρ fun s ρ1 => frzK s fun x => vE b ρ1 fun t ρ2 => frzK t fun y => cmpK o x y fun k => Q (.pd (.bool k)) ρ2)
  E_ch : ∀ (o : CmpOp) (o' : CmpOp) (a : IE) (b : IE) (c : IE) (ρ : Ev) (Q : Sl → Ev → Prop), vE (.ch o o' a b c) ρ Q = (vE a ρ fun s ρ1 => frzK s fun x => vE b ρ1 fun t ρ2 => frzK t fun y => cmpK o x y fun k =>
      (k = true → vE c ρ2 fun u ρ3 => frzK u fun z => cmpK o' y z fun k2 => Q (.pd (.bool k2)) ρ3) ∧ (k = false → Q (.pd (.bool false)) ρ2))
  E_an : ∀ (a : IE) (b : IE) (ρ : Ev) (Q : Sl → Ev → Prop), vE (.an a b) ρ Q = (vE a ρ fun s ρ1 => frzK s fun x => (match x with
    | .bool k => (k = true → vE b ρ1 Q) ∧ (k = false → Q (.pd (.bool false)) ρ1)
    | _ => False))
  E_ro : ∀ (a : IE) (b : IE) (ρ : Ev) (Q : Sl → Ev → Prop), vE (.ro a b) ρ Q = (vE a ρ fun s ρ1 => frzK s fun x => (match x with
    | .bool k => (k = false → vE b ρ1 Q) ∧ (k = true → Q (.pd (.bool true)) ρ1)
    | _ => False))
  E_ie : ∀ (c : IT) (a : IE) (b : IE) (ρ : Ev) (Q : Sl → Ev → Prop), vE (.ie c a b) ρ Q = (vT c ρ fun k ρ1 => (k = true → vE a ρ1 Q) ∧ (k = false → vE b ρ1 Q))
  E_tu : ∀ (es : IA) (ρ : Ev) (Q : Sl → Ev → Prop), vE (.tu es) ρ Q = (vA es ρ fun ds ρ1 => ds.length ≤ 100000 ∧ Q (.pd (.tuple ds)) ρ1)
  E_li : ∀ (es : IA) (ρ : Ev) (Q : Sl → Ev → Prop), vE (.li es) ρ Q = (vA es ρ fun ds ρ1 => ds.length ≤ 100000 ∧ Q (.ow none (.lst ds)) ρ1)
  E_ix : ∀ (a : IE) (b : IE) (ρ : Ev) (Q : Sl → Ev → Prop), vE (.ix a b) ρ Q = (vE a ρ fun s ρ1 => frzK s fun x => vE b ρ1 fun t ρ2 => frzK t fun y => (match y with
    | .int k => opW (IxD x k) fun d => Q (.pd d) ρ2
    | _ => False))
  E_ixo : ∀ (i : Nat) (b : IE) (ρ : Ev) (Q : Sl → Ev → Prop), vE (.ixo i b) ρ Q = ((match ρ[i]? with
    | some (.pd x) => vE b ρ fun t ρ2 => frzK t fun y => (match y with
      | .int k => opW (IxD x k) fun d => Q (.pd d) ρ2
      | _ => False)
    | some (.ow _ (.lst _)) => vE b ρ fun t ρ2 => frzK t fun y => (match y with
      | .int k => owW ρ2 i fun u ds => opW (L2.atI ds k) fun d => Q (.pd d) ρ2
      | _ => False)
    | _ => False))
  E_s2 : ∀ (a : IE) (l : IE) (h : IE) (ρ : Ev) (Q : Sl → Ev → Prop), vE (.s2 a l h) ρ Q = (vE a ρ fun s ρ1 => frzK s fun x => vE l ρ1 fun t ρ2 => frzK t fun y => (match y with
    | .int i => vE h ρ2 fun u ρ3 => frzK u fun z => (match z with
      | .int j => opW (SlD (some i) (some j) x) fun r => Q r ρ3
      | _ => False)
    | _ => False))
  E_sL : ∀ (a : IE) (l : IE) (ρ : Ev) (Q : Sl → Ev → Prop), vE (.sL a l) ρ Q = (vE a ρ fun s ρ1 => frzK s fun x => vE l ρ1 fun t ρ2 => frzK t fun y => (match y with
    | .int i => opW (SlD (some i) none x) fun r => Q r ρ2
    | _ => False))
  E_sH : ∀ (a : IE) (h : IE) (ρ : Ev) (Q : Sl → Ev → Prop), vE (.sH a h) ρ Q = (vE a ρ fun s ρ1 => frzK s fun x => vE h ρ1 fun t ρ2 => frzK t fun y => (match y with
    | .int i => opW (SlD none (some i) x) fun r => Q r ρ2
    | _ => False))
  E_rv : ∀ (a : IE) (ρ : Ev) (Q : Sl → Ev → Prop), vE (.rv a) ρ Q = (vE a ρ fun s ρ1 => frzK s fun x => (match x with
    | .list ds => Q (.ow none (.lst ds.reverse)) ρ1
    | .tuple ds => Q (.pd (.tuple ds.reverse)) ρ1
    | _ => False))
  E_d0 : ∀  (ρ : Ev) (Q : Sl → Ev → Prop), vE (.d0) ρ Q = (Q (.pd (.dict [])) ρ)
  E_fs : ∀ (es : IA) (ρ : Ev) (Q : Sl → Ev → Prop), vE (.fs es) ρ Q = (vJ es Str.empty ρ fun x ρ1 => Q (.pd (.str x)) ρ1)
  E_bi : ∀ (x : Bn) (es : IA) (ρ : Ev) (Q : Sl → Ev → Prop), vE (.bi x es) ρ Q = (vA es ρ fun ds ρ1 => bltK x ds fun r => Q r ρ1)
  E_ln : ∀ (i : Nat) (ρ : Ev) (Q : Sl → Ev → Prop), vE (.ln i) ρ Q = ((match ρ[i]? with
    | some (.pd (.list l)) => Q (.pd (.int (l.length : Int))) ρ
    | some (.pd (.tuple l)) => Q (.pd (.int (l.length : Int))) ρ
    | some (.pd (.dict [(.list l, .none)])) => Q (.pd (.int (l.length : Int))) ρ
    | some (.ow _ (.lst l)) => Q (.pd (.int (l.length : Int))) ρ
    | _ => False))
  E_isi : ∀ (a : IE) (t : Ty) (ρ : Ev) (Q : Sl → Ev → Prop), vE (.isi a t) ρ Q = (vE a ρ fun s ρ1 => frzK s fun x => isiK x t fun r => Q (.pd (.bool r)) ρ1)
  E_isj : ∀ (a : IE) (t : Ty) (u : Ty) (ρ : Ev) (Q : Sl → Ev → Prop), vE (.isj a t u) ρ Q = (vE a ρ fun s ρ1 => frzK s fun x => isjK x t u fun r => Q (.pd (.bool r)) ρ1)
  E_call : ∀ (f : Str) (es : IA) (ρ : Ev) (Q : Sl → Ev → Prop), vE (.call f es) ρ Q = (vA es ρ fun ds ρ1 => fpK T f ds (fun d => Q (.pd d) ρ1))
  E_calo : ∀ (f : Str) (i : Nat) (es : IA) (ρ : Ev) (Q : Sl → Ev → Prop), vE (.calo f i es) ρ Q = ((match ρ[i]? with
    | some (.ow _ _) => vA es ρ fun ds ρ1 => owW ρ1 i fun t rw => foK T f rw ds (fun d rw' => Q (.pd d) (ρ1.set i (.ow t (.lst rw'))))
    | _ => False))
  E_calq : ∀ (f : Str) (es : IA) (ρ : Ev) (Q : Sl → Ev → Prop), vE (.calq f es) ρ Q = (vA es ρ fun ds ρ1 => fqK T f ds (fun d => Q (.pd d) ρ1))
  E_caloq : ∀ (f : Str) (i : Nat) (es : IA) (ρ : Ev) (Q : Sl → Ev → Prop), vE (.caloq f i es) ρ Q = ((match ρ[i]? with
    | some (.ow _ _) => vA es ρ fun ds ρ1 => owW ρ1 i fun t rw => oqK T f rw ds (fun d rw' => Q (.pd d) (ρ1.set i (.ow t (.lst rw'))))
    | _ => False))
  E_told : ∀ (f : Str) (es : IA) (ρ : Ev) (Q : Sl → Ev → Prop), vE (.told f es) ρ Q = (vA es ρ fun ds ρ1 => ftK T f ds fun d => Q (.pd d) ρ1)
  E_lc : ∀ (elt : IE) (tg : Tg) (it : II) (ifs : IF) (vs : List Nat) (ρ : Ev) (Q : Sl → Ev → Prop), vE (.lc elt tg it ifs vs) ρ Q = (vI it ρ fun ds ρ1 => ds.length ≤ 100000 ∧ lcC elt tg ifs vs ds ρ1 Q)
  E_ss : ∀ (a : IE) (ρ : Ev) (Q : Sl → Ev → Prop), vE (.ss a) ρ Q = (vE a ρ fun s ρ1 => frzK s fun x => (match x with
    | .list l => opW (intsOf l) fun ns => (ns.length < 64 ∨ ∃ M : List Int, M.length < 64 ∧ ns.length ≤ 1000 ∧ ∀ x ∈ ns, x ∈ M) ∧ ∀ ms : List Int, ms.Pairwise (· < ·) → (∀ k : Int, k ∈ ms ↔ k ∈ ns) → Q (.ow none (.lst (ms.map .int))) ρ1
    | _ => False))
  E_mxd : ∀ (a : IE) (b : IE) (ρ : Ev) (Q : Sl → Ev → Prop), vE (.mxd a b) ρ Q = (vE a ρ fun s ρ1 => frzK s fun x => vE b ρ1 fun t ρ2 => frzK t fun y => (match x, y with
    | .list l, .int d => opW (intsOf l) fun ns => Q (.pd (.int (imaxd ns d))) ρ2
    | _, _ => False))
  E_c4 : ∀ (o : CmpOp) (o' : CmpOp) (o2 : CmpOp) (a : IE) (b : IE) (c : IE) (d : IE) (ρ : Ev) (Q : Sl → Ev → Prop), vE (.c4 o o' o2 a b c d) ρ Q = (vE a ρ fun s ρ1 => frzK s fun x => vE b ρ1 fun t ρ2 => frzK t fun y => cmpK o x y fun k =>
      (k = true → vE c ρ2 fun u ρ3 => frzK u fun z => cmpK o' y z fun k2 => (k2 = true → vE d ρ3 fun v ρ4 => frzK v fun w => cmpK o2 z w fun k3 => Q (.pd (.bool k3)) ρ4) ∧ (k2 = false → Q (.pd (.bool false)) ρ3)) ∧ (k = false → Q (.pd (.bool false)) ρ2))
  E_ma : ∀ (m : Mth) (a : IE) (b : IE) (ρ : Ev) (Q : Sl → Ev → Prop), vE (.ma m a b) ρ Q = (vE a ρ fun s ρ1 => frzK s fun x => vE b ρ1 fun t ρ2 => frzK t fun y => (match x, y with
    | .int i, .int j => mthW m i j fun r => Q (.pd (.int r)) ρ2
    | _, _ => False))
  E_lc2 : ∀ (elt : IE) (tg : Tg) (it : II) (ifs : IF) (tg1 : Tg) (it1 : II) (ifs1 : IF) (vs : List Nat) (vs1 : List Nat) (ρ : Ev) (Q : Sl → Ev → Prop), vE (.lc2 elt tg it ifs tg1 it1 ifs1 vs vs1) ρ Q = (vI it ρ fun ds ρ1 => lc2C elt tg ifs tg1 it1 ifs1 vs vs1 ds ρ1 Q)
  A_nil : ∀  (ρ : Ev) (Q : List D → Ev → Prop), vA (.nil) ρ Q = (Q [] ρ)
  A_cons : ∀ (e : IE) (es : IA) (ρ : Ev) (Q : List D → Ev → Prop), vA (.cons e es) ρ Q = (vE e ρ fun s ρ1 => frzK s fun d => vA es ρ1 fun ds ρ2 => Q (d :: ds) ρ2)
  J_nil : ∀ (acc : Str) (ρ : Ev) (Q : Str → Ev → Prop), vJ .nil acc ρ Q = Q acc ρ
  J_cons : ∀ (e : IE) (es : IA) (acc : Str) (ρ : Ev) (Q : Str → Ev → Prop), vJ (.cons e es) acc ρ Q = (vE e ρ fun s ρ1 => frzK s fun d => fmK d fun y => (acc ++ y).length ≤ 100000 ∧ vJ es (acc ++ y) ρ1 Q)
  T_cp : ∀ (o : CmpOp) (a : IE) (b : IE) (ρ : Ev) (Q : Bool → Ev → Prop), vT (.cp o a b) ρ Q = (vE a ρ fun s ρ1 => frzK s fun x => vE b ρ1 fun t ρ2 => frzK t fun y => cmpK o x y fun k => Q k ρ2)
  T_ch : ∀ (o : CmpOp) (o' : CmpOp) (a : IE) (b : IE) (c : IE) (ρ : Ev) (Q : Bool → Ev → Prop), vT (.ch o o' a b c) ρ Q = (vE a ρ fun s ρ1 => frzK s fun x => vE b ρ1 fun t ρ2 => frzK t fun y => cmpK o x y fun k =>
      (k = true → vE c ρ2 fun u ρ3 => frzK u fun z => cmpK o' y z fun k2 => Q k2 ρ3) ∧ (k = false → Q false ρ2))
  T_nt : ∀ (a : IT) (ρ : Ev) (Q : Bool → Ev → Prop), vT (.nt a) ρ Q = (vT a ρ fun k ρ1 => Q (!k) ρ1)
  T_an : ∀ (a : IT) (b : IT) (ρ : Ev) (Q : Bool → Ev → Prop), vT (.an a b) ρ Q = (vT a ρ fun k ρ1 => (k = true → vT b ρ1 Q) ∧ (k = false → Q false ρ1))
  T_ro : ∀ (a : IT) (b : IT) (ρ : Ev) (Q : Bool → Ev → Prop), vT (.ro a b) ρ Q = (vT a ρ fun k ρ1 => (k = false → vT b ρ1 Q) ∧ (k = true → Q true ρ1))
  T_v : ∀ (e : IE) (ρ : Ev) (Q : Bool → Ev → Prop), vT (.v e) ρ Q = (vE e ρ fun s ρ1 => frzK s fun d => truK d fun k => Q k ρ1)
  T_vl : ∀ (i : Nat) (ρ : Ev) (Q : Bool → Ev → Prop), vT (.vl i) ρ Q = ((match ρ[i]? with
    | some (.ow _ (.lst l)) => Q (!l.isEmpty) ρ
    | some (.pd d) => truK d fun k => Q k ρ
    | _ => False))
  T_c4 : ∀ (o : CmpOp) (o' : CmpOp) (o2 : CmpOp) (a : IE) (b : IE) (c : IE) (d : IE) (ρ : Ev) (Q : Bool → Ev → Prop), vT (.c4 o o' o2 a b c d) ρ Q = (vE a ρ fun s ρ1 => frzK s fun x => vE b ρ1 fun t ρ2 => frzK t fun y => cmpK o x y fun k =>
      (k = true → vE c ρ2 fun u ρ3 => frzK u fun z => cmpK o' y z fun k2 => (k2 = true → vE d ρ3 fun v ρ4 => frzK v fun w => cmpK o2 z w fun k3 => Q k3 ρ4) ∧ (k2 = false → Q false ρ3)) ∧ (k = false → Q false ρ2))
  F_nil : ∀  (ρ : Ev) (Q : Bool → Ev → Prop), vF (.nil) ρ Q = (Q true ρ)
  F_one : ∀ (t : IT) (ρ : Ev) (Q : Bool → Ev → Prop), vF (.one t) ρ Q = (vT t ρ Q)
  I_e : ∀ (a : IE) (ρ : Ev) (Q : List D → Ev → Prop), vI (.e a) ρ Q = (vE a ρ fun s ρ1 => frzK s fun x => (match x with
    | .list ds => Q ds ρ1
    | .tuple ds => Q ds ρ1
    | _ => False))
  I_r1 : ∀ (a : IE) (ρ : Ev) (Q : List D → Ev → Prop), vI (.r1 a) ρ Q = (vE a ρ fun s ρ1 => frzK s fun x => (match x with
    | .int n => -(2 ^ 62) ≤ n ∧ n < 2 ^ 62 ∧ Q ((rangeI 0 n).map .int) ρ1
    | _ => False))
  I_r2 : ∀ (a : IE) (b : IE) (ρ : Ev) (Q : List D → Ev → Prop), vI (.r2 a b) ρ Q = (vE a ρ fun s ρ1 => frzK s fun x => vE b ρ1 fun t ρ2 => frzK t fun y => (match x, y with
    | .int lo, .int hi => (-(2 ^ 62) ≤ lo ∧ lo < 2 ^ 62 ∧ -(2 ^ 62) ≤ hi ∧ hi < 2 ^ 62) ∧ Q ((rangeI lo hi).map .int) ρ2
    | _, _ => False))
  I_en : ∀ (a : IE) (ρ : Ev) (Q : List D → Ev → Prop), vI (.en a) ρ Q = (vE a ρ fun s ρ1 => frzK s fun x => (match x with
    | .tuple ds => Q (enD ds) ρ1
    | .list ds => Q (enD ds) ρ1
    | _ => False))
  I_zp : ∀ (a : IE) (b : IE) (ρ : Ev) (Q : List D → Ev → Prop), vI (.zp a b) ρ Q = (vE a ρ fun s ρ1 => frzK s fun x => vE b ρ1 fun t ρ2 => frzK t fun y => (match seqOf x, seqOf y with
    | some (_, xs), some (_, ys) => Q (zipD xs ys) ρ2
    | _, _ => False))
  I_z3 : ∀ (a : IE) (b : IE) (c : IE) (ρ : Ev) (Q : List D → Ev → Prop), vI (.z3 a b c) ρ Q = (vE a ρ fun s ρ1 => frzK s fun x => vE b ρ1 fun t ρ2 => frzK t fun y => vE c ρ2 fun u ρ3 => frzK u fun z => (match seqOf x, seqOf y, seqOf z with
    | some (_, xs), some (_, ys), some (_, zs) => Q (zipN [xs, ys, zs]) ρ3
    | _, _, _ => False))
  ex_nil0 : ∀ (ρ : Ev) (Φ : Ph), ex .nil [] ρ Φ = (Φ.nx ρ)
  ex_nil1 : ∀ (r : IB) (K : List IB) (ρ : Ev) (Φ : Ph), ex .nil (r :: K) ρ Φ = (ex r K ρ Φ)
  ex_set : ∀ (i : Nat) (e : IE) (r : IB) (K : List IB) (ρ : Ev) (Φ : Ph), ex (.cons (.set i e) r) K ρ Φ = (vE e ρ fun s ρ1 => ex r K (ρ1.set i (nrm s)) Φ)
  ex_asg : ∀ (tg : Tg) (e : IE) (r : IB) (K : List IB) (ρ : Ev) (Φ : Ph), ex (.cons (.asg tg e) r) K ρ Φ = (vE e ρ fun s ρ1 => frzK s fun d => wpG tg d ρ1 fun ρ2 => ex r K ρ2 Φ)
  ex_par : ∀ (i j : Nat) (a b : IE) (r : IB) (K : List IB) (ρ : Ev) (Φ : Ph), ex (.cons (.par i j a b) r) K ρ Φ = (vE a ρ fun s ρ1 => vE b ρ1 fun t ρ2 => ex r K ((ρ2.set i (nrm s)).set j (nrm t)) Φ)
  ex_par3 : ∀ (i j l : Nat) (a b c : IE) (r : IB) (K : List IB) (ρ : Ev) (Φ : Ph), ex (.cons (.par3 i j l a b c) r) K ρ Φ = (vE a ρ fun s ρ1 => vE b ρ1 fun t ρ2 => vE c ρ2 fun u ρ3 => ex r K (((ρ3.set i (nrm s)).set j (nrm t)).set l (nrm u)) Φ)
  ex_app : ∀ (i : Nat) (e : IE) (r : IB) (K : List IB) (ρ : Ev) (Φ : Ph), ex (.cons (.app i e) r) K ρ Φ = ((match ρ[i]? with | some (.ow _ (.lst _)) => vE e ρ fun s ρ1 => frzK s fun d => owW ρ1 i fun t ds => ds.length < 100000 ∧ ex r K (ρ1.set i (.ow t (.lst (ds ++ [d])))) Φ | _ => False))
  ex_sti : ∀ (i : Nat) (k e : IE) (r : IB) (K : List IB) (ρ : Ev) (Φ : Ph), ex (.cons (.sti i k e) r) K ρ Φ = ((match ρ[i]? with | some (.ow _ (.lst _)) => vE e ρ fun s ρ1 => frzK s fun d => vE k ρ1 fun u ρ2 => frzK u fun y => (match y with | .int n => owW ρ2 i fun t ds => opW (L2.ixN ds.length n) fun j => ex r K (ρ2.set i (.ow t (.lst (ds.set j d)))) Φ | _ => False) | _ => False))
  ex_sti2 : ∀ (i : Nat) (k : IE) (j : Nat) (l e : IE) (r : IB) (K : List IB) (ρ : Ev) (Φ : Ph), ex (.cons (.sti2 i k j l e) r) K ρ Φ = (vE e ρ fun s ρ1 => frzK s fun d => (match d with | .tuple [d1, d2] => (match ρ1[i]? with | some (.ow _ (.lst _)) => vE k ρ1 fun u ρ2 => frzK u fun y => (match y with | .int n => owW ρ2 i fun t ds => opW (L2.ixN ds.length n) fun m => (match (ρ2.set i (.ow t (.lst (ds.set m d1))))[j]? with | some (.ow _ (.lst _)) => vE l (ρ2.set i (.ow t (.lst (ds.set m d1)))) fun v ρ3 => frzK v fun z => (match z with | .int n2 => owW ρ3 j fun t2 ds2 => opW (L2.ixN ds2.length n2) fun m2 => ex r K (ρ3.set j (.ow t2 (.lst (ds2.set m2 d2)))) Φ | _ => False) | _ => False) | _ => False) | _ => False) | _ => False))
  ex_augs : ∀ (i : Nat) (k : IE) (o : Operator) (e : IE) (r : IB) (K : List IB) (ρ : Ev) (Φ : Ph), ex (.cons (.augs i k o e) r) K ρ Φ = ((match ρ[i]? with | some (.ow _ (.lst _)) => vE k ρ fun u ρ1 => frzK u fun y => (match y with | .int n => owW ρ1 i fun _ ds => opW (L2.atI ds n) fun x => vE e ρ1 fun s ρ2 => frzK s fun z => augK o x z fun f => owW ρ2 i fun t2 ds2 => opW (L2.ixN ds2.length n) fun m2 => ex r K (ρ2.set i (.ow t2 (.lst (ds2.set m2 f)))) Φ | _ => False) | _ => False))
  ex_aug : ∀ (i : Nat) (o : Operator) (e : IE) (r : IB) (K : List IB) (ρ : Ev) (Φ : Ph), ex (.cons (.aug i o e) r) K ρ Φ = ((match ρ[i]? with | some (.pd x) => vE e ρ fun s ρ1 => frzK s fun y => augK o x y fun f => ex r K (ρ1.set i (.pd f)) Φ | some (.ow _ (.lst _)) => vE e ρ fun s ρ1 => frzK s fun y => (match o, y with | .Add, .list es => owW ρ1 i fun t ds => ds.length + es.length ≤ 100000 ∧ ex r K (ρ1.set i (.ow t (.lst (ds ++ es)))) Φ | _, _ => False) | _ => False))
  ex_iff : ∀ (c : IT) (s1 s2 r : IB) (K : List IB) (ρ : Ev) (Φ : Ph), ex (.cons (.iff c s1 s2) r) K ρ Φ = (vT c ρ fun k ρ1 => (k = true → ex s1 (r :: K) ρ1 Φ) ∧ (k = false → ex s2 (r :: K) ρ1 Φ))
  ex_ret : ∀ (e : IE) (r : IB) (K : List IB) (ρ : Ev) (Φ : Ph), ex (.cons (.ret e) r) K ρ Φ = (vE e ρ Φ.rt)
  ex_retN : ∀ (r : IB) (K : List IB) (ρ : Ev) (Φ : Ph), ex (.cons .retN r) K ρ Φ = (Φ.rt (.pd .none) ρ)
  ex_pass : ∀ (r : IB) (K : List IB) (ρ : Ev) (Φ : Ph), ex (.cons .pass r) K ρ Φ = (ex r K ρ Φ)
  ex_brk : ∀ (r : IB) (K : List IB) (ρ : Ev) (Φ : Ph), ex (.cons .brk r) K ρ Φ = (Φ.bk ρ)
  ex_cnt : ∀ (r : IB) (K : List IB) (ρ : Ev) (Φ : Ph), ex (.cons .cnt r) K ρ Φ = (Φ.ct ρ)
  ex_drop : ∀ (e : IE) (r : IB) (K : List IB) (ρ : Ev) (Φ : Ph), ex (.cons (.drop e) r) K ρ Φ = (vE e ρ fun s ρ1 => frzK s fun _ => ex r K ρ1 Φ)
  ex_rai : ∀ (C : Str) (e : IE) (r : IB) (K : List IB) (ρ : Ev) (Φ : Ph), ex (.cons (.rai C e) r) K ρ Φ = (vE e ρ fun s _ => frzK s fun d => (match d with | .str _ => T.xk (C, []) | _ => False))
  ex_raif : ∀ (C : Str) (es : IA) (r : IB) (K : List IB) (ρ : Ev) (Φ : Ph), ex (.cons (.raif C es) r) K ρ Φ = (vA es ρ fun ds _ => T.xk (C, ds))
  ex_dead : ∀ (r : IB) (K : List IB) (ρ : Ev) (Φ : Ph), ex (.cons .dead r) K ρ Φ = (False)
  ex_tryq : ∀ (f : Str) (es : IA) (d : D) (r : IB) (K : List IB) (ρ : Ev) (Φ : Ph), ex (.cons (.tryq f es d) r) K ρ Φ = (vA es ρ fun ds ρ1 => fyK T f ds (fun _ => ex r K ρ1 Φ) fun x => x.1 ∈ T.ec ∧ Φ.rt (.pd d) ρ1)
  ex_fo : ∀ (tg : Tg) (it : II) (body r : IB) (K : List IB) (ρ : Ev) (Φ : Ph), ex (.cons (.fo tg it body) r) K ρ Φ = (vI it ρ fun ds ρ1 => loopC tg body ds ρ1 r K Φ)
  ex_wh : ∀ (c : IT) (body r : IB) (K : List IB) (ρ : Ev) (Φ : Ph), ex (.cons (.wh c body) r) K ρ Φ = (whileC c body ρ r K Φ)

def wpL (T : Tb) : List IB → Ev → Ph → Prop
  | [], ρ, Φ => Φ.nx ρ
  | r :: K, ρ, Φ => DW.wpB T r ρ { Φ with nx := fun ρ' => wpL T K ρ' Φ }
def exW (T : Tb) (b : IB) (K : List IB) (ρ : Ev) (Φ : Ph) : Prop := DW.wpB T b ρ { Φ with nx := fun ρ' => wpL T K ρ' Φ }
def lcIw (T : Tb) : IE → Tg → IF → List Nat → List D → List D → Ev → (List D → Ev → Prop) → Prop := fun elt tg ifs vs es acc ρ K => lcW (fun d ρ K => wpG tg d (wipeR ρ vs) fun ρ2 => DW.wpF T ifs ρ2 fun k ρ3 => (k = true → DW.wpE T elt ρ3 fun s ρ4 => frzK s fun y => K (some y) (rstR vs ρ ρ4)) ∧ (k = false → K none (rstR vs ρ ρ3))) es acc ρ K
def semOf (T : Tb) : Mng T where
  vE := DW.wpE T
  vA := DW.wpA T
  vJ := DW.wpJ T
  vT := DW.wpT T
  vF := DW.wpF T
  vI := DW.wpI T
  ex := exW T
  loopC := fun tg body ds ρ r K Φ => loopW (fun d ρ Φ => wpG tg d ρ fun ρ' => exW T body [] ρ' Φ) ds ρ { Φ with nx := fun ρ' => exW T r K ρ' Φ }
  whileC := fun c body ρ r K Φ => ∃ n, whileW (fun ρ Q => DW.wpT T c ρ Q) (fun ρ Φ => exW T body [] ρ Φ) n ρ { Φ with nx := fun ρ' => exW T r K ρ' Φ }
  lcC := fun elt tg ifs vs ds ρ Q => lcW (fun d ρ K => wpG tg d (wipeR ρ vs) fun ρ2 => DW.wpF T ifs ρ2 fun k ρ3 => (k = true → DW.wpE T elt ρ3 fun s ρ4 => frzK s fun y => K (some y) (rstR vs ρ ρ4)) ∧ (k = false → K none (rstR vs ρ ρ3))) ds [] ρ fun acc ρ2 => Q (.ow none (.lst acc)) ρ2
  lcI := lcIw T
  lc2C := fun elt tg ifs tg1 it1 ifs1 vs vs1 ds ρ Q => lc2W (fun d acc ρ K => wpG tg d (wipeR ρ vs) fun ρ2 => DW.wpF T ifs ρ2 fun k ρ3 => (k = true → DW.wpI T it1 ρ3 fun es ρ4 => acc.length + es.length ≤ 100000 ∧ lcIw T elt tg1 ifs1 vs1 es acc ρ4 fun acc' ρ5 => K acc' (rstR vs ρ ρ5)) ∧ (k = false → K acc (rstR vs ρ ρ3))) ds [] ρ fun acc ρ2 => Q (.ow none (.lst acc)) ρ2
  lcI_eq := fun _ _ _ _ _ _ _ _ => rfl
  lc2_eq := fun _ _ _ _ _ _ _ _ _ _ _ => rfl
  loop_eq := fun _ _ _ _ _ _ _ => rfl
  while_eq := fun _ _ _ _ _ _ => rfl
  lc_eq := fun _ _ _ _ _ _ _ => rfl
  E_nm := fun _ _ _ => rfl
  E_gl := fun _ _ _ => rfl
  E_cn := fun _ _ _ => rfl
  E_ng := fun _ _ _ => rfl
  E_nt := fun _ _ _ => rfl
  E_bn := fun _ _ _ _ _ => rfl
  E_cp := fun _ _ _ _ _ => rfl
  E_ch := fun _ _ _ _ _ _ _ => rfl
  E_an := fun _ _ _ _ => rfl
  E_ro := fun _ _ _ _ => rfl
  E_ie := fun _ _ _ _ _ => rfl
  E_tu := fun _ _ _ => rfl
  E_li := fun _ _ _ => rfl
  E_ix := fun _ _ _ _ => rfl
  E_ixo := fun _ _ _ _ => rfl
  E_s2 := fun _ _ _ _ _ => rfl
  E_sL := fun _ _ _ _ => rfl
  E_sH := fun _ _ _ _ => rfl
  E_rv := fun _ _ _ => rfl
  E_d0 := fun _ _ => rfl
  E_fs := fun _ _ _ => rfl
  E_bi := fun _ _ _ _ => rfl
  E_ln := fun _ _ _ => rfl
  E_isi := fun _ _ _ _ => rfl
  E_isj := fun _ _ _ _ _ => rfl
  E_call := fun _ _ _ _ => rfl
  E_calo := fun _ _ _ _ _ => rfl
  E_calq := fun _ _ _ _ => rfl
  E_caloq := fun _ _ _ _ _ => rfl
  E_told := fun _ _ _ _ => rfl
  E_lc := fun _ _ _ _ _ _ _ => rfl
  E_ss := fun _ _ _ => rfl
  E_mxd := fun _ _ _ _ => rfl
  E_c4 := fun _ _ _ _ _ _ _ _ _ => rfl
  E_ma := fun _ _ _ _ _ => rfl
  E_lc2 := fun _ _ _ _ _ _ _ _ _ _ _ => rfl
  A_nil := fun _ _ => rfl
  A_cons := fun _ _ _ _ => rfl
  J_nil := fun _ _ _ => rfl
  J_cons := fun _ _ _ _ _ => rfl
  T_cp := fun _ _ _ _ _ => rfl
  T_ch := fun _ _ _ _ _ _ _ => rfl
  T_nt := fun _ _ _ => rfl
  T_an := fun _ _ _ _ => rfl
  T_ro := fun _ _ _ _ => rfl
  T_v := fun _ _ _ => rfl
  T_vl := fun _ _ _ => rfl
  T_c4 := fun _ _ _ _ _ _ _ _ _ => rfl
  F_nil := fun _ _ => rfl
  F_one := fun _ _ _ => rfl
  I_e := fun _ _ _ => rfl
  I_r1 := fun _ _ _ => rfl
  I_r2 := fun _ _ _ _ => rfl
  I_en := fun _ _ _ => rfl
  I_zp := fun _ _ _ _ => rfl
  I_z3 := fun _ _ _ _ _ => rfl
  ex_nil0 := fun _ _ => rfl
  ex_nil1 := fun _ _ _ _ => rfl
  ex_set := fun _ _ _ _ _ _ => rfl
  ex_asg := fun _ _ _ _ _ _ => rfl
  ex_par := fun _ _ _ _ _ _ _ _ => rfl
  ex_par3 := fun _ _ _ _ _ _ _ _ _ _ => rfl
  ex_app := fun _ _ _ _ _ _ => rfl
  ex_sti := fun _ _ _ _ _ _ _ => rfl
  ex_sti2 := fun _ _ _ _ _ _ _ _ _ => rfl
  ex_augs := fun _ _ _ _ _ _ _ _ => rfl
  ex_aug := fun _ _ _ _ _ _ _ => rfl
  ex_iff := fun _ _ _ _ _ _ _ => rfl
  ex_ret := fun _ _ _ _ _ => rfl
  ex_retN := fun _ _ _ _ => rfl
  ex_pass := fun _ _ _ _ => rfl
  ex_brk := fun _ _ _ _ => rfl
  ex_cnt := fun _ _ _ _ => rfl
  ex_drop := fun _ _ _ _ _ => rfl
  ex_rai := fun _ _ _ _ _ _ => rfl
  ex_raif := fun _ _ _ _ _ _ => rfl
  ex_dead := fun _ _ _ _ => rfl
  ex_tryq := fun _ _ _ _ _ _ _ => rfl
  ex_fo := fun _ _ _ _ _ _ _ => rfl
  ex_wh := fun _ _ _ _ _ _ => rfl

variable {T : Tb}
/-- a def of data -/
def runP (S : Mng T) (ns : Nat) (body : IB) (ds : List D) (Q : D → Prop) : Prop := S.ex body [] (ds.map .pd ++ List.replicate (ns - ds.length) .un) { nx := fun _ => Q .none, rt := fun s _ => frzK s Q }
/-- a def that may change the list it gets first -/
def runO (S : Mng T) (ns : Nat) (body : IB) (rw : List D) (ds : List D) (Q : D → List D → Prop) : Prop := S.ex body [] (.ow (some 0) (.lst rw) :: ds.map .pd ++ List.replicate (ns - (ds.length + 1)) .un) { nx := fun ρ' => ow0 ρ' fun rw' => Q .none rw', rt := fun s ρ' => frzK s fun d => ow0 ρ' fun rw' => Q d rw' }
theorem wpRun_of {ns : Nat} {body : IB} {ds : List D} {Q : D → Prop} (h : ∀ S : Mng T, runP S ns body ds Q) : wpRun T ns body ds Q := h (semOf T)
theorem wpRunO_of {ns : Nat} {body : IB} {rw ds : List D} {Q : D → List D → Prop} (h : ∀ S : Mng T, runO S ns body rw ds Q) : wpRunO T ns body rw ds Q := h (semOf T)
theorem ph_nx {a : Ev → Prop} {b : Sl → Ev → Prop} {c d : Ev → Prop} : (Ph.mk a b c d).nx = a := rfl
theorem ph_rt {a : Ev → Prop} {b : Sl → Ev → Prop} {c d : Ev → Prop} : (Ph.mk a b c d).rt = b := rfl
theorem ph_bk {a : Ev → Prop} {b : Sl → Ev → Prop} {c d : Ev → Prop} : (Ph.mk a b c d).bk = c := rfl
theorem ph_ct {a : Ev → Prop} {b : Sl → Ev → Prop} {c d : Ev → Prop} : (Ph.mk a b c d).ct = d := rfl
theorem Mng.loop (S : Mng T) {tg : Tg} {body r : IB} {K : List IB} {ρ : Ev} {Φ : Ph} {α : Type} {l : List α} {enc : α → D} (I : List α → Ev → Prop) (h0 : I [] ρ)
    (ht : ∀ (pre : List α) (x : α) (post : List α) (ρ : Ev) (Φ' : Ph), l = pre ++ x :: post → I pre ρ → (∀ ρ', I (pre ++ [x]) ρ' → Φ'.nx ρ') → (∀ ρ', I (pre ++ [x]) ρ' → Φ'.ct ρ') → Φ'.rt = Φ.rt → (∀ ρ', Φ'.bk ρ' = S.ex r K ρ' Φ) → wpG tg (enc x) ρ fun ρ' => S.ex body [] ρ' Φ')
    (hd : ∀ ρ, I l ρ → S.ex r K ρ Φ) : S.loopC tg body (l.map enc) ρ r K Φ := by
  rw [S.loop_eq]
  exact loop_i l enc I h0 (fun pre x post ρ Φ' hl hi h1 h2 h3 h4 => ht pre x post ρ Φ' hl hi h1 h2 h3 fun ρ' => by rw [h4]) hd
theorem Mng.whi (S : Mng T) {c : IT} {body r : IB} {K : List IB} {ρ : Ev} {Φ : Ph} (I : Nat → Ev → Prop) (m0 : Nat) (h0 : I m0 ρ)
    (ht : ∀ (m : Nat) (ρ : Ev) (Φ' : Ph), I m ρ → (∀ ρ' m', m' < m → I m' ρ' → Φ'.nx ρ') → (∀ ρ' m', m' < m → I m' ρ' → Φ'.ct ρ') → Φ'.rt = Φ.rt → (∀ ρ', Φ'.bk ρ' = S.ex r K ρ' Φ) → S.vT c ρ fun k ρ1 => (k = true → S.ex body [] ρ1 Φ') ∧ (k = false → S.ex r K ρ1 Φ)) : S.whileC c body ρ r K Φ := by
  rw [S.while_eq]
  have go : ∀ (n m : Nat) (ρ : Ev), m < n → I m ρ → whileW (fun ρ Q => S.vT c ρ Q) (fun ρ Φ => S.ex body [] ρ Φ) n ρ { Φ with nx := fun ρ' => S.ex r K ρ' Φ } := by
    intro n
    induction n with
    | zero => intro m ρ h; omega
    | succ n ih =>
      intro m ρ h hi
      exact ht m ρ _ hi (fun ρ' m' h' hi' => ih m' ρ' (by omega) hi') (fun ρ' m' h' hi' => ih m' ρ' (by omega) hi') rfl fun ρ' => rfl
  exact ⟨m0 + 1, go _ m0 ρ (by omega) h0⟩
/-- a comprehension whose items are told by g -/
theorem Mng.lci (S : Mng T) {elt : IE} {tg : Tg} {ifs : IF} {vs : List Nat} {ρ : Ev} {Q : Sl → Ev → Prop} {α : Type} {l : List α} {enc : α → D} (g : α → Option D)
    (ht : ∀ x ∈ l, ∀ K : Option D → Ev → Prop, K (g x) ρ → wpG tg (enc x) (wipeR ρ vs) fun ρ2 => S.vF ifs ρ2 fun k ρ3 => (k = true → S.vE elt ρ3 fun s ρ4 => frzK s fun y => K (some y) (rstR vs ρ ρ4)) ∧ (k = false → K none (rstR vs ρ ρ3)))
    (q : Q (.ow none (.lst (l.filterMap g))) ρ) : S.lcC elt tg ifs vs (l.map enc) ρ Q := by
  rw [S.lc_eq]
  exact lc_i l enc g ρ ht q
theorem Mng.lcm (S : Mng T) {elt : IE} {tg : Tg} {ifs : IF} {vs : List Nat} {ρ : Ev} {Q : Sl → Ev → Prop} {α : Type} {l : List α} {enc : α → D} (g : α → D)
    (ht : ∀ x ∈ l, ∀ K : Option D → Ev → Prop, K (some (g x)) ρ → wpG tg (enc x) (wipeR ρ vs) fun ρ2 => S.vF ifs ρ2 fun k ρ3 => (k = true → S.vE elt ρ3 fun s ρ4 => frzK s fun y => K (some y) (rstR vs ρ ρ4)) ∧ (k = false → K none (rstR vs ρ ρ3)))
    (q : Q (.ow none (.lst (l.map g))) ρ) : S.lcC elt tg ifs vs (l.map enc) ρ Q := by
  rw [S.lc_eq]
  exact lc_m l enc g ρ ht q
theorem lc_ia {α : Type} {turn : D → Ev → (Option D → Ev → Prop) → Prop} {Q : List D → Ev → Prop} (l : List α) (enc : α → D) (g : α → Option D) (ρ : Ev) (acc0 : List D)
    (ht : ∀ x ∈ l, ∀ K : Option D → Ev → Prop, K (g x) ρ → turn (enc x) ρ K) (q : Q (acc0 ++ l.filterMap g) ρ) : lcW turn (l.map enc) acc0 ρ Q := by
  have go : ∀ (post : List α) (acc : List D), (∀ x ∈ post, x ∈ l) → Q (acc ++ post.filterMap g) ρ → lcW turn (post.map enc) acc ρ Q := by
    intro post
    induction post with
    | nil =>
      intro acc _ h
      simpa [lcW] using h
    | cons x post ih =>
      intro acc hm h
      refine ht x (hm x List.mem_cons_self) _ (ih _ (fun y hy => hm y (List.mem_cons_of_mem _ hy)) ?_)
      rw [List.filterMap_cons] at h
      cases e : g x with
      | none => simpa [e] using h
      | some d => simpa [e] using h
  exact go l acc0 (fun _ h => h) q
theorem lc2_ia {α : Type} {turn : D → List D → Ev → (List D → Ev → Prop) → Prop} {Q : List D → Ev → Prop} (l : List α) (enc : α → D) (g : α → List D) (ρ : Ev)
    (ht : ∀ x ∈ l, ∀ (acc : List D) (K : List D → Ev → Prop), acc.length ≤ (l.flatMap g).length → K (acc ++ g x) ρ → turn (enc x) acc ρ K) (q : Q (l.flatMap g) ρ) : lc2W turn (l.map enc) [] ρ Q := by
  have go : ∀ (post pre : List α), l = pre ++ post → lc2W turn (post.map enc) (pre.flatMap g) ρ Q := by
    intro post
    induction post with
    | nil =>
      intro pre e
      rw [List.append_nil] at e
      subst e
      exact q
    | cons x post ih =>
      intro pre e
      have z := ih (pre ++ [x]) (by rw [e]; simp)
      have e2 : (pre ++ [x]).flatMap g = pre.flatMap g ++ g x := by simp
      rw [e2] at z
      exact ht x (by rw [e]; simp) (pre.flatMap g) (fun acc ρ' => lc2W turn (post.map enc) acc ρ' Q) (by rw [e, List.flatMap_append, List.length_append]; omega) z
  exact go l [] rfl
theorem Mng.lcIi (S : Mng T) {elt : IE} {tg : Tg} {ifs : IF} {vs : List Nat} {ρ : Ev} {acc : List D} {Q : List D → Ev → Prop} {α : Type} {l : List α} {enc : α → D} (g : α → Option D)
    (ht : ∀ x ∈ l, ∀ K : Option D → Ev → Prop, K (g x) ρ → wpG tg (enc x) (wipeR ρ vs) fun ρ2 => S.vF ifs ρ2 fun k ρ3 => (k = true → S.vE elt ρ3 fun s ρ4 => frzK s fun y => K (some y) (rstR vs ρ ρ4)) ∧ (k = false → K none (rstR vs ρ ρ3)))
    (q : Q (acc ++ l.filterMap g) ρ) : S.lcI elt tg ifs vs (l.map enc) acc ρ Q := by
  rw [S.lcI_eq]
  exact lc_ia l enc g ρ acc ht q
theorem Mng.lcIm (S : Mng T) {elt : IE} {tg : Tg} {ifs : IF} {vs : List Nat} {ρ : Ev} {acc : List D} {Q : List D → Ev → Prop} {α : Type} {l : List α} {enc : α → D} (g : α → D)
    (ht : ∀ x ∈ l, ∀ K : Option D → Ev → Prop, K (some (g x)) ρ → wpG tg (enc x) (wipeR ρ vs) fun ρ2 => S.vF ifs ρ2 fun k ρ3 => (k = true → S.vE elt ρ3 fun s ρ4 => frzK s fun y => K (some y) (rstR vs ρ ρ4)) ∧ (k = false → K none (rstR vs ρ ρ3)))
    (q : Q (acc ++ l.map g) ρ) : S.lcI elt tg ifs vs (l.map enc) acc ρ Q :=
  S.lcIi (fun x => some (g x)) ht (by rw [show l.filterMap (fun x => some (g x)) = l.map g from by induction l <;> simp_all]; exact q)
theorem Mng.lc2i (S : Mng T) {elt : IE} {tg tg1 : Tg} {it1 : II} {ifs ifs1 : IF} {vs vs1 : List Nat} {ρ : Ev} {Q : Sl → Ev → Prop} {α : Type} {l : List α} {enc : α → D} (g : α → List D)
    (ht : ∀ x ∈ l, ∀ (acc : List D) (K : List D → Ev → Prop), acc.length ≤ (l.flatMap g).length → K (acc ++ g x) ρ → wpG tg (enc x) (wipeR ρ vs) fun ρ2 => S.vF ifs ρ2 fun k ρ3 => (k = true → S.vI it1 ρ3 fun es ρ4 => acc.length + es.length ≤ 100000 ∧ S.lcI elt tg1 ifs1 vs1 es acc ρ4 fun acc' ρ5 => K acc' (rstR vs ρ ρ5)) ∧ (k = false → K acc (rstR vs ρ ρ3)))
    (q : Q (.ow none (.lst (l.flatMap g))) ρ) : S.lc2C elt tg ifs tg1 it1 ifs1 vs vs1 (l.map enc) ρ Q := by
  rw [S.lc2_eq]
  exact lc2_ia l enc g ρ ht q
end DW

set_option Elab.async false
set_option autoImplicit false
set_option linter.all false
set_option maxRecDepth 100000
/-! SEM2: comprehensions whose turns change what is owned -/
namespace DW
open PySem PySem.Spec L2
theorem lc_x {α : Type} {turn : D → Ev → (Option D → Ev → Prop) → Prop} {Q : List D → Ev → Prop} (l : List α) (enc : α → D) (I : List α → List D → Ev → Prop) {ρ : Ev} (h0 : I [] [] ρ)
    (ht : ∀ (pre : List α) (x : α) (post : List α) (acc : List D) (ρ : Ev) (K : Option D → Ev → Prop), l = pre ++ x :: post → I pre acc ρ → (∀ r ρ', I (pre ++ [x]) (acc ++ r.toList) ρ' → K r ρ') → turn (enc x) ρ K)
    (hd : ∀ acc ρ, I l acc ρ → Q acc ρ) : lcW turn (l.map enc) [] ρ Q := by
  have go : ∀ (post pre : List α) (acc : List D) (ρ : Ev), l = pre ++ post → I pre acc ρ → lcW turn (post.map enc) acc ρ Q := by
    intro post
    induction post with
    | nil =>
      intro pre acc ρ e h
      rw [List.append_nil] at e
      subst e
      exact hd acc ρ h
    | cons x post ih =>
      intro pre acc ρ e h
      exact ht pre x post acc ρ (fun r ρ' => lcW turn (post.map enc) (acc ++ r.toList) ρ' Q) e h fun r ρ' h' => ih (pre ++ [x]) _ ρ' (by rw [e]; simp) h'
  exact go l [] [] ρ rfl h0
theorem Mng.lcx {T : Tb} (S : Mng T) {elt : IE} {tg : Tg} {ifs : IF} {vs : List Nat} {ρ : Ev} {Q : Sl → Ev → Prop} {α : Type} {l : List α} {enc : α → D} (I : List α → List D → Ev → Prop) (h0 : I [] [] ρ)
    (ht : ∀ (pre : List α) (x : α) (post : List α) (acc : List D) (ρ : Ev) (K : Option D → Ev → Prop), l = pre ++ x :: post → I pre acc ρ → (∀ r ρ', I (pre ++ [x]) (acc ++ r.toList) ρ' → K r ρ') → wpG tg (enc x) (wipeR ρ vs) fun ρ2 => S.vF ifs ρ2 fun k ρ3 => (k = true → S.vE elt ρ3 fun s ρ4 => frzK s fun y => K (some y) (rstR vs ρ ρ4)) ∧ (k = false → K none (rstR vs ρ ρ3)))
    (hd : ∀ acc ρ, I l acc ρ → Q (.ow none (.lst acc)) ρ) : S.lcC elt tg ifs vs (l.map enc) ρ Q := by
  rw [S.lc_eq]
  exact lc_x l enc I h0 ht hd
end DW

set_option Elab.async false
set_option autoImplicit false
set_option linter.all false
set_option maxRecDepth 100000
/-! TOPS: the defs of a law put together -/
namespace DW
open PySem PySem.Spec L2
open PyProof.Rows hiding St
abbrev Co := List D → List D → (D → List D → Prop) → (Exn → Prop) → Prop
def xk0 : Exn → Prop := fun _ => False
def fiC (c : Ct) : Fi := fun as Pq xk => ∃ ds, as = ds.map .pd ∧ c ds (fun d => Pq (.pd d) as) xk
def fiK (c : Co) : Fi := fun as Pq xk => ∃ rw ds, as = .ow (some 0) (.lst rw) :: ds.map .pd ∧ c rw ds (fun d rw' => Pq (.pd d) (.ow (some 0) (.lst rw') :: ds.map .pd)) xk
def mkT (p : List (Str × Ct)) (o : List (Str × Co)) (g : List (Str × D)) : Tb :=
  { fp := fun x => ((p.lookup x).getD fun _ _ _ => False), fo := fun x => ((o.lookup x).getD fun _ _ _ _ => False), gl := fun x => g.lookup x, xk := xk0 }
/-- .. of a law that tells errors -/
def mkTx (p : List (Str × Ct)) (o : List (Str × Co)) (g : List (Str × D)) (tv : D → D) (tx : Exn → Option D) : Tb :=
  { fp := fun x => ((p.lookup x).getD fun _ _ _ => False), fo := fun x => ((o.lookup x).getD fun _ _ _ _ => False), gl := fun x => g.lookup x, xk := xk0, tv := tv, tx := tx }
section
variable [CF : Cfg]
variable {Pr : Program} {w : World} {K : PySem.W.Frag} {mg : Str → Option Value} {base : Heap} {T : Tb} {P : Prm} {k : Nat} {f : Str} {st : Stmt} {fa : Addr} {fd : FuncData} {ps : List Str} {m : Nat} {body : IB} {l : List Str}
def CalsP (Pr : Program) (w : World) (K : PySem.W.Frag) (mg : Str → Option Value) (base : Heap) (T : Tb) (k : Nat) (l : List Str) : Prop := ∀ f ∈ l, ∃ j ps, j ≤ k ∧ DW.Cal Pr w K mg base j f ps (fiP T f)
def CalsO (Pr : Program) (w : World) (K : PySem.W.Frag) (mg : Str → Option Value) (base : Heap) (T : Tb) (k : Nat) (l : List Str) : Prop := ∀ f ∈ l, ∃ j ps, j ≤ k ∧ DW.Cal Pr w K mg base j f ps (fiO T f)
def Blts (mg : Str → Option Value) (l : List Str) : Prop := ∀ x ∈ l, mg x = none
def Gls (K : PySem.W.Frag) (mg : Str → Option Value) (g : List (Str × D)) : Prop := ∀ x d, g.lookup x = some d → ∃ u v, mg x = some u ∧ RelV v u ∧ ∀ Hs, Rp K Hs v d
theorem calsP_nil : CalsP Pr w K mg base T k [] := fun f h => nomatch h
theorem calsP_cons {c : Ct} {j : Nat} (C : DW.Cal Pr w K mg base j f ps (fiC c)) (hj : j ≤ k) (hT : T.fp f = c) (h : CalsP Pr w K mg base T k l) : CalsP Pr w K mg base T k (f :: l) := fun g hg => by
  rcases List.mem_cons.mp hg with rfl | hg
  · refine ⟨j, ps, hj, ?_⟩
    have e : fiP T g = fiC c := by
      unfold fiP fiC
      rw [hT]
    rw [e]
    exact C
  · exact h g hg
theorem calsO_nil : CalsO Pr w K mg base T k [] := fun f h => nomatch h
theorem calsO_cons {c : Co} {j : Nat} (C : DW.Cal Pr w K mg base j f ps (fiK c)) (hj : j ≤ k) (hT : T.fo f = c) (h : CalsO Pr w K mg base T k l) : CalsO Pr w K mg base T k (f :: l) := fun g hg => by
  rcases List.mem_cons.mp hg with rfl | hg
  · refine ⟨j, ps, hj, ?_⟩
    have e : fiO T g = fiK c := by
      unfold fiO fiK
      rw [hT]
    rw [e]
    exact C
  · exact h g hg
def Mats (mg : Str → Option Value) (l : List Str) : Prop := ∀ x ∈ l, mg x = mthV x
omit CF in
theorem mats_nil : Mats mg [] := fun f h => nomatch h
omit CF in
theorem mats_cons {x : Str} {l : List Str} (hx : mg x = mthV x) (h : Mats mg l) : Mats mg (x :: l) := fun g hg => by
  rcases List.mem_cons.mp hg with rfl | hg
  · exact hx
  · exact h g hg
omit CF in
theorem blts_nil : Blts mg [] := fun f h => nomatch h
omit CF in
theorem blts_cons {x : Str} (hx : mg x = none) (h : Blts mg l) : Blts mg (x :: l) := fun g hg => by
  rcases List.mem_cons.mp hg with rfl | hg
  · exact hx
  · exact h g hg
omit CF in
theorem gls_nil : Gls K mg [] := fun x d h => nomatch h
omit CF in
theorem gls_int {x : Str} {i : Int} {t : Tok} {g : List (Str × D)} (hx : mg x = some (.int i t)) (h : Gls K mg g) : Gls K mg ((x, .int i) :: g) := fun y d hy => by
  rw [List.lookup_cons] at hy
  by_cases e : y = x
  · subst e
    rw [beq_self_eq_true] at hy
    cases hy
    exact ⟨_, .int i, hx, ⟨t, rfl⟩, fun _ => .int i⟩
  · have e' : (y == x) = false := by simpa using e
    rw [e'] at hy
    exact h y d hy
/-- a def of data -/
theorem fnC {c : Ct} (nd : P.N.Nodup) (nq : P.q = false) (cp : CalsP Pr w K mg base T k P.F) (co : CalsO Pr w K mg base T k P.O) (bl : Blts mg P.B) (mt : Mats mg P.M) (gl : ∀ x d, T.gl x = some d → ∃ u v, mg x = some u ∧ RelV v u ∧ ∀ Hs, Rp K Hs v d) (XX : Xs Pr w K mg base T P k f st fa fd)
    (F : Fun K f f st fa fd) (S : FnScope P.N ps (defScope st)) (hc : cB P m (defScope st) (defBody st) = some body)
    (hw : ∀ (xk : Exn → Prop) (S : Mng (T.at xk)) ds Q, c ds Q xk → ds.length = ps.length ∧ runP S P.N.length body ds Q) : FnOk Pr w K mg base (L2.CX Pr w) (k + 1) fa fd ps (SpD K (fiC c)) := by
  refine fn_ok F S (fun as Pq xk h => ?_) (fun cdv A outer s H E vs as Pq xk hcd hr h tk => ?_)
  · obtain ⟨ds, rfl, h⟩ := h
    rw [List.length_map]
    exact (hw xk (semOf (T.at xk)) _ _ h).1
  · obtain ⟨ds, rfl, h⟩ := h
    have z := wpRun_of (T := T.at xk) fun S => (hw xk S _ _ h).2
    unfold wpRun at z
    have W : Ws Pr w K mg base T P k := ⟨nd, nq, cp, co, bl, mt, gl⟩
    have b := (sndB m).2 (gd_of (f := f) (st := st) (fa := fa) (cdv := cdv) (A := A) (s := s) (H := H) (outer := outer) (E := E) W XX hcd S.kind hr tk) rfl hc vs _ _ z
    rw [List.length_map]
    exact bx_frz (R := fun d _ => Pq (.pd d) (ds.map .pd)) (BX.mono b (fun ρ q => ⟨_, back_pd, q⟩) (fun _ _ q => q) (fun _ q => q) (fun _ q => q)) fun d ρ' q => ⟨_, back_pd, q⟩
theorem calC {c : Ct} (nd : P.N.Nodup) (nq : P.q = false) (cp : CalsP Pr w K mg base T k P.F) (co : CalsO Pr w K mg base T k P.O) (bl : Blts mg P.B) (mt : Mats mg P.M) (gl : ∀ x d, T.gl x = some d → ∃ u v, mg x = some u ∧ RelV v u ∧ ∀ Hs, Rp K Hs v d) (XX : Xs Pr w K mg base T P k f st fa fd)
    (F : Fun K f f st fa fd) (hm : mg f = some (.ref fa)) (hb : Binds K fd ps []) (S : FnScope P.N ps (defScope st)) (hc : cB P m (defScope st) (defBody st) = some body)
    (hw : ∀ (xk : Exn → Prop) (S : Mng (T.at xk)) ds Q, c ds Q xk → ds.length = ps.length ∧ runP S P.N.length body ds Q) : DW.Cal Pr w K mg base (k + 1) f ps (fiC c) := Cal.mk' (fnC nd nq cp co bl mt gl XX F S hc hw) F hm hb
theorem calK {c : Co} (nd : P.N.Nodup) (nq : P.q = false) (cp : CalsP Pr w K mg base T k P.F) (co : CalsO Pr w K mg base T k P.O) (bl : Blts mg P.B) (mt : Mats mg P.M) (gl : ∀ x d, T.gl x = some d → ∃ u v, mg x = some u ∧ RelV v u ∧ ∀ Hs, Rp K Hs v d) (XX : Xs Pr w K mg base T P k f st fa fd)
    (F : Fun K f f st fa fd) (hm : mg f = some (.ref fa)) (hb : Binds K fd ps []) (S : FnScope P.N ps (defScope st)) (hc : cB P m (defScope st) (defBody st) = some body)
    (hw : ∀ (xk : Exn → Prop) (S : Mng (T.at xk)) rw ds Q, c rw ds Q xk → ds.length + 1 = ps.length ∧ runO S P.N.length body rw ds Q) : DW.Cal Pr w K mg base (k + 1) f ps (fiK c) := by
  refine Cal.mk' (fn_ok F S (fun as Pq xk h => ?_) (fun cdv A outer s H E vs as Pq xk hcd hr h tk => ?_)) F hm hb
  · obtain ⟨rw, ds, rfl, h⟩ := h
    rw [List.length_cons, List.length_map]
    exact (hw xk (semOf (T.at xk)) _ _ _ h).1
  · obtain ⟨rw, ds, rfl, h⟩ := h
    have z := wpRunO_of (T := T.at xk) fun S => (hw xk S _ _ _ h).2
    unfold wpRunO at z
    have W : Ws Pr w K mg base T P k := ⟨nd, nq, cp, co, bl, mt, gl⟩
    have b := (sndB m).2 (gd_of (f := f) (st := st) (fa := fa) (cdv := cdv) (A := A) (s := s) (H := H) (outer := outer) (E := E) W XX hcd S.kind hr tk) rfl hc vs _ _ z
    rw [List.length_cons, List.length_map]
    exact bxO_end b
/-- a def that is never called so -/
def cBot : Ct := fun _ _ _ => False
theorem calBot (F : Fun K f f st fa fd) (hm : mg f = some (.ref fa)) (hb : Binds K fd ps []) {N : List Str} (S : FnScope N ps (defScope st)) : DW.Cal Pr w K mg base 1 f ps (fiC cBot) :=
  Cal.mk' (fn_ok (k := 0) F S (fun as Pq xk h => (h.choose_spec.2).elim) (fun cdv A outer s H E vs as Pq xk hcd hr h tk => (h.choose_spec.2).elim)) F hm hb
/-- the law itself -/
def c_law : Ct := fun ds Q _ => match ds with
  | [d] => ∃ ns : List Int, d = frl (ns.map .int) ∧ ns.length ≤ 63 ∧ Q (.bool true)
  | _ => False
theorem law_ok {k : Nat} {ps : List Str} {base : Heap} (h : FnOk Pr w K mg base (L2.CX Pr w) k fa fd ps (SpD K (fiC c_law))) : FnOk Pr w K mg base (L2.CX Pr w) k fa fd ps (SpD K lawD) := by
  refine h.imp fun vs H Q E z => ?_
  obtain ⟨G, as, Pq, xk, r, hφ, kq⟩ := z
  refine ⟨G, as, Pq, xk, r, ?_, kq⟩
  obtain ⟨ns, rfl, hl, q⟩ := hφ
  exact ⟨[frl (ns.map .int)], rfl, ns, rfl, hl, q⟩
omit CF in
theorem cx_end {H : Hp} {s : Shared} {e : Value} {s' : Shared} (h : L2.CX Pr w [] H s (fun _ _ _ => False) e s') : False := by
  obtain ⟨_, _, _, _, _, _, _, _, _, _, _, _, z⟩ := h
  exact z
end
end DW

set_option Elab.async false
set_option autoImplicit false
set_option linter.all false
/-! M1: heat above a level, two ways -/
namespace My
open DW PySem
theorem ins_len {x : Int} : ∀ (l : List Int), (ins x l).length ≤ l.length + 1
  | [] => by simp [ins]
  | y :: r => by
    have := ins_len (x := x) r
    unfold ins
    split
    · simp
    · split
      · simp
      · simp only [List.length_cons]
        omega
theorem ssort_len : ∀ (l : List Int), (ssort l).length ≤ l.length
  | [] => by simp [ssort]
  | x :: r => by
    have h1 := ssort_len r
    have h2 := ins_len (x := x) (ssort r)
    simp only [ssort, List.length_cons]
    omega
theorem levels_len {p : Prob} (h : OkP p) : (levelsOf (bodies p)).length ≤ 62 := by
  have h1 := ssort_len (ends2 (bodies p))
  have h2 := ends2_len (bodies p)
  have h3 := h.len
  unfold levelsOf
  rw [List.length_reverse]
  omega
theorem levels_ne {p : Prob} (h : OkP p) : levelsOf (bodies p) ≠ [] := by
  intro e
  have hb : bodies p ≠ [] := by
    intro e2
    unfold bodies at e2
    have := h.ne
    simp at e2
    rcases this with z | z
    · exact z e2.1
    · exact z e2.2
  obtain ⟨b, r, hbr⟩ := List.exists_cons_of_ne_nil hb
  have hm : b.1 ∈ levelsOf (bodies p) := by
    unfold levelsOf
    rw [List.mem_reverse, mem_ssort, hbr]
    simp [ends2]
  rw [e] at hm
  cases hm
theorem pick_first {ns : List Int} (h : ns ≠ []) : IxD (.list (ns.map .int)) 0 = some (.int (ns.head h)) := by
  cases ns with
  | nil => exact absurd rfl h
  | cons a r => 
    show L2.atI _ _ = _
    exact atI_at (by decide) rfl
def deg (lo hi e : Int) : Int := max 0 (hi - max lo e)
theorem deg_nat (lo e : Int) : ∀ (n : Nat), (((List.range n).map fun (i : Nat) => lo + (i : Int)).filter fun t => decide (e ≤ t)).length = (max 0 (lo + (n : Int) - max lo e)).toNat
  | 0 => by
    simp
    omega
  | n + 1 => by
    have h := deg_nat lo e n
    rw [List.range_succ, List.map_append, List.filter_append, List.length_append, h]
    simp only [List.map_cons, List.map_nil, List.filter_cons, List.filter_nil]
    by_cases z : e ≤ lo + (n : Int)
    · rw [if_pos (decide_eq_true z)]
      simp only [List.length_cons, List.length_nil]
      omega
    · rw [if_neg (by simpa using z)]
      simp only [List.length_nil]
      omega
theorem deg_len {lo hi e : Int} {g : Int → Option D} (h : ∀ t, g t = if decide (e ≤ t) = true then some (.int t) else none) (hh : lo ≤ hi) : (((rangeI lo hi).filterMap g).length : Int) = deg lo hi e := by
  rw [fm_if (f := PyData.int) h, List.length_map]
  unfold rangeI
  rw [deg_nat]
  unfold deg
  omega
def gS (g lv : Int) (l : List Tri) : Int := (l.map fun s => if s.2.1 < s.1 then s.2.2 * deg (min s.1 s.2.1) (max s.1 s.2.1) (lv + g) else 0).sum
def tS (lv : Int) (l : List Tri) : Int := (l.map fun s => if s.2.1 < s.1 then 0 else s.2.2 * deg (min s.1 s.2.1) (max s.1 s.2.1) lv).sum
def gB (g lv : Int) (l : List Bx) : Int := (l.map fun b => if 0 < b.2 ∧ lv < b.1 - g then b.2 else 0).sum
def tB (lv : Int) (l : List Bx) : Int := (l.map fun b => if b.2 < 0 ∧ lv < b.1 then -b.2 else 0).sum
theorem gB_add {g lv a h : Int} {l : List Bx} : gB g lv (l ++ [(a, h)]) = gB g lv l + if 0 < h ∧ lv < a - g then h else 0 := by simp [gB]
theorem tB_add {lv a h : Int} {l : List Bx} : tB lv (l ++ [(a, h)]) = tB lv l + if h < 0 ∧ lv < a then -h else 0 := by simp [tB]
theorem gS_add {g lv a b c : Int} {l : List Tri} : gS g lv (l ++ [(a, b, c)]) = gS g lv l + if b < a then c * deg (min a b) (max a b) (lv + g) else 0 := by simp [gS]
theorem tS_add {lv a b c : Int} {l : List Tri} : tS lv (l ++ [(a, b, c)]) = tS lv l + if b < a then 0 else c * deg (min a b) (max a b) lv := by simp [tS]
theorem givens_sum : ∀ (l : List Int), givens l = (l.map fun x => max 0 x).sum
  | [] => rfl
  | a :: r => by
    have h := givens_sum r
    unfold givens at h ⊢
    rw [List.filter_cons, List.map_cons, List.sum_cons, ← h]
    by_cases z : 0 < a
    · rw [if_pos (decide_eq_true z), List.sum_cons]
      omega
    · rw [if_neg (by simpa using z)]
      omega
theorem takens_sum : ∀ (l : List Int), -takens l = (l.map fun x => max 0 (-x)).sum
  | [] => rfl
  | a :: r => by
    have h := takens_sum r
    unfold takens at h ⊢
    rw [List.filter_cons, List.map_cons, List.sum_cons, ← h]
    by_cases z : a < 0
    · rw [if_pos (decide_eq_true z), List.sum_cons]
      omega
    · rw [if_neg (by simpa using z)]
      omega
theorem sum_congr {α : Type} {l : List α} {f g : α → Int} (h : ∀ x ∈ l, f x = g x) : (l.map f).sum = (l.map g).sum := by rw [List.map_congr_left h]
theorem above_S {g lv : Int} {s : Tri} (h : OkS s) : above (bodyS g s) lv true = if s.2.1 < s.1 then s.2.2 * deg (min s.1 s.2.1) (max s.1 s.2.1) (lv + g) else -(s.2.2 * deg (min s.1 s.2.1) (max s.1 s.2.1) lv) := by
  obtain ⟨a, b, c⟩ := s
  unfold OkS at h
  simp only at h
  unfold bodyS above deg
  simp only
  by_cases z : b < a
  · simp only [if_pos z]
    rw [if_neg (by omega), show (a - g - max (b - g) lv) = max a b - max (min a b) (lv + g) by omega]
  · simp only [if_neg z]
    rw [if_neg (by omega), show (b - max a lv) = max a b - max (min a b) lv by omega, Int.neg_mul]
theorem above_B {g lv : Int} {b : Bx} : above (bodyB g b) lv true = if lv < (if 0 < b.2 then b.1 - g else b.1) then b.2 else 0 := by
  unfold bodyB above
  simp
theorem mul_nn {c m : Int} (h : 1 ≤ c) : 0 ≤ c * max 0 m := Int.mul_nonneg (by omega) (by omega)
theorem given_eq {ss : List Tri} {bs : List Bx} {g : Int} (h : OkP (ss, bs, g)) (lv : Int) : gS g lv ss + gB g lv bs = givens (hsOf (ss, bs, g) lv) := by
  rw [givens_sum]
  unfold hsOf bodies
  simp only [List.map_append, List.sum_append, List.map_map]
  unfold gS gB
  congr 1
  · refine sum_congr fun s hs => ?_
    have o := h.ss s hs
    show _ = max 0 (above (bodyS g s) lv true)
    rw [above_S o]
    have n1 := mul_nn (m := max s.1 s.2.1 - max (min s.1 s.2.1) (lv + g)) o.2.2.2.2.1
    have n2 := mul_nn (m := max s.1 s.2.1 - max (min s.1 s.2.1) lv) o.2.2.2.2.1
    unfold deg
    split <;> omega
  · refine sum_congr fun b hb => ?_
    show _ = max 0 (above (bodyB g b) lv true)
    rw [above_B]
    by_cases z : 0 < b.2
    · simp only [z, if_true, true_and]
      split <;> omega
    · simp only [z, if_false, false_and]
      split <;> omega
theorem taken_eq {ss : List Tri} {bs : List Bx} {g : Int} (h : OkP (ss, bs, g)) (lv : Int) : tS lv ss + tB lv bs = -takens (hsOf (ss, bs, g) lv) := by
  rw [takens_sum]
  unfold hsOf bodies
  simp only [List.map_append, List.sum_append, List.map_map]
  unfold tS tB
  congr 1
  · refine sum_congr fun s hs => ?_
    have o := h.ss s hs
    show _ = max 0 (-above (bodyS g s) lv true)
    rw [above_S o]
    have n1 := mul_nn (m := max s.1 s.2.1 - max (min s.1 s.2.1) (lv + g)) o.2.2.2.2.1
    have n2 := mul_nn (m := max s.1 s.2.1 - max (min s.1 s.2.1) lv) o.2.2.2.2.1
    unfold deg
    split <;> omega
  · refine sum_congr fun b hb => ?_
    show _ = max 0 (-above (bodyB g b) lv true)
    rw [above_B]
    have o := (h.bs b hb).2.2.2.2
    by_cases z : 0 < b.2
    · simp only [z, if_true, show ¬ b.2 < 0 by omega, false_and, if_false]
      split <;> omega
    · simp only [z, if_false, show b.2 < 0 by omega, true_and]
      split <;> omega
end My

set_option Elab.async false
set_option autoImplicit false
set_option linter.all false
/-! M2: least heating, two ways -/
namespace My
open DW PySem
/-! ### greatest and least of a list -/
def lmax : List Int → Int
  | [] => 0
  | [a] => a
  | a :: b :: r => max a (lmax (b :: r))
theorem lmax_mem : ∀ {l : List Int}, l ≠ [] → lmax l ∈ l
  | [], h => absurd rfl h
  | [a], _ => by simp [lmax]
  | a :: b :: r, _ => by
    have h := lmax_mem (l := b :: r) (by simp)
    unfold lmax
    by_cases z : a ≤ lmax (b :: r)
    · rw [Int.max_eq_right z]
      exact List.mem_cons_of_mem _ h
    · rw [Int.max_eq_left (by omega)]
      exact List.mem_cons_self
theorem lmax_le : ∀ {l : List Int} {y : Int}, y ∈ l → y ≤ lmax l
  | [a], y, h => by
    rw [List.mem_singleton.mp h]
    exact Int.le_refl _
  | a :: b :: r, y, h => by
    unfold lmax
    rcases List.mem_cons.mp h with e | e
    · omega
    · have := lmax_le e
      omega
theorem lmax_of {l : List Int} {m : Int} (h1 : m ∈ l) (h2 : ∀ y ∈ l, y ≤ m) : lmax l = m := by
  have a := lmax_le h1
  have b := h2 _ (lmax_mem (List.ne_nil_of_mem h1))
  omega
/-! ### heat above a level -/
def AA (bs : List Tri) (lv : Int) (o : Bool) : Int := (bs.map fun b => above b lv o).sum
def whole (b : Tri) : Int := if b.1 = b.2.1 then b.2.2 else b.2.2 * (b.1 - b.2.1)
def needsAt (bs : List Tri) (ls : List Int) : List Int := ls.flatMap fun lv => [-AA bs lv true, -AA bs lv false]
def heatingOf (bs : List Tri) : Int := lmax (needsAt bs (levelsOf bs))
def rowAt (bs : List Tri) (h lv : Int) : Tri := (lv, h + AA bs lv true, h + AA bs lv false)
/-- lower below upper, or a box -/
def Up (b : Tri) : Prop := b.2.1 ≤ b.1
theorem bodies_up {p : Prob} (h : OkP p) : ∀ b ∈ bodies p, Up b := by
  intro b hb
  simp only [bodies, List.mem_append, List.mem_map] at hb
  rcases hb with ⟨s, hs, rfl⟩ | ⟨s, hs, rfl⟩
  · have := h.ss s hs
    unfold OkS at this
    unfold bodyS Up
    split <;> simp only <;> omega
  · unfold bodyB Up
    simp only
    omega
/-! ### the list of levels -/
theorem levels_asc (bs : List Tri) : (levelsOf bs).Pairwise (· > ·) := by
  unfold levelsOf
  rw [List.pairwise_reverse]
  exact ssort_asc _
theorem mem_levels {bs : List Tri} {b : Tri} (h : b ∈ bs) : b.1 ∈ levelsOf bs ∧ b.2.1 ∈ levelsOf bs := by
  unfold levelsOf
  rw [List.mem_reverse, List.mem_reverse, mem_ssort, mem_ssort]
  unfold ends2
  simp only [List.mem_flatMap]
  exact ⟨⟨b, h, by simp⟩, ⟨b, h, by simp⟩⟩
def lvAt (bs : List Tri) (i : Nat) : Int := (levelsOf bs).getD i 0
theorem lvAt_get {bs : List Tri} {i : Nat} (h : i < (levelsOf bs).length) : (levelsOf bs)[i]? = some (lvAt bs i) := by
  unfold lvAt
  rw [List.getD_eq_getElem?_getD, List.getElem?_eq_getElem h]
  rfl
theorem lv_dec {bs : List Tri} {i j : Nat} (h : i < j) (hj : j < (levelsOf bs).length) : lvAt bs j < lvAt bs i := by
  have a := List.pairwise_iff_getElem.mp (levels_asc bs) i j (by omega) hj h
  have e1 := lvAt_get (bs := bs) (i := i) (by omega)
  have e2 := lvAt_get (bs := bs) hj
  rw [List.getElem?_eq_getElem (by omega)] at e1
  rw [List.getElem?_eq_getElem hj] at e2
  have e1 := Option.some.inj e1
  have e2 := Option.some.inj e2
  omega
theorem lv_mem {bs : List Tri} {x : Int} (h : x ∈ levelsOf bs) : ∃ j, j < (levelsOf bs).length ∧ lvAt bs j = x := by
  obtain ⟨j, hj, e⟩ := List.mem_iff_getElem.mp h
  refine ⟨j, hj, ?_⟩
  have e1 := lvAt_get (bs := bs) hj
  rw [List.getElem?_eq_getElem hj] at e1
  rw [← e]
  exact (Option.some.inj e1).symm
/-- no level lies between two levels that follow one another -/
theorem lv_gap {bs : List Tri} {x : Int} {i : Nat} (h : x ∈ levelsOf bs) (hi : i + 1 < (levelsOf bs).length) : lvAt bs i ≤ x ∨ x ≤ lvAt bs (i + 1) := by
  obtain ⟨j, hj, rfl⟩ := lv_mem h
  by_cases z : j ≤ i
  · left
    by_cases e : j = i
    · rw [e]
      exact Int.le_refl _
    · have := lv_dec (bs := bs) (i := j) (j := i) (by omega) (by omega)
      omega
  · right
    by_cases e : j = i + 1
    · rw [e]
      exact Int.le_refl _
    · have := lv_dec (bs := bs) (i := i + 1) (j := j) (by omega) hj
      omega
theorem lv_top {bs : List Tri} {x : Int} (h : x ∈ levelsOf bs) : x ≤ lvAt bs 0 := by
  obtain ⟨j, hj, rfl⟩ := lv_mem h
  by_cases e : j = 0
  · rw [e]
    exact Int.le_refl _
  · have := lv_dec (bs := bs) (i := 0) (j := j) (by omega) hj
    omega
theorem lv_bottom {bs : List Tri} {x : Int} (h : x ∈ levelsOf bs) : lvAt bs ((levelsOf bs).length - 1) ≤ x := by
  obtain ⟨j, hj, rfl⟩ := lv_mem h
  by_cases e : j = (levelsOf bs).length - 1
  · rw [e]
    exact Int.le_refl _
  · have := lv_dec (bs := bs) (i := j) (j := (levelsOf bs).length - 1) (by omega) (by omega)
    omega
/-! ### sums -/
theorem sum_sub {α : Type} {f g h : α → Int} : ∀ {l : List α}, (∀ x ∈ l, f x + h x = g x) → (l.map f).sum + (l.map h).sum = (l.map g).sum
  | [], _ => rfl
  | a :: r, e => by
    have h1 := e a List.mem_cons_self
    have h2 := sum_sub (l := r) fun x hx => e x (List.mem_cons_of_mem _ hx)
    simp only [List.map_cons, List.sum_cons]
    omega
theorem sum_zero {α : Type} {f : α → Int} : ∀ {l : List α}, (∀ x ∈ l, f x = 0) → (l.map f).sum = 0
  | [], _ => rfl
  | a :: r, e => by
    have h1 := e a List.mem_cons_self
    have h2 := sum_zero (l := r) fun x hx => e x (List.mem_cons_of_mem _ hx)
    simp only [List.map_cons, List.sum_cons]
    omega
theorem AA_top {bs : List Tri} (hu : ∀ b ∈ bs, Up b) : AA bs (lvAt bs 0) true = 0 := by
  refine sum_zero fun b hb => ?_
  have h1 := lv_top (mem_levels hb).1
  have h2 := hu b hb
  unfold Up at h2
  unfold above
  split
  · rw [if_neg (by simp; omega)]
  · rw [show max (0 : Int) (b.1 - max b.2.1 (lvAt bs 0)) = 0 by omega, Int.mul_zero]
theorem AA_bottom {bs : List Tri} (hu : ∀ b ∈ bs, Up b) : AA bs (lvAt bs ((levelsOf bs).length - 1)) false = (bs.map whole).sum := by
  refine sum_congr fun b hb => ?_
  have h1 := lv_bottom (mem_levels hb).1
  have h3 := lv_bottom (mem_levels hb).2
  have h2 := hu b hb
  unfold Up at h2
  unfold above whole
  split
  · rw [if_pos (by simp; omega)]
  · rw [show max (0 : Int) (b.1 - max b.2.1 (lvAt bs ((levelsOf bs).length - 1))) = b.1 - b.2.1 by omega]
theorem above_bt {b : Tri} {L : Int} (z : b.1 = b.2.1) : above b L true = if L < b.1 then b.2.2 else 0 := by
  unfold above
  rw [if_pos z]
  simp
theorem above_bf {b : Tri} {L : Int} (z : b.1 = b.2.1) : above b L false = if L ≤ b.1 then b.2.2 else 0 := by
  unfold above
  rw [if_pos z]
  by_cases y : L ≤ b.1
  · rw [if_pos y, if_pos (by simp; omega)]
  · rw [if_neg y, if_neg (by simp; omega)]
theorem above_s {b : Tri} {L : Int} {o : Bool} (z : b.1 ≠ b.2.1) : above b L o = b.2.2 * max 0 (b.1 - max b.2.1 L) := by
  unfold above
  rw [if_neg z]
/-- a box's part at a level -/
def bxP (L : Int) (b : Tri) : Int := if b.1 = b.2.1 ∧ b.1 = L then b.2.2 else 0
theorem AA_box (bs : List Tri) (L : Int) : AA bs L true + (bs.map (bxP L)).sum = AA bs L false := by
  refine sum_sub fun b hb => ?_
  unfold bxP
  by_cases z : b.1 = b.2.1
  · rw [above_bt z, above_bf z]
    by_cases y : b.1 = L
    · rw [if_pos (show b.1 = b.2.1 ∧ b.1 = L from ⟨z, y⟩), if_neg (by omega), if_pos (by omega)]
      omega
    · rw [if_neg (show ¬ (b.1 = b.2.1 ∧ b.1 = L) from fun h => y h.2)]
      split <;> split <;> omega
  · rw [above_s z, above_s z, if_neg (show ¬ (b.1 = b.2.1 ∧ b.1 = L) from fun h => z h.1)]
    omega
/-- a stream's part between two levels -/
def stP (L L' : Int) (b : Tri) : Int := if b.1 ≠ b.2.1 ∧ L ≤ b.1 ∧ b.2.1 ≤ L' then b.2.2 * (L - L') else 0
theorem AA_step {bs : List Tri} (hu : ∀ b ∈ bs, Up b) {i : Nat} (hi : i + 1 < (levelsOf bs).length) : AA bs (lvAt bs i) false + (bs.map (stP (lvAt bs i) (lvAt bs (i + 1)))).sum = AA bs (lvAt bs (i + 1)) true := by
  refine sum_sub fun b hb => ?_
  have hd := lv_dec (bs := bs) (i := i) (j := i + 1) (by omega) hi
  have h1 := lv_gap (mem_levels hb).1 hi
  have h2 := lv_gap (mem_levels hb).2 hi
  have h3 := hu b hb
  unfold Up at h3
  generalize lvAt bs i = L at *
  generalize lvAt bs (i + 1) = L' at *
  unfold stP
  by_cases z : b.1 = b.2.1
  · rw [above_bt z, above_bf z, if_neg (show ¬ (b.1 ≠ b.2.1 ∧ L ≤ b.1 ∧ b.2.1 ≤ L') from fun h => h.1 z)]
    split <;> split <;> omega
  · rw [above_s z, above_s z]
    by_cases y : L ≤ b.1 ∧ b.2.1 ≤ L'
    · rw [if_pos (show b.1 ≠ b.2.1 ∧ L ≤ b.1 ∧ b.2.1 ≤ L' from ⟨z, y⟩), ← Int.mul_add, show max (0 : Int) (b.1 - max b.2.1 L) + (L - L') = max 0 (b.1 - max b.2.1 L') by omega]
    · rw [if_neg (show ¬ (b.1 ≠ b.2.1 ∧ L ≤ b.1 ∧ b.2.1 ≤ L') from fun h => y h.2), Int.add_zero, show max (0 : Int) (b.1 - max b.2.1 L) = max 0 (b.1 - max b.2.1 L') by omega]
end My

set_option Elab.async false
set_option autoImplicit false
set_option linter.all false
/-! M3: the flow down the levels, by the numbers of streams and boxes -/
namespace My
open DW PySem
theorem sum_by {α : Type} (L : List α) (F : Int → Int) (f : α → Int) (h : ∀ (i : Nat) (b : α), L[i]? = some b → F (i : Int) = f b) : ((rangeI 0 (L.length : Int)).map F).sum = (L.map f).sum := by
  have e1 : rangeI 0 (L.length : Int) = (List.range L.length).map fun (i : Nat) => (i : Int) := by
    unfold rangeI
    rw [show ((L.length : Int) - 0).toNat = L.length by omega]
    exact List.map_congr_left fun i _ => by omega
  have e2 : (List.range L.length).map (fun (i : Nat) => F (i : Int)) = L.map f := by
    refine List.ext_getElem? fun i => ?_
    rw [List.getElem?_map, List.getElem?_map]
    by_cases z : i < L.length
    · rw [List.getElem?_range z, List.getElem?_eq_getElem z]
      exact congrArg some (h i _ (List.getElem?_eq_getElem z))
    · rw [List.getElem?_eq_none (by simp; omega), List.getElem?_eq_none (by omega)]
      rfl
  rw [e1, List.map_map, ← e2]
  rfl
/-- what stands at number i -/
theorem span_at {ss : List Tri} {bs : List Bx} {g : Int} (h : OkP (ss, bs, g)) {i : Nat} {b : Tri} (hb : (bodies (ss, bs, g))[i]? = some b) :
    upOf (ss, bs, g) i = b.1 ∧ loOf (ss, bs, g) i = b.2.1 ∧ (if i < ss.length then b.2.2 = (if gvOf (ss, bs, g) i = true then raOf (ss, bs, g) i else -raOf (ss, bs, g) i) ∧ 1 ≤ raOf (ss, bs, g) i ∧ raOf (ss, bs, g) i ≤ 100 ∧ b.1 ≠ b.2.1
      else raOf (ss, bs, g) i = 0 ∧ b.2.2 = (if gvOf (ss, bs, g) i = true then heOf (ss, bs, g) i else -heOf (ss, bs, g) i) ∧ b.1 = b.2.1) := by
  unfold bodies at hb
  simp only at hb
  by_cases z : i < ss.length
  · rw [List.getElem?_append_left (by simpa using z), List.getElem?_map, List.getElem?_eq_getElem z] at hb
    have hb := Option.some.inj hb
    have hz : ((i : Nat) : Int) < (ss.length : Int) := by omega
    have hs : sOf (ss, bs, g) i = ss[i] := by simp [sOf, List.getD_eq_getElem?_getD, z]
    have o := h.ss ss[i] (List.getElem_mem z)
    rw [if_pos z]
    simp only [upOf, loOf, gvOf, raOf, if_pos hz, hs, dnS]
    subst hb
    generalize ss[i] = s at o ⊢
    unfold OkS at o
    unfold bodyS
    by_cases c : s.2.1 < s.1
    · simp only [c, if_true, decide_true]
      refine ⟨by omega, by omega, trivial, by omega, by omega, by omega⟩
    · simp only [c, if_false, decide_false]
      simp only [Bool.false_eq_true, if_false]
      refine ⟨by omega, by omega, trivial, by omega, by omega, by omega⟩
  · rw [List.getElem?_append_right (by simpa using z), List.getElem?_map, List.length_map] at hb
    cases hq : bs[i - ss.length]? with
    | none => rw [hq] at hb; cases hb
    | some q =>
      rw [hq] at hb
      have hb := Option.some.inj hb
      have hz : ¬ ((i : Nat) : Int) < (ss.length : Int) := by omega
      have hs : bOf (ss, bs, g) i = q := by
        unfold bOf
        simp only
        rw [show ((i : Int) - (ss.length : Int)).toNat = i - ss.length by omega, List.getD_eq_getElem?_getD, hq]
        rfl
      rw [if_neg z]
      subst hb
      simp only [upOf, loOf, gvOf, raOf, heOf, if_neg hz, hs, bodyB]
      refine ⟨trivial, trivial, trivial, ?_, trivial⟩
      by_cases c : 0 < q.2
      · simp [c]
      · simp [c]
def bxK (p : Prob) (L k : Int) : Int := if raOf p k = 0 ∧ upOf p k = L then (if gvOf p k = true then heOf p k else -heOf p k) else 0
def stK (p : Prob) (L L' k : Int) : Int := if L ≤ upOf p k ∧ loOf p k ≤ L' then (if gvOf p k = true then raOf p k * (L - L') else -(raOf p k * (L - L'))) else 0
theorem bx_sum {ss : List Tri} {bs : List Bx} {g : Int} (h : OkP (ss, bs, g)) (L : Int) : ((rangeI 0 ((ss.length : Int) + (bs.length : Int))).map (bxK (ss, bs, g) L)).sum = ((bodies (ss, bs, g)).map (bxP L)).sum := by
  have hl : ((ss.length : Int) + (bs.length : Int)) = ((bodies (ss, bs, g)).length : Int) := by simp [bodies]
  rw [hl]
  refine sum_by _ _ _ fun i b hb => ?_
  obtain ⟨h1, h2, h3⟩ := span_at h hb
  unfold bxK bxP
  rw [h1]
  by_cases z : i < ss.length
  · rw [if_pos z] at h3
    rw [if_neg (show ¬ (raOf (ss, bs, g) i = 0 ∧ b.1 = L) by omega), if_neg (show ¬ (b.1 = b.2.1 ∧ b.1 = L) from fun q => h3.2.2.2 q.1)]
  · rw [if_neg z] at h3
    rw [← h3.2.1]
    by_cases y : b.1 = L
    · rw [if_pos ⟨h3.1, y⟩, if_pos ⟨h3.2.2, y⟩]
    · rw [if_neg (fun q => y q.2), if_neg (fun q => y q.2)]
theorem st_sum {ss : List Tri} {bs : List Bx} {g : Int} (h : OkP (ss, bs, g)) (L L' : Int) : ((rangeI 0 (ss.length : Int)).map (stK (ss, bs, g) L L')).sum = ((bodies (ss, bs, g)).map (stP L L')).sum := by
  have e : bodies (ss, bs, g) = ss.map (bodyS g) ++ bs.map (bodyB g) := rfl
  have hz : ((bs.map (bodyB g)).map (stP L L')).sum = 0 := by
    refine sum_zero fun b hb => ?_
    obtain ⟨q, _, rfl⟩ := List.mem_map.mp hb
    unfold stP bodyB
    rw [if_neg (fun z => z.1 rfl)]
  rw [e, List.map_append, List.sum_append, hz, Int.add_zero]
  have hl : (ss.length : Int) = ((ss.map (bodyS g)).length : Int) := by simp
  rw [hl]
  refine sum_by _ _ _ fun i b hb => ?_
  have z : i < ss.length := by
    have := (List.getElem?_eq_some_iff.mp hb).1
    simpa using this
  have hb2 : (bodies (ss, bs, g))[i]? = some b := by
    rw [e, List.getElem?_append_left (by simpa using z)]
    exact hb
  obtain ⟨h1, h2, h3⟩ := span_at h hb2
  rw [if_pos z] at h3
  unfold stK stP
  rw [h1, h2, h3.1]
  by_cases y : L ≤ b.1 ∧ b.2.1 ≤ L'
  · rw [if_pos y, if_pos (show b.1 ≠ b.2.1 ∧ L ≤ b.1 ∧ b.2.1 ≤ L' from ⟨h3.2.2.2, y⟩)]
    split
    · rfl
    · rw [Int.neg_mul]
  · rw [if_neg y, if_neg (show ¬ (b.1 ≠ b.2.1 ∧ L ≤ b.1 ∧ b.2.1 ≤ L') from fun q => y q.2)]
/-! ### the flow -/
def fl (bs : List Tri) (h : Int) (i : Nat) : Int := if i < (levelsOf bs).length then h + AA bs (lvAt bs i) true else h + AA bs (lvAt bs ((levelsOf bs).length - 1)) false
def downs (bs : List Tri) (h : Int) : List Tri := (levelsOf bs).map (rowAt bs h)
theorem fl_start {bs : List Tri} {h : Int} (hu : ∀ b ∈ bs, Up b) (ne : levelsOf bs ≠ []) : fl bs h 0 = h := by
  unfold fl
  rw [if_pos (List.length_pos_iff.mpr ne), AA_top hu]
  omega
theorem take_next {bs : List Tri} {i : Nat} (hi : i < (levelsOf bs).length) : (levelsOf bs).take (i + 1) = (levelsOf bs).take i ++ [lvAt bs i] := by
  rw [List.take_add_one, lvAt_get hi]
  rfl
theorem levelAt {bs : List Tri} {x : Int} (h0 : 0 ≤ x) (h1 : x < ((levelsOf bs).length : Int)) : IxD (.list ((levelsOf bs).map .int)) x = some (.int (lvAt bs x.toNat)) := by
  show L2.atI _ _ = _
  refine atI_at h0 ?_
  rw [List.getElem?_map, lvAt_get (by omega)]
  rfl
/-! ### the least heating -/
structure GoodB (bs : List Tri) : Prop where
  len : bs.length ≤ 31
  rate : ∀ b ∈ bs, -10000 ≤ b.2.2 ∧ b.2.2 ≤ 10000
  ne : levelsOf bs ≠ []
  up : ∀ b ∈ bs, Up b
theorem goodB {p : Prob} (h : OkP p) : GoodB (bodies p) := ⟨h.len, fun _ hb => bodies_rate h hb, levels_ne h, bodies_up h⟩
theorem lev_len {bs : List Tri} (h : GoodB bs) : (levelsOf bs).length ≤ 62 := by
  have h1 := ssort_len (ends2 bs)
  have h2 := ends2_len bs
  have h3 := h.len
  unfold levelsOf
  rw [List.length_reverse]
  omega
def edgesOf (ls : List Int) : List (Int × Bool) := ls.flatMap fun lv => [(lv, true), (lv, false)]
def encE (e : Int × Bool) : D := .tuple [.int e.1, .bool e.2]
theorem edges_len : ∀ (l : List Int), (edgesOf l).length = 2 * l.length
  | [] => rfl
  | a :: r => by
    have := edges_len r
    simp only [edgesOf, List.flatMap_cons, List.length_append, List.length_cons, List.length_nil] at *
    omega
theorem needs_edges (bs : List Tri) : ∀ (l : List Int), (edgesOf l).map (fun e => -AA bs e.1 e.2) = needsAt bs l
  | [] => rfl
  | a :: r => by
    have h := needs_edges bs r
    simp only [edgesOf, needsAt, List.flatMap_cons, List.map_append, List.map_cons, List.map_nil] at *
    rw [h]
theorem mem_needs {bs : List Tri} {y : Int} {l : List Int} : y ∈ needsAt bs l ↔ ∃ lv, lv ∈ l ∧ (y = -AA bs lv true ∨ y = -AA bs lv false) := by
  unfold needsAt
  simp only [List.mem_flatMap, List.mem_cons, List.not_mem_nil, or_false]
theorem needs_ne {bs : List Tri} (h : GoodB bs) : needsAt bs (levelsOf bs) ≠ [] := by
  obtain ⟨a, r, e⟩ := List.exists_cons_of_ne_nil h.ne
  rw [e]
  simp [needsAt]
theorem heat_nn {bs : List Tri} (h : GoodB bs) : 0 ≤ heatingOf bs := by
  have h0 : lvAt bs 0 ∈ levelsOf bs := List.mem_of_getElem? (lvAt_get (List.length_pos_iff.mpr h.ne))
  have := lmax_le ((mem_needs (bs := bs)).mpr ⟨_, h0, .inl rfl⟩)
  rw [AA_top h.up] at this
  unfold heatingOf
  omega
/-- the least of 0 and all flows from 0 on -/
theorem least_flow {bs : List Tri} (h : GoodB bs) : -heatingOf bs ∈ ([0] ++ (downs bs 0).map (fun r => r.2.1)) ++ (downs bs 0).map (fun r => r.2.2) ∧ ∀ y ∈ ([0] ++ (downs bs 0).map (fun r => r.2.1)) ++ (downs bs 0).map (fun r => r.2.2), -heatingOf bs ≤ y := by
  constructor
  · obtain ⟨lv, hl, e⟩ := mem_needs.mp (lmax_mem (needs_ne h))
    have e2 : heatingOf bs = -AA bs lv true ∨ heatingOf bs = -AA bs lv false := e
    simp only [List.mem_append, List.mem_map, downs, rowAt]
    rcases e2 with e2 | e2
    · exact .inl (.inr ⟨_, ⟨lv, hl, rfl⟩, by simp only; omega⟩)
    · exact .inr ⟨_, ⟨lv, hl, rfl⟩, by simp only; omega⟩
  · intro y hy
    have h0 := heat_nn h
    simp only [List.mem_append, List.mem_map, downs, rowAt] at hy
    rcases hy with (hy | ⟨_, ⟨lv, hl, rfl⟩, rfl⟩) | ⟨_, ⟨lv, hl, rfl⟩, rfl⟩
    · rw [List.mem_singleton.mp hy]
      omega
    · have := lmax_le ((mem_needs (bs := bs)).mpr ⟨lv, hl, .inl rfl⟩)
      unfold heatingOf
      simp only
      omega
    · have := lmax_le ((mem_needs (bs := bs)).mpr ⟨lv, hl, .inr rfl⟩)
      unfold heatingOf
      simp only
      omega
theorem lev_le (bs : List Tri) : (levelsOf bs).length ≤ 2 * bs.length := by
  have h1 := ssort_len (ends2 bs)
  have h2 := ends2_len bs
  unfold levelsOf
  rw [List.length_reverse]
  omega
theorem ra_le {ss : List Tri} {bs : List Bx} {g k : Int} (h : OkP (ss, bs, g)) (h0 : 0 ≤ k) (h1 : k < (ss.length : Int)) : 1 ≤ raOf (ss, bs, g) k ∧ raOf (ss, bs, g) k ≤ 100 := by
  have z : k.toNat < ss.length := by omega
  have hb : (bodies (ss, bs, g))[k.toNat]? = some (bodyS g ss[k.toNat]) := by
    show (ss.map (bodyS g) ++ bs.map (bodyB g))[k.toNat]? = _
    rw [List.getElem?_append_left (by simpa using z), List.getElem?_map, List.getElem?_eq_getElem z]
    rfl
  obtain ⟨_, _, h3⟩ := span_at h hb
  rw [if_pos z] at h3
  rw [show ((k.toNat : Nat) : Int) = k by omega] at h3
  exact ⟨h3.2.1, h3.2.2.1⟩
theorem row_next {bs : List Tri} {h : Int} {i : Nat} {pr : List Int} (hi : i < (levelsOf bs).length) (hp : i = pr.length) (x : Int) : (((levelsOf bs).take i).map (rowAt bs h)).map encT ++ [.tuple [.int (lvAt bs i), .int (fl bs h i), .int (h + AA bs (lvAt bs i) false)]] = (((levelsOf bs).take (pr ++ [x]).length).map (rowAt bs h)).map encT := by
  have e : (pr ++ [x]).length = i + 1 := by simp [hp]
  have f : fl bs h i = h + AA bs (lvAt bs i) true := if_pos hi
  rw [e, take_next hi, f]
  simp [rowAt, encT]
theorem flow_box {ss : List Tri} {bs : List Bx} {g h : Int} (hp : OkP (ss, bs, g)) {i : Nat} (hi : i < (levelsOf (bodies (ss, bs, g))).length) :
    fl (bodies (ss, bs, g)) h i + ((rangeI 0 (((ss.map encT).length : Int) + ((bs.map encB).length : Int))).map (bxK (ss, bs, g) (lvAt (bodies (ss, bs, g)) i))).sum = h + AA (bodies (ss, bs, g)) (lvAt (bodies (ss, bs, g)) i) false := by
  rw [List.length_map, List.length_map, bx_sum hp, ← AA_box]
  unfold fl
  rw [if_pos hi]
  omega
theorem flow_next {ss : List Tri} {bs : List Bx} {g h : Int} (hp : OkP (ss, bs, g)) {i : Nat} {pr : List Int} (hq : i = pr.length) (x : Int) (hi : i + 1 < (levelsOf (bodies (ss, bs, g))).length) :
    h + AA (bodies (ss, bs, g)) (lvAt (bodies (ss, bs, g)) i) false + ((rangeI 0 ((ss.map encT).length : Int)).map (stK (ss, bs, g) (lvAt (bodies (ss, bs, g)) i) (lvAt (bodies (ss, bs, g)) (i + 1)))).sum = fl (bodies (ss, bs, g)) h (pr ++ [x]).length := by
  have e : (pr ++ [x]).length = i + 1 := by simp [hq]
  have s := AA_step (bodies_up hp) hi
  rw [List.length_map, st_sum hp, e]
  unfold fl
  rw [if_pos hi, ← s]
  omega
theorem flow_last {bs : List Tri} {h : Int} {i : Nat} {pr : List Int} (hq : i = pr.length) (x : Int) (hi : i < (levelsOf bs).length) (hn : ¬ i + 1 < (levelsOf bs).length) : h + AA bs (lvAt bs i) false = fl bs h (pr ++ [x]).length := by
  have e : (pr ++ [x]).length = i + 1 := by simp [hq]
  rw [e]
  unfold fl
  rw [if_neg hn, show (levelsOf bs).length - 1 = i by omega]
def pinchL (bs : List Tri) : List Int := ((downs bs (heatingOf bs)).filter fun r => decide (r.2.1 = 0) || decide (r.2.2 = 0)).map fun r => r.1
theorem tri_at {l : List Tri} {x : Int} (h : x ∈ rangeI 0 ((l.map encT).length : Int)) : IxD (.tuple (l.map encT)) x = some (encT (l.getD x.toNat (0, 0, 0))) := by
  have hm := mem_rangeI.mp h
  rw [List.length_map] at hm
  have hv : x.toNat < l.length := by omega
  show L2.atI _ _ = _
  refine atI_at hm.1 ?_
  rw [List.getElem?_map, List.getElem?_eq_getElem hv, List.getD_eq_getElem?_getD, List.getElem?_eq_getElem hv]
  rfl
theorem last_row {bs : List Tri} {h : Int} (ne : levelsOf bs ≠ []) : IxD (.list ((downs bs h).map encT)) (-1) = some (encT (rowAt bs h (lvAt bs ((levelsOf bs).length - 1)))) := by
  have hv : 0 < (levelsOf bs).length := List.length_pos_iff.mpr ne
  have hl : ((downs bs h).map encT).length = (levelsOf bs).length := by simp [downs]
  have e2 : L2.ixN ((downs bs h).map encT).length (-1) = some ((levelsOf bs).length - 1) := by
    unfold L2.ixN
    rw [hl, if_neg (by omega), if_pos (by omega)]
    congr 1
    omega
  show L2.atI _ _ = _
  unfold L2.atI
  rw [e2]
  show ((downs bs h).map encT)[(levelsOf bs).length - 1]? = _
  unfold downs
  rw [List.getElem?_map, List.getElem?_map, lvAt_get (by omega)]
  rfl
theorem bxK_pos {p : Prob} {L k : Int} (h : raOf p k = 0 ∧ upOf p k = L) : bxK p L k = if gvOf p k = true then heOf p k else -heOf p k := if_pos h
theorem bxK_neg {p : Prob} {L k : Int} (h : ¬ (raOf p k = 0 ∧ upOf p k = L)) : bxK p L k = 0 := if_neg h
theorem stK_pos {p : Prob} {L L' k : Int} (h : L ≤ upOf p k ∧ loOf p k ≤ L') : stK p L L' k = if gvOf p k = true then raOf p k * (L - L') else -(raOf p k * (L - L')) := if_pos h
theorem stK_neg {p : Prob} {L L' k : Int} (h : ¬ (L ≤ upOf p k ∧ loOf p k ≤ L')) : stK p L L' k = 0 := if_neg h
end My

set_option Elab.async false
set_option autoImplicit false
set_option linter.all false
/-! M4: the least heating covers every level; a stream less -/
namespace My
open DW PySem
theorem between {bs : List Tri} {lv : Int} : ∀ (k : Nat), k < (levelsOf bs).length → lv ≤ lvAt bs 0 → lv ≤ lvAt bs k ∨ ∃ i, i + 1 < (levelsOf bs).length ∧ lvAt bs (i + 1) < lv ∧ lv ≤ lvAt bs i
  | 0, _, h => .inl h
  | k + 1, hk, h => by
    rcases between k (by omega) h with z | z
    · by_cases y : lv ≤ lvAt bs (k + 1)
      · exact .inl y
      · exact .inr ⟨k, hk, by omega, z⟩
    · exact .inr z
def cov (L L' : Int) (b : Tri) : Int := if b.1 ≠ b.2.1 ∧ L ≤ b.1 ∧ b.2.1 ≤ L' then b.2.2 else 0
theorem AA_mid {bs : List Tri} (hu : ∀ b ∈ bs, Up b) {i : Nat} (hi : i + 1 < (levelsOf bs).length) {lv : Int} (h1 : lvAt bs (i + 1) < lv) (h2 : lv < lvAt bs i) (o : Bool) :
    AA bs (lvAt bs i) false + (bs.map fun b => (lvAt bs i - lv) * cov (lvAt bs i) (lvAt bs (i + 1)) b).sum = AA bs lv o := by
  refine sum_sub fun b hb => ?_
  have g1 := lv_gap (mem_levels hb).1 hi
  have g2 := lv_gap (mem_levels hb).2 hi
  have h3 := hu b hb
  unfold Up at h3
  generalize lvAt bs i = L at *
  generalize lvAt bs (i + 1) = L' at *
  unfold cov
  by_cases z : b.1 = b.2.1
  · rw [above_bf z, if_neg (show ¬ (b.1 ≠ b.2.1 ∧ L ≤ b.1 ∧ b.2.1 ≤ L') from fun h => h.1 z), Int.mul_zero]
    cases o
    · rw [above_bf z]
      split <;> split <;> omega
    · rw [above_bt z]
      split <;> split <;> omega
  · rw [above_s z, above_s z]
    by_cases y : L ≤ b.1 ∧ b.2.1 ≤ L'
    · rw [if_pos (show b.1 ≠ b.2.1 ∧ L ≤ b.1 ∧ b.2.1 ≤ L' from ⟨z, y⟩), Int.mul_comm (L - lv), ← Int.mul_add, show max (0 : Int) (b.1 - max b.2.1 L) + (L - lv) = max 0 (b.1 - max b.2.1 lv) by omega]
    · rw [if_neg (show ¬ (b.1 ≠ b.2.1 ∧ L ≤ b.1 ∧ b.2.1 ≤ L') from fun h => y h.2), Int.mul_zero, Int.add_zero, show max (0 : Int) (b.1 - max b.2.1 L) = max 0 (b.1 - max b.2.1 lv) by omega]
theorem sum_mul {α : Type} (c : Int) (f : α → Int) : ∀ l : List α, (l.map fun x => c * f x).sum = c * (l.map f).sum
  | [] => by simp
  | a :: r => by
    have h := sum_mul c f r
    simp only [List.map_cons, List.sum_cons, Int.mul_add, h]
theorem st_cov {bs : List Tri} (L L' : Int) : (bs.map (stP L L')).sum = (L - L') * (bs.map (cov L L')).sum := by
  rw [← sum_mul]
  refine sum_congr fun b _ => ?_
  unfold stP cov
  split
  · rw [Int.mul_comm]
  · rw [Int.mul_zero]
theorem need_le {bs : List Tri} (h : GoodB bs) {lv : Int} (hl : lv ∈ levelsOf bs) (o : Bool) : -AA bs lv o ≤ heatingOf bs := by
  cases o
  · exact lmax_le ((mem_needs (bs := bs)).mpr ⟨lv, hl, .inr rfl⟩)
  · exact lmax_le ((mem_needs (bs := bs)).mpr ⟨lv, hl, .inl rfl⟩)
theorem lv_in {bs : List Tri} {i : Nat} (h : i < (levelsOf bs).length) : lvAt bs i ∈ levelsOf bs := List.mem_of_getElem? (lvAt_get h)
theorem AA_low {bs : List Tri} (hu : ∀ b ∈ bs, Up b) {lv : Int} (h : lv < lvAt bs ((levelsOf bs).length - 1)) (o : Bool) : AA bs lv o = (bs.map whole).sum := by
  refine sum_congr fun b hb => ?_
  have h1 := lv_bottom (mem_levels hb).1
  have h3 := lv_bottom (mem_levels hb).2
  have h2 := hu b hb
  unfold Up at h2
  unfold above whole
  split
  · rw [if_pos (by left; omega)]
  · rw [show max (0 : Int) (b.1 - max b.2.1 lv) = b.1 - b.2.1 by omega]
theorem need_any {bs : List Tri} (h : GoodB bs) (lv : Int) (o : Bool) : -AA bs lv o ≤ heatingOf bs := by
  have hn : 0 < (levelsOf bs).length := List.length_pos_iff.mpr h.ne
  by_cases m : lv ∈ levelsOf bs
  · exact need_le h m o
  · by_cases t : lv ≤ lvAt bs 0
    · rcases between ((levelsOf bs).length - 1) (by omega) t with z | ⟨i, hi, z1, z2⟩
      · have ne : lv ≠ lvAt bs ((levelsOf bs).length - 1) := fun e => m (by rw [e]; exact lv_in (by omega))
        have b := need_le h (lv_in (bs := bs) (i := (levelsOf bs).length - 1) (by omega)) false
        rw [AA_bottom h.up] at b
        rw [AA_low h.up (by omega)]
        exact b
      · have ne : lv ≠ lvAt bs i := fun e => m (by rw [e]; exact lv_in (by omega))
        have e1 := AA_mid h.up hi z1 (by omega) o
        have e2 := AA_step h.up hi
        rw [st_cov] at e2
        rw [sum_mul] at e1
        have b1 := need_le h (lv_in (bs := bs) (i := i) (by omega)) false
        have b2 := need_le h (lv_in (bs := bs) (i := i + 1) hi) true
        have zz := lv_dec (bs := bs) (i := i) (j := i + 1) (by omega) hi
        generalize (bs.map (cov (lvAt bs i) (lvAt bs (i + 1)))).sum = S at e1 e2
        generalize lvAt bs i = L at *
        generalize lvAt bs (i + 1) = L' at *
        by_cases s : 0 ≤ S
        · have := Int.mul_nonneg (show 0 ≤ L - lv by omega) s
          omega
        · have k1 : (lv - L') * (-S) ≥ 0 := Int.mul_nonneg (by omega) (by omega)
          have k2 : (lv - L') * (-S) = (L - lv) * S - (L - L') * S := by
            rw [← Int.sub_mul, Int.mul_neg, ← Int.neg_mul]
            congr 1
            omega
          omega
    · have : AA bs lv o = 0 := by
        refine sum_zero fun b hb => ?_
        have h1 := lv_top (mem_levels hb).1
        have h2 := h.up b hb
        unfold Up at h2
        unfold above
        split
        · rw [if_neg (by rintro (y | ⟨y, _⟩) <;> omega)]
        · rw [show max (0 : Int) (b.1 - max b.2.1 lv) = 0 by omega, Int.mul_zero]
      rw [this]
      have := heat_nn h
      omega
theorem heat_at {bs : List Tri} (h : GoodB bs) : ∃ lv o, lv ∈ levelsOf bs ∧ heatingOf bs = -AA bs lv o := by
  obtain ⟨lv, hl, e⟩ := mem_needs.mp (lmax_mem (needs_ne h))
  have e2 : heatingOf bs = -AA bs lv true ∨ heatingOf bs = -AA bs lv false := e
  rcases e2 with e2 | e2
  · exact ⟨lv, true, hl, e2⟩
  · exact ⟨lv, false, hl, e2⟩
/-! ### a stream less -/
def outS (ss : List Tri) (k : Nat) : List Tri := ss.take k ++ ss.drop (k + 1)
theorem OkP.drop {ss : List Tri} {bs : List Bx} {g : Int} (h : OkP (ss, bs, g)) (k : Nat) (hn : outS ss k ≠ [] ∨ bs ≠ []) : OkP (outS ss k, bs, g) :=
  ⟨fun s hs => h.ss s (by
    rcases List.mem_append.mp hs with z | z
    · exact List.mem_of_mem_take z
    · exact List.mem_of_mem_drop z), h.bs, by
    have := h.ls
    show (outS ss k).length ≤ 6
    unfold outS
    simp only [List.length_append, List.length_take, List.length_drop] at *
    omega, h.lb, h.g0, h.g1, hn⟩
theorem ss_split {ss : List Tri} {k : Nat} (hk : k < ss.length) : ss = ss.take k ++ ss.getD k (0, 0, 0) :: ss.drop (k + 1) := by
  have e : ss.getD k (0, 0, 0) = ss[k] := by simp [List.getD_eq_getElem?_getD, hk]
  rw [e, ← List.drop_eq_getElem_cons hk, List.take_append_drop]
theorem sum_out {ss : List Tri} {bs : List Bx} {g : Int} {k : Nat} (hk : k < ss.length) (f : Tri → Int) : ((bodies (ss, bs, g)).map f).sum = ((bodies (outS ss k, bs, g)).map f).sum + f (bodyS g (ss.getD k (0, 0, 0))) := by
  have e := ss_split hk
  generalize ss.getD k (0, 0, 0) = s at e ⊢
  unfold bodies outS
  simp only
  conv => lhs; rw [e]
  simp only [List.map_append, List.map_cons, List.sum_append, List.sum_cons]
  omega
theorem above_whole {g : Int} {s : Tri} (h : OkS s) (lv : Int) (o : Bool) : (s.2.1 < s.1 → 0 ≤ above (bodyS g s) lv o ∧ above (bodyS g s) lv o ≤ whole (bodyS g s)) ∧ (s.1 < s.2.1 → above (bodyS g s) lv o ≤ 0 ∧ whole (bodyS g s) ≤ above (bodyS g s) lv o) := by
  obtain ⟨a, b, c⟩ := s
  unfold OkS at h
  simp only at h ⊢
  constructor
  · intro z
    have e : bodyS g (a, b, c) = (a - g, b - g, c) := by simp [bodyS, z]
    rw [e, above_s (by show a - g ≠ b - g; omega)]
    unfold whole
    simp only
    rw [if_neg (by omega)]
    have n := mul_nn (m := a - g - max (b - g) lv) h.2.2.2.2.1
    exact ⟨n, Int.mul_le_mul_of_nonneg_left (by omega) (by omega)⟩
  · intro z
    have e : bodyS g (a, b, c) = (b, a, -c) := by simp [bodyS, show ¬ b < a by omega]
    rw [e, above_s (by show b ≠ a; omega)]
    unfold whole
    simp only
    rw [if_neg (by omega), Int.neg_mul, Int.neg_mul]
    have n := mul_nn (m := b - max a lv) h.2.2.2.2.1
    have := Int.mul_le_mul_of_nonneg_left (show max 0 (b - max a lv) ≤ b - a by omega) (show 0 ≤ c by omega)
    omega
def coolOf (bs : List Tri) : Int := heatingOf bs + (bs.map whole).sum
theorem out_ok {ss : List Tri} {bs : List Bx} {g : Int} {k : Nat} (h : OkP (ss, bs, g)) (hk : k < ss.length) (h' : OkP (outS ss k, bs, g)) {a b c : Int} (hs : ss.getD k (0, 0, 0) = (a, b, c)) :
    (b < a → heatingOf (bodies (ss, bs, g)) ≤ heatingOf (bodies (outS ss k, bs, g)) ∧ coolOf (bodies (outS ss k, bs, g)) ≤ coolOf (bodies (ss, bs, g))) ∧
    (a < b → heatingOf (bodies (outS ss k, bs, g)) ≤ heatingOf (bodies (ss, bs, g)) ∧ coolOf (bodies (ss, bs, g)) ≤ coolOf (bodies (outS ss k, bs, g))) := by
  have o : OkS (a, b, c) := h.ss (a, b, c) (by
    rw [← hs]
    simp [List.getD_eq_getElem?_getD, hk])
  obtain ⟨l1, o1, _, e1⟩ := heat_at (goodB h)
  obtain ⟨l2, o2, _, e2⟩ := heat_at (goodB h')
  have s1 := sum_out (bs := bs) (g := g) hk (fun b => above b l1 o1)
  have s2 := sum_out (bs := bs) (g := g) hk (fun b => above b l2 o2)
  have sw := sum_out (bs := bs) (g := g) hk whole
  rw [hs] at s1 s2 sw
  have w1 := above_whole (g := g) o l1 o1
  have w2 := above_whole (g := g) o l2 o2
  simp only at w1 w2
  have a1 := need_any (goodB h') l1 o1
  have a2 := need_any (goodB h) l2 o2
  unfold coolOf
  unfold AA at e1 e2 a1 a2
  constructor
  · intro z
    have w1 := w1.1 z
    have w2 := w2.1 z
    omega
  · intro z
    have w1 := w1.2 z
    have w2 := w2.2 z
    omega
/-! ### papers, pinches, heat given and taken -/
def papOf (bs : List Tri) : Int × Bool := ((edgesOf (levelsOf bs)).filter fun e => decide (-AA bs e.1 e.2 = heatingOf bs)).headD (0, true)
theorem pap_ok {bs : List Tri} (h : GoodB bs) : ∃ r, (edgesOf (levelsOf bs)).filter (fun e => decide (-AA bs e.1 e.2 = heatingOf bs)) = papOf bs :: r ∧ -AA bs (papOf bs).1 (papOf bs).2 = heatingOf bs := by
  obtain ⟨lv, o, hl, e⟩ := heat_at h
  have hm : (lv, o) ∈ (edgesOf (levelsOf bs)).filter (fun e => decide (-AA bs e.1 e.2 = heatingOf bs)) := by
    rw [List.mem_filter]
    refine ⟨?_, decide_eq_true (by simp only; omega)⟩
    unfold edgesOf
    rw [List.mem_flatMap]
    exact ⟨lv, hl, by cases o <;> simp⟩
  obtain ⟨a, r, ea⟩ := List.exists_cons_of_ne_nil (List.ne_nil_of_mem hm)
  have ep : papOf bs = a := by
    unfold papOf
    rw [ea]
    rfl
  refine ⟨r, by rw [ea, ep], ?_⟩
  have hin : a ∈ (edgesOf (levelsOf bs)).filter (fun e => decide (-AA bs e.1 e.2 = heatingOf bs)) := by rw [ea]; simp
  rw [ep]
  exact of_decide_eq_true (List.mem_filter.mp hin).2
theorem given_taken : ∀ l : List Int, givens l + takens l = l.sum
  | [] => rfl
  | a :: r => by
    have h := given_taken r
    unfold givens takens at *
    rw [List.filter_cons, List.filter_cons, List.sum_cons, ← h]
    by_cases z : 0 < a
    · rw [if_pos (decide_eq_true z), if_neg (by simp; omega), List.sum_cons]
      omega
    · rw [if_neg (by simpa using z)]
      by_cases y : a < 0
      · rw [if_pos (decide_eq_true y), List.sum_cons]
        omega
      · rw [if_neg (by simpa using y)]
        omega
theorem given_AA (p : Prob) (lv : Int) : givens (hsOf p lv) + takens (hsOf p lv) = AA (bodies p) lv true := given_taken _
theorem pinch_ne {bs : List Tri} (h : GoodB bs) : pinchL bs ≠ [] := by
  obtain ⟨lv, o, hl, e⟩ := heat_at h
  have hm : lv ∈ pinchL bs := by
    unfold pinchL downs
    rw [List.mem_map]
    refine ⟨rowAt bs (heatingOf bs) lv, ?_, rfl⟩
    rw [List.mem_filter]
    refine ⟨List.mem_map.mpr ⟨lv, hl, rfl⟩, ?_⟩
    unfold rowAt
    cases o
    · simp only [Bool.or_eq_true, decide_eq_true_eq]
      right
      omega
    · simp only [Bool.or_eq_true, decide_eq_true_eq]
      left
      omega
  exact List.ne_nil_of_mem hm
end My
namespace My
open DW PySem
theorem cut_take {l : List Tri} {k : Nat} : cutD (l.map encT) none (some (k : Int)) = (l.take k).map encT := by
  unfold cutD
  rw [HT.sIx_none, HT.sIx_nat]
  simp only [List.drop_zero, Nat.sub_zero, List.length_map, ← List.map_take]
  congr 1
  rw [List.take_eq_take_iff]
  omega
theorem cut_drop {l : List Tri} {k : Nat} : cutD (l.map encT) (some ((k : Int) + 1)) none = (l.drop (k + 1)).map encT := by
  unfold cutD
  rw [HT.sIx_none, show ((k : Int) + 1) = ((k + 1 : Nat) : Int) by omega, HT.sIx_nat, ← List.map_drop]
  by_cases z : k + 1 ≤ l.length
  · rw [List.length_map, Nat.min_eq_left z, ← List.map_take]
    congr 1
    rw [List.take_of_length_le (by simp)]
  · rw [List.length_map, Nat.min_eq_right (by omega), List.drop_of_length_le (Nat.le_refl _), List.drop_of_length_le (by omega)]
    simp
theorem some_left {ss : List Tri} {k : Nat} {b : Bool} (h : (!PyData.eqv (.tuple ((outS ss k).map encT)) (.tuple [])) = true) : outS ss k ≠ [] := by
  rw [eqv_nilT] at h
  intro e
  rw [e] at h
  simp at h
end My
namespace My
open DW PySem
theorem least_ex : ∀ {l : List Int}, l ≠ [] → ∃ m, m ∈ l ∧ ∀ y ∈ l, m ≤ y
  | [], h => absurd rfl h
  | [a], _ => ⟨a, by simp, fun y hy => by rw [List.mem_singleton.mp hy]; exact Int.le_refl _⟩
  | a :: b :: r, _ => by
    obtain ⟨m, h1, h2⟩ := least_ex (l := b :: r) (by simp)
    by_cases z : a ≤ m
    · refine ⟨a, by simp, fun y hy => ?_⟩
      rcases List.mem_cons.mp hy with e | e
      · rw [e]
        exact Int.le_refl _
      · have := h2 y e
        omega
    · refine ⟨m, List.mem_cons_of_mem _ h1, fun y hy => ?_⟩
      rcases List.mem_cons.mp hy with e | e
      · omega
      · exact h2 y e
theorem least_row {bs : List Tri} (h : GoodB bs) : ∃ m, m ∈ (downs bs (heatingOf bs)).map (fun r : Tri => min r.2.1 r.2.2) ∧ (∀ y ∈ (downs bs (heatingOf bs)).map (fun r : Tri => min r.2.1 r.2.2), m ≤ y) ∧ 0 ≤ m := by
  have ne : (downs bs (heatingOf bs)).map (fun r : Tri => min r.2.1 r.2.2) ≠ [] := by
    unfold downs
    intro e
    rw [List.map_map, List.map_eq_nil_iff] at e
    exact h.ne e
  obtain ⟨m, h1, h2⟩ := least_ex ne
  refine ⟨m, h1, h2, ?_⟩
  obtain ⟨r, hr, rfl⟩ := List.mem_map.mp h1
  obtain ⟨lv, hl, rfl⟩ := List.mem_map.mp (show r ∈ (levelsOf bs).map (rowAt bs (heatingOf bs)) from hr)
  have a := need_le h hl true
  have b := need_le h hl false
  unfold rowAt
  simp only
  omega
theorem first_row {bs : List Tri} {h : Int} (ne : levelsOf bs ≠ []) : IxD (.tuple ((downs bs h).map encT)) 0 = some (encT (rowAt bs h (lvAt bs 0))) := by
  show L2.atI _ _ = _
  refine atI_at (by decide) ?_
  unfold downs
  rw [List.getElem?_map, List.getElem?_map, show (0 : Int).toNat = 0 from rfl, lvAt_get (List.length_pos_iff.mpr ne)]
  rfl
theorem last_lv {bs : List Tri} (ne : levelsOf bs ≠ []) : IxD (.tuple ((levelsOf bs).map .int)) (-1) = some (.int (lvAt bs ((levelsOf bs).length - 1))) := by
  have hv : 0 < (levelsOf bs).length := List.length_pos_iff.mpr ne
  have e2 : L2.ixN ((levelsOf bs).map PyData.int).length (-1) = some ((levelsOf bs).length - 1) := by
    unfold L2.ixN
    rw [List.length_map, if_neg (by omega), if_pos (by omega)]
    congr 1
    omega
  show L2.atI _ _ = _
  unfold L2.atI
  rw [e2]
  show ((levelsOf bs).map PyData.int)[(levelsOf bs).length - 1]? = _
  rw [List.getElem?_map, lvAt_get (by omega)]
  rfl
end My

set_option Elab.async false
set_option autoImplicit false
set_option linter.all false
/-! M5: needs by the numbers of streams and boxes -/
namespace My
open DW PySem
def ldH (p : Prob) (k lv : Int) (o : Bool) : Int := if raOf p k = 0 then (if lv < upOf p k ∨ (upOf p k = lv ∧ o = false) then heOf p k else 0) else raOf p k * (upOf p k - min (upOf p k) (max (loOf p k) lv))
def ndK (p : Prob) (lv : Int) (o : Bool) (k : Int) : Int := if gvOf p k = true then -ldH p k lv o else ldH p k lv o
theorem nd_at {ss : List Tri} {bs : List Bx} {g : Int} (h : OkP (ss, bs, g)) {i : Nat} {b : Tri} (hb : (bodies (ss, bs, g))[i]? = some b) (lv : Int) (o : Bool) : ndK (ss, bs, g) lv o i = -above b lv o := by
  obtain ⟨h1, h2, h3⟩ := span_at h hb
  have hu := bodies_up h b (List.mem_of_getElem? hb)
  unfold Up at hu
  unfold ndK ldH
  rw [h1, h2]
  by_cases z : i < ss.length
  · rw [if_pos z] at h3
    obtain ⟨e, r1, _, ne⟩ := h3
    rw [if_neg (show ¬ raOf (ss, bs, g) i = 0 by omega), above_s ne, e, show b.1 - min b.1 (max b.2.1 lv) = max 0 (b.1 - max b.2.1 lv) by omega]
    split
    · rfl
    · rw [Int.neg_mul, Int.neg_neg]
  · rw [if_neg z] at h3
    obtain ⟨r0, e, eq⟩ := h3
    rw [if_pos r0]
    unfold above
    rw [if_pos eq, e]
    split <;> split <;> simp
theorem need_sum {ss : List Tri} {bs : List Bx} {g : Int} (h : OkP (ss, bs, g)) (lv : Int) (o : Bool) : ((rangeI 0 ((ss.length : Int) + (bs.length : Int))).map (ndK (ss, bs, g) lv o)).sum = -AA (bodies (ss, bs, g)) lv o := by
  have hl : ((ss.length : Int) + (bs.length : Int)) = ((bodies (ss, bs, g)).length : Int) := by simp [bodies]
  have e : -AA (bodies (ss, bs, g)) lv o = ((bodies (ss, bs, g)).map fun b => -above b lv o).sum := by
    unfold AA
    generalize bodies (ss, bs, g) = L
    induction L with
    | nil => rfl
    | cons a r ih =>
      simp only [List.map_cons, List.sum_cons]
      omega
  rw [hl, e]
  exact sum_by _ _ _ fun i b hb => nd_at h hb lv o
theorem heat_law {bs : List Tri} (h : GoodB bs) : heatingOf bs ∈ 0 :: needsAt bs (levelsOf bs) ∧ ∀ y ∈ 0 :: needsAt bs (levelsOf bs), y ≤ heatingOf bs := by
  refine ⟨List.mem_cons_of_mem _ (lmax_mem (needs_ne h)), fun y hy => ?_⟩
  rcases List.mem_cons.mp hy with e | e
  · rw [e]
    exact heat_nn h
  · exact lmax_le e
theorem ra_bd {p : Prob} {k : Int} (h : OkP p) (h0 : 0 ≤ k) : 0 ≤ raOf p k ∧ raOf p k ≤ 100 := by
  obtain ⟨ss, bs, g⟩ := p
  by_cases z : k < (ss.length : Int)
  · have := ra_le h h0 z
    omega
  · have e : raOf (ss, bs, g) k = 0 := if_neg z
    omega
theorem needs_len (bs : List Tri) : ∀ (l : List Int), (needsAt bs l).length = 2 * l.length
  | [] => rfl
  | a :: r => by
    have := needs_len bs r
    simp only [needsAt, List.flatMap_cons, List.length_append, List.length_cons, List.length_nil] at *
    omega
end My

set_option Elab.async false
set_option autoImplicit false
set_option linter.all false
/-! M6: the least heating and the gap -/
namespace My
open DW PySem
def hotRate (s : Tri) : Int := if s.2.1 < s.1 then s.2.2 else 0
theorem above_gapS {g lv : Int} {o : Bool} {s : Tri} (h : OkS s) : above (bodyS (g + 1) s) lv o ≤ above (bodyS g s) lv o ∧ above (bodyS g s) lv o ≤ above (bodyS (g + 1) s) lv o + hotRate s := by
  obtain ⟨a, b, c⟩ := s
  obtain ⟨_, _, _, _, h5, _, h7⟩ := h
  simp only at h5 h7
  unfold hotRate bodyS
  by_cases z : b < a
  · simp only [z, if_true]
    unfold above
    simp only
    rw [if_neg (by omega), if_neg (by omega)]
    have e : max 0 (a - g - max (b - g) lv) = max 0 (a - (g + 1) - max (b - (g + 1)) lv) ∨ max 0 (a - g - max (b - g) lv) = max 0 (a - (g + 1) - max (b - (g + 1)) lv) + 1 := by omega
    rcases e with e | e
    · rw [e]; omega
    · rw [e, Int.mul_add]; omega
  · simp only [z, if_false]
    omega
theorem above_gapB {g lv : Int} {o : Bool} {b : Bx} : above (bodyB (g + 1) b) lv o ≤ above (bodyB g b) lv o := by
  obtain ⟨t, h⟩ := b
  unfold bodyB above
  simp only [if_true]
  by_cases z : 0 < h
  · simp only [z, if_true]
    by_cases w : lv < t - (g + 1) ∨ (t - (g + 1) = lv ∧ o = false)
    · rw [if_pos w, if_pos (by rcases w with w | w; exact .inl (by omega); exact .inl (by omega))]
      omega
    · rw [if_neg w]
      split <;> omega
  · simp only [z, if_false]
    omega
theorem sum_le {α : Type} {f g : α → Int} : ∀ {l : List α}, (∀ x ∈ l, f x ≤ g x) → (l.map f).sum ≤ (l.map g).sum
  | [], _ => by simp
  | a :: r, h => by
    have h1 := h a List.mem_cons_self
    have h2 := sum_le (l := r) fun x hx => h x (List.mem_cons_of_mem _ hx)
    simp only [List.map_cons, List.sum_cons]
    omega
theorem sum_add {α : Type} {f g : α → Int} : ∀ {l : List α}, (l.map fun x => f x + g x).sum = (l.map f).sum + (l.map g).sum
  | [] => by simp
  | a :: r => by
    have h2 := sum_add (l := r) (f := f) (g := g)
    simp only [List.map_cons, List.sum_cons]
    omega
theorem AA_parts (ss : List Tri) (bs : List Bx) (g lv : Int) (o : Bool) : AA (bodies (ss, bs, g)) lv o = (ss.map fun s => above (bodyS g s) lv o).sum + (bs.map fun b => above (bodyB g b) lv o).sum := by
  unfold AA bodies
  simp only [List.map_append, List.sum_append, List.map_map]
  rfl
theorem AA_gap {ss : List Tri} {bs : List Bx} {g lv : Int} {o : Bool} (h : ∀ s ∈ ss, OkS s) : AA (bodies (ss, bs, g + 1)) lv o ≤ AA (bodies (ss, bs, g)) lv o := by
  rw [AA_parts, AA_parts]
  have h1 := sum_le (l := ss) (f := fun s => above (bodyS (g + 1) s) lv o) (g := fun s => above (bodyS g s) lv o) fun s hs => (above_gapS (h s hs)).1
  have h2 := sum_le (l := bs) (f := fun b => above (bodyB (g + 1) b) lv o) (g := fun b => above (bodyB g b) lv o) fun b _ => above_gapB
  omega
theorem AA_gap2 {ss : List Tri} {g lv : Int} {o : Bool} (h : ∀ s ∈ ss, OkS s) : AA (bodies (ss, [], g)) lv o ≤ AA (bodies (ss, [], g + 1)) lv o + (ss.map hotRate).sum := by
  rw [AA_parts, AA_parts]
  have h1 := sum_le (l := ss) (f := fun s => above (bodyS g s) lv o) (g := fun s => above (bodyS (g + 1) s) lv o + hotRate s) fun s hs => (above_gapS (h s hs)).2
  rw [sum_add] at h1
  simp only [List.map_nil, List.sum_nil]
  omega
theorem heat_up {ss : List Tri} {bs : List Bx} {g : Int} (h : OkP (ss, bs, g)) (h' : OkP (ss, bs, g + 1)) : heatingOf (bodies (ss, bs, g)) ≤ heatingOf (bodies (ss, bs, g + 1)) := by
  obtain ⟨lv, o, _, e⟩ := heat_at (goodB h)
  have h1 := need_any (goodB h') lv o
  have h2 := AA_gap (ss := ss) (bs := bs) (g := g) (lv := lv) (o := o) h.ss
  omega
theorem heat_rise {ss : List Tri} {g : Int} (h : OkP (ss, [], g)) (h' : OkP (ss, [], g + 1)) : heatingOf (bodies (ss, [], g + 1)) ≤ heatingOf (bodies (ss, [], g)) + (ss.map hotRate).sum := by
  obtain ⟨lv, o, _, e⟩ := heat_at (goodB h')
  have h1 := need_any (goodB h) lv o
  have h2 := AA_gap2 (ss := ss) (g := g) (lv := lv) (o := o) h.ss
  omega
theorem hot_sum : ∀ ss : List Tri, ∃ ns, intsOf (ss.filterMap fun s => if s.2.1 < s.1 then some (.int s.2.2) else none) = some ns ∧ ns.sum = (ss.map hotRate).sum
  | [] => ⟨[], rfl, rfl⟩
  | s :: r => by
    obtain ⟨ns, e1, e2⟩ := hot_sum r
    rw [List.filterMap_cons, List.map_cons, List.sum_cons]
    unfold hotRate
    by_cases z : s.2.1 < s.1
    · simp only [z, if_true]
      refine ⟨s.2.2 :: ns, by simp [intsOf, e1], ?_⟩
      rw [List.sum_cons, e2]
      rfl
    · simp only [z, if_false]
      refine ⟨ns, e1, ?_⟩
      rw [e2, Int.zero_add]
      rfl
theorem shaped_listT {α : Type} {enc : α → D} {m : Nat} (h : ∀ x, (enc x).canLay0 = true ∧ (enc x).depth ≤ m) (hm : m ≤ 60) (l : List α) : SeqAt.shaped (.tuple (l.map enc)) = true := lay_allT h hm l
/-- a list over a range, at a place -/
theorem range_at {f : Int → D} {n k : Int} (h0 : 0 ≤ k) (h1 : k < n) : L2.atI ((rangeI 0 n).map f) k = some (f k) := by
  refine atI_at h0 ?_
  unfold rangeI
  rw [List.getElem?_map, List.getElem?_map, List.getElem?_range (by omega)]
  show some (f (0 + (k.toNat : Int))) = _
  congr 2
  omega
end My

set_option Elab.async false
set_option autoImplicit false
set_option linter.all false
/-! M7: one box more, at a temperature -/
namespace My
open DW PySem
def HB (ss : List Tri) (bs : List Bx) (g h t : Int) : Int := heatingOf (bodies (ss, bs ++ [(t, h)], g))
theorem AA_box1 {ss : List Tri} {bs : List Bx} {g h t lv : Int} {o : Bool} : AA (bodies (ss, bs ++ [(t, h)], g)) lv o = AA (bodies (ss, bs, g)) lv o + above (bodyB g (t, h)) lv o := by
  rw [AA_parts, AA_parts, List.map_append, List.sum_append]
  simp
  omega
theorem above_tp {g h t u lv : Int} {o : Bool} (hh : 0 < h) (ht : t ≤ u) : above (bodyB g (t, h)) lv o ≤ above (bodyB g (u, h)) lv o := by
  unfold bodyB above
  simp only [hh, if_true]
  by_cases w : lv < t - g ∨ (t - g = lv ∧ o = false)
  · rw [if_pos w, if_pos (by rcases w with w | w; exact .inl (by omega); by_cases e : u = t; exact .inr ⟨by omega, w.2⟩; exact .inl (by omega))]
    exact Int.le_refl _
  · rw [if_neg w]
    split <;> omega
theorem above_tn {g h t u lv : Int} {o : Bool} (hh : h < 0) (ht : t ≤ u) : above (bodyB g (u, h)) lv o ≤ above (bodyB g (t, h)) lv o := by
  have hn : ¬ 0 < h := by omega
  unfold bodyB above
  simp only [hn, if_false, if_true]
  by_cases w : lv < t ∨ (t = lv ∧ o = false)
  · rw [if_pos w, if_pos (by rcases w with w | w; exact .inl (by omega); by_cases e : u = t; exact .inr ⟨by omega, w.2⟩; exact .inl (by omega))]
    exact Int.le_refl _
  · rw [if_neg w]
    split <;> omega
theorem HB_pos {ss : List Tri} {bs : List Bx} {g h t u : Int} (h1 : OkP (ss, bs ++ [(t, h)], g)) (h2 : OkP (ss, bs ++ [(u, h)], g)) (hh : 0 < h) (ht : t ≤ u) : HB ss bs g h u ≤ HB ss bs g h t := by
  unfold HB
  obtain ⟨lv, o, _, e⟩ := heat_at (goodB h2)
  have z := need_any (goodB h1) lv o
  have y := above_tp (g := g) (lv := lv) (o := o) hh ht
  rw [AA_box1] at e z
  omega
theorem HB_neg {ss : List Tri} {bs : List Bx} {g h t u : Int} (h1 : OkP (ss, bs ++ [(t, h)], g)) (h2 : OkP (ss, bs ++ [(u, h)], g)) (hh : h < 0) (ht : t ≤ u) : HB ss bs g h t ≤ HB ss bs g h u := by
  unfold HB
  obtain ⟨lv, o, _, e⟩ := heat_at (goodB h1)
  have z := need_any (goodB h2) lv o
  have y := above_tn (g := g) (lv := lv) (o := o) hh ht
  rw [AA_box1] at e z
  omega
theorem OkP.box {ss : List Tri} {bs : List Bx} {g h t : Int} (hp : OkP (ss, bs, g)) (hl : bs.length ≤ 3) (ht0 : 0 ≤ t) (ht1 : t ≤ 1000) (h0 : -10000 ≤ h) (h1 : h ≤ 10000) (hn : h ≠ 0) : OkP (ss, bs ++ [(t, h)], g) :=
  ⟨hp.ss, fun b hb => by
    rcases List.mem_append.mp hb with z | z
    · exact hp.bs b z
    · rw [List.mem_singleton.mp z]
      exact ⟨ht0, ht1, h0, h1, hn⟩, hp.ls, by show (bs ++ [(t, h)]).length ≤ 4; simp; omega, hp.g0, hp.g1, .inr (by simp)⟩
/-- (t, v): the least place of lo .. hi where f is least, with its value -/
def BestAt (f : Int → Int) (lo hi t : Int) : Prop := lo ≤ t ∧ t ≤ hi ∧ (∀ u, lo ≤ u → u ≤ hi → f t ≤ f u) ∧ ∀ u, lo ≤ u → u < t → f t < f u
theorem best_uniq {f : Int → Int} {lo hi t t' : Int} (h : BestAt f lo hi t) (h' : BestAt f lo hi t') : t = t' := by
  obtain ⟨a1, a2, a3, a4⟩ := h
  obtain ⟨b1, b2, b3, b4⟩ := h'
  have x := a3 t' b1 b2
  have y := b3 t a1 a2
  by_cases e : t < t'
  · have := b4 t a1 e; omega
  · by_cases e2 : t' < t
    · have := a4 t' b1 e2; omega
    · omega
end My

set_option Elab.async false
set_option autoImplicit false
set_option linter.all false
/-! M8: a box above all levels, below all levels, two boxes that cancel -/
namespace My
open DW PySem
theorem AA_hi0 {bs : List Tri} (hu : ∀ b ∈ bs, Up b) {t lv : Int} {o : Bool} (ht : ∀ b ∈ bs, b.1 ≤ t) (h : t < lv ∨ (lv = t ∧ o = true)) : AA bs lv o = 0 := by
  refine sum_zero fun b hb => ?_
  have h1 := ht b hb
  have h2 := hu b hb
  unfold Up at h2
  unfold above
  by_cases z : b.1 = b.2.1
  · rw [if_pos z, if_neg]
    rintro (w | ⟨w, w'⟩)
    · omega
    · rcases h with h | ⟨h, h'⟩
      · omega
      · rw [h'] at w'; cases w'
  · rw [if_neg z]
    have e : max 0 (b.1 - max b.2.1 lv) = 0 := by omega
    rw [e, Int.mul_zero]
theorem AA_lo0 {bs : List Tri} (hu : ∀ b ∈ bs, Up b) {t lv : Int} {o : Bool} (ht : ∀ b ∈ bs, t ≤ b.2.1) (h : lv < t ∨ (lv = t ∧ o = false)) : AA bs lv o = (bs.map whole).sum := by
  refine sum_congr fun b hb => ?_
  have h1 := ht b hb
  have h2 := hu b hb
  unfold Up at h2
  unfold above whole
  by_cases z : b.1 = b.2.1
  · rw [if_pos z, if_pos z, if_pos]
    rcases h with h | ⟨h, h'⟩
    · exact .inl (by omega)
    · by_cases e : lv < b.1
      · exact .inl e
      · exact .inr ⟨by omega, h'⟩
  · rw [if_neg z, if_neg z]
    have e : max 0 (b.1 - max b.2.1 lv) = b.1 - b.2.1 := by omega
    rw [e]
theorem tops_le {bs : List Tri} {t : Int} (h : lvAt bs 0 ≤ t) : ∀ b ∈ bs, b.1 ≤ t := fun b hb => Int.le_trans (lv_top (mem_levels hb).1) h
theorem bots_ge {bs : List Tri} {t : Int} (h : t ≤ lvAt bs ((levelsOf bs).length - 1)) : ∀ b ∈ bs, t ≤ b.2.1 := fun b hb => Int.le_trans h (lv_bottom (mem_levels hb).2)
theorem box_top {ss : List Tri} {bs : List Bx} {g h : Int} (hp : OkP (ss, bs, g)) (hq : OkP (ss, bs ++ [(1000, h)], g)) (hh : 0 < h) (hl : lvAt (bodies (ss, bs, g)) 0 ≤ 1000 - g) : HB ss bs g h 1000 = max 0 (heatingOf (bodies (ss, bs, g)) - h) := by
  have g1 := goodB hp
  have g2 := goodB hq
  have n1 := heat_nn g2
  have top : ∀ lv o, above (bodyB g (1000, h)) lv o = if lv < 1000 - g ∨ (1000 - g = lv ∧ o = false) then h else 0 := fun lv o => by
    unfold bodyB above
    simp only [hh, if_true]
  obtain ⟨lv, o, _, e⟩ := heat_at g1
  have z := need_any g2 lv o
  obtain ⟨lv2, o2, _, e2⟩ := heat_at g2
  have z2 := need_any g1 lv2 o2
  rw [AA_box1, top] at z
  rw [AA_box1, top] at e2
  show heatingOf (bodies (ss, bs ++ [(1000, h)], g)) = _
  split at z <;> split at e2
  · omega
  · rename_i w
    have := AA_hi0 (o := o2) (lv := lv2) g1.up (tops_le hl) (by
      by_cases a : 1000 - g < lv2
      · exact .inl a
      · refine .inr ⟨by omega, ?_⟩
        cases o2
        · exact absurd (.inr ⟨by omega, rfl⟩) w
        · rfl)
    omega
  · omega
  · rename_i w
    have := AA_hi0 (o := o2) (lv := lv2) g1.up (tops_le hl) (by
      by_cases a : 1000 - g < lv2
      · exact .inl a
      · refine .inr ⟨by omega, ?_⟩
        cases o2
        · exact absurd (.inr ⟨by omega, rfl⟩) w
        · rfl)
    omega
theorem box_bot {ss : List Tri} {bs : List Bx} {g h : Int} (hp : OkP (ss, bs, g)) (hq : OkP (ss, bs ++ [(0, -h)], g)) (hh : 0 < h) (hl : 0 ≤ lvAt (bodies (ss, bs, g)) ((levelsOf (bodies (ss, bs, g))).length - 1)) : HB ss bs g (-h) 0 = max (heatingOf (bodies (ss, bs, g))) (h - ((bodies (ss, bs, g)).map whole).sum) := by
  have g1 := goodB hp
  have g2 := goodB hq
  have hn : ¬ 0 < -h := by omega
  have top : ∀ lv o, above (bodyB g (0, -h)) lv o = if lv < 0 ∨ (0 = lv ∧ o = false) then -h else 0 := fun lv o => by
    unfold bodyB above
    simp only [hn, if_false, if_true]
  obtain ⟨lv, o, _, e⟩ := heat_at g1
  have z := need_any g2 lv o
  have y := need_any g2 0 false
  obtain ⟨lv2, o2, _, e2⟩ := heat_at g2
  have z2 := need_any g1 lv2 o2
  have b0 := AA_lo0 (o := false) (lv := 0) g1.up (bots_ge hl) (.inr ⟨rfl, rfl⟩)
  rw [AA_box1, top] at z
  rw [AA_box1, top, if_pos (.inr ⟨rfl, rfl⟩)] at y
  rw [AA_box1, top] at e2
  show heatingOf (bodies (ss, bs ++ [(0, -h)], g)) = _
  have b2 : (lv2 < 0 ∨ (0 = lv2 ∧ o2 = false)) → AA (bodies (ss, bs, g)) lv2 o2 = ((bodies (ss, bs, g)).map whole).sum := fun w => AA_lo0 g1.up (bots_ge hl) (by
    rcases w with w | ⟨w, w'⟩
    · exact .inl w
    · exact .inr ⟨w.symm, w'⟩)
  have z3 : heatingOf (bodies (ss, bs, g)) ≤ heatingOf (bodies (ss, bs ++ [(0, -h)], g)) := by split at z <;> omega
  split at e2
  · rename_i w
    have := b2 w
    omega
  · omega
theorem whole_box {ss : List Tri} {bs : List Bx} {g h t : Int} : ((bodies (ss, bs ++ [(t, h)], g)).map whole).sum = ((bodies (ss, bs, g)).map whole).sum + h := by
  unfold bodies
  simp only [List.map_append, List.sum_append, List.map_cons, List.map_nil, List.sum_cons, List.sum_nil]
  have e : whole (bodyB g (t, h)) = h := by simp [whole, bodyB]
  rw [e]
  omega
theorem box_two {ss : List Tri} {bs : List Bx} {h t : Int} (hp : OkP (ss, bs, 0)) (hq : OkP (ss, bs ++ [(t, h), (t, -h)], 0)) (hh : 0 < h) : heatingOf (bodies (ss, bs ++ [(t, h), (t, -h)], 0)) = heatingOf (bodies (ss, bs, 0)) ∧ ((bodies (ss, bs ++ [(t, h), (t, -h)], 0)).map whole).sum = ((bodies (ss, bs, 0)).map whole).sum := by
  have hn : ¬ 0 < -h := by omega
  have e : bs ++ [(t, h), (t, -h)] = (bs ++ [(t, h)]) ++ [(t, -h)] := by simp
  have eq : ∀ lv o, AA (bodies (ss, bs ++ [(t, h), (t, -h)], 0)) lv o = AA (bodies (ss, bs, 0)) lv o := fun lv o => by
    rw [e, AA_box1, AA_box1]
    unfold bodyB above
    simp only [hh, hn, if_true, if_false, Int.sub_zero]
    split <;> omega
  refine ⟨?_, by rw [e, whole_box, whole_box]; omega⟩
  obtain ⟨lv, o, _, e1⟩ := heat_at (goodB hp)
  obtain ⟨lv2, o2, _, e2⟩ := heat_at (goodB hq)
  have z := need_any (goodB hq) lv o
  have z2 := need_any (goodB hp) lv2 o2
  rw [eq] at z e2
  omega
end My

set_option Elab.async false
set_option autoImplicit false
set_option linter.all false
set_option maxRecDepth 100000
set_option maxHeartbeats 1000000
namespace My
open PySem DW
def pr_is_integer : Prm := { N := ["value"], B := ["isinstance", "int", "bool"], G := [], F := [], O := [], M := [] }
def ir_is_integer : IB :=
  (.cons (.ret (.an (.isi (.nm 0) .int) (.nt (.isi (.nm 0) .bool))))
  .nil)
def pr_is_within : Prm := { N := ["value", "low", "high"], B := [], G := [], F := ["is_integer"], O := [], M := [] }
def ir_is_within : IB :=
  (.cons (.ret (.an (.call "is_integer" (.cons (.nm 0) .nil)) (.ch .LtE .LtE (.nm 1) (.nm 0) (.nm 2))))
  .nil)
def pr_is_row : Prm := { N := ["value", "least", "most"], B := ["isinstance", "tuple", "len"], G := [], F := [], O := [], M := [] }
def ir_is_row : IB :=
  (.cons (.ret (.an (.isi (.nm 0) .tuple) (.ch .LtE .LtE (.nm 1) (.ln 0) (.nm 2))))
  .nil)
def pr_is_temperature : Prm := { N := ["value"], B := [], G := ["MOST_DEGREES"], F := ["is_within"], O := [], M := [] }
def ir_is_temperature : IB :=
  (.cons (.ret (.call "is_within" (.cons (.nm 0) (.cons (.cn (.int 0)) (.cons (.gl "MOST_DEGREES") .nil)))))
  .nil)
def pr_is_stream : Prm := { N := ["value", "start", "goal", "rate"], B := [], G := ["MOST_RATE"], F := ["is_row", "is_temperature", "is_within"], O := [], M := [] }
def ir_is_stream : IB :=
  (.cons (.iff (.nt (.v (.call "is_row" (.cons (.nm 0) (.cons (.cn (.int 3)) (.cons (.cn (.int 3)) .nil))))))
  (.cons (.ret (.cn (.bool false)))
  .nil)
  .nil)
  (.cons (.asg (.tp [(.nm 1), (.nm 2), (.nm 3)]) (.nm 0))
  (.cons (.iff (.nt (.an (.v (.call "is_temperature" (.cons (.nm 1) .nil))) (.an (.v (.call "is_temperature" (.cons (.nm 2) .nil))) (.v (.call "is_within" (.cons (.nm 3) (.cons (.cn (.int 1)) (.cons (.gl "MOST_RATE") .nil))))))))
  (.cons (.ret (.cn (.bool false)))
  .nil)
  .nil)
  (.cons (.ret (.cp .NotEq (.nm 1) (.nm 2)))
  .nil))))
def pr_is_box : Prm := { N := ["value", "temperature", "heat"], B := [], G := ["MOST_BOX_HEAT"], F := ["is_row", "is_temperature", "is_within"], O := [], M := [] }
def ir_is_box : IB :=
  (.cons (.iff (.nt (.v (.call "is_row" (.cons (.nm 0) (.cons (.cn (.int 2)) (.cons (.cn (.int 2)) .nil))))))
  (.cons (.ret (.cn (.bool false)))
  .nil)
  .nil)
  (.cons (.asg (.tp [(.nm 1), (.nm 2)]) (.nm 0))
  (.cons (.ret (.an (.call "is_temperature" (.cons (.nm 1) .nil)) (.an (.call "is_within" (.cons (.nm 2) (.cons (.ng (.gl "MOST_BOX_HEAT")) (.cons (.gl "MOST_BOX_HEAT") .nil)))) (.cp .NotEq (.nm 2) (.cn (.int 0))))))
  .nil)))
def pr_is_threshold : Prm := { N := ["value"], B := ["isinstance", "bool"], G := [], F := ["is_row", "is_integer"], O := [], M := [] }
def ir_is_threshold : IB :=
  (.cons (.ret (.an (.call "is_row" (.cons (.nm 0) (.cons (.cn (.int 2)) (.cons (.cn (.int 2)) .nil)))) (.an (.call "is_integer" (.cons (.ixo 0 (.cn (.int 0))) .nil)) (.isi (.ixo 0 (.cn (.int 1))) .bool))))
  .nil)
def pr_check_streams : Prm := { N := ["streams", "index", "stream"], B := ["enumerate"], G := ["MOST_STREAMS"], F := ["is_row", "is_stream"], O := [], M := [] }
def ir_check_streams : IB :=
  (.cons (.iff (.nt (.v (.call "is_row" (.cons (.nm 0) (.cons (.cn (.int 0)) (.cons (.gl "MOST_STREAMS") .nil))))))
  (.cons .dead
  .nil)
  .nil)
  (.cons (.fo (.tp [(.nm 1), (.nm 2)]) (.en (.nm 0))
  (.cons (.iff (.nt (.v (.call "is_stream" (.cons (.nm 2) .nil))))
  (.cons .dead
  .nil)
  .nil)
  .nil))
  .nil))
def pr_check_boxes : Prm := { N := ["boxes", "index", "box"], B := ["enumerate"], G := ["MOST_BOXES"], F := ["is_row", "is_box"], O := [], M := [] }
def ir_check_boxes : IB :=
  (.cons (.iff (.nt (.v (.call "is_row" (.cons (.nm 0) (.cons (.cn (.int 0)) (.cons (.gl "MOST_BOXES") .nil))))))
  (.cons .dead
  .nil)
  .nil)
  (.cons (.fo (.tp [(.nm 1), (.nm 2)]) (.en (.nm 0))
  (.cons (.iff (.nt (.v (.call "is_box" (.cons (.nm 2) .nil))))
  (.cons .dead
  .nil)
  .nil)
  .nil))
  .nil))
def pr_check_gap : Prm := { N := ["gap"], B := [], G := ["MOST_GAP"], F := ["is_within"], O := [], M := [] }
def ir_check_gap : IB :=
  (.cons (.iff (.nt (.v (.call "is_within" (.cons (.nm 0) (.cons (.cn (.int 0)) (.cons (.gl "MOST_GAP") .nil))))))
  (.cons .dead
  .nil)
  .nil)
  .nil)
def pr_check_problem : Prm := { N := ["problem", "streams", "boxes", "gap"], B := [], G := [], F := ["is_row", "check_streams", "check_boxes", "check_gap"], O := [], M := [] }
def ir_check_problem : IB :=
  (.cons (.iff (.nt (.v (.call "is_row" (.cons (.nm 0) (.cons (.cn (.int 3)) (.cons (.cn (.int 3)) .nil))))))
  (.cons .dead
  .nil)
  .nil)
  (.cons (.asg (.tp [(.nm 1), (.nm 2), (.nm 3)]) (.nm 0))
  (.cons (.drop (.call "check_streams" (.cons (.nm 1) .nil)))
  (.cons (.drop (.call "check_boxes" (.cons (.nm 2) .nil)))
  (.cons (.drop (.call "check_gap" (.cons (.nm 3) .nil)))
  (.cons (.iff (.an (.nt (.vl 1)) (.nt (.vl 2)))
  (.cons .dead
  .nil)
  .nil)
  .nil))))))
def pr_is_box_body : Prm := { N := ["body"], B := [], G := [], F := [], O := [], M := [] }
def ir_is_box_body : IB :=
  (.cons (.ret (.cp .Eq (.ixo 0 (.cn (.int 0))) (.ixo 0 (.cn (.int 1)))))
  .nil)
def pr_heat_above : Prm := { N := ["body", "level", "is_open", "upper", "lower", "amount"], B := ["max"], G := [], F := ["is_box_body"], O := [], M := [] }
def ir_heat_above : IB :=
  (.cons (.asg (.tp [(.nm 3), (.nm 4), (.nm 5)]) (.nm 0))
  (.cons (.iff (.v (.call "is_box_body" (.cons (.nm 0) .nil)))
  (.cons (.ret (.ie (.ro (.cp .Gt (.nm 3) (.nm 1)) (.an (.cp .Eq (.nm 3) (.nm 1)) (.nt (.vl 2)))) (.nm 5) (.cn (.int 0))))
  .nil)
  .nil)
  (.cons (.ret (.bn .Mult (.nm 5) (.bi .max (.cons (.cn (.int 0)) (.cons (.bn .Sub (.nm 3) (.bi .max (.cons (.nm 4) (.cons (.nm 1) .nil)))) .nil)))))
  .nil)))
def pr_lack_above : Prm := { N := ["bodies", "level", "is_open", "body"], B := ["sum"], G := [], F := ["heat_above"], O := [], M := [] }
def ir_lack_above : IB :=
  (.cons (.ret (.ng (.bi .sum (.cons (.lc (.calq "heat_above" (.cons (.nm 3) (.cons (.nm 1) (.cons (.nm 2) .nil)))) (.nm 3) (.e (.nm 0)) .nil [3]) .nil))))
  .nil)
def pr_levels_of : Prm := { N := ["bodies", "found", "upper", "lower", "_"], B := ["sorted", "set"], G := [], F := [], O := [], M := [] }
def ir_levels_of : IB :=
  (.cons (.set 1 (.li .nil))
  (.cons (.fo (.tp [(.nm 2), (.nm 3), (.nm 4)]) (.e (.nm 0))
  (.cons (.app 1 (.nm 2))
  (.cons (.app 1 (.nm 3))
  .nil)))
  (.cons (.ret (.rv (.ss (.nm 1))))
  .nil)))
def pr_bodies_of : Prm := { N := ["problem", "streams", "boxes", "gap", "found", "start", "goal", "rate", "temperature", "heat", "level"], B := [], G := [], F := [], O := [], M := [] }
def ir_bodies_of : IB :=
  (.cons (.asg (.tp [(.nm 1), (.nm 2), (.nm 3)]) (.nm 0))
  (.cons (.set 4 (.li .nil))
  (.cons (.fo (.tp [(.nm 5), (.nm 6), (.nm 7)]) (.e (.nm 1))
  (.cons (.iff (.cp .Gt (.nm 5) (.nm 6))
  (.cons (.app 4 (.tu (.cons (.bn .Sub (.nm 5) (.nm 3)) (.cons (.bn .Sub (.nm 6) (.nm 3)) (.cons (.nm 7) .nil)))))
  .nil)
  (.cons (.app 4 (.tu (.cons (.nm 6) (.cons (.nm 5) (.cons (.ng (.nm 7)) .nil)))))
  .nil))
  .nil))
  (.cons (.fo (.tp [(.nm 8), (.nm 9)]) (.e (.nm 2))
  (.cons (.set 10 (.ie (.cp .Gt (.nm 9) (.cn (.int 0))) (.bn .Sub (.nm 8) (.nm 3)) (.nm 8)))
  (.cons (.app 4 (.tu (.cons (.nm 10) (.cons (.nm 10) (.cons (.nm 9) .nil)))))
  .nil)))
  (.cons (.ret (.nm 4))
  .nil)))))
def pr_edges_of : Prm := { N := ["bodies", "found", "level"], B := [], G := [], F := ["levels_of"], O := [], M := [] }
def ir_edges_of : IB :=
  (.cons (.set 1 (.li .nil))
  (.cons (.fo (.nm 2) (.e (.call "levels_of" (.cons (.nm 0) .nil)))
  (.cons (.app 1 (.tu (.cons (.nm 2) (.cons (.cn (.bool true)) .nil))))
  (.cons (.app 1 (.tu (.cons (.nm 2) (.cons (.cn (.bool false)) .nil))))
  .nil)))
  (.cons (.ret (.nm 1))
  .nil)))
def pr_heating_of : Prm := { N := ["bodies", "level", "is_open"], B := ["max"], G := [], F := ["edges_of", "lack_above"], O := [], M := [] }
def ir_heating_of : IB :=
  (.cons (.ret (.mxd (.lc (.calq "lack_above" (.cons (.nm 0) (.cons (.nm 1) (.cons (.nm 2) .nil)))) (.tp [(.nm 1), (.nm 2)]) (.e (.call "edges_of" (.cons (.nm 0) .nil))) .nil [1, 2]) (.cn (.int 0))))
  .nil)
def pr_heating_paper : Prm := { N := ["problem", "bodies", "heating", "edge"], B := [], G := [], F := ["check_problem", "bodies_of", "heating_of", "edges_of", "lack_above"], O := [], M := [] }
def ir_heating_paper : IB :=
  (.cons (.drop (.call "check_problem" (.cons (.nm 0) .nil)))
  (.cons (.set 1 (.call "bodies_of" (.cons (.nm 0) .nil)))
  (.cons (.set 2 (.call "heating_of" (.cons (.nm 1) .nil)))
  (.cons (.iff (.cp .Eq (.nm 2) (.cn (.int 0)))
  (.cons (.ret (.cn .none))
  .nil)
  .nil)
  (.cons (.ret (.ix (.lc (.nm 3) (.nm 3) (.e (.call "edges_of" (.cons (.nm 1) .nil))) (.one (.cp .Eq (.calq "lack_above" (.cons (.nm 1) (.cons (.ixo 3 (.cn (.int 0))) (.cons (.ixo 3 (.cn (.int 1))) .nil)))) (.nm 2))) [3]) (.cn (.int 0))))
  .nil)))))
def pr_shows_heating : Prm := { N := ["problem", "value", "bodies", "heating"], B := [], G := [], F := ["check_problem", "bodies_of", "heating_of", "is_threshold", "lack_above"], O := [], M := [] }
def ir_shows_heating : IB :=
  (.cons (.drop (.call "check_problem" (.cons (.nm 0) .nil)))
  (.cons (.set 2 (.call "bodies_of" (.cons (.nm 0) .nil)))
  (.cons (.set 3 (.call "heating_of" (.cons (.nm 2) .nil)))
  (.cons (.iff (.cp .Eq (.nm 3) (.cn (.int 0)))
  (.cons (.ret (.cp .Is (.nm 1) (.cn .none)))
  .nil)
  .nil)
  (.cons (.ret (.an (.call "is_threshold" (.cons (.nm 1) .nil)) (.cp .Eq (.call "lack_above" (.cons (.nm 2) (.cons (.ixo 1 (.cn (.int 0))) (.cons (.ixo 1 (.cn (.int 1))) .nil)))) (.nm 3))))
  .nil)))))
def pr__law_taken : Prm := { N := ["row", "many", "found", "cell"], B := ["int", "len"], G := [], F := [], O := [], M := [] }
def ir__law_taken : IB :=
  (.cons (.iff (.cp .Gt (.ixo 0 (.cn (.int 3))) (.cn (.int 0)))
  (.cons (.set 2 (.bn .Mod (.bi .int (.cons (.ixo 0 (.cn (.int 3))) .nil)) (.nm 1)))
  (.cons (.sti 0 (.cn (.int 3)) (.bn .FloorDiv (.ixo 0 (.cn (.int 3))) (.nm 1)))
  (.cons (.ret (.nm 2))
  .nil)))
  .nil)
  (.cons (.sti 0 (.cn (.int 1)) (.bn .Add (.ixo 0 (.cn (.int 1))) (.cn (.int 1))))
  (.cons (.iff (.cp .Gt (.ixo 0 (.cn (.int 1))) (.bi .len (.cons (.ixo 0 (.cn (.int 0))) .nil)))
  (.cons (.sti 0 (.cn (.int 2)) (.bn .Mod (.bi .int (.cons (.bn .Add (.bn .Mult (.ixo 0 (.cn (.int 2))) (.cn (.int 48271))) (.cn (.int 11))) .nil)) (.cn (.int 2147483647))))
  (.cons (.ret (.bn .Mod (.bi .int (.cons (.bn .FloorDiv (.ixo 0 (.cn (.int 2))) (.cn (.int 7))) .nil)) (.nm 1)))
  .nil))
  .nil)
  (.cons (.set 3 (.ix (.ixo 0 (.cn (.int 0))) (.bn .Sub (.ixo 0 (.cn (.int 1))) (.cn (.int 1)))))
  (.cons (.sti 0 (.cn (.int 2)) (.bn .Mod (.bi .int (.cons (.bn .Add (.bn .Add (.bn .Mult (.ixo 0 (.cn (.int 2))) (.cn (.int 48271))) (.nm 3)) (.cn (.int 11))) .nil)) (.cn (.int 2147483647))))
  (.cons (.iff (.cp .GtE (.nm 3) (.bn .Pow (.cn (.int 10)) (.cn (.int 18))))
  (.cons (.sti 0 (.cn (.int 3)) (.bn .FloorDiv (.nm 3) (.nm 1)))
  .nil)
  .nil)
  (.cons (.ret (.bn .Mod (.bi .int (.cons (.nm 3) .nil)) (.nm 1)))
  .nil)))))))
def pr__law_pick : Prm := { N := ["row", "things"], B := ["len"], G := [], F := [], O := ["_law_taken"], M := [] }
def ir__law_pick : IB :=
  (.cons (.ret (.ixo 1 (.calo "_law_taken" 0 (.cons (.ln 1) .nil))))
  .nil)
def pr__law_problem : Prm := { N := ["row", "streams", "boxes", "scale", "k", "start", "goal", "heat"], B := ["range", "tuple"], G := [], F := [], O := ["_law_pick", "_law_taken"], M := [] }
def ir__law_problem : IB :=
  (.cons (.par 1 2 (.li .nil) (.li .nil))
  (.cons (.set 3 (.calo "_law_pick" 0 (.cons (.li (.cons (.cn (.int 1)) (.cons (.cn (.int 10)) (.cons (.cn (.int 10)) (.cons (.cn (.int 50)) .nil))))) .nil)))
  (.cons (.fo (.nm 4) (.r1 (.calo "_law_taken" 0 (.cons (.cn (.int 5)) .nil)))
  (.cons (.set 5 (.bn .Mult (.nm 3) (.calo "_law_taken" 0 (.cons (.cn (.int 20)) .nil))))
  (.cons (.set 6 (.bn .Mult (.nm 3) (.calo "_law_taken" 0 (.cons (.cn (.int 20)) .nil))))
  (.cons (.app 1 (.tu (.cons (.nm 5) (.cons (.ie (.cp .NotEq (.nm 6) (.nm 5)) (.nm 6) (.bn .Add (.nm 5) (.nm 3))) (.cons (.bn .Add (.cn (.int 1)) (.calo "_law_taken" 0 (.cons (.calo "_law_pick" 0 (.cons (.li (.cons (.cn (.int 3)) (.cons (.cn (.int 10)) (.cons (.cn (.int 100)) .nil)))) .nil)) .nil))) .nil)))))
  .nil))))
  (.cons (.fo (.nm 4) (.r1 (.calo "_law_pick" 0 (.cons (.li (.cons (.cn (.int 0)) (.cons (.cn (.int 0)) (.cons (.cn (.int 1)) (.cons (.cn (.int 2)) .nil))))) .nil)))
  (.cons (.set 7 (.calo "_law_pick" 0 (.cons (.li (.cons (.cn (.int 1)) (.cons (.cn (.int 20)) (.cons (.cn (.int 100)) (.cons (.cn (.int 10000)) (.cons (.bn .Add (.cn (.int 1)) (.calo "_law_taken" 0 (.cons (.cn (.int 500)) .nil))) .nil)))))) .nil)))
  (.cons (.app 2 (.tu (.cons (.bn .Mult (.nm 3) (.calo "_law_taken" 0 (.cons (.cn (.int 20)) .nil))) (.cons (.ie (.cp .Eq (.calo "_law_taken" 0 (.cons (.cn (.int 2)) .nil)) (.cn (.int 0))) (.nm 7) (.bn .Sub (.cn (.int 0)) (.nm 7))) .nil))))
  .nil)))
  (.cons (.iff (.an (.cp .Eq (.nm 1) (.li .nil)) (.cp .Eq (.nm 2) (.li .nil)))
  (.cons (.set 1 (.li (.cons (.tu (.cons (.cn (.int 0)) (.cons (.nm 3) (.cons (.cn (.int 1)) .nil)))) .nil)))
  .nil)
  .nil)
  (.cons (.ret (.tu (.cons (.bi .tuple (.cons (.nm 1) .nil)) (.cons (.bi .tuple (.cons (.nm 2) .nil)) (.cons (.calo "_law_pick" 0 (.cons (.li (.cons (.cn (.int 0)) (.cons (.nm 3) (.cons (.nm 3) (.cons (.bn .Mult (.cn (.int 2)) (.nm 3)) (.cons (.calo "_law_taken" 0 (.cons (.cn (.int 30)) .nil)) .nil)))))) .nil)) .nil)))))
  .nil))))))
def pr__law_span : Prm := { N := ["problem", "number", "streams", "boxes", "gap", "start", "goal", "rate", "down", "at", "heat"], B := ["len", "min", "max"], G := [], F := [], O := [], M := [] }
def ir__law_span : IB :=
  (.cons (.asg (.tp [(.nm 2), (.nm 3), (.nm 4)]) (.nm 0))
  (.cons (.iff (.cp .Lt (.nm 1) (.ln 2))
  (.cons (.asg (.tp [(.nm 5), (.nm 6), (.nm 7)]) (.ixo 2 (.nm 1)))
  (.cons (.set 8 (.ie (.cp .Gt (.nm 5) (.nm 6)) (.nm 4) (.cn (.int 0))))
  (.cons (.ret (.tu (.cons (.cp .Gt (.nm 5) (.nm 6)) (.cons (.bn .Sub (.bi .max (.cons (.nm 5) (.cons (.nm 6) .nil))) (.nm 8)) (.cons (.bn .Sub (.bi .min (.cons (.nm 5) (.cons (.nm 6) .nil))) (.nm 8)) (.cons (.nm 7) (.cons (.cn (.int 0)) .nil)))))))
  .nil)))
  .nil)
  (.cons (.asg (.tp [(.nm 9), (.nm 10)]) (.ixo 3 (.bn .Sub (.nm 1) (.ln 2))))
  (.cons (.ret (.ie (.cp .Gt (.nm 10) (.cn (.int 0))) (.tu (.cons (.cp .Gt (.nm 10) (.cn (.int 0))) (.cons (.bn .Sub (.nm 9) (.nm 4)) (.cons (.bn .Sub (.nm 9) (.nm 4)) (.cons (.cn (.int 0)) (.cons (.nm 10) .nil)))))) (.tu (.cons (.cn (.bool false)) (.cons (.nm 9) (.cons (.nm 9) (.cons (.cn (.int 0)) (.cons (.bn .Sub (.cn (.int 0)) (.nm 10)) .nil))))))))
  .nil))))
def pr__law_heat : Prm := { N := ["problem", "number", "level", "is_open", "gives", "upper", "lower", "rate", "heat"], B := ["min", "max"], G := [], F := ["_law_span"], O := [], M := [] }
def ir__law_heat : IB :=
  (.cons (.asg (.tp [(.nm 4), (.nm 5), (.nm 6), (.nm 7), (.nm 8)]) (.call "_law_span" (.cons (.nm 0) (.cons (.nm 1) .nil))))
  (.cons (.iff (.cp .Eq (.nm 7) (.cn (.int 0)))
  (.cons (.ret (.ie (.ro (.cp .Gt (.nm 5) (.nm 2)) (.an (.cp .Eq (.nm 5) (.nm 2)) (.nt (.vl 3)))) (.nm 8) (.cn (.int 0))))
  .nil)
  .nil)
  (.cons (.ret (.bn .Mult (.nm 7) (.bn .Sub (.nm 5) (.bi .min (.cons (.nm 5) (.cons (.bi .max (.cons (.nm 6) (.cons (.nm 2) .nil))) .nil))))))
  .nil)))
def pr__law_need : Prm := { N := ["problem", "level", "is_open", "found", "number", "heat"], B := ["range", "len"], G := [], F := ["_law_heat", "_law_span"], O := [], M := [] }
def ir__law_need : IB :=
  (.cons (.set 3 (.cn (.int 0)))
  (.cons (.fo (.nm 4) (.r1 (.bn .Add (.bi .len (.cons (.ixo 0 (.cn (.int 0))) .nil)) (.bi .len (.cons (.ixo 0 (.cn (.int 1))) .nil))))
  (.cons (.set 5 (.call "_law_heat" (.cons (.nm 0) (.cons (.nm 4) (.cons (.nm 1) (.cons (.nm 2) .nil))))))
  (.cons (.set 3 (.ie (.v (.ix (.call "_law_span" (.cons (.nm 0) (.cons (.nm 4) .nil))) (.cn (.int 0)))) (.bn .Sub (.nm 3) (.nm 5)) (.bn .Add (.nm 3) (.nm 5))))
  .nil)))
  (.cons (.ret (.nm 3))
  .nil)))
def pr__law_levels : Prm := { N := ["problem", "found", "number"], B := ["range", "len", "list", "sorted", "set"], G := [], F := ["_law_span"], O := [], M := [] }
def ir__law_levels : IB :=
  (.cons (.set 1 (.li .nil))
  (.cons (.fo (.nm 2) (.r1 (.bn .Add (.bi .len (.cons (.ixo 0 (.cn (.int 0))) .nil)) (.bi .len (.cons (.ixo 0 (.cn (.int 1))) .nil))))
  (.cons (.set 1 (.bn .Add (.nm 1) (.bi .list (.cons (.s2 (.call "_law_span" (.cons (.nm 0) (.cons (.nm 2) .nil))) (.cn (.int 1)) (.cn (.int 3))) .nil))))
  .nil))
  (.cons (.ret (.rv (.ss (.nm 1))))
  .nil)))
def pr__law_heating : Prm := { N := ["problem", "needs", "level"], B := ["max"], G := [], F := ["_law_levels", "_law_need"], O := [], M := [] }
def ir__law_heating : IB :=
  (.cons (.set 1 (.li (.cons (.cn (.int 0)) .nil)))
  (.cons (.fo (.nm 2) (.e (.call "_law_levels" (.cons (.nm 0) .nil)))
  (.cons (.set 1 (.bn .Add (.nm 1) (.li (.cons (.call "_law_need" (.cons (.nm 0) (.cons (.nm 2) (.cons (.cn (.bool true)) .nil)))) (.cons (.call "_law_need" (.cons (.nm 0) (.cons (.nm 2) (.cons (.cn (.bool false)) .nil)))) .nil)))))
  .nil))
  (.cons (.ret (.bi .max (.cons (.nm 1) .nil)))
  .nil)))
def pr_whole_heat : Prm := { N := ["body", "upper", "lower", "amount"], B := [], G := [], F := ["is_box_body"], O := [], M := [] }
def ir_whole_heat : IB :=
  (.cons (.asg (.tp [(.nm 1), (.nm 2), (.nm 3)]) (.nm 0))
  (.cons (.ret (.ie (.v (.call "is_box_body" (.cons (.nm 0) .nil))) (.nm 3) (.bn .Mult (.nm 3) (.bn .Sub (.nm 1) (.nm 2)))))
  .nil))
def pr_outside_with : Prm := { N := ["heating", "bodies", "body"], B := ["sum"], G := [], F := ["whole_heat"], O := [], M := [] }
def ir_outside_with : IB :=
  (.cons (.ret (.tu (.cons (.nm 0) (.cons (.bn .Add (.nm 0) (.bi .sum (.cons (.lc (.calq "whole_heat" (.cons (.nm 2) .nil)) (.nm 2) (.e (.nm 1)) .nil [2]) .nil))) .nil))))
  .nil)
def pr_least_outside : Prm := { N := ["problem", "bodies"], B := [], G := [], F := ["check_problem", "bodies_of", "outside_with", "heating_of"], O := [], M := [] }
def ir_least_outside : IB :=
  (.cons (.drop (.call "check_problem" (.cons (.nm 0) .nil)))
  (.cons (.set 1 (.call "bodies_of" (.cons (.nm 0) .nil)))
  (.cons (.ret (.call "outside_with" (.cons (.call "heating_of" (.cons (.nm 1) .nil)) (.cons (.nm 1) .nil))))
  .nil)))
def pr_cascade : Prm := { N := ["problem", "bodies", "heating", "steps", "level", "before", "behind"], B := ["tuple"], G := [], F := ["check_problem", "bodies_of", "heating_of", "levels_of", "lack_above"], O := [], M := [] }
def ir_cascade : IB :=
  (.cons (.drop (.call "check_problem" (.cons (.nm 0) .nil)))
  (.cons (.set 1 (.call "bodies_of" (.cons (.nm 0) .nil)))
  (.cons (.set 2 (.call "heating_of" (.cons (.nm 1) .nil)))
  (.cons (.set 3 (.li .nil))
  (.cons (.fo (.nm 4) (.e (.call "levels_of" (.cons (.nm 1) .nil)))
  (.cons (.set 5 (.bn .Sub (.nm 2) (.call "lack_above" (.cons (.nm 1) (.cons (.nm 4) (.cons (.cn (.bool true)) .nil))))))
  (.cons (.set 6 (.bn .Sub (.nm 2) (.call "lack_above" (.cons (.nm 1) (.cons (.nm 4) (.cons (.cn (.bool false)) .nil))))))
  (.cons (.app 3 (.tu (.cons (.nm 4) (.cons (.nm 5) (.cons (.nm 6) .nil)))))
  .nil))))
  (.cons (.ret (.bi .tuple (.cons (.nm 3) .nil)))
  .nil))))))
def pr_pinches : Prm := { N := ["problem", "level", "before", "behind"], B := ["tuple"], G := [], F := ["cascade"], O := [], M := [] }
def ir_pinches : IB :=
  (.cons (.ret (.bi .tuple (.cons (.lc (.nm 1) (.tp [(.nm 1), (.nm 2), (.nm 3)]) (.e (.call "cascade" (.cons (.nm 0) .nil))) (.one (.ro (.cp .Eq (.nm 2) (.cn (.int 0))) (.cp .Eq (.nm 3) (.cn (.int 0))))) [1, 2, 3]) .nil)))
  .nil)
def pr_check_flag : Prm := { N := ["flag"], B := ["isinstance", "bool"], G := [], F := [], O := [], M := [] }
def ir_check_flag : IB :=
  (.cons (.iff (.nt (.v (.isi (.nm 0) .bool)))
  (.cons .dead
  .nil)
  .nil)
  .nil)
def pr_heat_at : Prm := { N := ["body", "level"], B := [], G := [], F := ["heat_above"], O := [], M := [] }
def ir_heat_at : IB :=
  (.cons (.ret (.bn .Sub (.call "heat_above" (.cons (.nm 0) (.cons (.nm 1) (.cons (.cn (.bool false)) .nil)))) (.call "heat_above" (.cons (.nm 0) (.cons (.nm 1) (.cons (.cn (.bool true)) .nil))))))
  .nil)
def pr_heat_between : Prm := { N := ["body", "upper", "lower"], B := [], G := [], F := ["heat_above"], O := [], M := [] }
def ir_heat_between : IB :=
  (.cons (.ret (.bn .Sub (.call "heat_above" (.cons (.nm 0) (.cons (.nm 2) (.cons (.cn (.bool true)) .nil)))) (.call "heat_above" (.cons (.nm 0) (.cons (.nm 1) (.cons (.cn (.bool false)) .nil))))))
  .nil)
def pr_gap_curve : Prm := { N := ["problem", "most", "streams", "boxes", "_", "gap"], B := ["tuple", "range"], G := [], F := ["check_problem", "check_gap", "heating_of", "bodies_of"], O := [], M := [] }
def ir_gap_curve : IB :=
  (.cons (.drop (.call "check_problem" (.cons (.nm 0) .nil)))
  (.cons (.drop (.call "check_gap" (.cons (.nm 1) .nil)))
  (.cons (.asg (.tp [(.nm 2), (.nm 3), (.nm 4)]) (.nm 0))
  (.cons (.ret (.bi .tuple (.cons (.lc (.calq "heating_of" (.cons (.calq "bodies_of" (.cons (.tu (.cons (.nm 2) (.cons (.nm 3) (.cons (.nm 5) .nil)))) .nil)) .nil)) (.nm 5) (.r1 (.bn .Add (.nm 1) (.cn (.int 1)))) .nil [5]) .nil)))
  .nil))))
def pr__law_alike : Prm := { N := ["found", "due", "k"], B := ["isinstance", "tuple", "list", "len", "range", "str", "int", "bool"], G := [], F := ["_law_alike"], O := [], M := [] }
def ir__law_alike : IB :=
  (.cons (.iff (.v (.isj (.nm 1) .tuple .list))
  (.cons (.iff (.ro (.nt (.v (.isj (.nm 0) .tuple .list))) (.cp .NotEq (.isi (.nm 0) .list) (.isi (.nm 1) .list)))
  (.cons (.ret (.cn (.bool false)))
  .nil)
  .nil)
  (.cons (.iff (.cp .NotEq (.ln 0) (.ln 1))
  (.cons (.ret (.cn (.bool false)))
  .nil)
  .nil)
  (.cons (.ret (.cp .Eq (.lc (.nm 2) (.nm 2) (.r1 (.ln 1)) (.one (.nt (.v (.calq "_law_alike" (.cons (.ixo 0 (.nm 2)) (.cons (.ixo 1 (.nm 2)) .nil)))))) [2]) (.li .nil)))
  .nil)))
  .nil)
  (.cons (.iff (.ro (.cp .Is (.nm 1) (.cn .none)) (.v (.isi (.nm 1) .str)))
  (.cons (.ret (.an (.cp .Eq (.nm 0) (.nm 1)) (.cp .Eq (.isi (.nm 0) .str) (.isi (.nm 1) .str))))
  .nil)
  .nil)
  (.cons (.ret (.an (.isi (.nm 0) .int) (.an (.cp .Eq (.isi (.nm 0) .bool) (.isi (.nm 1) .bool)) (.cp .Eq (.nm 0) (.nm 1)))))
  .nil)))
def pr_check_level : Prm := { N := ["level"], B := [], G := [], F := ["is_integer"], O := [], M := [] }
def ir_check_level : IB :=
  (.cons (.iff (.nt (.v (.call "is_integer" (.cons (.nm 0) .nil))))
  (.cons .dead
  .nil)
  .nil)
  .nil)
def pr_given_above : Prm := { N := ["problem", "level", "heats", "body", "heat"], B := ["sum"], G := [], F := ["check_problem", "check_level", "bodies_of", "heat_above"], O := [], M := [] }
def ir_given_above : IB :=
  (.cons (.drop (.call "check_problem" (.cons (.nm 0) .nil)))
  (.cons (.drop (.call "check_level" (.cons (.nm 1) .nil)))
  (.cons (.set 2 (.lc (.calq "heat_above" (.cons (.nm 3) (.cons (.nm 1) (.cons (.cn (.bool true)) .nil)))) (.nm 3) (.e (.call "bodies_of" (.cons (.nm 0) .nil))) .nil [3]))
  (.cons (.ret (.tu (.cons (.bi .sum (.cons (.lc (.nm 4) (.nm 4) (.e (.nm 2)) (.one (.cp .Gt (.nm 4) (.cn (.int 0)))) [4]) .nil)) (.cons (.ng (.bi .sum (.cons (.lc (.nm 4) (.nm 4) (.e (.nm 2)) (.one (.cp .Lt (.nm 4) (.cn (.int 0)))) [4]) .nil))) .nil))))
  .nil))))
def pr_levels : Prm := { N := ["problem"], B := ["tuple"], G := [], F := ["check_problem", "levels_of", "bodies_of"], O := [], M := [] }
def ir_levels : IB :=
  (.cons (.drop (.call "check_problem" (.cons (.nm 0) .nil)))
  (.cons (.ret (.bi .tuple (.cons (.call "levels_of" (.cons (.call "bodies_of" (.cons (.nm 0) .nil)) .nil)) .nil)))
  .nil))
end My

set_option Elab.async false
set_option autoImplicit false
set_option linter.all false
set_option maxRecDepth 100000
set_option maxHeartbeats 1000000
namespace My
open PySem DW
local macro_rules | `(tactic| simp_arith [$xs,*]) => `(tactic| simp only [↓Mng.E_nm, ↓Mng.E_gl, ↓Mng.E_cn, ↓Mng.E_ng, ↓Mng.E_nt, ↓Mng.E_bn, ↓Mng.E_cp, ↓Mng.E_ch, ↓Mng.E_an, ↓Mng.E_ro, ↓Mng.E_ie, ↓Mng.E_tu, ↓Mng.E_li, ↓Mng.E_ix, ↓Mng.E_ixo, ↓Mng.E_s2, ↓Mng.E_sL, ↓Mng.E_sH, ↓Mng.E_rv, ↓Mng.E_d0, ↓Mng.E_fs, ↓Mng.E_bi, ↓Mng.E_ln, ↓Mng.E_isi, ↓Mng.E_isj, ↓Mng.E_call, ↓Mng.E_calo, ↓Mng.E_calq, ↓Mng.E_caloq, ↓Mng.E_told, ↓Mng.E_lc, ↓Mng.E_ss, ↓Mng.E_mxd, ↓Mng.E_c4, ↓Mng.E_ma, ↓Mng.E_lc2, ↓Mng.A_nil, ↓Mng.A_cons, ↓Mng.J_nil, ↓Mng.J_cons, ↓Mng.T_cp, ↓Mng.T_ch, ↓Mng.T_nt, ↓Mng.T_an, ↓Mng.T_ro, ↓Mng.T_v, ↓Mng.T_vl, ↓Mng.T_c4, ↓Mng.F_nil, ↓Mng.F_one, ↓Mng.I_e, ↓Mng.I_r1, ↓Mng.I_r2, ↓Mng.I_en, ↓Mng.I_zp, ↓Mng.I_z3, ↓Mng.ex_nil0, ↓Mng.ex_nil1, ↓Mng.ex_set, ↓Mng.ex_asg, ↓Mng.ex_par, ↓Mng.ex_par3, ↓Mng.ex_app, ↓Mng.ex_sti, ↓Mng.ex_sti2, ↓Mng.ex_augs, ↓Mng.ex_aug, ↓Mng.ex_iff, ↓Mng.ex_ret, ↓Mng.ex_retN, ↓Mng.ex_pass, ↓Mng.ex_brk, ↓Mng.ex_cnt, ↓Mng.ex_drop, ↓Mng.ex_rai, ↓Mng.ex_raif, ↓Mng.ex_dead, ↓Mng.ex_tryq, ↓Mng.ex_fo, ↓Mng.ex_wh, ↓runP, ↓runO, ↓ph_nx, ↓ph_rt, ↓ph_bk, ↓ph_ct, ↓wpG, ↓wpGs, ↓binK, ↓augK, ↓cmpK, ↓truK, ↓isiK, ↓isjK, ↓bltK, ↓frzK, ↓fpK, ↓foK, ↓fqK, ↓oqK, ↓ftK, ↓fyK, ↓fmK, ↓fm_s, ↓fm_i, ↓frz_pd, ↓frz_ow, ↓frz_un, ↓frz_dk, ↓frz_dt, ↓bi_add, ↓bi_addL, ↓bi_addT, ↓bi_sub, ↓bi_mul, ↓bi_rep, ↓bi_repT, ↓bi_shl, ↓bi_shr, ↓bi_band, ↓bi_bor, ↓bi_mod, ↓bi_fdiv, ↓bi_pow, ↓au_add, ↓au_sub, ↓ci_lt, ↓ci_le, ↓ci_gt, ↓ci_ge, ↓ci_eq, ↓ci_ne, ↓ci_eqB, ↓ci_neB, ↓ci_eqT, ↓ci_eqL, ↓ci_eqN, ↓ci_eqS, ↓ci_neT, ↓ci_neL, ↓ci_neN, ↓ci_neS, ↓ci_is, ↓ci_isn, ↓ci_isB, ↓ci_isnB, ↓ci_inL, ↓ci_inT, ↓ci_ninL, ↓ci_ninT, ↓nn_n, ↓nn_i, ↓nn_b, ↓nn_s, ↓nn_l, ↓nn_t, ↓nn_d, ↓ti_n, ↓ti_b, ↓ti_i, ↓ti_l, ↓ti_t, ↓ii_n, ↓ii_b, ↓ii_i, ↓ii_s, ↓ii_l, ↓ii_t, ↓ii_d, ↓ij_n, ↓ij_b, ↓ij_i, ↓ij_s, ↓ij_l, ↓ij_t, ↓ij_d, ↓bt_lenL, ↓bt_lenT, ↓bt_lenF, ↓bt_max2, ↓bt_maxL, ↓bt_maxT, ↓bt_sumT, ↓bt_min2, ↓bt_minL, ↓bt_minT, ↓bt_abs, ↓bt_sum, ↓bt_any, ↓bt_all, ↓bt_sorted, ↓bt_listL, ↓bt_listT, ↓bt_tupL, ↓bt_tupT, ↓bt_int, ↓bt_intB, ↓bt_str, ↓sub, ↓nrm_pd, ↓nrm_ow, ↓nrm_un, ↓wipeR, ↓rstR, ↓opW, ↓opI_some, ↓owW, ↓ow0, ↓IxD, ↓at0, ↓at1, ↓at2, ↓at3, ↓ix40, ↓ix41, ↓ix42, ↓ix43, ↓intsOf, ↓boolsOf, ↓mthW, ↓seqOf, opI_some, ↓List.map_cons, ↓List.map_nil, List.length_cons, List.length_nil, ↓List.cons_append, ↓List.nil_append, ↓List.getElem?_cons_zero, ↓List.getElem?_cons_succ, ↓List.set_cons_zero, ↓List.set_cons_succ, Nat.reduceSub, Nat.reduceAdd, Nat.reduceLeDiff, ↓List.replicate, true_and, and_true, forall_const, true_implies, false_implies, Bool.not_true, Bool.not_false, implies_true, reduceCtorEq, Option.isSome_some, Int.cast_ofNat_Int, Int.reduceLE, Int.reduceLT, Int.reduceEq, Int.reduceNe, decide_true, decide_false, Bool.and_self, Bool.and_true, Bool.true_and, Bool.and_false, Bool.false_and, Bool.not_not, Bool.or_false, Bool.or_true, Bool.false_or, Bool.true_or, Bool.or_self, Nat.reduceLT, Nat.reduceEqDiff, Option.map_some, Option.map_none, $xs,*])

variable {T : Tb} (S : Mng T)
def withinD (d : D) (lo hi : Int) : Bool := match d with
  | .int i => decide (lo ≤ i) && decide (i ≤ hi)
  | _ => false
def rowD (d : D) (lo hi : Int) : Bool := match d with
  | .tuple l => decide (lo ≤ (l.length : Int)) && decide ((l.length : Int) ≤ hi)
  | _ => false
def kdS (d : D) : Prop := (kd d).isSome = true
theorem kd_dict {kvs : List (D × D)} (h : kdS (.dict kvs)) : kvs = [] := by
  cases kvs with
  | nil => rfl
  | cons a r => cases h
theorem kdS_d : kdS (.dict []) = True := by simp [kdS, kd]
theorem kdS_t {l : List D} : kdS (.tuple l) = True := by simp [kdS, kd]
theorem kdS_i {i : Int} : kdS (.int i) = True := by simp [kdS, kd]
theorem rowD_t {l : List D} {lo hi : Int} : rowD (.tuple l) lo hi = (decide (lo ≤ (l.length : Int)) && decide ((l.length : Int) ≤ hi)) := rfl
theorem withinD_i {i lo hi : Int} : withinD (.int i) lo hi = (decide (lo ≤ i) && decide (i ≤ hi)) := rfl
def c_is_integer : Ct := fun ds Q _ => match ds with
  | [d] => kdS d ∧ Q (.bool (isIntD d))
  | _ => False
theorem w_is_integer : ∀ ds Q, c_is_integer ds Q T.xk → ds.length = 1 ∧ runP S 1 ir_is_integer ds Q := by
  intro ds Q h
  unfold c_is_integer at h
  split at h
  · rename_i d
    obtain ⟨hu, q⟩ := h
    refine ⟨rfl, ?_⟩
    unfold ir_is_integer
    by_cases hz : d = .dict []
    · subst hz
      simp_arith [true_and]
      exact q
    cases d <;> first | (cases hu; done) | (have e := kd_dict hu; subst e; exact absurd rfl hz) | skip
    all_goals
      simp_arith [true_and]
      exact q
  · exact h.elim
def c_is_within : Ct := fun ds Q _ => match ds with
  | [d, .int lo, .int hi] => kdS d ∧ Q (.bool (withinD d lo hi))
  | _ => False
theorem w_is_within (h1 : T.fp "is_integer" = c_is_integer) : ∀ ds Q, c_is_within ds Q T.xk → ds.length = 3 ∧ runP S 3 ir_is_within ds Q := by
  intro ds Q h
  unfold c_is_within at h
  split at h
  · rename_i d lo hi
    obtain ⟨hu, q⟩ := h
    refine ⟨rfl, ?_⟩
    unfold ir_is_within
    by_cases hz : d = .dict []
    · subst hz
      simp_arith [↓fpI_of h1, ↓fqI_of h1, ↓ftI_of h1, ↓fyI_of h1, ↓c_is_integer]
      exact ⟨hu, fun h => (by cases h), fun _ => q⟩
    cases d <;> first | (cases hu; done) | (have e := kd_dict hu; subst e; exact absurd rfl hz) | skip
    all_goals
      simp_arith [↓fpI_of h1, ↓fqI_of h1, ↓ftI_of h1, ↓fyI_of h1, ↓c_is_integer]
      first
        | exact ⟨hu, fun h => (by cases h), fun _ => q⟩
        | skip
    rename_i i
    have hii : isIntD (.int i) = true := rfl
    simp only [hii, forall_const, true_implies, reduceCtorEq, false_implies, and_true, implies_true, decide_eq_true_eq, decide_eq_false_iff_not]
    rw [withinD_i] at q
    refine ⟨hu, fun h => ?_, fun h => ?_⟩
    · simpa [h] using q
    · have e : (decide (lo ≤ i) && decide (i ≤ hi)) = false := by simp; omega
      rw [e] at q
      exact q
  · exact h.elim
def c_is_row : Ct := fun ds Q _ => match ds with
  | [d, .int lo, .int hi] => kdS d ∧ Q (.bool (rowD d lo hi))
  | _ => False
theorem w_is_row : ∀ ds Q, c_is_row ds Q T.xk → ds.length = 3 ∧ runP S 3 ir_is_row ds Q := by
  intro ds Q h
  unfold c_is_row at h
  split at h
  · rename_i d lo hi
    obtain ⟨hu, q⟩ := h
    refine ⟨rfl, ?_⟩
    unfold ir_is_row
    by_cases hz : d = .dict []
    · subst hz
      simp_arith [true_and]
      exact q
    cases d <;> first | (cases hu; done) | (have e := kd_dict hu; subst e; exact absurd rfl hz) | skip
    all_goals
      simp_arith [true_and]
      first
        | exact q
        | skip
    rename_i l
    simp only [decide_eq_true_eq, decide_eq_false_iff_not]
    rw [rowD_t] at q
    refine ⟨fun h => ?_, fun h => ?_⟩
    · simpa [h] using q
    · have e : (decide (lo ≤ (l.length : Int)) && decide ((l.length : Int) ≤ hi)) = false := by simp; omega
      rw [e] at q
      exact q
  · exact h.elim
def c_is_temperature : Ct := fun ds Q _ => match ds with
  | [d] => kdS d ∧ Q (.bool (withinD d 0 1000))
  | _ => False
theorem w_is_temperature (h1 : T.fp "is_within" = c_is_within) (g1 : T.gl "MOST_DEGREES" = some (.int 1000)) : ∀ ds Q, c_is_temperature ds Q T.xk → ds.length = 1 ∧ runP S 1 ir_is_temperature ds Q := by
  intro ds Q h
  unfold c_is_temperature at h
  split at h
  · rename_i d
    refine ⟨rfl, ?_⟩
    unfold ir_is_temperature
    simp_arith [↓fpI_of h1, ↓fqI_of h1, ↓ftI_of h1, ↓fyI_of h1, ↓g1, ↓c_is_within]
    exact h
  · exact h.elim
def c_is_stream : Ct := fun ds Q _ => match ds with
  | [.tuple [.int a, .int b, .int c]] => OkS (a, b, c) ∧ Q (.bool true)
  | _ => False
theorem w_is_stream (h1 : T.fp "is_row" = c_is_row) (h2 : T.fp "is_temperature" = c_is_temperature) (h3 : T.fp "is_within" = c_is_within) (g1 : T.gl "MOST_RATE" = some (.int 100)) : ∀ ds Q, c_is_stream ds Q T.xk → ds.length = 1 ∧ runP S 4 ir_is_stream ds Q := by
  intro ds Q h
  unfold c_is_stream at h
  split at h
  · rename_i a b c
    obtain ⟨⟨p1, p2, p3, p4, p5, p6, p7⟩, q⟩ := h
    simp only at p1 p2 p3 p4 p5 p6 p7
    refine ⟨rfl, ?_⟩
    unfold ir_is_stream
    simp_arith [↓fpI_of h1, ↓fqI_of h1, ↓ftI_of h1, ↓fyI_of h1, ↓fpI_of h2, ↓fqI_of h2, ↓ftI_of h2, ↓fyI_of h2, ↓fpI_of h3, ↓fqI_of h3, ↓ftI_of h3, ↓fyI_of h3, ↓g1, ↓c_is_row, ↓c_is_temperature, ↓c_is_within, ↓rowD, ↓withinD, ↓kdS, ↓kd]
    simp [p1, p2, p3, p4, p5, p6, p7, q]
  · exact h.elim
def c_is_box : Ct := fun ds Q _ => match ds with
  | [.tuple [.int a, .int b]] => OkB (a, b) ∧ Q (.bool true)
  | _ => False
theorem w_is_box (h1 : T.fp "is_row" = c_is_row) (h2 : T.fp "is_temperature" = c_is_temperature) (h3 : T.fp "is_within" = c_is_within) (g1 : T.gl "MOST_BOX_HEAT" = some (.int 10000)) : ∀ ds Q, c_is_box ds Q T.xk → ds.length = 1 ∧ runP S 3 ir_is_box ds Q := by
  intro ds Q h
  unfold c_is_box at h
  split at h
  · rename_i a b
    obtain ⟨⟨p1, p2, p3, p4, p5⟩, q⟩ := h
    simp only at p1 p2 p3 p4 p5
    refine ⟨rfl, ?_⟩
    unfold ir_is_box
    simp_arith [↓fpI_of h1, ↓fqI_of h1, ↓ftI_of h1, ↓fyI_of h1, ↓fpI_of h2, ↓fqI_of h2, ↓ftI_of h2, ↓fyI_of h2, ↓fpI_of h3, ↓fqI_of h3, ↓ftI_of h3, ↓fyI_of h3, ↓g1, ↓c_is_row, ↓c_is_temperature, ↓c_is_within, ↓rowD, ↓withinD, ↓kdS, ↓kd]
    simp [p1, p2, p3, p4, p5, q]
    try (intro h; omega)
  · exact h.elim
def c_check_streams : Ct := fun ds Q _ => match ds with
  | [.tuple s] => ∃ ss : List Tri, s = ss.map encT ∧ ss.length ≤ 6 ∧ (∀ x ∈ ss, OkS x) ∧ Q .none
  | _ => False
theorem enD_map {α : Type} (l : List α) (enc : α → D) : enD (l.map enc) = (l.mapIdx fun i x => ((i : Int), x)).map fun p => .tuple [.int p.1, enc p.2] := by
  unfold enD
  apply List.ext_getElem?
  intro i
  simp only [List.getElem?_mapIdx, List.getElem?_map, Option.map_map]
  cases l[i]? <;> rfl
theorem mem_mapIdx' {α : Type} {l : List α} {p : Int × α} (h : p ∈ l.mapIdx fun i x => ((i : Int), x)) : p.2 ∈ l := by
  rw [List.mem_mapIdx] at h
  obtain ⟨i, hi, e⟩ := h
  subst e
  exact List.getElem_mem hi
theorem w_check_streams (h1 : T.fp "is_row" = c_is_row) (h2 : T.fp "is_stream" = c_is_stream) (g1 : T.gl "MOST_STREAMS" = some (.int 6)) : ∀ ds Q, c_check_streams ds Q T.xk → ds.length = 1 ∧ runP S 3 ir_check_streams ds Q := by
  intro ds Q h
  unfold c_check_streams at h
  split at h
  · rename_i s
    obtain ⟨ss, rfl, hl, hs, q⟩ := h
    refine ⟨rfl, ?_⟩
    unfold ir_check_streams
    simp_arith [↓fpI_of h1, ↓fqI_of h1, ↓ftI_of h1, ↓fyI_of h1, ↓g1, ↓c_is_row, ↓rowD_t, ↓kdS_t, ↓enD_map]
    refine ⟨fun h => ?_, fun _ => ?_⟩
    · simp at h
      omega
    refine S.loop (fun _ ρ => ∃ x y, ρ = [.pd (.tuple (ss.map encT)), x, y]) ⟨_, _, rfl⟩ ?_ ?_
    rotate_left
    · intro ρ _
      simp_arith [true_and]
      exact q
    rintro pre ⟨i, a, b, c⟩ post ρ Φ' hl ⟨x, y, rfl⟩ hn hc - -
    have hm : OkS (a, b, c) := hs _ (mem_mapIdx' (p := (i, a, b, c)) (by rw [hl]; simp))
    simp_arith [↓encT, ↓fpI_of h2, ↓fqI_of h2, ↓ftI_of h2, ↓fyI_of h2, ↓c_is_stream]
    exact ⟨hm, hn _ ⟨_, _, rfl⟩⟩
  · exact h.elim
def c_check_boxes : Ct := fun ds Q _ => match ds with
  | [.tuple s] => ∃ ss : List Bx, s = ss.map encB ∧ ss.length ≤ 4 ∧ (∀ x ∈ ss, OkB x) ∧ Q .none
  | _ => False
theorem w_check_boxes (h1 : T.fp "is_row" = c_is_row) (h2 : T.fp "is_box" = c_is_box) (g1 : T.gl "MOST_BOXES" = some (.int 4)) : ∀ ds Q, c_check_boxes ds Q T.xk → ds.length = 1 ∧ runP S 3 ir_check_boxes ds Q := by
  intro ds Q h
  unfold c_check_boxes at h
  split at h
  · rename_i s
    obtain ⟨ss, rfl, hl, hs, q⟩ := h
    refine ⟨rfl, ?_⟩
    unfold ir_check_boxes
    simp_arith [↓fpI_of h1, ↓fqI_of h1, ↓ftI_of h1, ↓fyI_of h1, ↓g1, ↓c_is_row, ↓rowD_t, ↓kdS_t, ↓enD_map]
    refine ⟨fun h => ?_, fun _ => ?_⟩
    · simp at h
      omega
    refine S.loop (fun _ ρ => ∃ x y, ρ = [.pd (.tuple (ss.map encB)), x, y]) ⟨_, _, rfl⟩ ?_ ?_
    rotate_left
    · intro ρ _
      simp_arith [true_and]
      exact q
    rintro pre ⟨i, a, b⟩ post ρ Φ' hl ⟨x, y, rfl⟩ hn hc - -
    have hm : OkB (a, b) := hs _ (mem_mapIdx' (p := (i, a, b)) (by rw [hl]; simp))
    simp_arith [↓encB, ↓fpI_of h2, ↓fqI_of h2, ↓ftI_of h2, ↓fyI_of h2, ↓c_is_box]
    exact ⟨hm, hn _ ⟨_, _, rfl⟩⟩
  · exact h.elim
def c_check_gap : Ct := fun ds Q _ => match ds with
  | [.int g] => 0 ≤ g ∧ g ≤ 100 ∧ Q .none
  | _ => False
theorem w_check_gap (h1 : T.fp "is_within" = c_is_within) (g1 : T.gl "MOST_GAP" = some (.int 100)) : ∀ ds Q, c_check_gap ds Q T.xk → ds.length = 1 ∧ runP S 1 ir_check_gap ds Q := by
  intro ds Q h
  unfold c_check_gap at h
  split at h
  · rename_i g
    obtain ⟨a1, a2, q⟩ := h
    refine ⟨rfl, ?_⟩
    unfold ir_check_gap
    simp_arith [↓fpI_of h1, ↓fqI_of h1, ↓ftI_of h1, ↓fyI_of h1, ↓g1, ↓c_is_within, ↓withinD, ↓kdS, ↓kd]
    refine ⟨fun h => by simp [a1, a2] at h, fun _ => q⟩
  · exact h.elim
def c_check_problem : Ct := fun ds Q _ => match ds with
  | [.tuple [.tuple s, .tuple b, .int g]] => ∃ (ss : List Tri) (bs : List Bx), s = ss.map encT ∧ b = bs.map encB ∧ OkP (ss, bs, g) ∧ Q .none
  | _ => False
theorem w_check_problem (h1 : T.fp "is_row" = c_is_row) (h2 : T.fp "check_streams" = c_check_streams) (h3 : T.fp "check_boxes" = c_check_boxes) (h4 : T.fp "check_gap" = c_check_gap) : ∀ ds Q, c_check_problem ds Q T.xk → ds.length = 1 ∧ runP S 4 ir_check_problem ds Q := by
  intro ds Q h
  unfold c_check_problem at h
  split at h
  · rename_i s b g
    obtain ⟨ss, bs, rfl, rfl, hp, q⟩ := h
    refine ⟨rfl, ?_⟩
    unfold ir_check_problem
    simp_arith [↓fpI_of h1, ↓fqI_of h1, ↓ftI_of h1, ↓fyI_of h1, ↓fpI_of h2, ↓fqI_of h2, ↓ftI_of h2, ↓fyI_of h2, ↓fpI_of h3, ↓fqI_of h3, ↓ftI_of h3, ↓fyI_of h3, ↓fpI_of h4, ↓fqI_of h4, ↓ftI_of h4, ↓fyI_of h4, ↓c_is_row, ↓c_check_gap, ↓c_check_streams, ↓c_check_boxes, ↓rowD, ↓withinD, ↓kdS, ↓kd]
    have a1 := hp.g0
    have a2 := hp.g1
    have a3 := hp.ne
    simp only at a1 a2 a3
    refine ⟨ss, rfl, hp.ls, hp.ss, bs, rfl, hp.lb, hp.bs, a1, a2, ?_⟩
    cases ss <;> cases bs <;> simp_all
  · exact h.elim

def c_is_box_body : Ct := fun ds Q _ => match ds with
  | [.tuple [.int a, .int b, .int _]] => Q (.bool (decide (a = b)))
  | _ => False
theorem w_is_box_body : ∀ ds Q, c_is_box_body ds Q T.xk → ds.length = 1 ∧ runP S 1 ir_is_box_body ds Q := by
  intro ds Q h
  unfold c_is_box_body at h
  split at h
  · refine ⟨rfl, ?_⟩
    unfold ir_is_box_body
    simp_arith [true_and]
    exact h
  · exact h.elim
def c_heat_above : Ct := fun ds Q _ => match ds with
  | [.tuple [.int a, .int b, .int c], .int lv, .bool o] => -10000 ≤ c ∧ c ≤ 10000 ∧ Q (.int (above (a, b, c) lv o))
  | _ => False
theorem w_heat_above (h1 : T.fp "is_box_body" = c_is_box_body) : ∀ ds Q, c_heat_above ds Q T.xk → ds.length = 3 ∧ runP S 6 ir_heat_above ds Q := by
  intro ds Q h
  unfold c_heat_above at h
  split at h
  · rename_i a b c lv o
    obtain ⟨p1, p2, q⟩ := h
    refine ⟨rfl, ?_⟩
    unfold ir_heat_above
    simp_arith [↓fpI_of h1, ↓fqI_of h1, ↓ftI_of h1, ↓fyI_of h1, ↓c_is_box_body]
    simp only [decide_eq_true_eq, decide_eq_false_iff_not, Bool.and_eq_true, Bool.or_eq_true, Bool.not_eq_true', Bool.not_eq_false', Bool.not_eq_true, Bool.and_eq_false_iff, Bool.or_eq_false_iff, ne_eq, Int.not_lt, Int.not_le]
    have hm : L2.CMul c (max 0 (a - max b lv)) := .inl ⟨by omega, by omega⟩
    refine ⟨fun e => ?_, fun e => ⟨hm, ?_⟩⟩
    · have q' : Q (.int (if lv < a ∨ (a = lv ∧ o = false) then c else 0)) := by simpa only [above, e, if_true] using q
      by_cases z1 : lv < a
      · rw [if_pos (.inl z1)] at q'
        exact ⟨fun h => by omega, fun _ => q'⟩
      · refine ⟨fun _ => ⟨fun h => ⟨fun ho => ?_, fun ho => ?_⟩, fun h => ?_⟩, fun h => absurd h z1⟩
        · rwa [if_pos (.inr ⟨h, ho⟩)] at q'
        · rwa [if_neg (by rintro (z | ⟨z, z'⟩); exact z1 z; rw [ho] at z'; cases z')] at q'
        · rwa [if_neg (by rintro (z | ⟨z, z'⟩); exact z1 z; exact h z)] at q'
    · simpa only [above, if_neg e] using q
  · exact h.elim
def c_bodies_of : Ct := fun ds Q _ => match ds with
  | [.tuple [.tuple s, .tuple b, .int g]] => ∃ (ss : List Tri) (bs : List Bx), s = ss.map encT ∧ b = bs.map encB ∧ ss.length ≤ 6 ∧ bs.length ≤ 4 ∧ Q (encTs (bodies (ss, bs, g)))
  | [.tuple [.list s, .tuple b, .int g]] => ∃ (ss : List Tri) (bs : List Bx), s = ss.map encT ∧ b = bs.map encB ∧ ss.length ≤ 6 ∧ bs.length ≤ 4 ∧ Q (encTs (bodies (ss, bs, g)))
  | _ => False
theorem w_bodies_of : ∀ ds Q, c_bodies_of ds Q T.xk → ds.length = 1 ∧ runP S 11 ir_bodies_of ds Q := by
  intro ds Q h
  unfold c_bodies_of at h
  split at h
  · rename_i s b g
    obtain ⟨ss, bs, rfl, rfl, hs, hb, q⟩ := h
    refine ⟨rfl, ?_⟩
    unfold ir_bodies_of
    simp_arith [true_and]
    refine S.loop (fun pre ρ => ∃ L a b c d e f, L = (pre.map (bodyS g)).map encT ∧ ρ = [.pd (.tuple [.tuple (ss.map encT), .tuple (bs.map encB), .int g]), .pd (.tuple (ss.map encT)), .pd (.tuple (bs.map encB)), .pd (.int g), .ow none (.lst L), a, b, c, d, e, f]) ⟨_, _, _, _, _, _, _, rfl, rfl⟩ ?_ ?_
    · rintro pre ⟨a, b, c⟩ post ρ Φ' hl ⟨L, _, _, _, _, _, _, hL, rfl⟩ hn hc - -
      have hz : pre.length < 6 := len_pre hl hs
      have hL2 : L.length < 100000 := by rw [hL]; simp; omega
      simp_arith [↓encT]
      refine ⟨fun h => ⟨hL2, hn _ ⟨_, _, _, _, _, _, _, ?_, rfl⟩⟩, fun h => ⟨hL2, hn _ ⟨_, _, _, _, _, _, _, ?_, rfl⟩⟩⟩ 
      · simp only [decide_eq_true_eq] at h
        simp [hL, bodyS, encT, h]
      · simp only [decide_eq_false_iff_not] at h
        simp [hL, bodyS, encT, if_neg h]
    · rintro ρ ⟨L, _, _, _, _, _, _, hL, rfl⟩
      simp_arith [true_and]
      refine S.loop (fun pre ρ => ∃ L a b c d e f, L = (ss.map (bodyS g)).map encT ++ (pre.map (bodyB g)).map encT ∧ ρ = [.pd (.tuple [.tuple (ss.map encT), .tuple (bs.map encB), .int g]), .pd (.tuple (ss.map encT)), .pd (.tuple (bs.map encB)), .pd (.int g), .ow none (.lst L), a, b, c, d, e, f]) ⟨_, _, _, _, _, _, _, by simpa using hL, rfl⟩ ?_ ?_
      · rintro pre ⟨a, h⟩ post ρ Φ' hl ⟨L, _, _, _, _, _, _, hL, rfl⟩ hn hc - -
        have hz : pre.length < 4 := len_pre hl hb
        have hL2 : L.length < 100000 := by rw [hL]; simp; omega
        simp_arith [↓encB]
        refine ⟨fun z => ⟨hL2, hn _ ⟨_, _, _, _, _, _, _, ?_, rfl⟩⟩, fun z => ⟨hL2, hn _ ⟨_, _, _, _, _, _, _, ?_, rfl⟩⟩⟩ 
        · simp only [decide_eq_true_eq] at z
          simp [hL, bodyB, encT, z]
        · simp only [decide_eq_false_iff_not] at z
          simp [hL, bodyB, encT, if_neg z]
      · rintro ρ ⟨L, _, _, _, _, _, _, hL, rfl⟩
        simp_arith [true_and]
        rw [hL]
        simpa [bodies, encTs] using q
  · rename_i s b g
    obtain ⟨ss, bs, rfl, rfl, hs, hb, q⟩ := h
    refine ⟨rfl, ?_⟩
    unfold ir_bodies_of
    simp_arith [true_and]
    refine S.loop (fun pre ρ => ∃ L a b c d e f, L = (pre.map (bodyS g)).map encT ∧ ρ = [.pd (.tuple [.list (ss.map encT), .tuple (bs.map encB), .int g]), .pd (.list (ss.map encT)), .pd (.tuple (bs.map encB)), .pd (.int g), .ow none (.lst L), a, b, c, d, e, f]) ⟨_, _, _, _, _, _, _, rfl, rfl⟩ ?_ ?_
    · rintro pre ⟨a, b, c⟩ post ρ Φ' hl ⟨L, _, _, _, _, _, _, hL, rfl⟩ hn hc - -
      have hz : pre.length < 6 := len_pre hl hs
      have hL2 : L.length < 100000 := by rw [hL]; simp; omega
      simp_arith [↓encT]
      refine ⟨fun h => ⟨hL2, hn _ ⟨_, _, _, _, _, _, _, ?_, rfl⟩⟩, fun h => ⟨hL2, hn _ ⟨_, _, _, _, _, _, _, ?_, rfl⟩⟩⟩ 
      · simp only [decide_eq_true_eq] at h
        simp [hL, bodyS, encT, h]
      · simp only [decide_eq_false_iff_not] at h
        simp [hL, bodyS, encT, if_neg h]
    · rintro ρ ⟨L, _, _, _, _, _, _, hL, rfl⟩
      simp_arith [true_and]
      refine S.loop (fun pre ρ => ∃ L a b c d e f, L = (ss.map (bodyS g)).map encT ++ (pre.map (bodyB g)).map encT ∧ ρ = [.pd (.tuple [.list (ss.map encT), .tuple (bs.map encB), .int g]), .pd (.list (ss.map encT)), .pd (.tuple (bs.map encB)), .pd (.int g), .ow none (.lst L), a, b, c, d, e, f]) ⟨_, _, _, _, _, _, _, by simpa using hL, rfl⟩ ?_ ?_
      · rintro pre ⟨a, h⟩ post ρ Φ' hl ⟨L, _, _, _, _, _, _, hL, rfl⟩ hn hc - -
        have hz : pre.length < 4 := len_pre hl hb
        have hL2 : L.length < 100000 := by rw [hL]; simp; omega
        simp_arith [↓encB]
        refine ⟨fun z => ⟨hL2, hn _ ⟨_, _, _, _, _, _, _, ?_, rfl⟩⟩, fun z => ⟨hL2, hn _ ⟨_, _, _, _, _, _, _, ?_, rfl⟩⟩⟩ 
        · simp only [decide_eq_true_eq] at z
          simp [hL, bodyB, encT, z]
        · simp only [decide_eq_false_iff_not] at z
          simp [hL, bodyB, encT, if_neg z]
      · rintro ρ ⟨L, _, _, _, _, _, _, hL, rfl⟩
        simp_arith [true_and]
        rw [hL]
        simpa [bodies, encTs] using q
  · exact h.elim
end My

set_option Elab.async false
set_option autoImplicit false
set_option linter.all false
set_option maxRecDepth 100000
set_option maxHeartbeats 1000000
namespace My
open PySem DW
local macro_rules | `(tactic| simp_arith [$xs,*]) => `(tactic| simp only [↓Mng.E_nm, ↓Mng.E_gl, ↓Mng.E_cn, ↓Mng.E_ng, ↓Mng.E_nt, ↓Mng.E_bn, ↓Mng.E_cp, ↓Mng.E_ch, ↓Mng.E_an, ↓Mng.E_ro, ↓Mng.E_ie, ↓Mng.E_tu, ↓Mng.E_li, ↓Mng.E_ix, ↓Mng.E_ixo, ↓Mng.E_s2, ↓Mng.E_sL, ↓Mng.E_sH, ↓Mng.E_rv, ↓Mng.E_d0, ↓Mng.E_fs, ↓Mng.E_bi, ↓Mng.E_ln, ↓Mng.E_isi, ↓Mng.E_isj, ↓Mng.E_call, ↓Mng.E_calo, ↓Mng.E_calq, ↓Mng.E_caloq, ↓Mng.E_told, ↓Mng.E_lc, ↓Mng.E_ss, ↓Mng.E_mxd, ↓Mng.E_c4, ↓Mng.E_ma, ↓Mng.E_lc2, ↓Mng.A_nil, ↓Mng.A_cons, ↓Mng.J_nil, ↓Mng.J_cons, ↓Mng.T_cp, ↓Mng.T_ch, ↓Mng.T_nt, ↓Mng.T_an, ↓Mng.T_ro, ↓Mng.T_v, ↓Mng.T_vl, ↓Mng.T_c4, ↓Mng.F_nil, ↓Mng.F_one, ↓Mng.I_e, ↓Mng.I_r1, ↓Mng.I_r2, ↓Mng.I_en, ↓Mng.I_zp, ↓Mng.I_z3, ↓Mng.ex_nil0, ↓Mng.ex_nil1, ↓Mng.ex_set, ↓Mng.ex_asg, ↓Mng.ex_par, ↓Mng.ex_par3, ↓Mng.ex_app, ↓Mng.ex_sti, ↓Mng.ex_sti2, ↓Mng.ex_augs, ↓Mng.ex_aug, ↓Mng.ex_iff, ↓Mng.ex_ret, ↓Mng.ex_retN, ↓Mng.ex_pass, ↓Mng.ex_brk, ↓Mng.ex_cnt, ↓Mng.ex_drop, ↓Mng.ex_rai, ↓Mng.ex_raif, ↓Mng.ex_dead, ↓Mng.ex_tryq, ↓Mng.ex_fo, ↓Mng.ex_wh, ↓runP, ↓runO, ↓ph_nx, ↓ph_rt, ↓ph_bk, ↓ph_ct, ↓wpG, ↓wpGs, ↓binK, ↓augK, ↓cmpK, ↓truK, ↓isiK, ↓isjK, ↓bltK, ↓frzK, ↓fpK, ↓foK, ↓fqK, ↓oqK, ↓ftK, ↓fyK, ↓fmK, ↓fm_s, ↓fm_i, ↓frz_pd, ↓frz_ow, ↓frz_un, ↓frz_dk, ↓frz_dt, ↓bi_add, ↓bi_addL, ↓bi_addT, ↓bi_sub, ↓bi_mul, ↓bi_rep, ↓bi_repT, ↓bi_shl, ↓bi_shr, ↓bi_band, ↓bi_bor, ↓bi_mod, ↓bi_fdiv, ↓bi_pow, ↓au_add, ↓au_sub, ↓ci_lt, ↓ci_le, ↓ci_gt, ↓ci_ge, ↓ci_eq, ↓ci_ne, ↓ci_eqB, ↓ci_neB, ↓ci_eqT, ↓ci_eqL, ↓ci_eqN, ↓ci_eqS, ↓ci_neT, ↓ci_neL, ↓ci_neN, ↓ci_neS, ↓ci_is, ↓ci_isn, ↓ci_isB, ↓ci_isnB, ↓ci_inL, ↓ci_inT, ↓ci_ninL, ↓ci_ninT, ↓nn_n, ↓nn_i, ↓nn_b, ↓nn_s, ↓nn_l, ↓nn_t, ↓nn_d, ↓ti_n, ↓ti_b, ↓ti_i, ↓ti_l, ↓ti_t, ↓ii_n, ↓ii_b, ↓ii_i, ↓ii_s, ↓ii_l, ↓ii_t, ↓ii_d, ↓ij_n, ↓ij_b, ↓ij_i, ↓ij_s, ↓ij_l, ↓ij_t, ↓ij_d, ↓bt_lenL, ↓bt_lenT, ↓bt_lenF, ↓bt_max2, ↓bt_maxL, ↓bt_maxT, ↓bt_sumT, ↓bt_min2, ↓bt_minL, ↓bt_minT, ↓bt_abs, ↓bt_sum, ↓bt_any, ↓bt_all, ↓bt_sorted, ↓bt_listL, ↓bt_listT, ↓bt_tupL, ↓bt_tupT, ↓bt_int, ↓bt_intB, ↓bt_str, ↓sub, ↓nrm_pd, ↓nrm_ow, ↓nrm_un, ↓wipeR, ↓rstR, ↓opW, ↓opI_some, ↓owW, ↓ow0, ↓IxD, ↓at0, ↓at1, ↓at2, ↓at3, ↓ix40, ↓ix41, ↓ix42, ↓ix43, ↓intsOf, ↓boolsOf, ↓mthW, ↓seqOf, opI_some, ↓List.map_cons, ↓List.map_nil, List.length_cons, List.length_nil, ↓List.cons_append, ↓List.nil_append, ↓List.getElem?_cons_zero, ↓List.getElem?_cons_succ, ↓List.set_cons_zero, ↓List.set_cons_succ, Nat.reduceSub, Nat.reduceAdd, Nat.reduceLeDiff, ↓List.replicate, true_and, and_true, forall_const, true_implies, false_implies, Bool.not_true, Bool.not_false, implies_true, reduceCtorEq, Option.isSome_some, Int.cast_ofNat_Int, Int.reduceLE, Int.reduceLT, Int.reduceEq, Int.reduceNe, decide_true, decide_false, Bool.and_self, Bool.and_true, Bool.true_and, Bool.and_false, Bool.false_and, Bool.not_not, Bool.or_false, Bool.or_true, Bool.false_or, Bool.true_or, Bool.or_self, Nat.reduceLT, Nat.reduceEqDiff, Option.map_some, Option.map_none, $xs,*])

variable {T : Tb} (S : Mng T)
def RowP (rw : List D) : Prop := RowD rw
def o_taken (rw : List D) (ds : List D) (Q : D → List D → Prop) (_ : Exn → Prop) : Prop := match ds with
  | [.int n] => RowD rw ∧ 0 < n ∧ n < 1073741824 ∧ ∀ v rw', RowD rw' → 0 ≤ v → v < n → Q (.int v) rw'
  | _ => False
theorem w_taken : ∀ rw ds Q, o_taken rw ds Q T.xk → ds.length + 1 = 2 ∧ runO S 4 ir__law_taken rw ds Q := by
  intro rw ds Q h
  unfold o_taken at h
  split at h
  · rename_i n
    obtain ⟨⟨ns, i, s, r, rfl, hns, hi, hs0, hs1⟩, hn0, hn1, q⟩ := h
    refine ⟨rfl, ?_⟩
    unfold ir__law_taken
    simp_arith [true_and]
    simp only [decide_eq_true_eq, decide_eq_false_iff_not, Bool.and_eq_true, Bool.or_eq_true, Bool.not_eq_true', Bool.not_eq_false', Bool.not_eq_true, Bool.and_eq_false_iff, Bool.or_eq_false_iff, ne_eq, Int.not_lt, Int.not_le]
    have hcell : ∀ hc : ¬ ((ns.map PyData.int).length : Int) < i + 1, ∃ c, L2.atI (ns.map PyData.int) (i + 1 - 1) = some (.int c) := fun hc => by
      obtain ⟨c, hc2⟩ := script_at (ns := ns) (i := i + 1 - 1) (by omega) (by rw [List.length_map] at hc; omega)
      exact ⟨c, hc2⟩
    have fin : ∀ (v i' s' r' : Int), 0 ≤ i' → 0 ≤ s' → s' < 2147483647 → Q (.int (v % n)) [frl (ns.map .int), .int i', .int s', .int r'] := fun v i' s' r' a1 a2 a3 => q _ _ ⟨ns, i', s', r', rfl, hns, a1, a2, a3⟩ (Int.emod_nonneg _ (by omega)) (Int.emod_lt_of_pos _ hn0)
    refine ⟨fun h => ⟨hn0, ⟨hn0, hn1⟩, fin _ _ _ _ hi hs0 hs1⟩, fun h => ⟨fun h2 => ⟨.inr (by omega), ?_⟩, fun h2 => ?_⟩⟩
    · refine ⟨⟨by omega, by omega⟩, hn0, fin _ _ _ _ (by omega) (by omega) (by omega)⟩
    · obtain ⟨c, hc⟩ := hcell (by omega)
      rw [hc]
      simp_arith [true_and]
      have hp : L2.CPow 10 18 := ⟨by decide, by decide, by decide⟩
      exact ⟨.inr (by omega), hp, fun _ => ⟨⟨hn0, hn1⟩, hn0, fin _ _ _ _ (by omega) (Int.emod_nonneg _ (by decide)) (Int.emod_lt_of_pos _ (by decide))⟩, fun _ => ⟨hn0, fin _ _ _ _ (by omega) (Int.emod_nonneg _ (by decide)) (Int.emod_lt_of_pos _ (by decide))⟩⟩
  · exact h.elim

def o_pick (rw : List D) (ds : List D) (Q : D → List D → Prop) (_ : Exn → Prop) : Prop := match ds with
  | [.list l] => opW (intsOf l) fun ns => RowD rw ∧ 0 < ns.length ∧ ns.length < 1073741824 ∧ ∀ k rw', RowD rw' → k ∈ ns → Q (.int k) rw'
  | _ => False
theorem w_pick (h1 : T.fo "_law_taken" = o_taken) : ∀ rw ds Q, o_pick rw ds Q T.xk → ds.length + 1 = 2 ∧ runO S 2 ir__law_pick rw ds Q := by
  intro rw ds Q h
  unfold o_pick at h
  split at h
  · rename_i l
    obtain ⟨ns, hl, hr, h0, h2, q⟩ := opW_of h
    have e := intsOf_some hl
    subst e
    refine ⟨rfl, ?_⟩
    unfold ir__law_pick
    simp_arith [↓foI_of h1, ↓oqI_of h1, ↓o_taken]
    refine ⟨hr, by rw [List.length_map]; omega, by rw [List.length_map]; omega, fun v rw' hr' v0 v1 => ?_⟩
    obtain ⟨k, hk, hat⟩ := pick_at (ns := ns) v0 v1
    have hat : L2.atI (ns.map PyData.int) v = some (.int k) := hat
    rw [hat]
    exact q _ _ hr' hk
  · exact h.elim

def o_problem (rw : List D) (ds : List D) (Q : D → List D → Prop) (_ : Exn → Prop) : Prop := match ds with
  | [] => RowD rw ∧ ∀ (ss : List Tri) (bs : List Bx) (g : Int) rw', RowD rw' → OkP (ss, bs, g) → ss.length ≤ 4 → bs.length ≤ 2 → Q (.tuple [.tuple (ss.map encT), .tuple (bs.map encB), .int g]) rw'
  | _ => False
theorem w_problem (h1 : T.fo "_law_taken" = o_taken) (h2 : T.fo "_law_pick" = o_pick) : ∀ rw ds Q, o_problem rw ds Q T.xk → ds.length + 1 = 1 ∧ runO S 8 ir__law_problem rw ds Q := by
  intro rw ds Q h
  unfold o_problem at h
  split at h
  · obtain ⟨hr, q⟩ := h
    refine ⟨rfl, ?_⟩
    unfold ir__law_problem
    simp_arith [↓foI_of h1, ↓oqI_of h1, ↓foI_of h2, ↓oqI_of h2, ↓o_taken, ↓o_pick]
    refine ⟨hr, fun sc rw1 hr1 hsc => ⟨hr1, fun n1 rw2 hr2 z0 z1 => ⟨by omega, by omega, ?_⟩⟩⟩
    simp only [List.mem_cons, List.not_mem_nil, or_false] at hsc
    refine S.loop (fun pre ρ => ∃ rw ts L a b c d, RowD rw ∧ L = ts.map encT ∧ ts.length = pre.length ∧ (∀ s ∈ ts, OkS s) ∧ ρ = [.ow (some 0) (.lst rw), .ow none (.lst L), .ow none (.lst []), .pd (.int sc), a, b, c, d]) ⟨_, [], _, _, _, _, _, hr2, rfl, rfl, by simp, rfl⟩ ?_ ?_
    · rintro pre x post ρ Φ' hl ⟨rw, ts, L, _, _, _, _, hr, hL, hlen, hok, rfl⟩ hn hc - -
      have hx := mem_rng_pre hl
      have hL2 : L.length < 100000 := by rw [hL, List.length_map]; omega
      simp_arith [↓foI_of h1, ↓oqI_of h1, ↓foI_of h2, ↓oqI_of h2, ↓o_taken, ↓o_pick]
      refine ⟨hr, fun v rw3 hr3 a3 b3 => ⟨.inl (by omega), hr3, fun v' rw4 hr4 a4 b4 => ⟨.inl (by omega), fun hne => ⟨hr4, fun k rw5 hr5 hk => ⟨hr5, ?_, ?_, fun r rw6 hr6 r0 r1 => ⟨hL2, hn _ ⟨rw6, ts ++ [(sc * v, sc * v', 1 + r)], _, _, _, _, _, hr6, ?_, ?_, ?_, rfl⟩⟩⟩⟩, fun hne => ⟨hr4, fun k rw5 hr5 hk => ⟨hr5, ?_, ?_, fun r rw6 hr6 r0 r1 => ⟨hL2, hn _ ⟨rw6, ts ++ [(sc * v, sc * v + sc, 1 + r)], _, _, _, _, _, hr6, ?_, ?_, ?_, rfl⟩⟩⟩⟩⟩⟩⟩
      all_goals simp only [List.mem_cons, List.not_mem_nil, or_false] at hk
      · omega
      · omega
      · simp [hL, encT]
      · simp [hlen]
      · simp only [Bool.not_eq_true', decide_eq_false_iff_not] at hne
        refine ok_add hok ?_
        unfold OkS
        simp only
        rcases hsc with e | e | e | e <;> subst e <;> refine ⟨?_, ?_, ?_, ?_, ?_, ?_, ?_⟩ <;> omega
      · omega
      · omega
      · simp [hL, encT]
      · simp [hlen]
      · refine ok_add hok ?_
        unfold OkS
        simp only
        rcases hsc with e | e | e | e <;> subst e <;> refine ⟨?_, ?_, ?_, ?_, ?_, ?_, ?_⟩ <;> omega
    · rintro ρ ⟨rw, ts, L, _, _, _, _, hr, hL, hlen, hok, rfl⟩
      rw [rangeI_len] at hlen
      have hts : ts.length ≤ 4 := by omega
      simp_arith [↓foI_of h1, ↓oqI_of h1, ↓foI_of h2, ↓oqI_of h2, ↓o_taken, ↓o_pick]
      refine ⟨hr, fun n2 rw3 hr3 hn2 => ?_⟩
      simp only [List.mem_cons, List.not_mem_nil, or_false] at hn2
      refine ⟨by omega, by omega, ?_⟩
      refine S.loop (fun pre ρ => ∃ rw bs M a b c d, RowD rw ∧ M = bs.map encB ∧ bs.length = pre.length ∧ (∀ s ∈ bs, OkB s) ∧ ρ = [.ow (some 0) (.lst rw), .ow none (.lst L), .ow none (.lst M), .pd (.int sc), a, b, c, d]) ⟨_, [], _, _, _, _, _, hr3, rfl, rfl, by simp, rfl⟩ ?_ ?_
      · rintro pre x post ρ Φ' hl ⟨rw, bs, M, _, _, _, _, hr, hM, hlb, hob, rfl⟩ hn hc - -
        have hx := mem_rng_pre hl
        have hM2 : M.length < 100000 := by rw [hM, List.length_map]; omega
        simp_arith [↓foI_of h1, ↓oqI_of h1, ↓foI_of h2, ↓oqI_of h2, ↓o_taken, ↓o_pick]
        refine ⟨hr, fun v1 rw4 hr4 a1 b1 => ⟨hr4, fun k rw5 hr5 hk => ⟨hr5, fun t rw6 hr6 a2 b2 => ⟨.inl (by omega), hr6, fun u rw7 hr7 a3 b3 => ⟨fun hu => ⟨hM2, hn _ ⟨rw7, bs ++ [(sc * t, k)], _, _, _, _, _, hr7, by simp [hM, encB], by simp [hlb], ?_, rfl⟩⟩, fun hu => ⟨hM2, hn _ ⟨rw7, bs ++ [(sc * t, 0 - k)], _, _, _, _, _, hr7, by simp [hM, encB], by simp [hlb], ?_, rfl⟩⟩⟩⟩⟩⟩⟩
        all_goals
          simp only [List.mem_cons, List.not_mem_nil, or_false] at hk
          refine ok_add hob ?_
          unfold OkB
          simp only
          rcases hsc with e | e | e | e <;> subst e <;> refine ⟨?_, ?_, ?_, ?_, ?_⟩ <;> omega
      · rintro ρ ⟨rw, bs, M, _, _, _, _, hr, hM, hlb, hob, rfl⟩
        rw [rangeI_len] at hlb
        have hbs : bs.length ≤ 2 := by omega
        simp_arith [↓foI_of h1, ↓oqI_of h1, ↓foI_of h2, ↓oqI_of h2, ↓o_taken, ↓o_pick]
        have hc2 : L2.CMul 2 sc := .inl (by omega)
        have fin : ∀ (k v : Int), 0 ≤ v → v < 30 → k ∈ [0, sc, sc, 2 * sc, v] → 0 ≤ k ∧ k ≤ 100 := fun k v h0 h1 hk => by
          simp only [List.mem_cons, List.not_mem_nil, or_false] at hk
          omega
        have sL : SeqAt.shaped (.list L) = true := by rw [hL]; exact shaped_list layT (by decide) _
        have sM : SeqAt.shaped (.list M) = true := by rw [hM]; exact shaped_list layB (by decide) _
        rw [eqv_nil, eqv_nil]
        have go : (ts ≠ [] ∨ bs ≠ []) → ∀ (v : Int) (rw' : List D), RowD rw' → 0 ≤ v → v < 30 → RowD rw' ∧ ∀ (k : Int) (rw' : List D), RowD rw' → k ∈ [0, sc, sc, 2 * sc, v] → Q (.tuple [.tuple L, .tuple M, .int k]) rw' := fun hne v rw' hr' v0 v1 => ⟨hr', fun k rw'' hr'' hk => by
          rw [hL, hM]
          have := fin k v v0 v1 hk
          exact q ts bs k rw'' hr'' ⟨hok, hob, by show ts.length ≤ 6; omega, by show bs.length ≤ 4; omega, this.1, this.2, hne⟩ hts hbs⟩
        refine ⟨sL, shL, fun e1 => ⟨sM, shL, fun e2 => ⟨hc2, hr, fun v rw' hr' v0 v1 => ⟨hr', fun k rw'' hr'' hk => ?_⟩⟩, fun e2 => ⟨hc2, hr, go (.inr ?_)⟩⟩, fun e1 => ⟨hc2, hr, go (.inl ?_)⟩⟩
        · rw [hM]
          have := fin k v v0 v1 hk
          have z := q [(0, sc, 1)] bs k rw'' hr'' ⟨?_, hob, by simp, by show bs.length ≤ 4; omega, this.1, this.2, .inl (by simp)⟩ (by simp) hbs
          · exact z
          · exact okS1 hsc
        · rintro rfl
          rw [hM] at e2
          simp at e2
        · rintro rfl
          rw [hL] at e1
          simp at e1
  · exact h.elim
end My

set_option Elab.async false
set_option autoImplicit false
set_option linter.all false
set_option maxRecDepth 100000
set_option maxHeartbeats 1000000
namespace My
open PySem DW
local macro_rules | `(tactic| simp_arith [$xs,*]) => `(tactic| simp only [↓Mng.E_nm, ↓Mng.E_gl, ↓Mng.E_cn, ↓Mng.E_ng, ↓Mng.E_nt, ↓Mng.E_bn, ↓Mng.E_cp, ↓Mng.E_ch, ↓Mng.E_an, ↓Mng.E_ro, ↓Mng.E_ie, ↓Mng.E_tu, ↓Mng.E_li, ↓Mng.E_ix, ↓Mng.E_ixo, ↓Mng.E_s2, ↓Mng.E_sL, ↓Mng.E_sH, ↓Mng.E_rv, ↓Mng.E_d0, ↓Mng.E_fs, ↓Mng.E_bi, ↓Mng.E_ln, ↓Mng.E_isi, ↓Mng.E_isj, ↓Mng.E_call, ↓Mng.E_calo, ↓Mng.E_calq, ↓Mng.E_caloq, ↓Mng.E_told, ↓Mng.E_lc, ↓Mng.E_ss, ↓Mng.E_mxd, ↓Mng.E_c4, ↓Mng.E_ma, ↓Mng.E_lc2, ↓Mng.A_nil, ↓Mng.A_cons, ↓Mng.J_nil, ↓Mng.J_cons, ↓Mng.T_cp, ↓Mng.T_ch, ↓Mng.T_nt, ↓Mng.T_an, ↓Mng.T_ro, ↓Mng.T_v, ↓Mng.T_vl, ↓Mng.T_c4, ↓Mng.F_nil, ↓Mng.F_one, ↓Mng.I_e, ↓Mng.I_r1, ↓Mng.I_r2, ↓Mng.I_en, ↓Mng.I_zp, ↓Mng.I_z3, ↓Mng.ex_nil0, ↓Mng.ex_nil1, ↓Mng.ex_set, ↓Mng.ex_asg, ↓Mng.ex_par, ↓Mng.ex_par3, ↓Mng.ex_app, ↓Mng.ex_sti, ↓Mng.ex_sti2, ↓Mng.ex_augs, ↓Mng.ex_aug, ↓Mng.ex_iff, ↓Mng.ex_ret, ↓Mng.ex_retN, ↓Mng.ex_pass, ↓Mng.ex_brk, ↓Mng.ex_cnt, ↓Mng.ex_drop, ↓Mng.ex_rai, ↓Mng.ex_raif, ↓Mng.ex_dead, ↓Mng.ex_tryq, ↓Mng.ex_fo, ↓Mng.ex_wh, ↓runP, ↓runO, ↓ph_nx, ↓ph_rt, ↓ph_bk, ↓ph_ct, ↓wpG, ↓wpGs, ↓binK, ↓augK, ↓cmpK, ↓truK, ↓isiK, ↓isjK, ↓bltK, ↓frzK, ↓fpK, ↓foK, ↓fqK, ↓oqK, ↓ftK, ↓fyK, ↓fmK, ↓fm_s, ↓fm_i, ↓frz_pd, ↓frz_ow, ↓frz_un, ↓frz_dk, ↓frz_dt, ↓bi_add, ↓bi_addL, ↓bi_addT, ↓bi_sub, ↓bi_mul, ↓bi_rep, ↓bi_repT, ↓bi_shl, ↓bi_shr, ↓bi_band, ↓bi_bor, ↓bi_mod, ↓bi_fdiv, ↓bi_pow, ↓au_add, ↓au_sub, ↓ci_lt, ↓ci_le, ↓ci_gt, ↓ci_ge, ↓ci_eq, ↓ci_ne, ↓ci_eqB, ↓ci_neB, ↓ci_eqT, ↓ci_eqL, ↓ci_eqN, ↓ci_eqS, ↓ci_neT, ↓ci_neL, ↓ci_neN, ↓ci_neS, ↓ci_is, ↓ci_isn, ↓ci_isB, ↓ci_isnB, ↓ci_inL, ↓ci_inT, ↓ci_ninL, ↓ci_ninT, ↓nn_n, ↓nn_i, ↓nn_b, ↓nn_s, ↓nn_l, ↓nn_t, ↓nn_d, ↓ti_n, ↓ti_b, ↓ti_i, ↓ti_l, ↓ti_t, ↓ii_n, ↓ii_b, ↓ii_i, ↓ii_s, ↓ii_l, ↓ii_t, ↓ii_d, ↓ij_n, ↓ij_b, ↓ij_i, ↓ij_s, ↓ij_l, ↓ij_t, ↓ij_d, ↓bt_lenL, ↓bt_lenT, ↓bt_lenF, ↓bt_max2, ↓bt_maxL, ↓bt_maxT, ↓bt_sumT, ↓bt_min2, ↓bt_minL, ↓bt_minT, ↓bt_abs, ↓bt_sum, ↓bt_any, ↓bt_all, ↓bt_sorted, ↓bt_listL, ↓bt_listT, ↓bt_tupL, ↓bt_tupT, ↓bt_int, ↓bt_intB, ↓bt_str, ↓sub, ↓nrm_pd, ↓nrm_ow, ↓nrm_un, ↓wipeR, ↓rstR, ↓opW, ↓opI_some, ↓owW, ↓ow0, ↓IxD, ↓at0, ↓at1, ↓at2, ↓at3, ↓ix40, ↓ix41, ↓ix42, ↓ix43, ↓intsOf, ↓boolsOf, ↓mthW, ↓seqOf, opI_some, ↓List.map_cons, ↓List.map_nil, List.length_cons, List.length_nil, ↓List.cons_append, ↓List.nil_append, ↓List.getElem?_cons_zero, ↓List.getElem?_cons_succ, ↓List.set_cons_zero, ↓List.set_cons_succ, Nat.reduceSub, Nat.reduceAdd, Nat.reduceLeDiff, ↓List.replicate, true_and, and_true, forall_const, true_implies, false_implies, Bool.not_true, Bool.not_false, implies_true, reduceCtorEq, Option.isSome_some, Int.cast_ofNat_Int, Int.reduceLE, Int.reduceLT, Int.reduceEq, Int.reduceNe, decide_true, decide_false, Bool.and_self, Bool.and_true, Bool.true_and, Bool.and_false, Bool.false_and, Bool.not_not, Bool.or_false, Bool.or_true, Bool.false_or, Bool.true_or, Bool.or_self, Nat.reduceLT, Nat.reduceEqDiff, Option.map_some, Option.map_none, $xs,*])

variable {T : Tb} (S : Mng T)
theorem encT_e (x : Tri) : encT x = .tuple [.int x.1, .int x.2.1, .int x.2.2] := rfl
/-- bodies that have few levels -/
def Few (bs : List Tri) : Prop := bs.length ≤ 31 ∨ (bs.length ≤ 400 ∧ (levelsOf bs).length < 64)
theorem Few.lev {bs : List Tri} (h : Few bs) : (levelsOf bs).length ≤ 63 := by
  have := lev_le bs
  rcases h with h | h <;> omega
theorem Few.len {bs : List Tri} (h : Few bs) : bs.length ≤ 400 := by
  rcases h with h | h <;> omega
def c_levels_of : Ct := fun ds Q _ => match ds with
  | [.list l] => ∃ bs : List Tri, l = bs.map encT ∧ Few bs ∧ Q (.list ((levelsOf bs).map .int))
  | _ => False
theorem w_levels_of : ∀ ds Q, c_levels_of ds Q T.xk → ds.length = 1 ∧ runP S 5 ir_levels_of ds Q := by
  intro ds Q h
  unfold c_levels_of at h
  split at h
  · rename_i l
    obtain ⟨bs, rfl, hl, q⟩ := h
    refine ⟨rfl, ?_⟩
    unfold ir_levels_of
    simp_arith [true_and]
    refine S.loop (fun pre ρ => ∃ L a b c, L = (ends2 pre).map .int ∧ ρ = [.pd (.list (bs.map encT)), .ow none (.lst L), a, b, c]) ⟨_, _, _, _, rfl, rfl⟩ ?_ ?_
    · rintro pre ⟨a, b, c⟩ post ρ Φ' hl2 ⟨L, _, _, _, hL, rfl⟩ hn hc - -
      have hz0 := hl.len
      have hz1 := len_pre hl2 hz0
      have hz2 := ends2_len pre
      have hz : (ends2 pre).length ≤ 800 := by omega
      have hL2 : L.length < 99999 := by rw [hL, List.length_map]; omega
      simp_arith [↓encT]
      exact ⟨by omega, by rw [List.length_append]; simp; omega, hn _ ⟨_, _, _, _, by simp [hL, ends2], rfl⟩⟩
    · rintro ρ ⟨L, _, _, _, hL, rfl⟩
      simp_arith [true_and]
      have hz2 := ends2_len bs
      rw [hL, intsOf_map]
      simp_arith [true_and]
      refine ⟨?_, fun ms h1 h2 => ?_⟩
      · rcases hl with z | ⟨z1, z2⟩
        · exact .inl (by omega)
        · exact .inr ⟨ssort (ends2 bs), by unfold levelsOf at z2; rwa [List.length_reverse] at z2, by omega, fun x hx => mem_ssort.mpr hx⟩
      rw [ssort_of h1 h2]
      simpa [levelsOf] using q
  · exact h.elim
def c_lack_above : Ct := fun ds Q _ => match ds with
  | [.list l, .int lv, .bool o] => ∃ bs : List Tri, l = bs.map encT ∧ bs.length ≤ 100 ∧ (∀ b ∈ bs, -10000 ≤ b.2.2 ∧ b.2.2 ≤ 10000) ∧ Q (.int (-AA bs lv o))
  | _ => False
theorem w_lack_above (h1 : T.fp "heat_above" = c_heat_above) : ∀ ds Q, c_lack_above ds Q T.xk → ds.length = 3 ∧ runP S 4 ir_lack_above ds Q := by
  intro ds Q h
  unfold c_lack_above at h
  split at h
  · rename_i l lv o
    obtain ⟨bs, rfl, hl, hb, q⟩ := h
    refine ⟨rfl, ?_⟩
    unfold ir_lack_above
    simp_arith [true_and]
    refine ⟨by rw [List.length_map]; omega, S.lcm (fun b : Tri => .int (above b lv o)) ?_ ?_⟩
    · rintro ⟨a, b, c⟩ hx K hK
      simp_arith [↓encT, ↓fpI_of h1, ↓fqI_of h1, ↓ftI_of h1, ↓fyI_of h1, ↓c_heat_above]
      exact ⟨(hb _ hx).1, (hb _ hx).2, hK⟩
    · simp_arith [true_and]
      rw [intsOf_mapf]
      simp_arith [true_and]
      exact q
  · exact h.elim
def c_edges_of : Ct := fun ds Q _ => match ds with
  | [.list l] => ∃ bs : List Tri, l = bs.map encT ∧ Few bs ∧ Q (.list ((edgesOf (levelsOf bs)).map encE))
  | _ => False
theorem w_edges_of (h1 : T.fp "levels_of" = c_levels_of) : ∀ ds Q, c_edges_of ds Q T.xk → ds.length = 1 ∧ runP S 3 ir_edges_of ds Q := by
  intro ds Q h
  unfold c_edges_of at h
  split at h
  · rename_i l
    obtain ⟨bs, rfl, hl, q⟩ := h
    refine ⟨rfl, ?_⟩
    unfold ir_edges_of
    simp_arith [↓fpI_of h1, ↓fqI_of h1, ↓ftI_of h1, ↓fyI_of h1, ↓c_levels_of]
    refine ⟨bs, rfl, hl, ?_⟩
    have hb := hl.lev
    refine S.loop (fun pre ρ => ∃ L a, L = (edgesOf pre).map encE ∧ ρ = [.pd (.list (bs.map encT)), .ow none (.lst L), a]) ⟨_, _, rfl, rfl⟩ ?_ ?_
    · rintro pre x post ρ Φ' hl2 ⟨L, _, hL, rfl⟩ hn hc - -
      have hz := edges_len pre
      have hz2 : pre.length < 64 := len_pre hl2 (by omega)
      have hL2 : L.length < 99999 := by rw [hL, List.length_map]; omega
      simp_arith [true_and]
      exact ⟨by omega, by rw [List.length_append]; simp; omega, hn _ ⟨_, _, by simp [hL, edgesOf, encE], rfl⟩⟩
    · rintro ρ ⟨L, _, hL, rfl⟩
      simp_arith [true_and]
      rw [hL]
      exact q
  · exact h.elim
theorem imax_l {l : List Int} (h : l ≠ []) : imax l = lmax l := (lmax_of (imax_mem h) fun _ => imax_le).symm
structure LnR (bs : List Tri) : Prop where
  len : bs.length ≤ 31
  rate : ∀ b ∈ bs, -10000 ≤ b.2.2 ∧ b.2.2 ≤ 10000
theorem GoodB.lr {bs : List Tri} (h : GoodB bs) : LnR bs := ⟨h.len, h.rate⟩
theorem imaxd_l {l : List Int} : imaxd l 0 = lmax l := by
  cases l with
  | nil => rfl
  | cons a r => exact imax_l (by simp)
def c_heating_of : Ct := fun ds Q _ => match ds with
  | [.list l] => ∃ bs : List Tri, l = bs.map encT ∧ LnR bs ∧ Q (.int (heatingOf bs))
  | _ => False
theorem w_heating_of (h1 : T.fp "edges_of" = c_edges_of) (h2 : T.fp "lack_above" = c_lack_above) : ∀ ds Q, c_heating_of ds Q T.xk → ds.length = 1 ∧ runP S 3 ir_heating_of ds Q := by
  intro ds Q h
  unfold c_heating_of at h
  split at h
  · rename_i l
    obtain ⟨bs, rfl, hg, q⟩ := h
    refine ⟨rfl, ?_⟩
    unfold ir_heating_of
    simp_arith [↓fpI_of h1, ↓fqI_of h1, ↓ftI_of h1, ↓fyI_of h1, ↓c_edges_of]
    have hlen := hg.len
    have hb := lev_le bs
    refine ⟨bs, rfl, .inl hlen, by rw [List.length_map, edges_len]; omega, S.lcm (fun e : Int × Bool => .int (-AA bs e.1 e.2)) ?_ ?_⟩
    · rintro ⟨lv, o⟩ hx K hK
      simp_arith [↓encE, ↓fpI_of h2, ↓fqI_of h2, ↓ftI_of h2, ↓fyI_of h2, ↓c_lack_above]
      exact ⟨bs, rfl, by omega, hg.rate, hK⟩
    · simp_arith [true_and]
      rw [intsOf_mapf, needs_edges]
      simp_arith [true_and]
      rw [imaxd_l]
      exact q
  · exact h.elim
def c_whole_heat : Ct := fun ds Q _ => match ds with
  | [.tuple [.int a, .int b, .int c]] => -10000 ≤ c ∧ c ≤ 10000 ∧ Q (.int (whole (a, b, c)))
  | _ => False
theorem w_whole_heat (h1 : T.fp "is_box_body" = c_is_box_body) : ∀ ds Q, c_whole_heat ds Q T.xk → ds.length = 1 ∧ runP S 4 ir_whole_heat ds Q := by
  intro ds Q h
  unfold c_whole_heat at h
  split at h
  · rename_i a b c
    obtain ⟨p1, p2, q⟩ := h
    refine ⟨rfl, ?_⟩
    unfold ir_whole_heat
    simp_arith [↓fpI_of h1, ↓fqI_of h1, ↓ftI_of h1, ↓fyI_of h1, ↓c_is_box_body]
    simp only [decide_eq_true_eq, decide_eq_false_iff_not, Bool.and_eq_true, Bool.or_eq_true, Bool.not_eq_true', Bool.not_eq_false', Bool.not_eq_true, Bool.and_eq_false_iff, Bool.or_eq_false_iff, ne_eq, Int.not_lt, Int.not_le]
    refine ⟨fun e => ?_, fun e => ⟨.inl (by omega), ?_⟩⟩
    · simpa [whole, e] using q
    · simpa [whole, e] using q
  · exact h.elim
end My

set_option Elab.async false
set_option autoImplicit false
set_option linter.all false
set_option maxRecDepth 100000
set_option maxHeartbeats 1000000
namespace My
open PySem DW
local macro_rules | `(tactic| simp_arith [$xs,*]) => `(tactic| simp only [↓Mng.E_nm, ↓Mng.E_gl, ↓Mng.E_cn, ↓Mng.E_ng, ↓Mng.E_nt, ↓Mng.E_bn, ↓Mng.E_cp, ↓Mng.E_ch, ↓Mng.E_an, ↓Mng.E_ro, ↓Mng.E_ie, ↓Mng.E_tu, ↓Mng.E_li, ↓Mng.E_ix, ↓Mng.E_ixo, ↓Mng.E_s2, ↓Mng.E_sL, ↓Mng.E_sH, ↓Mng.E_rv, ↓Mng.E_d0, ↓Mng.E_fs, ↓Mng.E_bi, ↓Mng.E_ln, ↓Mng.E_isi, ↓Mng.E_isj, ↓Mng.E_call, ↓Mng.E_calo, ↓Mng.E_calq, ↓Mng.E_caloq, ↓Mng.E_told, ↓Mng.E_lc, ↓Mng.E_ss, ↓Mng.E_mxd, ↓Mng.E_c4, ↓Mng.E_ma, ↓Mng.E_lc2, ↓Mng.A_nil, ↓Mng.A_cons, ↓Mng.J_nil, ↓Mng.J_cons, ↓Mng.T_cp, ↓Mng.T_ch, ↓Mng.T_nt, ↓Mng.T_an, ↓Mng.T_ro, ↓Mng.T_v, ↓Mng.T_vl, ↓Mng.T_c4, ↓Mng.F_nil, ↓Mng.F_one, ↓Mng.I_e, ↓Mng.I_r1, ↓Mng.I_r2, ↓Mng.I_en, ↓Mng.I_zp, ↓Mng.I_z3, ↓Mng.ex_nil0, ↓Mng.ex_nil1, ↓Mng.ex_set, ↓Mng.ex_asg, ↓Mng.ex_par, ↓Mng.ex_par3, ↓Mng.ex_app, ↓Mng.ex_sti, ↓Mng.ex_sti2, ↓Mng.ex_augs, ↓Mng.ex_aug, ↓Mng.ex_iff, ↓Mng.ex_ret, ↓Mng.ex_retN, ↓Mng.ex_pass, ↓Mng.ex_brk, ↓Mng.ex_cnt, ↓Mng.ex_drop, ↓Mng.ex_rai, ↓Mng.ex_raif, ↓Mng.ex_dead, ↓Mng.ex_tryq, ↓Mng.ex_fo, ↓Mng.ex_wh, ↓runP, ↓runO, ↓ph_nx, ↓ph_rt, ↓ph_bk, ↓ph_ct, ↓wpG, ↓wpGs, ↓binK, ↓augK, ↓cmpK, ↓truK, ↓isiK, ↓isjK, ↓bltK, ↓frzK, ↓fpK, ↓foK, ↓fqK, ↓oqK, ↓ftK, ↓fyK, ↓fmK, ↓fm_s, ↓fm_i, ↓frz_pd, ↓frz_ow, ↓frz_un, ↓frz_dk, ↓frz_dt, ↓bi_add, ↓bi_addL, ↓bi_addT, ↓bi_sub, ↓bi_mul, ↓bi_rep, ↓bi_repT, ↓bi_shl, ↓bi_shr, ↓bi_band, ↓bi_bor, ↓bi_mod, ↓bi_fdiv, ↓bi_pow, ↓au_add, ↓au_sub, ↓ci_lt, ↓ci_le, ↓ci_gt, ↓ci_ge, ↓ci_eq, ↓ci_ne, ↓ci_eqB, ↓ci_neB, ↓ci_eqT, ↓ci_eqL, ↓ci_eqN, ↓ci_eqS, ↓ci_neT, ↓ci_neL, ↓ci_neN, ↓ci_neS, ↓ci_is, ↓ci_isn, ↓ci_isB, ↓ci_isnB, ↓ci_inL, ↓ci_inT, ↓ci_ninL, ↓ci_ninT, ↓nn_n, ↓nn_i, ↓nn_b, ↓nn_s, ↓nn_l, ↓nn_t, ↓nn_d, ↓ti_n, ↓ti_b, ↓ti_i, ↓ti_l, ↓ti_t, ↓ii_n, ↓ii_b, ↓ii_i, ↓ii_s, ↓ii_l, ↓ii_t, ↓ii_d, ↓ij_n, ↓ij_b, ↓ij_i, ↓ij_s, ↓ij_l, ↓ij_t, ↓ij_d, ↓bt_lenL, ↓bt_lenT, ↓bt_lenF, ↓bt_max2, ↓bt_maxL, ↓bt_maxT, ↓bt_sumT, ↓bt_min2, ↓bt_minL, ↓bt_minT, ↓bt_abs, ↓bt_sum, ↓bt_any, ↓bt_all, ↓bt_sorted, ↓bt_listL, ↓bt_listT, ↓bt_tupL, ↓bt_tupT, ↓bt_int, ↓bt_intB, ↓bt_str, ↓sub, ↓nrm_pd, ↓nrm_ow, ↓nrm_un, ↓wipeR, ↓rstR, ↓opW, ↓opI_some, ↓owW, ↓ow0, ↓IxD, ↓at0, ↓at1, ↓at2, ↓at3, ↓ix40, ↓ix41, ↓ix42, ↓ix43, ↓intsOf, ↓boolsOf, ↓mthW, ↓seqOf, opI_some, ↓List.map_cons, ↓List.map_nil, List.length_cons, List.length_nil, ↓List.cons_append, ↓List.nil_append, ↓List.getElem?_cons_zero, ↓List.getElem?_cons_succ, ↓List.set_cons_zero, ↓List.set_cons_succ, Nat.reduceSub, Nat.reduceAdd, Nat.reduceLeDiff, ↓List.replicate, true_and, and_true, forall_const, true_implies, false_implies, Bool.not_true, Bool.not_false, implies_true, reduceCtorEq, Option.isSome_some, Int.cast_ofNat_Int, Int.reduceLE, Int.reduceLT, Int.reduceEq, Int.reduceNe, decide_true, decide_false, Bool.and_self, Bool.and_true, Bool.true_and, Bool.and_false, Bool.false_and, Bool.not_not, Bool.or_false, Bool.or_true, Bool.false_or, Bool.true_or, Bool.or_self, Nat.reduceLT, Nat.reduceEqDiff, Option.map_some, Option.map_none, $xs,*])

variable {T : Tb} (S : Mng T)
def c_outside_with : Ct := fun ds Q _ => match ds with
  | [.int h, .list l] => ∃ bs : List Tri, l = bs.map encT ∧ bs.length ≤ 1000 ∧ (∀ b ∈ bs, -10000 ≤ b.2.2 ∧ b.2.2 ≤ 10000) ∧ Q (.tuple [.int h, .int (h + (bs.map whole).sum)])
  | _ => False
theorem w_outside_with (h1 : T.fp "whole_heat" = c_whole_heat) : ∀ ds Q, c_outside_with ds Q T.xk → ds.length = 2 ∧ runP S 3 ir_outside_with ds Q := by
  intro ds Q h
  unfold c_outside_with at h
  split at h
  · rename_i h l
    obtain ⟨bs, rfl, hl, hr, q⟩ := h
    refine ⟨rfl, ?_⟩
    unfold ir_outside_with
    simp_arith [true_and]
    refine ⟨by rw [List.length_map]; omega, S.lcm (fun b : Tri => .int (whole b)) ?_ ?_⟩
    · rintro ⟨a, b, c⟩ hx K hK
      have := hr _ hx
      simp_arith [↓encT, ↓fpI_of h1, ↓fqI_of h1, ↓ftI_of h1, ↓fyI_of h1, ↓c_whole_heat]
      exact ⟨this.1, this.2, hK⟩
    · simp_arith [true_and]
      rw [intsOf_mapf]
      simp_arith [true_and]
      exact q
  · exact h.elim
def c_least_outside : Ct := fun ds Q _ => match ds with
  | [.tuple [.tuple s, .tuple b, .int g]] => ∃ (ss : List Tri) (bs : List Bx), s = ss.map encT ∧ b = bs.map encB ∧ OkP (ss, bs, g) ∧ Q (.tuple [.int (heatingOf (bodies (ss, bs, g))), .int (heatingOf (bodies (ss, bs, g)) + ((bodies (ss, bs, g)).map whole).sum)])
  | _ => False
theorem w_least_outside (h1 : T.fp "check_problem" = c_check_problem) (h2 : T.fp "bodies_of" = c_bodies_of) (h3 : T.fp "heating_of" = c_heating_of) (h4 : T.fp "outside_with" = c_outside_with) : ∀ ds Q, c_least_outside ds Q T.xk → ds.length = 1 ∧ runP S 2 ir_least_outside ds Q := by
  intro ds Q h
  unfold c_least_outside at h
  split at h
  · rename_i s b g
    obtain ⟨ss, bs, rfl, rfl, hp, q⟩ := h
    refine ⟨rfl, ?_⟩
    have hl := hp.len
    unfold ir_least_outside
    simp_arith [↓fpI_of h1, ↓fqI_of h1, ↓ftI_of h1, ↓fyI_of h1, ↓fpI_of h2, ↓fqI_of h2, ↓ftI_of h2, ↓fyI_of h2, ↓fpI_of h3, ↓fqI_of h3, ↓ftI_of h3, ↓fyI_of h3, ↓fpI_of h4, ↓fqI_of h4, ↓ftI_of h4, ↓fyI_of h4, ↓c_check_problem, ↓c_bodies_of, ↓encTs, ↓c_heating_of, ↓c_outside_with]
    exact ⟨ss, bs, rfl, rfl, hp, ss, bs, rfl, rfl, hp.ls, hp.lb, _, rfl, (goodB hp).lr, _, rfl, by omega, fun b hb => bodies_rate hp hb, q⟩
  · exact h.elim
def c_gap_curve : Ct := fun ds Q _ => match ds with
  | [.tuple [.tuple s, .tuple b, .int g], .int m] => ∃ (ss : List Tri) (bs : List Bx), s = ss.map encT ∧ b = bs.map encB ∧ OkP (ss, bs, g) ∧ 0 ≤ m ∧ m ≤ 100 ∧ Q (.tuple ((rangeI 0 (m + 1)).map fun k => .int (heatingOf (bodies (ss, bs, k)))))
  | _ => False
theorem OkP.gap {ss : List Tri} {bs : List Bx} {g k : Int} (h : OkP (ss, bs, g)) (h0 : 0 ≤ k) (h1 : k ≤ 100) : OkP (ss, bs, k) := ⟨h.ss, h.bs, h.ls, h.lb, h0, h1, h.ne⟩
theorem w_gap_curve (h1 : T.fp "check_problem" = c_check_problem) (h2 : T.fp "check_gap" = c_check_gap) (h3 : T.fp "bodies_of" = c_bodies_of) (h4 : T.fp "heating_of" = c_heating_of) : ∀ ds Q, c_gap_curve ds Q T.xk → ds.length = 2 ∧ runP S 6 ir_gap_curve ds Q := by
  intro ds Q h
  unfold c_gap_curve at h
  split at h
  · rename_i s b g m
    obtain ⟨ss, bs, rfl, rfl, hp, m0, m1, q⟩ := h
    refine ⟨rfl, ?_⟩
    unfold ir_gap_curve
    simp_arith [↓fpI_of h1, ↓fqI_of h1, ↓ftI_of h1, ↓fyI_of h1, ↓fpI_of h2, ↓fqI_of h2, ↓ftI_of h2, ↓fyI_of h2, ↓c_check_problem, ↓c_check_gap]
    refine ⟨ss, bs, rfl, rfl, hp, m0, m1, by omega, by omega, by rw [List.length_map, rangeI_len]; omega, S.lcm (fun k : Int => .int (heatingOf (bodies (ss, bs, k)))) ?_ ?_⟩
    · intro k hk K hK
      have hk2 := mem_rangeI.mp hk
      simp_arith [↓fpI_of h3, ↓fqI_of h3, ↓ftI_of h3, ↓fyI_of h3, ↓fpI_of h4, ↓fqI_of h4, ↓ftI_of h4, ↓fyI_of h4, ↓c_bodies_of, ↓c_heating_of, ↓encTs]
      exact ⟨ss, bs, rfl, rfl, hp.ls, hp.lb, _, rfl, (goodB (hp.gap (by omega) (by omega))).lr, hK⟩
    · simp_arith [true_and]
      exact q
  · exact h.elim
def plain : Nat → D → Prop
  | _, .int _ => True
  | _, .bool _ => True
  | _, .none => True
  | n + 1, .tuple l => l.length ≤ 1000 ∧ ∀ d ∈ l, plain n d
  | n + 1, .list l => l.length ≤ 1000 ∧ ∀ d ∈ l, plain n d
  | _, _ => False
def c_alike (n : Nat) : Ct := fun ds Q _ => match ds with
  | [f, d] => f = d ∧ plain n d ∧ Q (.bool true)
  | _ => False
theorem w_alike {n : Nat} (h1 : ∀ m, n = m + 1 → T.fp "_law_alike" = c_alike m) : ∀ ds Q, c_alike n ds Q T.xk → ds.length = 2 ∧ runP S 3 ir__law_alike ds Q := by
  intro ds Q h
  unfold c_alike at h
  split at h
  · rename_i f d
    obtain ⟨rfl, hd, q⟩ := h
    refine ⟨rfl, ?_⟩
    unfold ir__law_alike
    have seq : ∀ (l : List D), l.length ≤ 1000 → (∀ x ∈ l, ∃ m, n = m + 1 ∧ plain m x) → ∀ k ∈ rangeI 0 (l.length : Int), ∃ x m, L2.atI l k = some x ∧ n = m + 1 ∧ plain m x := fun l hl hx k hk => by
      have hk2 := mem_rangeI.mp hk
      have hlt : k.toNat < l.length := by omega
      obtain ⟨m, e, p⟩ := hx _ (List.getElem_mem hlt)
      exact ⟨l[k.toNat], m, atI_at (by omega) (List.getElem?_eq_getElem hlt), e, p⟩
    have fin : ∀ {l : List Int} {ρ : Ev}, l.filterMap (fun _ => (none : Option D)) = [] := fun {l ρ} => by simp
    cases f with
    | int i =>
      simp_arith [true_and]
      exact q
    | bool i =>
      simp_arith [true_and]
      simpa using q
    | none =>
      simp_arith [true_and]
      exact ⟨rfl, rfl, fun _ => q, fun h => by simp [PyData.eqv] at h⟩
    | str s => cases n <;> exact hd.elim
    | dict l => cases n <;> exact hd.elim
    | tuple l =>
      cases n with
      | zero => exact hd.elim
      | succ m =>
        obtain ⟨hl, hx⟩ := hd
        simp_arith [true_and]

        refine ⟨by omega, by omega, by rw [List.length_map, rangeI_len]; omega, S.lci (fun _ : Int => none) ?_ ?_⟩
        · intro k hk K hK
          obtain ⟨x, m', e1, e2, e3⟩ := seq l hl (fun x hx' => ⟨m, rfl, hx x hx'⟩) k hk
          cases e2
          simp_arith [↓e1, ↓fpI_of (h1 m rfl), ↓fqI_of (h1 m rfl), ↓c_alike]
          exact ⟨e3, hK⟩
        · rw [fin (ρ := [])]
          simp_arith [true_and]
          exact ⟨rfl, rfl, q⟩
    | list l =>
      cases n with
      | zero => exact hd.elim
      | succ m =>
        obtain ⟨hl, hx⟩ := hd
        simp_arith [true_and]

        refine ⟨by omega, by omega, by rw [List.length_map, rangeI_len]; omega, S.lci (fun _ : Int => none) ?_ ?_⟩
        · intro k hk K hK
          obtain ⟨x, m', e1, e2, e3⟩ := seq l hl (fun x hx' => ⟨m, rfl, hx x hx'⟩) k hk
          cases e2
          simp_arith [↓e1, ↓fpI_of (h1 m rfl), ↓fqI_of (h1 m rfl), ↓c_alike]
          exact ⟨e3, hK⟩
        · rw [fin (ρ := [])]
          simp_arith [true_and]
          exact ⟨rfl, rfl, q⟩
  · exact h.elim
end My

set_option Elab.async false
set_option autoImplicit false
set_option linter.all false
set_option maxRecDepth 100000
set_option maxHeartbeats 1000000
namespace My
open PySem DW
local macro_rules | `(tactic| simp_arith [$xs,*]) => `(tactic| simp only [↓Mng.E_nm, ↓Mng.E_gl, ↓Mng.E_cn, ↓Mng.E_ng, ↓Mng.E_nt, ↓Mng.E_bn, ↓Mng.E_cp, ↓Mng.E_ch, ↓Mng.E_an, ↓Mng.E_ro, ↓Mng.E_ie, ↓Mng.E_tu, ↓Mng.E_li, ↓Mng.E_ix, ↓Mng.E_ixo, ↓Mng.E_s2, ↓Mng.E_sL, ↓Mng.E_sH, ↓Mng.E_rv, ↓Mng.E_d0, ↓Mng.E_fs, ↓Mng.E_bi, ↓Mng.E_ln, ↓Mng.E_isi, ↓Mng.E_isj, ↓Mng.E_call, ↓Mng.E_calo, ↓Mng.E_calq, ↓Mng.E_caloq, ↓Mng.E_told, ↓Mng.E_lc, ↓Mng.E_ss, ↓Mng.E_mxd, ↓Mng.E_c4, ↓Mng.E_ma, ↓Mng.E_lc2, ↓Mng.A_nil, ↓Mng.A_cons, ↓Mng.J_nil, ↓Mng.J_cons, ↓Mng.T_cp, ↓Mng.T_ch, ↓Mng.T_nt, ↓Mng.T_an, ↓Mng.T_ro, ↓Mng.T_v, ↓Mng.T_vl, ↓Mng.T_c4, ↓Mng.F_nil, ↓Mng.F_one, ↓Mng.I_e, ↓Mng.I_r1, ↓Mng.I_r2, ↓Mng.I_en, ↓Mng.I_zp, ↓Mng.I_z3, ↓Mng.ex_nil0, ↓Mng.ex_nil1, ↓Mng.ex_set, ↓Mng.ex_asg, ↓Mng.ex_par, ↓Mng.ex_par3, ↓Mng.ex_app, ↓Mng.ex_sti, ↓Mng.ex_sti2, ↓Mng.ex_augs, ↓Mng.ex_aug, ↓Mng.ex_iff, ↓Mng.ex_ret, ↓Mng.ex_retN, ↓Mng.ex_pass, ↓Mng.ex_brk, ↓Mng.ex_cnt, ↓Mng.ex_drop, ↓Mng.ex_rai, ↓Mng.ex_raif, ↓Mng.ex_dead, ↓Mng.ex_tryq, ↓Mng.ex_fo, ↓Mng.ex_wh, ↓runP, ↓runO, ↓ph_nx, ↓ph_rt, ↓ph_bk, ↓ph_ct, ↓wpG, ↓wpGs, ↓binK, ↓augK, ↓cmpK, ↓truK, ↓isiK, ↓isjK, ↓bltK, ↓frzK, ↓fpK, ↓foK, ↓fqK, ↓oqK, ↓ftK, ↓fyK, ↓fmK, ↓fm_s, ↓fm_i, ↓frz_pd, ↓frz_ow, ↓frz_un, ↓frz_dk, ↓frz_dt, ↓bi_add, ↓bi_addL, ↓bi_addT, ↓bi_sub, ↓bi_mul, ↓bi_rep, ↓bi_repT, ↓bi_shl, ↓bi_shr, ↓bi_band, ↓bi_bor, ↓bi_mod, ↓bi_fdiv, ↓bi_pow, ↓au_add, ↓au_sub, ↓ci_lt, ↓ci_le, ↓ci_gt, ↓ci_ge, ↓ci_eq, ↓ci_ne, ↓ci_eqB, ↓ci_neB, ↓ci_eqT, ↓ci_eqL, ↓ci_eqN, ↓ci_eqS, ↓ci_neT, ↓ci_neL, ↓ci_neN, ↓ci_neS, ↓ci_is, ↓ci_isn, ↓ci_isB, ↓ci_isnB, ↓ci_inL, ↓ci_inT, ↓ci_ninL, ↓ci_ninT, ↓nn_n, ↓nn_i, ↓nn_b, ↓nn_s, ↓nn_l, ↓nn_t, ↓nn_d, ↓ti_n, ↓ti_b, ↓ti_i, ↓ti_l, ↓ti_t, ↓ii_n, ↓ii_b, ↓ii_i, ↓ii_s, ↓ii_l, ↓ii_t, ↓ii_d, ↓ij_n, ↓ij_b, ↓ij_i, ↓ij_s, ↓ij_l, ↓ij_t, ↓ij_d, ↓bt_lenL, ↓bt_lenT, ↓bt_lenF, ↓bt_max2, ↓bt_maxL, ↓bt_maxT, ↓bt_sumT, ↓bt_min2, ↓bt_minL, ↓bt_minT, ↓bt_abs, ↓bt_sum, ↓bt_any, ↓bt_all, ↓bt_sorted, ↓bt_listL, ↓bt_listT, ↓bt_tupL, ↓bt_tupT, ↓bt_int, ↓bt_intB, ↓bt_str, ↓sub, ↓nrm_pd, ↓nrm_ow, ↓nrm_un, ↓wipeR, ↓rstR, ↓opW, ↓opI_some, ↓owW, ↓ow0, ↓IxD, ↓at0, ↓at1, ↓at2, ↓at3, ↓ix40, ↓ix41, ↓ix42, ↓ix43, ↓intsOf, ↓boolsOf, ↓mthW, ↓seqOf, opI_some, ↓List.map_cons, ↓List.map_nil, List.length_cons, List.length_nil, ↓List.cons_append, ↓List.nil_append, ↓List.getElem?_cons_zero, ↓List.getElem?_cons_succ, ↓List.set_cons_zero, ↓List.set_cons_succ, Nat.reduceSub, Nat.reduceAdd, Nat.reduceLeDiff, ↓List.replicate, true_and, and_true, forall_const, true_implies, false_implies, Bool.not_true, Bool.not_false, implies_true, reduceCtorEq, Option.isSome_some, Int.cast_ofNat_Int, Int.reduceLE, Int.reduceLT, Int.reduceEq, Int.reduceNe, decide_true, decide_false, Bool.and_self, Bool.and_true, Bool.true_and, Bool.and_false, Bool.false_and, Bool.not_not, Bool.or_false, Bool.or_true, Bool.false_or, Bool.true_or, Bool.or_self, Nat.reduceLT, Nat.reduceEqDiff, Option.map_some, Option.map_none, $xs,*])

variable {T : Tb} (S : Mng T)
def c_span : Ct := fun ds Q _ => match ds with
  | [.tuple [.tuple s, .tuple b, .int g], .int k] => ∃ (ss : List Tri) (bs : List Bx), s = ss.map encT ∧ b = bs.map encB ∧ 0 ≤ k ∧ k < ss.length + bs.length ∧ Q (spanD (ss, bs, g) k)
  | _ => False
theorem w_span : ∀ ds Q, c_span ds Q T.xk → ds.length = 2 ∧ runP S 11 ir__law_span ds Q := by
  intro ds Q h
  unfold c_span at h
  split at h
  · rename_i s b g k
    obtain ⟨ss, bs, rfl, rfl, k0, k1, q⟩ := h
    refine ⟨rfl, ?_⟩
    unfold ir__law_span
    by_cases hc : k < (ss.length : Int)
    · obtain ⟨⟨a, b, c⟩, hs, hat⟩ := tup_at (enc := encT) (0, 0, 0) k0 hc
      have hat : L2.atI (ss.map encT) k = some (encT (a, b, c)) := hat
      rw [span_s hc hs] at q
      simp_arith [↓hat, ↓encT_e]
      rw [List.length_map]
      refine ⟨fun _ => ⟨fun e => ?_, fun e => ?_⟩, fun h => by simp [hc] at h⟩ <;> simpa [e] using q
    · have hl : k - ((ss.map encT).length : Int) = k - (ss.length : Int) := by rw [List.length_map]
      obtain ⟨⟨a, h⟩, hs, hat⟩ := tup_at (enc := encB) (l := bs) (k := k - (ss.length : Int)) (0, 0) (by omega) (by omega)
      have hat : L2.atI (bs.map encB) (k - ((ss.map encT).length : Int)) = some (encB (a, h)) := by rw [hl]; exact hat
      rw [span_b hc hs] at q
      simp_arith [↓hat, ↓encB]
      rw [List.length_map]
      refine ⟨fun h => absurd (of_decide_eq_true h) hc, fun _ => ⟨fun e => ?_, fun e => ?_⟩⟩ <;> simpa [e] using q
  · exact h.elim
def c_lheat : Ct := fun ds Q _ => match ds with
  | [.tuple [.tuple s, .tuple b, .int g], .int k, .int lv, .bool o] => ∃ (ss : List Tri) (bs : List Bx), s = ss.map encT ∧ b = bs.map encB ∧ OkP (ss, bs, g) ∧ 0 ≤ k ∧ k < ss.length + bs.length ∧ Q (.int (ldH (ss, bs, g) k lv o))
  | _ => False
theorem w_lheat (h1 : T.fp "_law_span" = c_span) : ∀ ds Q, c_lheat ds Q T.xk → ds.length = 4 ∧ runP S 9 ir__law_heat ds Q := by
  intro ds Q h
  unfold c_lheat at h
  split at h
  · rename_i s b g k lv o
    obtain ⟨ss, bs, rfl, rfl, hp, k0, k1, q⟩ := h
    refine ⟨rfl, ?_⟩
    unfold ir__law_heat
    have hr := ra_bd hp k0
    simp_arith [↓fpI_of h1, ↓fqI_of h1, ↓ftI_of h1, ↓fyI_of h1, ↓c_span, ↓spanD]
    refine ⟨ss, bs, rfl, rfl, k0, k1, fun e => ?_, fun e => ⟨.inl (by omega), ?_⟩⟩
    · have e := of_decide_eq_true e
      unfold ldH at q
      rw [if_pos e] at q
      by_cases z1 : lv < upOf (ss, bs, g) k
      · rw [if_pos (.inl z1)] at q
        exact ⟨fun h => absurd z1 (of_decide_eq_false h), fun _ => q⟩
      · refine ⟨fun _ => ⟨fun h => ⟨fun ho => ?_, fun ho => ?_⟩, fun h => ?_⟩, fun h => absurd (of_decide_eq_true h) z1⟩
        · rwa [if_pos (.inr ⟨of_decide_eq_true h, by simpa using ho⟩)] at q
        · rwa [if_neg (by rintro (z | ⟨z, z'⟩); exact z1 z; rw [z'] at ho; simp at ho)] at q
        · rwa [if_neg (by rintro (z | ⟨z, z'⟩); exact z1 z; exact of_decide_eq_false h z)] at q
    · have e := of_decide_eq_false e
      unfold ldH at q
      rwa [if_neg e] at q
  · exact h.elim
def c_need : Ct := fun ds Q _ => match ds with
  | [.tuple [.tuple s, .tuple b, .int g], .int lv, .bool o] => ∃ (ss : List Tri) (bs : List Bx), s = ss.map encT ∧ b = bs.map encB ∧ OkP (ss, bs, g) ∧ Q (.int (-AA (bodies (ss, bs, g)) lv o))
  | _ => False
theorem w_need (h1 : T.fp "_law_span" = c_span) (h2 : T.fp "_law_heat" = c_lheat) : ∀ ds Q, c_need ds Q T.xk → ds.length = 3 ∧ runP S 6 ir__law_need ds Q := by
  intro ds Q h
  unfold c_need at h
  split at h
  · rename_i s b g lv o
    obtain ⟨ss, bs, rfl, rfl, hp, q⟩ := h
    refine ⟨rfl, ?_⟩
    unfold ir__law_need
    have h6 : ss.length ≤ 6 := hp.ls
    have h4 : bs.length ≤ 4 := hp.lb
    simp_arith [true_and]
    rw [List.length_map, List.length_map]
    refine ⟨by omega, by omega, S.loop (fun pre ρ => ∃ x a b, x = (pre.map (ndK (ss, bs, g) lv o)).sum ∧ ρ = [.pd (.tuple [.tuple (ss.map encT), .tuple (bs.map encB), .int g]), .pd (.int lv), .pd (.bool o), .pd (.int x), a, b]) ⟨_, _, _, rfl, rfl⟩ ?_ ?_⟩
    · rintro pre k post ρ Φ' hl ⟨x, _, _, hx, rfl⟩ hn hc - -
      have hk := mem_rangeI.mp (show k ∈ rangeI 0 ((ss.length : Int) + (bs.length : Int)) by rw [hl]; simp)
      simp_arith [↓fpI_of h1, ↓fqI_of h1, ↓ftI_of h1, ↓fyI_of h1, ↓fpI_of h2, ↓fqI_of h2, ↓ftI_of h2, ↓fyI_of h2, ↓c_span, ↓c_lheat, ↓spanD]
      refine ⟨ss, bs, rfl, rfl, hp, hk.1, hk.2, ss, bs, rfl, rfl, hk.1, hk.2, fun e => hn _ ⟨_, _, _, ?_, rfl⟩, fun e => hn _ ⟨_, _, _, ?_, rfl⟩⟩
      · simp [hx, ndK, e]
        omega
      · simp [hx, ndK, e]
    · rintro ρ ⟨x, _, _, hx, rfl⟩
      simp_arith [true_and]
      rw [hx, need_sum hp]
      exact q
  · exact h.elim
def c_llevels : Ct := fun ds Q _ => match ds with
  | [.tuple [.tuple s, .tuple b, .int g]] => ∃ (ss : List Tri) (bs : List Bx), s = ss.map encT ∧ b = bs.map encB ∧ OkP (ss, bs, g) ∧ Q (.list ((levelsOf (bodies (ss, bs, g))).map .int))
  | _ => False
theorem w_llevels (h1 : T.fp "_law_span" = c_span) : ∀ ds Q, c_llevels ds Q T.xk → ds.length = 1 ∧ runP S 3 ir__law_levels ds Q := by
  intro ds Q h
  unfold c_llevels at h
  split at h
  · rename_i s b g
    obtain ⟨ss, bs, rfl, rfl, hp, q⟩ := h
    refine ⟨rfl, ?_⟩
    unfold ir__law_levels
    have h6 : ss.length ≤ 6 := hp.ls
    have h4 : bs.length ≤ 4 := hp.lb
    simp_arith [true_and]
    rw [List.length_map, List.length_map]
    refine ⟨by omega, by omega, S.loop (fun pre ρ => ∃ s a L, (s = .ow none (.lst L) ∨ s = .pd (.list L)) ∧ L = (lawEnds (ss, bs, g) pre).map .int ∧ ρ = [.pd (.tuple [.tuple (ss.map encT), .tuple (bs.map encB), .int g]), s, a]) ⟨_, _, _, .inl rfl, rfl, rfl⟩ ?_ ?_⟩
    · rintro pre k post ρ Φ' hl ⟨s, _, L, hs, hL, rfl⟩ hn hc - -
      have hk := mem_rangeI.mp (show k ∈ rangeI 0 ((ss.length : Int) + (bs.length : Int)) by rw [hl]; simp)
      have hpre := mem_rng_pre hl
      have hz := lawEnds_len (ss, bs, g) pre
      have hL2 : L.length ≤ 1000 := by rw [hL, List.length_map]; omega
      have hcut : ∀ a b c d e : D, SlD (some 1) (some 3) (.tuple [a, b, c, d, e]) = some (.pd (.tuple [b, c])) := fun _ _ _ _ _ => rfl
      have hcut0 : SlD (some 1) (some 3) (spanD (ss, bs, g) k) = some (.pd (.tuple [.int (upOf (ss, bs, g) k), .int (loOf (ss, bs, g) k)])) := rfl
      have fin : (lawEnds (ss, bs, g) (pre ++ [k])).map PyData.int = L ++ [.int (upOf (ss, bs, g) k), .int (loOf (ss, bs, g) k)] := by simp [hL, lawEnds]
      rcases hs with rfl | rfl
      · simp_arith [↓fpI_of h1, ↓fqI_of h1, ↓ftI_of h1, ↓fyI_of h1, ↓c_span, ↓spanD, ↓hcut]
        exact ⟨ss, bs, rfl, rfl, hk.1, hk.2, by omega, hn _ ⟨_, _, _, .inl rfl, fin.symm, rfl⟩⟩
      · simp_arith [↓fpI_of h1, ↓fqI_of h1, ↓ftI_of h1, ↓fyI_of h1, ↓c_span, ↓spanD, ↓hcut]
        exact ⟨ss, bs, rfl, rfl, hk.1, hk.2, by omega, hn _ ⟨_, _, _, .inl rfl, fin.symm, rfl⟩⟩
    · rintro ρ ⟨s, _, L, hs, hL, rfl⟩
      have hz := lawEnds_len (ss, bs, g) (rangeI 0 ((ss.length : Int) + (bs.length : Int)))
      rw [rangeI_len] at hz
      have he : lawEnds (ss, bs, g) (rangeI 0 ((ss.length : Int) + (bs.length : Int))) = ends2 (bodies (ss, bs, g)) := by
        have z := lawEnds_eq (ss, bs, g)
        rw [List.length_map, List.length_map] at z
        exact z
      have hi : intsOf L = some (ends2 (bodies (ss, bs, g))) := by rw [hL, intsOf_map, he]
      have fin : ∀ ms : List Int, ms.Pairwise (· < ·) → (∀ k : Int, k ∈ ms ↔ k ∈ ends2 (bodies (ss, bs, g))) → Q (.list (ms.map PyData.int).reverse) := fun ms h1 h2 => by
        rw [ssort_of h1 h2]
        simpa [levelsOf] using q
      rw [he] at hz
      rcases hs with rfl | rfl
      · simp_arith [↓hi]
        exact ⟨.inl (by omega), fin⟩
      · simp_arith [↓hi]
        exact ⟨.inl (by omega), fin⟩
  · exact h.elim
def c_lheating : Ct := fun ds Q _ => match ds with
  | [.tuple [.tuple s, .tuple b, .int g]] => ∃ (ss : List Tri) (bs : List Bx), s = ss.map encT ∧ b = bs.map encB ∧ OkP (ss, bs, g) ∧ Q (.int (heatingOf (bodies (ss, bs, g))))
  | _ => False
theorem w_lheating (h1 : T.fp "_law_levels" = c_llevels) (h2 : T.fp "_law_need" = c_need) : ∀ ds Q, c_lheating ds Q T.xk → ds.length = 1 ∧ runP S 3 ir__law_heating ds Q := by
  intro ds Q h
  unfold c_lheating at h
  split at h
  · rename_i s b g
    obtain ⟨ss, bs, rfl, rfl, hp, q⟩ := h
    refine ⟨rfl, ?_⟩
    unfold ir__law_heating
    have hg := goodB hp
    have hlen := lev_len hg
    simp_arith [↓fpI_of h1, ↓fqI_of h1, ↓ftI_of h1, ↓fyI_of h1, ↓c_llevels]
    refine ⟨ss, bs, rfl, rfl, hp, S.loop (fun pre ρ => ∃ s a L, (s = .ow none (.lst L) ∨ s = .pd (.list L)) ∧ L = (0 :: needsAt (bodies (ss, bs, g)) pre).map .int ∧ ρ = [.pd (.tuple [.tuple (ss.map encT), .tuple (bs.map encB), .int g]), s, a]) ⟨_, _, _, .inl rfl, rfl, rfl⟩ ?_ ?_⟩
    · rintro pre lv post ρ Φ' hl ⟨s, _, L, hs, hL, rfl⟩ hn hc - -
      have hz := needs_len (bodies (ss, bs, g)) pre
      have hpre : pre.length < 62 := len_pre hl hlen
      have hL2 : L.length ≤ 1000 := by rw [hL, List.length_map, List.length_cons]; omega
      have fin : (0 :: needsAt (bodies (ss, bs, g)) (pre ++ [lv])).map PyData.int = L ++ [.int (-AA (bodies (ss, bs, g)) lv true), .int (-AA (bodies (ss, bs, g)) lv false)] := by simp [hL, needsAt]
      rcases hs with rfl | rfl
      · simp_arith [↓fpI_of h2, ↓fqI_of h2, ↓ftI_of h2, ↓fyI_of h2, ↓c_need]
        exact ⟨ss, bs, rfl, rfl, hp, ss, bs, rfl, rfl, hp, by omega, hn _ ⟨_, _, _, .inl rfl, fin.symm, rfl⟩⟩
      · simp_arith [↓fpI_of h2, ↓fqI_of h2, ↓ftI_of h2, ↓fyI_of h2, ↓c_need]
        exact ⟨ss, bs, rfl, rfl, hp, ss, bs, rfl, rfl, hp, by omega, hn _ ⟨_, _, _, .inl rfl, fin.symm, rfl⟩⟩
    · rintro ρ ⟨s, _, L, hs, hL, rfl⟩
      have hi : intsOf L = some (0 :: needsAt (bodies (ss, bs, g)) (levelsOf (bodies (ss, bs, g)))) := by rw [hL, intsOf_map]
      obtain ⟨m1, m2⟩ := heat_law hg
      have hm : imax (0 :: needsAt (bodies (ss, bs, g)) (levelsOf (bodies (ss, bs, g)))) = heatingOf (bodies (ss, bs, g)) := by
        rw [imax_l (by simp)]
        exact lmax_of m1 m2
      rcases hs with rfl | rfl
      · simp_arith [↓hi, ↓hm]
        exact ⟨by simp, q⟩
      · simp_arith [↓hi, ↓hm]
        exact ⟨by simp, q⟩
  · exact h.elim
end My

set_option Elab.async false
set_option autoImplicit false
set_option linter.all false
set_option maxRecDepth 100000
set_option maxHeartbeats 1000000
namespace My
open PySem DW
local macro_rules | `(tactic| simp_arith [$xs,*]) => `(tactic| simp only [↓Mng.E_nm, ↓Mng.E_gl, ↓Mng.E_cn, ↓Mng.E_ng, ↓Mng.E_nt, ↓Mng.E_bn, ↓Mng.E_cp, ↓Mng.E_ch, ↓Mng.E_an, ↓Mng.E_ro, ↓Mng.E_ie, ↓Mng.E_tu, ↓Mng.E_li, ↓Mng.E_ix, ↓Mng.E_ixo, ↓Mng.E_s2, ↓Mng.E_sL, ↓Mng.E_sH, ↓Mng.E_rv, ↓Mng.E_d0, ↓Mng.E_fs, ↓Mng.E_bi, ↓Mng.E_ln, ↓Mng.E_isi, ↓Mng.E_isj, ↓Mng.E_call, ↓Mng.E_calo, ↓Mng.E_calq, ↓Mng.E_caloq, ↓Mng.E_told, ↓Mng.E_lc, ↓Mng.E_ss, ↓Mng.E_mxd, ↓Mng.E_c4, ↓Mng.E_ma, ↓Mng.E_lc2, ↓Mng.A_nil, ↓Mng.A_cons, ↓Mng.J_nil, ↓Mng.J_cons, ↓Mng.T_cp, ↓Mng.T_ch, ↓Mng.T_nt, ↓Mng.T_an, ↓Mng.T_ro, ↓Mng.T_v, ↓Mng.T_vl, ↓Mng.T_c4, ↓Mng.F_nil, ↓Mng.F_one, ↓Mng.I_e, ↓Mng.I_r1, ↓Mng.I_r2, ↓Mng.I_en, ↓Mng.I_zp, ↓Mng.I_z3, ↓Mng.ex_nil0, ↓Mng.ex_nil1, ↓Mng.ex_set, ↓Mng.ex_asg, ↓Mng.ex_par, ↓Mng.ex_par3, ↓Mng.ex_app, ↓Mng.ex_sti, ↓Mng.ex_sti2, ↓Mng.ex_augs, ↓Mng.ex_aug, ↓Mng.ex_iff, ↓Mng.ex_ret, ↓Mng.ex_retN, ↓Mng.ex_pass, ↓Mng.ex_brk, ↓Mng.ex_cnt, ↓Mng.ex_drop, ↓Mng.ex_rai, ↓Mng.ex_raif, ↓Mng.ex_dead, ↓Mng.ex_tryq, ↓Mng.ex_fo, ↓Mng.ex_wh, ↓runP, ↓runO, ↓ph_nx, ↓ph_rt, ↓ph_bk, ↓ph_ct, ↓wpG, ↓wpGs, ↓binK, ↓augK, ↓cmpK, ↓truK, ↓isiK, ↓isjK, ↓bltK, ↓frzK, ↓fpK, ↓foK, ↓fqK, ↓oqK, ↓ftK, ↓fyK, ↓fmK, ↓fm_s, ↓fm_i, ↓frz_pd, ↓frz_ow, ↓frz_un, ↓frz_dk, ↓frz_dt, ↓bi_add, ↓bi_addL, ↓bi_addT, ↓bi_sub, ↓bi_mul, ↓bi_rep, ↓bi_repT, ↓bi_shl, ↓bi_shr, ↓bi_band, ↓bi_bor, ↓bi_mod, ↓bi_fdiv, ↓bi_pow, ↓au_add, ↓au_sub, ↓ci_lt, ↓ci_le, ↓ci_gt, ↓ci_ge, ↓ci_eq, ↓ci_ne, ↓ci_eqB, ↓ci_neB, ↓ci_eqT, ↓ci_eqL, ↓ci_eqN, ↓ci_eqS, ↓ci_neT, ↓ci_neL, ↓ci_neN, ↓ci_neS, ↓ci_is, ↓ci_isn, ↓ci_isB, ↓ci_isnB, ↓ci_inL, ↓ci_inT, ↓ci_ninL, ↓ci_ninT, ↓nn_n, ↓nn_i, ↓nn_b, ↓nn_s, ↓nn_l, ↓nn_t, ↓nn_d, ↓ti_n, ↓ti_b, ↓ti_i, ↓ti_l, ↓ti_t, ↓ii_n, ↓ii_b, ↓ii_i, ↓ii_s, ↓ii_l, ↓ii_t, ↓ii_d, ↓ij_n, ↓ij_b, ↓ij_i, ↓ij_s, ↓ij_l, ↓ij_t, ↓ij_d, ↓bt_lenL, ↓bt_lenT, ↓bt_lenF, ↓bt_max2, ↓bt_maxL, ↓bt_maxT, ↓bt_sumT, ↓bt_min2, ↓bt_minL, ↓bt_minT, ↓bt_abs, ↓bt_sum, ↓bt_any, ↓bt_all, ↓bt_sorted, ↓bt_listL, ↓bt_listT, ↓bt_tupL, ↓bt_tupT, ↓bt_int, ↓bt_intB, ↓bt_str, ↓sub, ↓nrm_pd, ↓nrm_ow, ↓nrm_un, ↓wipeR, ↓rstR, ↓opW, ↓opI_some, ↓owW, ↓ow0, ↓IxD, ↓at0, ↓at1, ↓at2, ↓at3, ↓ix40, ↓ix41, ↓ix42, ↓ix43, ↓intsOf, ↓boolsOf, ↓mthW, ↓seqOf, opI_some, ↓List.map_cons, ↓List.map_nil, List.length_cons, List.length_nil, ↓List.cons_append, ↓List.nil_append, ↓List.getElem?_cons_zero, ↓List.getElem?_cons_succ, ↓List.set_cons_zero, ↓List.set_cons_succ, Nat.reduceSub, Nat.reduceAdd, Nat.reduceLeDiff, ↓List.replicate, true_and, and_true, forall_const, true_implies, false_implies, Bool.not_true, Bool.not_false, implies_true, reduceCtorEq, Option.isSome_some, Int.cast_ofNat_Int, Int.reduceLE, Int.reduceLT, Int.reduceEq, Int.reduceNe, decide_true, decide_false, Bool.and_self, Bool.and_true, Bool.true_and, Bool.and_false, Bool.false_and, Bool.not_not, Bool.or_false, Bool.or_true, Bool.false_or, Bool.true_or, Bool.or_self, Nat.reduceLT, Nat.reduceEqDiff, Option.map_some, Option.map_none, $xs,*])
def pr_enlarged : Prm := { N := ["problem", "boxes", "streams", "own", "gap"], B := ["len"], G := ["MOST_BOXES"], F := [], O := [], M := [] }
def ir_enlarged : IB :=
  (.cons (.asg (.tp [(.nm 2), (.nm 3), (.nm 4)]) (.nm 0))
  (.cons (.iff (.cp .Gt (.bn .Add (.ln 3) (.ln 1)) (.gl "MOST_BOXES"))
  (.cons .dead
  .nil)
  .nil)
  (.cons (.ret (.tu (.cons (.nm 2) (.cons (.bn .Add (.nm 3) (.nm 1)) (.cons (.nm 4) .nil)))))
  .nil)))
def pr_with_boxes : Prm := { N := ["problem", "boxes"], B := [], G := [], F := ["check_problem", "check_boxes", "enlarged"], O := [], M := [] }
def ir_with_boxes : IB :=
  (.cons (.drop (.call "check_problem" (.cons (.nm 0) .nil)))
  (.cons (.drop (.call "check_boxes" (.cons (.nm 1) .nil)))
  (.cons (.ret (.call "enlarged" (.cons (.nm 0) (.cons (.nm 1) .nil))))
  .nil)))
def pr_heating_at : Prm := { N := ["problem", "temperature", "heat"], B := [], G := [], F := ["heating_of", "bodies_of", "enlarged"], O := [], M := [] }
def ir_heating_at : IB :=
  (.cons (.ret (.call "heating_of" (.cons (.call "bodies_of" (.cons (.call "enlarged" (.cons (.nm 0) (.cons (.tu (.cons (.tu (.cons (.nm 1) (.cons (.nm 2) .nil))) .nil)) .nil))) .nil)) .nil)))
  .nil)
def pr_best_place : Prm := { N := ["problem", "heat", "low", "high", "best", "heating", "middle"], B := [], G := ["MOST_BOX_HEAT"], F := ["check_problem", "is_within", "is_temperature", "heating_at"], O := [], M := [] }
def ir_best_place : IB :=
  (.cons (.drop (.call "check_problem" (.cons (.nm 0) .nil)))
  (.cons (.iff (.ro (.nt (.v (.call "is_within" (.cons (.nm 1) (.cons (.ng (.gl "MOST_BOX_HEAT")) (.cons (.gl "MOST_BOX_HEAT") .nil)))))) (.cp .Eq (.nm 1) (.cn (.int 0))))
  (.cons .dead
  .nil)
  .nil)
  (.cons (.iff (.ro (.nt (.v (.call "is_temperature" (.cons (.nm 2) .nil)))) (.ro (.nt (.v (.call "is_temperature" (.cons (.nm 3) .nil)))) (.cp .Gt (.nm 2) (.nm 3))))
  (.cons .dead
  .nil)
  .nil)
  (.cons (.set 4 (.ie (.cp .Gt (.nm 1) (.cn (.int 0))) (.nm 3) (.nm 2)))
  (.cons (.set 5 (.call "heating_at" (.cons (.nm 0) (.cons (.nm 4) (.cons (.nm 1) .nil)))))
  (.cons (.wh (.cp .Lt (.nm 2) (.nm 4))
  (.cons (.set 6 (.bn .FloorDiv (.bn .Add (.nm 2) (.nm 4)) (.cn (.int 2))))
  (.cons (.iff (.cp .Eq (.call "heating_at" (.cons (.nm 0) (.cons (.nm 6) (.cons (.nm 1) .nil)))) (.nm 5))
  (.cons (.set 4 (.nm 6))
  .nil)
  (.cons (.set 2 (.bn .Add (.nm 6) (.cn (.int 1))))
  .nil))
  .nil)))
  (.cons (.ret (.tu (.cons (.nm 4) (.cons (.nm 5) .nil))))
  .nil)))))))

variable {T : Tb} (S : Mng T)
def c_enlarged : Ct := fun ds Q _ => match ds with
  | [.tuple [.tuple s, .tuple b, .int g], .tuple x] => b.length + x.length ≤ 4 ∧ Q (.tuple [.tuple s, .tuple (b ++ x), .int g])
  | _ => False
theorem w_enlarged (g1 : T.gl "MOST_BOXES" = some (.int 4)) : ∀ ds Q, c_enlarged ds Q T.xk → ds.length = 2 ∧ runP S 5 ir_enlarged ds Q := by
  intro ds Q h
  unfold c_enlarged at h
  split at h
  · rename_i s b g x
    obtain ⟨hl, q⟩ := h
    refine ⟨rfl, ?_⟩
    unfold ir_enlarged
    simp_arith [↓g1]
    refine ⟨fun z => ?_, fun _ => ?_⟩
    · simp at z
      omega
    · first | exact q | exact ⟨by omega, q⟩ | exact ⟨by rw [List.length_append]; omega, q⟩
  · exact h.elim
def c_with_boxes : Ct := fun ds Q _ => match ds with
  | [.tuple [.tuple s, .tuple b, .int g], .tuple x] => ∃ (ss : List Tri) (bs xs : List Bx), s = ss.map encT ∧ b = bs.map encB ∧ x = xs.map encB ∧ OkP (ss, bs, g) ∧ bs.length + xs.length ≤ 4 ∧ (∀ b ∈ xs, OkB b) ∧ Q (.tuple [.tuple (ss.map encT), .tuple ((bs ++ xs).map encB), .int g])
  | _ => False
theorem w_with_boxes (h1 : T.fp "check_problem" = c_check_problem) (h2 : T.fp "check_boxes" = c_check_boxes) (h3 : T.fp "enlarged" = c_enlarged) : ∀ ds Q, c_with_boxes ds Q T.xk → ds.length = 2 ∧ runP S 2 ir_with_boxes ds Q := by
  intro ds Q h
  unfold c_with_boxes at h
  split at h
  · rename_i s b g x
    obtain ⟨ss, bs, xs, rfl, rfl, rfl, hp, hl, hx, q⟩ := h
    refine ⟨rfl, ?_⟩
    unfold ir_with_boxes
    simp_arith [↓fpI_of h1, ↓fqI_of h1, ↓ftI_of h1, ↓fyI_of h1, ↓fpI_of h2, ↓fqI_of h2, ↓ftI_of h2, ↓fyI_of h2, ↓fpI_of h3, ↓fqI_of h3, ↓ftI_of h3, ↓fyI_of h3, ↓c_check_problem, ↓c_check_boxes, ↓c_enlarged]
    refine ⟨ss, bs, rfl, rfl, hp, xs, rfl, by omega, hx, by rw [List.length_map, List.length_map]; exact hl, ?_⟩
    rw [← List.map_append]
    exact q
  · exact h.elim
def c_heating_at : Ct := fun ds Q _ => match ds with
  | [.tuple [.tuple s, .tuple b, .int g], .int t, .int h] => ∃ (ss : List Tri) (bs : List Bx), s = ss.map encT ∧ b = bs.map encB ∧ OkP (ss, bs ++ [(t, h)], g) ∧ Q (.int (HB ss bs g h t))
  | _ => False
theorem w_heating_at (h1 : T.fp "heating_of" = c_heating_of) (h2 : T.fp "bodies_of" = c_bodies_of) (h3 : T.fp "enlarged" = c_enlarged) : ∀ ds Q, c_heating_at ds Q T.xk → ds.length = 3 ∧ runP S 3 ir_heating_at ds Q := by
  intro ds Q h
  unfold c_heating_at at h
  split at h
  · rename_i s b g t h
    obtain ⟨ss, bs, rfl, rfl, hp, q⟩ := h
    refine ⟨rfl, ?_⟩
    unfold ir_heating_at
    have hl : (bs ++ [(t, h)]).length ≤ 4 := hp.lb
    simp_arith [↓fpI_of h1, ↓fqI_of h1, ↓ftI_of h1, ↓fyI_of h1, ↓fpI_of h2, ↓fqI_of h2, ↓ftI_of h2, ↓fyI_of h2, ↓fpI_of h3, ↓fqI_of h3, ↓ftI_of h3, ↓fyI_of h3, ↓c_heating_of, ↓c_bodies_of, ↓c_enlarged, ↓encTs]
    rw [List.length_append] at hl
    exact ⟨by have : [(t, h)].length = 1 := rfl; rw [List.length_map]; omega, ss, bs ++ [(t, h)], rfl, by rw [List.map_append]; rfl, hp.ls, hp.lb, _, rfl, (goodB hp).lr, q⟩
  · exact h.elim
def c_best_place : Ct := fun ds Q _ => match ds with
  | [.tuple [.tuple s, .tuple b, .int g], .int h, .int lo, .int hi] => ∃ (ss : List Tri) (bs : List Bx), s = ss.map encT ∧ b = bs.map encB ∧ OkP (ss, bs, g) ∧ bs.length ≤ 3 ∧ -10000 ≤ h ∧ h ≤ 10000 ∧ h ≠ 0 ∧ 0 ≤ lo ∧ lo ≤ hi ∧ hi ≤ 1000 ∧ ∀ t, BestAt (HB ss bs g h) lo hi t → Q (.tuple [.int t, .int (HB ss bs g h t)])
  | _ => False
theorem w_best_place (h1 : T.fp "check_problem" = c_check_problem) (h2 : T.fp "is_within" = c_is_within) (h3 : T.fp "is_temperature" = c_is_temperature) (h4 : T.fp "heating_at" = c_heating_at) (g1 : T.gl "MOST_BOX_HEAT" = some (.int 10000)) : ∀ ds Q, c_best_place ds Q T.xk → ds.length = 4 ∧ runP S 7 ir_best_place ds Q := by
  intro ds Q h
  unfold c_best_place at h
  split at h
  · rename_i s b g h lo hi
    obtain ⟨ss, bs, rfl, rfl, hp, hl, a1, a2, a3, z1, z2, z3, q⟩ := h
    refine ⟨rfl, ?_⟩
    unfold ir_best_place
    have ok : ∀ t : Int, lo ≤ t → t ≤ hi → OkP (ss, bs ++ [(t, h)], g) := fun t h0 h1 => hp.box hl (by omega) (by omega) a1 a2 a3
    have fpos : 0 < h → ∀ t u : Int, lo ≤ t → t ≤ u → u ≤ hi → HB ss bs g h u ≤ HB ss bs g h t := fun hh t u b1 b2 b3 => HB_pos (ok t b1 (by omega)) (ok u (by omega) b3) hh b2
    have fneg : h < 0 → ∀ t u : Int, lo ≤ t → t ≤ u → u ≤ hi → HB ss bs g h t ≤ HB ss bs g h u := fun hh t u b1 b2 b3 => HB_neg (ok t b1 (by omega)) (ok u (by omega) b3) hh b2
    have d1 := decide_eq_true a1
    have d2 := decide_eq_true a2
    have d3 : decide (h = 0) = false := decide_eq_false a3
    have d4 := decide_eq_true z1
    have d5 : decide (lo ≤ 1000) = true := decide_eq_true (by omega)
    have d6 : decide (0 ≤ hi) = true := decide_eq_true (by omega)
    have d7 := decide_eq_true z3
    have d8 : decide (hi < lo) = false := decide_eq_false (by omega)
    have key : ∀ best : Int, (0 < h ∧ best = hi) ∨ (h < 0 ∧ best = lo) → ∀ u, lo ≤ u → u ≤ hi → HB ss bs g h best ≤ HB ss bs g h u := fun best hb u u1 u2 => by
      rcases hb with ⟨hh, rfl⟩ | ⟨hh, rfl⟩
      · exact fpos hh u _ u1 u2 (Int.le_refl _)
      · exact fneg hh _ u (Int.le_refl _) u1 u2
    simp_arith [↓fpI_of h1, ↓fqI_of h1, ↓ftI_of h1, ↓fyI_of h1, ↓fpI_of h2, ↓fqI_of h2, ↓ftI_of h2, ↓fyI_of h2, ↓fpI_of h3, ↓fqI_of h3, ↓ftI_of h3, ↓fyI_of h3, ↓fpI_of h4, ↓fqI_of h4, ↓ftI_of h4, ↓fyI_of h4, ↓g1, ↓c_check_problem, ↓c_is_within, ↓c_is_temperature, ↓c_heating_at, ↓kdS_i, ↓withinD_i, ↓d1, ↓d2, ↓d3, ↓d4, ↓d5, ↓d6, ↓d7, ↓d8]
    refine ⟨ss, bs, rfl, rfl, hp, fun hh => ⟨ss, bs, rfl, rfl, ok hi z2 (Int.le_refl _), ?_⟩, fun hh => ⟨ss, bs, rfl, rfl, ok lo (Int.le_refl _) z2, ?_⟩⟩
    · have hh := of_decide_eq_true hh
      have kb := key hi (.inl ⟨hh, rfl⟩)
      refine S.whi (fun m ρ => ∃ l b M, lo ≤ l ∧ l ≤ b ∧ b ≤ hi ∧ HB ss bs g h b = HB ss bs g h hi ∧ (∀ u, lo ≤ u → u < l → HB ss bs g h hi < HB ss bs g h u) ∧ (0 < h ∨ l = b) ∧ m = (b - l).toNat ∧ ρ = [.pd (.tuple [.tuple (ss.map encT), .tuple (bs.map encB), .int g]), .pd (.int h), .pd (.int l), .pd (.int hi), .pd (.int b), .pd (.int (HB ss bs g h hi)), M]) _ ⟨lo, hi, _, by omega, by omega, by omega, rfl, fun u u1 u2 => by omega, .inl hh, rfl, rfl⟩ ?_
      rintro m ρ Φ' ⟨l, b, M, i1, i2, i3, i4, i5, i6, rfl, rfl⟩ hn hc - -
      simp_arith [↓fpI_of h4, ↓fqI_of h4, ↓ftI_of h4, ↓fyI_of h4, ↓c_heating_at]
      refine ⟨fun lt => ?_, fun lt => ?_⟩
      · have lt := of_decide_eq_true lt
        have hpos : 0 < h := by omega
        have m1 : l ≤ (l + b) / 2 ∧ (l + b) / 2 < b := by omega
        generalize (l + b) / 2 = mid at *
        refine ⟨⟨by decide, by decide⟩, ss, bs, rfl, rfl, ok mid (by omega) (by omega), fun e => hn _ _ ?_ ⟨l, mid, _, by omega, by omega, by omega, of_decide_eq_true e, i5, .inl hpos, rfl, rfl⟩, fun e => hn _ _ ?_ ⟨mid + 1, b, _, by omega, by omega, by omega, i4, fun u u1 u2 => ?_, .inl hpos, rfl, rfl⟩⟩
        · omega
        · omega
        · have e := of_decide_eq_false e
          have a := kb mid (by omega) (by omega)
          have c := fpos hpos u mid u1 (by omega) (by omega)
          omega
      · have lt := of_decide_eq_false lt
        have e : l = b := by omega
        subst e
        have q := q l ⟨i1, i3, fun u u1 u2 => by rw [i4]; exact kb u u1 u2, fun u u1 u2 => by rw [i4]; exact i5 u u1 u2⟩
        rw [i4] at q
        exact q
    · have hh : h < 0 := by have := of_decide_eq_false hh; omega
      have kb := key lo (.inr ⟨hh, rfl⟩)
      refine S.whi (fun m ρ => ∃ l b M, lo ≤ l ∧ l ≤ b ∧ b ≤ hi ∧ HB ss bs g h b = HB ss bs g h lo ∧ (∀ u, lo ≤ u → u < l → HB ss bs g h lo < HB ss bs g h u) ∧ (0 < h ∨ l = b) ∧ m = (b - l).toNat ∧ ρ = [.pd (.tuple [.tuple (ss.map encT), .tuple (bs.map encB), .int g]), .pd (.int h), .pd (.int l), .pd (.int hi), .pd (.int b), .pd (.int (HB ss bs g h lo)), M]) _ ⟨lo, lo, _, by omega, by omega, by omega, rfl, fun u u1 u2 => by omega, .inr rfl, rfl, rfl⟩ ?_
      rintro m ρ Φ' ⟨l, b, M, i1, i2, i3, i4, i5, i6, rfl, rfl⟩ hn hc - -
      simp_arith [↓fpI_of h4, ↓fqI_of h4, ↓ftI_of h4, ↓fyI_of h4, ↓c_heating_at]
      refine ⟨fun lt => ?_, fun lt => ?_⟩
      · have lt := of_decide_eq_true lt
        have hpos : 0 < h := by omega
        have m1 : l ≤ (l + b) / 2 ∧ (l + b) / 2 < b := by omega
        generalize (l + b) / 2 = mid at *
        refine ⟨⟨by decide, by decide⟩, ss, bs, rfl, rfl, ok mid (by omega) (by omega), fun e => hn _ _ ?_ ⟨l, mid, _, by omega, by omega, by omega, of_decide_eq_true e, i5, .inl hpos, rfl, rfl⟩, fun e => hn _ _ ?_ ⟨mid + 1, b, _, by omega, by omega, by omega, i4, fun u u1 u2 => ?_, .inl hpos, rfl, rfl⟩⟩
        · omega
        · omega
        · have e := of_decide_eq_false e
          have a := kb mid (by omega) (by omega)
          have c := fpos hpos u mid u1 (by omega) (by omega)
          omega
      · have lt := of_decide_eq_false lt
        have e : l = b := by omega
        subst e
        have q := q l ⟨i1, i3, fun u u1 u2 => by rw [i4]; exact kb u u1 u2, fun u u1 u2 => by rw [i4]; exact i5 u u1 u2⟩
        rw [i4] at q
        exact q
  · exact h.elim
end My

set_option Elab.async false
set_option autoImplicit false
set_option linter.all false
set_option maxRecDepth 100000
set_option maxHeartbeats 1000000
namespace My
open PySem DW
local macro_rules | `(tactic| simp_arith [$xs,*]) => `(tactic| simp only [↓Mng.E_nm, ↓Mng.E_gl, ↓Mng.E_cn, ↓Mng.E_ng, ↓Mng.E_nt, ↓Mng.E_bn, ↓Mng.E_cp, ↓Mng.E_ch, ↓Mng.E_an, ↓Mng.E_ro, ↓Mng.E_ie, ↓Mng.E_tu, ↓Mng.E_li, ↓Mng.E_ix, ↓Mng.E_ixo, ↓Mng.E_s2, ↓Mng.E_sL, ↓Mng.E_sH, ↓Mng.E_rv, ↓Mng.E_d0, ↓Mng.E_fs, ↓Mng.E_bi, ↓Mng.E_ln, ↓Mng.E_isi, ↓Mng.E_isj, ↓Mng.E_call, ↓Mng.E_calo, ↓Mng.E_calq, ↓Mng.E_caloq, ↓Mng.E_told, ↓Mng.E_lc, ↓Mng.E_ss, ↓Mng.E_mxd, ↓Mng.E_c4, ↓Mng.E_ma, ↓Mng.E_lc2, ↓Mng.A_nil, ↓Mng.A_cons, ↓Mng.J_nil, ↓Mng.J_cons, ↓Mng.T_cp, ↓Mng.T_ch, ↓Mng.T_nt, ↓Mng.T_an, ↓Mng.T_ro, ↓Mng.T_v, ↓Mng.T_vl, ↓Mng.T_c4, ↓Mng.F_nil, ↓Mng.F_one, ↓Mng.I_e, ↓Mng.I_r1, ↓Mng.I_r2, ↓Mng.I_en, ↓Mng.I_zp, ↓Mng.I_z3, ↓Mng.ex_nil0, ↓Mng.ex_nil1, ↓Mng.ex_set, ↓Mng.ex_asg, ↓Mng.ex_par, ↓Mng.ex_par3, ↓Mng.ex_app, ↓Mng.ex_sti, ↓Mng.ex_sti2, ↓Mng.ex_augs, ↓Mng.ex_aug, ↓Mng.ex_iff, ↓Mng.ex_ret, ↓Mng.ex_retN, ↓Mng.ex_pass, ↓Mng.ex_brk, ↓Mng.ex_cnt, ↓Mng.ex_drop, ↓Mng.ex_rai, ↓Mng.ex_raif, ↓Mng.ex_dead, ↓Mng.ex_tryq, ↓Mng.ex_fo, ↓Mng.ex_wh, ↓runP, ↓runO, ↓ph_nx, ↓ph_rt, ↓ph_bk, ↓ph_ct, ↓wpG, ↓wpGs, ↓binK, ↓augK, ↓cmpK, ↓truK, ↓isiK, ↓isjK, ↓bltK, ↓frzK, ↓fpK, ↓foK, ↓fqK, ↓oqK, ↓ftK, ↓fyK, ↓fmK, ↓fm_s, ↓fm_i, ↓frz_pd, ↓frz_ow, ↓frz_un, ↓frz_dk, ↓frz_dt, ↓bi_add, ↓bi_addL, ↓bi_addT, ↓bi_sub, ↓bi_mul, ↓bi_rep, ↓bi_repT, ↓bi_shl, ↓bi_shr, ↓bi_band, ↓bi_bor, ↓bi_mod, ↓bi_fdiv, ↓bi_pow, ↓au_add, ↓au_sub, ↓ci_lt, ↓ci_le, ↓ci_gt, ↓ci_ge, ↓ci_eq, ↓ci_ne, ↓ci_eqB, ↓ci_neB, ↓ci_eqT, ↓ci_eqL, ↓ci_eqN, ↓ci_eqS, ↓ci_neT, ↓ci_neL, ↓ci_neN, ↓ci_neS, ↓ci_is, ↓ci_isn, ↓ci_isB, ↓ci_isnB, ↓ci_inL, ↓ci_inT, ↓ci_ninL, ↓ci_ninT, ↓nn_n, ↓nn_i, ↓nn_b, ↓nn_s, ↓nn_l, ↓nn_t, ↓nn_d, ↓ti_n, ↓ti_b, ↓ti_i, ↓ti_l, ↓ti_t, ↓ii_n, ↓ii_b, ↓ii_i, ↓ii_s, ↓ii_l, ↓ii_t, ↓ii_d, ↓ij_n, ↓ij_b, ↓ij_i, ↓ij_s, ↓ij_l, ↓ij_t, ↓ij_d, ↓bt_lenL, ↓bt_lenT, ↓bt_lenF, ↓bt_max2, ↓bt_maxL, ↓bt_maxT, ↓bt_sumT, ↓bt_min2, ↓bt_minL, ↓bt_minT, ↓bt_abs, ↓bt_sum, ↓bt_any, ↓bt_all, ↓bt_sorted, ↓bt_listL, ↓bt_listT, ↓bt_tupL, ↓bt_tupT, ↓bt_int, ↓bt_intB, ↓bt_str, ↓sub, ↓nrm_pd, ↓nrm_ow, ↓nrm_un, ↓wipeR, ↓rstR, ↓opW, ↓opI_some, ↓owW, ↓ow0, ↓IxD, ↓at0, ↓at1, ↓at2, ↓at3, ↓ix40, ↓ix41, ↓ix42, ↓ix43, ↓intsOf, ↓boolsOf, ↓mthW, ↓seqOf, opI_some, ↓List.map_cons, ↓List.map_nil, List.length_cons, List.length_nil, ↓List.cons_append, ↓List.nil_append, ↓List.getElem?_cons_zero, ↓List.getElem?_cons_succ, ↓List.set_cons_zero, ↓List.set_cons_succ, Nat.reduceSub, Nat.reduceAdd, Nat.reduceLeDiff, ↓List.replicate, true_and, and_true, forall_const, true_implies, false_implies, Bool.not_true, Bool.not_false, implies_true, reduceCtorEq, Option.isSome_some, Int.cast_ofNat_Int, Int.reduceLE, Int.reduceLT, Int.reduceEq, Int.reduceNe, decide_true, decide_false, Bool.and_self, Bool.and_true, Bool.true_and, Bool.and_false, Bool.false_and, Bool.not_not, Bool.or_false, Bool.or_true, Bool.false_or, Bool.true_or, Bool.or_self, Nat.reduceLT, Nat.reduceEqDiff, Option.map_some, Option.map_none, $xs,*])
def pr_line_of : Prm := { N := ["problem", "gives", "streams", "boxes", "_", "bodies", "temperatures", "corners", "heat", "at", "temperature", "held", "body"], B := ["enumerate", "abs", "sum", "tuple"], G := [], F := ["bodies_of", "levels_of", "heat_between", "heat_at"], O := [], M := [] }
def ir_line_of : IB :=
  (.cons (.asg (.tp [(.nm 2), (.nm 3), (.nm 4)]) (.nm 0))
  (.cons (.set 5 (.lc (.nm 12) (.nm 12) (.e (.call "bodies_of" (.cons (.tu (.cons (.nm 2) (.cons (.nm 3) (.cons (.cn (.int 0)) .nil)))) .nil))) (.one (.cp .Eq (.cp .Gt (.ixo 12 (.cn (.int 2))) (.cn (.int 0))) (.nm 1))) [12]))
  (.cons (.set 6 (.rv (.call "levels_of" (.cons (.nm 5) .nil))))
  (.cons (.set 7 (.li .nil))
  (.cons (.set 8 (.cn (.int 0)))
  (.cons (.fo (.tp [(.nm 9), (.nm 10)]) (.en (.nm 6))
  (.cons (.iff (.cp .Gt (.nm 9) (.cn (.int 0)))
  (.cons (.aug 8 .Add (.bi .abs (.cons (.bi .sum (.cons (.lc (.calq "heat_between" (.cons (.nm 12) (.cons (.nm 10) (.cons (.ixo 6 (.bn .Sub (.nm 9) (.cn (.int 1)))) .nil)))) (.nm 12) (.e (.nm 5)) .nil [12]) .nil)) .nil)))
  .nil)
  .nil)
  (.cons (.app 7 (.tu (.cons (.nm 8) (.cons (.nm 10) .nil))))
  (.cons (.set 11 (.bi .abs (.cons (.bi .sum (.cons (.lc (.calq "heat_at" (.cons (.nm 12) (.cons (.nm 10) .nil))) (.nm 12) (.e (.nm 5)) .nil [12]) .nil)) .nil)))
  (.cons (.iff (.cp .Gt (.nm 11) (.cn (.int 0)))
  (.cons (.aug 8 .Add (.nm 11))
  (.cons (.app 7 (.tu (.cons (.nm 8) (.cons (.nm 10) .nil))))
  .nil))
  .nil)
  .nil)))))
  (.cons (.ret (.bi .tuple (.cons (.nm 7) .nil)))
  .nil)))))))
def pr_curve : Prm := { N := ["problem", "gives"], B := [], G := [], F := ["check_problem", "check_flag", "line_of"], O := [], M := [] }
def ir_curve : IB :=
  (.cons (.drop (.call "check_problem" (.cons (.nm 0) .nil)))
  (.cons (.drop (.call "check_flag" (.cons (.nm 1) .nil)))
  (.cons (.ret (.call "line_of" (.cons (.nm 0) (.cons (.nm 1) .nil))))
  .nil)))

variable {T : Tb} (S : Mng T)
def absI (s : Int) : Int := if s < 0 then -s else s
def gainOf (B : List Tri) (p t : Int) : Int := absI (B.map fun b => above b p true - above b t false).sum
def heldOf (B : List Tri) (t : Int) : Int := absI (B.map fun b => above b t false - above b t true).sum
/-- one place more on a line: the place before, the heat, the corners -/
def hNext (gain : Int → Int → Int) (s : Option Int × Int × List Bx) (t : Int) : Int := match s.1 with
  | none => s.2.1
  | some p => s.2.1 + gain p t
def lstep (gain : Int → Int → Int) (held : Int → Int) (s : Option Int × Int × List Bx) (t : Int) : Option Int × Int × List Bx :=
  (some t, if 0 < held t then hNext gain s t + held t else hNext gain s t, s.2.2 ++ if 0 < held t then [(hNext gain s t, t), (hNext gain s t + held t, t)] else [(hNext gain s t, t)])
def lwalk (gain : Int → Int → Int) (held : Int → Int) (ts : List Int) : Option Int × Int × List Bx := ts.foldl (lstep gain held) (none, 0, [])
theorem lwalk_snoc (gain : Int → Int → Int) (held : Int → Int) (ts : List Int) (t : Int) : lwalk gain held (ts ++ [t]) = lstep gain held (lwalk gain held ts) t := by simp [lwalk]
theorem lstep_1 (gain : Int → Int → Int) (held : Int → Int) (s : Option Int × Int × List Bx) (t : Int) : (lstep gain held s t).1 = some t := by
  rfl
theorem lwalk_1 (gain : Int → Int → Int) (held : Int → Int) (ts : List Int) : (lwalk gain held ts).1 = ts.getLast? := by
  rcases List.eq_nil_or_concat ts with rfl | ⟨r, t, rfl⟩
  · rfl
  · rw [List.concat_eq_append, lwalk_snoc, lstep_1]
    simp
theorem lwalk_len (gain : Int → Int → Int) (held : Int → Int) (ts : List Int) : (lwalk gain held ts).2.2.length ≤ 2 * ts.length := by
  suffices h : ∀ (l : List Int) (s : Option Int × Int × List Bx), (l.foldl (lstep gain held) s).2.2.length ≤ s.2.2.length + 2 * l.length from by simpa [lwalk] using h ts (none, 0, [])
  intro l
  induction l with
  | nil => intro s; simp
  | cons a r ih =>
    intro s
    have h := ih (lstep gain held s a)
    have h2 : (lstep gain held s a).2.2.length ≤ s.2.2.length + 2 := by
      unfold lstep
      simp only [List.length_append]
      split <;> simp
    simp only [List.foldl_cons, List.length_cons]
    omega
def sideB (gives : Bool) (B : List Tri) : List Tri := B.filter fun b => decide (0 < b.2.2) == gives
def lineB (p : List Tri × List Bx) (gives : Bool) : List Tri := sideB gives (bodies (p.1, p.2, 0))
def tempsOf (B : List Tri) : List Int := ssort (ends2 B)
def lineOf (B : List Tri) : List Bx := (lwalk (gainOf B) (heldOf B) (tempsOf B)).2.2
def encC (c : Bx) : D := .tuple [.int c.1, .int c.2]
def c_check_flag : Ct := fun ds Q _ => match ds with
  | [.bool _] => Q .none
  | _ => False
theorem w_check_flag : ∀ ds Q, c_check_flag ds Q T.xk → ds.length = 1 ∧ runP S 1 ir_check_flag ds Q := by
  intro ds Q h
  unfold c_check_flag at h
  split at h
  · refine ⟨rfl, ?_⟩
    unfold ir_check_flag
    simp_arith [true_and]
    simpa using h
  · exact h.elim
def c_heat_at : Ct := fun ds Q _ => match ds with
  | [.tuple [.int a, .int b, .int c], .int lv] => -10000 ≤ c ∧ c ≤ 10000 ∧ Q (.int (above (a, b, c) lv false - above (a, b, c) lv true))
  | _ => False
theorem w_heat_at (h1 : T.fp "heat_above" = c_heat_above) : ∀ ds Q, c_heat_at ds Q T.xk → ds.length = 2 ∧ runP S 2 ir_heat_at ds Q := by
  intro ds Q h
  unfold c_heat_at at h
  split at h
  · refine ⟨rfl, ?_⟩
    unfold ir_heat_at
    simp_arith [↓fpI_of h1, ↓fqI_of h1, ↓ftI_of h1, ↓fyI_of h1, ↓c_heat_above]
    exact ⟨h.1, h.2.1, h.1, h.2.1, h.2.2⟩
  · exact h.elim
def c_heat_between : Ct := fun ds Q _ => match ds with
  | [.tuple [.int a, .int b, .int c], .int up, .int lo] => -10000 ≤ c ∧ c ≤ 10000 ∧ Q (.int (above (a, b, c) lo true - above (a, b, c) up false))
  | _ => False
theorem w_heat_between (h1 : T.fp "heat_above" = c_heat_above) : ∀ ds Q, c_heat_between ds Q T.xk → ds.length = 3 ∧ runP S 3 ir_heat_between ds Q := by
  intro ds Q h
  unfold c_heat_between at h
  split at h
  · refine ⟨rfl, ?_⟩
    unfold ir_heat_between
    simp_arith [↓fpI_of h1, ↓fqI_of h1, ↓ftI_of h1, ↓fyI_of h1, ↓c_heat_above]
    exact ⟨h.1, h.2.1, h.1, h.2.1, h.2.2⟩
  · exact h.elim
theorem fm_filter (p : Tri → Bool) (enc : Tri → D) : ∀ l : List Tri, l.filterMap (fun b => if p b = true then some (enc b) else none) = (l.filter p).map enc
  | [] => rfl
  | a :: r => by
    by_cases h : p a = true
    · simp [h, fm_filter p enc r]
    · simp [h, fm_filter p enc r]
theorem idx_snd {l : List Int} : (l.mapIdx fun i x => ((i : Int), x)).map (·.2) = l := by
  apply List.ext_getElem?
  intro i
  simp only [List.getElem?_map, List.getElem?_mapIdx, Option.map_map]
  cases l[i]? <;> rfl
theorem idx_split {l : List Int} {pre post : List (Int × Int)} {i t : Int} (h : (l.mapIdx fun i x => ((i : Int), x)) = pre ++ (i, t) :: post) : i = (pre.length : Int) ∧ l = pre.map (·.2) ++ t :: post.map (·.2) := by
  constructor
  · have z := congrArg (fun q => q[pre.length]?) h
    simp only [List.getElem?_mapIdx, List.getElem?_append_right (Nat.le_refl _), Nat.sub_self, List.getElem?_cons_zero] at z
    cases hq : l[pre.length]? with
    | none => rw [hq] at z; cases z
    | some x => rw [hq] at z; cases z; rfl
  · have z := congrArg (fun q => q.map (·.2)) h
    simp only [idx_snd, List.map_append, List.map_cons] at z
    exact z
theorem idx_last {l pre post : List Int} {t : Int} (h : l = pre ++ t :: post) (h0 : 0 < pre.length) : ∃ p, pre.getLast? = some p ∧ L2.atI (l.map PyData.int) ((pre.length : Int) - 1) = some (.int p) := by
  have hlt : pre.length - 1 < pre.length := by omega
  refine ⟨pre[pre.length - 1], by rw [List.getLast?_eq_getElem?, List.getElem?_eq_getElem hlt], atI_at (by omega) ?_⟩
  rw [show ((pre.length : Int) - 1).toNat = pre.length - 1 by omega, List.getElem?_map, h, List.getElem?_append_left hlt, List.getElem?_eq_getElem hlt]
  rfl
def c_line_of : Ct := fun ds Q _ => match ds with
  | [.tuple [.tuple s, .tuple b, .int g], .bool o] => ∃ (ss : List Tri) (bs : List Bx), s = ss.map encT ∧ b = bs.map encB ∧ OkP (ss, bs, g) ∧ Q (.tuple ((lineOf (lineB (ss, bs) o)).map encC))
  | _ => False
theorem w_line_of (h1 : T.fp "bodies_of" = c_bodies_of) (h2 : T.fp "levels_of" = c_levels_of) (h3 : T.fp "heat_between" = c_heat_between) (h4 : T.fp "heat_at" = c_heat_at) : ∀ ds Q, c_line_of ds Q T.xk → ds.length = 2 ∧ runP S 13 ir_line_of ds Q := by
  intro ds Q h
  unfold c_line_of at h
  split at h
  · rename_i s b g o
    obtain ⟨ss, bs, rfl, rfl, hp, q⟩ := h
    refine ⟨rfl, ?_⟩
    unfold ir_line_of
    simp_arith [↓fpI_of h1, ↓fqI_of h1, ↓ftI_of h1, ↓fyI_of h1, ↓fpI_of h2, ↓fqI_of h2, ↓ftI_of h2, ↓fyI_of h2, ↓fpI_of h3, ↓fqI_of h3, ↓ftI_of h3, ↓fyI_of h3, ↓fpI_of h4, ↓fqI_of h4, ↓ftI_of h4, ↓fyI_of h4, ↓c_bodies_of, ↓encTs]
    have hlen0 : (bodies (ss, bs, 0)).length ≤ 31 := (hp.gap (k := 0) (by decide) (by decide)).len
    have hfm : (bodies (ss, bs, 0)).filterMap (fun b => if (decide (0 < b.2.2) == o) = true then some (encT b) else none) = (lineB (ss, bs) o).map encT := fm_filter _ _ _
    refine ⟨ss, bs, rfl, rfl, hp.ls, hp.lb, by rw [List.length_map]; omega, S.lci (fun b : Tri => if (decide (0 < b.2.2) == o) = true then some (encT b) else none) ?_ ?_⟩
    · rintro ⟨a, b, c⟩ hx K hK
      simp_arith [↓encT]
      refine ⟨fun e => ?_, fun e => ?_⟩
      · have e := of_decide_eq_true e
        have z : (decide (0 < (a, b, c).2.2) == o) = true := by simpa using e
        rw [if_pos z] at hK
        exact hK
      · have e := of_decide_eq_false e
        have z : ¬ (decide (0 < (a, b, c).2.2) == o) = true := by simpa using e
        rw [if_neg z] at hK
        exact hK
    rw [hfm]
    have hlB : (lineB (ss, bs) o).length ≤ 31 := Nat.le_trans (List.length_filter_le _ _) hlen0
    have hrB : ∀ b ∈ lineB (ss, bs) o, -10000 ≤ b.2.2 ∧ b.2.2 ≤ 10000 := fun b hb => bodies_rate (hp.gap (k := 0) (by decide) (by decide)) ((List.mem_filter.mp hb).1)
    change Q (.tuple ((lineOf (lineB (ss, bs) o)).map encC)) at q
    generalize lineB (ss, bs) o = B at *
    simp_arith [↓fpI_of h1, ↓fqI_of h1, ↓ftI_of h1, ↓fyI_of h1, ↓fpI_of h2, ↓fqI_of h2, ↓ftI_of h2, ↓fyI_of h2, ↓fpI_of h3, ↓fqI_of h3, ↓ftI_of h3, ↓fyI_of h3, ↓fpI_of h4, ↓fqI_of h4, ↓ftI_of h4, ↓fyI_of h4, ↓c_levels_of, ↓encTs]
    have hlev : ((levelsOf B).map PyData.int).reverse = (tempsOf B).map .int := by
      rw [← List.map_reverse]
      unfold levelsOf tempsOf
      rw [List.reverse_reverse]
    have htl : (tempsOf B).length ≤ 62 := by
      have z := ssort_len (ends2 B)
      have z2 := ends2_len B
      unfold tempsOf
      omega
    refine ⟨B, rfl, .inl hlB, ?_⟩
    rw [hlev, enD_map]
    refine S.loop (fun pre ρ => ∃ L H a b c, L = (lwalk (gainOf B) (heldOf B) (pre.map (·.2))).2.2.map encC ∧ H = (lwalk (gainOf B) (heldOf B) (pre.map (·.2))).2.1 ∧ ρ = [.pd (.tuple [.tuple (ss.map encT), .tuple (bs.map encB), .int g]), .pd (.bool o), .pd (.tuple (ss.map encT)), .pd (.tuple (bs.map encB)), .pd (.int g), .pd (.list (B.map encT)), .pd (.list ((tempsOf B).map .int)), .ow none (.lst L), .pd (.int H), a, b, c, .un]) ⟨_, _, _, _, _, rfl, rfl, rfl⟩ ?_ ?_
    · rintro pre ⟨i, t⟩ post ρ Φ' hl ⟨L, H, _, _, _, hL, hH, rfl⟩ hn hc - -
      obtain ⟨hi, htm⟩ := idx_split hl
      have hpl : pre.length < (tempsOf B).length := by
        have := congrArg List.length hl
        simp at this
        omega
      have hw := lwalk_len (gainOf B) (heldOf B) (pre.map (·.2))
      rw [List.length_map] at hw
      have hL2 : L.length ≤ 130 := by rw [hL, List.length_map]; omega
      have hB1 : (B.map encT).length ≤ 100000 := by rw [List.length_map]; omega
      have hg1 := lwalk_1 (gainOf B) (heldOf B) (pre.map (·.2))
      have hsn : lwalk (gainOf B) (heldOf B) ((pre ++ [(i, t)]).map (·.2)) = lstep (gainOf B) (heldOf B) (lwalk (gainOf B) (heldOf B) (pre.map (·.2))) t := by rw [List.map_append]; exact lwalk_snoc _ _ _ _
      simp only [hsn] at hn hc
      generalize lwalk (gainOf B) (heldOf B) (pre.map (·.2)) = st at *
      obtain ⟨lp, hh, cs⟩ := st
      simp only at hg1 hL hH hw
      subst hH
      simp_arith [↓fpI_of h3, ↓fqI_of h3, ↓ftI_of h3, ↓fyI_of h3, ↓fpI_of h4, ↓fqI_of h4, ↓ftI_of h4, ↓fyI_of h4]
      refine ⟨fun ig => ?_, fun ig => ?_⟩
      · have ig := of_decide_eq_true ig
        obtain ⟨p, e1, e2⟩ := idx_last htm (by rw [List.length_map]; omega)
        rw [hg1] at hn hc
        rw [e1] at hn hc
        rw [List.length_map, ← hi] at e2
        refine ⟨hB1, S.lcm (fun b : Tri => .int (above b p true - above b t false)) ?_ ?_⟩
        · rintro ⟨a, b, c⟩ hx K hK
          simp_arith [↓encT, ↓fpI_of h3, ↓fqI_of h3, ↓ftI_of h3, ↓fyI_of h3, ↓c_heat_between, ↓e2]
          exact ⟨(hrB _ hx).1, (hrB _ hx).2, hK⟩
        simp_arith [↓fpI_of h4, ↓fqI_of h4, ↓ftI_of h4, ↓fyI_of h4]
        rw [intsOf_mapf]
        simp_arith [↓fpI_of h4, ↓fqI_of h4, ↓ftI_of h4, ↓fyI_of h4]
        have hy : (if (B.map fun b => above b p true - above b t false).sum < 0 then -(B.map fun b => above b p true - above b t false).sum else (B.map fun b => above b p true - above b t false).sum) = gainOf B p t := rfl
        rw [hy]
        refine ⟨by omega, hB1, S.lcm (fun b : Tri => .int (above b t false - above b t true)) ?_ ?_⟩
        · rintro ⟨a, b, c⟩ hx K hK
          simp_arith [↓encT, ↓fpI_of h4, ↓fqI_of h4, ↓ftI_of h4, ↓fyI_of h4, ↓c_heat_at]
          exact ⟨(hrB _ hx).1, (hrB _ hx).2, hK⟩
        simp_arith [true_and]
        rw [intsOf_mapf]
        simp_arith [true_and]
        have hz : (if (B.map fun b => above b t false - above b t true).sum < 0 then -(B.map fun b => above b t false - above b t true).sum else (B.map fun b => above b t false - above b t true).sum) = heldOf B t := rfl
        rw [hz]
        refine ⟨fun e => ⟨by simp; omega, hn _ ⟨_, _, _, _, _, ?_, ?_, rfl⟩⟩, fun e => hn _ ⟨_, _, _, _, _, ?_, ?_, rfl⟩⟩
        · have e := of_decide_eq_true e
          simp [lstep, hNext, e, hL, encC]
        · have e := of_decide_eq_true e
          simp [lstep, hNext, e]
        · have e := of_decide_eq_false e
          simp [lstep, hNext, e, hL, encC]
        · have e := of_decide_eq_false e
          simp [lstep, hNext, e]
      · have ig := of_decide_eq_false ig
        have e1 : lp = none := by
          have z : pre = [] := List.length_eq_zero_iff.mp (by omega)
          rw [hg1, z]
          rfl
        rw [e1] at hn hc
        refine ⟨by omega, hB1, S.lcm (fun b : Tri => .int (above b t false - above b t true)) ?_ ?_⟩
        · rintro ⟨a, b, c⟩ hx K hK
          simp_arith [↓encT, ↓fpI_of h4, ↓fqI_of h4, ↓ftI_of h4, ↓fyI_of h4, ↓c_heat_at]
          exact ⟨(hrB _ hx).1, (hrB _ hx).2, hK⟩
        simp_arith [true_and]
        rw [intsOf_mapf]
        simp_arith [true_and]
        have hz : (if (B.map fun b => above b t false - above b t true).sum < 0 then -(B.map fun b => above b t false - above b t true).sum else (B.map fun b => above b t false - above b t true).sum) = heldOf B t := rfl
        rw [hz]
        refine ⟨fun e => ⟨by simp; omega, hn _ ⟨_, _, _, _, _, ?_, ?_, rfl⟩⟩, fun e => hn _ ⟨_, _, _, _, _, ?_, ?_, rfl⟩⟩
        · have e := of_decide_eq_true e
          simp [lstep, hNext, e, hL, encC]
        · have e := of_decide_eq_true e
          simp [lstep, hNext, e]
        · have e := of_decide_eq_false e
          simp [lstep, hNext, e, hL, encC]
        · have e := of_decide_eq_false e
          simp [lstep, hNext, e]
    · rintro ρ ⟨L, H, _, _, _, hL, hH, rfl⟩
      simp_arith [true_and]
      rw [hL]
      have e : ((tempsOf B).mapIdx fun i x => ((i : Int), x)).map (·.2) = tempsOf B := idx_snd
      rw [e]
      exact q
  · exact h.elim
def c_curve : Ct := fun ds Q _ => match ds with
  | [.tuple [.tuple s, .tuple b, .int g], .bool o] => ∃ (ss : List Tri) (bs : List Bx), s = ss.map encT ∧ b = bs.map encB ∧ OkP (ss, bs, g) ∧ Q (.tuple ((lineOf (lineB (ss, bs) o)).map encC))
  | _ => False
theorem w_curve (h1 : T.fp "check_problem" = c_check_problem) (h2 : T.fp "check_flag" = c_check_flag) (h3 : T.fp "line_of" = c_line_of) : ∀ ds Q, c_curve ds Q T.xk → ds.length = 2 ∧ runP S 2 ir_curve ds Q := by
  intro ds Q h
  unfold c_curve at h
  split at h
  · obtain ⟨ss, bs, rfl, rfl, hp, q⟩ := h
    refine ⟨rfl, ?_⟩
    unfold ir_curve
    simp_arith [↓fpI_of h1, ↓fqI_of h1, ↓ftI_of h1, ↓fyI_of h1, ↓fpI_of h2, ↓fqI_of h2, ↓ftI_of h2, ↓fyI_of h2, ↓fpI_of h3, ↓fqI_of h3, ↓ftI_of h3, ↓fyI_of h3, ↓c_check_problem, ↓c_check_flag, ↓c_line_of]
    exact ⟨ss, bs, rfl, rfl, hp, ss, bs, rfl, rfl, hp, q⟩
  · exact h.elim
end My

set_option Elab.async false
set_option autoImplicit false
set_option linter.all false
set_option maxRecDepth 100000
set_option maxHeartbeats 1000000
namespace My
open PySem DW
local macro_rules | `(tactic| simp_arith [$xs,*]) => `(tactic| simp only [↓Mng.E_nm, ↓Mng.E_gl, ↓Mng.E_cn, ↓Mng.E_ng, ↓Mng.E_nt, ↓Mng.E_bn, ↓Mng.E_cp, ↓Mng.E_ch, ↓Mng.E_an, ↓Mng.E_ro, ↓Mng.E_ie, ↓Mng.E_tu, ↓Mng.E_li, ↓Mng.E_ix, ↓Mng.E_ixo, ↓Mng.E_s2, ↓Mng.E_sL, ↓Mng.E_sH, ↓Mng.E_rv, ↓Mng.E_d0, ↓Mng.E_fs, ↓Mng.E_bi, ↓Mng.E_ln, ↓Mng.E_isi, ↓Mng.E_isj, ↓Mng.E_call, ↓Mng.E_calo, ↓Mng.E_calq, ↓Mng.E_caloq, ↓Mng.E_told, ↓Mng.E_lc, ↓Mng.E_ss, ↓Mng.E_mxd, ↓Mng.E_c4, ↓Mng.E_ma, ↓Mng.E_lc2, ↓Mng.A_nil, ↓Mng.A_cons, ↓Mng.J_nil, ↓Mng.J_cons, ↓Mng.T_cp, ↓Mng.T_ch, ↓Mng.T_nt, ↓Mng.T_an, ↓Mng.T_ro, ↓Mng.T_v, ↓Mng.T_vl, ↓Mng.T_c4, ↓Mng.F_nil, ↓Mng.F_one, ↓Mng.I_e, ↓Mng.I_r1, ↓Mng.I_r2, ↓Mng.I_en, ↓Mng.I_zp, ↓Mng.I_z3, ↓Mng.ex_nil0, ↓Mng.ex_nil1, ↓Mng.ex_set, ↓Mng.ex_asg, ↓Mng.ex_par, ↓Mng.ex_par3, ↓Mng.ex_app, ↓Mng.ex_sti, ↓Mng.ex_sti2, ↓Mng.ex_augs, ↓Mng.ex_aug, ↓Mng.ex_iff, ↓Mng.ex_ret, ↓Mng.ex_retN, ↓Mng.ex_pass, ↓Mng.ex_brk, ↓Mng.ex_cnt, ↓Mng.ex_drop, ↓Mng.ex_rai, ↓Mng.ex_raif, ↓Mng.ex_dead, ↓Mng.ex_tryq, ↓Mng.ex_fo, ↓Mng.ex_wh, ↓runP, ↓runO, ↓ph_nx, ↓ph_rt, ↓ph_bk, ↓ph_ct, ↓wpG, ↓wpGs, ↓binK, ↓augK, ↓cmpK, ↓truK, ↓isiK, ↓isjK, ↓bltK, ↓frzK, ↓fpK, ↓foK, ↓fqK, ↓oqK, ↓ftK, ↓fyK, ↓fmK, ↓fm_s, ↓fm_i, ↓frz_pd, ↓frz_ow, ↓frz_un, ↓frz_dk, ↓frz_dt, ↓bi_add, ↓bi_addL, ↓bi_addT, ↓bi_sub, ↓bi_mul, ↓bi_rep, ↓bi_repT, ↓bi_shl, ↓bi_shr, ↓bi_band, ↓bi_bor, ↓bi_mod, ↓bi_fdiv, ↓bi_pow, ↓au_add, ↓au_sub, ↓ci_lt, ↓ci_le, ↓ci_gt, ↓ci_ge, ↓ci_eq, ↓ci_ne, ↓ci_eqB, ↓ci_neB, ↓ci_eqT, ↓ci_eqL, ↓ci_eqN, ↓ci_eqS, ↓ci_neT, ↓ci_neL, ↓ci_neN, ↓ci_neS, ↓ci_is, ↓ci_isn, ↓ci_isB, ↓ci_isnB, ↓ci_inL, ↓ci_inT, ↓ci_ninL, ↓ci_ninT, ↓nn_n, ↓nn_i, ↓nn_b, ↓nn_s, ↓nn_l, ↓nn_t, ↓nn_d, ↓ti_n, ↓ti_b, ↓ti_i, ↓ti_l, ↓ti_t, ↓ii_n, ↓ii_b, ↓ii_i, ↓ii_s, ↓ii_l, ↓ii_t, ↓ii_d, ↓ij_n, ↓ij_b, ↓ij_i, ↓ij_s, ↓ij_l, ↓ij_t, ↓ij_d, ↓bt_lenL, ↓bt_lenT, ↓bt_lenF, ↓bt_max2, ↓bt_maxL, ↓bt_maxT, ↓bt_sumT, ↓bt_min2, ↓bt_minL, ↓bt_minT, ↓bt_abs, ↓bt_sum, ↓bt_any, ↓bt_all, ↓bt_sorted, ↓bt_listL, ↓bt_listT, ↓bt_tupL, ↓bt_tupT, ↓bt_int, ↓bt_intB, ↓bt_str, ↓sub, ↓nrm_pd, ↓nrm_ow, ↓nrm_un, ↓wipeR, ↓rstR, ↓opW, ↓opI_some, ↓owW, ↓ow0, ↓IxD, ↓at0, ↓at1, ↓at2, ↓at3, ↓ix40, ↓ix41, ↓ix42, ↓ix43, ↓intsOf, ↓boolsOf, ↓mthW, ↓seqOf, opI_some, ↓List.map_cons, ↓List.map_nil, List.length_cons, List.length_nil, ↓List.cons_append, ↓List.nil_append, ↓List.getElem?_cons_zero, ↓List.getElem?_cons_succ, ↓List.set_cons_zero, ↓List.set_cons_succ, Nat.reduceSub, Nat.reduceAdd, Nat.reduceLeDiff, ↓List.replicate, true_and, and_true, forall_const, true_implies, false_implies, Bool.not_true, Bool.not_false, implies_true, reduceCtorEq, Option.isSome_some, Int.cast_ofNat_Int, Int.reduceLE, Int.reduceLT, Int.reduceEq, Int.reduceNe, decide_true, decide_false, Bool.and_self, Bool.and_true, Bool.true_and, Bool.and_false, Bool.false_and, Bool.not_not, Bool.or_false, Bool.or_true, Bool.false_or, Bool.true_or, Bool.or_self, Nat.reduceLT, Nat.reduceEqDiff, Option.map_some, Option.map_none, $xs,*])

variable {T : Tb} (S : Mng T)
def c_cascade : Ct := fun ds Q _ => match ds with
  | [.tuple [.tuple s, .tuple b, .int g]] => ∃ (ss : List Tri) (bs : List Bx), s = ss.map encT ∧ b = bs.map encB ∧ OkP (ss, bs, g) ∧ Q (.tuple ((levelsOf (bodies (ss, bs, g))).map fun lv => encT (rowAt (bodies (ss, bs, g)) (heatingOf (bodies (ss, bs, g))) lv)))
  | _ => False
theorem w_cascade (h1 : T.fp "check_problem" = c_check_problem) (h2 : T.fp "bodies_of" = c_bodies_of) (h3 : T.fp "heating_of" = c_heating_of) (h4 : T.fp "levels_of" = c_levels_of) (h5 : T.fp "lack_above" = c_lack_above) : ∀ ds Q, c_cascade ds Q T.xk → ds.length = 1 ∧ runP S 7 ir_cascade ds Q := by
  intro ds Q h
  unfold c_cascade at h
  split at h
  · rename_i s b g
    obtain ⟨ss, bs, rfl, rfl, hp, q⟩ := h
    refine ⟨rfl, ?_⟩
    unfold ir_cascade
    have hg := goodB hp
    have hlen := lev_len hg
    simp_arith [↓fpI_of h1, ↓fqI_of h1, ↓ftI_of h1, ↓fyI_of h1, ↓fpI_of h2, ↓fqI_of h2, ↓ftI_of h2, ↓fyI_of h2, ↓fpI_of h3, ↓fqI_of h3, ↓ftI_of h3, ↓fyI_of h3, ↓fpI_of h4, ↓fqI_of h4, ↓ftI_of h4, ↓fyI_of h4, ↓fpI_of h5, ↓fqI_of h5, ↓ftI_of h5, ↓fyI_of h5, ↓c_check_problem, ↓c_bodies_of, ↓encTs, ↓c_heating_of, ↓c_levels_of]
    refine ⟨ss, bs, rfl, rfl, hp, ss, bs, rfl, rfl, hp.ls, hp.lb, bodies (ss, bs, g), rfl, hg.lr, bodies (ss, bs, g), rfl, .inl hp.len, ?_⟩
    generalize hB : bodies (ss, bs, g) = B at *
    refine S.loop (fun pre ρ => ∃ L a b c, L = pre.map (fun lv => encT (rowAt B (heatingOf B) lv)) ∧ ρ = [.pd (.tuple [.tuple (ss.map encT), .tuple (bs.map encB), .int g]), .pd (.list (B.map encT)), .pd (.int (heatingOf B)), .ow none (.lst L), a, b, c]) ⟨_, _, _, _, rfl, rfl⟩ ?_ ?_
    · rintro pre lv post ρ Φ' hl ⟨L, _, _, _, hL, rfl⟩ hn hc - -
      have hpl : pre.length < 62 := len_pre hl hlen
      have hL2 : L.length < 100000 := by rw [hL, List.length_map]; omega
      simp_arith [↓fpI_of h5, ↓fqI_of h5, ↓ftI_of h5, ↓fyI_of h5, ↓c_lack_above]
      refine ⟨B, rfl, by have := hg.len; omega, hg.rate, B, rfl, by have := hg.len; omega, hg.rate, hL2, hn _ ⟨_, _, _, _, ?_, rfl⟩⟩
      simp [hL, rowAt, encT]
    · rintro ρ ⟨L, _, _, _, hL, rfl⟩
      simp_arith [true_and]
      rw [hL]
      exact q
  · exact h.elim
def isPinch (B : List Tri) (lv : Int) : Bool := decide (heatingOf B + AA B lv true = 0) || decide (heatingOf B + AA B lv false = 0)
def c_pinches : Ct := fun ds Q _ => match ds with
  | [.tuple [.tuple s, .tuple b, .int g]] => ∃ (ss : List Tri) (bs : List Bx), s = ss.map encT ∧ b = bs.map encB ∧ OkP (ss, bs, g) ∧ Q (.tuple (((levelsOf (bodies (ss, bs, g))).filter (isPinch (bodies (ss, bs, g)))).map .int))
  | _ => False
theorem fm_filterI {α : Type} (p : α → Bool) (enc : α → D) : ∀ l : List α, l.filterMap (fun b => if p b = true then some (enc b) else none) = (l.filter p).map enc
  | [] => rfl
  | a :: r => by
    by_cases h : p a = true
    · simp [h, fm_filterI p enc r]
    · simp [h, fm_filterI p enc r]
theorem w_pinches (h1 : T.fp "cascade" = c_cascade) : ∀ ds Q, c_pinches ds Q T.xk → ds.length = 1 ∧ runP S 4 ir_pinches ds Q := by
  intro ds Q h
  unfold c_pinches at h
  split at h
  · rename_i s b g
    obtain ⟨ss, bs, rfl, rfl, hp, q⟩ := h
    refine ⟨rfl, ?_⟩
    unfold ir_pinches
    have hlen := lev_len (goodB hp)
    simp_arith [↓fpI_of h1, ↓fqI_of h1, ↓ftI_of h1, ↓fyI_of h1, ↓c_cascade]
    refine ⟨ss, bs, rfl, rfl, hp, by rw [List.length_map]; omega, S.lci (fun lv => if isPinch (bodies (ss, bs, g)) lv = true then some (.int lv) else none) ?_ ?_⟩
    · intro lv hx K hK
      generalize bodies (ss, bs, g) = B at *
      simp_arith [↓encT, ↓rowAt]
      unfold isPinch at hK
      by_cases z1 : heatingOf B + AA B lv true = 0 <;> by_cases z2 : heatingOf B + AA B lv false = 0 <;> simp [z1, z2] at hK ⊢ <;> exact hK
    · rw [fm_filterI]
      simp_arith [true_and]
      exact q
  · exact h.elim
end My

set_option Elab.async false
set_option autoImplicit false
set_option linter.all false
/-! M9: a line by counting degrees -/
namespace My
open DW PySem
def someS (o : Bool) (ss : List Tri) : List Tri := ss.filter fun s => decide (s.2.1 < s.1) == o
def stepsB (o : Bool) (bs : List Bx) : List Bx := bs.filter fun b => decide (0 < b.2) == o
theorem fm_filterG {α : Type} (p : α → Bool) (enc : α → D) : ∀ l : List α, l.filterMap (fun b => if p b = true then some (enc b) else none) = (l.filter p).map enc
  | [] => rfl
  | a :: r => by
    by_cases h : p a = true
    · simp [h, fm_filterG p enc r]
    · simp [h, fm_filterG p enc r]
theorem rng_count (p lo hi : Int) (n : Nat) : (((List.range n).map fun (i : Nat) => p + (i : Int)).filter fun x => decide (lo ≤ x) && decide (x < hi)).length = (min hi (p + (n : Int)) - max lo p).toNat := by
  induction n with
  | zero => simp; omega
  | succ n ih =>
    rw [List.range_succ, List.map_append, List.filter_append, List.length_append, ih]
    simp only [List.map_cons, List.map_nil, List.filter_cons, List.filter_nil]
    by_cases h : (decide (lo ≤ p + (n : Int)) && decide (p + (n : Int) < hi)) = true
    · rw [if_pos h]
      simp at h
      simp
      omega
    · rw [if_neg h]
      simp at h
      simp
      omega
theorem rangeI_count {p t lo hi : Int} (h : p ≤ t) : ((rangeI p t).filter fun x => decide (lo ≤ x) && decide (x < hi)).length = (min hi t - max lo p).toNat := by
  unfold rangeI
  rw [rng_count]
  have : p + ((t - p).toNat : Int) = t := by omega
  rw [this]
def cntS (p t : Int) (s : Tri) : Int := s.2.2 * max 0 (min (max s.1 s.2.1) t - max (min s.1 s.2.1) p)
theorem lineB_eq {ss : List Tri} {bs : List Bx} {o : Bool} (h : ∀ s ∈ ss, OkS s) : lineB (ss, bs) o = (someS o ss).map (bodyS 0) ++ (stepsB o bs).map (bodyB 0) := by
  unfold lineB sideB bodies someS stepsB
  rw [List.filter_append, List.filter_map, List.filter_map]
  congr 1
  congr 1
  refine List.filter_congr fun s hs => ?_
  obtain ⟨_, _, _, _, h5, _, h7⟩ := h s hs
  simp only [Function.comp]
  congr 1
  unfold bodyS
  split
  · rename_i w
    rw [decide_eq_true w]
    exact decide_eq_true (by show 0 < s.2.2; omega)
  · rename_i w
    rw [decide_eq_false w]
    exact decide_eq_false (by show ¬ 0 < -s.2.2; omega)
theorem gainS {p t : Int} {s : Tri} {o : Bool} (h : OkS s) (ho : decide (s.2.1 < s.1) = o) (hpt : p ≤ t) : above (bodyS 0 s) p true - above (bodyS 0 s) t false = if o then cntS p t s else -cntS p t s := by
  obtain ⟨a, b, c⟩ := s
  obtain ⟨_, _, _, _, h5, _, h7⟩ := h
  simp only at h5 h7 ho
  unfold bodyS above cntS
  by_cases w : b < a
  · rw [decide_eq_true w] at ho
    subst ho
    have e1 : ¬ a = b := by omega
    simp only [w, e1, if_true, if_false, Int.sub_zero]
    rw [← Int.mul_sub]
    congr 1
    omega
  · rw [decide_eq_false w] at ho
    subst ho
    have e1 : ¬ b = a := by omega
    simp only [w, e1, if_true, if_false]
    rw [← Int.mul_sub, Int.neg_mul]
    simp only [Bool.false_eq_true, if_false]
    congr 2
    omega
theorem gainB0 {p t : Int} {b : Bx} (hpt : p < t) (hc : b.1 ≤ p ∨ t ≤ b.1) : above (bodyB 0 b) p true - above (bodyB 0 b) t false = 0 := by
  obtain ⟨x, h⟩ := b
  simp only at hc
  have e : (if 0 < h then x - 0 else x) = x := by split <;> omega
  unfold bodyB above
  simp only [e, if_true] at *
  rcases hc with hc | hc
  · rw [if_neg (by rintro (z | ⟨z, z'⟩); omega; cases z'), if_neg (by rintro (z | ⟨z, z'⟩) <;> omega)]; rfl
  · rw [if_pos (.inl (by omega)), if_pos (by by_cases z : t < x; exact .inl z; exact .inr ⟨by omega, trivial⟩)]; omega
theorem heldS0 {t : Int} {s : Tri} (h : OkS s) : above (bodyS 0 s) t false - above (bodyS 0 s) t true = 0 := by
  obtain ⟨a, b, c⟩ := s
  obtain ⟨_, _, _, _, h5, _, h7⟩ := h
  simp only at h5 h7
  unfold bodyS above
  by_cases w : b < a
  · have e1 : ¬ a = b := by omega
    simp only [w, e1, if_true, if_false, Int.sub_zero]
    omega
  · have e1 : ¬ b = a := by omega
    simp only [w, e1, if_true, if_false]
    omega
theorem heldB0 {t : Int} {b : Bx} : above (bodyB 0 b) t false - above (bodyB 0 b) t true = if b.1 = t then b.2 else 0 := by
  obtain ⟨x, h⟩ := b
  have e : (if 0 < h then x - 0 else x) = x := by split <;> omega
  unfold bodyB above
  simp only [e, if_true] at *
  by_cases z : x = t
  · subst z
    simp
  · by_cases y : t < x
    · simp [z, y]
    · simp [z, y]
theorem sum_sgn {α : Type} {o : Bool} {f c : α → Int} : ∀ {l : List α}, (∀ x ∈ l, f x = if o then c x else -c x) → (l.map f).sum = if o then (l.map c).sum else -(l.map c).sum
  | [], _ => by cases o <;> rfl
  | a :: r, h => by
    have i := sum_sgn (l := r) (fun x hx => h x (List.mem_cons_of_mem _ hx))
    have j := h a (List.mem_cons_self ..)
    cases o
    · simp at i j ⊢; omega
    · simp at i j ⊢; omega
theorem sum_nn {α : Type} {c : α → Int} : ∀ {l : List α}, (∀ x ∈ l, 0 ≤ c x) → 0 ≤ (l.map c).sum
  | [], _ => Int.le_refl _
  | a :: r, h => by
    have i := sum_nn (l := r) (fun x hx => h x (List.mem_cons_of_mem _ hx))
    have j := h a (List.mem_cons_self ..)
    simp; omega
theorem absI_sgn {x : Int} (o : Bool) (h : 0 ≤ x) : absI (if o then x else -x) = x := by
  unfold absI
  cases o <;> simp <;> omega
theorem cntS_nn {p t : Int} {s : Tri} (h : OkS s) : 0 ≤ cntS p t s := Int.mul_nonneg (by have := h.2.2.2.2.1; omega) (by omega)
theorem gain_eq {ss : List Tri} {bs : List Bx} {o : Bool} {p t : Int} (h : ∀ s ∈ ss, OkS s) (hpt : p < t) (hc : ∀ b ∈ stepsB o bs, b.1 ≤ p ∨ t ≤ b.1) : gainOf (lineB (ss, bs) o) p t = ((someS o ss).map (cntS p t)).sum := by
  unfold gainOf
  rw [lineB_eq h, List.map_append, List.sum_append, List.map_map, List.map_map]
  rw [show ((stepsB o bs).map ((fun b => above b p true - above b t false) ∘ bodyB 0)).sum = 0 from sum_zero fun b hb => gainB0 hpt (hc b hb), Int.add_zero]
  rw [sum_sgn (o := o) (c := cntS p t) (fun s hs => by
    obtain ⟨h1, h2⟩ := List.mem_filter.mp hs
    exact gainS (h s h1) (by simpa using h2) (by omega))]
  exact absI_sgn o (sum_nn fun s hs => cntS_nn (h s (List.mem_filter.mp hs).1))
def stepAt (t : Int) (b : Bx) : Int := if b.1 = t then absI b.2 else 0
theorem stepAt_sum {t : Int} : ∀ l : List Bx, (l.map (stepAt t)).sum = ((l.filter fun b => decide (b.1 = t)).map fun b => absI b.2).sum
  | [] => rfl
  | a :: r => by
    have i := stepAt_sum (t := t) r
    unfold stepAt at i ⊢
    by_cases z : a.1 = t
    · simp [z, i]
    · simp [z, i]
theorem held_eq {ss : List Tri} {bs : List Bx} {o : Bool} {t : Int} (h : ∀ s ∈ ss, OkS s) (h2 : ∀ b ∈ bs, OkB b) : heldOf (lineB (ss, bs) o) t = (((stepsB o bs).filter fun b => decide (b.1 = t)).map fun b => absI b.2).sum := by
  unfold heldOf
  rw [lineB_eq h, List.map_append, List.sum_append, List.map_map, List.map_map]
  rw [show ((someS o ss).map ((fun b => above b t false - above b t true) ∘ bodyS 0)).sum = 0 from sum_zero fun s hs => heldS0 (h s (List.mem_filter.mp hs).1), Int.zero_add, ← stepAt_sum]
  rw [sum_sgn (o := o) (c := stepAt t) (fun b hb => by
    obtain ⟨h3, h4⟩ := List.mem_filter.mp hb
    simp only [Function.comp]
    rw [heldB0]
    unfold stepAt absI
    have h4 : decide (0 < b.2) = o := by simpa using h4
    have h5 := (h2 b h3).2.2.2.2
    by_cases z : b.1 = t
    · rw [if_pos z, if_pos z]
      by_cases w : 0 < b.2
      · rw [decide_eq_true w] at h4
        subst h4
        simp only [if_true]
        rw [if_neg (by omega)]
      · rw [decide_eq_false w] at h4
        subst h4
        simp only [Bool.false_eq_true, if_false]
        by_cases y : b.2 < 0
        · rw [if_pos y]; omega
        · omega
    · rw [if_neg z, if_neg z]
      cases o <;> rfl)]
  exact absI_sgn o (sum_nn fun b hb => by unfold stepAt absI; split <;> (try split) <;> omega)
theorem mem_line {ss : List Tri} {bs : List Bx} {o : Bool} (h : ∀ s ∈ ss, OkS s) (k : Int) : k ∈ (someS o ss).map (·.1) ++ (stepsB o bs).map (·.1) ++ (someS o ss).map (·.2.1) ↔ k ∈ ends2 (lineB (ss, bs) o) := by
  rw [lineB_eq h]
  unfold ends2
  rw [List.flatMap_append, List.mem_append, List.mem_append, List.mem_append, List.mem_flatMap, List.mem_flatMap, List.mem_map, List.mem_map, List.mem_map]
  have e1 : ∀ s : Tri, k ∈ [(bodyS 0 s).1, (bodyS 0 s).2.1] ↔ (k = s.1 ∨ k = s.2.1) := fun s => by
    unfold bodyS
    split <;> simp
    exact Or.comm
  have e2 : ∀ b : Bx, k ∈ [(bodyB 0 b).1, (bodyB 0 b).2.1] ↔ k = b.1 := fun b => by
    unfold bodyB
    simp
  constructor
  · rintro ((⟨s, hs, e⟩ | ⟨b, hb, e⟩) | ⟨s, hs, e⟩)
    · exact .inl ⟨bodyS 0 s, List.mem_map_of_mem hs, (e1 s).mpr (.inl e.symm)⟩
    · exact .inr ⟨bodyB 0 b, List.mem_map_of_mem hb, (e2 b).mpr e.symm⟩
    · exact .inl ⟨bodyS 0 s, List.mem_map_of_mem hs, (e1 s).mpr (.inr e.symm)⟩
  · rintro (⟨x, hx, e⟩ | ⟨x, hx, e⟩)
    · obtain ⟨s, hs, rfl⟩ := List.mem_map.mp hx
      rcases (e1 s).mp e with z | z
      · exact .inl (.inl ⟨s, hs, z.symm⟩)
      · exact .inr ⟨s, hs, z.symm⟩
    · obtain ⟨b, hb, rfl⟩ := List.mem_map.mp hx
      exact .inl (.inr ⟨b, hb, ((e2 b).mp e).symm⟩)
theorem pw_next {l pre post : List Int} {p t : Int} (h : l.Pairwise (· < ·)) (e : l = pre ++ p :: t :: post) : p < t ∧ ∀ x ∈ l, x ≤ p ∨ t ≤ x := by
  subst e
  obtain ⟨_, h2, h3⟩ := List.pairwise_append.mp h
  obtain ⟨h4, h5⟩ := List.pairwise_cons.mp h2
  obtain ⟨h6, _⟩ := List.pairwise_cons.mp h5
  refine ⟨h4 t (by simp), fun x hx => ?_⟩
  rcases List.mem_append.mp hx with z | z
  · exact .inl (Int.le_of_lt (h3 x z p (by simp)))
  · rcases List.mem_cons.mp z with z | z
    · exact .inl (by omega)
    · rcases List.mem_cons.mp z with z | z
      · exact .inr (by omega)
      · exact .inr (Int.le_of_lt (h6 x z))
end My

set_option Elab.async false
set_option autoImplicit false
set_option linter.all false
/-! M10: all rates and heats times m -/
namespace My
open DW PySem
def scT (m : Int) (b : Tri) : Tri := (b.1, b.2.1, b.2.2 * m)
def scB (m : Int) (b : Bx) : Bx := (b.1, b.2 * m)
variable {m : Int}
theorem body_scS {g : Int} (s : Tri) : bodyS g (scT m s) = scT m (bodyS g s) := by
  unfold bodyS scT
  split
  · rfl
  · simp [Int.neg_mul]
theorem body_scB (hm : 0 < m) {g : Int} (b : Bx) : bodyB g (scB m b) = scT m (bodyB g b) := by
  unfold bodyB scB scT
  have e : (0 < b.2 * m) = (0 < b.2) := by
    apply propext
    constructor
    · intro h
      by_cases z : 0 < b.2
      · exact z
      · have := Int.mul_nonneg (show 0 ≤ -b.2 by omega) (Int.le_of_lt hm)
        rw [Int.neg_mul] at this
        omega
    · intro h
      exact Int.mul_pos h hm
  simp only [e]
theorem bodies_sc (hm : 0 < m) (ss : List Tri) (bs : List Bx) (g : Int) : bodies (ss.map (scT m), bs.map (scB m), g) = (bodies (ss, bs, g)).map (scT m) := by
  unfold bodies
  simp only [List.map_append, List.map_map]
  congr 1
  · exact List.map_congr_left fun s _ => body_scS s
  · exact List.map_congr_left fun b _ => body_scB hm b
theorem above_sc (b : Tri) (lv : Int) (o : Bool) : above (scT m b) lv o = above b lv o * m := by
  unfold above scT
  simp only
  split
  · split <;> simp
  · rw [Int.mul_assoc, Int.mul_assoc, Int.mul_comm m]
theorem sum_sc {α : Type} {f h : α → Int} (e : ∀ x, f x = h x * m) : ∀ l : List α, (l.map f).sum = (l.map h).sum * m
  | [] => by simp
  | a :: r => by
    have i := sum_sc e r
    simp only [List.map_cons, List.sum_cons, i, e, Int.add_mul]
theorem AA_sc (bs : List Tri) (lv : Int) (o : Bool) : AA (bs.map (scT m)) lv o = AA bs lv o * m := by
  unfold AA
  rw [List.map_map]
  exact sum_sc (fun b => above_sc b lv o) bs
theorem ends2_sc : ∀ bs : List Tri, ends2 (bs.map (scT m)) = ends2 bs
  | [] => rfl
  | a :: r => by
    have i := ends2_sc r
    unfold ends2 at i ⊢
    simp only [List.map_cons, List.flatMap_cons, i]
    rfl
theorem levels_sc (bs : List Tri) : levelsOf (bs.map (scT m)) = levelsOf bs := by
  unfold levelsOf
  rw [ends2_sc]
theorem temps_sc (bs : List Tri) : tempsOf (bs.map (scT m)) = tempsOf bs := by
  unfold tempsOf
  rw [ends2_sc]
theorem whole_sc (bs : List Tri) : ((bs.map (scT m)).map whole).sum = (bs.map whole).sum * m := by
  rw [List.map_map]
  exact sum_sc (fun b => by
    show whole (scT m b) = whole b * m
    unfold whole scT
    simp only
    split
    · rfl
    · rw [Int.mul_assoc, Int.mul_assoc, Int.mul_comm m]) bs
theorem mul_le_m {a b : Int} (hm : 0 < m) (h : a ≤ b) : a * m ≤ b * m := Int.mul_le_mul_of_nonneg_right h (Int.le_of_lt hm)
theorem heat_sc {bs : List Tri} (hm : 0 < m) (g1 : GoodB bs) (g2 : GoodB (bs.map (scT m))) : heatingOf (bs.map (scT m)) = heatingOf bs * m := by
  obtain ⟨lv, o, _, e1⟩ := heat_at g1
  obtain ⟨lv2, o2, _, e2⟩ := heat_at g2
  have z1 := need_any g2 lv o
  have z2 := mul_le_m hm (need_any g1 lv2 o2)
  rw [AA_sc] at z1 e2
  rw [Int.neg_mul] at z2
  have e3 : heatingOf bs * m = -(AA bs lv o * m) := by rw [e1, Int.neg_mul]
  omega
theorem zero_sc (hm : 0 < m) {x : Int} : (x * m = 0) = (x = 0) := by
  apply propext
  constructor
  · intro h
    rcases Int.mul_eq_zero.mp h with z | z
    · exact z
    · omega
  · intro h
    rw [h, Int.zero_mul]
theorem pinch_sc {bs : List Tri} (hm : 0 < m) (g1 : GoodB bs) (g2 : GoodB (bs.map (scT m))) : isPinch (bs.map (scT m)) = isPinch bs := by
  funext lv
  unfold isPinch
  rw [heat_sc hm g1 g2, AA_sc, AA_sc, ← Int.add_mul, ← Int.add_mul]
  simp only [zero_sc hm]
theorem absI_sc (hm : 0 < m) (x : Int) : absI (x * m) = absI x * m := by
  unfold absI
  by_cases h : x < 0
  · have : x * m < 0 := Int.mul_neg_of_neg_of_pos h hm
    rw [if_pos h, if_pos this, Int.neg_mul]
  · have : 0 ≤ x * m := Int.mul_nonneg (by omega) (by omega)
    rw [if_neg h, if_neg (by omega)]
theorem side_sc (hm : 0 < m) (o : Bool) (bs : List Tri) : sideB o (bs.map (scT m)) = (sideB o bs).map (scT m) := by
  unfold sideB
  rw [List.filter_map]
  congr 1
  refine List.filter_congr fun b _ => ?_
  simp only [Function.comp, scT]
  congr 1
  refine decide_eq_decide.mpr ⟨fun h => ?_, fun h => Int.mul_pos h hm⟩
  by_cases z : 0 < b.2.2
  · exact z
  · have := Int.mul_nonneg (show 0 ≤ -b.2.2 by omega) (Int.le_of_lt hm)
    rw [Int.neg_mul] at this
    omega
theorem line_sc (hm : 0 < m) (ss : List Tri) (bs : List Bx) (o : Bool) : lineB (ss.map (scT m), bs.map (scB m)) o = (lineB (ss, bs) o).map (scT m) := by
  unfold lineB
  simp only
  rw [bodies_sc hm, side_sc hm]
theorem gain_sc (hm : 0 < m) (B : List Tri) (p t : Int) : gainOf (B.map (scT m)) p t = gainOf B p t * m := by
  unfold gainOf
  rw [← absI_sc hm, List.map_map]
  congr 1
  exact sum_sc (fun b => by simp only [Function.comp, above_sc, Int.sub_mul]) B
theorem held_sc (hm : 0 < m) (B : List Tri) (t : Int) : heldOf (B.map (scT m)) t = heldOf B t * m := by
  unfold heldOf
  rw [← absI_sc hm, List.map_map]
  congr 1
  exact sum_sc (fun b => by simp only [Function.comp, above_sc, Int.sub_mul]) B
def scC (m : Int) (c : Bx) : Bx := (c.1 * m, c.2)
theorem lwalk_sc (hm : 0 < m) {G G' : Int → Int → Int} {Hd Hd' : Int → Int} (hG : ∀ p t, G' p t = G p t * m) (hH : ∀ t, Hd' t = Hd t * m) (ts : List Int) : lwalk G' Hd' ts = ((lwalk G Hd ts).1, (lwalk G Hd ts).2.1 * m, (lwalk G Hd ts).2.2.map (scC m)) := by
  suffices h : ∀ (ts : List Int) (s : Option Int × Int × List Bx), ts.foldl (lstep G' Hd') (s.1, s.2.1 * m, s.2.2.map (scC m)) = ((ts.foldl (lstep G Hd) s).1, (ts.foldl (lstep G Hd) s).2.1 * m, (ts.foldl (lstep G Hd) s).2.2.map (scC m)) from by
    have := h ts (none, 0, [])
    simpa [lwalk] using this
  intro ts
  induction ts with
  | nil => intro s; rfl
  | cons t r ih =>
    intro s
    rw [List.foldl_cons, List.foldl_cons, ← ih]
    congr 1
    have e : hNext G' (s.1, s.2.1 * m, s.2.2.map (scC m)) t = hNext G s t * m := by
      unfold hNext
      obtain ⟨a, b, c⟩ := s
      cases a
      · rfl
      · simp [hG, Int.add_mul]
    have p : (0 < Hd' t) = (0 < Hd t) := by
      rw [hH]
      apply propext
      constructor
      · intro h
        by_cases z : 0 < Hd t
        · exact z
        · have := Int.mul_nonneg (show 0 ≤ -Hd t by omega) (Int.le_of_lt hm)
          rw [Int.neg_mul] at this
          omega
      · intro h
        exact Int.mul_pos h hm
    unfold lstep
    rw [e]
    simp only [p]
    split <;> simp [scC, hH, Int.add_mul]
theorem lineOf_sc (hm : 0 < m) (B : List Tri) : lineOf (B.map (scT m)) = (lineOf B).map (scC m) := by
  unfold lineOf
  rw [temps_sc, lwalk_sc hm (gain_sc hm B) (held_sc hm B)]
end My

set_option Elab.async false
set_option autoImplicit false
set_option linter.all false
/-! M11: a problem upside down -/
namespace My
open DW PySem
theorem heat_eq {bs : List Tri} (h : GoodB bs) {x : Int} (h1 : ∀ lv o, -AA bs lv o ≤ x) (h2 : ∃ lv o, x = -AA bs lv o) : heatingOf bs = x := by
  obtain ⟨lv, o, _, e⟩ := heat_at h
  obtain ⟨lv', o', e'⟩ := h2
  have a1 := h1 lv o
  have a2 := need_any h lv' o'
  omega
def mirS (s : Tri) : Tri := (1000 - s.1, 1000 - s.2.1, s.2.2)
def mirB (b : Bx) : Bx := (1000 - b.1, -b.2)
def mirT (C : Int) (b : Tri) : Tri := (C - b.2.1, C - b.1, -b.2.2)
theorem mir_ok {ss : List Tri} {bs : List Bx} {g : Int} (h : OkP (ss, bs, g)) : OkP (ss.map mirS, bs.map mirB, g) := by
  refine ⟨fun s hs => ?_, fun b hb => ?_, ?_, ?_, h.g0, h.g1, ?_⟩
  · obtain ⟨s', hs', rfl⟩ := List.mem_map.mp hs
    have := h.ss s' hs'
    unfold OkS mirS at *
    simp only
    omega
  · obtain ⟨b', hb', rfl⟩ := List.mem_map.mp hb
    have := h.bs b' hb'
    unfold OkB mirB at *
    simp only
    omega
  · have := h.ls
    simpa using this
  · have := h.lb
    simpa using this
  · have := h.ne
    simpa using this
theorem mir_S {g : Int} {s : Tri} (h : OkS s) : bodyS g (mirS s) = mirT (1000 - g) (bodyS g s) := by
  unfold OkS at h
  unfold bodyS mirS mirT
  by_cases z : s.2.1 < s.1
  · simp only [if_pos z, if_neg (show ¬ 1000 - s.2.1 < 1000 - s.1 by omega)]
    refine Prod.ext (by simp only; omega) (Prod.ext (by simp only; omega) (by simp only))
  · simp only [if_neg z, if_pos (show 1000 - s.2.1 < 1000 - s.1 by omega)]
    refine Prod.ext (by simp only; omega) (Prod.ext (by simp only; omega) (by simp only; omega))
theorem mir_B {g : Int} {b : Bx} (h : OkB b) : bodyB g (mirB b) = mirT (1000 - g) (bodyB g b) := by
  unfold OkB at h
  unfold bodyB mirB mirT
  by_cases z : 0 < b.2
  · simp only [if_pos z, if_neg (show ¬ 0 < -b.2 by omega)]
    refine Prod.ext (by simp only; omega) (Prod.ext (by simp only; omega) (by simp only))
  · simp only [if_neg z, if_pos (show 0 < -b.2 by omega)]
    refine Prod.ext (by simp only; omega) (Prod.ext (by simp only; omega) (by simp only))
theorem mir_bodies {ss : List Tri} {bs : List Bx} {g : Int} (h : OkP (ss, bs, g)) : bodies (ss.map mirS, bs.map mirB, g) = (bodies (ss, bs, g)).map (mirT (1000 - g)) := by
  unfold bodies
  simp only [List.map_append, List.map_map]
  congr 1
  · exact List.map_congr_left fun s hs => mir_S (h.ss s hs)
  · exact List.map_congr_left fun b hb => mir_B (h.bs b hb)
theorem mir_above {C lv : Int} {o : Bool} {b : Tri} (hu : Up b) : above (mirT C b) (C - lv) o = above b lv (!o) - whole b := by
  unfold Up at hu
  unfold above whole mirT
  by_cases z : b.1 = b.2.1
  · simp only [if_pos z, if_pos (show C - b.2.1 = C - b.1 by omega)]
    cases o
    · simp only [Bool.not_false, reduceCtorEq, and_false, or_false, and_true]
      by_cases w : lv < b.1
      · rw [if_neg (by omega), if_pos w]; omega
      · rw [if_pos (by omega), if_neg w]; omega
    · simp only [Bool.not_true, reduceCtorEq, and_false, or_false, and_true]
      by_cases w : b.2.1 < lv
      · rw [if_pos (by omega), if_neg (by omega)]; omega
      · rw [if_neg (by omega), if_pos (by omega)]; omega
  · simp only [if_neg z, if_neg (show ¬ C - b.2.1 = C - b.1 by omega)]
    have e : max 0 (C - b.2.1 - max (C - b.1) (C - lv)) = (b.1 - b.2.1) - max 0 (b.1 - max b.2.1 lv) := by omega
    rw [e, Int.neg_mul, Int.mul_sub]
    omega
theorem mir_whole {C : Int} {b : Tri} : whole (mirT C b) = -whole b := by
  unfold whole mirT
  by_cases z : b.1 = b.2.1
  · simp only [if_pos z, if_pos (show C - b.2.1 = C - b.1 by omega)]
  · simp only [if_neg z, if_neg (show ¬ C - b.2.1 = C - b.1 by omega)]
    rw [show C - b.2.1 - (C - b.1) = b.1 - b.2.1 by omega, Int.neg_mul]
theorem mir_AA {C lv : Int} {o : Bool} : ∀ {bs : List Tri}, (∀ b ∈ bs, Up b) → AA (bs.map (mirT C)) (C - lv) o = AA bs lv (!o) - (bs.map whole).sum
  | [], _ => rfl
  | b :: r, h => by
    have ih := mir_AA (C := C) (lv := lv) (o := o) fun b hb => h b (List.mem_cons_of_mem _ hb)
    have z := mir_above (C := C) (lv := lv) (o := o) (h b List.mem_cons_self)
    unfold AA at *
    simp only [List.map_cons, List.sum_cons]
    omega
theorem mir_wholes {C : Int} : ∀ (bs : List Tri), ((bs.map (mirT C)).map whole).sum = -(bs.map whole).sum
  | [] => rfl
  | b :: r => by
    have ih := mir_wholes (C := C) r
    have z := mir_whole (C := C) (b := b)
    simp only [List.map_cons, List.sum_cons]
    omega
theorem mir_good {C : Int} {bs : List Tri} (h : GoodB bs) (hg : GoodB (bs.map (mirT C))) : heatingOf (bs.map (mirT C)) = heatingOf bs + (bs.map whole).sum := by
  refine heat_eq hg (fun lv o => ?_) ?_
  · have z := mir_AA (C := C) (lv := C - lv) (o := o) h.up
    rw [show C - (C - lv) = lv by omega] at z
    have := need_any h (C - lv) (!o)
    omega
  · obtain ⟨lv, o, _, e⟩ := heat_at h
    refine ⟨C - lv, !o, ?_⟩
    rw [mir_AA h.up, Bool.not_not]
    omega
theorem mir_ends {C : Int} : ∀ (bs : List Tri) (k : Int), k ∈ ends2 (bs.map (mirT C)) ↔ C - k ∈ ends2 bs
  | [], k => by simp [ends2]
  | b :: r, k => by
    have ih := mir_ends (C := C) r k
    simp only [ends2, List.map_cons, List.flatMap_cons, List.mem_append, List.mem_cons, List.not_mem_nil, or_false, mirT] at *
    rw [ih]
    constructor
    · rintro ((h | h) | h)
      · exact .inl (.inr (by omega))
      · exact .inl (.inl (by omega))
      · exact .inr h
    · rintro ((h | h) | h)
      · exact .inl (.inr (by omega))
      · exact .inl (.inl (by omega))
      · exact .inr h
theorem mir_levels {C : Int} (bs : List Tri) : levelsOf (bs.map (mirT C)) = ((levelsOf bs).map fun lv => C - lv).reverse := by
  unfold levelsOf
  rw [List.map_reverse, List.reverse_reverse]
  have e : ((ssort (ends2 bs)).map fun lv => C - lv).reverse = ssort (ends2 (bs.map (mirT C))) := by
    refine ssort_of ?_ fun k => ?_
    · rw [List.pairwise_reverse, List.pairwise_map]
      exact (ssort_asc _).imp fun h => by omega
    · rw [List.mem_reverse, List.mem_map, mir_ends]
      constructor
      · rintro ⟨lv, h, rfl⟩
        rw [show C - (C - lv) = lv by omega]
        exact mem_ssort.mp h
      · intro h
        exact ⟨C - k, mem_ssort.mpr h, by omega⟩
  rw [← e, List.reverse_reverse]
/-! equal data -/
mutual
theorem eqv_refl : ∀ (d : D), d.canLay0 = true → PyData.eqv d d = true
  | .none, _ => by simp [PyData.eqv]
  | .bool b, _ => by simp [PyData.eqv]
  | .int i, _ => by simp [PyData.eqv]
  | .str x, _ => by simp [PyData.eqv]
  | .list ds, c => by
    simp only [PyData.eqv]
    exact eqvAll_refl ds (by simpa [PyData.canLay0] using c)
  | .tuple ds, c => by
    simp only [PyData.eqv]
    exact eqvAll_refl ds (by simpa [PyData.canLay0] using c)
  | .dict _, c => by simp [PyData.canLay0] at c
theorem eqvAll_refl : ∀ (ds : List D), PyData.canLayAll0 ds = true → PyData.eqvAll ds ds = true
  | [], _ => rfl
  | d :: ds, c => by
    have z : d.canLay0 = true ∧ PyData.canLayAll0 ds = true := by simpa [PyData.canLayAll0] using c
    simp only [PyData.eqvAll]
    rw [eqv_refl d z.1, eqvAll_refl ds z.2]
    rfl
end
theorem eqv_sh {d : D} (h : SeqAt.shaped d = true) : PyData.eqv d d = true := eqv_refl d (SeqAt.canLay_of_shaped h)
/-- tuples of data that may stand, of a depth -/
def lay (n : Nat) (d : D) : Prop := d.canLay0 = true ∧ d.depth ≤ n
theorem lay_all' : ∀ {n : Nat} {l : List D}, (∀ d ∈ l, lay n d) → PyData.canLayAll0 l = true ∧ PyData.depthAll l ≤ n + 1
  | n, [], _ => ⟨rfl, by simp [PyData.depthAll]⟩
  | n, d :: r, h => by
    obtain ⟨a1, a2⟩ := h d List.mem_cons_self
    obtain ⟨b1, b2⟩ := lay_all' (n := n) fun d hd => h d (List.mem_cons_of_mem _ hd)
    refine ⟨by simp only [PyData.canLayAll0, a1, b1, Bool.and_self], ?_⟩
    simp only [PyData.depthAll]
    omega
theorem lay_t {n : Nat} {l : List D} (h : ∀ d ∈ l, lay n d) : lay (n + 2) (.tuple l) := by
  obtain ⟨a1, a2⟩ := lay_all' h
  refine ⟨by simp only [PyData.canLay0]; exact a1, ?_⟩
  simp only [PyData.depth]
  omega
theorem lay_l {n : Nat} {l : List D} (h : ∀ d ∈ l, lay n d) : lay (n + 2) (.list l) := by
  obtain ⟨a1, a2⟩ := lay_all' h
  refine ⟨by simp only [PyData.canLay0]; exact a1, ?_⟩
  simp only [PyData.depth]
  omega
theorem lay_i {n : Nat} {i : Int} : lay (n + 1) (.int i) := ⟨rfl, by simp [PyData.depth]⟩
theorem lay_mono {n m : Nat} {d : D} (h : lay n d) (hm : n ≤ m) : lay m d := ⟨h.1, Nat.le_trans h.2 hm⟩
theorem lay_sh {n : Nat} {d : D} (h : lay n d) (hn : n ≤ 60) : SeqAt.shaped d = true := by
  unfold SeqAt.shaped
  rw [Bool.and_eq_true]
  exact ⟨h.1, decide_eq_true (by have := h.2; omega)⟩
theorem lay_P (ss : List Tri) (bs : List Bx) (g : Int) : lay 7 (.tuple [.tuple (ss.map encT), .tuple (bs.map encB), .int g]) := by
  refine lay_t (n := 5) fun d hd => ?_
  simp only [List.mem_cons, List.not_mem_nil, or_false] at hd
  rcases hd with rfl | rfl | rfl
  · refine lay_t fun d hd => ?_
    obtain ⟨x, _, rfl⟩ := List.mem_map.mp hd
    refine lay_t (n := 1) fun d hd => ?_
    simp only [List.mem_cons, List.not_mem_nil, or_false] at hd
    rcases hd with rfl | rfl | rfl <;> exact lay_i
  · refine lay_t fun d hd => ?_
    obtain ⟨x, _, rfl⟩ := List.mem_map.mp hd
    refine lay_t (n := 1) fun d hd => ?_
    simp only [List.mem_cons, List.not_mem_nil, or_false] at hd
    rcases hd with rfl | rfl <;> exact lay_i
  · exact lay_i
theorem lay_T (x : Tri) : lay 3 (encT x) := by
  refine lay_t (n := 1) fun d hd => ?_
  simp only [List.mem_cons, List.not_mem_nil, or_false] at hd
  rcases hd with rfl | rfl | rfl <;> exact lay_i
theorem sh_P (ss : List Tri) (bs : List Bx) (g : Int) : SeqAt.shaped (.tuple [.tuple (ss.map encT), .tuple (bs.map encB), .int g]) = true := lay_sh (lay_P ss bs g) (by decide)
theorem sh_T (l : List Tri) : SeqAt.shaped (.tuple (l.map encT)) = true := lay_sh (n := 5) (lay_t fun d hd => by obtain ⟨x, _, rfl⟩ := List.mem_map.mp hd; exact lay_T x) (by decide)
theorem sh_I (l : List Int) : SeqAt.shaped (.tuple (l.map .int)) = true := lay_sh (n := 3) (lay_t (n := 1) fun d hd => by obtain ⟨x, _, rfl⟩ := List.mem_map.mp hd; exact lay_i) (by decide)
theorem sh_IL (l : List Int) : SeqAt.shaped (.list (l.map .int)) = true := lay_sh (n := 3) (lay_l (n := 1) fun d hd => by obtain ⟨x, _, rfl⟩ := List.mem_map.mp hd; exact lay_i) (by decide)
end My

set_option Elab.async false
set_option autoImplicit false
set_option linter.all false
/-! M12: a problem without boxes, cut at a level -/
namespace My
open DW PySem
structure GoodE (bs : List Tri) : Prop where
  len : bs.length ≤ 31
  rate : ∀ b ∈ bs, -10000 ≤ b.2.2 ∧ b.2.2 ≤ 10000
  up : ∀ b ∈ bs, Up b
theorem GoodB.e {bs : List Tri} (h : GoodB bs) : GoodE bs := ⟨h.len, h.rate, h.up⟩
theorem GoodE.lr' {bs : List Tri} (h : GoodE bs) : bs.length ≤ 31 ∧ ∀ b ∈ bs, -10000 ≤ b.2.2 ∧ b.2.2 ≤ 10000 := ⟨h.len, h.rate⟩
theorem lev_nil {bs : List Tri} (h : levelsOf bs = []) : bs = [] := by
  cases bs with
  | nil => rfl
  | cons b r =>
    have := (mem_levels (bs := b :: r) (b := b) List.mem_cons_self).1
    rw [h] at this
    cases this
theorem GoodE.b {bs : List Tri} (h : GoodE bs) : GoodB bs ∨ bs = [] := by
  by_cases e : levelsOf bs = []
  · exact .inr (lev_nil e)
  · exact .inl ⟨h.len, h.rate, e, h.up⟩
theorem heat_nil : heatingOf [] = 0 := rfl
theorem needE {bs : List Tri} (h : GoodE bs) (lv : Int) (o : Bool) : -AA bs lv o ≤ heatingOf bs := by
  rcases h.b with h | rfl
  · exact need_any h lv o
  · simp [AA, heat_nil]
theorem heatE {bs : List Tri} (h : GoodE bs) : ∃ lv o, heatingOf bs = -AA bs lv o := by
  rcases h.b with h | rfl
  · obtain ⟨lv, o, _, e⟩ := heat_at h
    exact ⟨lv, o, e⟩
  · exact ⟨0, true, by simp [AA, heat_nil]⟩
theorem heat_eqE {bs : List Tri} (h : GoodE bs) {x : Int} (h1 : ∀ lv o, -AA bs lv o ≤ x) (h2 : ∃ lv o, x = -AA bs lv o) : heatingOf bs = x := by
  obtain ⟨lv, o, e⟩ := heatE h
  obtain ⟨lv', o', e'⟩ := h2
  have a1 := h1 lv o
  have a2 := needE h lv' o'
  omega
theorem heat0 {bs : List Tri} (h : GoodE bs) : 0 ≤ heatingOf bs := by
  rcases h.b with h | rfl
  · exact heat_nn h
  · exact Int.le_refl _
def ne2 (s : Tri) : Bool := decide (s.1 ≠ s.2.1)
def upT (lv g : Int) (s : Tri) : Tri := if s.2.1 < s.1 then (s.1, min s.1 (max s.2.1 (lv + g)), s.2.2) else (min s.2.1 (max s.1 lv), s.2.1, s.2.2)
def loT (lv g : Int) (s : Tri) : Tri := if s.2.1 < s.1 then (min s.1 (max s.2.1 (lv + g)), s.2.1, s.2.2) else (s.1, min s.2.1 (max s.1 lv), s.2.2)
def edgeT (lv g : Int) (s : Tri) : Int := if s.2.1 < s.1 then lv + g else lv
def luT (lv g : Int) (s : Tri) : Tri := (max s.1 (edgeT lv g s), max s.2.1 (edgeT lv g s), s.2.2)
def llT (lv g : Int) (s : Tri) : Tri := (min s.1 (edgeT lv g s), min s.2.1 (edgeT lv g s), s.2.2)
def upS (lv g : Int) (ss : List Tri) : List Tri := (ss.map (upT lv g)).filter ne2
def loS (lv g : Int) (ss : List Tri) : List Tri := (ss.map (loT lv g)).filter ne2
theorem up_ok {lv g : Int} {s : Tri} (h : OkS s) (n : ne2 (upT lv g s) = true) : OkS (upT lv g s) := by
  have n := of_decide_eq_true n
  unfold OkS upT at *
  by_cases z : s.2.1 < s.1
  · simp only [if_pos z] at *; omega
  · simp only [if_neg z] at *; omega
theorem lo_ok {lv g : Int} {s : Tri} (h : OkS s) (n : ne2 (loT lv g s) = true) : OkS (loT lv g s) := by
  have n := of_decide_eq_true n
  unfold OkS loT at *
  by_cases z : s.2.1 < s.1
  · simp only [if_pos z] at *; omega
  · simp only [if_neg z] at *; omega
theorem part_lu {lv g : Int} {s : Tri} (h : OkS s) : (if ne2 (luT lv g s) = true then [luT lv g s] else []) = (if ne2 (upT lv g s) = true then [upT lv g s] else []) := by
  obtain ⟨a, b, c⟩ := s
  unfold OkS at h
  unfold ne2 luT upT edgeT
  simp only at *
  by_cases z : b < a
  · simp only [if_pos z, decide_eq_true_eq]
    by_cases w : lv + g < a
    · rw [if_pos (by omega), if_pos (by omega)]
      congr 2
      · omega
      · congr 1; omega
    · rw [if_neg (by omega), if_neg (by omega)]
  · simp only [if_neg z, decide_eq_true_eq]
    by_cases w : lv < b
    · rw [if_pos (by omega), if_pos (by omega)]
      congr 2
      · omega
      · congr 1; omega
    · rw [if_neg (by omega), if_neg (by omega)]
theorem part_ll {lv g : Int} {s : Tri} (h : OkS s) : (if ne2 (llT lv g s) = true then [llT lv g s] else []) = (if ne2 (loT lv g s) = true then [loT lv g s] else []) := by
  obtain ⟨a, b, c⟩ := s
  unfold OkS at h
  unfold ne2 llT loT edgeT
  simp only at *
  by_cases z : b < a
  · simp only [if_pos z, decide_eq_true_eq]
    by_cases w : b < lv + g
    · rw [if_pos (by omega), if_pos (by omega)]
      congr 2
      · omega
      · congr 1; omega
    · rw [if_neg (by omega), if_neg (by omega)]
  · simp only [if_neg z, decide_eq_true_eq]
    by_cases w : a < lv
    · rw [if_pos (by omega), if_pos (by omega)]
      congr 2
      · omega
      · congr 1; omega
    · rw [if_neg (by omega), if_neg (by omega)]
theorem filter_flat {α : Type} (f : α → α) (p : α → Bool) : ∀ l : List α, (l.map f).filter p = l.flatMap fun s => if p (f s) = true then [f s] else []
  | [] => rfl
  | a :: r => by
    have ih := filter_flat f p r
    rw [List.map_cons, List.flatMap_cons, List.filter_cons, ih]
    by_cases h : p (f a) = true
    · rw [if_pos h, if_pos h]; rfl
    · rw [if_neg h, if_neg h]; rfl
theorem up_law {lv g : Int} {ss : List Tri} (h : ∀ s ∈ ss, OkS s) : (ss.flatMap fun s => if ne2 (luT lv g s) = true then [luT lv g s] else []) = upS lv g ss := by
  unfold upS
  rw [filter_flat]
  exact flat_congr fun s hs => part_lu (h s hs)
theorem lo_law {lv g : Int} {ss : List Tri} (h : ∀ s ∈ ss, OkS s) : (ss.flatMap fun s => if ne2 (llT lv g s) = true then [llT lv g s] else []) = loS lv g ss := by
  unfold loS
  rw [filter_flat]
  exact flat_congr fun s hs => part_ll (h s hs)
def AB (g : Int) (ss : List Tri) (x : Int) (o : Bool) : Int := AA (bodies (ss, [], g)) x o
theorem AB_cons {g x : Int} {o : Bool} {s : Tri} {r : List Tri} : AB g (s :: r) x o = above (bodyS g s) x o + AB g r x o := by
  unfold AB AA bodies
  simp
theorem AB_nil {g x : Int} {o : Bool} : AB g [] x o = 0 := rfl
theorem body_h {g a b c : Int} (h : b < a) : bodyS g (a, b, c) = (a - g, b - g, c) := if_pos h
theorem body_c {g a b c : Int} (h : ¬ b < a) : bodyS g (a, b, c) = (b, a, -c) := if_neg h
theorem above_m {u l c x : Int} {o : Bool} (h : u ≠ l) : above (u, l, c) x o = c * max 0 (u - max l x) := if_neg h
theorem above_up {lv g x : Int} {o : Bool} {s : Tri} (h : OkS s) : (if ne2 (upT lv g s) = true then above (bodyS g (upT lv g s)) x o else 0) = above (bodyS g s) (max x lv) o := by
  obtain ⟨a, b, c⟩ := s
  unfold OkS at h
  unfold ne2 upT
  simp only [decide_eq_true_eq] at *
  by_cases z : b < a
  · simp only [if_pos z]
    by_cases w : lv + g < a
    · rw [if_pos (by omega), body_h (by omega), body_h z, above_m (by omega), above_m (by omega)]
      congr 1
      omega
    · rw [if_neg (by omega), body_h z, above_m (by omega)]
      have e : max 0 (a - g - max (b - g) (max x lv)) = 0 := by omega
      rw [e, Int.mul_zero]
  · simp only [if_neg z]
    by_cases w : lv < b
    · rw [if_pos (by omega), body_c (by omega), body_c z, above_m (by omega), above_m (by omega)]
      congr 1
      omega
    · rw [if_neg (by omega), body_c z, above_m (by omega)]
      have e : max 0 (b - max a (max x lv)) = 0 := by omega
      rw [e, Int.mul_zero]
theorem above_lo {lv g x : Int} {o : Bool} {s : Tri} (h : OkS s) : (if ne2 (loT lv g s) = true then above (bodyS g (loT lv g s)) x o else 0) = above (bodyS g s) x o - above (bodyS g s) (max x lv) o := by
  obtain ⟨a, b, c⟩ := s
  unfold OkS at h
  unfold ne2 loT
  simp only [decide_eq_true_eq] at *
  by_cases z : b < a
  · simp only [if_pos z]
    by_cases w : b < lv + g
    · rw [if_pos (by omega), body_h (by omega), body_h z, above_m (by omega), above_m (by omega), above_m (by omega), ← Int.mul_sub]
      congr 1
      omega
    · rw [if_neg (by omega), body_h z, above_m (by omega), above_m (by omega), ← Int.mul_sub]
      have e : max 0 (a - g - max (b - g) x) - max 0 (a - g - max (b - g) (max x lv)) = 0 := by omega
      rw [e, Int.mul_zero]
  · simp only [if_neg z]
    by_cases w : a < lv
    · rw [if_pos (by omega), body_c (by omega), body_c z, above_m (by omega), above_m (by omega), above_m (by omega), ← Int.mul_sub]
      congr 1
      omega
    · rw [if_neg (by omega), body_c z, above_m (by omega), above_m (by omega), ← Int.mul_sub]
      have e : max 0 (b - max a x) - max 0 (b - max a (max x lv)) = 0 := by omega
      rw [e, Int.mul_zero]
theorem AB_up {lv g x : Int} {o : Bool} : ∀ {ss : List Tri}, (∀ s ∈ ss, OkS s) → AB g (upS lv g ss) x o = AB g ss (max x lv) o
  | [], _ => rfl
  | s :: r, h => by
    have ih := AB_up (lv := lv) (g := g) (x := x) (o := o) fun s hs => h s (List.mem_cons_of_mem _ hs)
    have z := above_up (lv := lv) (g := g) (x := x) (o := o) (h s List.mem_cons_self)
    rw [AB_cons, ← ih, ← z]
    unfold upS
    rw [List.map_cons, List.filter_cons]
    by_cases n : ne2 (upT lv g s) = true
    · rw [if_pos n, if_pos n, AB_cons]
    · rw [if_neg n, if_neg n, Int.zero_add]
theorem AB_lo {lv g x : Int} {o : Bool} : ∀ {ss : List Tri}, (∀ s ∈ ss, OkS s) → AB g (loS lv g ss) x o = AB g ss x o - AB g ss (max x lv) o
  | [], _ => rfl
  | s :: r, h => by
    have ih := AB_lo (lv := lv) (g := g) (x := x) (o := o) fun s hs => h s (List.mem_cons_of_mem _ hs)
    have z := above_lo (lv := lv) (g := g) (x := x) (o := o) (h s List.mem_cons_self)
    rw [AB_cons, AB_cons]
    unfold loS at *
    rw [List.map_cons, List.filter_cons]
    by_cases n : ne2 (loT lv g s) = true
    · rw [if_pos n] at z
      rw [if_pos n, AB_cons]
      omega
    · rw [if_neg n] at z
      rw [if_neg n]
      omega
theorem sides_ok {ss : List Tri} {g : Int} {f : Tri → Tri} (hp : OkP (ss, [], g)) (h : ∀ s, OkS s → ne2 (f s) = true → OkS (f s)) (hn : (ss.map f).filter ne2 ≠ []) : OkP ((ss.map f).filter ne2, [], g) := by
  refine ⟨fun s hs => ?_, fun b hb => (by cases hb), ?_, by simp, hp.g0, hp.g1, .inl hn⟩
  · obtain ⟨h1, h2⟩ := List.mem_filter.mp hs
    obtain ⟨t, ht, rfl⟩ := List.mem_map.mp h1
    exact h t (hp.ss t ht) h2
  · have := List.length_filter_le ne2 (ss.map f)
    have h6 : ss.length ≤ 6 := hp.ls
    rw [List.length_map] at this
    show ((ss.map f).filter ne2).length ≤ 6
    omega
theorem goodE_P {ss : List Tri} {g : Int} (h : ss = [] ∨ OkP (ss, [], g)) : GoodE (bodies (ss, [], g)) := by
  rcases h with rfl | h
  · exact ⟨by simp [bodies], by simp [bodies], by simp [bodies]⟩
  · exact (goodB h).e
theorem whole_AA {bs : List Tri} (hu : ∀ b ∈ bs, Up b) : ∃ lv, ∀ x o, x ≤ lv → AA bs x o = (bs.map whole).sum := by
  have hb : ∃ lv, ∀ b ∈ bs, lv < b.2.1 := by
    clear hu
    induction bs with
    | nil => exact ⟨0, by simp⟩
    | cons b r ih =>
      obtain ⟨lv, h⟩ := ih
      refine ⟨min lv (b.2.1 - 1), fun c hc => ?_⟩
      rcases List.mem_cons.mp hc with rfl | hc
      · omega
      · have := h c hc
        omega
  obtain ⟨lv, h⟩ := hb
  exact ⟨lv, fun x o hx => AA_lo0 (t := lv + 1) hu (fun b hb => by have := h b hb; omega) (.inl (by omega))⟩
/-- both sides together need no less -/
theorem cut_sum {ss : List Tri} {g lv : Int} (h : ∀ s ∈ ss, OkS s) (g0 : GoodE (bodies (ss, [], g))) (g1 : GoodE (bodies (upS lv g ss, [], g))) (g2 : GoodE (bodies (loS lv g ss, [], g))) :
    heatingOf (bodies (ss, [], g)) ≤ heatingOf (bodies (upS lv g ss, [], g)) + heatingOf (bodies (loS lv g ss, [], g)) := by
  obtain ⟨x, o, e⟩ := heatE g0
  have n1 := needE g1 x o
  have n2 := needE g2 x o
  have n0 := heat0 g2
  have u := AB_up (lv := lv) (g := g) (x := x) (o := o) h
  have l := AB_lo (lv := lv) (g := g) (x := x) (o := o) h
  unfold AB at u l
  omega
theorem cut_pinch {ss : List Tri} {g lv : Int} (h : ∀ s ∈ ss, OkS s) (g0 : GoodE (bodies (ss, [], g))) (g1 : GoodE (bodies (upS lv g ss, [], g))) (g2 : GoodE (bodies (loS lv g ss, [], g))) {o0 : Bool} (hp : heatingOf (bodies (ss, [], g)) + AA (bodies (ss, [], g)) lv o0 = 0) :
    heatingOf (bodies (upS lv g ss, [], g)) = heatingOf (bodies (ss, [], g)) ∧ heatingOf (bodies (upS lv g ss, [], g)) + ((bodies (upS lv g ss, [], g)).map whole).sum = 0 ∧
    heatingOf (bodies (loS lv g ss, [], g)) = 0 ∧ ((bodies (loS lv g ss, [], g)).map whole).sum = heatingOf (bodies (ss, [], g)) + ((bodies (ss, [], g)).map whole).sum := by
  have u : ∀ x o, AA (bodies (upS lv g ss, [], g)) x o = AA (bodies (ss, [], g)) (max x lv) o := fun x o => AB_up h
  have l : ∀ x o, AA (bodies (loS lv g ss, [], g)) x o = AA (bodies (ss, [], g)) x o - AA (bodies (ss, [], g)) (max x lv) o := fun x o => AB_lo h
  have oo : ∀ x o o', AA (bodies (ss, [], g)) x o = AA (bodies (ss, [], g)) x o' := fun x o o' => by
    refine sum_congr fun b hb => ?_
    unfold bodies at hb
    simp only [List.map_nil, List.append_nil, List.mem_map] at hb
    obtain ⟨s, hs, rfl⟩ := hb
    have := h s hs
    obtain ⟨a, b, c⟩ := s
    unfold OkS at this
    simp only at this
    have z : (bodyS g (a, b, c)).1 ≠ (bodyS g (a, b, c)).2.1 := by
      unfold bodyS
      by_cases w : b < a
      · simp only [if_pos w]; omega
      · simp only [if_neg w]; omega
    rw [above_s z, above_s z]
  have e1 : heatingOf (bodies (upS lv g ss, [], g)) = heatingOf (bodies (ss, [], g)) := by
    refine heat_eqE g1 (fun x o => ?_) ⟨lv, o0, ?_⟩
    · rw [u]
      exact needE g0 _ _
    · rw [u, Int.max_self]
      omega
  have e3 : heatingOf (bodies (loS lv g ss, [], g)) = 0 := by
    refine heat_eqE g2 (fun x o => ?_) ⟨lv, o0, ?_⟩
    · rw [l]
      by_cases w : lv ≤ x
      · rw [Int.max_eq_left w]; omega
      · rw [Int.max_eq_right (by omega)]
        have := needE g0 x o
        have := oo lv o o0
        omega
    · rw [l, Int.max_self]; omega
  obtain ⟨y1, w1⟩ := whole_AA g1.up
  obtain ⟨y2, w2⟩ := whole_AA g2.up
  obtain ⟨y0, w0⟩ := whole_AA g0.up
  refine ⟨e1, ?_, e3, ?_⟩
  · rw [e1, ← w1 (min y1 lv) o0 (by omega), u, Int.max_eq_right (by omega)]
    exact hp
  · rw [← w2 (min y2 (min y0 lv)) o0 (by omega), l, Int.max_eq_right (by omega), w0 (min y2 (min y0 lv)) o0 (by omega)]
    omega
end My

set_option Elab.async false
set_option autoImplicit false
set_option linter.all false
/-! M13: what is lacking above a level, and below one -/
namespace My
open DW PySem
theorem mem_lev {bs : List Tri} {x : Int} : x ∈ levelsOf bs ↔ x ∈ ends2 bs := by
  unfold levelsOf
  rw [List.mem_reverse, mem_ssort]
theorem AA_top0 {bs : List Tri} (hu : ∀ b ∈ bs, Up b) {x : Int} (h : ∀ y ∈ levelsOf bs, y < x) (o : Bool) : AA bs x o = 0 := by
  refine sum_zero fun b hb => ?_
  have h1 := h _ (mem_levels hb).1
  have h2 := hu b hb
  unfold Up at h2
  unfold above
  split
  · rw [if_neg (by rintro (y | ⟨y, _⟩) <;> omega)]
  · rw [show max (0 : Int) (b.1 - max b.2.1 x) = 0 by omega, Int.mul_zero]
/-- between two levels heat grows evenly -/
theorem interp {bs : List Tri} (hu : ∀ b ∈ bs, Up b) (x : Int) (o : Bool) : x ∈ levelsOf bs ∨ (AA bs x o = 0 ∧ ∀ y ∈ levelsOf bs, y < x) ∨ (AA bs x o = (bs.map whole).sum ∧ ∀ y ∈ levelsOf bs, x < y) ∨
    ∃ u l, u ∈ levelsOf bs ∧ l ∈ levelsOf bs ∧ l < x ∧ x < u ∧ (∀ y ∈ levelsOf bs, u ≤ y ∨ y ≤ l) ∧ ((AA bs u false ≤ AA bs x o ∧ AA bs x o ≤ AA bs l true) ∨ (AA bs l true ≤ AA bs x o ∧ AA bs x o ≤ AA bs u false)) := by
  by_cases m : x ∈ levelsOf bs
  · exact .inl m
  by_cases e : levelsOf bs = []
  · have := lev_nil e
    subst this
    exact .inr (.inl ⟨rfl, fun y hy => by rw [e] at hy; cases hy⟩)
  have hn : 0 < (levelsOf bs).length := List.length_pos_iff.mpr e
  by_cases t : x ≤ lvAt bs 0
  · rcases between ((levelsOf bs).length - 1) (by omega) t with z | ⟨i, hi, z1, z2⟩
    · have ne : x ≠ lvAt bs ((levelsOf bs).length - 1) := fun e => m (by rw [e]; exact lv_in (by omega))
      exact .inr (.inr (.inl ⟨AA_low hu (by omega) o, fun y hy => by have := lv_bottom hy; omega⟩))
    · have ne : x ≠ lvAt bs i := fun e => m (by rw [e]; exact lv_in (by omega))
      have e1 := AA_mid hu hi z1 (by omega) o
      have e2 := AA_step hu hi
      rw [st_cov] at e2
      rw [sum_mul] at e1
      have zz := lv_dec (bs := bs) (i := i) (j := i + 1) (by omega) hi
      refine .inr (.inr (.inr ⟨lvAt bs i, lvAt bs (i + 1), lv_in (by omega), lv_in hi, z1, by omega, fun y hy => ?_, ?_⟩))
      · have := lv_gap hy hi
        omega
      · generalize (bs.map (cov (lvAt bs i) (lvAt bs (i + 1)))).sum = S at e1 e2
        generalize lvAt bs i = L at *
        generalize lvAt bs (i + 1) = L' at *
        have k2 : (x - L') * S = (L - L') * S - (L - x) * S := by
          rw [← Int.sub_mul]
          congr 1
          omega
        by_cases s : 0 ≤ S
        · have a1 := Int.mul_nonneg (show 0 ≤ L - x by omega) s
          have a2 := Int.mul_nonneg (show 0 ≤ x - L' by omega) s
          exact .inl ⟨by omega, by omega⟩
        · have a1 : (L - x) * (-S) ≥ 0 := Int.mul_nonneg (by omega) (by omega)
          have a2 : (x - L') * (-S) ≥ 0 := Int.mul_nonneg (by omega) (by omega)
          rw [Int.mul_neg] at a1 a2
          exact .inr ⟨by omega, by omega⟩
  · exact .inr (.inl ⟨AA_top0 hu (fun y hy => by have := lv_top hy; omega) o, fun y hy => by have := lv_top hy; omega⟩)
def plus (bs : List Tri) (L : Int) : List Tri := bs ++ [(L, L, 0)]
theorem AA_plus {bs : List Tri} {L x : Int} {o : Bool} : AA (plus bs L) x o = AA bs x o := by
  unfold AA plus
  rw [List.map_append, List.sum_append]
  simp [above]
theorem up_plus {bs : List Tri} {L : Int} (h : ∀ b ∈ bs, Up b) : ∀ b ∈ plus bs L, Up b := fun b hb => by
  rcases List.mem_append.mp hb with hb | hb
  · exact h b hb
  · rw [List.mem_singleton.mp hb]
    exact Int.le_refl _
theorem lev_plus {bs : List Tri} {L x : Int} : x ∈ levelsOf (plus bs L) ↔ x ∈ levelsOf bs ∨ x = L := by
  rw [mem_lev, mem_lev]
  unfold plus ends2
  rw [List.flatMap_append, List.mem_append]
  simp
theorem whole_plus {bs : List Tri} {L : Int} : ((plus bs L).map whole).sum = (bs.map whole).sum := by
  unfold plus
  rw [List.map_append, List.sum_append]
  simp [whole]
def regU (L x : Int) (o : Bool) : Prop := L < x ∨ (x = L ∧ o = true)
def regD (t x : Int) (o : Bool) : Prop := x < t ∨ (x = t ∧ o = false)
theorem regU_le {bs : List Tri} (hu : ∀ b ∈ bs, Up b) {L x : Int} {o : Bool} (h : regU L x o) : -AA bs x o ≤ 0 ∨ ∃ lv o', (lv ∈ levelsOf bs ∨ lv = L) ∧ regU L lv o' ∧ -AA bs x o ≤ -AA bs lv o' := by
  rcases interp (up_plus (L := L) hu) x o with m | ⟨z, _⟩ | ⟨_, w⟩ | ⟨u, l, hu1, hl1, h1, h2, hg, hh⟩
  · exact .inr ⟨x, o, lev_plus.mp m, h, Int.le_refl _⟩
  · rw [AA_plus] at z
    exact .inl (by omega)
  · have := w L (lev_plus.mpr (.inr rfl))
    rcases h with h | ⟨h, _⟩ <;> omega
  · rw [AA_plus, AA_plus, AA_plus] at hh
    have gl : L ≤ l := by
      have := hg L (lev_plus.mpr (.inr rfl))
      rcases h with h | ⟨h, _⟩ <;> omega
    rcases hh with ⟨a1, a2⟩ | ⟨a1, a2⟩
    · exact .inr ⟨u, false, lev_plus.mp hu1, .inl (by omega), by omega⟩
    · refine .inr ⟨l, true, lev_plus.mp hl1, ?_, by omega⟩
      by_cases e : l = L
      · exact .inr ⟨e, rfl⟩
      · exact .inl (by omega)
theorem regD_le {bs : List Tri} (hu : ∀ b ∈ bs, Up b) {t x : Int} {o : Bool} (h : regD t x o) : AA bs x o = (bs.map whole).sum ∨ ∃ lv o', (lv ∈ levelsOf bs ∨ lv = t) ∧ regD t lv o' ∧ AA bs lv o' ≤ AA bs x o := by
  rcases interp (up_plus (L := t) hu) x o with m | ⟨_, w⟩ | ⟨z, _⟩ | ⟨u, l, hu1, hl1, h1, h2, hg, hh⟩
  · exact .inr ⟨x, o, lev_plus.mp m, h, Int.le_refl _⟩
  · have := w t (lev_plus.mpr (.inr rfl))
    rcases h with h | ⟨h, _⟩ <;> omega
  · rw [AA_plus, whole_plus] at z
    exact .inl z
  · rw [AA_plus, AA_plus, AA_plus] at hh
    have gl : u ≤ t := by
      have := hg t (lev_plus.mpr (.inr rfl))
      rcases h with h | ⟨h, _⟩ <;> omega
    rcases hh with ⟨a1, a2⟩ | ⟨a1, a2⟩
    · refine .inr ⟨u, false, lev_plus.mp hu1, ?_, by omega⟩
      by_cases e : u = t
      · exact .inr ⟨e, rfl⟩
      · exact .inl (by omega)
    · exact .inr ⟨l, true, lev_plus.mp hl1, .inl (by omega), by omega⟩
def atL (bs : List Tri) (L : Int) : List (Int × Bool) := (edgesOf (levelsOf bs)).filter (fun e => decide (L < e.1)) ++ [(L, true)]
def frL (bs : List Tri) (t : Int) : List (Int × Bool) := (edgesOf (levelsOf bs)).filter (fun e => decide (e.1 < t)) ++ [(t, false)]
def matV (bs : List Tri) (L : Int) : Int := heatingOf bs - imax (0 :: (atL bs L).map fun e => -AA bs e.1 e.2)
def mfrV (bs : List Tri) (t : Int) : Int := imin ((heatingOf bs + (bs.map whole).sum) :: (frL bs t).map fun e => heatingOf bs - -AA bs e.1 e.2)
theorem mem_edges {ls : List Int} {e : Int × Bool} : e ∈ edgesOf ls ↔ e.1 ∈ ls := by
  unfold edgesOf
  rw [List.mem_flatMap]
  constructor
  · rintro ⟨lv, h, h2⟩
    simp only [List.mem_cons, List.not_mem_nil, or_false] at h2
    rcases h2 with rfl | rfl <;> exact h
  · intro h
    refine ⟨e.1, h, ?_⟩
    obtain ⟨a, b⟩ := e
    cases b <;> simp
theorem mem_at {bs : List Tri} {L : Int} {e : Int × Bool} : e ∈ atL bs L ↔ (e.1 ∈ levelsOf bs ∧ L < e.1) ∨ e = (L, true) := by
  unfold atL
  rw [List.mem_append, List.mem_filter, mem_edges, decide_eq_true_eq, List.mem_singleton]
theorem mem_fr {bs : List Tri} {t : Int} {e : Int × Bool} : e ∈ frL bs t ↔ (e.1 ∈ levelsOf bs ∧ e.1 < t) ∨ e = (t, false) := by
  unfold frL
  rw [List.mem_append, List.mem_filter, mem_edges, decide_eq_true_eq, List.mem_singleton]
theorem above_all (bs : List Tri) : ∃ x, ∀ y ∈ levelsOf bs, y < x := by
  have : ∀ l : List Int, ∃ x, ∀ y ∈ l, y < x := fun l => by
    induction l with
    | nil => exact ⟨0, by simp⟩
    | cons a r ih =>
      obtain ⟨x, h⟩ := ih
      refine ⟨max x (a + 1), fun y hy => ?_⟩
      rcases List.mem_cons.mp hy with rfl | hy
      · omega
      · have := h y hy
        omega
  exact this _
/-- what a temperature lets: the heating less what is lacking above it -/
theorem mat_spec {bs : List Tri} (hu : ∀ b ∈ bs, Up b) (L : Int) : ∃ m, matV bs L = heatingOf bs - m ∧ (∀ x o, regU L x o → -AA bs x o ≤ m) ∧ ∃ x o, regU L x o ∧ m = -AA bs x o := by
  refine ⟨_, rfl, fun x o h => ?_, ?_⟩
  · have z0 : (0 : Int) ≤ imax (0 :: (atL bs L).map fun e => -AA bs e.1 e.2) := imax_le List.mem_cons_self
    rcases regU_le hu h with z | ⟨lv, o', h1, h2, h3⟩
    · omega
    · have : -AA bs lv o' ≤ imax (0 :: (atL bs L).map fun e => -AA bs e.1 e.2) := by
        refine imax_le (List.mem_cons_of_mem _ (List.mem_map.mpr ⟨(lv, o'), mem_at.mpr ?_, rfl⟩))
        rcases h2 with h2 | ⟨h2, h4⟩
        · rcases h1 with h1 | h1
          · exact .inl ⟨h1, h2⟩
          · omega
        · exact .inr (by rw [h2, h4])
      omega
  · have z := imax_mem (l := 0 :: (atL bs L).map fun e => -AA bs e.1 e.2) (by simp)
    rcases List.mem_cons.mp z with z | z
    · obtain ⟨x, h⟩ := above_all bs
      refine ⟨max x (L + 1), true, .inl (by omega), ?_⟩
      rw [z, AA_top0 hu (fun y hy => by have := h y hy; omega)]
      rfl
    · obtain ⟨e, h1, h2⟩ := List.mem_map.mp z
      refine ⟨e.1, e.2, ?_, h2.symm⟩
      rcases mem_at.mp h1 with h1 | h1
      · exact .inl h1.2
      · rw [h1]
        exact .inr ⟨rfl, rfl⟩
theorem mfr_spec {bs : List Tri} (hu : ∀ b ∈ bs, Up b) (t : Int) : ∃ n, mfrV bs t = heatingOf bs + n ∧ (∀ x o, regD t x o → n ≤ AA bs x o) ∧ ∃ x o, regD t x o ∧ n = AA bs x o := by
  refine ⟨mfrV bs t - heatingOf bs, by omega, fun x o h => ?_, ?_⟩
  · have z0 : mfrV bs t ≤ heatingOf bs + (bs.map whole).sum := imin_le List.mem_cons_self
    rcases regD_le hu h with z | ⟨lv, o', h1, h2, h3⟩
    · omega
    · have : mfrV bs t ≤ heatingOf bs - -AA bs lv o' := by
        refine imin_le (List.mem_cons_of_mem _ (List.mem_map.mpr ⟨(lv, o'), mem_fr.mpr ?_, rfl⟩))
        rcases h2 with h2 | ⟨h2, h4⟩
        · rcases h1 with h1 | h1
          · exact .inl ⟨h1, h2⟩
          · omega
        · exact .inr (by rw [h2, h4])
      omega
  · have z := imin_mem (l := (heatingOf bs + (bs.map whole).sum) :: (frL bs t).map fun e => heatingOf bs - -AA bs e.1 e.2) (by simp)
    have z : mfrV bs t ∈ _ := z
    rcases List.mem_cons.mp z with z | z
    · obtain ⟨x, h⟩ := whole_AA hu
      refine ⟨min x (t - 1), true, .inl (by omega), ?_⟩
      rw [z, h _ _ (by omega)]
      omega
    · obtain ⟨e, h1, h2⟩ := List.mem_map.mp z
      refine ⟨e.1, e.2, ?_, by omega⟩
      rcases mem_fr.mp h1 with h1 | h1
      · exact .inl h1.2
      · rw [h1]
        exact .inr ⟨rfl, rfl⟩
theorem mat_mono {bs : List Tri} (hu : ∀ b ∈ bs, Up b) {L L' : Int} (h : L ≤ L') : matV bs L ≤ matV bs L' := by
  obtain ⟨m, e, a, _⟩ := mat_spec hu L
  obtain ⟨m', e', _, x, o, b1, b2⟩ := mat_spec hu L'
  have := a x o (by
    rcases b1 with b1 | ⟨b1, b3⟩
    · exact .inl (by omega)
    · by_cases z : L = L'
      · exact .inr ⟨by omega, b3⟩
      · exact .inl (by omega))
  omega
theorem mfr_mono {bs : List Tri} (hu : ∀ b ∈ bs, Up b) {t t' : Int} (h : t ≤ t') : mfrV bs t' ≤ mfrV bs t := by
  obtain ⟨m, e, _, x, o, b1, b2⟩ := mfr_spec hu t
  obtain ⟨m', e', a, _⟩ := mfr_spec hu t'
  have := a x o (by
    rcases b1 with b1 | ⟨b1, b3⟩
    · exact .inl (by omega)
    · by_cases z : t = t'
      · exact .inr ⟨by omega, b3⟩
      · exact .inl (by omega))
  omega
theorem mat_bound {bs : List Tri} (hg : GoodB bs) (L : Int) : 0 ≤ matV bs L ∧ matV bs L ≤ heatingOf bs := by
  obtain ⟨m, e, a, x, o, b1, b2⟩ := mat_spec hg.up L
  have h1 := need_any hg x o
  obtain ⟨y, h⟩ := above_all bs
  have h2 := a (max y (L + 1)) true (.inl (by omega))
  rw [AA_top0 hg.up (fun z hz => by have := h z hz; omega)] at h2
  omega
theorem mfr_bound {bs : List Tri} (hg : GoodB bs) (t : Int) : 0 ≤ mfrV bs t ∧ mfrV bs t ≤ heatingOf bs + (bs.map whole).sum := by
  obtain ⟨m, e, a, x, o, b1, b2⟩ := mfr_spec hg.up t
  have h1 := need_any hg x o
  obtain ⟨y, h⟩ := whole_AA hg.up
  have h2 := a (min y (t - 1)) true (.inl (by omega))
  rw [h _ _ (by omega)] at h2
  omega
theorem mat_top {bs : List Tri} (hg : GoodB bs) : matV bs (lvAt bs 0) = heatingOf bs := by
  obtain ⟨m, e, a, x, o, b1, b2⟩ := mat_spec hg.up (lvAt bs 0)
  rw [AA_hi0 hg.up (t := lvAt bs 0) (tops_le (Int.le_refl _)) b1] at b2
  omega
theorem mfr_low {bs : List Tri} (hg : GoodB bs) : mfrV bs (lvAt bs ((levelsOf bs).length - 1)) = heatingOf bs + (bs.map whole).sum := by
  obtain ⟨m, e, a, x, o, b1, b2⟩ := mfr_spec hg.up (lvAt bs ((levelsOf bs).length - 1))
  rw [AA_lo0 hg.up (t := lvAt bs ((levelsOf bs).length - 1)) (fun b hb => lv_bottom (mem_levels hb).2) b1] at b2
  omega
theorem mfr_mir {C L : Int} {bs : List Tri} (hg : GoodB bs) (hg2 : GoodB (bs.map (mirT C))) : mfrV (bs.map (mirT C)) (C - L) = matV bs L := by
  obtain ⟨m, e, a, x, o, b1, b2⟩ := mat_spec hg.up L
  obtain ⟨n, f, c, y, p, d1, d2⟩ := mfr_spec hg2.up (C - L)
  have h1 := mir_good hg hg2
  have h2 := c (C - x) (!o) (by
    rcases b1 with b1 | ⟨b1, b3⟩
    · exact .inl (by omega)
    · exact .inr ⟨by omega, by rw [b3]; rfl⟩)
  rw [mir_AA hg.up, Bool.not_not] at h2
  have h3 := a (C - y) (!p) (by
    rcases d1 with d1 | ⟨d1, d3⟩
    · exact .inl (by omega)
    · exact .inr ⟨by omega, by rw [d3]; rfl⟩)
  have h4 := mir_AA (C := C) (lv := C - y) (o := p) hg.up
  rw [show C - (C - y) = y by omega] at h4
  omega
end My

set_option Elab.async false
set_option autoImplicit false
set_option linter.all false
/-! M14: a line's corners in closed form; a stream split -/
namespace My
open DW PySem
def sgn (o : Bool) (x : Int) : Int := if o = true then x else -x
def Side (o : Bool) (B : List Tri) : Prop := ∀ b ∈ B, Up b ∧ 0 < sgn o b.2.2
theorem sgn_sum (o : Bool) {α : Type} (f : α → Int) : ∀ l : List α, sgn o (l.map f).sum = (l.map fun x => sgn o (f x)).sum
  | [] => by cases o <;> rfl
  | a :: r => by
    have := sgn_sum o f r
    cases o <;> simp only [sgn, List.map_cons, List.sum_cons, if_true, Bool.false_eq_true, if_false] at * <;> omega
theorem sum_le2 {α : Type} {f g : α → Int} : ∀ {l : List α}, (∀ x ∈ l, f x ≤ g x) → (l.map f).sum ≤ (l.map g).sum
  | [], _ => by simp
  | a :: r, h => by
    have := sum_le2 fun x hx => h x (List.mem_cons_of_mem _ hx)
    have := h a List.mem_cons_self
    simp only [List.map_cons, List.sum_cons]
    omega
/-- (x, o) stands below (y, p) -/
def bel (x : Int) (o : Bool) (y : Int) (p : Bool) : Prop := x < y ∨ (x = y ∧ (o = false ∨ p = true))
theorem above_mono {s : Bool} {b : Tri} (h : Up b) (hs : 0 < sgn s b.2.2) {x y : Int} {o p : Bool} (hb : bel x o y p) : sgn s (above b y p) ≤ sgn s (above b x o) := by
  unfold Up at h
  unfold above
  by_cases z : b.1 = b.2.1
  · rw [if_pos z, if_pos z]
    by_cases w : y < b.1 ∨ (b.1 = y ∧ p = false)
    · rw [if_pos w, if_pos]
      · exact Int.le_refl _
      · unfold bel at hb
        rcases hb with hb | ⟨hb, hb2⟩
        · rcases w with w | ⟨w, _⟩
          · exact .inl (by omega)
          · exact .inl (by omega)
        · rcases w with w | ⟨w, w2⟩
          · exact .inl (by omega)
          · rcases hb2 with e | e
            · exact .inr ⟨by omega, e⟩
            · rw [e] at w2; cases w2
    · rw [if_neg w]
      split
      · cases s <;> simp only [sgn, if_true, Bool.false_eq_true, if_false] at * <;> omega
      · exact Int.le_refl _
  · rw [if_neg z, if_neg z]
    have hxy : x ≤ y := by rcases hb with h | ⟨h, _⟩ <;> omega
    have e : max 0 (b.1 - max b.2.1 y) ≤ max 0 (b.1 - max b.2.1 x) := by omega
    have k : sgn s (b.2.2 * max 0 (b.1 - max b.2.1 y)) = sgn s b.2.2 * max 0 (b.1 - max b.2.1 y) := by cases s <;> simp [sgn, Int.neg_mul]
    have k2 : sgn s (b.2.2 * max 0 (b.1 - max b.2.1 x)) = sgn s b.2.2 * max 0 (b.1 - max b.2.1 x) := by cases s <;> simp [sgn, Int.neg_mul]
    rw [k, k2]
    exact Int.mul_le_mul_of_nonneg_left e (by omega)
theorem AA_mono {s : Bool} {B : List Tri} (h : Side s B) {x y : Int} {o p : Bool} (hb : bel x o y p) : sgn s (AA B y p) ≤ sgn s (AA B x o) := by
  unfold AA
  rw [sgn_sum, sgn_sum]
  exact sum_le2 fun b hb' => above_mono (h b hb').1 (h b hb').2 hb
theorem absI_side {s : Bool} {x : Int} (h : 0 ≤ sgn s x) : absI x = sgn s x := by
  unfold absI
  cases s <;> simp only [sgn, if_true, Bool.false_eq_true, if_false] at * <;> split <;> omega
theorem sgn_sub (s : Bool) (x y : Int) : sgn s (x - y) = sgn s x - sgn s y := by
  cases s <;> simp only [sgn, if_true, Bool.false_eq_true, if_false] <;> omega
theorem map_sub {α : Type} (f g : α → Int) : ∀ l : List α, (l.map fun x => f x - g x).sum = (l.map f).sum - (l.map g).sum
  | [] => by simp
  | a :: r => by
    have := map_sub f g r
    simp only [List.map_cons, List.sum_cons]
    omega
/-- the heat below a temperature (o = false), or up to it -/
def hbl (B : List Tri) (t : Int) (o : Bool) : Int := absI ((B.map whole).sum - AA B t o)
theorem side_up {s : Bool} {B : List Tri} (h : Side s B) : ∀ b ∈ B, Up b := fun b hb => (h b hb).1
theorem hbl_sgn {s : Bool} {B : List Tri} (h : Side s B) (t : Int) (o : Bool) : hbl B t o = sgn s (B.map whole).sum - sgn s (AA B t o) := by
  obtain ⟨y, w⟩ := whole_AA (side_up h)
  have m := AA_mono h (x := min y (t - 1)) (o := true) (y := t) (p := o) (.inl (by omega))
  rw [w (min y (t - 1)) true (by omega)] at m
  unfold hbl
  rw [absI_side (s := s), sgn_sub]
  rw [sgn_sub]
  omega
theorem gain_side {s : Bool} {B : List Tri} (h : Side s B) {p t : Int} (hpt : p < t) : gainOf B p t = hbl B t false - hbl B p true := by
  have m := AA_mono h (x := p) (o := true) (y := t) (p := false) (.inl hpt)
  unfold gainOf
  rw [map_sub]
  have e : (B.map fun b => above b p true).sum - (B.map fun b => above b t false).sum = AA B p true - AA B t false := rfl
  rw [e, absI_side (s := s), sgn_sub, hbl_sgn h, hbl_sgn h]
  · omega
  · rw [sgn_sub]
    omega
theorem held_side {s : Bool} {B : List Tri} (h : Side s B) (t : Int) : heldOf B t = hbl B t true - hbl B t false := by
  have m := AA_mono h (x := t) (o := false) (y := t) (p := true) (.inr ⟨rfl, .inl rfl⟩)
  unfold heldOf
  rw [map_sub]
  have e : (B.map fun b => above b t false).sum - (B.map fun b => above b t true).sum = AA B t false - AA B t true := rfl
  rw [e, absI_side (s := s), sgn_sub, hbl_sgn h, hbl_sgn h]
  · omega
  · rw [sgn_sub]
    omega
def corn (B : List Tri) (t : Int) : List Bx := if 0 < heldOf B t then [(hbl B t false, t), (hbl B t true, t)] else [(hbl B t false, t)]
theorem temps_mem {B : List Tri} {x : Int} : x ∈ tempsOf B ↔ x ∈ ends2 B := mem_ssort
theorem line_walk {s : Bool} {B : List Tri} (h : Side s B) : ∀ (n : Nat), n ≤ (tempsOf B).length → 0 < n → lwalk (gainOf B) (heldOf B) ((tempsOf B).take n) = (some ((tempsOf B).getD (n - 1) 0), hbl B ((tempsOf B).getD (n - 1) 0) true, ((tempsOf B).take n).flatMap (corn B))
  | 0, _, h0 => by omega
  | n + 1, hn, _ => by
    have hlt : n < (tempsOf B).length := by omega
    have et : (tempsOf B).take (n + 1) = (tempsOf B).take n ++ [(tempsOf B).getD n 0] := by
      rw [List.take_succ, List.getElem?_eq_getElem hlt, List.getD_eq_getElem?_getD, List.getElem?_eq_getElem hlt]
      rfl
    rw [et, lwalk_snoc, List.flatMap_append]
    have hh := held_side h ((tempsOf B).getD n 0)
    have hm := AA_mono h (x := (tempsOf B).getD n 0) (o := false) (y := (tempsOf B).getD n 0) (p := true) (.inr ⟨rfl, .inl rfl⟩)
    have q1 := hbl_sgn h ((tempsOf B).getD n 0) false
    have q2 := hbl_sgn h ((tempsOf B).getD n 0) true
    have fin : ∀ st : Option Int × Int × List Bx, hNext (gainOf B) st ((tempsOf B).getD n 0) = hbl B ((tempsOf B).getD n 0) false → lstep (gainOf B) (heldOf B) st ((tempsOf B).getD n 0) = (some ((tempsOf B).getD n 0), hbl B ((tempsOf B).getD n 0) true, st.2.2 ++ corn B ((tempsOf B).getD n 0)) := fun st e => by
      unfold lstep corn
      rw [e]
      by_cases z : 0 < heldOf B ((tempsOf B).getD n 0)
      · simp only [if_pos z]
        rw [show hbl B ((tempsOf B).getD n 0) false + heldOf B ((tempsOf B).getD n 0) = hbl B ((tempsOf B).getD n 0) true by omega]
      · simp only [if_neg z]
        rw [show hbl B ((tempsOf B).getD n 0) false = hbl B ((tempsOf B).getD n 0) true by omega]
    have asc := ssort_asc (ends2 B)
    by_cases n0 : n = 0
    · subst n0
      rw [List.take_zero]
      have e0 : hNext (gainOf B) (lwalk (gainOf B) (heldOf B) []) ((tempsOf B).getD 0 0) = hbl B ((tempsOf B).getD 0 0) false := by
        show (0 : Int) = _
        have low : ∀ b ∈ B, (tempsOf B).getD 0 0 ≤ b.2.1 := fun b hb => by
          have : b.2.1 ∈ tempsOf B := temps_mem.mpr (List.mem_flatMap.mpr ⟨b, hb, by simp⟩)
          obtain ⟨i, hi, e⟩ := List.getElem_of_mem this
          rw [List.getD_eq_getElem?_getD, List.getElem?_eq_getElem hlt]
          rw [← e]
          by_cases i0 : i = 0
          · subst i0
            exact Int.le_refl _
          · exact Int.le_of_lt (List.pairwise_iff_getElem.mp asc 0 i hlt hi (by omega))
        rw [q1, AA_lo0 (side_up h) low (.inr ⟨rfl, rfl⟩)]
        omega
      rw [fin _ e0]
      simp [lwalk]
    · have ih := line_walk h n (by omega) (by omega)
      rw [ih]
      have e0 : hNext (gainOf B) (some ((tempsOf B).getD (n - 1) 0), hbl B ((tempsOf B).getD (n - 1) 0) true, ((tempsOf B).take n).flatMap (corn B)) ((tempsOf B).getD n 0) = hbl B ((tempsOf B).getD n 0) false := by
        show hbl B ((tempsOf B).getD (n - 1) 0) true + gainOf B ((tempsOf B).getD (n - 1) 0) ((tempsOf B).getD n 0) = _
        rw [gain_side h]
        · omega
        · have h1 : n - 1 < (tempsOf B).length := by omega
          rw [List.getD_eq_getElem?_getD, List.getElem?_eq_getElem h1, List.getD_eq_getElem?_getD, List.getElem?_eq_getElem hlt]
          exact List.pairwise_iff_getElem.mp asc (n - 1) n h1 hlt (by omega)
      rw [fin _ e0]
      simp
theorem line_eq {s : Bool} {B : List Tri} (h : Side s B) : lineOf B = (tempsOf B).flatMap (corn B) := by
  unfold lineOf
  by_cases e : tempsOf B = []
  · rw [e]
    rfl
  · have := line_walk h (tempsOf B).length (Nat.le_refl _) (List.length_pos_iff.mpr e)
    rw [List.take_length] at this
    rw [this]
theorem side_lineB {ss : List Tri} {bs : List Bx} {g : Int} (hp : OkP (ss, bs, g)) (o : Bool) : Side o (lineB (ss, bs) o) := by
  have h0 : OkP (ss, bs, 0) := ⟨hp.ss, hp.bs, hp.ls, hp.lb, by show (0 : Int) ≤ 0; omega, by show (0 : Int) ≤ 100; omega, hp.ne⟩
  intro b hb
  unfold lineB sideB at hb
  obtain ⟨h1, h2⟩ := List.mem_filter.mp hb
  have nz : b.2.2 ≠ 0 := by
    unfold bodies at h1
    rcases List.mem_append.mp h1 with h | h
    · obtain ⟨s, hs, rfl⟩ := List.mem_map.mp h
      have := hp.ss s hs
      unfold OkS at this
      unfold bodyS
      split <;> (simp only; omega)
    · obtain ⟨s, hs, rfl⟩ := List.mem_map.mp h
      have := hp.bs s hs
      unfold OkB at this
      exact this.2.2.2.2
  refine ⟨bodies_up h0 b h1, ?_⟩
  cases o with
  | true =>
    have : 0 < b.2.2 := by simpa using h2
    exact this
  | false =>
    have : ¬ 0 < b.2.2 := by simpa using h2
    show 0 < -b.2.2
    omega
/-! a stream split -/
structure Split (s : Tri) (ps : List Tri) : Prop where
  ok : ∀ q ∈ ps, OkS q
  hot : ∀ q ∈ ps, (q.2.1 < q.1 ↔ s.2.1 < s.1)
  len : ps.length ≤ 2
  ne : ps ≠ []
  ab : ∀ g x o, (ps.map fun q => above (bodyS g q) x o).sum = above (bodyS g s) x o
  sub : ∀ x, (x = s.1 ∨ x = s.2.1) → ∃ q ∈ ps, x = q.1 ∨ x = q.2.1
  rng : ∀ q ∈ ps, min s.1 s.2.1 ≤ q.1 ∧ min s.1 s.2.1 ≤ q.2.1 ∧ q.1 ≤ max s.1 s.2.1 ∧ q.2.1 ≤ max s.1 s.2.1
theorem split_mid {a b c m : Int} (h : OkS (a, b, c)) (h1 : min a b ≤ m) (h2 : m ≤ max a b) : Split (a, b, c) ([(a, m, c), (m, b, c)].filter ne2) := by
  have h' := h
  unfold OkS at h'
  simp only at h'
  have e : [(a, m, c), (m, b, c)].filter ne2 = (if a ≠ m then [(a, m, c)] else []) ++ (if m ≠ b then [(m, b, c)] else []) := by
    unfold ne2
    have f : ∀ (u v : Int) (r : List Tri), ((u, v, c) :: r).filter (fun s : Tri => decide (s.1 ≠ s.2.1)) = (if u ≠ v then [(u, v, c)] else []) ++ r.filter (fun s : Tri => decide (s.1 ≠ s.2.1)) := fun u v r => by
      by_cases z : u = v <;> simp [List.filter_cons, z]
    rw [f, f, List.filter_nil, List.append_nil]
  rw [e]
  have mem : ∀ q, q ∈ (if a ≠ m then [(a, m, c)] else []) ++ (if m ≠ b then [(m, b, c)] else []) → (q = (a, m, c) ∧ a ≠ m) ∨ (q = (m, b, c) ∧ m ≠ b) := fun q hq => by
    rcases List.mem_append.mp hq with hq | hq
    · split at hq
      · exact .inl ⟨List.mem_singleton.mp hq, by assumption⟩
      · cases hq
    · split at hq
      · exact .inr ⟨List.mem_singleton.mp hq, by assumption⟩
      · cases hq
  refine ⟨fun q hq => ?_, fun q hq => ?_, ?_, ?_, fun g x o => ?_, fun x hx => ?_, fun q hq => ?_⟩
  · rcases mem q hq with ⟨rfl, z⟩ | ⟨rfl, z⟩ <;> (unfold OkS; simp only; omega)
  · rcases mem q hq with ⟨rfl, z⟩ | ⟨rfl, z⟩ <;> (simp only; omega)
  · rw [List.length_append]
    split <;> split <;> simp
  · by_cases z1 : a = m
    · rw [if_neg (by simpa using z1), if_pos (by omega)]
      simp
    · rw [if_pos z1]
      simp
  · rw [List.map_append, List.sum_append]
    have k : ∀ (u v : Int), (u ≠ v → (v < u ↔ b < a)) → (if u ≠ v then [(u, v, c)] else []).map (fun q => above (bodyS g q) x o) = if u = v then [] else [if b < a then c * max 0 (u - g - max (v - g) x) else -c * max 0 (v - max u x)] := fun u v hv => by
      by_cases z : u = v
      · simp [z]
      · rw [if_pos z, if_neg z, List.map_cons, List.map_nil]
        by_cases w : b < a
        · rw [body_h ((hv z).mpr w), above_m (by omega), if_pos w]
        · rw [body_c (fun y => w ((hv z).mp y)), above_m (by omega), if_neg w]
    rw [k a m (fun z => by omega), k m b (fun z => by omega)]
    by_cases w : b < a
    · rw [body_h w, above_m (by omega)]
      simp only [if_pos w]
      by_cases z1 : a = m
      · rw [if_pos z1]
        by_cases z2 : m = b
        · omega
        · rw [if_neg z2]
          subst z1
          simp
      · rw [if_neg z1]
        by_cases z2 : m = b
        · rw [if_pos z2]
          subst z2
          simp
        · rw [if_neg z2]
          simp only [List.sum_cons, List.sum_nil, Int.add_zero]
          rw [← Int.mul_add]
          congr 1
          omega
    · rw [body_c w, above_m (by omega)]
      simp only [if_neg w]
      by_cases z1 : a = m
      · rw [if_pos z1]
        by_cases z2 : m = b
        · omega
        · rw [if_neg z2]
          subst z1
          simp
      · rw [if_neg z1]
        by_cases z2 : m = b
        · rw [if_pos z2]
          subst z2
          simp
        · rw [if_neg z2]
          simp only [List.sum_cons, List.sum_nil, Int.add_zero]
          rw [← Int.mul_add]
          congr 1
          omega
  · simp only at hx
    by_cases z1 : a = m
    · refine ⟨(m, b, c), ?_, ?_⟩
      · rw [if_neg (by simpa using z1), if_pos (by omega)]
        simp
      · simp only
        omega
    · by_cases z2 : m = b
      · refine ⟨(a, m, c), ?_, ?_⟩
        · rw [if_pos z1]
          simp
        · simp only
          omega
      · rcases hx with hx | hx
        · exact ⟨(a, m, c), by rw [if_pos z1]; simp, .inl hx⟩
        · exact ⟨(m, b, c), by rw [if_pos z2]; simp, .inr hx⟩
  · simp only
    rcases mem q hq with ⟨rfl, z⟩ | ⟨rfl, z⟩ <;> (simp only; omega)
theorem split_rate {a b c p : Int} (h : OkS (a, b, c)) (h1 : 1 ≤ p) (h2 : p < c) : Split (a, b, c) [(a, b, p), (a, b, c - p)] := by
  have h' := h
  unfold OkS at h'
  simp only at h'
  refine ⟨fun q hq => ?_, fun q hq => ?_, by simp, by simp, fun g x o => ?_, fun x hx => ⟨(a, b, p), by simp, hx⟩, fun q hq => ?_⟩
  · simp only [List.mem_cons, List.not_mem_nil, or_false] at hq
    rcases hq with rfl | rfl <;> (unfold OkS; simp only; omega)
  · simp only [List.mem_cons, List.not_mem_nil, or_false] at hq
    rcases hq with rfl | rfl <;> exact Iff.rfl
  · simp only [List.map_cons, List.map_nil, List.sum_cons, List.sum_nil, Int.add_zero]
    by_cases w : b < a
    · rw [body_h w, body_h w, body_h w, above_m (by omega), above_m (by omega), above_m (by omega), ← Int.add_mul]
      congr 1
      omega
    · rw [body_c w, body_c w, body_c w, above_m (by omega), above_m (by omega), above_m (by omega), ← Int.add_mul]
      congr 1
      omega
  · simp only [List.mem_cons, List.not_mem_nil, or_false] at hq
    simp only
    rcases hq with rfl | rfl <;> (simp only; omega)
end My

set_option Elab.async false
set_option autoImplicit false
set_option linter.all false
/-! M15: what a stream split leaves as it was -/
namespace My
open DW PySem
theorem split_OkP {pre post ps : List Tri} {s : Tri} {bs : List Bx} {g : Int} (sp : Split s ps) (hp : OkP (pre ++ s :: post, bs, g)) (hl : (pre ++ s :: post).length ≤ 4) : OkP (pre ++ ps ++ post, bs, g) := by
  have l2 := sp.len
  refine ⟨fun x hx => ?_, hp.bs, ?_, hp.lb, hp.g0, hp.g1, .inl ?_⟩
  · simp only [List.mem_append] at hx
    rcases hx with (h | h) | h
    · exact hp.ss x (by simp [h])
    · exact sp.ok x h
    · exact hp.ss x (by simp [h])
  · simp only [List.length_append, List.length_cons] at *
    omega
  · intro e
    have e : pre ++ ps ++ post = [] := e
    simp only [List.append_eq_nil_iff] at e
    exact sp.ne e.1.2
theorem split_AA {pre post ps : List Tri} {s : Tri} {bs : List Bx} {g : Int} (sp : Split s ps) (x : Int) (o : Bool) : AA (bodies (pre ++ ps ++ post, bs, g)) x o = AA (bodies (pre ++ s :: post, bs, g)) x o := by
  have := sp.ab g x o
  rw [AA_parts, AA_parts]
  simp only [List.map_append, List.map_cons, List.sum_append, List.sum_cons]
  omega
theorem whole_of {B C : List Tri} (hB : ∀ b ∈ B, Up b) (hC : ∀ b ∈ C, Up b) (h : ∀ x o, AA B x o = AA C x o) : (B.map whole).sum = (C.map whole).sum := by
  obtain ⟨x, hx⟩ := whole_AA hB
  obtain ⟨y, hy⟩ := whole_AA hC
  rw [← hx (min x y) true (by omega), ← hy (min x y) true (by omega), h]
theorem heat_of {B C : List Tri} (hB : GoodE B) (hC : GoodE C) (h : ∀ x o, AA B x o = AA C x o) : heatingOf B = heatingOf C := by
  refine heat_eqE hB (fun lv o => ?_) ?_
  · rw [h]
    exact needE hC lv o
  · obtain ⟨lv, o, e⟩ := heatE hC
    exact ⟨lv, o, by rw [e, h]⟩
theorem above_sg {g x : Int} {o : Bool} {s : Tri} (h : OkS s) : if s.2.1 < s.1 then 0 ≤ above (bodyS g s) x o else above (bodyS g s) x o ≤ 0 := by
  obtain ⟨a, b, c⟩ := s
  unfold OkS at h
  simp only at h
  simp only
  by_cases w : b < a
  · rw [if_pos w, body_h w, above_m (by omega)]
    exact Int.mul_nonneg (by omega) (by omega)
  · rw [if_neg w, body_c w, above_m (by omega), Int.neg_mul]
    have : 0 ≤ c * max 0 (b - max a x) := Int.mul_nonneg (by omega) (by omega)
    omega
theorem split_pm {ps : List Tri} {s : Tri} (sp : Split s ps) (hs : OkS s) (g x : Int) (o : Bool) :
    (ps.map fun q => max 0 (above (bodyS g q) x o)).sum = max 0 (above (bodyS g s) x o) ∧ (ps.map fun q => max 0 (-above (bodyS g q) x o)).sum = max 0 (-above (bodyS g s) x o) := by
  have h := sp.ab g x o
  have k := above_sg (g := g) (x := x) (o := o) hs
  by_cases w : s.2.1 < s.1
  · rw [if_pos w] at k
    have e : ∀ q ∈ ps, 0 ≤ above (bodyS g q) x o := fun q hq => by
      have := above_sg (g := g) (x := x) (o := o) (sp.ok q hq)
      rwa [if_pos ((sp.hot q hq).mpr w)] at this
    refine ⟨?_, ?_⟩
    · rw [sum_congr (g := fun q => above (bodyS g q) x o) (fun q hq => by have := e q hq; omega), h]
      omega
    · rw [sum_zero (fun q hq => by have := e q hq; omega)]
      omega
  · rw [if_neg w] at k
    have e : ∀ q ∈ ps, above (bodyS g q) x o ≤ 0 := fun q hq => by
      have := above_sg (g := g) (x := x) (o := o) (sp.ok q hq)
      rwa [if_neg (fun z => w ((sp.hot q hq).mp z))] at this
    have n : (ps.map fun q => -above (bodyS g q) x o).sum = -(ps.map fun q => above (bodyS g q) x o).sum := by
      have := map_sub (fun _ => (0 : Int)) (fun q => above (bodyS g q) x o) ps
      rw [sum_zero (f := fun _ : Tri => (0 : Int)) (fun _ _ => rfl)] at this
      rw [show (ps.map fun q => -above (bodyS g q) x o) = ps.map fun q => 0 - above (bodyS g q) x o from List.map_congr_left fun q _ => by omega, this]
      omega
    refine ⟨?_, ?_⟩
    · rw [sum_zero (fun q hq => by have := e q hq; omega)]
      omega
    · rw [sum_congr (g := fun q => -above (bodyS g q) x o) (fun q hq => by have := e q hq; omega), n, h]
      omega
theorem split_given {pre post ps : List Tri} {s : Tri} {bs : List Bx} {g : Int} (sp : Split s ps) (hs : OkS s) (lv : Int) :
    givens (hsOf (pre ++ ps ++ post, bs, g) lv) = givens (hsOf (pre ++ s :: post, bs, g) lv) ∧ -takens (hsOf (pre ++ ps ++ post, bs, g) lv) = -takens (hsOf (pre ++ s :: post, bs, g) lv) := by
  obtain ⟨h1, h2⟩ := split_pm sp hs g lv true
  rw [givens_sum, givens_sum, takens_sum, takens_sum]
  unfold hsOf bodies
  simp only [List.map_append, List.map_cons, List.sum_append, List.sum_cons, List.map_map]
  have e1 : (ps.map ((fun x => max 0 x) ∘ (fun b => above b lv true) ∘ bodyS g)).sum = max 0 (above (bodyS g s) lv true) := h1
  have e2 : (ps.map ((fun x => max 0 (-x)) ∘ (fun b => above b lv true) ∘ bodyS g)).sum = max 0 (-above (bodyS g s) lv true) := h2
  rw [e1, e2]
  constructor <;> omega
/-! lines -/
theorem corn_of {s : Bool} {B C : List Tri} (hB : Side s B) (hC : Side s C) (h : ∀ x o, AA B x o = AA C x o) (t : Int) : corn B t = corn C t := by
  have hw := whole_of (side_up hB) (side_up hC) h
  have e : ∀ x o, hbl B x o = hbl C x o := fun x o => by unfold hbl; rw [hw, h]
  unfold corn
  rw [held_side hB, held_side hC, e, e]
theorem split_side {pre post ps : List Tri} {s : Tri} {bs : List Bx} {g : Int} (sp : Split s ps) (hp : OkP (pre ++ s :: post, bs, g)) (hl : (pre ++ s :: post).length ≤ 4) :
    let o := decide (s.2.1 < s.1)
    (∀ x p, AA (lineB (pre ++ ps ++ post, bs) o) x p = AA (lineB (pre ++ s :: post, bs) o) x p) ∧ (∀ x ∈ tempsOf (lineB (pre ++ s :: post, bs) o), x ∈ tempsOf (lineB (pre ++ ps ++ post, bs) o)) ∧ tempsOf (lineB (pre ++ s :: post, bs) o) ≠ [] := by
  intro o
  have hp' := split_OkP sp hp hl
  have hs : OkS s := hp.ss s (by simp)
  have f1 : someS o (pre ++ s :: post) = someS o pre ++ s :: someS o post := by
    unfold someS
    rw [List.filter_append, List.filter_cons, if_pos]
    show (decide (s.2.1 < s.1) == decide (s.2.1 < s.1)) = true
    simp
  have f2 : someS o (pre ++ ps ++ post) = someS o pre ++ ps ++ someS o post := by
    unfold someS
    rw [List.filter_append, List.filter_append]
    congr 2
    refine List.filter_eq_self.mpr fun q hq => ?_
    show (decide (q.2.1 < q.1) == decide (s.2.1 < s.1)) = true
    simp [sp.hot q hq]
  rw [lineB_eq hp.ss, lineB_eq hp'.ss, f1, f2]
  refine ⟨fun x p => ?_, fun x hx => ?_, ?_⟩
  · have := sp.ab 0 x p
    unfold AA
    simp only [List.map_append, List.map_cons, List.sum_append, List.sum_cons, List.map_map]
    have e : (ps.map ((fun b => above b x p) ∘ bodyS 0)).sum = above (bodyS 0 s) x p := this
    rw [e]
    omega
  · rw [temps_mem] at hx ⊢
    unfold ends2 at *
    simp only [List.mem_flatMap, List.mem_append, List.mem_map, List.mem_cons, List.not_mem_nil, or_false] at *
    obtain ⟨b, hb, hx⟩ := hx
    have en : ∀ q : Tri, (x = (bodyS 0 q).1 ∨ x = (bodyS 0 q).2.1) ↔ (x = q.1 ∨ x = q.2.1) := fun q => by
      unfold bodyS
      split <;> (simp only; omega)
    rcases hb with ⟨q, hq, rfl⟩ | h
    · rcases hq with hq | rfl | hq
      · exact ⟨_, .inl ⟨q, .inl (.inl hq), rfl⟩, hx⟩
      · obtain ⟨r, hr, hx'⟩ := sp.sub x ((en q).mp hx)
        exact ⟨_, .inl ⟨r, .inl (.inr hr), rfl⟩, (en r).mpr hx'⟩
      · exact ⟨_, .inl ⟨q, .inr hq, rfl⟩, hx⟩
    · exact ⟨b, .inr h, hx⟩
  · intro e
    have : (bodyS 0 s).1 ∈ tempsOf (((someS o pre ++ s :: someS o post).map (bodyS 0)) ++ (stepsB o bs).map (bodyB 0)) := by
      rw [temps_mem]
      unfold ends2
      refine List.mem_flatMap.mpr ⟨bodyS 0 s, by simp, by simp⟩
    rw [e] at this
    cases this
theorem line_last {s : Bool} {B : List Tri} (h : Side s B) (ne : tempsOf B ≠ []) : ∃ r t, lineOf B = r ++ [(absI (B.map whole).sum, t)] := by
  rw [line_eq h]
  obtain ⟨ts, t, e⟩ : ∃ ts t, tempsOf B = ts ++ [t] := ⟨_, _, (List.dropLast_concat_getLast ne).symm⟩
  have top : AA B t true = 0 := by
    refine AA_hi0 (side_up h) (t := t) (fun b hb => ?_) (.inr ⟨rfl, rfl⟩)
    have m : b.1 ∈ tempsOf B := temps_mem.mpr (List.mem_flatMap.mpr ⟨b, hb, by simp⟩)
    have asc := ssort_asc (ends2 B)
    have asc : (tempsOf B).Pairwise (· < ·) := asc
    rw [e] at m asc
    rcases List.mem_append.mp m with m | m
    · exact Int.le_of_lt ((List.pairwise_append.mp asc).2.2 _ m t (by simp))
    · rw [List.mem_singleton.mp m]
      exact Int.le_refl _
  have hb : hbl B t true = absI (B.map whole).sum := by unfold hbl; rw [top, Int.sub_zero]
  have hh := held_side h t
  have hm := AA_mono h (x := t) (o := false) (y := t) (p := true) (.inr ⟨rfl, .inl rfl⟩)
  have q1 := hbl_sgn h t false
  have q2 := hbl_sgn h t true
  rw [e, List.flatMap_append, List.flatMap_cons, List.flatMap_nil, List.append_nil]
  unfold corn
  by_cases z : 0 < heldOf B t
  · rw [if_pos z, hb]
    exact ⟨ts.flatMap (corn B) ++ [(hbl B t false, t)], t, by unfold corn; simp⟩
  · rw [if_neg z, show hbl B t false = hbl B t true by omega, hb]
    exact ⟨ts.flatMap (corn B), t, rfl⟩
theorem split_line {pre post ps : List Tri} {s : Tri} {bs : List Bx} {g : Int} (sp : Split s ps) (hp : OkP (pre ++ s :: post, bs, g)) (hl : (pre ++ s :: post).length ≤ 4) :
    let o := decide (s.2.1 < s.1)
    (∀ c ∈ lineOf (lineB (pre ++ s :: post, bs) o), c ∈ lineOf (lineB (pre ++ ps ++ post, bs) o)) ∧ ∃ r1 r2 w t1 t2, lineOf (lineB (pre ++ s :: post, bs) o) = r1 ++ [(w, t1)] ∧ lineOf (lineB (pre ++ ps ++ post, bs) o) = r2 ++ [(w, t2)] := by
  intro o
  have hp' := split_OkP sp hp hl
  obtain ⟨h1, h2, h3⟩ := split_side sp hp hl
  have sB := side_lineB hp o
  have sC := side_lineB hp' o
  refine ⟨fun c hc => ?_, ?_⟩
  · rw [line_eq sB] at hc
    rw [line_eq sC]
    obtain ⟨t, ht, hc⟩ := List.mem_flatMap.mp hc
    exact List.mem_flatMap.mpr ⟨t, h2 t ht, by rw [corn_of sC sB h1]; exact hc⟩
  · obtain ⟨r1, t1, e1⟩ := line_last sB h3
    obtain ⟨x, hx⟩ := List.exists_mem_of_ne_nil _ h3
    obtain ⟨r2, t2, e2⟩ := line_last sC (fun z => by have := h2 x hx; rw [z] at this; cases this)
    rw [whole_of (side_up sC) (side_up sB) h1] at e2
    exact ⟨r1, r2, _, t1, t2, e1, e2⟩
end My

set_option Elab.async false
set_option autoImplicit false
set_option linter.all false
/-! M16: engines: two boxes more -/
namespace My
open DW PySem
def HH (ss : List Tri) (bs : List Bx) (g : Int) : Int := heatingOf (bodies (ss, bs, g))
def WW (ss : List Tri) (bs : List Bx) (g : Int) : Int := ((bodies (ss, bs, g)).map whole).sum
theorem AA_more (ss : List Tri) (bs xs : List Bx) (g x : Int) (o : Bool) : AA (bodies (ss, bs ++ xs, g)) x o = AA (bodies (ss, bs, g)) x o + (xs.map fun b => above (bodyB g b) x o).sum := by
  rw [AA_parts, AA_parts, List.map_append, List.sum_append]
  omega
def blw (x : Int) (o : Bool) (t : Int) : Bool := decide (x < t) || (decide (x = t) && !o)
theorem above_bx (t h x : Int) (o : Bool) : above (t, t, h) x o = if blw x o t = true then h else 0 := by
  unfold above blw
  rw [if_pos rfl]
  by_cases h1 : x < t
  · simp [h1]
  · by_cases h2 : x = t
    · subst h2
      cases o <;> simp
    · have h3 : ¬ t = x := fun z => h2 z.symm
      simp [h1, h2, h3]
theorem same_AA {ss : List Tri} {bs cs : List Bx} {g : Int} (h1 : OkP (ss, bs, g)) (h2 : OkP (ss, cs, g)) (h : ∀ x o, AA (bodies (ss, bs, g)) x o = AA (bodies (ss, cs, g)) x o) : HH ss bs g = HH ss cs g ∧ WW ss bs g = WW ss cs g :=
  ⟨heat_of (goodB h1).e (goodB h2).e h, whole_of (bodies_up h1) (bodies_up h2) h⟩
theorem eng_cancel {ss : List Tri} {top bottom heat work : Int} (h1 : OkP (ss, [], 0)) {bs : List Bx} (h2 : OkP (ss, bs, 0))
    (e : bs = [(top, -heat), (bottom, heat - work)] ++ [(bottom, work - heat), (top, heat)] ∨ bs = [(top, heat), (bottom, work - heat)] ++ [(top, -heat), (bottom, heat - work)]) : HH ss bs 0 = HH ss [] 0 ∧ WW ss bs 0 = WW ss [] 0 := by
  refine same_AA h2 h1 fun x o => ?_
  rw [AA_parts, AA_parts]
  have k : ∀ t h : Int, bodyB 0 (t, h) = (t, t, h) := fun t h => by unfold bodyB; simp
  rcases e with rfl | rfl <;> (simp only [List.cons_append, List.nil_append, List.map_cons, List.map_nil, List.sum_cons, List.sum_nil, k, above_bx]; split <;> split <;> omega)
theorem eng_order {ss : List Tri} {g top bottom heat work : Int} (h1 : OkP (ss, [(bottom, work - heat), (top, heat)], g)) (h2 : OkP (ss, [(top, heat), (bottom, work - heat)], g)) : HH ss [(bottom, work - heat), (top, heat)] g = HH ss [(top, heat), (bottom, work - heat)] g ∧ WW ss [(bottom, work - heat), (top, heat)] g = WW ss [(top, heat), (bottom, work - heat)] g := by
  refine same_AA h1 h2 fun x o => ?_
  rw [AA_parts, AA_parts]
  simp only [List.map_cons, List.map_nil, List.sum_cons, List.sum_nil]
  omega
section
variable {ss : List Tri} {g top bottom heat work : Int} (hp : OkP (ss, [], g)) (hq : OkP (ss, [(top, -heat), (bottom, heat - work)], g)) (hb : bottom < top) (hw : 1 ≤ work) (hh : work < heat)
include hp hq hb hw hh
theorem eng_AA (x : Int) (o : Bool) : AA (bodies (ss, [(top, -heat), (bottom, heat - work)], g)) x o = AA (bodies (ss, [], g)) x o + ((if blw x o top = true then -heat else 0) + (if blw x o (bottom - g) = true then heat - work else 0)) := by
  have := AA_more ss [] [(top, -heat), (bottom, heat - work)] g x o
  rw [List.nil_append] at this
  rw [this]
  have k1 : bodyB g (top, -heat) = (top, top, -heat) := by
    unfold bodyB
    simp only
    rw [if_neg (by omega)]
  have k2 : bodyB g (bottom, heat - work) = (bottom - g, bottom - g, heat - work) := by
    unfold bodyB
    simp only
    rw [if_pos (by omega)]
  simp only [List.map_cons, List.map_nil, List.sum_cons, List.sum_nil, k1, k2, above_bx]
  omega
theorem eng_high (ht : ∀ b ∈ bodies (ss, [], g), b.1 ≤ bottom - g) : HH ss [(top, -heat), (bottom, heat - work)] g = max heat (HH ss [] g + work) := by
  have g0 : 0 ≤ g := hp.g0
  have ge := (goodB hp).e
  have h0 := heat0 ge
  refine heat_eqE (goodB hq).e (fun x o => ?_) ?_
  · rw [eng_AA hp hq hb hw hh]
    have nd := needE ge x o
    unfold HH
    by_cases b2 : blw x o (bottom - g) = true
    · have b1 : blw x o top = true := by
        unfold blw at *
        simp at b2 ⊢
        omega
      rw [if_pos b1, if_pos b2]
      omega
    · have z : AA (bodies (ss, [], g)) x o = 0 := AA_hi0 (bodies_up hp) ht (by
        unfold blw at b2
        simp at b2
        by_cases w : bottom - g < x
        · exact .inl w
        · exact .inr ⟨by omega, b2.2 (by omega)⟩)
      rw [if_neg b2, z]
      split <;> omega
  · unfold HH
    obtain ⟨x, o, e⟩ := heatE ge
    by_cases b2 : blw x o (bottom - g) = true
    · by_cases c : heat ≤ heatingOf (bodies (ss, [], g)) + work
      · have b1 : blw x o top = true := by
          unfold blw at *
          simp at b2 ⊢
          omega
        refine ⟨x, o, ?_⟩
        rw [eng_AA hp hq hb hw hh, if_pos b1, if_pos b2]
        omega
      · refine ⟨bottom - g, true, ?_⟩
        rw [eng_AA hp hq hb hw hh, AA_hi0 (bodies_up hp) ht (.inr ⟨rfl, rfl⟩), if_pos (by unfold blw; simp; omega), if_neg (by unfold blw; simp)]
        omega
    · have z : AA (bodies (ss, [], g)) x o = 0 := AA_hi0 (bodies_up hp) ht (by
        unfold blw at b2
        simp at b2
        by_cases w : bottom - g < x
        · exact .inl w
        · exact .inr ⟨by omega, b2.2 (by omega)⟩)
      refine ⟨bottom - g, true, ?_⟩
      rw [eng_AA hp hq hb hw hh, AA_hi0 (bodies_up hp) ht (.inr ⟨rfl, rfl⟩), if_pos (by unfold blw; simp; omega), if_neg (by unfold blw; simp)]
      omega
theorem eng_low (ht : ∀ b ∈ bodies (ss, [], g), top ≤ b.2.1) : HH ss [(top, -heat), (bottom, heat - work)] g = max (HH ss [] g) (heat - WW ss [] g) := by
  have g0 : 0 ≤ g := hp.g0
  have ge := (goodB hp).e
  have h0 := heat0 ge
  have lo : ∀ x o, blw x o top = true → AA (bodies (ss, [], g)) x o = WW ss [] g := fun x o b => AA_lo0 (bodies_up hp) ht (by
    unfold blw at b
    simp at b
    rcases b with b | b
    · exact .inl b
    · exact .inr b)
  have at0 : -AA (bodies (ss, [(top, -heat), (bottom, heat - work)], g)) top false = heat - WW ss [] g := by
    rw [eng_AA hp hq hb hw hh, lo top false (by unfold blw; simp), if_pos (by unfold blw; simp), if_neg (by unfold blw; simp; omega)]
    omega
  refine heat_eqE (goodB hq).e (fun x o => ?_) ?_
  · rw [eng_AA hp hq hb hw hh]
    have nd := needE ge x o
    unfold HH
    by_cases b1 : blw x o top = true
    · rw [if_pos b1, lo x o b1]
      split <;> omega
    · rw [if_neg b1, if_neg (fun b2 => b1 (by
        unfold blw at *
        simp at b2 ⊢
        omega))]
      omega
  · unfold HH
    obtain ⟨x, o, e⟩ := heatE ge
    by_cases b1 : blw x o top = true
    · refine ⟨top, false, ?_⟩
      rw [at0]
      rw [lo x o b1] at e
      omega
    · by_cases c : heat - WW ss [] g ≤ heatingOf (bodies (ss, [], g))
      · refine ⟨x, o, ?_⟩
        rw [eng_AA hp hq hb hw hh, if_neg b1, if_neg (fun b2 => b1 (by
          unfold blw at *
          simp at b2 ⊢
          omega))]
        omega
      · refine ⟨top, false, ?_⟩
        rw [at0]
        omega
end
end My

set_option Elab.async false
set_option autoImplicit false
set_option linter.all false
set_option maxRecDepth 100000
/-! M26: streams with other rates -/
namespace My
open PySem DW
def rateS (s : Tri) (r : Int) : Tri := (s.1, s.2.1, r)
def reR (ss : List Tri) (rs : List Int) : List Tri := List.zipWith rateS ss rs
def worstR (ss : List Tri) (ws : List Int) : List Int := List.zipWith (fun s w => if s.2.1 < s.1 then s.2.2 - w else s.2.2 + w) ss ws
def heatR (ss : List Tri) (bs : List Bx) (g : Int) (rs : List Int) : Int := heatingOf (bodies (reR ss rs, bs, g))
/-- the ends of a stream's body, its heat a degree -/
def mS (g : Int) (s : Tri) (lv : Int) : Int := if s.2.1 < s.1 then max 0 (s.1 - g - max (s.2.1 - g) lv) else max 0 (s.2.1 - max s.1 lv)
theorem mS_nn {g : Int} {s : Tri} {lv : Int} : 0 ≤ mS g s lv := by
  unfold mS
  split <;> omega
theorem above_rate {g : Int} {s : Tri} (h : s.1 ≠ s.2.1) (r lv : Int) (o : Bool) : above (bodyS g (rateS s r)) lv o = (if s.2.1 < s.1 then r else -r) * mS g s lv := by
  unfold above bodyS rateS mS
  by_cases c : s.2.1 < s.1
  · simp only [if_pos c]
    rw [if_neg (by omega)]
  · simp only [if_neg c]
    rw [if_neg (by omega)]
/-- other rates that are no better -/
def Wd (ss : List Tri) (rs rs' : List Int) : Prop := ∀ (i : Nat) (s : Tri) (r r' : Int), ss[i]? = some s → rs[i]? = some r → rs'[i]? = some r' → if s.2.1 < s.1 then r' ≤ r else r ≤ r'
theorem Wd.tail {s : Tri} {ss : List Tri} {r r' : Int} {rs rs' : List Int} (h : Wd (s :: ss) (r :: rs) (r' :: rs')) : Wd ss rs rs' := fun i t a b h1 h2 h3 => h (i + 1) t a b h1 h2 h3
theorem sum_worse {g lv : Int} {o : Bool} : ∀ (ss : List Tri) (rs rs' : List Int), rs.length = ss.length → rs'.length = ss.length → (∀ s ∈ ss, s.1 ≠ s.2.1) → Wd ss rs rs' →
    ((reR ss rs').map fun s => above (bodyS g s) lv o).sum ≤ ((reR ss rs).map fun s => above (bodyS g s) lv o).sum
  | [], _, _, _, _, _, _ => by simp [reR]
  | s :: ss, r :: rs, r' :: rs', h1, h2, hs, w => by
    have ih := sum_worse (g := g) (lv := lv) (o := o) ss rs rs' (by simpa using h1) (by simpa using h2) (fun t ht => hs t (List.mem_cons_of_mem _ ht)) w.tail
    have e : reR (s :: ss) (r :: rs) = rateS s r :: reR ss rs := rfl
    have e' : reR (s :: ss) (r' :: rs') = rateS s r' :: reR ss rs' := rfl
    rw [e, e', List.map_cons, List.map_cons, List.sum_cons, List.sum_cons]
    have w0 := w 0 s r r' rfl rfl rfl
    have hn := hs s List.mem_cons_self
    have key : above (bodyS g (rateS s r')) lv o ≤ above (bodyS g (rateS s r)) lv o := by
      rw [above_rate hn, above_rate hn]
      refine Int.mul_le_mul_of_nonneg_right ?_ mS_nn
      split at w0 <;> omega
    omega
structure RtOk (ss : List Tri) (rs : List Int) : Prop where
  len : rs.length = ss.length
  bd : ∀ r ∈ rs, 0 ≤ r ∧ r ≤ 1000
theorem mem_reR {ss : List Tri} {rs : List Int} {t : Tri} (h : t ∈ reR ss rs) : ∃ s ∈ ss, ∃ r ∈ rs, t = rateS s r := by
  unfold reR at h
  obtain ⟨i, hi⟩ := List.getElem?_of_mem h
  rw [List.getElem?_zipWith] at hi
  cases e1 : ss[i]? with
  | none => rw [e1] at hi; cases hi
  | some s =>
    cases e2 : rs[i]? with
    | none => rw [e1, e2] at hi; cases hi
    | some r =>
      rw [e1, e2] at hi
      cases hi
      exact ⟨s, List.mem_of_getElem? e1, r, List.mem_of_getElem? e2, rfl⟩
theorem reR_len {ss : List Tri} {rs : List Int} (h : rs.length = ss.length) : (reR ss rs).length = ss.length := by
  unfold reR
  rw [List.length_zipWith, h, Nat.min_self]
theorem goodR {ss : List Tri} {bs : List Bx} {g : Int} {rs : List Int} (hp : OkP (ss, bs, g)) (h : RtOk ss rs) : GoodB (bodies (reR ss rs, bs, g)) := by
  have hl := reR_len h.len
  have h6 : ss.length ≤ 6 := hp.ls
  have h4 : bs.length ≤ 4 := hp.lb
  refine ⟨?_, fun b hb => ?_, fun e => ?_, fun b hb => ?_⟩
  · simp only [bodies, List.length_append, List.length_map]
    omega
  · simp only [bodies, List.mem_append, List.mem_map] at hb
    rcases hb with ⟨s, hs, rfl⟩ | ⟨s, hs, rfl⟩
    · obtain ⟨s0, _, r, hr, rfl⟩ := mem_reR hs
      have := h.bd r hr
      unfold bodyS rateS
      split <;> simp only <;> omega
    · obtain ⟨_, _, a, b, _⟩ := hp.bs s hs
      exact ⟨a, b⟩
  · have hne : bodies (reR ss rs, bs, g) ≠ [] := fun e2 => by
      have := hp.ne
      unfold bodies at e2
      simp only [List.append_eq_nil_iff, List.map_eq_nil_iff] at e2
      rcases this with z | z
      · have y : (reR ss rs).length = 0 := by rw [e2.1]; rfl
        exact z (List.length_eq_zero_iff.mp (show ss.length = 0 by omega))
      · exact z e2.2
    obtain ⟨b, r, hbr⟩ := List.exists_cons_of_ne_nil hne
    have := (mem_levels (bs := bodies (reR ss rs, bs, g)) (b := b) (by rw [hbr]; exact List.mem_cons_self)).1
    rw [e] at this
    cases this
  · simp only [bodies, List.mem_append, List.mem_map] at hb
    unfold Up
    rcases hb with ⟨s, hs, rfl⟩ | ⟨s, hs, rfl⟩
    · unfold bodyS
      split <;> simp only <;> omega
    · unfold bodyB
      exact Int.le_refl _
theorem heat_worse {ss : List Tri} {bs : List Bx} {g : Int} {rs rs' : List Int} (hp : OkP (ss, bs, g)) (h : RtOk ss rs) (h' : RtOk ss rs') (w : Wd ss rs rs') : heatR ss bs g rs ≤ heatR ss bs g rs' := by
  obtain ⟨lv, o, _, e⟩ := heat_at (goodR hp h)
  have n := need_any (goodR hp h') lv o
  have hs := sum_worse (g := g) (lv := lv) (o := o) ss rs rs' h.len h'.len (fun s hs => (hp.ss s hs).2.2.2.2.2.2) w
  unfold heatR
  rw [e]
  refine Int.le_trans ?_ n
  rw [AA_parts, AA_parts]
  omega
/-- spreads of a problem -/
structure SpOk (ss : List Tri) (ws : List Int) : Prop where
  len : ws.length = ss.length
  bd : ∀ (i : Nat) (s : Tri) (w : Int), ss[i]? = some s → ws[i]? = some w → 0 ≤ w ∧ w ≤ s.2.2 - 1
theorem worst_at {ss : List Tri} {ws : List Int} {i : Nat} {s : Tri} {w : Int} (h1 : ss[i]? = some s) (h2 : ws[i]? = some w) : (worstR ss ws)[i]? = some (if s.2.1 < s.1 then s.2.2 - w else s.2.2 + w) := by
  unfold worstR
  rw [List.getElem?_zipWith, h1, h2]
theorem worst_len {ss : List Tri} {ws : List Int} (h : ws.length = ss.length) : (worstR ss ws).length = ss.length := by
  unfold worstR
  rw [List.length_zipWith, h, Nat.min_self]
theorem at_both {ss : List Tri} {ws : List Int} {i : Nat} (h : ws.length = ss.length) (hi : i < ss.length) : ∃ s w, ss[i]? = some s ∧ ws[i]? = some w := ⟨ss[i], ws[i]'(by omega), by simp [hi], by simp [h, hi]⟩
theorem worst_ok {ss : List Tri} {bs : List Bx} {g : Int} {ws : List Int} (hp : OkP (ss, bs, g)) (h : SpOk ss ws) : RtOk ss (worstR ss ws) := by
  refine ⟨worst_len h.len, fun r hr => ?_⟩
  obtain ⟨i, hi⟩ := List.getElem?_of_mem hr
  have hl := (List.getElem?_eq_some_iff.mp hi).1
  rw [worst_len h.len] at hl
  obtain ⟨s, w, h1, h2⟩ := at_both h.len hl
  rw [worst_at h1 h2] at hi
  have hb := h.bd i s w h1 h2
  obtain ⟨_, _, _, _, a, b, _⟩ := hp.ss s (List.mem_of_getElem? h1)
  cases hi
  split <;> omega
theorem wd_wider {ss : List Tri} {ws ws' : List Int} (h : ws.length = ss.length) (h' : ws'.length = ss.length) (hw : ∀ (i : Nat) (w w' : Int), ws[i]? = some w → ws'[i]? = some w' → w ≤ w') : Wd ss (worstR ss ws) (worstR ss ws') := by
  intro i s r r' h1 h2 h3
  have hl := (List.getElem?_eq_some_iff.mp h1).1
  obtain ⟨_, w, _, a2⟩ := at_both h hl
  obtain ⟨_, w', _, b2⟩ := at_both h' hl
  rw [worst_at h1 a2] at h2
  rw [worst_at h1 b2] at h3
  have := hw i w w' a2 b2
  cases h2
  cases h3
  split <;> omega
theorem worst_zero : ∀ (ss : List Tri), worstR ss (List.replicate ss.length 0) = ss.map fun s => s.2.2
  | [] => rfl
  | s :: ss => by
    have e : worstR (s :: ss) (List.replicate (s :: ss).length 0) = (if s.2.1 < s.1 then s.2.2 - 0 else s.2.2 + 0) :: worstR ss (List.replicate ss.length 0) := rfl
    rw [e, worst_zero ss, List.map_cons]
    congr 1
    split <;> omega
theorem reR_same : ∀ (ss : List Tri), reR ss (ss.map fun s => s.2.2) = ss
  | [] => rfl
  | s :: ss => by
    have e : reR (s :: ss) ((s :: ss).map fun s => s.2.2) = rateS s s.2.2 :: reR ss (ss.map fun s => s.2.2) := rfl
    rw [e, reR_same ss]
    rfl
theorem sp_zero {ss : List Tri} {bs : List Bx} {g : Int} (hp : OkP (ss, bs, g)) : SpOk ss (List.replicate ss.length 0) := ⟨List.length_replicate, fun i s w h1 h2 => by
  have hw : w = 0 := List.eq_of_mem_replicate (List.mem_of_getElem? h2)
  obtain ⟨_, _, _, _, a, _, _⟩ := hp.ss s (List.mem_of_getElem? h1)
  omega⟩
/-- rates between -/
theorem wd_between {ss : List Tri} {ws rs : List Int} (h : ws.length = ss.length) (hb : ∀ (i : Nat) (s : Tri) (w r : Int), ss[i]? = some s → ws[i]? = some w → rs[i]? = some r → s.2.2 - w ≤ r ∧ r ≤ s.2.2 + w) : Wd ss rs (worstR ss ws) := by
  intro i s r r' h1 h2 h3
  have hl := (List.getElem?_eq_some_iff.mp h1).1
  obtain ⟨_, w, _, a2⟩ := at_both h hl
  rw [worst_at h1 a2] at h3
  have := hb i s w r h1 a2 h2
  cases h3
  split <;> omega
theorem ok_between {ss : List Tri} {bs : List Bx} {g : Int} {rs : List Int} (hp : OkP (ss, bs, g)) (hl : rs.length = ss.length) (hr : ∀ r ∈ rs, 1 ≤ r ∧ r ≤ 100) : OkP (reR ss rs, bs, g) := by
  refine ⟨fun t ht => ?_, hp.bs, by rw [show (reR ss rs, bs, g).1.length = ss.length from reR_len hl]; exact hp.ls, hp.lb, hp.g0, hp.g1, ?_⟩
  · obtain ⟨s, hs, r, hrr, rfl⟩ := mem_reR ht
    obtain ⟨a1, a2, a3, a4, _, _, a7⟩ := hp.ss s hs
    have := hr r hrr
    exact ⟨a1, a2, a3, a4, this.1, this.2, a7⟩
  · rcases hp.ne with z | z
    · left
      intro e
      have y : (reR ss rs).length = 0 := by rw [show reR ss rs = [] from e]; rfl
      rw [reR_len hl] at y
      exact z (List.length_eq_zero_iff.mp y)
    · exact .inr z
end My

set_option Elab.async false
set_option autoImplicit false
set_option linter.all false
set_option maxRecDepth 100000
set_option maxHeartbeats 1000000
namespace My
open PySem DW
local macro_rules | `(tactic| simp_arith [$xs,*]) => `(tactic| simp only [↓Mng.E_nm, ↓Mng.E_gl, ↓Mng.E_cn, ↓Mng.E_ng, ↓Mng.E_nt, ↓Mng.E_bn, ↓Mng.E_cp, ↓Mng.E_ch, ↓Mng.E_an, ↓Mng.E_ro, ↓Mng.E_ie, ↓Mng.E_tu, ↓Mng.E_li, ↓Mng.E_ix, ↓Mng.E_ixo, ↓Mng.E_s2, ↓Mng.E_sL, ↓Mng.E_sH, ↓Mng.E_rv, ↓Mng.E_d0, ↓Mng.E_fs, ↓Mng.E_bi, ↓Mng.E_ln, ↓Mng.E_isi, ↓Mng.E_isj, ↓Mng.E_call, ↓Mng.E_calo, ↓Mng.E_calq, ↓Mng.E_caloq, ↓Mng.E_told, ↓Mng.E_lc, ↓Mng.E_ss, ↓Mng.E_mxd, ↓Mng.E_c4, ↓Mng.E_ma, ↓Mng.E_lc2, ↓Mng.A_nil, ↓Mng.A_cons, ↓Mng.J_nil, ↓Mng.J_cons, ↓Mng.T_cp, ↓Mng.T_ch, ↓Mng.T_nt, ↓Mng.T_an, ↓Mng.T_ro, ↓Mng.T_v, ↓Mng.T_vl, ↓Mng.T_c4, ↓Mng.F_nil, ↓Mng.F_one, ↓Mng.I_e, ↓Mng.I_r1, ↓Mng.I_r2, ↓Mng.I_en, ↓Mng.I_zp, ↓Mng.I_z3, ↓Mng.ex_nil0, ↓Mng.ex_nil1, ↓Mng.ex_set, ↓Mng.ex_asg, ↓Mng.ex_par, ↓Mng.ex_par3, ↓Mng.ex_app, ↓Mng.ex_sti, ↓Mng.ex_sti2, ↓Mng.ex_augs, ↓Mng.ex_aug, ↓Mng.ex_iff, ↓Mng.ex_ret, ↓Mng.ex_retN, ↓Mng.ex_pass, ↓Mng.ex_brk, ↓Mng.ex_cnt, ↓Mng.ex_drop, ↓Mng.ex_rai, ↓Mng.ex_raif, ↓Mng.ex_dead, ↓Mng.ex_tryq, ↓Mng.ex_fo, ↓Mng.ex_wh, ↓runP, ↓runO, ↓ph_nx, ↓ph_rt, ↓ph_bk, ↓ph_ct, ↓wpG, ↓wpGs, ↓binK, ↓augK, ↓cmpK, ↓truK, ↓isiK, ↓isjK, ↓bltK, ↓frzK, ↓fpK, ↓foK, ↓fqK, ↓oqK, ↓ftK, ↓fyK, ↓fmK, ↓fm_s, ↓fm_i, ↓frz_pd, ↓frz_ow, ↓frz_un, ↓frz_dk, ↓frz_dt, ↓bi_add, ↓bi_addL, ↓bi_addT, ↓bi_sub, ↓bi_mul, ↓bi_rep, ↓bi_repT, ↓bi_shl, ↓bi_shr, ↓bi_band, ↓bi_bor, ↓bi_mod, ↓bi_fdiv, ↓bi_pow, ↓au_add, ↓au_sub, ↓ci_lt, ↓ci_le, ↓ci_gt, ↓ci_ge, ↓ci_eq, ↓ci_ne, ↓ci_eqB, ↓ci_neB, ↓ci_eqT, ↓ci_eqL, ↓ci_eqN, ↓ci_eqS, ↓ci_neT, ↓ci_neL, ↓ci_neN, ↓ci_neS, ↓ci_is, ↓ci_isn, ↓ci_isB, ↓ci_isnB, ↓ci_inL, ↓ci_inT, ↓ci_ninL, ↓ci_ninT, ↓nn_n, ↓nn_i, ↓nn_b, ↓nn_s, ↓nn_l, ↓nn_t, ↓nn_d, ↓ti_n, ↓ti_b, ↓ti_i, ↓ti_l, ↓ti_t, ↓ii_n, ↓ii_b, ↓ii_i, ↓ii_s, ↓ii_l, ↓ii_t, ↓ii_d, ↓ij_n, ↓ij_b, ↓ij_i, ↓ij_s, ↓ij_l, ↓ij_t, ↓ij_d, ↓bt_lenL, ↓bt_lenT, ↓bt_lenF, ↓bt_max2, ↓bt_maxL, ↓bt_maxT, ↓bt_sumT, ↓bt_min2, ↓bt_minL, ↓bt_minT, ↓bt_abs, ↓bt_sum, ↓bt_any, ↓bt_all, ↓bt_sorted, ↓bt_listL, ↓bt_listT, ↓bt_tupL, ↓bt_tupT, ↓bt_int, ↓bt_intB, ↓bt_str, ↓sub, ↓nrm_pd, ↓nrm_ow, ↓nrm_un, ↓wipeR, ↓rstR, ↓opW, ↓opI_some, ↓owW, ↓ow0, ↓IxD, ↓at0, ↓at1, ↓at2, ↓at3, ↓ix40, ↓ix41, ↓ix42, ↓ix43, ↓intsOf, ↓boolsOf, ↓mthW, ↓seqOf, opI_some, ↓List.map_cons, ↓List.map_nil, List.length_cons, List.length_nil, ↓List.cons_append, ↓List.nil_append, ↓List.getElem?_cons_zero, ↓List.getElem?_cons_succ, ↓List.set_cons_zero, ↓List.set_cons_succ, Nat.reduceSub, Nat.reduceAdd, Nat.reduceLeDiff, ↓List.replicate, true_and, and_true, forall_const, true_implies, false_implies, Bool.not_true, Bool.not_false, implies_true, reduceCtorEq, Option.isSome_some, Int.cast_ofNat_Int, Int.reduceLE, Int.reduceLT, Int.reduceEq, Int.reduceNe, decide_true, decide_false, Bool.and_self, Bool.and_true, Bool.true_and, Bool.and_false, Bool.false_and, Bool.not_not, Bool.or_false, Bool.or_true, Bool.false_or, Bool.true_or, Bool.or_self, Nat.reduceLT, Nat.reduceEqDiff, Option.map_some, Option.map_none, $xs,*])
def pr_check_spreads : Prm := { N := ["problem", "spreads", "streams", "spread", "_", "rate"], B := ["len", "zip"], G := [], F := ["check_problem", "is_row", "is_within"], O := [], M := [] }
def ir_check_spreads : IB :=
  (.cons (.drop (.call "check_problem" (.cons (.nm 0) .nil)))
  (.cons (.set 2 (.ixo 0 (.cn (.int 0))))
  (.cons (.iff (.nt (.v (.call "is_row" (.cons (.nm 1) (.cons (.ln 2) (.cons (.ln 2) .nil))))))
  (.cons .dead
  .nil)
  .nil)
  (.cons (.fo (.tp [(.nm 3), (.tp [(.nm 4), (.nm 4), (.nm 5)])]) (.zp (.nm 1) (.nm 2))
  (.cons (.iff (.nt (.v (.call "is_within" (.cons (.nm 3) (.cons (.cn (.int 0)) (.cons (.bn .Sub (.nm 5) (.cn (.int 1))) .nil))))))
  (.cons .dead
  .nil)
  .nil)
  .nil))
  .nil))))
def pr_worst_of : Prm := { N := ["problem", "spreads", "rates", "start", "goal", "rate", "spread"], B := ["zip", "tuple"], G := [], F := [], O := [], M := [] }
def ir_worst_of : IB :=
  (.cons (.set 2 (.li .nil))
  (.cons (.fo (.tp [(.tp [(.nm 3), (.nm 4), (.nm 5)]), (.nm 6)]) (.zp (.ixo 0 (.cn (.int 0))) (.nm 1))
  (.cons (.app 2 (.ie (.cp .Gt (.nm 3) (.nm 4)) (.bn .Sub (.nm 5) (.nm 6)) (.bn .Add (.nm 5) (.nm 6))))
  .nil))
  (.cons (.ret (.bi .tuple (.cons (.nm 2) .nil)))
  .nil)))
def pr_heating_with : Prm := { N := ["problem", "rates", "streams", "boxes", "gap", "changed", "rate", "start", "goal", "_"], B := ["zip"], G := [], F := ["heating_of", "bodies_of"], O := [], M := [] }
def ir_heating_with : IB :=
  (.cons (.asg (.tp [(.nm 2), (.nm 3), (.nm 4)]) (.nm 0))
  (.cons (.set 5 (.lc (.tu (.cons (.nm 7) (.cons (.nm 8) (.cons (.nm 6) .nil)))) (.tp [(.tp [(.nm 7), (.nm 8), (.nm 9)]), (.nm 6)]) (.zp (.nm 2) (.nm 1)) .nil [7, 8, 9, 6]))
  (.cons (.ret (.call "heating_of" (.cons (.call "bodies_of" (.cons (.tu (.cons (.nm 5) (.cons (.nm 3) (.cons (.nm 4) .nil)))) .nil)) .nil)))
  .nil)))
def pr_worst_heating : Prm := { N := ["problem", "spreads"], B := [], G := [], F := ["check_spreads", "heating_with", "worst_of"], O := [], M := [] }
def ir_worst_heating : IB :=
  (.cons (.drop (.call "check_spreads" (.cons (.nm 0) (.cons (.nm 1) .nil))))
  (.cons (.ret (.call "heating_with" (.cons (.nm 0) (.cons (.call "worst_of" (.cons (.nm 0) (.cons (.nm 1) .nil))) .nil))))
  .nil))
def pr_worst_rates : Prm := { N := ["problem", "spreads"], B := [], G := [], F := ["check_spreads", "worst_of"], O := [], M := [] }
def ir_worst_rates : IB :=
  (.cons (.drop (.call "check_spreads" (.cons (.nm 0) (.cons (.nm 1) .nil))))
  (.cons (.ret (.call "worst_of" (.cons (.nm 0) (.cons (.nm 1) .nil))))
  .nil))
def pr_shows_rates : Prm := { N := ["problem", "spreads", "value", "streams", "rate", "_", "middle", "spread"], B := ["len", "all", "zip"], G := [], F := ["check_spreads", "is_row", "is_integer", "heating_with", "worst_of"], O := [], M := [] }
def ir_shows_rates : IB :=
  (.cons (.drop (.call "check_spreads" (.cons (.nm 0) (.cons (.nm 1) .nil))))
  (.cons (.set 3 (.ixo 0 (.cn (.int 0))))
  (.cons (.iff (.ro (.nt (.v (.call "is_row" (.cons (.nm 2) (.cons (.ln 3) (.cons (.ln 3) .nil)))))) (.nt (.v (.bi .all (.cons (.lc (.calq "is_integer" (.cons (.nm 4) .nil)) (.nm 4) (.e (.nm 2)) .nil [4]) .nil)))))
  (.cons (.ret (.cn (.bool false)))
  .nil)
  .nil)
  (.cons (.fo (.tp [(.nm 4), (.tp [(.nm 5), (.nm 5), (.nm 6)]), (.nm 7)]) (.z3 (.nm 2) (.nm 3) (.nm 1))
  (.cons (.iff (.cp .NotIn (.nm 4) (.tu (.cons (.bn .Sub (.nm 6) (.nm 7)) (.cons (.bn .Add (.nm 6) (.nm 7)) .nil))))
  (.cons (.ret (.cn (.bool false)))
  .nil)
  .nil)
  .nil))
  (.cons (.ret (.cp .Eq (.call "heating_with" (.cons (.nm 0) (.cons (.nm 2) .nil))) (.call "heating_with" (.cons (.nm 0) (.cons (.call "worst_of" (.cons (.nm 0) (.cons (.nm 1) .nil))) .nil)))))
  .nil)))))

variable {T : Tb} (S : Mng T)
theorem zipD_map {α β : Type} (f : α → D) (g : β → D) : ∀ (xs : List α) (ys : List β), zipD (xs.map f) (ys.map g) = (xs.zip ys).map fun p => .tuple [f p.1, g p.2]
  | [], _ => rfl
  | _ :: _, [] => rfl
  | x :: xs, y :: ys => by
    show _ :: zipD (xs.map f) (ys.map g) = _
    rw [zipD_map f g xs ys]
    rfl
theorem zipN_map {α β γ : Type} (f : α → D) (g : β → D) (h : γ → D) : ∀ (xs : List α) (ys : List β) (zs : List γ), zipN [xs.map f, ys.map g, zs.map h] = (xs.zip (ys.zip zs)).map fun p => .tuple [f p.1, g p.2.1, h p.2.2]
  | [], _, _ => rfl
  | _ :: _, [], _ => rfl
  | _ :: _, _ :: _, [] => rfl
  | x :: xs, y :: ys, z :: zs => by
    show _ :: zipN [xs.map f, ys.map g, zs.map h] = _
    rw [zipN_map f g h xs ys zs]
    rfl
theorem mem_zip_at {α β : Type} {xs : List α} {ys : List β} {p : α × β} (h : p ∈ xs.zip ys) : ∃ i : Nat, xs[i]? = some p.1 ∧ ys[i]? = some p.2 := by
  obtain ⟨i, hi⟩ := List.getElem?_of_mem h
  exact ⟨i, List.getElem?_zip_eq_some.mp hi⟩
def c_check_spreads : Ct := fun ds Q _ => match ds with
  | [.tuple [.tuple s, .tuple b, .int g], .tuple w] => ∃ (ss : List Tri) (bs : List Bx) (ws : List Int), s = ss.map encT ∧ b = bs.map encB ∧ w = ws.map .int ∧ OkP (ss, bs, g) ∧ SpOk ss ws ∧ Q .none
  | _ => False
theorem w_check_spreads (h1 : T.fp "check_problem" = c_check_problem) (h2 : T.fp "is_row" = c_is_row) (h3 : T.fp "is_within" = c_is_within) : ∀ ds Q, c_check_spreads ds Q T.xk → ds.length = 2 ∧ runP S 6 ir_check_spreads ds Q := by
  intro ds Q h
  unfold c_check_spreads at h
  split at h
  · rename_i s0 b0 g w0
    obtain ⟨ss, bs, ws, rfl, rfl, rfl, hp, hw, q⟩ := h
    refine ⟨rfl, ?_⟩
    unfold ir_check_spreads
    simp_arith [↓fpI_of h1, ↓fqI_of h1, ↓ftI_of h1, ↓fyI_of h1, ↓c_check_problem, ↓fpI_of h2, ↓fqI_of h2, ↓ftI_of h2, ↓fyI_of h2, ↓c_is_row, ↓kdS_t, ↓rowD_t]
    refine ⟨ss, bs, rfl, rfl, hp, ?_⟩
    refine ⟨fun z => ?_, fun _ => ?_⟩
    · rw [List.length_map, List.length_map, hw.len] at z
      simp at z
    rw [zipD_map]
    refine S.loop (fun _ ρ => ∃ a b c, ρ = [.pd (.tuple [.tuple (ss.map encT), .tuple (bs.map encB), .int g]), .pd (.tuple (ws.map .int)), .pd (.tuple (ss.map encT)), a, b, c]) ⟨_, _, _, rfl⟩ ?_ ?_
    · rintro pre ⟨w, a, b, c⟩ post ρ Φ' hl ⟨_, _, _, rfl⟩ hn hc - -
      obtain ⟨i, e1, e2⟩ := mem_zip_at (p := (w, (a, b, c))) (show (w, (a, b, c)) ∈ ws.zip ss by rw [hl]; simp)
      have hb := hw.bd i _ w e2 e1
      simp only at hb
      simp_arith [↓encT, ↓fpI_of h3, ↓fqI_of h3, ↓ftI_of h3, ↓fyI_of h3, ↓c_is_within, ↓kdS_i, ↓withinD_i]
      refine ⟨fun z => ?_, fun _ => hn _ ⟨_, _, _, rfl⟩⟩
      simp at z
      omega
    · rintro ρ ⟨_, _, _, rfl⟩
      simp_arith [true_and]
      exact q
  · exact h.elim
def c_worst_of : Ct := fun ds Q _ => match ds with
  | [.tuple [.tuple s, .tuple b, .int g], .tuple w] => ∃ (ss : List Tri) (ws : List Int), s = ss.map encT ∧ w = ws.map .int ∧ ws.length = ss.length ∧ ss.length ≤ 6 ∧ Q (.tuple ((worstR ss ws).map .int))
  | _ => False
theorem worst_app {ss : List Tri} {ws : List Int} {pre post : List (Tri × Int)} {a b c w : Int} (h : ss.zip ws = pre ++ ((a, b, c), w) :: post) : (worstR ((pre ++ [((a, b, c), w)]).map (·.1)) ((pre ++ [((a, b, c), w)]).map (·.2))) = worstR (pre.map (·.1)) (pre.map (·.2)) ++ [if b < a then c - w else c + w] := by
  unfold worstR
  rw [List.map_append, List.map_append, List.zipWith_append (by simp)]
  rfl
theorem w_worst_of : ∀ ds Q, c_worst_of ds Q T.xk → ds.length = 2 ∧ runP S 7 ir_worst_of ds Q := by
  intro ds Q h
  unfold c_worst_of at h
  split at h
  · rename_i s0 b0 g0 w0
    obtain ⟨ss, ws, rfl, rfl, hl, h6, q⟩ := h
    refine ⟨rfl, ?_⟩
    unfold ir_worst_of
    simp_arith [true_and]
    rw [zipD_map]
    refine S.loop (fun pre ρ => ∃ a b c d, ρ = [.pd (.tuple [.tuple (ss.map encT), .tuple b0, .int g0]), .pd (.tuple (ws.map .int)), .ow none (.lst ((worstR (pre.map (·.1)) (pre.map (·.2))).map .int)), a, b, c, d]) ⟨_, _, _, _, rfl⟩ ?_ ?_
    · rintro pre ⟨⟨a, b, c⟩, w⟩ post ρ Φ' hz ⟨_, _, _, _, rfl⟩ hn hc - -
      have e := worst_app hz
      have hlen : (pre.map (fun p : Tri × Int => p.1)).length ≤ 6 := by
        have := congrArg List.length hz
        rw [List.length_zip, List.length_append, List.length_cons] at this
        rw [List.length_map]
        omega
      have hlen2 : (((worstR (pre.map (·.1)) (pre.map (·.2))).map PyData.int)).length < 100000 := by
        rw [List.length_map]
        unfold worstR
        rw [List.length_zipWith]
        omega
      simp_arith [↓encT]
      refine ⟨fun z => ⟨hlen2, ?_⟩, fun z => ⟨hlen2, ?_⟩⟩
      · rw [if_pos (of_decide_eq_true z)] at e
        exact hn _ ⟨.pd (.int a), .pd (.int b), .pd (.int c), .pd (.int w), by rw [e, List.map_append]; rfl⟩
      · rw [if_neg (of_decide_eq_false z)] at e
        exact hn _ ⟨.pd (.int a), .pd (.int b), .pd (.int c), .pd (.int w), by rw [e, List.map_append]; rfl⟩
    · rintro ρ ⟨_, _, _, _, rfl⟩
      simp_arith [true_and]
      rw [List.map_fst_zip (by omega), List.map_snd_zip (by omega)]
      exact q
  · exact h.elim
def c_heating_with : Ct := fun ds Q _ => match ds with
  | [.tuple [.tuple s, .tuple b, .int g], .tuple r] => ∃ (ss : List Tri) (bs : List Bx) (rs : List Int), s = ss.map encT ∧ b = bs.map encB ∧ r = rs.map .int ∧ OkP (ss, bs, g) ∧ RtOk ss rs ∧ Q (.int (heatR ss bs g rs))
  | _ => False
theorem reR_zip (ss : List Tri) (rs : List Int) : (ss.zip rs).map (fun p : Tri × Int => encT (rateS p.1 p.2)) = (reR ss rs).map encT := by
  unfold reR
  rw [List.zip_eq_zipWith, List.map_zipWith, List.map_zipWith]
theorem w_heating_with (h1 : T.fp "heating_of" = c_heating_of) (h2 : T.fp "bodies_of" = c_bodies_of) : ∀ ds Q, c_heating_with ds Q T.xk → ds.length = 2 ∧ runP S 10 ir_heating_with ds Q := by
  intro ds Q h
  unfold c_heating_with at h
  split at h
  · obtain ⟨ss, bs, rs, rfl, rfl, rfl, hp, hr, q⟩ := h
    refine ⟨rfl, ?_⟩
    have h6 : ss.length ≤ 6 := hp.ls
    unfold ir_heating_with
    simp_arith [true_and]
    rw [zipD_map]
    refine ⟨by rw [List.length_map, List.length_zip]; omega, S.lcm (fun p : Tri × Int => encT (rateS p.1 p.2)) ?_ ?_⟩
    · rintro ⟨⟨a, b, c⟩, r⟩ hx K hK
      simp_arith [↓encT]
      exact hK
    · rw [reR_zip]
      simp_arith [↓fpI_of h2, ↓fqI_of h2, ↓ftI_of h2, ↓fyI_of h2, ↓c_bodies_of, ↓fpI_of h1, ↓fqI_of h1, ↓ftI_of h1, ↓fyI_of h1, ↓c_heating_of, ↓encTs]
      exact ⟨reR ss rs, bs, rfl, rfl, by rw [reR_len hr.len]; omega, hp.lb, _, rfl, (goodR hp hr).lr, q⟩
  · exact h.elim
def c_worst_heating : Ct := fun ds Q _ => match ds with
  | [.tuple [.tuple s, .tuple b, .int g], .tuple w] => ∃ (ss : List Tri) (bs : List Bx) (ws : List Int), s = ss.map encT ∧ b = bs.map encB ∧ w = ws.map .int ∧ OkP (ss, bs, g) ∧ SpOk ss ws ∧ Q (.int (heatR ss bs g (worstR ss ws)))
  | _ => False
theorem w_worst_heating (h1 : T.fp "check_spreads" = c_check_spreads) (h2 : T.fp "heating_with" = c_heating_with) (h3 : T.fp "worst_of" = c_worst_of) : ∀ ds Q, c_worst_heating ds Q T.xk → ds.length = 2 ∧ runP S 2 ir_worst_heating ds Q := by
  intro ds Q h
  unfold c_worst_heating at h
  split at h
  · obtain ⟨ss, bs, ws, rfl, rfl, rfl, hp, hw, q⟩ := h
    refine ⟨rfl, ?_⟩
    unfold ir_worst_heating
    simp_arith [↓fpI_of h1, ↓fqI_of h1, ↓ftI_of h1, ↓fyI_of h1, ↓fpI_of h2, ↓fqI_of h2, ↓ftI_of h2, ↓fyI_of h2, ↓fpI_of h3, ↓fqI_of h3, ↓ftI_of h3, ↓fyI_of h3, ↓c_check_spreads, ↓c_heating_with, ↓c_worst_of]
    exact ⟨ss, bs, ws, rfl, rfl, rfl, hp, hw, ss, ws, rfl, rfl, hw.len, hp.ls, ss, bs, _, rfl, rfl, rfl, hp, worst_ok hp hw, q⟩
  · exact h.elim
def c_worst_rates : Ct := fun ds Q _ => match ds with
  | [.tuple [.tuple s, .tuple b, .int g], .tuple w] => ∃ (ss : List Tri) (bs : List Bx) (ws : List Int), s = ss.map encT ∧ b = bs.map encB ∧ w = ws.map .int ∧ OkP (ss, bs, g) ∧ SpOk ss ws ∧ Q (.tuple ((worstR ss ws).map .int))
  | _ => False
theorem w_worst_rates (h1 : T.fp "check_spreads" = c_check_spreads) (h3 : T.fp "worst_of" = c_worst_of) : ∀ ds Q, c_worst_rates ds Q T.xk → ds.length = 2 ∧ runP S 2 ir_worst_rates ds Q := by
  intro ds Q h
  unfold c_worst_rates at h
  split at h
  · obtain ⟨ss, bs, ws, rfl, rfl, rfl, hp, hw, q⟩ := h
    refine ⟨rfl, ?_⟩
    unfold ir_worst_rates
    simp_arith [↓fpI_of h1, ↓fqI_of h1, ↓ftI_of h1, ↓fyI_of h1, ↓fpI_of h3, ↓fqI_of h3, ↓ftI_of h3, ↓fyI_of h3, ↓c_check_spreads, ↓c_worst_of]
    exact ⟨ss, bs, ws, rfl, rfl, rfl, hp, hw, ss, ws, rfl, rfl, hw.len, hp.ls, q⟩
  · exact h.elim
/-- the worst rates are shown -/
def c_shows_rates : Ct := fun ds Q _ => match ds with
  | [.tuple [.tuple s, .tuple b, .int g], .tuple w, .tuple r] => ∃ (ss : List Tri) (bs : List Bx) (ws : List Int), s = ss.map encT ∧ b = bs.map encB ∧ w = ws.map .int ∧ r = (worstR ss ws).map .int ∧ OkP (ss, bs, g) ∧ SpOk ss ws ∧ Q (.bool true)
  | _ => False
theorem w_shows_rates (h1 : T.fp "check_spreads" = c_check_spreads) (h2 : T.fp "is_row" = c_is_row) (h3 : T.fp "is_integer" = c_is_integer) (h4 : T.fp "heating_with" = c_heating_with) (h5 : T.fp "worst_of" = c_worst_of) : ∀ ds Q, c_shows_rates ds Q T.xk → ds.length = 3 ∧ runP S 8 ir_shows_rates ds Q := by
  intro ds Q h
  unfold c_shows_rates at h
  split at h
  · rename_i s0 b0 g w0 r0
    obtain ⟨ss, bs, ws, rfl, rfl, rfl, rfl, hp, hw, q⟩ := h
    refine ⟨rfl, ?_⟩
    have h6 : ss.length ≤ 6 := hp.ls
    have hwl := worst_len hw.len
    have hwo := worst_ok hp hw
    unfold ir_shows_rates
    simp_arith [↓fpI_of h1, ↓fqI_of h1, ↓ftI_of h1, ↓fyI_of h1, ↓fpI_of h2, ↓fqI_of h2, ↓ftI_of h2, ↓fyI_of h2, ↓fpI_of h3, ↓fqI_of h3, ↓ftI_of h3, ↓fyI_of h3, ↓fpI_of h4, ↓fqI_of h4, ↓ftI_of h4, ↓fyI_of h4, ↓fpI_of h5, ↓fqI_of h5, ↓ftI_of h5, ↓fyI_of h5, ↓c_check_spreads, ↓c_is_row, ↓c_is_integer, ↓c_heating_with, ↓c_worst_of, ↓kdS_t, ↓rowD_t]
    refine ⟨ss, bs, ws, rfl, rfl, rfl, hp, hw, ?_⟩
    have el : (decide (((ss.map encT).length : Int) ≤ (((worstR ss ws).map PyData.int).length : Int)) && decide ((((worstR ss ws).map PyData.int).length : Int) ≤ ((ss.map encT).length : Int))) = true := by
      rw [List.length_map, List.length_map, hwl]
      simp
    rw [el]
    refine ⟨fun _ => ⟨by rw [List.length_map, hwl]; omega, S.lcm (fun _ : Int => .bool true) ?_ ?_⟩, fun z => (by cases z)⟩
    · rintro r hx K hK
      simp_arith [↓fpI_of h3, ↓fqI_of h3, ↓ftI_of h3, ↓fyI_of h3, ↓c_is_integer, ↓kdS_i]
      exact hK
    simp_arith [true_and]
    rw [boolsOf_mapf]
    have ea : ((worstR ss ws).map fun _ => true).all id = true := by simp
    simp_arith [true_and]
    rw [ea]
    refine ⟨fun z => (by cases z), fun _ => ?_⟩
    rw [zipN_map]
    refine S.loop (fun _ ρ => ∃ a b c d, ρ = [.pd (.tuple [.tuple (ss.map encT), .tuple (bs.map encB), .int g]), .pd (.tuple (ws.map .int)), .pd (.tuple ((worstR ss ws).map .int)), .pd (.tuple (ss.map encT)), a, b, c, d]) ⟨_, _, _, _, rfl⟩ ?_ ?_
    · rintro pre ⟨r, ⟨a, b, c⟩, w⟩ post ρ Φ' hz ⟨_, _, _, _, rfl⟩ hn hc - -
      have hm : (r, (a, b, c), w) ∈ (worstR ss ws).zip (ss.zip ws) := by rw [hz]; simp
      obtain ⟨i, e1, e2⟩ := mem_zip_at hm
      obtain ⟨e2, e3⟩ := List.getElem?_zip_eq_some.mp e2
      rw [worst_at e2 e3] at e1
      have e1 := Option.some.inj e1
      simp only at e1
      simp_arith [↓encT]
      refine ⟨rfl, rfl, fun z => ?_, fun _ => hn _ ⟨_, _, _, _, rfl⟩⟩
      exfalso
      subst e1
      split at z <;> simp [PyData.eqv] at z
    · rintro ρ ⟨_, _, _, _, rfl⟩
      simp_arith [↓fpI_of h4, ↓fqI_of h4, ↓ftI_of h4, ↓fyI_of h4, ↓fpI_of h5, ↓fqI_of h5, ↓ftI_of h5, ↓fyI_of h5, ↓c_heating_with, ↓c_worst_of]
      refine ⟨ss, bs, _, rfl, rfl, rfl, hp, hwo, ss, ws, rfl, rfl, hw.len, hp.ls, ss, bs, _, rfl, rfl, rfl, hp, hwo, ?_⟩
      simpa using q
  · exact h.elim
end My

set_option Elab.async false
set_option autoImplicit false
set_option linter.all false
set_option maxRecDepth 100000
set_option maxHeartbeats 1000000
namespace My
open PySem DW
local macro_rules | `(tactic| simp_arith [$xs,*]) => `(tactic| simp only [↓Mng.E_nm, ↓Mng.E_gl, ↓Mng.E_cn, ↓Mng.E_ng, ↓Mng.E_nt, ↓Mng.E_bn, ↓Mng.E_cp, ↓Mng.E_ch, ↓Mng.E_an, ↓Mng.E_ro, ↓Mng.E_ie, ↓Mng.E_tu, ↓Mng.E_li, ↓Mng.E_ix, ↓Mng.E_ixo, ↓Mng.E_s2, ↓Mng.E_sL, ↓Mng.E_sH, ↓Mng.E_rv, ↓Mng.E_d0, ↓Mng.E_fs, ↓Mng.E_bi, ↓Mng.E_ln, ↓Mng.E_isi, ↓Mng.E_isj, ↓Mng.E_call, ↓Mng.E_calo, ↓Mng.E_calq, ↓Mng.E_caloq, ↓Mng.E_told, ↓Mng.E_lc, ↓Mng.E_ss, ↓Mng.E_mxd, ↓Mng.E_c4, ↓Mng.E_ma, ↓Mng.E_lc2, ↓Mng.A_nil, ↓Mng.A_cons, ↓Mng.J_nil, ↓Mng.J_cons, ↓Mng.T_cp, ↓Mng.T_ch, ↓Mng.T_nt, ↓Mng.T_an, ↓Mng.T_ro, ↓Mng.T_v, ↓Mng.T_vl, ↓Mng.T_c4, ↓Mng.F_nil, ↓Mng.F_one, ↓Mng.I_e, ↓Mng.I_r1, ↓Mng.I_r2, ↓Mng.I_en, ↓Mng.I_zp, ↓Mng.I_z3, ↓Mng.ex_nil0, ↓Mng.ex_nil1, ↓Mng.ex_set, ↓Mng.ex_asg, ↓Mng.ex_par, ↓Mng.ex_par3, ↓Mng.ex_app, ↓Mng.ex_sti, ↓Mng.ex_sti2, ↓Mng.ex_augs, ↓Mng.ex_aug, ↓Mng.ex_iff, ↓Mng.ex_ret, ↓Mng.ex_retN, ↓Mng.ex_pass, ↓Mng.ex_brk, ↓Mng.ex_cnt, ↓Mng.ex_drop, ↓Mng.ex_rai, ↓Mng.ex_raif, ↓Mng.ex_dead, ↓Mng.ex_tryq, ↓Mng.ex_fo, ↓Mng.ex_wh, ↓runP, ↓runO, ↓ph_nx, ↓ph_rt, ↓ph_bk, ↓ph_ct, ↓wpG, ↓wpGs, ↓binK, ↓augK, ↓cmpK, ↓truK, ↓isiK, ↓isjK, ↓bltK, ↓frzK, ↓fpK, ↓foK, ↓fqK, ↓oqK, ↓ftK, ↓fyK, ↓fmK, ↓fm_s, ↓fm_i, ↓frz_pd, ↓frz_ow, ↓frz_un, ↓frz_dk, ↓frz_dt, ↓bi_add, ↓bi_addL, ↓bi_addT, ↓bi_sub, ↓bi_mul, ↓bi_rep, ↓bi_repT, ↓bi_shl, ↓bi_shr, ↓bi_band, ↓bi_bor, ↓bi_mod, ↓bi_fdiv, ↓bi_pow, ↓au_add, ↓au_sub, ↓ci_lt, ↓ci_le, ↓ci_gt, ↓ci_ge, ↓ci_eq, ↓ci_ne, ↓ci_eqB, ↓ci_neB, ↓ci_eqT, ↓ci_eqL, ↓ci_eqN, ↓ci_eqS, ↓ci_neT, ↓ci_neL, ↓ci_neN, ↓ci_neS, ↓ci_is, ↓ci_isn, ↓ci_isB, ↓ci_isnB, ↓ci_inL, ↓ci_inT, ↓ci_ninL, ↓ci_ninT, ↓nn_n, ↓nn_i, ↓nn_b, ↓nn_s, ↓nn_l, ↓nn_t, ↓nn_d, ↓ti_n, ↓ti_b, ↓ti_i, ↓ti_l, ↓ti_t, ↓ii_n, ↓ii_b, ↓ii_i, ↓ii_s, ↓ii_l, ↓ii_t, ↓ii_d, ↓ij_n, ↓ij_b, ↓ij_i, ↓ij_s, ↓ij_l, ↓ij_t, ↓ij_d, ↓bt_lenL, ↓bt_lenT, ↓bt_lenF, ↓bt_max2, ↓bt_maxL, ↓bt_maxT, ↓bt_sumT, ↓bt_min2, ↓bt_minL, ↓bt_minT, ↓bt_abs, ↓bt_sum, ↓bt_any, ↓bt_all, ↓bt_sorted, ↓bt_listL, ↓bt_listT, ↓bt_tupL, ↓bt_tupT, ↓bt_int, ↓bt_intB, ↓bt_str, ↓sub, ↓nrm_pd, ↓nrm_ow, ↓nrm_un, ↓wipeR, ↓rstR, ↓opW, ↓opI_some, ↓owW, ↓ow0, ↓IxD, ↓at0, ↓at1, ↓at2, ↓at3, ↓ix40, ↓ix41, ↓ix42, ↓ix43, ↓intsOf, ↓boolsOf, ↓mthW, ↓seqOf, opI_some, ↓List.map_cons, ↓List.map_nil, List.length_cons, List.length_nil, ↓List.cons_append, ↓List.nil_append, ↓List.getElem?_cons_zero, ↓List.getElem?_cons_succ, ↓List.set_cons_zero, ↓List.set_cons_succ, Nat.reduceSub, Nat.reduceAdd, Nat.reduceLeDiff, ↓List.replicate, true_and, and_true, forall_const, true_implies, false_implies, Bool.not_true, Bool.not_false, implies_true, reduceCtorEq, Option.isSome_some, Int.cast_ofNat_Int, Int.reduceLE, Int.reduceLT, Int.reduceEq, Int.reduceNe, decide_true, decide_false, Bool.and_self, Bool.and_true, Bool.true_and, Bool.and_false, Bool.false_and, Bool.not_not, Bool.or_false, Bool.or_true, Bool.false_or, Bool.true_or, Bool.or_self, Nat.reduceLT, Nat.reduceEqDiff, Option.map_some, Option.map_none, $xs,*])
def pr_law : Prm := { N := ["script", "row", "problem", "many", "none", "rates", "wide", "narrow", "turn", "some", "streams", "one", "k"], B := ["len", "tuple", "min", "range", "max"], G := [], F := ["worst_heating", "least_outside", "worst_rates", "shows_rates"], O := ["_law_problem", "_law_taken"], M := [] }
def ir_law : IB :=
  (.cons (.set 1 (.li (.cons (.nm 0) (.cons (.cn (.int 0)) (.cons (.cn (.int 4070)) (.cons (.cn (.int 0)) .nil))))))
  (.cons (.set 2 (.calo "_law_problem" 1 .nil))
  (.cons (.set 3 (.bi .len (.cons (.ixo 2 (.cn (.int 0))) .nil)))
  (.cons (.set 4 (.bn .Mult (.tu (.cons (.cn (.int 0)) .nil)) (.nm 3)))
  (.cons (.set 5 (.bi .tuple (.cons (.lc (.ixo 11 (.cn (.int 2))) (.nm 11) (.e (.ixo 2 (.cn (.int 0)))) .nil [11]) .nil)))
  (.cons (.iff (.ro (.cp .NotEq (.call "worst_heating" (.cons (.nm 2) (.cons (.nm 4) .nil))) (.ix (.call "least_outside" (.cons (.nm 2) .nil)) (.cn (.int 0)))) (.cp .NotEq (.call "worst_rates" (.cons (.nm 2) (.cons (.nm 4) .nil))) (.nm 5)))
  (.cons (.ret (.cn (.bool false)))
  .nil)
  .nil)
  (.cons (.set 6 (.bi .tuple (.cons (.lc (.caloq "_law_taken" 1 (.cons (.bi .min (.cons (.ixo 11 (.cn (.int 2))) (.cons (.cn (.int 20)) .nil))) .nil)) (.nm 11) (.e (.ixo 2 (.cn (.int 0)))) .nil [11]) .nil)))
  (.cons (.set 7 (.bi .tuple (.cons (.lc (.caloq "_law_taken" 1 (.cons (.bn .Add (.nm 11) (.cn (.int 1))) .nil)) (.nm 11) (.e (.nm 6)) .nil [11]) .nil)))
  (.cons (.iff (.ro (.cp .Gt (.call "worst_heating" (.cons (.nm 2) (.cons (.nm 7) .nil))) (.call "worst_heating" (.cons (.nm 2) (.cons (.nm 6) .nil)))) (.cp .Lt (.call "worst_heating" (.cons (.nm 2) (.cons (.nm 7) .nil))) (.ix (.call "least_outside" (.cons (.nm 2) .nil)) (.cn (.int 0)))))
  (.cons (.ret (.cn (.bool false)))
  .nil)
  .nil)
  (.cons (.iff (.cp .IsNot (.call "shows_rates" (.cons (.nm 2) (.cons (.nm 6) (.cons (.call "worst_rates" (.cons (.nm 2) (.cons (.nm 6) .nil))) .nil)))) (.cn (.bool true)))
  (.cons (.ret (.cn (.bool false)))
  .nil)
  .nil)
  (.cons (.fo (.nm 8) (.r1 (.cn (.int 3)))
  (.cons (.set 9 (.lc (.bn .Add (.bn .Sub (.ixo 5 (.nm 12)) (.ixo 6 (.nm 12))) (.caloq "_law_taken" 1 (.cons (.bn .Add (.bn .Mult (.cn (.int 2)) (.ixo 6 (.nm 12))) (.cn (.int 1))) .nil))) (.nm 12) (.r1 (.nm 3)) .nil [12]))
  (.cons (.set 10 (.bi .tuple (.cons (.lc (.bn .Add (.sH (.ix (.ixo 2 (.cn (.int 0))) (.nm 12)) (.cn (.int 2))) (.tu (.cons (.bi .min (.cons (.cn (.int 100)) (.cons (.ixo 9 (.nm 12)) .nil))) .nil))) (.nm 12) (.r1 (.nm 3)) .nil [12]) .nil)))
  (.cons (.iff (.an (.cp .LtE (.bi .max (.cons (.bn .Add (.nm 9) (.li (.cons (.cn (.int 1)) .nil))) .nil)) (.cn (.int 100))) (.cp .Gt (.ix (.call "least_outside" (.cons (.bn .Add (.tu (.cons (.nm 10) .nil)) (.sL (.nm 2) (.cn (.int 1)))) .nil)) (.cn (.int 0))) (.call "worst_heating" (.cons (.nm 2) (.cons (.nm 6) .nil)))))
  (.cons (.ret (.cn (.bool false)))
  .nil)
  .nil)
  .nil))))
  (.cons (.ret (.cn (.bool true)))
  .nil))))))))))))

variable {T : Tb} (S : Mng T)
theorem eqI (l : List Int) : PyData.eqv (.tuple (l.map .int)) (.tuple (l.map .int)) = true := eqvAll_ints l
theorem snoc2 {α β : Type} {pre : List α} {ws : List β} {x : α} {v : β} (hl : ws.length = pre.length) {P : α → β → Prop} (h : ∀ (i : Nat) (s : α) (w : β), pre[i]? = some s → ws[i]? = some w → P s w) (hx : P x v) : ∀ (i : Nat) (s : α) (w : β), (pre ++ [x])[i]? = some s → (ws ++ [v])[i]? = some w → P s w := by
  intro i s w h1 h2
  by_cases c : i < pre.length
  · rw [List.getElem?_append_left c] at h1
    rw [List.getElem?_append_left (by omega)] at h2
    exact h i s w h1 h2
  · rw [List.getElem?_append_right (by omega)] at h1
    rw [List.getElem?_append_right (by omega)] at h2
    have e : i - pre.length = 0 := by
      have := (List.getElem?_eq_some_iff.mp h1).1
      rw [List.length_singleton] at this
      omega
    rw [hl, e] at h2
    rw [e] at h1
    cases h1
    cases h2
    exact hx
theorem w_law (h1 : T.fo "_law_problem" = o_problem) (h2 : T.fo "_law_taken" = o_taken) (h3 : T.fp "worst_heating" = c_worst_heating) (h4 : T.fp "least_outside" = c_least_outside) (h5 : T.fp "worst_rates" = c_worst_rates) (h6 : T.fp "shows_rates" = c_shows_rates) : ∀ ds Q, c_law ds Q T.xk → ds.length = 1 ∧ runP S 13 ir_law ds Q := by
  intro ds Q h
  unfold c_law at h
  split at h
  · obtain ⟨ns, rfl, hns, q⟩ := h
    refine ⟨rfl, ?_⟩
    unfold ir_law
    have hR0 : RowD [frl (ns.map .int), .int 0, .int 4070, .int 0] := ⟨ns, 0, 4070, 0, rfl, hns, by decide, by decide, by decide⟩
    simp_arith [↓foI_of h1, ↓oqI_of h1, ↓o_problem]
    refine ⟨hR0, fun ss bs g rw1 hr1 hp hss hbs => ?_⟩
    have h6l : ss.length ≤ 4 := hss
    refine ⟨by simp, by rw [List.length_map]; omega, by rw [List.length_map]; omega, by rw [List.length_map]; omega, S.lcm (fun s : Tri => .int s.2.2) ?_ ?_⟩
    · rintro ⟨a, b, c⟩ hx K hK
      simp_arith [↓encT]
      exact hK
    have ez : (List.replicate (((ss.map encT).length : Int)).toNat [PyData.int 0]).flatten = (List.replicate ss.length (0 : Int)).map .int := by
      rw [List.length_map]
      generalize ss.length = n
      induction n with
      | zero => rfl
      | succ n ih =>
        rw [show ((n + 1 : Nat) : Int).toNat = n + 1 from rfl, List.replicate_succ, List.replicate_succ, List.flatten_cons, List.map_cons]
        exact congrArg _ ih
    rw [ez]
    simp_arith [↓fpI_of h3, ↓fqI_of h3, ↓ftI_of h3, ↓fyI_of h3, ↓fpI_of h4, ↓fqI_of h4, ↓ftI_of h4, ↓fyI_of h4, ↓fpI_of h5, ↓fqI_of h5, ↓ftI_of h5, ↓fyI_of h5, ↓c_worst_heating, ↓c_least_outside, ↓c_worst_rates]
    refine ⟨ss, bs, _, rfl, rfl, rfl, hp, sp_zero hp, ss, bs, rfl, rfl, hp, ?_⟩
    rw [worst_zero, show heatR ss bs g (ss.map fun s => s.2.2) = heatingOf (bodies (ss, bs, g)) by unfold heatR; rw [reR_same]]
    refine ⟨fun _ => ⟨ss, bs, _, rfl, rfl, rfl, hp, sp_zero hp, sh_I _, ?_, ?_⟩, fun z => by simp at z⟩
    · rw [show (ss.map fun s => PyData.int s.2.2) = (ss.map fun s => s.2.2).map .int by rw [List.map_map]; rfl]
      exact sh_I _
    rw [worst_zero, show (ss.map fun s => PyData.int s.2.2) = (ss.map fun s => s.2.2).map .int by rw [List.map_map]; rfl, eqI]
    refine ⟨fun z => (by cases z), fun _ => ⟨by rw [List.length_map]; omega, S.lcx (fun pre acc ρ => ∃ (ws : List Int) (rw : List D), acc = ws.map .int ∧ RowD rw ∧ ws.length = pre.length ∧ (∀ (i : Nat) (s : Tri) (w : Int), pre[i]? = some s → ws[i]? = some w → 0 ≤ w ∧ w ≤ s.2.2 - 1 ∧ w < 20) ∧
      ρ = [Sl.pd (frl (List.map PyData.int ns)), Sl.ow none (MO.lst rw), Sl.pd (PyData.tuple [PyData.tuple (List.map encT ss), PyData.tuple (List.map encB bs), PyData.int g]), Sl.pd (PyData.int ↑(List.map encT ss).length), Sl.pd (PyData.tuple (List.map PyData.int (List.replicate ss.length 0))), Sl.pd (PyData.tuple ((ss.map fun s => s.2.2).map .int)), Sl.un, Sl.un, Sl.un, Sl.un, Sl.un, Sl.un, Sl.un]) ⟨[], rw1, rfl, hr1, rfl, fun i s w hx => (by simp at hx), rfl⟩ ?_ ?_⟩⟩
    · rintro pre ⟨a, b, c⟩ post acc ρ K hl ⟨ws, rw2, rfl, hr2, hlen, hbd, rfl⟩ hK
      have ho := hp.ss (a, b, c) (by rw [hl]; simp)
      obtain ⟨_, _, _, _, o5, o6, _⟩ := ho
      simp only at o5 o6
      simp_arith [↓encT, ↓foI_of h2, ↓oqI_of h2, ↓o_taken]
      refine ⟨hr2, by omega, by omega, fun v rw3 hr3 v0 v1 => ?_⟩
      exact hK (some (.int v)) _ ⟨ws ++ [v], rw3, by simp, hr3, by simp [hlen], snoc2 hlen hbd (by show 0 ≤ v ∧ v ≤ c - 1 ∧ v < 20; omega), rfl⟩
    rintro acc ρ ⟨ws, rw2, rfl, hr2, hwl, hbd, rfl⟩
    have hw : SpOk ss ws := ⟨hwl, fun i s w e1 e2 => ⟨(hbd i s w e1 e2).1, (hbd i s w e1 e2).2.1⟩⟩
    have hw20 : ∀ w ∈ ws, 0 ≤ w ∧ w < 20 := fun w hw' => by
      obtain ⟨i, hi⟩ := List.getElem?_of_mem hw'
      have hil := (List.getElem?_eq_some_iff.mp hi).1
      obtain ⟨s, w', e1, e2⟩ := at_both hwl (by omega : i < ss.length)
      rw [hi] at e2
      cases e2
      have := hbd i s w e1 hi
      omega
    simp_arith [true_and]
    refine ⟨by rw [List.length_map]; omega, S.lcx (fun pre acc ρ => ∃ (us : List Int) (rw : List D), acc = us.map .int ∧ RowD rw ∧ us.length = pre.length ∧ (∀ (i : Nat) (w u : Int), pre[i]? = some w → us[i]? = some u → 0 ≤ u ∧ u ≤ w) ∧
      ρ = [Sl.pd (frl (List.map PyData.int ns)), Sl.ow none (MO.lst rw), Sl.pd (PyData.tuple [PyData.tuple (List.map encT ss), PyData.tuple (List.map encB bs), PyData.int g]), Sl.pd (PyData.int ↑(List.map encT ss).length), Sl.pd (PyData.tuple (List.map PyData.int (List.replicate ss.length 0))), Sl.pd (PyData.tuple ((ss.map fun s => s.2.2).map .int)), Sl.pd (.tuple (ws.map .int)), Sl.un, Sl.un, Sl.un, Sl.un, Sl.un, Sl.un]) ⟨[], rw2, rfl, hr2, rfl, fun i s w hx => (by simp at hx), rfl⟩ ?_ ?_⟩
    · rintro pre w post acc ρ K hl ⟨us, rw3, rfl, hr3, hlen, hbd2, rfl⟩ hK
      have ho := hw20 w (by rw [hl]; simp)
      simp_arith [↓foI_of h2, ↓oqI_of h2, ↓o_taken]
      refine ⟨hr3, by omega, by omega, fun v rw4 hr4 v0 v1 => ?_⟩
      exact hK (some (.int v)) _ ⟨us ++ [v], rw4, by simp, hr4, by simp [hlen], snoc2 hlen hbd2 (by omega), rfl⟩
    rintro acc ρ ⟨us, rw3, rfl, hr3, hul, hbd2, rfl⟩
    have hu : SpOk ss us := ⟨by omega, fun i s u e1 e2 => by
      obtain ⟨_, w, _, e3⟩ := at_both hwl ((List.getElem?_eq_some_iff.mp e1).1)
      have := hw.bd i s w e1 e3
      have := hbd2 i w u e3 e2
      omega⟩
    simp_arith [↓fpI_of h3, ↓fqI_of h3, ↓ftI_of h3, ↓fyI_of h3, ↓fpI_of h4, ↓fqI_of h4, ↓ftI_of h4, ↓fyI_of h4, ↓fpI_of h5, ↓fqI_of h5, ↓ftI_of h5, ↓fyI_of h5, ↓fpI_of h6, ↓fqI_of h6, ↓ftI_of h6, ↓fyI_of h6, ↓c_worst_heating, ↓c_least_outside, ↓c_worst_rates, ↓c_shows_rates]
    refine ⟨ss, bs, us, rfl, rfl, rfl, hp, hu, ss, bs, ws, rfl, rfl, rfl, hp, hw, ?_⟩
    have le1 : heatR ss bs g (worstR ss us) ≤ heatR ss bs g (worstR ss ws) := heat_worse hp (worst_ok hp hu) (worst_ok hp hw) (wd_wider hu.len hwl fun i u w e1 e2 => (hbd2 i w u e2 e1).2)
    have le0 : heatingOf (bodies (ss, bs, g)) ≤ heatR ss bs g (worstR ss us) := by
      have z := heat_worse hp (worst_ok hp (sp_zero hp)) (worst_ok hp hu) (wd_wider (sp_zero hp).len hu.len fun i a u e1 e2 => by
        have ha : a = 0 := List.eq_of_mem_replicate (List.mem_of_getElem? e1)
        obtain ⟨s, _, e3, _⟩ := at_both hu.len (by rw [← hu.len]; exact (List.getElem?_eq_some_iff.mp e2).1)
        have := hu.bd i s u e3 e2
        omega)
      rw [worst_zero] at z
      unfold heatR at z
      rw [reR_same] at z
      exact z
    refine ⟨fun _ => ?_, fun z => ?_⟩
    rotate_left
    · have := of_decide_eq_true z
      omega
    refine ⟨ss, bs, us, rfl, rfl, rfl, hp, hu, ss, bs, rfl, rfl, hp, ?_⟩
    refine ⟨fun z => ?_, fun _ => ?_⟩
    · have := of_decide_eq_true z
      omega
    refine ⟨ss, bs, ws, rfl, rfl, rfl, hp, hw, ss, bs, ws, rfl, rfl, rfl, rfl, hp, hw, by decide, by decide, ?_⟩
    refine S.loop (fun _ ρ => ∃ (rw : List D) (x8 x9 x10 : Sl), RowD rw ∧
      ρ = [Sl.pd (frl (List.map PyData.int ns)), Sl.ow none (MO.lst rw), Sl.pd (PyData.tuple [PyData.tuple (List.map encT ss), PyData.tuple (List.map encB bs), PyData.int g]), Sl.pd (PyData.int ↑(List.map encT ss).length), Sl.pd (PyData.tuple (List.map PyData.int (List.replicate ss.length 0))), Sl.pd (PyData.tuple ((ss.map fun s => s.2.2).map .int)), Sl.pd (.tuple (ws.map .int)), Sl.pd (.tuple (us.map .int)), x8, x9, x10, Sl.un, Sl.un]) ⟨rw3, _, _, _, hr3, rfl⟩ ?_ ?_
    rotate_left
    · rintro ρ ⟨rw4, _, _, _, _, rfl⟩
      simp_arith [true_and]
      exact q
    rintro _ turn _ ρ Φ' _ ⟨rw4, x8, x9, x10, hr4, rfl⟩ hn hc - -
    simp_arith [true_and]
    have hnl : (((ss.map encT).length : Nat) : Int) = (ss.length : Int) := by rw [List.length_map]
    refine ⟨by omega, by omega, by rw [List.length_map, rangeI_len, hnl]; omega, S.lcx (fun pre acc ρ => ∃ (es : List Int) (rw : List D), acc = es.map .int ∧ RowD rw ∧ es.length = pre.length ∧ (∀ (i : Nat) (s : Tri) (w e : Int), ss[i]? = some s → ws[i]? = some w → es[i]? = some e → s.2.2 - w ≤ e ∧ e ≤ s.2.2 + w) ∧
      ρ = [Sl.pd (frl (List.map PyData.int ns)), Sl.ow none (MO.lst rw), Sl.pd (PyData.tuple [PyData.tuple (List.map encT ss), PyData.tuple (List.map encB bs), PyData.int g]), Sl.pd (PyData.int ↑(List.map encT ss).length), Sl.pd (PyData.tuple (List.map PyData.int (List.replicate ss.length 0))), Sl.pd (PyData.tuple ((ss.map fun s => s.2.2).map .int)), Sl.pd (.tuple (ws.map .int)), Sl.pd (.tuple (us.map .int)), Sl.pd (.int turn), x9, x10, Sl.un, Sl.un]) ⟨[], rw4, rfl, hr4, rfl, fun i s w e _ _ hx => (by simp at hx), rfl⟩ ?_ ?_⟩
    · rintro pre k post acc ρ K hl ⟨es, rw5, rfl, hr5, hlen, hbd3, rfl⟩ hK
      obtain ⟨hk, rfl⟩ := mem_rng_pre hl
      have hk2 : pre.length < ss.length := by omega
      obtain ⟨s, w, e1, e2⟩ := at_both hwl hk2
      have a1 : L2.atI ((ss.map fun s => s.2.2).map PyData.int) (pre.length : Int) = some (.int s.2.2) := by rw [at_nat, List.getElem?_map, List.getElem?_map, e1]; rfl
      have a2 : L2.atI (ws.map PyData.int) (pre.length : Int) = some (.int w) := by rw [at_nat, List.getElem?_map, e2]; rfl
      have hb := hbd pre.length s w e1 e2
      simp_arith [↓a1, ↓a2, ↓foI_of h2, ↓oqI_of h2, ↓o_taken]
      refine ⟨.inl ⟨by omega, by omega⟩, hr5, by omega, by omega, fun v rw6 hr6 v0 v1 => ?_⟩
      refine hK (some (.int (s.2.2 - w + v))) _ ⟨es ++ [s.2.2 - w + v], rw6, by simp, hr6, by simp [hlen], fun i s' w' e' i1 i2 i3 => ?_, rfl⟩
      by_cases c : i < es.length
      · rw [List.getElem?_append_left c] at i3
        exact hbd3 i s' w' e' i1 i2 i3
      · rw [List.getElem?_append_right (by omega)] at i3
        have e : i - es.length = 0 := by
          have := (List.getElem?_eq_some_iff.mp i3).1
          rw [List.length_singleton] at this
          omega
        rw [e] at i3
        have ei : i = pre.length := by omega
        subst ei
        rw [e1] at i1
        rw [e2] at i2
        cases i1
        cases i2
        cases i3
        omega
    rintro acc ρ ⟨es, rw5, rfl, hr5, hel, hbd3, rfl⟩
    rw [rangeI_len, hnl] at hel
    have hes : es.length = ss.length := by omega
    simp_arith [true_and]
    refine ⟨by omega, by omega, by rw [List.length_map, rangeI_len, hnl]; omega, S.lcm (fun k : Int => encT (rateS (ss.getD k.toNat (0, 0, 0)) (min 100 (es.getD k.toNat 0)))) ?_ ?_⟩
    · rintro k hx K hK
      rw [hnl] at hx
      obtain ⟨k0, k1⟩ := mem_rangeI.mp hx
      obtain ⟨n, rfl⟩ := Int.eq_ofNat_of_zero_le k0
      obtain ⟨⟨a, b, c⟩, e, e1, e2⟩ := at_both hes (by omega : n < ss.length)
      have a1 : L2.atI (ss.map encT) (n : Int) = some (.tuple [.int a, .int b, .int c]) := by rw [at_nat, List.getElem?_map, e1]; rfl
      have a2 : L2.atI (es.map PyData.int) (n : Int) = some (.int e) := by rw [at_nat, List.getElem?_map, e2]; rfl
      have hcut : ∀ a b c : D, SlD none (some 2) (.tuple [a, b, c]) = some (.pd (.tuple [a, b])) := fun _ _ _ => rfl
      have d1 : ss.getD n (0, 0, 0) = (a, b, c) := by rw [List.getD_eq_getElem?_getD, e1]; rfl
      have d2 : es.getD n 0 = e := by rw [List.getD_eq_getElem?_getD, e2]; rfl
      rw [show ((n : Int)).toNat = n from rfl, d1, d2] at hK
      simp_arith [↓a1, ↓a2, ↓hcut]
      exact hK
    have e10 : (rangeI 0 (((ss.map encT).length : Nat) : Int)).map (fun k : Int => encT (rateS (ss.getD k.toNat (0, 0, 0)) (min 100 (es.getD k.toNat 0)))) = (reR ss (es.map (min 100))).map encT := by
      rw [hnl]
      refine List.ext_getElem? fun i => ?_
      by_cases hi : i < ss.length
      · obtain ⟨s, e, e1, e2⟩ := at_both hes hi
        have r1 : (rangeI 0 (ss.length : Int))[i]? = some (i : Int) := by
          unfold rangeI
          rw [List.getElem?_map, List.getElem?_range (by omega)]
          simp
        have d1 : ss.getD i (0, 0, 0) = s := by rw [List.getD_eq_getElem?_getD, e1]; rfl
        have d2 : es.getD i 0 = e := by rw [List.getD_eq_getElem?_getD, e2]; rfl
        rw [List.getElem?_map, r1, List.getElem?_map]
        unfold reR
        rw [List.getElem?_zipWith, e1, List.getElem?_map, e2]
        show some (encT (rateS (ss.getD i (0, 0, 0)) (min 100 (es.getD i 0)))) = _
        rw [d1, d2]
        rfl
      · rw [List.getElem?_eq_none (by rw [List.length_map, rangeI_len]; omega), List.getElem?_eq_none (by rw [List.length_map, reR_len (by rw [List.length_map]; exact hes)]; omega)]
    rw [e10]
    have ht : SlD (some 1) none (.tuple [PyData.tuple (ss.map encT), PyData.tuple (bs.map encB), PyData.int g]) = some (.pd (.tuple [PyData.tuple (bs.map encB), PyData.int g])) := rfl
    have em : es.map PyData.int ++ [PyData.int 1] = (es ++ [1]).map PyData.int := by simp
    simp_arith [true_and]
    rw [em, intsOf_map]
    simp_arith [true_and]
    refine ⟨by rw [List.length_map]; omega, by simp, fun z => ?_, fun _ => hn _ ⟨rw5, _, _, _, hr5, rfl⟩⟩
    have z := of_decide_eq_true z
    have he : ∀ e ∈ es, e ≤ 100 := fun e he => Int.le_trans (imax_le (List.mem_append_left _ he)) z
    have hbt : ∀ (i : Nat) (s : Tri) (w e : Int), ss[i]? = some s → ws[i]? = some w → es[i]? = some e → s.2.2 - w ≤ e ∧ e ≤ s.2.2 + w := hbd3
    have he1 : ∀ e ∈ es, 1 ≤ e ∧ e ≤ 100 := fun e hm => by
      obtain ⟨i, hi⟩ := List.getElem?_of_mem hm
      have hil := (List.getElem?_eq_some_iff.mp hi).1
      obtain ⟨s, w, e1, e2⟩ := at_both hwl (by omega : i < ss.length)
      have := hbt i s w e e1 e2 hi
      have := hw.bd i s w e1 e2
      have := he e hm
      omega
    have emn : es.map (min 100) = es := by
      conv => rhs; rw [← List.map_id es]
      refine List.map_congr_left fun e hm => ?_
      have := he e hm
      show min 100 e = e
      omega
    rw [emn]
    have hp2 := ok_between hp hes he1
    have le2 : heatingOf (bodies (reR ss es, bs, g)) ≤ heatR ss bs g (worstR ss ws) := heat_worse hp ⟨hes, fun e hm => by have := he1 e hm; omega⟩ (worst_ok hp hw) (wd_between hwl hbt)
    simp_arith [↓ht, ↓fpI_of h3, ↓fqI_of h3, ↓ftI_of h3, ↓fyI_of h3, ↓fpI_of h4, ↓fqI_of h4, ↓ftI_of h4, ↓fyI_of h4, ↓c_worst_heating, ↓c_least_outside]
    refine ⟨reR ss es, bs, rfl, rfl, hp2, ss, bs, ws, rfl, rfl, rfl, hp, hw, fun z2 => ?_, fun _ => hn _ ⟨rw5, _, _, _, hr5, rfl⟩⟩
    have := of_decide_eq_true z2
    omega
  · exact h.elim
end My

set_option Elab.async false
set_option linter.all false
set_option maxRecDepth 100000
set_option maxHeartbeats 1000000
namespace My
open PySem PySem.Spec L2 DW
open PyProof.Rows hiding St
instance cf : Cfg := ⟨[], fun _ => 0, fun _ => []⟩
def topS (i : Nat) : Stmt := PySem.Challenge.pw_pinchworks_k70_across_spreads.main.body.getD i (.Pass ⟨0, 0, 0, 0⟩)
abbrev s__law_taken : Stmt := topS 44
abbrev n__law_taken_ps : List Str := ["row", "many"]
theorem sc__law_taken : FnScope pr__law_taken.N n__law_taken_ps (defScope s__law_taken) := ⟨rfl, rfl, rfl, by decide +kernel, rfl, by decide +kernel, by decide +kernel⟩
theorem cc__law_taken : cB pr__law_taken 100 (defScope s__law_taken) (defBody s__law_taken) = some ir__law_taken := by rfl
abbrev s__law_pick : Stmt := topS 45
abbrev n__law_pick_ps : List Str := ["row", "things"]
theorem sc__law_pick : FnScope pr__law_pick.N n__law_pick_ps (defScope s__law_pick) := ⟨rfl, rfl, rfl, by decide +kernel, rfl, by decide +kernel, by decide +kernel⟩
theorem cc__law_pick : cB pr__law_pick 100 (defScope s__law_pick) (defBody s__law_pick) = some ir__law_pick := by rfl
abbrev s__law_problem : Stmt := topS 47
abbrev n__law_problem_ps : List Str := ["row"]
theorem sc__law_problem : FnScope pr__law_problem.N n__law_problem_ps (defScope s__law_problem) := ⟨rfl, rfl, rfl, by decide +kernel, rfl, by decide +kernel, by decide +kernel⟩
theorem cc__law_problem : cB pr__law_problem 100 (defScope s__law_problem) (defBody s__law_problem) = some ir__law_problem := by rfl
abbrev s_is_row : Stmt := topS 16
abbrev n_is_row_ps : List Str := ["value", "least", "most"]
theorem sc_is_row : FnScope pr_is_row.N n_is_row_ps (defScope s_is_row) := ⟨rfl, rfl, rfl, by decide +kernel, rfl, by decide +kernel, by decide +kernel⟩
theorem cc_is_row : cB pr_is_row 100 (defScope s_is_row) (defBody s_is_row) = some ir_is_row := by rfl
abbrev s_is_integer : Stmt := topS 14
abbrev n_is_integer_ps : List Str := ["value"]
theorem sc_is_integer : FnScope pr_is_integer.N n_is_integer_ps (defScope s_is_integer) := ⟨rfl, rfl, rfl, by decide +kernel, rfl, by decide +kernel, by decide +kernel⟩
theorem cc_is_integer : cB pr_is_integer 100 (defScope s_is_integer) (defBody s_is_integer) = some ir_is_integer := by rfl
abbrev s_is_within : Stmt := topS 15
abbrev n_is_within_ps : List Str := ["value", "low", "high"]
theorem sc_is_within : FnScope pr_is_within.N n_is_within_ps (defScope s_is_within) := ⟨rfl, rfl, rfl, by decide +kernel, rfl, by decide +kernel, by decide +kernel⟩
theorem cc_is_within : cB pr_is_within 100 (defScope s_is_within) (defBody s_is_within) = some ir_is_within := by rfl
abbrev s_is_temperature : Stmt := topS 17
abbrev n_is_temperature_ps : List Str := ["value"]
theorem sc_is_temperature : FnScope pr_is_temperature.N n_is_temperature_ps (defScope s_is_temperature) := ⟨rfl, rfl, rfl, by decide +kernel, rfl, by decide +kernel, by decide +kernel⟩
theorem cc_is_temperature : cB pr_is_temperature 100 (defScope s_is_temperature) (defBody s_is_temperature) = some ir_is_temperature := by rfl
abbrev s_is_stream : Stmt := topS 18
abbrev n_is_stream_ps : List Str := ["value"]
theorem sc_is_stream : FnScope pr_is_stream.N n_is_stream_ps (defScope s_is_stream) := ⟨rfl, rfl, rfl, by decide +kernel, rfl, by decide +kernel, by decide +kernel⟩
theorem cc_is_stream : cB pr_is_stream 100 (defScope s_is_stream) (defBody s_is_stream) = some ir_is_stream := by rfl
abbrev s_check_streams : Stmt := topS 20
abbrev n_check_streams_ps : List Str := ["streams"]
theorem sc_check_streams : FnScope pr_check_streams.N n_check_streams_ps (defScope s_check_streams) := ⟨rfl, rfl, rfl, by decide +kernel, rfl, by decide +kernel, by decide +kernel⟩
theorem cc_check_streams : cB pr_check_streams 100 (defScope s_check_streams) (defBody s_check_streams) = some ir_check_streams := by rfl
abbrev s_is_box : Stmt := topS 19
abbrev n_is_box_ps : List Str := ["value"]
theorem sc_is_box : FnScope pr_is_box.N n_is_box_ps (defScope s_is_box) := ⟨rfl, rfl, rfl, by decide +kernel, rfl, by decide +kernel, by decide +kernel⟩
theorem cc_is_box : cB pr_is_box 100 (defScope s_is_box) (defBody s_is_box) = some ir_is_box := by rfl
abbrev s_check_boxes : Stmt := topS 21
abbrev n_check_boxes_ps : List Str := ["boxes"]
theorem sc_check_boxes : FnScope pr_check_boxes.N n_check_boxes_ps (defScope s_check_boxes) := ⟨rfl, rfl, rfl, by decide +kernel, rfl, by decide +kernel, by decide +kernel⟩
theorem cc_check_boxes : cB pr_check_boxes 100 (defScope s_check_boxes) (defBody s_check_boxes) = some ir_check_boxes := by rfl
abbrev s_check_gap : Stmt := topS 22
abbrev n_check_gap_ps : List Str := ["gap"]
theorem sc_check_gap : FnScope pr_check_gap.N n_check_gap_ps (defScope s_check_gap) := ⟨rfl, rfl, rfl, by decide +kernel, rfl, by decide +kernel, by decide +kernel⟩
theorem cc_check_gap : cB pr_check_gap 100 (defScope s_check_gap) (defBody s_check_gap) = some ir_check_gap := by rfl
abbrev s_check_problem : Stmt := topS 23
abbrev n_check_problem_ps : List Str := ["problem"]
theorem sc_check_problem : FnScope pr_check_problem.N n_check_problem_ps (defScope s_check_problem) := ⟨rfl, rfl, rfl, by decide +kernel, rfl, by decide +kernel, by decide +kernel⟩
theorem cc_check_problem : cB pr_check_problem 100 (defScope s_check_problem) (defBody s_check_problem) = some ir_check_problem := by rfl
abbrev s_check_spreads : Stmt := topS 38
abbrev n_check_spreads_ps : List Str := ["problem", "spreads"]
theorem sc_check_spreads : FnScope pr_check_spreads.N n_check_spreads_ps (defScope s_check_spreads) := ⟨rfl, rfl, rfl, by decide +kernel, rfl, by decide +kernel, by decide +kernel⟩
theorem cc_check_spreads : cB pr_check_spreads 100 (defScope s_check_spreads) (defBody s_check_spreads) = some ir_check_spreads := by rfl
abbrev s_is_box_body : Stmt := topS 27
abbrev n_is_box_body_ps : List Str := ["body"]
theorem sc_is_box_body : FnScope pr_is_box_body.N n_is_box_body_ps (defScope s_is_box_body) := ⟨rfl, rfl, rfl, by decide +kernel, rfl, by decide +kernel, by decide +kernel⟩
theorem cc_is_box_body : cB pr_is_box_body 100 (defScope s_is_box_body) (defBody s_is_box_body) = some ir_is_box_body := by rfl
abbrev s_heat_above : Stmt := topS 29
abbrev n_heat_above_ps : List Str := ["body", "level", "is_open"]
theorem sc_heat_above : FnScope pr_heat_above.N n_heat_above_ps (defScope s_heat_above) := ⟨rfl, rfl, rfl, by decide +kernel, rfl, by decide +kernel, by decide +kernel⟩
theorem cc_heat_above : cB pr_heat_above 100 (defScope s_heat_above) (defBody s_heat_above) = some ir_heat_above := by rfl
abbrev s_lack_above : Stmt := topS 30
abbrev n_lack_above_ps : List Str := ["bodies", "level", "is_open"]
theorem sc_lack_above : FnScope pr_lack_above.N n_lack_above_ps (defScope s_lack_above) := ⟨rfl, rfl, rfl, by decide +kernel, rfl, by decide +kernel, by decide +kernel⟩
theorem cc_lack_above : cB pr_lack_above 100 (defScope s_lack_above) (defBody s_lack_above) = some ir_lack_above := by rfl
abbrev s_levels_of : Stmt := topS 26
abbrev n_levels_of_ps : List Str := ["bodies"]
theorem sc_levels_of : FnScope pr_levels_of.N n_levels_of_ps (defScope s_levels_of) := ⟨rfl, rfl, rfl, by decide +kernel, rfl, by decide +kernel, by decide +kernel⟩
theorem cc_levels_of : cB pr_levels_of 100 (defScope s_levels_of) (defBody s_levels_of) = some ir_levels_of := by rfl
abbrev s_edges_of : Stmt := topS 31
abbrev n_edges_of_ps : List Str := ["bodies"]
theorem sc_edges_of : FnScope pr_edges_of.N n_edges_of_ps (defScope s_edges_of) := ⟨rfl, rfl, rfl, by decide +kernel, rfl, by decide +kernel, by decide +kernel⟩
theorem cc_edges_of : cB pr_edges_of 100 (defScope s_edges_of) (defBody s_edges_of) = some ir_edges_of := by rfl
abbrev s_heating_of : Stmt := topS 32
abbrev n_heating_of_ps : List Str := ["bodies"]
theorem sc_heating_of : FnScope pr_heating_of.N n_heating_of_ps (defScope s_heating_of) := ⟨rfl, rfl, rfl, by decide +kernel, rfl, by decide +kernel, by decide +kernel⟩
theorem cc_heating_of : cB pr_heating_of 100 (defScope s_heating_of) (defBody s_heating_of) = some ir_heating_of := by rfl
abbrev s_bodies_of : Stmt := topS 25
abbrev n_bodies_of_ps : List Str := ["problem"]
theorem sc_bodies_of : FnScope pr_bodies_of.N n_bodies_of_ps (defScope s_bodies_of) := ⟨rfl, rfl, rfl, by decide +kernel, rfl, by decide +kernel, by decide +kernel⟩
theorem cc_bodies_of : cB pr_bodies_of 100 (defScope s_bodies_of) (defBody s_bodies_of) = some ir_bodies_of := by rfl
abbrev s_heating_with : Stmt := topS 40
abbrev n_heating_with_ps : List Str := ["problem", "rates"]
theorem sc_heating_with : FnScope pr_heating_with.N n_heating_with_ps (defScope s_heating_with) := ⟨rfl, rfl, rfl, by decide +kernel, rfl, by decide +kernel, by decide +kernel⟩
theorem cc_heating_with : cB pr_heating_with 100 (defScope s_heating_with) (defBody s_heating_with) = some ir_heating_with := by rfl
abbrev s_worst_of : Stmt := topS 39
abbrev n_worst_of_ps : List Str := ["problem", "spreads"]
theorem sc_worst_of : FnScope pr_worst_of.N n_worst_of_ps (defScope s_worst_of) := ⟨rfl, rfl, rfl, by decide +kernel, rfl, by decide +kernel, by decide +kernel⟩
theorem cc_worst_of : cB pr_worst_of 100 (defScope s_worst_of) (defBody s_worst_of) = some ir_worst_of := by rfl
abbrev s_shows_rates : Stmt := topS 37
abbrev n_shows_rates_ps : List Str := ["problem", "spreads", "value"]
theorem sc_shows_rates : FnScope pr_shows_rates.N n_shows_rates_ps (defScope s_shows_rates) := ⟨rfl, rfl, rfl, by decide +kernel, rfl, by decide +kernel, by decide +kernel⟩
theorem cc_shows_rates : cB pr_shows_rates 100 (defScope s_shows_rates) (defBody s_shows_rates) = some ir_shows_rates := by rfl
abbrev s_worst_heating : Stmt := topS 35
abbrev n_worst_heating_ps : List Str := ["problem", "spreads"]
theorem sc_worst_heating : FnScope pr_worst_heating.N n_worst_heating_ps (defScope s_worst_heating) := ⟨rfl, rfl, rfl, by decide +kernel, rfl, by decide +kernel, by decide +kernel⟩
theorem cc_worst_heating : cB pr_worst_heating 100 (defScope s_worst_heating) (defBody s_worst_heating) = some ir_worst_heating := by rfl
abbrev s_worst_rates : Stmt := topS 36
abbrev n_worst_rates_ps : List Str := ["problem", "spreads"]
theorem sc_worst_rates : FnScope pr_worst_rates.N n_worst_rates_ps (defScope s_worst_rates) := ⟨rfl, rfl, rfl, by decide +kernel, rfl, by decide +kernel, by decide +kernel⟩
theorem cc_worst_rates : cB pr_worst_rates 100 (defScope s_worst_rates) (defBody s_worst_rates) = some ir_worst_rates := by rfl
abbrev s_whole_heat : Stmt := topS 28
abbrev n_whole_heat_ps : List Str := ["body"]
theorem sc_whole_heat : FnScope pr_whole_heat.N n_whole_heat_ps (defScope s_whole_heat) := ⟨rfl, rfl, rfl, by decide +kernel, rfl, by decide +kernel, by decide +kernel⟩
theorem cc_whole_heat : cB pr_whole_heat 100 (defScope s_whole_heat) (defBody s_whole_heat) = some ir_whole_heat := by rfl
abbrev s_outside_with : Stmt := topS 33
abbrev n_outside_with_ps : List Str := ["heating", "bodies"]
theorem sc_outside_with : FnScope pr_outside_with.N n_outside_with_ps (defScope s_outside_with) := ⟨rfl, rfl, rfl, by decide +kernel, rfl, by decide +kernel, by decide +kernel⟩
theorem cc_outside_with : cB pr_outside_with 100 (defScope s_outside_with) (defBody s_outside_with) = some ir_outside_with := by rfl
abbrev s_least_outside : Stmt := topS 42
abbrev n_least_outside_ps : List Str := ["problem"]
theorem sc_least_outside : FnScope pr_least_outside.N n_least_outside_ps (defScope s_least_outside) := ⟨rfl, rfl, rfl, by decide +kernel, rfl, by decide +kernel, by decide +kernel⟩
theorem cc_least_outside : cB pr_least_outside 100 (defScope s_least_outside) (defBody s_least_outside) = some ir_least_outside := by rfl
abbrev s_law : Stmt := topS 53
abbrev n_law_ps : List Str := ["script"]
theorem sc_law : FnScope pr_law.N n_law_ps (defScope s_law) := ⟨rfl, rfl, rfl, by decide +kernel, rfl, by decide +kernel, by decide +kernel⟩
theorem cc_law : cB pr_law 100 (defScope s_law) (defBody s_law) = some ir_law := by rfl
theorem all_mk {l : PySem.W.OpenLaw} {w : World} {K : PySem.W.Frag} {h : Heap} {mg : Str → Option Value} {fa f0 f1 f2 f3 f4 f5 f6 f7 f8 f9 f10 f11 f12 f13 f14 f15 f16 f17 f18 f19 f20 f21 f22 f23 f24 f25 f26 f27 f28 f29 : Addr} (X : K.In h) (G : h.Ns mainGlobals mg) (hfa : mg "law" = some (.ref fa))
    {od0 an0 : Option Addr} {sl0 : Array (Option Value)} {oc0 kV0 dc0 pm0 cd0 ct0 : Value}
    (a0 : PySem.W.nsIn K mainGlobals "_law_taken" = some (some (.ref f0))) (l0 : K.lookup f0 = some ⟨oc0, od0, .func (PySem.W.fnOf "_law_taken" "_law_taken" (defArgs s__law_taken) (defBody s__law_taken) (defScope s__law_taken) .none kV0 dc0 pm0 an0 cd0 ct0), sl0⟩) (c0 : PySem.W.codeIn K cd0 "_law_taken" = true) (k0 : PySem.W.keepIn K (.ref f0) = true)
    {od1 an1 : Option Addr} {sl1 : Array (Option Value)} {oc1 kV1 dc1 pm1 cd1 ct1 : Value}
    (a1 : PySem.W.nsIn K mainGlobals "_law_pick" = some (some (.ref f1))) (l1 : K.lookup f1 = some ⟨oc1, od1, .func (PySem.W.fnOf "_law_pick" "_law_pick" (defArgs s__law_pick) (defBody s__law_pick) (defScope s__law_pick) .none kV1 dc1 pm1 an1 cd1 ct1), sl1⟩) (c1 : PySem.W.codeIn K cd1 "_law_pick" = true) (k1 : PySem.W.keepIn K (.ref f1) = true)
    {od2 an2 : Option Addr} {sl2 : Array (Option Value)} {oc2 kV2 dc2 pm2 cd2 ct2 : Value}
    (a2 : PySem.W.nsIn K mainGlobals "_law_problem" = some (some (.ref f2))) (l2 : K.lookup f2 = some ⟨oc2, od2, .func (PySem.W.fnOf "_law_problem" "_law_problem" (defArgs s__law_problem) (defBody s__law_problem) (defScope s__law_problem) .none kV2 dc2 pm2 an2 cd2 ct2), sl2⟩) (c2 : PySem.W.codeIn K cd2 "_law_problem" = true) (k2 : PySem.W.keepIn K (.ref f2) = true)
    {od3 an3 : Option Addr} {sl3 : Array (Option Value)} {oc3 kV3 dc3 pm3 cd3 ct3 : Value}
    (a3 : PySem.W.nsIn K mainGlobals "is_row" = some (some (.ref f3))) (l3 : K.lookup f3 = some ⟨oc3, od3, .func (PySem.W.fnOf "is_row" "is_row" (defArgs s_is_row) (defBody s_is_row) (defScope s_is_row) .none kV3 dc3 pm3 an3 cd3 ct3), sl3⟩) (c3 : PySem.W.codeIn K cd3 "is_row" = true) (k3 : PySem.W.keepIn K (.ref f3) = true)
    {od4 an4 : Option Addr} {sl4 : Array (Option Value)} {oc4 kV4 dc4 pm4 cd4 ct4 : Value}
    (a4 : PySem.W.nsIn K mainGlobals "is_integer" = some (some (.ref f4))) (l4 : K.lookup f4 = some ⟨oc4, od4, .func (PySem.W.fnOf "is_integer" "is_integer" (defArgs s_is_integer) (defBody s_is_integer) (defScope s_is_integer) .none kV4 dc4 pm4 an4 cd4 ct4), sl4⟩) (c4 : PySem.W.codeIn K cd4 "is_integer" = true) (k4 : PySem.W.keepIn K (.ref f4) = true)
    {od5 an5 : Option Addr} {sl5 : Array (Option Value)} {oc5 kV5 dc5 pm5 cd5 ct5 : Value}
    (a5 : PySem.W.nsIn K mainGlobals "is_within" = some (some (.ref f5))) (l5 : K.lookup f5 = some ⟨oc5, od5, .func (PySem.W.fnOf "is_within" "is_within" (defArgs s_is_within) (defBody s_is_within) (defScope s_is_within) .none kV5 dc5 pm5 an5 cd5 ct5), sl5⟩) (c5 : PySem.W.codeIn K cd5 "is_within" = true) (k5 : PySem.W.keepIn K (.ref f5) = true)
    {od6 an6 : Option Addr} {sl6 : Array (Option Value)} {oc6 kV6 dc6 pm6 cd6 ct6 : Value}
    (a6 : PySem.W.nsIn K mainGlobals "is_temperature" = some (some (.ref f6))) (l6 : K.lookup f6 = some ⟨oc6, od6, .func (PySem.W.fnOf "is_temperature" "is_temperature" (defArgs s_is_temperature) (defBody s_is_temperature) (defScope s_is_temperature) .none kV6 dc6 pm6 an6 cd6 ct6), sl6⟩) (c6 : PySem.W.codeIn K cd6 "is_temperature" = true) (k6 : PySem.W.keepIn K (.ref f6) = true)
    {od7 an7 : Option Addr} {sl7 : Array (Option Value)} {oc7 kV7 dc7 pm7 cd7 ct7 : Value}
    (a7 : PySem.W.nsIn K mainGlobals "is_stream" = some (some (.ref f7))) (l7 : K.lookup f7 = some ⟨oc7, od7, .func (PySem.W.fnOf "is_stream" "is_stream" (defArgs s_is_stream) (defBody s_is_stream) (defScope s_is_stream) .none kV7 dc7 pm7 an7 cd7 ct7), sl7⟩) (c7 : PySem.W.codeIn K cd7 "is_stream" = true) (k7 : PySem.W.keepIn K (.ref f7) = true)
    {od8 an8 : Option Addr} {sl8 : Array (Option Value)} {oc8 kV8 dc8 pm8 cd8 ct8 : Value}
    (a8 : PySem.W.nsIn K mainGlobals "check_streams" = some (some (.ref f8))) (l8 : K.lookup f8 = some ⟨oc8, od8, .func (PySem.W.fnOf "check_streams" "check_streams" (defArgs s_check_streams) (defBody s_check_streams) (defScope s_check_streams) .none kV8 dc8 pm8 an8 cd8 ct8), sl8⟩) (c8 : PySem.W.codeIn K cd8 "check_streams" = true) (k8 : PySem.W.keepIn K (.ref f8) = true)
    {od9 an9 : Option Addr} {sl9 : Array (Option Value)} {oc9 kV9 dc9 pm9 cd9 ct9 : Value}
    (a9 : PySem.W.nsIn K mainGlobals "is_box" = some (some (.ref f9))) (l9 : K.lookup f9 = some ⟨oc9, od9, .func (PySem.W.fnOf "is_box" "is_box" (defArgs s_is_box) (defBody s_is_box) (defScope s_is_box) .none kV9 dc9 pm9 an9 cd9 ct9), sl9⟩) (c9 : PySem.W.codeIn K cd9 "is_box" = true) (k9 : PySem.W.keepIn K (.ref f9) = true)
    {od10 an10 : Option Addr} {sl10 : Array (Option Value)} {oc10 kV10 dc10 pm10 cd10 ct10 : Value}
    (a10 : PySem.W.nsIn K mainGlobals "check_boxes" = some (some (.ref f10))) (l10 : K.lookup f10 = some ⟨oc10, od10, .func (PySem.W.fnOf "check_boxes" "check_boxes" (defArgs s_check_boxes) (defBody s_check_boxes) (defScope s_check_boxes) .none kV10 dc10 pm10 an10 cd10 ct10), sl10⟩) (c10 : PySem.W.codeIn K cd10 "check_boxes" = true) (k10 : PySem.W.keepIn K (.ref f10) = true)
    {od11 an11 : Option Addr} {sl11 : Array (Option Value)} {oc11 kV11 dc11 pm11 cd11 ct11 : Value}
    (a11 : PySem.W.nsIn K mainGlobals "check_gap" = some (some (.ref f11))) (l11 : K.lookup f11 = some ⟨oc11, od11, .func (PySem.W.fnOf "check_gap" "check_gap" (defArgs s_check_gap) (defBody s_check_gap) (defScope s_check_gap) .none kV11 dc11 pm11 an11 cd11 ct11), sl11⟩) (c11 : PySem.W.codeIn K cd11 "check_gap" = true) (k11 : PySem.W.keepIn K (.ref f11) = true)
    {od12 an12 : Option Addr} {sl12 : Array (Option Value)} {oc12 kV12 dc12 pm12 cd12 ct12 : Value}
    (a12 : PySem.W.nsIn K mainGlobals "check_problem" = some (some (.ref f12))) (l12 : K.lookup f12 = some ⟨oc12, od12, .func (PySem.W.fnOf "check_problem" "check_problem" (defArgs s_check_problem) (defBody s_check_problem) (defScope s_check_problem) .none kV12 dc12 pm12 an12 cd12 ct12), sl12⟩) (c12 : PySem.W.codeIn K cd12 "check_problem" = true) (k12 : PySem.W.keepIn K (.ref f12) = true)
    {od13 an13 : Option Addr} {sl13 : Array (Option Value)} {oc13 kV13 dc13 pm13 cd13 ct13 : Value}
    (a13 : PySem.W.nsIn K mainGlobals "check_spreads" = some (some (.ref f13))) (l13 : K.lookup f13 = some ⟨oc13, od13, .func (PySem.W.fnOf "check_spreads" "check_spreads" (defArgs s_check_spreads) (defBody s_check_spreads) (defScope s_check_spreads) .none kV13 dc13 pm13 an13 cd13 ct13), sl13⟩) (c13 : PySem.W.codeIn K cd13 "check_spreads" = true) (k13 : PySem.W.keepIn K (.ref f13) = true)
    {od14 an14 : Option Addr} {sl14 : Array (Option Value)} {oc14 kV14 dc14 pm14 cd14 ct14 : Value}
    (a14 : PySem.W.nsIn K mainGlobals "is_box_body" = some (some (.ref f14))) (l14 : K.lookup f14 = some ⟨oc14, od14, .func (PySem.W.fnOf "is_box_body" "is_box_body" (defArgs s_is_box_body) (defBody s_is_box_body) (defScope s_is_box_body) .none kV14 dc14 pm14 an14 cd14 ct14), sl14⟩) (c14 : PySem.W.codeIn K cd14 "is_box_body" = true) (k14 : PySem.W.keepIn K (.ref f14) = true)
    {od15 an15 : Option Addr} {sl15 : Array (Option Value)} {oc15 kV15 dc15 pm15 cd15 ct15 : Value}
    (a15 : PySem.W.nsIn K mainGlobals "heat_above" = some (some (.ref f15))) (l15 : K.lookup f15 = some ⟨oc15, od15, .func (PySem.W.fnOf "heat_above" "heat_above" (defArgs s_heat_above) (defBody s_heat_above) (defScope s_heat_above) .none kV15 dc15 pm15 an15 cd15 ct15), sl15⟩) (c15 : PySem.W.codeIn K cd15 "heat_above" = true) (k15 : PySem.W.keepIn K (.ref f15) = true)
    {od16 an16 : Option Addr} {sl16 : Array (Option Value)} {oc16 kV16 dc16 pm16 cd16 ct16 : Value}
    (a16 : PySem.W.nsIn K mainGlobals "lack_above" = some (some (.ref f16))) (l16 : K.lookup f16 = some ⟨oc16, od16, .func (PySem.W.fnOf "lack_above" "lack_above" (defArgs s_lack_above) (defBody s_lack_above) (defScope s_lack_above) .none kV16 dc16 pm16 an16 cd16 ct16), sl16⟩) (c16 : PySem.W.codeIn K cd16 "lack_above" = true) (k16 : PySem.W.keepIn K (.ref f16) = true)
    {od17 an17 : Option Addr} {sl17 : Array (Option Value)} {oc17 kV17 dc17 pm17 cd17 ct17 : Value}
    (a17 : PySem.W.nsIn K mainGlobals "levels_of" = some (some (.ref f17))) (l17 : K.lookup f17 = some ⟨oc17, od17, .func (PySem.W.fnOf "levels_of" "levels_of" (defArgs s_levels_of) (defBody s_levels_of) (defScope s_levels_of) .none kV17 dc17 pm17 an17 cd17 ct17), sl17⟩) (c17 : PySem.W.codeIn K cd17 "levels_of" = true) (k17 : PySem.W.keepIn K (.ref f17) = true)
    {od18 an18 : Option Addr} {sl18 : Array (Option Value)} {oc18 kV18 dc18 pm18 cd18 ct18 : Value}
    (a18 : PySem.W.nsIn K mainGlobals "edges_of" = some (some (.ref f18))) (l18 : K.lookup f18 = some ⟨oc18, od18, .func (PySem.W.fnOf "edges_of" "edges_of" (defArgs s_edges_of) (defBody s_edges_of) (defScope s_edges_of) .none kV18 dc18 pm18 an18 cd18 ct18), sl18⟩) (c18 : PySem.W.codeIn K cd18 "edges_of" = true) (k18 : PySem.W.keepIn K (.ref f18) = true)
    {od19 an19 : Option Addr} {sl19 : Array (Option Value)} {oc19 kV19 dc19 pm19 cd19 ct19 : Value}
    (a19 : PySem.W.nsIn K mainGlobals "heating_of" = some (some (.ref f19))) (l19 : K.lookup f19 = some ⟨oc19, od19, .func (PySem.W.fnOf "heating_of" "heating_of" (defArgs s_heating_of) (defBody s_heating_of) (defScope s_heating_of) .none kV19 dc19 pm19 an19 cd19 ct19), sl19⟩) (c19 : PySem.W.codeIn K cd19 "heating_of" = true) (k19 : PySem.W.keepIn K (.ref f19) = true)
    {od20 an20 : Option Addr} {sl20 : Array (Option Value)} {oc20 kV20 dc20 pm20 cd20 ct20 : Value}
    (a20 : PySem.W.nsIn K mainGlobals "bodies_of" = some (some (.ref f20))) (l20 : K.lookup f20 = some ⟨oc20, od20, .func (PySem.W.fnOf "bodies_of" "bodies_of" (defArgs s_bodies_of) (defBody s_bodies_of) (defScope s_bodies_of) .none kV20 dc20 pm20 an20 cd20 ct20), sl20⟩) (c20 : PySem.W.codeIn K cd20 "bodies_of" = true) (k20 : PySem.W.keepIn K (.ref f20) = true)
    {od21 an21 : Option Addr} {sl21 : Array (Option Value)} {oc21 kV21 dc21 pm21 cd21 ct21 : Value}
    (a21 : PySem.W.nsIn K mainGlobals "heating_with" = some (some (.ref f21))) (l21 : K.lookup f21 = some ⟨oc21, od21, .func (PySem.W.fnOf "heating_with" "heating_with" (defArgs s_heating_with) (defBody s_heating_with) (defScope s_heating_with) .none kV21 dc21 pm21 an21 cd21 ct21), sl21⟩) (c21 : PySem.W.codeIn K cd21 "heating_with" = true) (k21 : PySem.W.keepIn K (.ref f21) = true)
    {od22 an22 : Option Addr} {sl22 : Array (Option Value)} {oc22 kV22 dc22 pm22 cd22 ct22 : Value}
    (a22 : PySem.W.nsIn K mainGlobals "worst_of" = some (some (.ref f22))) (l22 : K.lookup f22 = some ⟨oc22, od22, .func (PySem.W.fnOf "worst_of" "worst_of" (defArgs s_worst_of) (defBody s_worst_of) (defScope s_worst_of) .none kV22 dc22 pm22 an22 cd22 ct22), sl22⟩) (c22 : PySem.W.codeIn K cd22 "worst_of" = true) (k22 : PySem.W.keepIn K (.ref f22) = true)
    {od23 an23 : Option Addr} {sl23 : Array (Option Value)} {oc23 kV23 dc23 pm23 cd23 ct23 : Value}
    (a23 : PySem.W.nsIn K mainGlobals "shows_rates" = some (some (.ref f23))) (l23 : K.lookup f23 = some ⟨oc23, od23, .func (PySem.W.fnOf "shows_rates" "shows_rates" (defArgs s_shows_rates) (defBody s_shows_rates) (defScope s_shows_rates) .none kV23 dc23 pm23 an23 cd23 ct23), sl23⟩) (c23 : PySem.W.codeIn K cd23 "shows_rates" = true) (k23 : PySem.W.keepIn K (.ref f23) = true)
    {od24 an24 : Option Addr} {sl24 : Array (Option Value)} {oc24 kV24 dc24 pm24 cd24 ct24 : Value}
    (a24 : PySem.W.nsIn K mainGlobals "worst_heating" = some (some (.ref f24))) (l24 : K.lookup f24 = some ⟨oc24, od24, .func (PySem.W.fnOf "worst_heating" "worst_heating" (defArgs s_worst_heating) (defBody s_worst_heating) (defScope s_worst_heating) .none kV24 dc24 pm24 an24 cd24 ct24), sl24⟩) (c24 : PySem.W.codeIn K cd24 "worst_heating" = true) (k24 : PySem.W.keepIn K (.ref f24) = true)
    {od25 an25 : Option Addr} {sl25 : Array (Option Value)} {oc25 kV25 dc25 pm25 cd25 ct25 : Value}
    (a25 : PySem.W.nsIn K mainGlobals "worst_rates" = some (some (.ref f25))) (l25 : K.lookup f25 = some ⟨oc25, od25, .func (PySem.W.fnOf "worst_rates" "worst_rates" (defArgs s_worst_rates) (defBody s_worst_rates) (defScope s_worst_rates) .none kV25 dc25 pm25 an25 cd25 ct25), sl25⟩) (c25 : PySem.W.codeIn K cd25 "worst_rates" = true) (k25 : PySem.W.keepIn K (.ref f25) = true)
    {od26 an26 : Option Addr} {sl26 : Array (Option Value)} {oc26 kV26 dc26 pm26 cd26 ct26 : Value}
    (a26 : PySem.W.nsIn K mainGlobals "whole_heat" = some (some (.ref f26))) (l26 : K.lookup f26 = some ⟨oc26, od26, .func (PySem.W.fnOf "whole_heat" "whole_heat" (defArgs s_whole_heat) (defBody s_whole_heat) (defScope s_whole_heat) .none kV26 dc26 pm26 an26 cd26 ct26), sl26⟩) (c26 : PySem.W.codeIn K cd26 "whole_heat" = true) (k26 : PySem.W.keepIn K (.ref f26) = true)
    {od27 an27 : Option Addr} {sl27 : Array (Option Value)} {oc27 kV27 dc27 pm27 cd27 ct27 : Value}
    (a27 : PySem.W.nsIn K mainGlobals "outside_with" = some (some (.ref f27))) (l27 : K.lookup f27 = some ⟨oc27, od27, .func (PySem.W.fnOf "outside_with" "outside_with" (defArgs s_outside_with) (defBody s_outside_with) (defScope s_outside_with) .none kV27 dc27 pm27 an27 cd27 ct27), sl27⟩) (c27 : PySem.W.codeIn K cd27 "outside_with" = true) (k27 : PySem.W.keepIn K (.ref f27) = true)
    {od28 an28 : Option Addr} {sl28 : Array (Option Value)} {oc28 kV28 dc28 pm28 cd28 ct28 : Value}
    (a28 : PySem.W.nsIn K mainGlobals "least_outside" = some (some (.ref f28))) (l28 : K.lookup f28 = some ⟨oc28, od28, .func (PySem.W.fnOf "least_outside" "least_outside" (defArgs s_least_outside) (defBody s_least_outside) (defScope s_least_outside) .none kV28 dc28 pm28 an28 cd28 ct28), sl28⟩) (c28 : PySem.W.codeIn K cd28 "least_outside" = true) (k28 : PySem.W.keepIn K (.ref f28) = true)
    {od29 an29 : Option Addr} {sl29 : Array (Option Value)} {oc29 kV29 dc29 pm29 cd29 ct29 : Value}
    (a29 : PySem.W.nsIn K mainGlobals "law" = some (some (.ref f29))) (l29 : K.lookup f29 = some ⟨oc29, od29, .func (PySem.W.fnOf "law" "law" (defArgs s_law) (defBody s_law) (defScope s_law) .none kV29 dc29 pm29 an29 cd29 ct29), sl29⟩) (c29 : PySem.W.codeIn K cd29 "law" = true) (k29 : PySem.W.keepIn K (.ref f29) = true)
    (z0 : PySem.W.nsIn K mainGlobals "all" = some none)
    (z1 : PySem.W.nsIn K mainGlobals "bool" = some none)
    (z2 : PySem.W.nsIn K mainGlobals "enumerate" = some none)
    (z3 : PySem.W.nsIn K mainGlobals "int" = some none)
    (z4 : PySem.W.nsIn K mainGlobals "isinstance" = some none)
    (z5 : PySem.W.nsIn K mainGlobals "len" = some none)
    (z6 : PySem.W.nsIn K mainGlobals "max" = some none)
    (z7 : PySem.W.nsIn K mainGlobals "min" = some none)
    (z8 : PySem.W.nsIn K mainGlobals "range" = some none)
    (z9 : PySem.W.nsIn K mainGlobals "set" = some none)
    (z10 : PySem.W.nsIn K mainGlobals "sorted" = some none)
    (z11 : PySem.W.nsIn K mainGlobals "sum" = some none)
    (z12 : PySem.W.nsIn K mainGlobals "tuple" = some none)
    (z13 : PySem.W.nsIn K mainGlobals "zip" = some none)
    {t0 : Tok} (g0 : PySem.W.nsIn K mainGlobals "MOST_BOXES" = some (some (.int 4 t0)))
    {t1 : Tok} (g1 : PySem.W.nsIn K mainGlobals "MOST_BOX_HEAT" = some (some (.int 10000 t1)))
    {t2 : Tok} (g2 : PySem.W.nsIn K mainGlobals "MOST_DEGREES" = some (some (.int 1000 t2)))
    {t3 : Tok} (g3 : PySem.W.nsIn K mainGlobals "MOST_GAP" = some (some (.int 100 t3)))
    {t4 : Tok} (g4 : PySem.W.nsIn K mainGlobals "MOST_RATE" = some (some (.int 100 t4)))
    {t5 : Tok} (g5 : PySem.W.nsIn K mainGlobals "MOST_STREAMS" = some (some (.int 6 t5))) :
    ∃ fd : FuncData, (∀ (s : Shared) (v : Value), BindsTo s fd ⟨[v], []⟩ [("script", v)]) ∧ ∀ base : Heap, K.In base → base.Ns mainGlobals mg → FnOk l.prog w K mg base (L2.CX l.prog w) 9 fa fd ["script"] (SpD K lawD) := by
  have e := hfa.symm.trans (PySem.W.mg_of X G a29)
  cases e
  have F__law_taken := fun_mk (st := s__law_taken) l0 c0 k0
  have m__law_taken := PySem.W.mg_of X G a0
  have b__law_taken := F__law_taken.binds (ps := n__law_taken_ps) fun _ _ _ _ _ _ us hl => match us, hl with | [_, _], _ => rfl
  have F__law_pick := fun_mk (st := s__law_pick) l1 c1 k1
  have m__law_pick := PySem.W.mg_of X G a1
  have b__law_pick := F__law_pick.binds (ps := n__law_pick_ps) fun _ _ _ _ _ _ us hl => match us, hl with | [_, _], _ => rfl
  have F__law_problem := fun_mk (st := s__law_problem) l2 c2 k2
  have m__law_problem := PySem.W.mg_of X G a2
  have b__law_problem := F__law_problem.binds (ps := n__law_problem_ps) fun _ _ _ _ _ _ us hl => match us, hl with | [_], _ => rfl
  have F_is_row := fun_mk (st := s_is_row) l3 c3 k3
  have m_is_row := PySem.W.mg_of X G a3
  have b_is_row := F_is_row.binds (ps := n_is_row_ps) fun _ _ _ _ _ _ us hl => match us, hl with | [_, _, _], _ => rfl
  have F_is_integer := fun_mk (st := s_is_integer) l4 c4 k4
  have m_is_integer := PySem.W.mg_of X G a4
  have b_is_integer := F_is_integer.binds (ps := n_is_integer_ps) fun _ _ _ _ _ _ us hl => match us, hl with | [_], _ => rfl
  have F_is_within := fun_mk (st := s_is_within) l5 c5 k5
  have m_is_within := PySem.W.mg_of X G a5
  have b_is_within := F_is_within.binds (ps := n_is_within_ps) fun _ _ _ _ _ _ us hl => match us, hl with | [_, _, _], _ => rfl
  have F_is_temperature := fun_mk (st := s_is_temperature) l6 c6 k6
  have m_is_temperature := PySem.W.mg_of X G a6
  have b_is_temperature := F_is_temperature.binds (ps := n_is_temperature_ps) fun _ _ _ _ _ _ us hl => match us, hl with | [_], _ => rfl
  have F_is_stream := fun_mk (st := s_is_stream) l7 c7 k7
  have m_is_stream := PySem.W.mg_of X G a7
  have b_is_stream := F_is_stream.binds (ps := n_is_stream_ps) fun _ _ _ _ _ _ us hl => match us, hl with | [_], _ => rfl
  have F_check_streams := fun_mk (st := s_check_streams) l8 c8 k8
  have m_check_streams := PySem.W.mg_of X G a8
  have b_check_streams := F_check_streams.binds (ps := n_check_streams_ps) fun _ _ _ _ _ _ us hl => match us, hl with | [_], _ => rfl
  have F_is_box := fun_mk (st := s_is_box) l9 c9 k9
  have m_is_box := PySem.W.mg_of X G a9
  have b_is_box := F_is_box.binds (ps := n_is_box_ps) fun _ _ _ _ _ _ us hl => match us, hl with | [_], _ => rfl
  have F_check_boxes := fun_mk (st := s_check_boxes) l10 c10 k10
  have m_check_boxes := PySem.W.mg_of X G a10
  have b_check_boxes := F_check_boxes.binds (ps := n_check_boxes_ps) fun _ _ _ _ _ _ us hl => match us, hl with | [_], _ => rfl
  have F_check_gap := fun_mk (st := s_check_gap) l11 c11 k11
  have m_check_gap := PySem.W.mg_of X G a11
  have b_check_gap := F_check_gap.binds (ps := n_check_gap_ps) fun _ _ _ _ _ _ us hl => match us, hl with | [_], _ => rfl
  have F_check_problem := fun_mk (st := s_check_problem) l12 c12 k12
  have m_check_problem := PySem.W.mg_of X G a12
  have b_check_problem := F_check_problem.binds (ps := n_check_problem_ps) fun _ _ _ _ _ _ us hl => match us, hl with | [_], _ => rfl
  have F_check_spreads := fun_mk (st := s_check_spreads) l13 c13 k13
  have m_check_spreads := PySem.W.mg_of X G a13
  have b_check_spreads := F_check_spreads.binds (ps := n_check_spreads_ps) fun _ _ _ _ _ _ us hl => match us, hl with | [_, _], _ => rfl
  have F_is_box_body := fun_mk (st := s_is_box_body) l14 c14 k14
  have m_is_box_body := PySem.W.mg_of X G a14
  have b_is_box_body := F_is_box_body.binds (ps := n_is_box_body_ps) fun _ _ _ _ _ _ us hl => match us, hl with | [_], _ => rfl
  have F_heat_above := fun_mk (st := s_heat_above) l15 c15 k15
  have m_heat_above := PySem.W.mg_of X G a15
  have b_heat_above := F_heat_above.binds (ps := n_heat_above_ps) fun _ _ _ _ _ _ us hl => match us, hl with | [_, _, _], _ => rfl
  have F_lack_above := fun_mk (st := s_lack_above) l16 c16 k16
  have m_lack_above := PySem.W.mg_of X G a16
  have b_lack_above := F_lack_above.binds (ps := n_lack_above_ps) fun _ _ _ _ _ _ us hl => match us, hl with | [_, _, _], _ => rfl
  have F_levels_of := fun_mk (st := s_levels_of) l17 c17 k17
  have m_levels_of := PySem.W.mg_of X G a17
  have b_levels_of := F_levels_of.binds (ps := n_levels_of_ps) fun _ _ _ _ _ _ us hl => match us, hl with | [_], _ => rfl
  have F_edges_of := fun_mk (st := s_edges_of) l18 c18 k18
  have m_edges_of := PySem.W.mg_of X G a18
  have b_edges_of := F_edges_of.binds (ps := n_edges_of_ps) fun _ _ _ _ _ _ us hl => match us, hl with | [_], _ => rfl
  have F_heating_of := fun_mk (st := s_heating_of) l19 c19 k19
  have m_heating_of := PySem.W.mg_of X G a19
  have b_heating_of := F_heating_of.binds (ps := n_heating_of_ps) fun _ _ _ _ _ _ us hl => match us, hl with | [_], _ => rfl
  have F_bodies_of := fun_mk (st := s_bodies_of) l20 c20 k20
  have m_bodies_of := PySem.W.mg_of X G a20
  have b_bodies_of := F_bodies_of.binds (ps := n_bodies_of_ps) fun _ _ _ _ _ _ us hl => match us, hl with | [_], _ => rfl
  have F_heating_with := fun_mk (st := s_heating_with) l21 c21 k21
  have m_heating_with := PySem.W.mg_of X G a21
  have b_heating_with := F_heating_with.binds (ps := n_heating_with_ps) fun _ _ _ _ _ _ us hl => match us, hl with | [_, _], _ => rfl
  have F_worst_of := fun_mk (st := s_worst_of) l22 c22 k22
  have m_worst_of := PySem.W.mg_of X G a22
  have b_worst_of := F_worst_of.binds (ps := n_worst_of_ps) fun _ _ _ _ _ _ us hl => match us, hl with | [_, _], _ => rfl
  have F_shows_rates := fun_mk (st := s_shows_rates) l23 c23 k23
  have m_shows_rates := PySem.W.mg_of X G a23
  have b_shows_rates := F_shows_rates.binds (ps := n_shows_rates_ps) fun _ _ _ _ _ _ us hl => match us, hl with | [_, _, _], _ => rfl
  have F_worst_heating := fun_mk (st := s_worst_heating) l24 c24 k24
  have m_worst_heating := PySem.W.mg_of X G a24
  have b_worst_heating := F_worst_heating.binds (ps := n_worst_heating_ps) fun _ _ _ _ _ _ us hl => match us, hl with | [_, _], _ => rfl
  have F_worst_rates := fun_mk (st := s_worst_rates) l25 c25 k25
  have m_worst_rates := PySem.W.mg_of X G a25
  have b_worst_rates := F_worst_rates.binds (ps := n_worst_rates_ps) fun _ _ _ _ _ _ us hl => match us, hl with | [_, _], _ => rfl
  have F_whole_heat := fun_mk (st := s_whole_heat) l26 c26 k26
  have m_whole_heat := PySem.W.mg_of X G a26
  have b_whole_heat := F_whole_heat.binds (ps := n_whole_heat_ps) fun _ _ _ _ _ _ us hl => match us, hl with | [_], _ => rfl
  have F_outside_with := fun_mk (st := s_outside_with) l27 c27 k27
  have m_outside_with := PySem.W.mg_of X G a27
  have b_outside_with := F_outside_with.binds (ps := n_outside_with_ps) fun _ _ _ _ _ _ us hl => match us, hl with | [_, _], _ => rfl
  have F_least_outside := fun_mk (st := s_least_outside) l28 c28 k28
  have m_least_outside := PySem.W.mg_of X G a28
  have b_least_outside := F_least_outside.binds (ps := n_least_outside_ps) fun _ _ _ _ _ _ us hl => match us, hl with | [_], _ => rfl
  have F_law := fun_mk (st := s_law) l29 c29 k29
  have m_law := PySem.W.mg_of X G a29
  have y_all := PySem.W.mg_none_of X G z0
  have y_bool := PySem.W.mg_none_of X G z1
  have y_enumerate := PySem.W.mg_none_of X G z2
  have y_int := PySem.W.mg_none_of X G z3
  have y_isinstance := PySem.W.mg_none_of X G z4
  have y_len := PySem.W.mg_none_of X G z5
  have y_max := PySem.W.mg_none_of X G z6
  have y_min := PySem.W.mg_none_of X G z7
  have y_range := PySem.W.mg_none_of X G z8
  have y_set := PySem.W.mg_none_of X G z9
  have y_sorted := PySem.W.mg_none_of X G z10
  have y_sum := PySem.W.mg_none_of X G z11
  have y_tuple := PySem.W.mg_none_of X G z12
  have y_zip := PySem.W.mg_none_of X G z13
  have y_MOST_BOXES := PySem.W.mg_of X G g0
  have y_MOST_BOX_HEAT := PySem.W.mg_of X G g1
  have y_MOST_DEGREES := PySem.W.mg_of X G g2
  have y_MOST_GAP := PySem.W.mg_of X G g3
  have y_MOST_RATE := PySem.W.mg_of X G g4
  have y_MOST_STREAMS := PySem.W.mg_of X G g5
  refine ⟨PySem.W.fnOf "law" "law" (defArgs s_law) (defBody s_law) (defScope s_law) .none kV29 dc29 pm29 an29 cd29 ct29, fun s v => .of_eq rfl, fun base _ _ => ?_⟩
  have C__law_taken := calK (T := mkT [] [] []) (Pr := l.prog) (w := w) (base := base) (P := pr__law_taken) (k := 0) sc__law_taken.nd rfl calsP_nil calsO_nil (blts_cons y_int (blts_cons y_len blts_nil)) mats_nil gls_nil (xs_none rfl rfl rfl rfl) F__law_taken m__law_taken b__law_taken sc__law_taken cc__law_taken (fun _ S => w_taken S )
  have C__law_pick := calK (T := mkT [] [("_law_taken", o_taken)] []) (Pr := l.prog) (w := w) (base := base) (P := pr__law_pick) (k := 1) sc__law_pick.nd rfl calsP_nil (calsO_cons C__law_taken (by decide) rfl calsO_nil) (blts_cons y_len blts_nil) mats_nil gls_nil (xs_none rfl rfl rfl rfl) F__law_pick m__law_pick b__law_pick sc__law_pick cc__law_pick (fun _ S => w_pick S rfl)
  have C__law_problem := calK (T := mkT [] [("_law_pick", o_pick), ("_law_taken", o_taken)] []) (Pr := l.prog) (w := w) (base := base) (P := pr__law_problem) (k := 2) sc__law_problem.nd rfl calsP_nil (calsO_cons C__law_pick (by decide) rfl (calsO_cons C__law_taken (by decide) rfl calsO_nil)) (blts_cons y_range (blts_cons y_tuple blts_nil)) mats_nil gls_nil (xs_none rfl rfl rfl rfl) F__law_problem m__law_problem b__law_problem sc__law_problem cc__law_problem (fun _ S => w_problem S rfl rfl)
  have C_is_row := calC (T := mkT [] [] []) (Pr := l.prog) (w := w) (base := base) (P := pr_is_row) (k := 0) sc_is_row.nd rfl calsP_nil calsO_nil (blts_cons y_isinstance (blts_cons y_tuple (blts_cons y_len blts_nil))) mats_nil gls_nil (xs_none rfl rfl rfl rfl) F_is_row m_is_row b_is_row sc_is_row cc_is_row (fun _ S => w_is_row S )
  have C_is_integer := calC (T := mkT [] [] []) (Pr := l.prog) (w := w) (base := base) (P := pr_is_integer) (k := 0) sc_is_integer.nd rfl calsP_nil calsO_nil (blts_cons y_isinstance (blts_cons y_int (blts_cons y_bool blts_nil))) mats_nil gls_nil (xs_none rfl rfl rfl rfl) F_is_integer m_is_integer b_is_integer sc_is_integer cc_is_integer (fun _ S => w_is_integer S )
  have C_is_within := calC (T := mkT [("is_integer", c_is_integer)] [] []) (Pr := l.prog) (w := w) (base := base) (P := pr_is_within) (k := 1) sc_is_within.nd rfl (calsP_cons C_is_integer (by decide) rfl calsP_nil) calsO_nil blts_nil mats_nil gls_nil (xs_none rfl rfl rfl rfl) F_is_within m_is_within b_is_within sc_is_within cc_is_within (fun _ S => w_is_within S rfl)
  have C_is_temperature := calC (T := mkT [("is_within", c_is_within)] [] [("MOST_DEGREES", .int 1000)]) (Pr := l.prog) (w := w) (base := base) (P := pr_is_temperature) (k := 2) sc_is_temperature.nd rfl (calsP_cons C_is_within (by decide) rfl calsP_nil) calsO_nil blts_nil mats_nil (gls_int y_MOST_DEGREES gls_nil) (xs_none rfl rfl rfl rfl) F_is_temperature m_is_temperature b_is_temperature sc_is_temperature cc_is_temperature (fun _ S => w_is_temperature S rfl rfl)
  have C_is_stream := calC (T := mkT [("is_row", c_is_row), ("is_temperature", c_is_temperature), ("is_within", c_is_within)] [] [("MOST_RATE", .int 100)]) (Pr := l.prog) (w := w) (base := base) (P := pr_is_stream) (k := 3) sc_is_stream.nd rfl (calsP_cons C_is_row (by decide) rfl (calsP_cons C_is_temperature (by decide) rfl (calsP_cons C_is_within (by decide) rfl calsP_nil))) calsO_nil blts_nil mats_nil (gls_int y_MOST_RATE gls_nil) (xs_none rfl rfl rfl rfl) F_is_stream m_is_stream b_is_stream sc_is_stream cc_is_stream (fun _ S => w_is_stream S rfl rfl rfl rfl)
  have C_check_streams := calC (T := mkT [("is_row", c_is_row), ("is_stream", c_is_stream)] [] [("MOST_STREAMS", .int 6)]) (Pr := l.prog) (w := w) (base := base) (P := pr_check_streams) (k := 4) sc_check_streams.nd rfl (calsP_cons C_is_row (by decide) rfl (calsP_cons C_is_stream (by decide) rfl calsP_nil)) calsO_nil (blts_cons y_enumerate blts_nil) mats_nil (gls_int y_MOST_STREAMS gls_nil) (xs_none rfl rfl rfl rfl) F_check_streams m_check_streams b_check_streams sc_check_streams cc_check_streams (fun _ S => w_check_streams S rfl rfl rfl)
  have C_is_box := calC (T := mkT [("is_row", c_is_row), ("is_temperature", c_is_temperature), ("is_within", c_is_within)] [] [("MOST_BOX_HEAT", .int 10000)]) (Pr := l.prog) (w := w) (base := base) (P := pr_is_box) (k := 3) sc_is_box.nd rfl (calsP_cons C_is_row (by decide) rfl (calsP_cons C_is_temperature (by decide) rfl (calsP_cons C_is_within (by decide) rfl calsP_nil))) calsO_nil blts_nil mats_nil (gls_int y_MOST_BOX_HEAT gls_nil) (xs_none rfl rfl rfl rfl) F_is_box m_is_box b_is_box sc_is_box cc_is_box (fun _ S => w_is_box S rfl rfl rfl rfl)
  have C_check_boxes := calC (T := mkT [("is_row", c_is_row), ("is_box", c_is_box)] [] [("MOST_BOXES", .int 4)]) (Pr := l.prog) (w := w) (base := base) (P := pr_check_boxes) (k := 4) sc_check_boxes.nd rfl (calsP_cons C_is_row (by decide) rfl (calsP_cons C_is_box (by decide) rfl calsP_nil)) calsO_nil (blts_cons y_enumerate blts_nil) mats_nil (gls_int y_MOST_BOXES gls_nil) (xs_none rfl rfl rfl rfl) F_check_boxes m_check_boxes b_check_boxes sc_check_boxes cc_check_boxes (fun _ S => w_check_boxes S rfl rfl rfl)
  have C_check_gap := calC (T := mkT [("is_within", c_is_within)] [] [("MOST_GAP", .int 100)]) (Pr := l.prog) (w := w) (base := base) (P := pr_check_gap) (k := 2) sc_check_gap.nd rfl (calsP_cons C_is_within (by decide) rfl calsP_nil) calsO_nil blts_nil mats_nil (gls_int y_MOST_GAP gls_nil) (xs_none rfl rfl rfl rfl) F_check_gap m_check_gap b_check_gap sc_check_gap cc_check_gap (fun _ S => w_check_gap S rfl rfl)
  have C_check_problem := calC (T := mkT [("is_row", c_is_row), ("check_streams", c_check_streams), ("check_boxes", c_check_boxes), ("check_gap", c_check_gap)] [] []) (Pr := l.prog) (w := w) (base := base) (P := pr_check_problem) (k := 5) sc_check_problem.nd rfl (calsP_cons C_is_row (by decide) rfl (calsP_cons C_check_streams (by decide) rfl (calsP_cons C_check_boxes (by decide) rfl (calsP_cons C_check_gap (by decide) rfl calsP_nil)))) calsO_nil blts_nil mats_nil gls_nil (xs_none rfl rfl rfl rfl) F_check_problem m_check_problem b_check_problem sc_check_problem cc_check_problem (fun _ S => w_check_problem S rfl rfl rfl rfl)
  have C_check_spreads := calC (T := mkT [("check_problem", c_check_problem), ("is_row", c_is_row), ("is_within", c_is_within)] [] []) (Pr := l.prog) (w := w) (base := base) (P := pr_check_spreads) (k := 6) sc_check_spreads.nd rfl (calsP_cons C_check_problem (by decide) rfl (calsP_cons C_is_row (by decide) rfl (calsP_cons C_is_within (by decide) rfl calsP_nil))) calsO_nil (blts_cons y_len (blts_cons y_zip blts_nil)) mats_nil gls_nil (xs_none rfl rfl rfl rfl) F_check_spreads m_check_spreads b_check_spreads sc_check_spreads cc_check_spreads (fun _ S => w_check_spreads S rfl rfl rfl)
  have C_is_box_body := calC (T := mkT [] [] []) (Pr := l.prog) (w := w) (base := base) (P := pr_is_box_body) (k := 0) sc_is_box_body.nd rfl calsP_nil calsO_nil blts_nil mats_nil gls_nil (xs_none rfl rfl rfl rfl) F_is_box_body m_is_box_body b_is_box_body sc_is_box_body cc_is_box_body (fun _ S => w_is_box_body S )
  have C_heat_above := calC (T := mkT [("is_box_body", c_is_box_body)] [] []) (Pr := l.prog) (w := w) (base := base) (P := pr_heat_above) (k := 1) sc_heat_above.nd rfl (calsP_cons C_is_box_body (by decide) rfl calsP_nil) calsO_nil (blts_cons y_max blts_nil) mats_nil gls_nil (xs_none rfl rfl rfl rfl) F_heat_above m_heat_above b_heat_above sc_heat_above cc_heat_above (fun _ S => w_heat_above S rfl)
  have C_lack_above := calC (T := mkT [("heat_above", c_heat_above)] [] []) (Pr := l.prog) (w := w) (base := base) (P := pr_lack_above) (k := 2) sc_lack_above.nd rfl (calsP_cons C_heat_above (by decide) rfl calsP_nil) calsO_nil (blts_cons y_sum blts_nil) mats_nil gls_nil (xs_none rfl rfl rfl rfl) F_lack_above m_lack_above b_lack_above sc_lack_above cc_lack_above (fun _ S => w_lack_above S rfl)
  have C_levels_of := calC (T := mkT [] [] []) (Pr := l.prog) (w := w) (base := base) (P := pr_levels_of) (k := 0) sc_levels_of.nd rfl calsP_nil calsO_nil (blts_cons y_sorted (blts_cons y_set blts_nil)) mats_nil gls_nil (xs_none rfl rfl rfl rfl) F_levels_of m_levels_of b_levels_of sc_levels_of cc_levels_of (fun _ S => w_levels_of S )
  have C_edges_of := calC (T := mkT [("levels_of", c_levels_of)] [] []) (Pr := l.prog) (w := w) (base := base) (P := pr_edges_of) (k := 1) sc_edges_of.nd rfl (calsP_cons C_levels_of (by decide) rfl calsP_nil) calsO_nil blts_nil mats_nil gls_nil (xs_none rfl rfl rfl rfl) F_edges_of m_edges_of b_edges_of sc_edges_of cc_edges_of (fun _ S => w_edges_of S rfl)
  have C_heating_of := calC (T := mkT [("edges_of", c_edges_of), ("lack_above", c_lack_above)] [] []) (Pr := l.prog) (w := w) (base := base) (P := pr_heating_of) (k := 3) sc_heating_of.nd rfl (calsP_cons C_edges_of (by decide) rfl (calsP_cons C_lack_above (by decide) rfl calsP_nil)) calsO_nil (blts_cons y_max blts_nil) mats_nil gls_nil (xs_none rfl rfl rfl rfl) F_heating_of m_heating_of b_heating_of sc_heating_of cc_heating_of (fun _ S => w_heating_of S rfl rfl)
  have C_bodies_of := calC (T := mkT [] [] []) (Pr := l.prog) (w := w) (base := base) (P := pr_bodies_of) (k := 0) sc_bodies_of.nd rfl calsP_nil calsO_nil blts_nil mats_nil gls_nil (xs_none rfl rfl rfl rfl) F_bodies_of m_bodies_of b_bodies_of sc_bodies_of cc_bodies_of (fun _ S => w_bodies_of S )
  have C_heating_with := calC (T := mkT [("heating_of", c_heating_of), ("bodies_of", c_bodies_of)] [] []) (Pr := l.prog) (w := w) (base := base) (P := pr_heating_with) (k := 4) sc_heating_with.nd rfl (calsP_cons C_heating_of (by decide) rfl (calsP_cons C_bodies_of (by decide) rfl calsP_nil)) calsO_nil (blts_cons y_zip blts_nil) mats_nil gls_nil (xs_none rfl rfl rfl rfl) F_heating_with m_heating_with b_heating_with sc_heating_with cc_heating_with (fun _ S => w_heating_with S rfl rfl)
  have C_worst_of := calC (T := mkT [] [] []) (Pr := l.prog) (w := w) (base := base) (P := pr_worst_of) (k := 0) sc_worst_of.nd rfl calsP_nil calsO_nil (blts_cons y_zip (blts_cons y_tuple blts_nil)) mats_nil gls_nil (xs_none rfl rfl rfl rfl) F_worst_of m_worst_of b_worst_of sc_worst_of cc_worst_of (fun _ S => w_worst_of S )
  have C_shows_rates := calC (T := mkT [("check_spreads", c_check_spreads), ("is_row", c_is_row), ("is_integer", c_is_integer), ("heating_with", c_heating_with), ("worst_of", c_worst_of)] [] []) (Pr := l.prog) (w := w) (base := base) (P := pr_shows_rates) (k := 7) sc_shows_rates.nd rfl (calsP_cons C_check_spreads (by decide) rfl (calsP_cons C_is_row (by decide) rfl (calsP_cons C_is_integer (by decide) rfl (calsP_cons C_heating_with (by decide) rfl (calsP_cons C_worst_of (by decide) rfl calsP_nil))))) calsO_nil (blts_cons y_len (blts_cons y_all (blts_cons y_zip blts_nil))) mats_nil gls_nil (xs_none rfl rfl rfl rfl) F_shows_rates m_shows_rates b_shows_rates sc_shows_rates cc_shows_rates (fun _ S => w_shows_rates S rfl rfl rfl rfl rfl)
  have C_worst_heating := calC (T := mkT [("check_spreads", c_check_spreads), ("heating_with", c_heating_with), ("worst_of", c_worst_of)] [] []) (Pr := l.prog) (w := w) (base := base) (P := pr_worst_heating) (k := 7) sc_worst_heating.nd rfl (calsP_cons C_check_spreads (by decide) rfl (calsP_cons C_heating_with (by decide) rfl (calsP_cons C_worst_of (by decide) rfl calsP_nil))) calsO_nil blts_nil mats_nil gls_nil (xs_none rfl rfl rfl rfl) F_worst_heating m_worst_heating b_worst_heating sc_worst_heating cc_worst_heating (fun _ S => w_worst_heating S rfl rfl rfl)
  have C_worst_rates := calC (T := mkT [("check_spreads", c_check_spreads), ("worst_of", c_worst_of)] [] []) (Pr := l.prog) (w := w) (base := base) (P := pr_worst_rates) (k := 7) sc_worst_rates.nd rfl (calsP_cons C_check_spreads (by decide) rfl (calsP_cons C_worst_of (by decide) rfl calsP_nil)) calsO_nil blts_nil mats_nil gls_nil (xs_none rfl rfl rfl rfl) F_worst_rates m_worst_rates b_worst_rates sc_worst_rates cc_worst_rates (fun _ S => w_worst_rates S rfl rfl)
  have C_whole_heat := calC (T := mkT [("is_box_body", c_is_box_body)] [] []) (Pr := l.prog) (w := w) (base := base) (P := pr_whole_heat) (k := 1) sc_whole_heat.nd rfl (calsP_cons C_is_box_body (by decide) rfl calsP_nil) calsO_nil blts_nil mats_nil gls_nil (xs_none rfl rfl rfl rfl) F_whole_heat m_whole_heat b_whole_heat sc_whole_heat cc_whole_heat (fun _ S => w_whole_heat S rfl)
  have C_outside_with := calC (T := mkT [("whole_heat", c_whole_heat)] [] []) (Pr := l.prog) (w := w) (base := base) (P := pr_outside_with) (k := 2) sc_outside_with.nd rfl (calsP_cons C_whole_heat (by decide) rfl calsP_nil) calsO_nil (blts_cons y_sum blts_nil) mats_nil gls_nil (xs_none rfl rfl rfl rfl) F_outside_with m_outside_with b_outside_with sc_outside_with cc_outside_with (fun _ S => w_outside_with S rfl)
  have C_least_outside := calC (T := mkT [("check_problem", c_check_problem), ("bodies_of", c_bodies_of), ("outside_with", c_outside_with), ("heating_of", c_heating_of)] [] []) (Pr := l.prog) (w := w) (base := base) (P := pr_least_outside) (k := 6) sc_least_outside.nd rfl (calsP_cons C_check_problem (by decide) rfl (calsP_cons C_bodies_of (by decide) rfl (calsP_cons C_outside_with (by decide) rfl (calsP_cons C_heating_of (by decide) rfl calsP_nil)))) calsO_nil blts_nil mats_nil gls_nil (xs_none rfl rfl rfl rfl) F_least_outside m_least_outside b_least_outside sc_least_outside cc_least_outside (fun _ S => w_least_outside S rfl rfl rfl rfl)
  exact law_ok (fnC (T := mkT [("worst_heating", c_worst_heating), ("least_outside", c_least_outside), ("worst_rates", c_worst_rates), ("shows_rates", c_shows_rates)] [("_law_problem", o_problem), ("_law_taken", o_taken)] []) (Pr := l.prog) (w := w) (base := base) (P := pr_law) (k := 8) sc_law.nd rfl (calsP_cons C_worst_heating (by decide) rfl (calsP_cons C_least_outside (by decide) rfl (calsP_cons C_worst_rates (by decide) rfl (calsP_cons C_shows_rates (by decide) rfl calsP_nil)))) (calsO_cons C__law_problem (by decide) rfl (calsO_cons C__law_taken (by decide) rfl calsO_nil)) (blts_cons y_len (blts_cons y_tuple (blts_cons y_min (blts_cons y_range (blts_cons y_max blts_nil))))) mats_nil gls_nil (xs_none rfl rfl rfl rfl) F_law sc_law cc_law (fun _ S => w_law S rfl rfl rfl rfl rfl rfl))
end My
open PySem PySem.W PyProof.Rows
set_option maxRecDepth 100000 in
set_option maxHeartbeats 0 in
open My in
theorem PySem.Challenge.cw_pinchworks_k70_across_spreads_holds : PySem.Challenge.rw_pinchworks_k70_across_spreads.Holds := by
  w_on; o_law; k_head; (case hw => w_witness2)
  k_fill
  refine L2.walk_of (l := PySem.Challenge.rw_pinchworks_k70_across_spreads) (n := 63) (k := 9) (x := "script") (CX := fun w => L2.CX PySem.Challenge.rw_pinchworks_k70_across_spreads.prog w) (sp := fun w => DW.SpD _ DW.lawD) rfl (by decide) rfl ⟨rfl, by decide, by decide⟩ (fun w h Y => PySem.W.kIn_of Y) ?F (fun _ _ a ns hl _ hS => DW.law_sp (fun p hp => nomatch hp) hl hS) (fun _ _ _ _ _ h => DW.cx_end h)
  case F =>
    intro w mg fa h KX G hmg
    refine' My.all_mk KX G hmg ?a0 ?l0 ?c0 ?k0 ?a1 ?l1 ?c1 ?k1 ?a2 ?l2 ?c2 ?k2 ?a3 ?l3 ?c3 ?k3 ?a4 ?l4 ?c4 ?k4 ?a5 ?l5 ?c5 ?k5 ?a6 ?l6 ?c6 ?k6 ?a7 ?l7 ?c7 ?k7 ?a8 ?l8 ?c8 ?k8 ?a9 ?l9 ?c9 ?k9 ?a10 ?l10 ?c10 ?k10 ?a11 ?l11 ?c11 ?k11 ?a12 ?l12 ?c12 ?k12 ?a13 ?l13 ?c13 ?k13 ?a14 ?l14 ?c14 ?k14 ?a15 ?l15 ?c15 ?k15 ?a16 ?l16 ?c16 ?k16 ?a17 ?l17 ?c17 ?k17 ?a18 ?l18 ?c18 ?k18 ?a19 ?l19 ?c19 ?k19 ?a20 ?l20 ?c20 ?k20 ?a21 ?l21 ?c21 ?k21 ?a22 ?l22 ?c22 ?k22 ?a23 ?l23 ?c23 ?k23 ?a24 ?l24 ?c24 ?k24 ?a25 ?l25 ?c25 ?k25 ?a26 ?l26 ?c26 ?k26 ?a27 ?l27 ?c27 ?k27 ?a28 ?l28 ?c28 ?k28 ?a29 ?l29 ?c29 ?k29 ?z0 ?z1 ?z2 ?z3 ?z4 ?z5 ?z6 ?z7 ?z8 ?z9 ?z10 ?z11 ?z12 ?z13 ?mo0 ?mo1 ?mo2 ?mo3 ?mo4 ?mo5 
    (case a0 => k_is)
    (case l0 => k_is)
    (case c0 => k_is)
    (case k0 => k_is)
    (case a1 => k_is)
    (case l1 => k_is)
    (case c1 => k_is)
    (case k1 => k_is)
    (case a2 => k_is)
    (case l2 => k_is)
    (case c2 => k_is)
    (case k2 => k_is)
    (case a3 => k_is)
    (case l3 => k_is)
    (case c3 => k_is)
    (case k3 => k_is)
    (case a4 => k_is)
    (case l4 => k_is)
    (case c4 => k_is)
    (case k4 => k_is)
    (case a5 => k_is)
    (case l5 => k_is)
    (case c5 => k_is)
    (case k5 => k_is)
    (case a6 => k_is)
    (case l6 => k_is)
    (case c6 => k_is)
    (case k6 => k_is)
    (case a7 => k_is)
    (case l7 => k_is)
    (case c7 => k_is)
    (case k7 => k_is)
    (case a8 => k_is)
    (case l8 => k_is)
    (case c8 => k_is)
    (case k8 => k_is)
    (case a9 => k_is)
    (case l9 => k_is)
    (case c9 => k_is)
    (case k9 => k_is)
    (case a10 => k_is)
    (case l10 => k_is)
    (case c10 => k_is)
    (case k10 => k_is)
    (case a11 => k_is)
    (case l11 => k_is)
    (case c11 => k_is)
    (case k11 => k_is)
    (case a12 => k_is)
    (case l12 => k_is)
    (case c12 => k_is)
    (case k12 => k_is)
    (case a13 => k_is)
    (case l13 => k_is)
    (case c13 => k_is)
    (case k13 => k_is)
    (case a14 => k_is)
    (case l14 => k_is)
    (case c14 => k_is)
    (case k14 => k_is)
    (case a15 => k_is)
    (case l15 => k_is)
    (case c15 => k_is)
    (case k15 => k_is)
    (case a16 => k_is)
    (case l16 => k_is)
    (case c16 => k_is)
    (case k16 => k_is)
    (case a17 => k_is)
    (case l17 => k_is)
    (case c17 => k_is)
    (case k17 => k_is)
    (case a18 => k_is)
    (case l18 => k_is)
    (case c18 => k_is)
    (case k18 => k_is)
    (case a19 => k_is)
    (case l19 => k_is)
    (case c19 => k_is)
    (case k19 => k_is)
    (case a20 => k_is)
    (case l20 => k_is)
    (case c20 => k_is)
    (case k20 => k_is)
    (case a21 => k_is)
    (case l21 => k_is)
    (case c21 => k_is)
    (case k21 => k_is)
    (case a22 => k_is)
    (case l22 => k_is)
    (case c22 => k_is)
    (case k22 => k_is)
    (case a23 => k_is)
    (case l23 => k_is)
    (case c23 => k_is)
    (case k23 => k_is)
    (case a24 => k_is)
    (case l24 => k_is)
    (case c24 => k_is)
    (case k24 => k_is)
    (case a25 => k_is)
    (case l25 => k_is)
    (case c25 => k_is)
    (case k25 => k_is)
    (case a26 => k_is)
    (case l26 => k_is)
    (case c26 => k_is)
    (case k26 => k_is)
    (case a27 => k_is)
    (case l27 => k_is)
    (case c27 => k_is)
    (case k27 => k_is)
    (case a28 => k_is)
    (case l28 => k_is)
    (case c28 => k_is)
    (case k28 => k_is)
    (case a29 => k_is)
    (case l29 => k_is)
    (case c29 => k_is)
    (case k29 => k_is)
    (case z0 => k_is)
    (case z1 => k_is)
    (case z2 => k_is)
    (case z3 => k_is)
    (case z4 => k_is)
    (case z5 => k_is)
    (case z6 => k_is)
    (case z7 => k_is)
    (case z8 => k_is)
    (case z9 => k_is)
    (case z10 => k_is)
    (case z11 => k_is)
    (case z12 => k_is)
    (case z13 => k_is)
    (case mo0 => k_is)
    (case mo1 => k_is)
    (case mo2 => k_is)
    (case mo3 => k_is)
    (case mo4 => k_is)
    (case mo5 => k_is)

