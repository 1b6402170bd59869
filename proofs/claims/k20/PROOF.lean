import PyProof.Rows.All
import Wide.All
import OpenK.AllK
import Wide.FinOn
import HandS.ForMost
import HandS.Evl
import HandS.Wide
import HandS.Walk
import HandS.Lambda
import KE.KNest
import KE.KDictKeyed
import KE.KDictDisplayH
import HandS.Exc
import HandS.ExcOwn
import HandS.WordsExc
import HandS.EndBits
import HandS.IsInst
import HandS.TupAny
import HandS.NoneIn
import HandS.SortRule
import HandS.Style
import HandS.Zip
import HandS.Conv
import PyProof.P3Eq
import PyProof.ReprRoads
import HandS.Ends
import HandS.ExcInit
import HandS.ExcField
import HandS.ExcIs
import HandS.ExcValue
import KE.KExcIs
import KE.KTryMore
import KE.KExcInit
import KE.DataFind
import HandS.SortInts
import HandS.SortKw
import HandS.SetFor
import PyProof.TupleOps
import KE.DataMinMax
import KE.GoesMore
import KE.GoesEnum
import HandS.Strs
import HandS.Gcd
import HandS.Set
import HandS.TupMul
import HandS.EndTab
import KE.KNestM
import HandS.NestedK
import KE.SortKeyHeap
import KE.KLam
import KE.SortCalls
import HandS.Nested
import HandS.Dict
import KE.KDictZip
import HandS.Rev
import HandS.DictComp
import KE.SortData
import HandS.Deep
import HandS.TupSets
import HandS.SetBool
import KE.DataCmp
import PyProof.FitsInt
import PyProof.StrLawsRepr
import HandS.TupLe
import HandS.Flow
import PyProof.Rows.TupTab
import PySem.Challenge.RW_stayswap_k20_whole_which_stays_lead_wher
set_option Elab.async false
set_option linter.all false
set_option maxRecDepth 100000
set_option maxHeartbeats 4000000
set_option exponentiation.threshold 1100
namespace DL
open PySem PySem.Spec PyProof.Rows L2 Evl
/-- plain data -/
inductive D where
  | non | bl (b : Bool) | int (i : Int) | str (s : Str) | lst (xs : List D) | tup (xs : List D) | raw (v : V) | exc (C : Addr) (fs : List (Str × V))
/-- a held exception's object -/
def ExH (C d a : Addr) : HO := .ext fun h => ∃ (oe : Obj) (vs : Array Value), h.get? a = some oe ∧ oe.cls = .ref C ∧ oe.dict = some d ∧ oe.data = .fields vs
mutual
def Rep (K : PySem.W.Frag) (S : Hp) (v : V) : D → Prop
  | .non => v = .non
  | .bl b => v = .bl b
  | .int i => v = .int i
  | .str s => v = .str s
  | .lst ds => ∃ a vs, v = .ref a ∧ S a = some (.lst vs) ∧ Reps K S vs ds
  | .tup ds => ∃ a vs, v = .ref a ∧ S a = some (.tup vs) ∧ Reps K S vs ds
  | .raw u => v = u
  | .exc C fs => ∃ a d, v = .ref a ∧ S a = some (ExH C d a) ∧ S d = some (.xd fs)
def Reps (K : PySem.W.Frag) (S : Hp) (vs : List V) : List D → Prop
  | [] => vs = []
  | d :: ds => ∃ v r, vs = v :: r ∧ Rep K S v d ∧ Reps K S r ds
end
theorem ex_ty {H H' : Hp} {a : Addr} {u : HO} (e : Ex H H') (h : H a = some u) : H' a = some u := e a u h
mutual
theorem Rep.mono {K : PySem.W.Frag} {S S' : Hp} (e : Ex S S') : ∀ {d : D} {v : V}, Rep K S v d → Rep K S' v d
  | .non, _, h => h
  | .bl _, _, h => h
  | .int _, _, h => h
  | .str _, _, h => h
  | .lst _, _, h => by
    unfold Rep at h ⊢
    obtain ⟨a, vs, h1, h2, h3⟩ := h
    exact ⟨a, vs, h1, e _ _ h2, Reps.mono e h3⟩
  | .tup _, _, h => by
    unfold Rep at h ⊢
    obtain ⟨a, vs, h1, h2, h3⟩ := h
    exact ⟨a, vs, h1, e _ _ h2, Reps.mono e h3⟩
  | .raw _, _, h => h
  | .exc _ _, _, h => by
    unfold Rep at h ⊢
    obtain ⟨a, d, h1, h2, h3⟩ := h
    exact ⟨a, d, h1, e _ _ h2, e _ _ h3⟩
theorem Reps.mono {K : PySem.W.Frag} {S S' : Hp} (e : Ex S S') : ∀ {ds : List D} {vs : List V}, Reps K S vs ds → Reps K S' vs ds
  | [], _, h => h
  | _ :: _, _, h => by
    unfold Reps at h ⊢
    obtain ⟨v, r, h1, h2, h3⟩ := h
    exact ⟨v, r, h1, Rep.mono e h2, Reps.mono e h3⟩
end
section
variable {K : PySem.W.Frag} {S S' : Hp}
theorem Reps.nil : Reps K S [] [] := by unfold Reps; rfl
theorem Reps.cons {v : V} {vs : List V} {d : D} {ds : List D} (h : Rep K S v d) (r : Reps K S vs ds) : Reps K S (v :: vs) (d :: ds) := by
  unfold Reps
  exact ⟨v, vs, rfl, h, r⟩
theorem Reps.uncons {vs : List V} {d : D} {ds : List D} (h : Reps K S vs (d :: ds)) : ∃ v r, vs = v :: r ∧ Rep K S v d ∧ Reps K S r ds := by
  unfold Reps at h
  exact h
theorem Reps.length : ∀ {ds : List D} {vs : List V}, Reps K S vs ds → vs.length = ds.length
  | [], _, h => by unfold Reps at h; subst h; rfl
  | d :: ds, _, h => by
    obtain ⟨v, r, rfl, h1, h2⟩ := h.uncons
    simp [Reps.length h2]
theorem Reps.get : ∀ {ds : List D} {vs : List V} {i : Nat} {d : D}, Reps K S vs ds → ds[i]? = some d → ∃ v, vs[i]? = some v ∧ Rep K S v d
  | [], _, _, _, _, e => by simp at e
  | d :: ds, _, 0, _, h, e => by
    obtain ⟨v, r, rfl, h1, h2⟩ := h.uncons
    simp at e; subst e
    exact ⟨v, rfl, h1⟩
  | d :: ds, _, i + 1, _, h, e => by
    obtain ⟨v, r, rfl, h1, h2⟩ := h.uncons
    obtain ⟨w, h3, h4⟩ := Reps.get (i := i) h2 (by simpa using e)
    exact ⟨w, by simpa using h3, h4⟩
theorem Reps.getV : ∀ {ds : List D} {vs : List V} {i : Nat} {v : V}, Reps K S vs ds → vs[i]? = some v → ∃ d, ds[i]? = some d ∧ Rep K S v d
  | [], _, _, _, h, e => by unfold Reps at h; subst h; simp at e
  | d :: ds, _, 0, _, h, e => by
    obtain ⟨v, r, rfl, h1, h2⟩ := h.uncons
    simp at e; subst e
    exact ⟨d, rfl, h1⟩
  | d :: ds, _, i + 1, _, h, e => by
    obtain ⟨v, r, rfl, h1, h2⟩ := h.uncons
    obtain ⟨w, h3, h4⟩ := Reps.getV (i := i) h2 (by simpa using e)
    exact ⟨w, by simpa using h3, h4⟩
theorem Reps.append : ∀ {ds es : List D} {vs ws : List V}, Reps K S vs ds → Reps K S ws es → Reps K S (vs ++ ws) (ds ++ es)
  | [], _, _, _, h, g => by unfold Reps at h; subst h; exact g
  | d :: ds, _, _, _, h, g => by
    obtain ⟨v, r, rfl, h1, h2⟩ := h.uncons
    exact Reps.cons h1 (Reps.append h2 g)
theorem Reps.one {v : V} {d : D} (h : Rep K S v d) : Reps K S [v] [d] := Reps.cons h Reps.nil
theorem Reps.set : ∀ {ds : List D} {vs : List V} {v : V} {d : D} (i : Nat), Reps K S vs ds → Rep K S v d → Reps K S (vs.set i v) (ds.set i d)
  | [], _, _, _, _, h, _ => by unfold Reps at h; subst h; exact Reps.nil
  | _ :: _, _, _, _, 0, h, g => by
    obtain ⟨v, r, rfl, h1, h2⟩ := h.uncons
    exact Reps.cons g h2
  | _ :: _, _, _, _, i + 1, h, g => by
    obtain ⟨v, r, rfl, h1, h2⟩ := h.uncons
    exact Reps.cons h1 (Reps.set i h2 g)
theorem Reps.take : ∀ {ds : List D} {vs : List V} (i : Nat), Reps K S vs ds → Reps K S (vs.take i) (ds.take i)
  | [], _, i, h => by unfold Reps at h; subst h; simp [Reps.nil]
  | _ :: _, _, 0, h => by simp [Reps.nil]
  | _ :: _, _, i + 1, h => by
    obtain ⟨v, r, rfl, h1, h2⟩ := h.uncons
    exact Reps.cons h1 (Reps.take i h2)
theorem Reps.drop : ∀ {ds : List D} {vs : List V} (i : Nat), Reps K S vs ds → Reps K S (vs.drop i) (ds.drop i)
  | [], _, i, h => by unfold Reps at h; subst h; simp [Reps.nil]
  | _ :: _, _, 0, h => h
  | _ :: _, _, i + 1, h => by
    obtain ⟨v, r, rfl, h1, h2⟩ := h.uncons
    exact Reps.drop i h2
theorem Reps.eraseIdx : ∀ {ds : List D} {vs : List V} (i : Nat), Reps K S vs ds → Reps K S (vs.eraseIdx i) (ds.eraseIdx i)
  | [], _, i, h => by unfold Reps at h; subst h; simp [Reps.nil]
  | _ :: _, _, 0, h => by
    obtain ⟨v, r, rfl, h1, h2⟩ := h.uncons
    exact h2
  | _ :: _, _, i + 1, h => by
    obtain ⟨v, r, rfl, h1, h2⟩ := h.uncons
    exact Reps.cons h1 (Reps.eraseIdx i h2)
theorem Rep.int_inv {v : V} {i : Int} (h : Rep K S v (.int i)) : v = .int i := by unfold Rep at h; exact h
theorem Rep.bl_inv {v : V} {i : Bool} (h : Rep K S v (.bl i)) : v = .bl i := by unfold Rep at h; exact h
theorem Rep.str_inv {v : V} {i : Str} (h : Rep K S v (.str i)) : v = .str i := by unfold Rep at h; exact h
theorem Rep.non_inv {v : V} (h : Rep K S v .non) : v = .non := by unfold Rep at h; exact h
theorem Rep.raw_inv {v u : V} (h : Rep K S v (.raw u)) : v = u := by unfold Rep at h; exact h
theorem Rep.lst_inv {v : V} {ds : List D} (h : Rep K S v (.lst ds)) : ∃ a vs, v = .ref a ∧ S a = some (.lst vs) ∧ Reps K S vs ds := by unfold Rep at h; exact h
theorem Rep.tup_inv {v : V} {ds : List D} (h : Rep K S v (.tup ds)) : ∃ a vs, v = .ref a ∧ S a = some (.tup vs) ∧ Reps K S vs ds := by unfold Rep at h; exact h
theorem Rep.int {i : Int} : Rep K S (.int i) (.int i) := by unfold Rep; rfl
theorem Rep.bl {i : Bool} : Rep K S (.bl i) (.bl i) := by unfold Rep; rfl
theorem Rep.str {i : Str} : Rep K S (.str i) (.str i) := by unfold Rep; rfl
theorem Rep.non : Rep K S .non .non := by unfold Rep; rfl
theorem Rep.raw {u : V} : Rep K S u (.raw u) := by unfold Rep; rfl
theorem Rep.lst {a : Addr} {vs : List V} {ds : List D} (h : S a = some (.lst vs)) (r : Reps K S vs ds) : Rep K S (.ref a) (.lst ds) := by
  unfold Rep
  exact ⟨a, vs, rfl, h, r⟩
theorem Rep.tup {a : Addr} {vs : List V} {ds : List D} (h : S a = some (.tup vs)) (r : Reps K S vs ds) : Rep K S (.ref a) (.tup ds) := by
  unfold Rep
  exact ⟨a, vs, rfl, h, r⟩
theorem Reps.intsV : ∀ {ns : List Int} {vs : List V}, Reps K S vs (ns.map D.int) → vs = ns.map V.int
  | [], _, h => by unfold Reps at h; exact h
  | n :: ns, _, h => by
    obtain ⟨v, r, rfl, h1, h2⟩ := (show Reps K S _ (D.int n :: ns.map D.int) from h).uncons
    rw [Rep.int_inv h1, Reps.intsV h2]
    rfl
theorem Reps.of_ints : ∀ {ns : List Int}, Reps K S (ns.map V.int) (ns.map D.int)
  | [] => Reps.nil
  | n :: ns => Reps.cons Rep.int Reps.of_ints
theorem Reps.bls : ∀ {ns : List Bool} {vs : List V}, Reps K S vs (ns.map D.bl) → vs = ns.map V.bl
  | [], _, h => by unfold Reps at h; exact h
  | n :: ns, _, h => by
    obtain ⟨v, r, rfl, h1, h2⟩ := (show Reps K S _ (D.bl n :: ns.map D.bl) from h).uncons
    rw [Rep.bl_inv h1, Reps.bls h2]
    rfl
end
/-! ### the box, the state since the entry -/
/-- the box at a: three ints, the last at most n -/
def BoxOk (n : Nat) (H : Hp) (a : Addr) : Prop := ∃ x y z : Int, H a = some (.lst [.int x, .int y, .int z]) ∧ 0 ≤ x ∧ 0 ≤ y ∧ y < 2 ^ 62 ∧ 0 ≤ z ∧ z ≤ n
theorem BoxOk.mono {n m : Nat} {H : Hp} {a : Addr} (h : BoxOk n H a) (l : n ≤ m) : BoxOk m H a := by
  obtain ⟨x, y, z, h1, h2, h3, h4, h5, h6⟩ := h
  exact ⟨x, y, z, h1, h2, h3, h4, h5, by omega⟩
theorem BoxOk.ne {n : Nat} {H : Hp} {a : Addr} (h : BoxOk n H a) : H a ≠ none := by
  obtain ⟨x, y, z, h1, _⟩ := h
  rw [h1]
  exact fun q => nomatch q
/-! ### tables of code objects -/
/-- the table that the def with a lambda fills -/
def tabsOf (K : PySem.W.Frag) : List (Addr × Str) := match PySem.W.tabIn K (Str.ofString "order_of") with
  | some (_, P) => [(P, Str.ofString "order_of.<locals>.<lambda>")]
  | none => []
def TabK (K : PySem.W.Frag) (S H : Hp) : Prop := LamX.Tabs (tabsOf K) H ∧ ∀ q ∈ tabsOf K, S q.1 = none
def NT (o : HO) : Prop := ∀ ps, o ≠ .tbl ps
theorem nt_lst {vs : List V} : NT (.lst vs) := fun _ z => nomatch z
theorem nt_tup {vs : List V} : NT (.tup vs) := fun _ z => nomatch z
theorem nt_xd {vs : List (Str × V)} : NT (.xd vs) := fun _ z => nomatch z
theorem nt_dK {kvs : List (Key × V)} : NT (.dK kvs) := fun _ z => nomatch z
theorem nt_frz {o : Obj} {u : HO} : NT (.frz o u) := fun _ z => nomatch z
theorem TabK.new {K : PySem.W.Frag} {S H : Hp} {p : Addr} {o : HO} (t : TabK K S H) (hp : H p = none) : TabK K S (upd H p o) := ⟨LamX.Tabs.ext t.1 fun b u e => by
  rw [upd_ne (ne_of_none e hp)]
  exact e, t.2⟩
theorem TabK.upS {K : PySem.W.Frag} {S H : Hp} {p : Addr} {o : HO} (t : TabK K S H) (hp : ∀ ps, H p ≠ some (.tbl ps)) : TabK K (upd S p o) H := ⟨t.1, fun q hq => by
  obtain ⟨ps, h1, _⟩ := t.1 q hq
  rw [upd_ne (fun z => hp ps (by rw [← z]; exact h1))]
  exact t.2 q hq⟩
theorem TabK.put {K : PySem.W.Frag} {S H : Hp} {p : Addr} {o : HO} (t : TabK K S H) (hp : ∃ xs, H p = some (.lst xs)) : TabK K S (upd H p o) := ⟨fun q hq => by
  obtain ⟨xs, hp⟩ := hp
  obtain ⟨ps, h1, h2, h3⟩ := t.1 q hq
  have n1 : q.1 ≠ p := fun z => by rw [z, hp] at h1; cases h1
  refine ⟨ps, by rw [upd_ne n1]; exact h1, h2, fun pos cv hc => ?_⟩
  obtain ⟨c, e1, e2⟩ := h3 pos cv hc
  refine ⟨c, e1, ?_⟩
  have n2 : c ≠ p := fun z => by
    rw [z, hp] at e2
    have e2 := Option.some.inj e2
    unfold LamX.CodeO at e2
    cases e2
  rw [upd_ne n2]
  exact e2, t.2⟩
/-- from (S, H) to (S', H') -/
structure Mv (b : Option Addr) (S H S' H' : Hp) : Prop where
  ss : Ex S S'
  fr : ∀ a o, some a ≠ b → H a = some o → (nt : NT o := by first | exact nt_lst | exact nt_tup | exact nt_xd | exact nt_frz | assumption) → H' a = some o
  tb : ∀ a ps, H a = some (.tbl ps) → ∃ qs, H' a = some (.tbl qs)
  sep : ∀ a, H a ≠ none → S a = none → S' a = none
theorem Mv.refl {b : Option Addr} {S H : Hp} : Mv b S H S H := ⟨Ex.refl _, fun _ _ _ h _ => h, fun _ ps h => ⟨ps, h⟩, fun _ _ h => h⟩
structure Amb where
  K : PySem.W.Frag
  b : Option Addr
  S0 : Hp
  H0 : Hp
  E : XK
  PX : Addr → List (Str × V) → Prop
/-- the state since the entry -/
structure Fr (A : Amb) (n : Nat) (S H : Hp) : Prop where
  sub : Ex S H
  mv : Mv A.b A.S0 A.H0 S H
  box : ∀ a, A.b = some a → BoxOk n H a ∧ S a = none ∧ A.H0 a ≠ none
  tab : TabK A.K S H
section
variable {b : Option Addr} {S H S1 H1 S2 H2 : Hp}
/-- b stays there -/
def Bt (b : Option Addr) (H : Hp) : Prop := ∀ a, b = some a → H a ≠ none
theorem Mv.there (m : Mv b S H S1 H1) (hb : Bt b H1) {a : Addr} (h : H a ≠ none) : H1 a ≠ none := by
  by_cases e : some a = b
  · exact hb a e.symm
  · cases q : H a with
    | none => exact absurd q h
    | some o =>
      by_cases nt : NT o
      · rw [m.fr a o e q nt]
        exact fun z => nomatch z
      · obtain ⟨ps, rfl⟩ : ∃ ps, o = .tbl ps := Classical.byContradiction fun z => nt fun ps y => z ⟨ps, y⟩
        obtain ⟨qs, h'⟩ := m.tb a ps q
        rw [h']
        exact fun z => nomatch z
theorem Mv.trans (m : Mv b S H S1 H1) (hb : Bt b H1) (m' : Mv b S1 H1 S2 H2) : Mv b S H S2 H2 :=
  ⟨m.ss.trans m'.ss, fun a o e h nt => m'.fr a o e (m.fr a o e h nt) nt, fun a ps h => let ⟨qs, h'⟩ := m.tb a ps h; m'.tb a qs h', fun a h h' => m'.sep a (m.there hb h) (m.sep a h h')⟩
/-- a new object is laid, frozen at once -/
theorem Mv.new {p : Addr} {o : HO} (hs : Ex S H) (hp : H p = none) : Mv b S H (upd S p o) (upd H p o) := by
  refine ⟨fun a u e => ?_, fun a u _ e _ => ?_, fun a ps e => ⟨ps, ?_⟩, fun a h h' => ?_⟩
  · rw [upd_ne (ne_of_none (hs a u e) hp)]; exact e
  · rw [upd_ne (ne_of_none e hp)]; exact e
  · rw [upd_ne (ne_of_none e hp)]; exact e
  · have q : a ≠ p := fun z => h (by rw [z]; exact hp)
    rw [upd_ne q]; exact h'
/-- a new object is laid, not frozen -/
theorem Mv.newO {p : Addr} {o : HO} (hp : H p = none) : Mv b S H S (upd H p o) := by
  refine ⟨Ex.refl _, fun a u _ e _ => ?_, fun a ps e => ⟨ps, ?_⟩, fun a h h' => h'⟩
  · rw [upd_ne (ne_of_none e hp)]; exact e
  · rw [upd_ne (ne_of_none e hp)]; exact e
theorem ex_upd2 {p : Addr} {o : HO} (hs : Ex S H) : Ex (upd S p o) (upd H p o) := fun a u e => by
  by_cases q : a = p
  · subst q
    rw [upd_same] at e ⊢
    exact e
  · rw [upd_ne q] at e ⊢
    exact hs a u e
end
section
variable {A : Amb} {n n' m : Nat} {S H S1 H1 S2 H2 : Hp}
theorem Fr.bt (f : Fr A n S H) : Bt A.b H := fun a e => (f.box a e).1.ne
theorem Fr.up (f : Fr A n S H) (l : n ≤ m) : Fr A m S H := ⟨f.sub, f.mv, fun a e => let ⟨x, y, z⟩ := f.box a e; ⟨x.mono l, y, z⟩, f.tab⟩
/-- a new object, frozen -/
theorem Fr.new {p : Addr} {o : HO} (f : Fr A n S H) (hp : H p = none) : Fr A n (upd S p o) (upd H p o) := by
  have bt : Bt A.b (upd H p o) := fun a e => by
    have q := f.bt a e
    have ne : a ≠ p := fun z => q (by rw [z]; exact hp)
    rw [upd_ne ne]; exact q
  refine ⟨ex_upd2 f.sub, f.mv.trans f.bt (Mv.new f.sub hp), fun a e => ?_, (f.tab.upS fun ps z => by rw [hp] at z; cases z).new hp⟩
  obtain ⟨⟨x, y, z, h1, h2⟩, h3, h4⟩ := f.box a e
  have ne : a ≠ p := ne_of_none h1 hp
  exact ⟨⟨x, y, z, by rw [upd_ne ne]; exact h1, h2⟩, by rw [upd_ne ne]; exact h3, h4⟩
theorem Fr.newO {p : Addr} {o : HO} (f : Fr A n S H) (hp : H p = none) : Fr A n S (upd H p o) := by
  refine ⟨fun a u e => ?_, f.mv.trans f.bt (Mv.newO hp), fun a e => ?_, f.tab.new hp⟩
  · rw [upd_ne (ne_of_none (f.sub a u e) hp)]; exact f.sub a u e
  · obtain ⟨⟨x, y, z, h1, h2⟩, h3, h4⟩ := f.box a e
    have ne : a ≠ p := ne_of_none h1 hp
    exact ⟨⟨x, y, z, by rw [upd_ne ne]; exact h1, h2⟩, h3, h4⟩
/-- an object of ours that is not frozen is written -/
theorem Fr.put {p : Addr} {o : HO} (f : Fr A n S H) (hs : S p = none) (h0 : A.H0 p = none) (hl : ∃ xs, H p = some (.lst xs)) : Fr A n S (upd H p o) := by
  have np : ∀ a u, A.H0 a = some u → a ≠ p := fun a u e => ne_of_none e h0
  refine ⟨fun a u e => ?_, ⟨f.mv.ss, fun a u e h nt => ?_, fun a ps h => ?_, f.mv.sep⟩, fun a e => ?_, f.tab.put hl⟩
  · rw [upd_ne (ne_of_none e hs)]; exact f.sub a u e
  · rw [upd_ne (np a u h)]; exact f.mv.fr a u e h
  · rw [upd_ne (np a _ h)]; exact f.mv.tb a ps h
  · obtain ⟨⟨x, y, z, h1, h2⟩, h3, h4⟩ := f.box a e
    have ne : a ≠ p := fun q => h4 (by rw [q]; exact h0)
    exact ⟨⟨x, y, z, by rw [upd_ne ne]; exact h1, h2⟩, h3, h4⟩
/-- an object of ours is frozen -/
theorem Fr.freeze {p : Addr} {o : HO} (f : Fr A n S H) (hh : H p = some o) (hs : S p = none) (h0 : A.H0 p = none) (nt : NT o := by first | exact nt_lst | exact nt_tup | exact nt_xd | exact nt_frz | assumption) : Fr A n (upd S p o) H := by
  refine ⟨fun a u e => ?_, ⟨fun a u e => ?_, (fun a o x y nt => f.mv.fr a o x y nt), f.mv.tb, fun a h h' => ?_⟩, fun a e => ?_, f.tab.upS fun ps z => nt ps (Option.some.inj (hh.symm.trans z))⟩
  · by_cases q : a = p
    · subst q; rw [upd_same] at e; cases e; exact hh
    · rw [upd_ne q] at e; exact f.sub a u e
  · have z := f.mv.ss a u e
    rw [upd_ne (ne_of_none z hs)]; exact z
  · have ne : a ≠ p := fun q => h (by rw [q]; exact h0)
    rw [upd_ne ne]; exact f.mv.sep a h h'
  · obtain ⟨h1, h3, h4⟩ := f.box a e
    have ne : a ≠ p := fun q => h4 (by rw [q]; exact h0)
    exact ⟨h1, by rw [upd_ne ne]; exact h3, h4⟩
/-- what is not there now was not there at the entry -/
theorem Fr.h0 (f : Fr A n S H) {p : Addr} (hp : H p = none) : A.H0 p = none := by
  cases q : A.H0 p with
  | none => rfl
  | some o =>
    exact absurd hp (f.mv.there f.bt (by rw [q]; exact fun z => nomatch z))
theorem Fr.s0 (f : Fr A n S H) {p : Addr} (hp : H p = none) : S p = none := by
  cases q : S p with
  | none => rfl
  | some o =>
    have := f.sub p o q
    rw [hp] at this; cases this
end
/-! ### slots -/
inductive Slot where
  | un | val (d : D) | own (ds : List D) | dic (kvs : List (Key × D)) | nd (kvs : List (List (Int × Int) × D))
/-- a row as a key -/
def keyR (l : List (Int × Int)) : NestedKey := .tup (l.map fun p => .tup [.num p.1, .num p.2])
def rowE (l : List (Int × Int)) : D := .tup (l.map fun p => .tup [.int p.1, .int p.2])
/-- a dict whose keys are rows: the row, where it stands, the value -/
def NDx (ks : List (List (Int × Int) × Addr × V)) (a : Addr) : HO := .ext fun h => (a == sysModules) = false ∧ ks.length ≤ sizeLine ∧ (ks.map (·.1)).Nodup ∧
  ∃ xs : List (NestedKey × Addr × Value), Paired (fun (p : List (Int × Int) × Addr × V) (q : NestedKey × Addr × Value) => q.1 = keyR p.1 ∧ q.2.1 = p.2.1 ∧ RelV p.2.2 q.2.2) ks xs ∧
    ∃ o es ep, h.get? a = some o ∧ o.ExactDict ∧ o.data = .dict es ep ∧ ∀ (P : Program) (w : World), es.toList = xs.map (entryOfKey (nestedKind P w))
theorem nt_ND {ks : List (List (Int × Int) × Addr × V)} {a : Addr} : NT (NDx ks a) := fun _ z => by unfold NDx at z; cases z
def NReps (K : PySem.W.Frag) (S : Hp) (ks : List (List (Int × Int) × Addr × V)) (kvs : List (List (Int × Int) × D)) : Prop := ks.map (·.1) = kvs.map (·.1) ∧ (∀ x ∈ ks, Rep K S (.ref x.2.1) (rowE x.1)) ∧ Reps K S (ks.map fun x => x.2.2) (kvs.map Prod.snd)
theorem NReps.mono {K : PySem.W.Frag} {S S' : Hp} {ks : List (List (Int × Int) × Addr × V)} {kvs : List (List (Int × Int) × D)} (h : NReps K S ks kvs) (e : Ex S S') : NReps K S' ks kvs := ⟨h.1, fun x hx => (h.2.1 x hx).mono e, h.2.2.mono e⟩
/-- a dict's entries -/
def KReps (K : PySem.W.Frag) (S : Hp) (ks : List (Key × V)) (kvs : List (Key × D)) : Prop := ks.map Prod.fst = kvs.map Prod.fst ∧ Reps K S (ks.map Prod.snd) (kvs.map Prod.snd)
def SlotOk (A : Amb) (S H : Hp) (o : Option V) : Slot → Prop
  | .un => True
  | .val d => ∃ v, o = some v ∧ Rep A.K S v d
  | .own ds => ∃ a vs, o = some (.ref a) ∧ H a = some (.lst vs) ∧ Reps A.K S vs ds ∧ S a = none ∧ A.H0 a = none
  | .dic kvs => ∃ a ks, o = some (.ref a) ∧ H a = some (.dK ks) ∧ KReps A.K S ks kvs ∧ S a = none ∧ A.H0 a = none
  | .nd kvs => ∃ a ks, o = some (.ref a) ∧ H a = some (NDx ks a) ∧ NReps A.K S ks kvs ∧ S a = none ∧ A.H0 a = none
abbrev Rho := List Slot
structure ER (A : Amb) (n : Nat) (S H : Hp) (σ : L2.St) (ρ : Rho) : Prop where
  f : Fr A n S H
  len : σ.length = ρ.length
  sl : ∀ (i : Nat) (s : Slot), ρ[i]? = some s → ∃ o, σ[i]? = some o ∧ SlotOk A S H o s
  ap : ∀ (i j : Nat) (ds es : List D), i ≠ j → ρ[i]? = some (.own ds) → ρ[j]? = some (.own es) → σ[i]? ≠ σ[j]?
section
variable {A : Amb} {n n' m : Nat} {S H S' H' S1 H1 S2 H2 : Hp} {σ : L2.St} {ρ : Rho}
theorem SlotOk.mv {o : Option V} {s : Slot} (h : SlotOk A S H o s) (m : Mv A.b S H S' H') (f : Fr A n S H) : SlotOk A S' H' o s := by
  cases s with
  | un => trivial
  | val d =>
    obtain ⟨v, h1, h2⟩ := h
    exact ⟨v, h1, h2.mono m.ss⟩
  | own ds =>
    obtain ⟨a, vs, h1, h2, h3, h4, h5⟩ := h
    have nb : some a ≠ A.b := fun e => (f.box a e.symm).2.2 h5
    exact ⟨a, vs, h1, m.fr a _ nb h2, h3.mono m.ss, m.sep a (by rw [h2]; exact fun z => nomatch z) h4, h5⟩
  | dic kvs =>
    obtain ⟨a, ks, h1, h2, h3, h4, h5⟩ := h
    have nb : some a ≠ A.b := fun e => (f.box a e.symm).2.2 h5
    exact ⟨a, ks, h1, m.fr a _ nb h2 nt_dK, ⟨h3.1, h3.2.mono m.ss⟩, m.sep a (by rw [h2]; exact fun z => nomatch z) h4, h5⟩
  | nd kvs =>
    obtain ⟨a, ks, h1, h2, h3, h4, h5⟩ := h
    have nb : some a ≠ A.b := fun e => (f.box a e.symm).2.2 h5
    exact ⟨a, ks, h1, m.fr a _ nb h2 nt_ND, h3.mono m.ss, m.sep a (by rw [h2]; exact fun z => nomatch z) h4, h5⟩
theorem ER.mv (e : ER A n S H σ ρ) (m : Mv A.b S H S' H') (f : Fr A n' S' H') : ER A n' S' H' σ ρ :=
  ⟨f, e.len, fun i s h => let ⟨o, h1, h2⟩ := e.sl i s h; ⟨o, h1, h2.mv m e.f⟩, e.ap⟩
theorem ER.up (e : ER A n S H σ ρ) (l : n ≤ m) : ER A m S H σ ρ := ⟨e.f.up l, e.len, e.sl, e.ap⟩
theorem ER.val (e : ER A n S H σ ρ) {i : Nat} {d : D} (h : ρ[i]? = some (.val d)) : ∃ v, σ[i]? = some (some v) ∧ Rep A.K S v d := by
  obtain ⟨o, h1, v, h2, h3⟩ := e.sl i _ h
  exact ⟨v, by rw [h1, h2], h3⟩
theorem ER.own (e : ER A n S H σ ρ) {i : Nat} {ds : List D} (h : ρ[i]? = some (.own ds)) : ∃ a vs, σ[i]? = some (some (.ref a)) ∧ H a = some (.lst vs) ∧ Reps A.K S vs ds ∧ S a = none ∧ A.H0 a = none := by
  obtain ⟨o, h1, a, vs, h2, h3⟩ := e.sl i _ h
  exact ⟨a, vs, by rw [h1, h2], h3⟩
/-- a value is stored -/
theorem ER.set (e : ER A n S H σ ρ) {i : Nat} {v : V} {d : D} (r : Rep A.K S v d) : ER A n S H (σ.set i (some v)) (ρ.set i (.val d)) := by
  refine ⟨e.f, by simp [e.len], fun j s h => ?_, fun j k ds es hne h1 h2 => ?_⟩
  · by_cases q : i = j
    · subst q
      have lt : i < ρ.length := by
        have := (List.getElem?_eq_some_iff.mp h).1
        simpa using this
      rw [List.getElem?_set_self (by rw [e.len]; exact lt)]
      rw [List.getElem?_set_self lt] at h
      cases h
      exact ⟨_, rfl, v, rfl, r⟩
    · rw [List.getElem?_set_ne q] at h ⊢
      exact e.sl j s h
  · have f1 : ∀ k ds, (ρ.set i (.val d))[k]? = some (.own ds) → i ≠ k := fun k ds h z => by
      subst z
      have lt : i < ρ.length := by
        have := (List.getElem?_eq_some_iff.mp h).1
        simpa using this
      rw [List.getElem?_set_self lt] at h
      cases h
    have g1 := f1 j ds h1
    have g2 := f1 k es h2
    rw [List.getElem?_set_ne g1] at h1 ⊢
    rw [List.getElem?_set_ne g2] at h2 ⊢
    exact e.ap j k ds es hne h1 h2
/-- forgotten -/
theorem ER.setUn (e : ER A n S H σ ρ) {i : Nat} {o : Option V} : ER A n S H (σ.set i o) (ρ.set i .un) := by
  refine ⟨e.f, by simp [e.len], fun j s h => ?_, fun j k ds es hne h1 h2 => ?_⟩
  · by_cases q : i = j
    · subst q
      have lt : i < ρ.length := by
        have := (List.getElem?_eq_some_iff.mp h).1
        simpa using this
      rw [List.getElem?_set_self (by rw [e.len]; exact lt)]
      rw [List.getElem?_set_self lt] at h
      cases h
      exact ⟨_, rfl, trivial⟩
    · rw [List.getElem?_set_ne q] at h ⊢
      exact e.sl j s h
  · have f1 : ∀ k ds, (ρ.set i .un)[k]? = some (.own ds) → i ≠ k := fun k ds h z => by
      subst z
      have lt : i < ρ.length := by
        have := (List.getElem?_eq_some_iff.mp h).1
        simpa using this
      rw [List.getElem?_set_self lt] at h
      cases h
    have g1 := f1 j ds h1
    have g2 := f1 k es h2
    rw [List.getElem?_set_ne g1] at h1 ⊢
    rw [List.getElem?_set_ne g2] at h2 ⊢
    exact e.ap j k ds es hne h1 h2
/-- a new list is stored, ours -/
theorem ER.setOwn (e : ER A n S H σ ρ) {i : Nat} {a : Addr} {vs : List V} {ds : List D} (hl : ∀ (j : Nat) (es : List D), ρ[j]? = some (.own es) → σ[j]? ≠ some (some (.ref a))) (hh : H a = some (.lst vs)) (r : Reps A.K S vs ds) (hs : S a = none) (h0 : A.H0 a = none) : ER A n S H (σ.set i (some (.ref a))) (ρ.set i (.own ds)) := by
  refine ⟨e.f, by simp [e.len], fun j s h => ?_, fun j k es es' hne h1 h2 => ?_⟩
  · by_cases q : i = j
    · subst q
      have lt : i < ρ.length := by
        have := (List.getElem?_eq_some_iff.mp h).1
        simpa using this
      rw [List.getElem?_set_self (by rw [e.len]; exact lt)]
      rw [List.getElem?_set_self lt] at h
      cases h
      exact ⟨_, rfl, a, vs, rfl, hh, r, hs, h0⟩
    · rw [List.getElem?_set_ne q] at h ⊢
      exact e.sl j s h
  · have lt : ∀ k s, (ρ.set i (.own ds))[k]? = some s → k < σ.length := fun k s h => by
      have := (List.getElem?_eq_some_iff.mp h).1
      rw [e.len]
      simpa using this
    by_cases q1 : i = j
    · subst q1
      rw [List.getElem?_set_self (lt i _ h1), List.getElem?_set_ne hne]
      rw [List.getElem?_set_ne hne] at h2
      exact fun z => hl k _ h2 z.symm
    · by_cases q2 : i = k
      · subst q2
        rw [List.getElem?_set_self (lt i _ h2), List.getElem?_set_ne q1]
        rw [List.getElem?_set_ne q1] at h1
        exact fun z => hl j _ h1 z
      · rw [List.getElem?_set_ne q1] at h1 ⊢
        rw [List.getElem?_set_ne q2] at h2 ⊢
        exact e.ap j k es es' hne h1 h2
end
/-! ### judgements over data -/
def DE (A : Amb) (te : TE) (ρ : Rho) (n : Nat) (P : D → Nat → Prop) : Prop := ∀ S H σ, ER A n S H σ ρ → ∀ Q : VK, (∀ v d S' H' n', Mv A.b S H S' H' → Fr A n' S' H' → Rep A.K S' v d → P d n' → Q v H') → te σ H Q
/-- a new list, ours -/
def DF (A : Amb) (te : TE) (ρ : Rho) (n : Nat) (P : List D → Nat → Prop) : Prop := ∀ S H σ, ER A n S H σ ρ → ∀ Q : VK,
  (∀ a vs ds S' H' n', Mv A.b S H S' H' → Fr A n' S' H' → H a = none → H' a = some (.lst vs) → S' a = none → Reps A.K S' vs ds → P ds n' → Q (.ref a) H') → te σ H Q
def DT (A : Amb) (tt : TT) (ρ : Rho) (n : Nat) (P : Bool → Nat → Prop) : Prop := ∀ S H σ, ER A n S H σ ρ → ∀ Q : Bool → Hp → Prop, (∀ b S' H' n', Mv A.b S H S' H' → Fr A n' S' H' → P b n' → Q b H') → tt σ H Q
def DA (A : Amb) (ta : TA) (ρ : Rho) (n : Nat) (P : List D → Nat → Prop) : Prop := ∀ S H σ, ER A n S H σ ρ → ∀ Q : List V → Hp → Prop, (∀ vs ds S' H' n', Mv A.b S H S' H' → Fr A n' S' H' → Reps A.K S' vs ds → P ds n' → Q vs H') → ta σ H Q
/-- our lists are where they were -/
def OwnIn (σ : L2.St) (ρ : Rho) (σ' : L2.St) (ρ' : Rho) : Prop := ∀ (j : Nat) (es : List D), ρ'[j]? = some (.own es) → ρ[j]? = some (.own es) ∧ σ'[j]? = σ[j]?
theorem OwnIn.refl {σ : L2.St} {ρ : Rho} : OwnIn σ ρ σ ρ := fun _ _ h => ⟨h, rfl⟩
theorem OwnIn.trans {σ σ1 σ2 : L2.St} {ρ ρ1 ρ2 : Rho} (a : OwnIn σ ρ σ1 ρ1) (b : OwnIn σ1 ρ1 σ2 ρ2) : OwnIn σ ρ σ2 ρ2 := fun j es h => by
  obtain ⟨h1, h2⟩ := b j es h
  obtain ⟨h3, h4⟩ := a j es h1
  exact ⟨h3, h2.trans h4⟩
theorem OwnIn.set {σ : L2.St} {ρ : Rho} {i : Nat} {o : Option V} {s : Slot} (hs : ∀ es, s ≠ .own es) : OwnIn σ ρ (σ.set i o) (ρ.set i s) := fun j es h => by
  by_cases q : i = j
  · subst q
    have lt : i < ρ.length := by
      have := (List.getElem?_eq_some_iff.mp h).1
      simpa using this
    rw [List.getElem?_set_self lt] at h
    exact absurd (Option.some.inj h) (hs es)
  · rw [List.getElem?_set_ne q] at h ⊢
    exact ⟨h, rfl⟩
def DG (A : Amb) (g : TG) (d : D) (ρ : Rho) (n : Nat) (P : Rho → Prop) : Prop := ∀ S H σ v, ER A n S H σ ρ → Rep A.K S v d → ∀ Q : L2.St → Hp → Prop, (∀ σ' ρ', ER A n S H σ' ρ' → OwnIn σ ρ σ' ρ' → P ρ' → Q σ' H) → g v σ H Q
def DGs (A : Amb) (g : TGs) (ds : List D) (ρ : Rho) (n : Nat) (P : Rho → Prop) : Prop := ∀ S H σ vs, ER A n S H σ ρ → Reps A.K S vs ds → ∀ Q : L2.St → Hp → Prop, (∀ σ' ρ', ER A n S H σ' ρ' → OwnIn σ ρ σ' ρ' → P ρ' → Q σ' H) → g vs σ H Q
structure DEnds where
  nx : Rho → Nat → Prop
  rt : D → Nat → Prop
  bk : Rho → Nat → Prop := fun _ _ => False
  ct : Rho → Nat → Prop := fun _ _ => False
structure EndsOk (A : Amb) (S : Hp) (T : DEnds) (D : Ends) : Prop where
  nx : ∀ ρ' n' S' H' σ', Ex S S' → ER A n' S' H' σ' ρ' → T.nx ρ' n' → D.nx σ' H'
  rt : ∀ v d n' S' H', Ex S S' → Fr A n' S' H' → Rep A.K S' v d → T.rt d n' → D.rt v H'
  bk : ∀ ρ' n' S' H' σ', Ex S S' → ER A n' S' H' σ' ρ' → T.bk ρ' n' → D.bk σ' H'
  ct : ∀ ρ' n' S' H' σ', Ex S S' → ER A n' S' H' σ' ρ' → T.ct ρ' n' → D.ct σ' H'
def DS (A : Amb) (ts : TS) (ρ : Rho) (n : Nat) (T : DEnds) : Prop := ∀ S H σ, ER A n S H σ ρ → ∀ D : Ends, EndsOk A S T D → ts D σ H
theorem EndsOk.on {A : Amb} {S S' : Hp} {T : DEnds} {D : Ends} (k : EndsOk A S T D) (e : Ex S S') : EndsOk A S' T D :=
  ⟨fun ρ' n' S2 H' σ' e2 => k.nx ρ' n' S2 H' σ' (e.trans e2), fun v d n' S2 H' e2 => k.rt v d n' S2 H' (e.trans e2), fun ρ' n' S2 H' σ' e2 => k.bk ρ' n' S2 H' σ' (e.trans e2), fun ρ' n' S2 H' σ' e2 => k.ct ρ' n' S2 H' σ' (e.trans e2)⟩
section
variable {A : Amb} {te ta tb : TE} {tt tu : TT} {tr : TA} {ρ : Rho} {n : Nat}
theorem DE.imp {P P' : D → Nat → Prop} (h : DE A te ρ n P) (k : ∀ d m, P d m → P' d m) : DE A te ρ n P' := fun S H σ e Q q => h S H σ e Q fun v d S' H' n' m f r p => q v d S' H' n' m f r (k d n' p)
theorem DT.imp {P P' : Bool → Nat → Prop} (h : DT A tt ρ n P) (k : ∀ d m, P d m → P' d m) : DT A tt ρ n P' := fun S H σ e Q q => h S H σ e Q fun b S' H' n' m f p => q b S' H' n' m f (k b n' p)
theorem DF.imp {P P' : List D → Nat → Prop} (h : DF A te ρ n P) (k : ∀ d m, P d m → P' d m) : DF A te ρ n P' := fun S H σ e Q q => h S H σ e Q fun a vs d S' H' n' m f h1 h2 h3 r p => q a vs d S' H' n' m f h1 h2 h3 r (k d n' p)
theorem DE.of_fresh {P : D → Nat → Prop} (h : DF A te ρ n fun ds m => P (.lst ds) m) : DE A te ρ n P := fun S H σ e Q q => h S H σ e Q fun a vs ds S' H' n' m f hn hh hs r p => by
  have h0 : A.H0 a = none := e.f.h0 hn
  have m' : Mv A.b S H (upd S' a (.lst vs)) H' := by
    refine ⟨fun x u y => ?_, fun a o x y nt => m.fr a o x y nt, m.tb, fun x y z => ?_⟩
    · have w := m.ss x u y
      rw [upd_ne (ne_of_none w hs)]; exact w
    · have ne : x ≠ a := fun w => y (by rw [w]; exact hn)
      rw [upd_ne ne]; exact m.sep x y z
  have ex : Ex S' (upd S' a (.lst vs)) := fun x u y => by rw [upd_ne (ne_of_none y hs)]; exact y
  exact q (.ref a) (.lst ds) _ H' n' m' (f.freeze hh hs h0) (Rep.lst upd_same (r.mono ex)) p
theorem de_var {i : Nat} {d : D} {P : D → Nat → Prop} (h : ρ[i]? = some (.val d)) (p : P d n) : DE A (tVar i) ρ n P := fun S H σ e Q q => by
  obtain ⟨v, h1, h2⟩ := e.val h
  exact ⟨v, h1, q v d S H n Mv.refl e.f h2 p⟩
theorem de_int {i : Int} {P : D → Nat → Prop} (p : P (.int i) n) : DE A (tC (.int i)) ρ n P := fun S H σ e Q q => q _ _ S H n Mv.refl e.f Rep.int p
theorem de_bl {i : Bool} {P : D → Nat → Prop} (p : P (.bl i) n) : DE A (tC (.bl i)) ρ n P := fun S H σ e Q q => q _ _ S H n Mv.refl e.f Rep.bl p
theorem de_str {i : Str} {P : D → Nat → Prop} (p : P (.str i) n) : DE A (tC (.str i)) ρ n P := fun S H σ e Q q => q _ _ S H n Mv.refl e.f Rep.str p
theorem de_non {P : D → Nat → Prop} (p : P .non n) : DE A (tC .non) ρ n P := fun S H σ e Q q => q _ _ S H n Mv.refl e.f Rep.non p
theorem de_raw {v : V} {P : D → Nat → Prop} (p : P (.raw v) n) : DE A (tC v) ρ n P := fun S H σ e Q q => q _ _ S H n Mv.refl e.f Rep.raw p
/-- two operands, then an operation on values -/
def DR (A : Amb) (r : R2) (x y : D) (n : Nat) (P : D → Nat → Prop) : Prop := ∀ S H v w, Fr A n S H → Rep A.K S v x → Rep A.K S w y → ∀ Q : VK, (∀ u d S' H' n', Mv A.b S H S' H' → Fr A n' S' H' → Rep A.K S' u d → P d n' → Q u H') → r v w H Q
def DRF (A : Amb) (r : R2) (x y : D) (n : Nat) (P : List D → Nat → Prop) : Prop := ∀ S H v w, Fr A n S H → Rep A.K S v x → Rep A.K S w y → ∀ Q : VK,
  (∀ a vs ds S' H' n', Mv A.b S H S' H' → Fr A n' S' H' → H a = none → H' a = some (.lst vs) → S' a = none → Reps A.K S' vs ds → P ds n' → Q (.ref a) H') → r v w H Q
theorem de_op {r : R2} {P : D → Nat → Prop} (h : DE A ta ρ n fun x n1 => DE A tb ρ n1 fun y n2 => DR A r x y n2 P) : DE A (tOp r ta tb) ρ n P := fun S H σ e Q q =>
  h S H σ e _ fun v x S1 H1 n1 m1 f1 r1 h1 => h1 S1 H1 σ (e.mv m1 f1) _ fun w y S2 H2 n2 m2 f2 r2 h2 =>
    h2 S2 H2 v w f2 (r1.mono m2.ss) r2 Q fun u d S3 H3 n3 m3 f3 r3 p => q u d S3 H3 n3 ((m1.trans f1.bt m2).trans f2.bt m3) f3 r3 p
theorem df_op {r : R2} {P : List D → Nat → Prop} (h : DE A ta ρ n fun x n1 => DE A tb ρ n1 fun y n2 => DRF A r x y n2 P) : DF A (tOp r ta tb) ρ n P := fun S H σ e Q q =>
  h S H σ e _ fun v x S1 H1 n1 m1 f1 r1 h1 => h1 S1 H1 σ (e.mv m1 f1) _ fun w y S2 H2 n2 m2 f2 r2 h2 =>
    h2 S2 H2 v w f2 (r1.mono m2.ss) r2 Q fun a vs ds S3 H3 n3 m3 f3 hn hh hs r3 p => by
      have m12 := m1.trans f1.bt m2
      have hn0 : H a = none := by
        cases z : H a with
        | none => rfl
        | some o => exact absurd hn (m12.there f2.bt (by rw [z]; exact fun y => nomatch y))
      exact q a vs ds S3 H3 n3 (m12.trans f2.bt m3) f3 hn0 hh hs r3 p
theorem dr_I0 {g : Int → Int → V} {i j : Int} {d : D} {P : D → Nat → Prop} (hd : ∀ K S, Rep K S (g i j) d) (p : P d n) : DR A (rI0 g) (.int i) (.int j) n P := fun S H v w f r1 r2 Q q => by
  cases r1.int_inv; cases r2.int_inv
  exact ⟨i, j, rfl, rfl, q _ d S H n Mv.refl f (hd _ _) p⟩
theorem dr_I {C : Int → Int → Prop} {g : Int → Int → V} {i j : Int} {d : D} {P : D → Nat → Prop} (hd : ∀ K S, Rep K S (g i j) d) (hc : C i j) (p : P d n) : DR A (rI C g) (.int i) (.int j) n P := fun S H v w f r1 r2 Q q => by
  cases r1.int_inv; cases r2.int_inv
  exact ⟨i, j, rfl, rfl, hc, q _ d S H n Mv.refl f (hd _ _) p⟩
theorem dr_add {i j : Int} {P : D → Nat → Prop} (p : P (.int (i + j)) n) : DR A (rI0 fun i j => .int (i + j)) (.int i) (.int j) n P := dr_I0 (fun _ _ => Rep.int) p
theorem dr_sub {i j : Int} {P : D → Nat → Prop} (p : P (.int (i - j)) n) : DR A (rI0 fun i j => .int (i - j)) (.int i) (.int j) n P := dr_I0 (fun _ _ => Rep.int) p
theorem dr_lt {i j : Int} {P : D → Nat → Prop} (p : P (.bl (decide (i < j))) n) : DR A (rI0 fun i j => .bl (decide (i < j))) (.int i) (.int j) n P := dr_I0 (fun _ _ => Rep.bl) p
theorem dr_le {i j : Int} {P : D → Nat → Prop} (p : P (.bl (decide (i ≤ j))) n) : DR A (rI0 fun i j => .bl (decide (i ≤ j))) (.int i) (.int j) n P := dr_I0 (fun _ _ => Rep.bl) p
theorem dr_gt {i j : Int} {P : D → Nat → Prop} (p : P (.bl (decide (j < i))) n) : DR A (rI0 fun i j => .bl (decide (j < i))) (.int i) (.int j) n P := dr_I0 (fun _ _ => Rep.bl) p
theorem dr_ge {i j : Int} {P : D → Nat → Prop} (p : P (.bl (decide (j ≤ i))) n) : DR A (rI0 fun i j => .bl (decide (j ≤ i))) (.int i) (.int j) n P := dr_I0 (fun _ _ => Rep.bl) p
theorem dr_mul {i j : Int} {P : D → Nat → Prop} (hc : CMul i j) (p : P (.int (i * j)) n) : DR A (rI CMul fun i j => .int (i * j)) (.int i) (.int j) n P := dr_I (fun _ _ => Rep.int) hc p
theorem dr_mulW {i j : Int} {P : D → Nat → Prop} (hc : CMulW i j) (p : P (.int (i * j)) n) : DR A (rI CMulW fun i j => .int (i * j)) (.int i) (.int j) n P := dr_I (fun _ _ => Rep.int) hc p
theorem dr_mod {i j : Int} {P : D → Nat → Prop} (hc : 0 < j) (p : P (.int (i % j)) n) : DR A (rI (fun _ j => 0 < j) fun i j => .int (i % j)) (.int i) (.int j) n P := dr_I (C := fun _ j => 0 < j) (fun _ _ => Rep.int) hc p
theorem dr_fdivW {i j : Int} {P : D → Nat → Prop} (hc : CDivW i j) (p : P (.int (i / j)) n) : DR A (rI CDivW fun i j => .int (i / j)) (.int i) (.int j) n P := dr_I (fun _ _ => Rep.int) hc p
/-- == of scalars -/
theorem dr_eqI {i j : Int} {P : D → Nat → Prop} (p : P (.bl (decide (i = j))) n) : DR A rEq (.int i) (.int j) n P := fun S H v w f r1 r2 Q q => by
  cases r1.int_inv; cases r2.int_inv
  refine ⟨rfl, q _ _ S H n Mv.refl f ?_ p⟩
  have e : decide ((V.int i) = V.int j) = decide (i = j) := by
    by_cases h : i = j
    · subst h; simp
    · have : ¬ (V.int i) = V.int j := fun z => h (V.int.inj z)
      rw [decide_eq_false h, decide_eq_false this]
  rw [e]; exact Rep.bl
theorem dr_neI {i j : Int} {P : D → Nat → Prop} (p : P (.bl (!decide (i = j))) n) : DR A rNe (.int i) (.int j) n P := fun S H v w f r1 r2 Q q => by
  cases r1.int_inv; cases r2.int_inv
  refine ⟨rfl, q _ _ S H n Mv.refl f ?_ p⟩
  have e : decide ((V.int i) = V.int j) = decide (i = j) := by
    by_cases h : i = j
    · subst h; simp
    · have : ¬ (V.int i) = V.int j := fun z => h (V.int.inj z)
      rw [decide_eq_false h, decide_eq_false this]
  rw [e]; exact Rep.bl
theorem dr_eqB {i j : Bool} {P : D → Nat → Prop} (p : P (.bl (i == j)) n) : DR A rEq (.bl i) (.bl j) n P := fun S H v w f r1 r2 Q q => by
  cases r1.bl_inv; cases r2.bl_inv
  refine ⟨rfl, q _ _ S H n Mv.refl f ?_ p⟩
  have e : decide ((V.bl i) = V.bl j) = (i == j) := by cases i <;> cases j <;> decide
  rw [e]; exact Rep.bl
theorem dr_neB {i j : Bool} {P : D → Nat → Prop} (p : P (.bl (i != j)) n) : DR A rNe (.bl i) (.bl j) n P := fun S H v w f r1 r2 Q q => by
  cases r1.bl_inv; cases r2.bl_inv
  refine ⟨rfl, q _ _ S H n Mv.refl f ?_ p⟩
  have e : (!decide ((V.bl i) = V.bl j)) = (i != j) := by cases i <;> cases j <;> decide
  rw [e]; exact Rep.bl
/-- args -/
theorem da_nil {P : List D → Nat → Prop} (p : P [] n) : DA A tNil ρ n P := fun S H σ e Q q => q [] [] S H n Mv.refl e.f Reps.nil p
theorem da_cons {P : List D → Nat → Prop} (h : DE A te ρ n fun d n1 => DA A tr ρ n1 fun ds n2 => P (d :: ds) n2) : DA A (tCons te tr) ρ n P := fun S H σ e Q q =>
  h S H σ e _ fun v x S1 H1 n1 m1 f1 r1 h1 => h1 S1 H1 σ (e.mv m1 f1) _ fun vs ds S2 H2 n2 m2 f2 r2 p =>
    q (v :: vs) (x :: ds) S2 H2 n2 (m1.trans f1.bt m2) f2 (Reps.cons (r1.mono m2.ss) r2) p
theorem de_tup {P : D → Nat → Prop} (h : DA A tr ρ n fun ds n1 => ds.length ≤ 100000 ∧ P (.tup ds) n1) : DE A (tTup tr) ρ n P := fun S H σ e Q q =>
  h S H σ e _ fun vs ds S1 H1 n1 m1 f1 r1 ⟨hl, p⟩ => ⟨Evl.sz_of (by rw [r1.length]; exact hl), fun t ht =>
    q (.ref t) (.tup ds) _ _ n1 (m1.trans f1.bt (Mv.new f1.sub ht)) (f1.new ht) (Rep.tup upd_same (r1.mono (Mv.new (b := A.b) f1.sub ht).ss)) p⟩
theorem df_lst {P : List D → Nat → Prop} (h : DA A tr ρ n fun ds n1 => ds.length ≤ 100000 ∧ P ds n1) : DF A (tLst tr) ρ n P := fun S H σ e Q q =>
  h S H σ e _ fun vs ds S1 H1 n1 m1 f1 r1 ⟨hl, p⟩ => ⟨Evl.sz_of (by rw [r1.length]; exact hl), fun t ht => by
    have hn0 : H t = none := by
      cases z : H t with
      | none => rfl
      | some o => exact absurd ht (m1.there f1.bt (by rw [z]; exact fun y => nomatch y))
    exact q t vs ds S1 _ n1 (m1.trans f1.bt (Mv.newO ht)) (f1.newO ht) hn0 upd_same (f1.s0 ht) r1 p⟩
/-- tests -/
theorem dt_test {P : Bool → Nat → Prop} (h : DE A te ρ n fun d m => ∃ b, d = .bl b ∧ P b m) : DT A (tTest te) ρ n P := fun S H σ e Q q =>
  h S H σ e _ fun v d S1 H1 n1 m1 f1 r1 ⟨b, hd, p⟩ => by
    subst hd
    exact ⟨b, r1.bl_inv, q b S1 H1 n1 m1 f1 p⟩
theorem dt_B {P : Bool → Nat → Prop} (h : DE A te ρ n fun d m => ∃ b, d = .bl b ∧ P b m) : DT A (tB te) ρ n P := fun S H σ e Q q =>
  h S H σ e _ fun v d S1 H1 n1 m1 f1 r1 ⟨b, hd, p⟩ => by
    subst hd
    exact ⟨b, r1.bl_inv, q b S1 H1 n1 m1 f1 p⟩
theorem dt_and {P : Bool → Nat → Prop} (h : DT A tt ρ n fun b m => if b = true then DT A tu ρ m P else P false m) : DT A (tAnd tt tu) ρ n P := fun S H σ e Q q =>
  h S H σ e _ fun b S1 H1 n1 m1 f1 p => by
    cases b with
    | true =>
      rw [if_pos rfl] at p ⊢
      exact p S1 H1 σ (e.mv m1 f1) Q fun c S2 H2 n2 m2 f2 p2 => q c S2 H2 n2 (m1.trans f1.bt m2) f2 p2
    | false =>
      rw [if_neg Bool.false_ne_true] at p ⊢
      exact q false S1 H1 n1 m1 f1 p
theorem dt_or {P : Bool → Nat → Prop} (h : DT A tt ρ n fun b m => if b = true then P true m else DT A tu ρ m P) : DT A (tOr tt tu) ρ n P := fun S H σ e Q q =>
  h S H σ e _ fun b S1 H1 n1 m1 f1 p => by
    cases b with
    | true =>
      rw [if_pos rfl] at p ⊢
      exact q true S1 H1 n1 m1 f1 p
    | false =>
      rw [if_neg Bool.false_ne_true] at p ⊢
      exact p S1 H1 σ (e.mv m1 f1) Q fun c S2 H2 n2 m2 f2 p2 => q c S2 H2 n2 (m1.trans f1.bt m2) f2 p2
theorem dt_not {P : Bool → Nat → Prop} (h : DT A tt ρ n fun b m => P (!b) m) : DT A (tNot tt) ρ n P := fun S H σ e Q q => h S H σ e _ fun b S1 H1 n1 m1 f1 p => q (!b) S1 H1 n1 m1 f1 p
theorem de_andV {P : D → Nat → Prop} (h : DE A ta ρ n fun d m => ∃ b, d = .bl b ∧ if b = true then DE A tb ρ m P else P (.bl false) m) : DE A (tAndV ta tb) ρ n P := fun S H σ e Q q =>
  h S H σ e _ fun v d S1 H1 n1 m1 f1 r1 ⟨b, hd, p⟩ => by
    subst hd
    refine ⟨b, r1.bl_inv, ?_⟩
    cases b with
    | true =>
      rw [if_pos rfl] at p ⊢
      exact p S1 H1 σ (e.mv m1 f1) Q fun v2 d2 S2 H2 n2 m2 f2 r2 p2 => q v2 d2 S2 H2 n2 (m1.trans f1.bt m2) f2 r2 p2
    | false =>
      rw [if_neg Bool.false_ne_true] at p ⊢
      exact q _ _ S1 H1 n1 m1 f1 Rep.bl p
theorem de_orV {P : D → Nat → Prop} (h : DE A ta ρ n fun d m => ∃ b, d = .bl b ∧ if b = true then P (.bl true) m else DE A tb ρ m P) : DE A (tOrV ta tb) ρ n P := fun S H σ e Q q =>
  h S H σ e _ fun v d S1 H1 n1 m1 f1 r1 ⟨b, hd, p⟩ => by
    subst hd
    refine ⟨b, r1.bl_inv, ?_⟩
    cases b with
    | true =>
      rw [if_pos rfl] at p ⊢
      exact q _ _ S1 H1 n1 m1 f1 Rep.bl p
    | false =>
      rw [if_neg Bool.false_ne_true] at p ⊢
      exact p S1 H1 σ (e.mv m1 f1) Q fun v2 d2 S2 H2 n2 m2 f2 r2 p2 => q v2 d2 S2 H2 n2 (m1.trans f1.bt m2) f2 r2 p2
theorem de_notV {P : D → Nat → Prop} (h : DE A ta ρ n fun d m => ∃ b, d = .bl b ∧ P (.bl (!b)) m) : DE A (tNotV ta) ρ n P := fun S H σ e Q q =>
  h S H σ e _ fun v d S1 H1 n1 m1 f1 r1 ⟨b, hd, p⟩ => by
    subst hd
    exact ⟨b, r1.bl_inv, q _ _ S1 H1 n1 m1 f1 Rep.bl p⟩
theorem de_if {P : D → Nat → Prop} (h : DT A tt ρ n fun b m => if b = true then DE A ta ρ m P else DE A tb ρ m P) : DE A (tIf tt ta tb) ρ n P := fun S H σ e Q q =>
  h S H σ e _ fun b S1 H1 n1 m1 f1 p => by
    cases b with
    | true =>
      rw [if_pos rfl] at p ⊢
      exact p S1 H1 σ (e.mv m1 f1) Q fun v2 d2 S2 H2 n2 m2 f2 r2 p2 => q v2 d2 S2 H2 n2 (m1.trans f1.bt m2) f2 r2 p2
    | false =>
      rw [if_neg Bool.false_ne_true] at p ⊢
      exact p S1 H1 σ (e.mv m1 f1) Q fun v2 d2 S2 H2 n2 m2 f2 r2 p2 => q v2 d2 S2 H2 n2 (m1.trans f1.bt m2) f2 r2 p2
/-- targets -/
theorem dg_name {i : Nat} {d : D} {P : Rho → Prop} (p : P (ρ.set i (.val d))) : DG A (gName i) d ρ n P := fun S H σ v e r Q q => q _ _ (e.set r) (OwnIn.set fun _ z => nomatch z) p
theorem dgs_nil {P : Rho → Prop} (p : P ρ) : DGs A gNil [] ρ n P := fun S H σ vs e r Q q => by
  unfold Reps at r
  exact ⟨r, q σ ρ e OwnIn.refl p⟩
theorem dgs_cons {g : TG} {gs : TGs} {d : D} {ds : List D} {P : Rho → Prop} (h : DG A g d ρ n fun ρ1 => DGs A gs ds ρ1 n P) : DGs A (gCons g gs) (d :: ds) ρ n P := fun S H σ vs e r Q q => by
  obtain ⟨v, r', rfl, r1, r2⟩ := r.uncons
  exact ⟨v, r', rfl, h S H σ v e r1 _ fun σ' ρ1 e1 o1 p1 => p1 S H σ' r' e1 r2 Q fun σ2 ρ2 e2 o2 p2 => q σ2 ρ2 e2 (o1.trans o2) p2⟩
theorem dg_tup {gs : TGs} {ds : List D} {k : Nat} {P : Rho → Prop} (hk : ds.length = k) (h : DGs A gs ds ρ n P) : DG A (gTup A.K k gs) (.tup ds) ρ n P := fun S H σ v e r Q q => by
  obtain ⟨a, vs, rfl, h1, h2⟩ := r.tup_inv
  exact ⟨a, vs, rfl, Evl.st_of (e.f.sub _ _ h1), by rw [h2.length]; exact hk, h S H σ vs e h2 Q q⟩
end
/-! ### statements -/
section
variable {A : Amb} {te ta tb : TE} {tt tu : TT} {tr : TA} {ts us : TS} {ρ : Rho} {n : Nat} {T : DEnds}
theorem ds_next (h : T.nx ρ n) : DS A tNext ρ n T := fun S H σ e D k => k.nx ρ n S H σ (Ex.refl S) e h
theorem ds_seq (h : DS A ts ρ n { T with nx := fun ρ' m => DS A us ρ' m T }) : DS A (tSeq ts us) ρ n T := fun S H σ e D k =>
  h S H σ e _ ⟨fun ρ' n' S' H' σ' x e' p => p S' H' σ' e' D (k.on x), k.rt, k.bk, k.ct⟩
theorem ds_asg {g : TG} (h : DE A te ρ n fun d m => DG A g d ρ m fun ρ' => T.nx ρ' m) : DS A (tAsg te g) ρ n T := fun S H σ e D k =>
  h S H σ e _ fun v d S' H' n' m f r p => p S' H' σ v (e.mv m f) r _ fun σ' ρ' e' _ q => k.nx ρ' n' S' H' σ' m.ss e' q
theorem ds_set {i : Nat} (h : DE A te ρ n fun d m => T.nx (ρ.set i (.val d)) m) : DS A (tAsg te (gName i)) ρ n T := ds_asg (h.imp fun _ _ p => dg_name p)
theorem ds_setOwn {i : Nat} (h : DF A te ρ n fun ds m => T.nx (ρ.set i (.own ds)) m) : DS A (tAsg te (gName i)) ρ n T := fun S H σ e D k =>
  h S H σ e _ fun a vs ds S' H' n' m f hn hh hs r p => by
    refine k.nx _ n' S' H' _ m.ss ((e.mv m f).setOwn (fun j es hj z => ?_) hh r hs (e.f.h0 hn)) p
    obtain ⟨b, ws, h1, h2, _⟩ := e.own hj
    rw [z] at h1
    cases h1
    rw [hn] at h2; cases h2
theorem ds_ret (h : DE A te ρ n T.rt) : DS A (tRet te) ρ n T := fun S H σ e D k => h S H σ e _ fun v d S' H' n' m f r p => k.rt v d n' S' H' m.ss f r p
theorem ds_retN (h : T.rt .non n) : DS A tRetN ρ n T := fun S H σ e D k => k.rt .non .non n S H (Ex.refl S) e.f Rep.non h
/-- our list at i, frozen -/
theorem ER.frz {S H : Hp} {σ : L2.St} (e : ER A n S H σ ρ) {i : Nat} {ds : List D} (h : ρ[i]? = some (.own ds)) : ∃ a vs S', σ[i]? = some (some (.ref a)) ∧ Ex S S' ∧ Fr A n S' H ∧ Rep A.K S' (.ref a) (.lst ds) ∧ ER A n S' H σ (ρ.set i (.val (.lst ds))) ∧ S' = upd S a (.lst vs) ∧ S a = none ∧ H a = some (.lst vs) ∧ Reps A.K S vs ds ∧ A.H0 a = none := by
  obtain ⟨a, vs, h1, h2, h3, h4, h5⟩ := e.own h
  have ex : Ex S (upd S a (.lst vs)) := fun x u y => by rw [upd_ne (ne_of_none y h4)]; exact y
  have f' := e.f.freeze h2 h4 h5
  have rp : Rep A.K (upd S a (.lst vs)) (.ref a) (.lst ds) := Rep.lst upd_same (h3.mono ex)
  have li : i < ρ.length := (List.getElem?_eq_some_iff.mp h).1
  refine ⟨a, vs, _, h1, ex, f', rp, ⟨f', by simp [e.len], fun j s hj => ?_, fun j k es es' hne g1 g2 => ?_⟩, rfl, h4, h2, h3, h5⟩
  · by_cases q : i = j
    · subst q
      rw [List.getElem?_set_self li] at hj
      cases hj
      exact ⟨_, h1, _, rfl, rp⟩
    · rw [List.getElem?_set_ne q] at hj
      obtain ⟨o, x1, x2⟩ := e.sl j s hj
      refine ⟨o, x1, ?_⟩
      cases s with
      | un => trivial
      | val d => obtain ⟨v, y1, y2⟩ := x2; exact ⟨v, y1, y2.mono ex⟩
      | own es =>
        obtain ⟨b, ws, y1, y2, y3, y4, y5⟩ := x2
        refine ⟨b, ws, y1, y2, y3.mono ex, ?_, y5⟩
        have ne : b ≠ a := fun z => by
          subst z
          exact e.ap i j ds es q h hj (by rw [h1, x1, y1])
        rw [upd_ne ne]; exact y4
      | dic kvs =>
        obtain ⟨b, ks, y1, y2, y3, y4, y5⟩ := x2
        have ne : b ≠ a := fun z => by
          subst z
          rw [h2] at y2
          cases y2
        exact ⟨b, ks, y1, y2, ⟨y3.1, y3.2.mono ex⟩, by rw [upd_ne ne]; exact y4, y5⟩
      | nd kvs =>
        obtain ⟨b, ks, y1, y2, y3, y4, y5⟩ := x2
        have ne : b ≠ a := fun z => by
          subst z
          rw [h2] at y2
          cases y2
        exact ⟨b, ks, y1, y2, y3.mono ex, by rw [upd_ne ne]; exact y4, y5⟩
  · have f1 : ∀ (k : Nat) (ds' : List D), (ρ.set i (.val (.lst ds)))[k]? = some (.own ds') → i ≠ k := fun k ds' h z => by
      subst z
      rw [List.getElem?_set_self li] at h
      cases h
    have z1 := f1 j es g1
    have z2 := f1 k es' g2
    rw [List.getElem?_set_ne z1] at g1
    rw [List.getElem?_set_ne z2] at g2
    exact e.ap j k es es' hne g1 g2
theorem ds_retOwn {i : Nat} {ds : List D} (hi : ρ[i]? = some (.own ds)) (h : T.rt (.lst ds) n) : DS A (tRet (tVar i)) ρ n T := fun S H σ e D k => by
  obtain ⟨a, vs, S', h1, ex, f', rp, _⟩ := e.frz hi
  exact ⟨.ref a, h1, k.rt _ _ n S' H ex f' rp h⟩
/-- our list becomes a value -/
theorem ds_frz {i : Nat} {ds : List D} (hi : ρ[i]? = some (.own ds)) (h : DS A ts (ρ.set i (.val (.lst ds))) n T) : DS A ts ρ n T := fun S H σ e D k => by
  obtain ⟨a, vs, S', h1, ex, f', rp, e', _⟩ := e.frz hi
  exact h S' H σ e' D (k.on ex)
theorem ds_if (h : DT A tt ρ n fun b m => if b = true then DS A ts ρ m T else DS A us ρ m T) : DS A (tIfS tt ts us) ρ n T := fun S H σ e D k =>
  h S H σ e _ fun b S1 H1 n1 m1 f1 p => by
    cases b with
    | true =>
      rw [if_pos rfl] at p ⊢
      exact p S1 H1 σ (e.mv m1 f1) D (k.on m1.ss)
    | false =>
      rw [if_neg Bool.false_ne_true] at p ⊢
      exact p S1 H1 σ (e.mv m1 f1) D (k.on m1.ss)
theorem ds_drop (h : DE A te ρ n fun _ m => T.nx ρ m) : DS A (tDrop te) ρ n T := fun S H σ e D k => h S H σ e _ fun v d S' H' n' m f r p => k.nx ρ n' S' H' σ m.ss (e.mv m f) p
theorem ds_brk (h : T.bk ρ n) : DS A tBreak ρ n T := fun S H σ e D k => k.bk ρ n S H σ (Ex.refl S) e h
theorem ds_cont (h : T.ct ρ n) : DS A tCont ρ n T := fun S H σ e D k => k.ct ρ n S H σ (Ex.refl S) e h
/-- a, b = x, y -/
theorem ds_par {i j : Nat} (h : DA A tr ρ n fun ds m => ∃ x y, ds = [x, y] ∧ T.nx ((ρ.set i (.val x)).set j (.val y)) m) : DS A (tPar i j tr) ρ n T := fun S H σ e D k =>
  h S H σ e _ fun vs ds S' H' n' m f r ⟨x, y, hd, p⟩ => by
    subst hd
    obtain ⟨v, r', rfl, r1, r2⟩ := r.uncons
    obtain ⟨w, r'', rfl, r3, r4⟩ := r2.uncons
    unfold Reps at r4
    subst r4
    exact ⟨v, w, rfl, k.nx _ n' S' H' _ m.ss (((e.mv m f).set r1).set r3) p⟩
/-- our list at i is written -/
theorem ER.putOwn {S H : Hp} {σ : L2.St} (e : ER A n S H σ ρ) {i : Nat} {ds ds' : List D} {a : Addr} {vs' : List V} (h : ρ[i]? = some (.own ds)) (ha : σ[i]? = some (some (.ref a))) (r : Reps A.K S vs' ds') : ER A n S (upd H a (.lst vs')) σ (ρ.set i (.own ds')) := by
  obtain ⟨a', vs, h1, h2, h3, h4, h5⟩ := e.own h
  rw [ha] at h1; cases h1
  have li : i < ρ.length := (List.getElem?_eq_some_iff.mp h).1
  refine ⟨e.f.put h4 h5 ⟨_, h2⟩, by simp [e.len], fun j s hj => ?_, fun j k es es' hne g1 g2 => ?_⟩
  · by_cases q : i = j
    · subst q
      rw [List.getElem?_set_self li] at hj
      cases hj
      exact ⟨_, ha, a, vs', rfl, upd_same, r, h4, h5⟩
    · rw [List.getElem?_set_ne q] at hj
      obtain ⟨o, x1, x2⟩ := e.sl j s hj
      refine ⟨o, x1, ?_⟩
      cases s with
      | un => trivial
      | val d => exact x2
      | own es =>
        obtain ⟨b, ws, y1, y2, y3, y4, y5⟩ := x2
        have ne : b ≠ a := fun z => by
          subst z
          exact e.ap i j ds es q h hj (by rw [ha, x1, y1])
        exact ⟨b, ws, y1, by rw [upd_ne ne]; exact y2, y3, y4, y5⟩
      | dic kvs =>
        obtain ⟨b, ks, y1, y2, y3, y4, y5⟩ := x2
        have ne : b ≠ a := fun z => by
          subst z
          rw [h2] at y2
          cases y2
        exact ⟨b, ks, y1, by rw [upd_ne ne]; exact y2, y3, y4, y5⟩
      | nd kvs =>
        obtain ⟨b, ks, y1, y2, y3, y4, y5⟩ := x2
        have ne : b ≠ a := fun z => by
          subst z
          rw [h2] at y2
          cases y2
        exact ⟨b, ks, y1, by rw [upd_ne ne]; exact y2, y3, y4, y5⟩
  · have f1 : ∀ (k : Nat) (es : List D), (ρ.set i (.own ds'))[k]? = some (.own es) → ∃ es0, ρ[k]? = some (.own es0) := fun k es h' => by
      by_cases q : i = k
      · subst q; exact ⟨ds, h⟩
      · rw [List.getElem?_set_ne q] at h'; exact ⟨es, h'⟩
    obtain ⟨x, gx⟩ := f1 j es g1
    obtain ⟨y, gy⟩ := f1 k es' g2
    exact e.ap j k x y hne gx gy
/-- xs.append(e), xs ours -/
theorem ds_app {i : Nat} {ds : List D} (hi : ρ[i]? = some (.own ds)) (h : DE A te ρ n fun d m => ds.length < 100000 ∧ T.nx (ρ.set i (.own (ds ++ [d]))) m) : DS A (tDrop (tBM A.K "list" rAppend (tVar i) (tCons te tNil))) ρ n T := fun S H σ e D k => by
  obtain ⟨a, vs, h1, h2, h3, h4, h5⟩ := e.own hi
  refine ⟨.ref a, h1, Or.inl ⟨rfl, vs, Evl.sq_of h2⟩, h S H σ e _ fun v d S' H' n' m f r ⟨hl, p⟩ => ?_⟩
  have e' := e.mv m f
  obtain ⟨a', vs', g1, g2, g3, g4, g5⟩ := e'.own hi
  rw [h1] at g1; cases g1
  refine ⟨a, vs', v, rfl, rfl, g2, Evl.sz_lt (by rw [g3.length]; exact hl), ?_⟩
  exact k.nx _ n' S' _ σ m.ss (e'.putOwn hi h1 (g3.append (Reps.one r))) p
/-- xs[j] = e, xs ours -/
theorem ds_put {i : Nat} {ds : List D} {ti : TE} (hi : ρ[i]? = some (.own ds)) (h : DE A te ρ n fun d m => DE A ti ρ m fun x m2 => ∃ j : Nat, x = .int (j : Int) ∧ j < ds.length ∧ T.nx (ρ.set i (.own (ds.set j d))) m2) : DS A (tAsg te (gSub (tVar i) ti rSetL)) ρ n T := fun S H σ e D k =>
  h S H σ e _ fun v d S' H' n' m f r h' => by
    have e' := e.mv m f
    obtain ⟨a, vs, h1, h2, h3, h4, h5⟩ := e'.own hi
    refine ⟨.ref a, h1, h' S' H' σ e' _ fun w x S2 H2 n2 m2 f2 r2 ⟨j, hx, hj, p⟩ => ?_⟩
    subst hx
    have e2 := e'.mv m2 f2
    obtain ⟨a', vs', g1, g2, g3, g4, g5⟩ := e2.own hi
    rw [h1] at g1; cases g1
    refine ⟨a, vs', (j : Int), j, rfl, r2.int_inv, g2, Evl.ixN_nat (by rw [g3.length]; exact hj), ?_⟩
    exact k.nx _ n2 S2 _ σ (m.ss.trans m2.ss) (e2.putOwn hi h1 (g3.set j (r.mono m2.ss))) p
/-- reading of our lists -/
theorem de_lenOwn {i : Nat} {ds : List D} {P : D → Nat → Prop} (hi : ρ[i]? = some (.own ds)) (p : P (.int (ds.length : Int)) n) :
    DE A (tCB (fun xs H Q => ∃ p ys, xs = [.ref p] ∧ (SqL A.K H p ys ∨ SqT A.K H p ys) ∧ Q (.int ys.length) H) (tCons (tVar i) tNil)) ρ n P := fun S H σ e Q q => by
  obtain ⟨a, vs, h1, h2, h3, h4, h5⟩ := e.own hi
  refine ⟨.ref a, h1, a, vs, rfl, Or.inl (Evl.sq_of h2), q _ _ S H n Mv.refl e.f ?_ p⟩
  rw [h3.length]; exact Rep.int
/-- tuple(xs), xs ours -/
theorem de_tupOwn {i : Nat} {ds : List D} {P : D → Nat → Prop} (hi : ρ[i]? = some (.own ds)) (p : P (.tup ds) n) :
    DE A (tCB (fun xs H Q => ∃ p ys, xs = [.ref p] ∧ ((SqL A.K H p ys ∧ ∀ l, H l = none → Q (.ref l) (upd H l (.tup ys))) ∨ (SqT A.K H p ys ∧ Q (.ref p) H))) (tCons (tVar i) tNil)) ρ n P := fun S H σ e Q q => by
  obtain ⟨a, vs, h1, h2, h3, h4, h5⟩ := e.own hi
  refine ⟨.ref a, h1, a, vs, rfl, Or.inl ⟨Evl.sq_of h2, fun l hl => ?_⟩⟩
  exact q _ _ _ _ n (Mv.new e.f.sub hl) (e.f.new hl) (Rep.tup upd_same (h3.mono (Mv.new (b := A.b) e.f.sub hl).ss)) p
/-- tuple(e) -/
theorem de_tupOf {P : D → Nat → Prop} (h : DE A te ρ n fun d m => ∃ ds, (d = .lst ds ∨ d = .tup ds) ∧ P (.tup ds) m) :
    DE A (tCB (fun xs H Q => ∃ p ys, xs = [.ref p] ∧ ((SqL A.K H p ys ∧ ∀ l, H l = none → Q (.ref l) (upd H l (.tup ys))) ∨ (SqT A.K H p ys ∧ Q (.ref p) H))) (tCons te tNil)) ρ n P := fun S H σ e Q q =>
  h S H σ e _ fun v d S1 H1 n1 m1 f1 r1 ⟨ds, hd, p⟩ => by
    rcases hd with hd | hd
    · subst hd
      obtain ⟨a, vs, rfl, h1, h2⟩ := r1.lst_inv
      refine ⟨a, vs, rfl, Or.inl ⟨Evl.sq_of (f1.sub _ _ h1), fun l hl => ?_⟩⟩
      exact q _ _ _ _ n1 (m1.trans f1.bt (Mv.new f1.sub hl)) (f1.new hl) (Rep.tup upd_same (h2.mono (Mv.new (b := A.b) f1.sub hl).ss)) p
    · subst hd
      obtain ⟨a, vs, rfl, h1, h2⟩ := r1.tup_inv
      exact ⟨a, vs, rfl, Or.inr ⟨Evl.st_of (f1.sub _ _ h1), q _ _ S1 H1 n1 m1 f1 (Rep.tup h1 h2) p⟩⟩
/-- list(e) -/
theorem df_listOf {P : List D → Nat → Prop} (h : DE A te ρ n fun d m => ∃ ds, (d = .lst ds ∨ d = .tup ds) ∧ P ds m) :
    DF A (tCB (fun xs H Q => ∃ p ys, xs = [.ref p] ∧ (SqL A.K H p ys ∨ SqT A.K H p ys) ∧ ∀ l, H l = none → Q (.ref l) (upd H l (.lst ys))) (tCons te tNil)) ρ n P := fun S H σ e Q q =>
  h S H σ e _ fun v d S1 H1 n1 m1 f1 r1 ⟨ds, hd, p⟩ => by
    have hz : ∀ l, H1 l = none → H l = none := fun l hl => by
      cases z : H l with
      | none => rfl
      | some o => exact absurd hl (m1.there f1.bt (by rw [z]; exact fun y => nomatch y))
    rcases hd with hd | hd
    · subst hd
      obtain ⟨a, vs, rfl, h1, h2⟩ := r1.lst_inv
      refine ⟨a, vs, rfl, Or.inl (Evl.sq_of (f1.sub _ _ h1)), fun l hl => ?_⟩
      exact q l vs ds S1 _ n1 (m1.trans f1.bt (Mv.newO hl)) (f1.newO hl) (hz l hl) upd_same (f1.s0 hl) h2 p
    · subst hd
      obtain ⟨a, vs, rfl, h1, h2⟩ := r1.tup_inv
      refine ⟨a, vs, rfl, Or.inr (Evl.st_of (f1.sub _ _ h1)), fun l hl => ?_⟩
      exact q l vs ds S1 _ n1 (m1.trans f1.bt (Mv.newO hl)) (f1.newO hl) (hz l hl) upd_same (f1.s0 hl) h2 p
/-- len(e) -/
theorem de_len {P : D → Nat → Prop} (h : DE A te ρ n fun d m => ∃ ds, (d = .lst ds ∨ d = .tup ds) ∧ P (.int (ds.length : Int)) m) :
    DE A (tCB (fun xs H Q => ∃ p ys, xs = [.ref p] ∧ (SqL A.K H p ys ∨ SqT A.K H p ys) ∧ Q (.int ys.length) H) (tCons te tNil)) ρ n P := fun S H σ e Q q =>
  h S H σ e _ fun v d S1 H1 n1 m1 f1 r1 ⟨ds, hd, p⟩ => by
    rcases hd with hd | hd
    · subst hd
      obtain ⟨a, vs, rfl, h1, h2⟩ := r1.lst_inv
      refine ⟨a, vs, rfl, Or.inl (Evl.sq_of (f1.sub _ _ h1)), q _ _ S1 H1 n1 m1 f1 ?_ p⟩
      rw [h2.length]; exact Rep.int
    · subst hd
      obtain ⟨a, vs, rfl, h1, h2⟩ := r1.tup_inv
      refine ⟨a, vs, rfl, Or.inr (Evl.st_of (f1.sub _ _ h1)), q _ _ S1 H1 n1 m1 f1 ?_ p⟩
      rw [h2.length]; exact Rep.int
/-- a call of a built-in on values -/
theorem de_cb {r : List V → Hp → VK → Prop} {P : D → Nat → Prop} (h : DA A tr ρ n fun ds m => ∀ S H vs, Fr A m S H → Reps A.K S vs ds → ∀ Q : VK, (∀ v d S' H' n', Mv A.b S H S' H' → Fr A n' S' H' → Rep A.K S' v d → P d n' → Q v H') → r vs H Q) : DE A (tCB r tr) ρ n P := fun S H σ e Q q =>
  h S H σ e _ fun vs ds S1 H1 n1 m1 f1 r1 k => k S1 H1 vs f1 r1 Q fun v d S2 H2 n2 m2 f2 r2 p => q v d S2 H2 n2 (m1.trans f1.bt m2) f2 r2 p
end
/-! ### what is walked -/
def DI (A : Amb) (wi : TI) (ρ : Rho) (n : Nat) (P : List D → Nat → Prop) : Prop := ∀ S H σ, ER A n S H σ ρ → ∀ R : It → Hp → Prop,
  (∀ (J : It) (ds : List D) (S' H' : Hp) (n' : Nat) (G : Hp → Prop) (Y : Nat → Hp → V → Hp → Prop), Mv A.b S H S' H' → Fr A n' S' H' → Walk J ds.length G Y → (∀ S2 H2 m, Ex S' S2 → Fr A m S2 H2 → G H2) →
    (∀ i S2 H2 x H3 m, i < ds.length → Ex S' S2 → Fr A m S2 H2 → Y i H2 x H3 → ∃ S3 d, ds[i]? = some d ∧ Mv A.b S2 H2 S3 H3 ∧ Fr A m S3 H3 ∧ Rep A.K S3 x d) → P ds n' → R J H') → wi σ H R
section
variable {A : Amb} {te ta tb : TE} {tt tu : TT} {tr : TA} {ts us : TS} {wi : TI} {g : TG} {ρ : Rho} {n : Nat} {T : DEnds}
theorem DI.imp {P P' : List D → Nat → Prop} (h : DI A wi ρ n P) (k : ∀ d m, P d m → P' d m) : DI A wi ρ n P' := fun S H σ e R q => h S H σ e R fun J ds S' H' n' G Y m f w a b p => q J ds S' H' n' G Y m f w a b (k ds n' p)
theorem di_list {P : List D → Nat → Prop} (h : DE A te ρ n fun d m => ∃ ds, d = .lst ds ∧ P ds m) : DI A (iList A.K te) ρ n P := fun S H σ e R q =>
  h S H σ e _ fun v d S1 H1 n1 m1 f1 r1 ⟨ds, hd, p⟩ => by
    subst hd
    obtain ⟨a, vs, rfl, h1, h2⟩ := r1.lst_inv
    refine ⟨a, rfl, ⟨vs, Evl.sq_of (f1.sub _ _ h1)⟩, q _ ds S1 H1 n1 _ _ m1 f1 (by rw [← h2.length]; exact walk_list) (fun S2 H2 m x f => Evl.sq_of ((x.trans f.sub) _ _ h1)) (fun i S2 H2 x H3 m hi ex f y => ?_) p⟩
    obtain ⟨rfl, hx⟩ := y
    obtain ⟨d, g1, g2⟩ := h2.getV hx
    exact ⟨S2, d, g1, Mv.refl, f, g2.mono ex⟩
theorem di_tup {P : List D → Nat → Prop} (h : DE A te ρ n fun d m => ∃ ds, d = .tup ds ∧ P ds m) : DI A (iTup A.K te) ρ n P := fun S H σ e R q =>
  h S H σ e _ fun v d S1 H1 n1 m1 f1 r1 ⟨ds, hd, p⟩ => by
    subst hd
    obtain ⟨a, vs, rfl, h1, h2⟩ := r1.tup_inv
    refine ⟨a, rfl, ⟨vs, Evl.st_of (f1.sub _ _ h1)⟩, q _ ds S1 H1 n1 _ _ m1 f1 (by rw [← h2.length]; exact walk_tup) (fun S2 H2 m x f => Evl.st_of ((x.trans f.sub) _ _ h1)) (fun i S2 H2 x H3 m hi ex f y => ?_) p⟩
    obtain ⟨rfl, hx⟩ := y
    obtain ⟨d, g1, g2⟩ := h2.getV hx
    exact ⟨S2, d, g1, Mv.refl, f, g2.mono ex⟩
/-- range's ints -/
def rng (lo : Int) (k : Nat) : List D := (List.range k).map fun i : Nat => D.int (lo + (i : Int))
theorem rng_len {lo : Int} {k : Nat} : (rng lo k).length = k := by simp [rng]
theorem rng_get {lo : Int} {k i : Nat} (h : i < k) : (rng lo k)[i]? = some (.int (lo + (i : Int))) := by simp [rng, h]
theorem di_rng (J : TI) {lo : Int} {k : Nat} {P : List D → Nat → Prop} (h : ∀ S H σ, ER A n S H σ ρ → ∀ R : It → Hp → Prop, (∀ S' H' n', Mv A.b S H S' H' → Fr A n' S' H' → P (rng lo k) n' → R (Itr lo k) H') → J σ H R) : DI A J ρ n P := fun S H σ e R q =>
  h S H σ e R fun S' H' n' m f p => q _ (rng lo k) S' H' n' _ _ m f (by rw [rng_len]; exact walk_range) (fun _ _ _ _ _ => trivial) (fun i S2 H2 x H3 m hi ex f y => by
    obtain ⟨rfl, rfl⟩ := y
    rw [rng_len] at hi
    exact ⟨S2, _, rng_get hi, Mv.refl, f, Rep.int⟩) p
theorem di_rng1 {P : List D → Nat → Prop} (h : DE A te ρ n fun d m => ∃ j : Int, d = .int j ∧ (-(2 ^ 62) ≤ j ∧ j < 2 ^ 62) ∧ P (rng 0 j.toNat) m) : DI A (iRng1 (tCons te tNil)) ρ n P := fun S H σ e R q =>
  h S H σ e _ fun v d S1 H1 n1 m1 f1 r1 ⟨j, hd, hj, p⟩ => by
    subst hd
    refine ⟨j, by rw [r1.int_inv], hj.1, hj.2, ?_⟩
    exact q _ (rng 0 j.toNat) S1 H1 n1 _ _ m1 f1 (by rw [rng_len]; exact walk_range) (fun _ _ _ _ _ => trivial) (fun i S2 H2 x H3 m hi ex f y => by
      obtain ⟨rfl, rfl⟩ := y
      rw [rng_len] at hi
      exact ⟨S2, _, rng_get hi, Mv.refl, f, Rep.int⟩) p
theorem di_rng2 {P : List D → Nat → Prop} (h : DE A ta ρ n fun d m => DE A tb ρ m fun d2 m2 => ∃ i j : Int, d = .int i ∧ d2 = .int j ∧ (-(2 ^ 62) ≤ i ∧ i < 2 ^ 62 ∧ -(2 ^ 62) ≤ j ∧ j < 2 ^ 62) ∧ P (rng i (j - i).toNat) m2) : DI A (iRng2 (tCons ta (tCons tb tNil))) ρ n P := fun S H σ e R q =>
  h S H σ e _ fun v d S1 H1 n1 m1 f1 r1 h' => h' S1 H1 σ (e.mv m1 f1) _ fun w d2 S2 H2 n2 m2 f2 r2 ⟨i, j, hd, hd2, hj, p⟩ => by
    subst hd hd2
    refine ⟨i, j, by rw [r1.int_inv, r2.int_inv], hj, ?_⟩
    exact q _ (rng i (j - i).toNat) S2 H2 n2 _ _ (m1.trans f1.bt m2) f2 (by rw [rng_len]; exact walk_range) (fun _ _ _ _ _ => trivial) (fun i S2 H2 x H3 m hi ex f y => by
      obtain ⟨rfl, rfl⟩ := y
      rw [rng_len] at hi
      exact ⟨S2, _, rng_get hi, Mv.refl, f, Rep.int⟩) p
/-- for -/
theorem ds_for (h : DI A wi ρ n fun ds n1 => ∃ I : Nat → Rho → Nat → Prop, I 0 ρ n1 ∧ (∀ i d ρ' n', ds[i]? = some d → I i ρ' n' → DG A g d ρ' n' fun ρ2 => DS A ts ρ2 n' { T with nx := I (i + 1), ct := I (i + 1), bk := T.nx }) ∧ ∀ ρ' n', I ds.length ρ' n' → T.nx ρ' n') :
    DS A (tFor wi g ts) ρ n T := fun S H σ e D k =>
  h S H σ e _ fun J ds S1 H1 n1 G Y m1 f1 w hG hY ⟨I, i0, istep, iend⟩ =>
    for_it w (fun i σ' H' => ∃ S' ρ' n', Ex S1 S' ∧ ER A n' S' H' σ' ρ' ∧ I i ρ' n') ⟨S1, ρ, n1, Ex.refl _, e.mv m1 f1, i0⟩
      (fun i σ' H' _ ⟨S', ρ', n', ex, e', _⟩ => hG S' H' n' ex e'.f)
      (fun i x σ' H' H3 hi ⟨S', ρ', n', ex, e', p⟩ y => by
        obtain ⟨S3, d, hd, m3, f3, r3⟩ := hY i S' H' x H3 n' hi ex e'.f y
        have e3 := e'.mv m3 f3
        have st := istep i d ρ' n' hd p S3 H3 σ' x e3 r3
        refine st _ fun σ2 ρ2 e2 _ q => q S3 H3 σ2 e2 _ ⟨?_, ?_, ?_, ?_⟩
        · exact fun ρ4 n4 S4 H4 σ4 x4 e4 p4 => ⟨S4, ρ4, n4, ex.trans (m3.ss.trans x4), e4, p4⟩
        · exact fun v d4 n4 S4 H4 x4 f4 r4 p4 => k.rt v d4 n4 S4 H4 (m1.ss.trans (ex.trans (m3.ss.trans x4))) f4 r4 p4
        · exact fun ρ4 n4 S4 H4 σ4 x4 e4 p4 => k.nx ρ4 n4 S4 H4 σ4 (m1.ss.trans (ex.trans (m3.ss.trans x4))) e4 p4
        · exact fun ρ4 n4 S4 H4 σ4 x4 e4 p4 => ⟨S4, ρ4, n4, ex.trans (m3.ss.trans x4), e4, p4⟩)
      (fun σ' H' ⟨S', ρ', n', ex, e', p⟩ => k.nx ρ' n' S' H' σ' (m1.ss.trans ex) e' (iend ρ' n' p))
end
/-! ### comprehensions -/
def wipeR (ρ : Rho) : List Nat → Rho
  | [] => ρ
  | v :: vs => (wipeR ρ vs).set v .un
section
variable {A : Amb} {n : Nat} {S H : Hp} {σ : L2.St} {ρ : Rho}
theorem ER.wipe (e : ER A n S H σ ρ) : ∀ vs : List Nat, ER A n S H (wipe σ vs) (wipeR ρ vs)
  | [] => e
  | v :: vs => (ER.wipe e vs).setUn
theorem OwnIn.wipe : ∀ vs : List Nat, OwnIn σ ρ (L2.wipe σ vs) (wipeR ρ vs)
  | [] => OwnIn.refl
  | v :: vs => (OwnIn.wipe vs).trans (OwnIn.set fun _ z => nomatch z)
end
theorem wipe_set {σ : L2.St} {i : Nat} {o : Option V} : ∀ {vs : List Nat}, i ∈ vs → wipe (σ.set i o) vs = wipe σ vs
  | [], h => by simp at h
  | v :: vs, h => by
    show (wipe (σ.set i o) vs).set v none = (wipe σ vs).set v none
    by_cases e : i ∈ vs
    · rw [wipe_set e]
    · have q : i = v := (List.mem_cons.mp h).resolve_right e
      subst q
      have : ∀ (ws : List Nat), i ∉ ws → wipe (σ.set i o) ws = (wipe σ ws).set i o := by
        intro ws
        induction ws with
        | nil => intro _; rfl
        | cons w ws ih =>
          intro hn
          show (wipe (σ.set i o) ws).set w none = ((wipe σ ws).set w none).set i o
          rw [ih (fun z => hn (List.mem_cons_of_mem _ z)), List.set_comm _ _ (fun z => hn (by rw [z]; exact List.mem_cons_self))]
      rw [this vs e, List.set_set]
theorem wipe_wipe {σ : L2.St} (vs : List Nat) : wipe (wipe σ vs) vs = wipe σ vs := by
  have : ∀ (us : List Nat), (∀ u ∈ us, u ∈ vs) → wipe (wipe σ us) vs = wipe σ vs := by
    intro us
    induction us with
    | nil => intro _; rfl
    | cons u us ih =>
      intro h
      show wipe ((wipe σ us).set u none) vs = wipe σ vs
      rw [wipe_set (h u List.mem_cons_self)]
      exact ih fun x hx => h x (List.mem_cons_of_mem _ hx)
  exact this vs fun _ h => h
/-- a target that stores into vs alone -/
def GW (g : TG) (vs : List Nat) : Prop := ∀ v σ H (Q : L2.St → Hp → Prop), g v σ H Q → g v σ H fun σ' H' => wipe σ' vs = wipe σ vs ∧ Q σ' H'
def GWs (g : TGs) (vs : List Nat) : Prop := ∀ xs σ H (Q : L2.St → Hp → Prop), g xs σ H Q → g xs σ H fun σ' H' => wipe σ' vs = wipe σ vs ∧ Q σ' H'
theorem gw_name {i : Nat} {vs : List Nat} (h : i ∈ vs) : GW (gName i) vs := fun v σ H Q q => ⟨wipe_set h, q⟩
theorem gws_nil {vs : List Nat} : GWs gNil vs := fun xs σ H Q q => ⟨q.1, rfl, q.2⟩
theorem gws_cons {g : TG} {gs : TGs} {vs : List Nat} (mono : ∀ v σ H Q Q', (∀ a b, Q a b → Q' a b) → g v σ H Q → g v σ H Q') (h : GW g vs) (hs : GWs gs vs) : GWs (gCons g gs) vs := fun xs σ H Q q => by
  obtain ⟨v, r, rfl, q⟩ := q
  refine ⟨v, r, rfl, mono _ _ _ _ _ ?_ (h v σ H _ q)⟩
  rintro σ' H' ⟨q2, q1⟩
  have q3 := hs r σ' H' _ q1
  rw [q2] at q3
  exact q3
theorem gmono_name {i : Nat} : ∀ v σ H Q Q', (∀ a b, Q a b → Q' a b) → (gName i) v σ H Q → (gName i) v σ H Q' := fun v σ H Q Q' k q => k _ _ q
theorem gw_tup {K : PySem.W.Frag} {gs : TGs} {vs : List Nat} {k : Nat} (hs : GWs gs vs) : GW (gTup K k gs) vs := fun v σ H Q q => by
  obtain ⟨a, xs, e, h1, h2, q⟩ := q
  exact ⟨a, xs, e, h1, h2, hs xs σ H Q q⟩
theorem gmonos_nil : ∀ v σ H Q Q', (∀ a b, Q a b → Q' a b) → gNil v σ H Q → gNil v σ H Q' := fun v σ H Q Q' k q => ⟨q.1, k _ _ q.2⟩
theorem gmonos_cons {g : TG} {gs : TGs} (m1 : ∀ v σ H Q Q', (∀ a b, Q a b → Q' a b) → g v σ H Q → g v σ H Q') (m2 : ∀ v σ H Q Q', (∀ a b, Q a b → Q' a b) → gs v σ H Q → gs v σ H Q') :
    ∀ v σ H Q Q', (∀ a b, Q a b → Q' a b) → gCons g gs v σ H Q → gCons g gs v σ H Q' := fun v σ H Q Q' k ⟨x, r, e, q⟩ => ⟨x, r, e, m1 _ _ _ _ _ (fun a b z => m2 _ _ _ _ _ k z) q⟩
theorem gmono_tup {K : PySem.W.Frag} {gs : TGs} {k : Nat} (m2 : ∀ v σ H Q Q', (∀ a b, Q a b → Q' a b) → gs v σ H Q → gs v σ H Q') :
    ∀ v σ H Q Q', (∀ a b, Q a b → Q' a b) → gTup K k gs v σ H Q → gTup K k gs v σ H Q' := fun v σ H Q Q' k ⟨a, xs, e, h1, h2, q⟩ => ⟨a, xs, e, h1, h2, m2 _ _ _ _ _ k q⟩
section
variable {A : Amb} {te ta tb : TE} {tt tu : TT} {tr : TA} {ts us : TS} {wi : TI} {g : TG} {ρ : Rho} {n : Nat} {T : DEnds}
theorem dt_yes {P : Bool → Nat → Prop} (p : P true n) : DT A tYes ρ n P := fun S H σ e Q q => q true S H n Mv.refl e.f p
/-- [e for x in xs if t] -/
theorem df_lc {vs : List Nat} {P : List D → Nat → Prop} (gw : GW g vs)
    (h : DI A wi ρ n fun ds n1 => ∃ I : Nat → List D → Nat → Prop, I 0 [] n1 ∧ ds.length ≤ 100000 ∧ (∀ i d acc n', ds[i]? = some d → acc.length ≤ i → I i acc n' →
      DG A g d (wipeR ρ vs) n' fun ρ2 => DT A tt ρ2 n' fun b n2 => if b = true then DE A te ρ2 n2 fun y n3 => I (i + 1) (acc ++ [y]) n3 else I (i + 1) acc n2) ∧ ∀ acc n', I ds.length acc n' → P acc n') :
    DF A (tLc wi g tt te vs) ρ n P := fun S H σ e Q q =>
  h S H σ e _ fun J ds S1 H1 n1 G Y m1 f1 w hG hY ⟨I, i0, hlen, istep, iend⟩ => fun L hL => by
    have hL0 : H L = none := by
      cases z : H L with
      | none => rfl
      | some o => exact absurd hL (m1.there f1.bt (by rw [z]; exact fun y => nomatch y))
    have hS1 : S1 L = none := f1.s0 hL
    have h0L : A.H0 L = none := f1.h0 hL
    have nb : some L ≠ A.b := fun z => (f1.box L z.symm).2.2 h0L
    have key : ∀ (Qd : Hp → Prop), (∀ (H' : Hp), (∃ S' n' vacc acc, Ex S1 S' ∧ Mv A.b S1 H1 S' H' ∧ Fr A n' S' H' ∧ H' L = some (.lst vacc) ∧ S' L = none ∧ Reps A.K S' vacc acc ∧ acc.length ≤ ds.length ∧ I ds.length acc n') → Qd H') →
        ∃ W : Nat → Nat → Hp → Prop, (∃ m, W 0 m (upd H1 L (.lst []))) ∧ ∀ i m H, W i m H →
      (J.stop i H ∧ Qd H) ∨ (J.go i H ∧ ∃ Nx : Hp → Prop, (∀ H', Nx H' → ∃ m', m' < m ∧ W (i + 1) m' H') ∧ ∀ x H', J.yld i H x H' → g x (wipe σ vs) H' fun σ2 H2 => wipe σ2 vs = wipe σ vs ∧ tt σ2 H2 fun b H3 =>
        if b = true then te σ2 H3 fun y H4 => ∃ acc, H4 L = some (.lst acc) ∧ acc.length < sizeLine ∧ Nx (upd H4 L (.lst (acc ++ [y]))) else Nx H3) := by
      intro Qd hd
      refine lc_it w (fun i H' => ∃ S' n' vacc acc, Ex S1 S' ∧ Mv A.b S1 H1 S' H' ∧ Fr A n' S' H' ∧ H' L = some (.lst vacc) ∧ S' L = none ∧ Reps A.K S' vacc acc ∧ acc.length ≤ i ∧ I i acc n')
        ⟨S1, n1, [], [], Ex.refl _, Mv.newO hL, f1.newO hL, upd_same, hS1, Reps.nil, Nat.le_refl _, i0⟩ (fun i H' _ ⟨S', n', _, _, ex, _, f', _⟩ => hG S' H' n' ex f') ?_ hd
      rintro i x H' H3 hi ⟨S', n', vacc, acc, ex, mv, f', hH, hS, ra, hl, p⟩ y
      obtain ⟨S3, d, hdd, m3, f3, r3⟩ := hY i S' H' x H3 n' hi ex f' y
      have e3 : ER A n' S3 H3 σ ρ := (e.mv m1 f1).mv (mv.trans f'.bt m3) f3
      have z := gw x (wipe σ vs) H3 (fun σ2 H2 => tt σ2 H2 fun b H3 =>
        if b = true then te σ2 H3 fun y H4 => ∃ acc, H4 L = some (.lst acc) ∧ acc.length < sizeLine ∧ (∃ S' n' vacc acc', Ex S1 S' ∧ Mv A.b S1 H1 S' (upd H4 L (.lst (acc ++ [y]))) ∧ Fr A n' S' (upd H4 L (.lst (acc ++ [y]))) ∧ (upd H4 L (.lst (acc ++ [y]))) L = some (.lst vacc) ∧ S' L = none ∧ Reps A.K S' vacc acc' ∧ acc'.length ≤ i + 1 ∧ I (i + 1) acc' n')
        else (∃ S' n' vacc acc', Ex S1 S' ∧ Mv A.b S1 H1 S' H3 ∧ Fr A n' S' H3 ∧ H3 L = some (.lst vacc) ∧ S' L = none ∧ Reps A.K S' vacc acc' ∧ acc'.length ≤ i + 1 ∧ I (i + 1) acc' n')) ?_
      · rw [wipe_wipe] at z
        exact z
      refine istep i d acc n' hdd hl p S3 H3 _ x (e3.wipe vs) r3 _ fun σ2 ρ2 e2 _ p2 => ?_
      refine p2 S3 H3 σ2 e2 _ fun b S4 H4 n4 m4 f4 p4 => ?_
      have nH : ∀ {S' H' S'' H'' : Hp} {v : List V}, Mv A.b S' H' S'' H'' → H' L = some (.lst v) → S' L = none → H'' L = some (.lst v) ∧ S'' L = none := fun m a b => ⟨m.fr L _ nb a, m.sep L (by rw [a]; exact fun z => nomatch z) b⟩
      have x3 := nH m3 hH hS
      have x4 := nH m4 x3.1 x3.2
      have mv3 := mv.trans f'.bt m3
      have mv4 := mv3.trans f3.bt m4
      cases b with
      | false =>
        rw [if_neg Bool.false_ne_true] at p4 ⊢
        exact ⟨S4, n4, vacc, acc, ex.trans (m3.ss.trans m4.ss), mv4, f4, x4.1, x4.2, ra.mono (m3.ss.trans m4.ss), by omega, p4⟩
      | true =>
        rw [if_pos rfl] at p4 ⊢
        refine p4 S4 H4 σ2 (e2.mv m4 f4) _ fun y dy S5 H5 n5 m5 f5 r5 p5 => ?_
        have x5 := nH m5 x4.1 x4.2
        have mv5 := mv4.trans f4.bt m5
        have exx : Ex S' S5 := m3.ss.trans (m4.ss.trans m5.ss)
        refine ⟨vacc, x5.1, Evl.sz_lt (by rw [ra.length]; omega), S5, n5, vacc ++ [y], acc ++ [dy], ex.trans exx, ?_, f5.put x5.2 h0L ⟨_, x5.1⟩, upd_same, x5.2, (ra.mono exx).append (Reps.one r5), by simp; omega, p5⟩
        refine ⟨mv5.ss, fun a o hb ha nt => ?_, fun a ps ha => ?_, mv5.sep⟩
        · rw [upd_ne (ne_of_none ha hL)]
          exact mv5.fr a o hb ha
        · rw [upd_ne (ne_of_none ha hL)]
          exact mv5.tb a ps ha
    refine key _ fun H' ⟨S', n', vacc, acc, ex, mv, f', hH, hS, ra, hl, p⟩ => ?_
    exact q L vacc acc S' H' n' (m1.trans f1.bt mv) f' hL0 hH hS ra (iend acc n' p)
end
end DL
namespace DL
open PySem PySem.Spec PyProof.Rows L2 Evl
/-! ### defs that are called where no repr runs -/
structure FnG (P : Program) (w : World) (K : PySem.W.Frag) (mg : Str → Option Value) (base : Heap) (k : Nat) (f : Addr) (fd : FuncData) (ps : List Str) (sp : Sp) : Prop where
  arity : ∀ vs H Q E, sp vs H Q E → vs.length = ps.length
  go : ∀ (A : Around), A.guards = some [] → Room k A → ∀ (outer : List Env) (s : Shared) (H : Hp), Env0 P w K mg base A outer s H →
    ∀ (args : Args) (us : List Value) (vs : List V), BindsTo s fd args (ps.zip us) → Vals vs us → ∀ (Q : VK) (E : XK), sp vs H Q E → codeAny (model P w) A (.call (.ref f) args) (CR (L2.CX P w) outer P w H s Q E) s
section
variable {P : Program} {w : World} {K : PySem.W.Frag} {mg : Str → Option Value} {base : Heap}
theorem FnG.up {i j : Nat} {f : Addr} {fd : FuncData} {ps : List Str} {sp : Sp} (G : FnG P w K mg base i f fd ps sp) (l : i ≤ j) : FnG P w K mg base j f fd ps sp :=
  ⟨G.arity, fun A g r => G.go A g (r.mono l)⟩
theorem FnG.weak {i : Nat} {f : Addr} {fd : FuncData} {ps : List Str} {sp sp' : Sp} (G : FnG P w K mg base i f fd ps sp) (h : ∀ vs H Q E, sp' vs H Q E → sp vs H Q E) : FnG P w K mg base i f fd ps sp' :=
  ⟨fun vs H Q E q => G.arity vs H Q E (h _ _ _ _ q), fun A g r o s H e0 a us vs b v Q E q => G.go A g r o s H e0 a us vs b v Q E (h _ _ _ _ q)⟩
theorem deeper_guards (A : Around) (env : Env) : (A.deeper env).guards = A.guards := by
  first
    | rfl
    | (cases A; rfl)
    | (obtain ⟨a, b, c, d, e⟩ := A; cases d <;> rfl)
/-- a def by its body -/
theorem FnG.of {x qual : Str} {st : Stmt} {f : Addr} {fd : FuncData} {N ps : List Str} {k : Nat} {sp : Sp} (F : Fun K x qual st f fd) (S : FnScope N ps (defScope st)) (ar : ∀ vs H Q E, sp vs H Q E → vs.length = ps.length)
    (body : ∀ (cdv : Value) (A : Around) (outer : List Env) (s : Shared) (H : Hp) (vs : List V) (Q : VK) (E : XK), A.guards = some [] → Room k (A.deeper (envOfC qual (defScope st) s.heap.objs.size f cdv)) → sp vs H Q E →
      ∃ t, PSs (cxOf (L2.CX P w) P w K mg base N qual (defScope st) f cdv A outer s H E) (defBody st) t ∧ t { nx := fun _ H' => Q .non H', rt := Q } (start N vs) H) : FnG P w K mg base (k + 1) f fd ps sp := by
  refine ⟨ar, fun A hg hr outer s H e0 args us vs hb r Q E hsp => ?_⟩
  -- the rule for such defs, told of this very call: any other surrounding is left aside
  obtain ⟨oc, od, kV, doc, pm, an, cdv, ct, osl, efd, lk, hcd⟩ := F.ex
  subst efd
  let sp2 : Sp := fun vs' H' Q' E' => vs' = vs ∧ H' = H ∧ Q' = Q ∧ E' = E
  have KX : K.In s.heap := e0.mod.kin.keeps fun b o e => (e0.bs b o e).1
  have lim : s.heap.NoLimit := e0.mod.nolimit.keeps fun b o e => (e0.bs b o e).1
  have hl := ar _ _ _ _ hsp
  have kinds : ∀ y ∈ ps.zip us, (defScope st).names.lookup y.1 = some .local ∨ ((defScope st).names.lookup y.1 = some .cell ∧ ((cellsFrom (s.heap.objs.size + 1) (defScope st).names []).lookup y.1).isSome = true) := by
    rintro ⟨n, v⟩ hy
    rcases S.par n (List.of_mem_zip hy).1 with q | q
    · exact Or.inl q
    · exact Or.inr ⟨q, PySem.W.cellsFrom_some _ _ _ (Or.inl q)⟩
  refine codeAny_call_function hr.depth (KX _ _ lk) rfl S.co S.gen rfl (PySem.W.codeRec_of KX hcd) ?_
  refine hb _ _ _ _ ?_
  refine wpAny_newFunctionEnv_cells S.kind kinds ?_
  intro env he s1 x
  subst he
  refine ⟨lim.keeps x.toInCall.keep, codeAny_func ?_⟩
  obtain ⟨t, ht, hq⟩ := body cdv A outer s H vs Q E hg (hr.deeper _) hsp
  have I := inv_start (CX := L2.CX P w) (E := E) (base := base) (mg := mg) S hr.hd e0 hl r x
  refine wpAny_mono (ht.run [] s1 (start N vs) H _ I hq) ?_ (fun e s' hs => hs)
  intro fl s' hs
  cases fl with
  | ret u =>
    obtain ⟨v, σ', H', J, rv, q⟩ := hs
    exact ⟨v, H', J.os, J.bare, J.base, J.hok, rv, q⟩
  | next =>
    obtain ⟨σ', H', J, q⟩ := hs
    exact ⟨V.non, H', J.os, J.bare, J.base, J.hok, rfl, q⟩
  | brk => exact (hs.elim fun _ h => h.elim fun _ h => h.2).elim
  | cont => exact (hs.elim fun _ h => h.elim fun _ h => h.2).elim
end
section
variable {X : Cx} {k n : Nat} {f : Addr} {fd : FuncData} {ps ks : List Str} {sp : Sp} {E : XK} {x : Str} {p pos : Pos} {e : Expr} {es : List Expr} {kws : List Keyword} {t tk : TA} {g : List Value → List Value → List Value} {gV : List V → List V → List V}
theorem FnG.at {pins : List (Addr × Obj)} {σ : L2.St} {H : Hp} {s : Shared} {Q : VK} {us : List Value} {vs : List V} (G : FnG X.prog X.w X.K X.mg X.base k f fd ps sp) (hg : X.A.guards = some []) (hr : Room k X.A) {args : Args} (hb : BindsTo s fd args (ps.zip us)) (hx : Passes (L2.CX X.prog X.w) X E)
    (I : Inv X pins σ H s) (r : Vals vs us) (h : sp vs H Q E) : codeAny (model X.prog X.w) X.A (.call (.ref f) args) (fun r s' => match r with | .ok (.ret u) => EP X pins σ Q u s' | .ok _ => False | .error e => X.xe e s') s := by
  refine codeAny_mono (G.go X.A hg hr X.stack s H I.env0 args us vs hb r Q E h) ?_
  rintro (e | fl) s' hq
  · exact hx pins σ H s e s' I hq
  · cases fl with
    | ret u => exact I.after hq
    | next => exact hq
    | brk => exact hq
    | cont => exact hq
/-- f(e, ..) -/
theorem pe_g (G : FnG X.prog X.w X.K X.mg X.base k f fd ps sp) (hgd : X.A.guards = some []) (hr : Room k X.A) (hm : X.mg x = some (.ref f)) (hk : PySem.W.keepIn X.K (.ref f) = true) (hb : Binds X.K fd ps []) (hx : Passes (L2.CX X.prog X.w) X E) (ha : PA X (e :: es) t) (hg : Gl X x := by rfl)
    (hdb : (x == ("__debug__" : Str)) = false := by decide) (he : starEach (e :: es) X.env = (false, eval e X.env) :: starEach es X.env := by rfl) (hpl : (backTo pos (starEach es X.env)).any (·.1) = false := by rfl) :
    PE X (.Call (.Name x p) (e :: es) [] pos) (tCall sp [] E t) := by
  constructor
  intro pins s σ H Q I h
  refine wpAny_Call_Name_kw (ld_glob I hg hm ?_ hdb)
  refine PySem.W.callWith_K (h₀ := X.base) I.ok.mod.kin hk (thn (ha.run pos pins s σ H _ I h) ?_) he hpl
  rintro us s1 ⟨vs, H1, I1, r, q⟩
  rw [List.append_nil] at q
  refine ⟨I1.kIn, wpAny_call (codeAny_mono (G.at hgd hr (us := us) ?_ hx I1 r q) ?_)⟩
  · have hl : us.length = ps.length := by rw [← r.length]; exact G.arity _ _ _ _ q
    have z := hb s1 us I1.kIn (by rw [List.append_nil]; exact hl)
    rw [List.append_nil] at z
    exact z
  · rintro (e | fl) s' hq
    · exact hq
    · cases fl <;> exact hq
/-- f(), no parameters -/
theorem pe_g0 (G : FnG X.prog X.w X.K X.mg X.base k f fd ps sp) (hgd : X.A.guards = some []) (hr : Room k X.A) (hm : X.mg x = some (.ref f)) (hk : PySem.W.keepIn X.K (.ref f) = true) (hb : Binds X.K fd ps []) (hx : Passes (L2.CX X.prog X.w) X E) (hg : Gl X x := by rfl)
    (hdb : (x == ("__debug__" : Str)) = false := by decide) : PE X (.Call (.Name x p) [] [] pos) (tCall sp [] E tNil) := by
  constructor
  intro pins s σ H Q I h
  refine wpAny_Call_Name_kw (ld_glob I hg hm ?_ hdb)
  have q : sp [] H Q E := h
  refine PySem.W.callWith_K0 I.kIn hk (wpAny_call (codeAny_mono (G.at hgd hr (us := []) (vs := []) ?_ hx I .nil q) ?_))
  · have hl := G.arity _ _ _ _ q
    have z := hb s [] I.kIn (by rw [List.append_nil]; exact hl)
    rw [List.append_nil] at z
    exact z
  · rintro (e | fl) s' hq
    · exact hq
    · cases fl <;> exact hq
/-- f(e, .., k = v, ..) -/
theorem pe_gK (G : FnG X.prog X.w X.K X.mg X.base k f fd ps sp) (hgd : X.A.guards = some []) (hr : Room k X.A) (hm : X.mg x = some (.ref f)) (hk : PySem.W.keepIn X.K (.ref f) = true) (hb : KBinds X.K fd ps ks g gV) (hx : Passes (L2.CX X.prog X.w) X E)
    (ha : PA X (e :: es) t) (hkw : PK X kws tk) (hg : Gl X x := by rfl) (hall : (backToKw pos (keywordEach kws X.env)).all (·.1.isSome) = true := by rfl) (hks : (backToKw pos (keywordEach kws X.env)).filterMap (·.1) = ks := by rfl)
    (hdb : (x == ("__debug__" : Str)) = false := by decide) (he : starEach (e :: es) X.env = (false, eval e X.env) :: starEach es X.env := by rfl)
    (hpl : ((backTo pos (starEach (e :: es) X.env)).any (·.1) || (backToKw pos (keywordEach kws X.env)).any (·.1.isNone)) = false := by rfl) :
    PE X (.Call (.Name x p) (e :: es) kws pos) (tCallK sp gV E t tk) := by
  constructor
  intro pins s σ H Q I h
  refine wpAny_Call_Name_kw (ld_glob I hg hm ?_ hdb)
  refine PySem.W.callWith_KW (h₀ := X.base) I.ok.mod.kin hk hall (thn (ha.run pos pins s σ H _ I h) ?_) hpl he
  rintro us s1 ⟨vs, H1, I1, r, q⟩
  refine thn (hkw.run pos pins s1 σ H1 _ I1 q) ?_
  rintro ws s2 ⟨zs, H2, I2, rz, q2⟩
  refine ⟨I2.kIn, ?_⟩
  rw [hks]
  have r2 := hb.rel r rz
  have hl : (g us ws).length = ps.length := by rw [← r2.length]; exact G.arity _ _ _ _ q2
  refine wpAny_call (codeAny_mono (G.at hgd hr (us := g us ws) (hb.to s2 us ws I2.kIn hl) hx I2 r2 q2) ?_)
  rintro (e | fl) s' hq
  · exact hq
  · cases fl <;> exact hq
/-- f(k = v, ..) -/
theorem pe_gK0 (G : FnG X.prog X.w X.K X.mg X.base k f fd ps sp) (hgd : X.A.guards = some []) (hr : Room k X.A) (hm : X.mg x = some (.ref f)) (hk : PySem.W.keepIn X.K (.ref f) = true) (hb : KBinds X.K fd ps ks g gV) (hx : Passes (L2.CX X.prog X.w) X E)
    (hkw : PK X kws tk) (hg : Gl X x := by rfl) (hall : (backToKw pos (keywordEach kws X.env)).all (·.1.isSome) = true := by rfl) (hks : (backToKw pos (keywordEach kws X.env)).filterMap (·.1) = ks := by rfl)
    (hdb : (x == ("__debug__" : Str)) = false := by decide)
    (hpl : ((backTo pos (starEach [] X.env)).any (·.1) || (backToKw pos (keywordEach kws X.env)).any (·.1.isNone)) = false := by rfl) :
    PE X (.Call (.Name x p) [] kws pos) (tCallK sp gV E tNil tk) := by
  constructor
  intro pins s σ H Q I h
  refine wpAny_Call_Name_kw (ld_glob I hg hm ?_ hdb)
  refine PySem.W.callWith_KW0 (h₀ := X.base) I.ok.mod.kin hk hall ?_ hpl
  refine thn (hkw.run pos pins s σ H _ I h) ?_
  rintro ws s2 ⟨zs, H2, I2, rz, q2⟩
  refine ⟨I2.kIn, ?_⟩
  rw [hks]
  have r2 := hb.rel .nil rz
  have hl : (g [] ws).length = ps.length := by rw [← r2.length]; exact G.arity _ _ _ _ q2
  refine wpAny_call (codeAny_mono (G.at hgd hr (us := g [] ws) (hb.to s2 [] ws I2.kIn hl) hx I2 r2 q2) ?_)
  rintro (e | fl) s' hq
  · exact hq
  · cases fl <;> exact hq
end
end DL
namespace DL
open PySem PySem.Spec PyProof.Rows L2 Evl
/-! ### promises over data -/
/-- box, arguments, budget, what is wanted of the result, of what is raised -/
abbrev DCon := Option Addr → List D → Nat → (D → Nat → Prop) → (Addr → List (Str × V) → Prop) → Prop
def BoxAt (b : Option Addr) (n : Nat) (S H : Hp) : Prop := ∀ a, b = some a → BoxOk n H a ∧ S a = none
def spOf (K : PySem.W.Frag) (k : Nat) (C : DCon) : Sp := fun vs H Q E => ∃ (b : Option Addr) (S : Hp) (ds : List D) (n : Nat) (P : D → Nat → Prop) (PX : Addr → List (Str × V) → Prop),
  (Ex S H ∧ TabK K S H) ∧ BoxAt b n S H ∧ Reps K S vs ds ∧ ds.length = k ∧ C b ds n P PX ∧
  (∀ v d S' H' n', Mv b S H S' H' → (Ex S' H' ∧ TabK K S' H') → BoxAt b n' S' H' → Rep K S' v d → P d n' → Q v H') ∧
  (∀ c fs dd S' H' n', Mv b S H S' H' → (Ex S' H' ∧ TabK K S' H') → BoxAt b n' S' H' → S' dd = some (.xd fs) → PX c fs → E (.ref c) (some dd) H')
theorem spOf_len {K : PySem.W.Frag} {k : Nat} {C : DCon} {vs : List V} {H : Hp} {Q : VK} {E : XK} (h : spOf K k C vs H Q E) : vs.length = k := by
  obtain ⟨b, S, ds, n, P, PX, _, _, r, hl, _⟩ := h
  rw [r.length, hl]
/-- what the surroundings of a body take -/
def XOk (A : Amb) : Prop := ∀ c fs dd S' H' n', Fr A n' S' H' → S' dd = some (.xd fs) → A.PX c fs → A.E (.ref c) (some dd) H'
def rho0 (ds : List D) (m : Nat) : Rho := ds.map Slot.val ++ List.replicate (m - ds.length) Slot.un
theorem er_start {A : Amb} {n : Nat} {vs : List V} {ds : List D} {N : List Str} (f : Fr A n A.S0 A.H0) (r : Reps A.K A.S0 vs ds) : ER A n A.S0 A.H0 (L2.start N vs) (rho0 ds N.length) := by
  have hl := r.length
  have noOwn : ∀ (i : Nat) (es : List D), (rho0 ds N.length)[i]? = some (.own es) → False := fun i es h => by
    unfold rho0 at h
    by_cases q : i < ds.length
    · rw [List.getElem?_append_left (by simpa using q), List.getElem?_map] at h
      cases e : ds[i]? with
      | none => rw [e] at h; cases h
      | some d => rw [e] at h; cases h
    · rw [List.getElem?_append_right (by simpa using q), List.getElem?_replicate] at h
      split at h <;> cases h
  refine ⟨f, by simp [L2.start, rho0, hl], fun i s h => ?_, fun i j es _ _ h => (noOwn i es h).elim⟩
  unfold rho0 at h
  unfold L2.start
  by_cases q : i < ds.length
  · rw [List.getElem?_append_left (by simpa using q), List.getElem?_map] at h
    cases e : ds[i]? with
    | none => rw [e] at h; cases h
    | some d =>
      rw [e] at h; cases h
      obtain ⟨v, hv, rv⟩ := r.get e
      refine ⟨some v, ?_, v, rfl, rv⟩
      rw [List.getElem?_append_left (by simp [hl]; exact q), List.getElem?_map, hv]; rfl
  · rw [List.getElem?_append_right (by simpa using q), List.getElem?_replicate] at h
    split at h
    · cases h
      refine ⟨none, ?_, trivial⟩
      rw [List.getElem?_append_right (by simp [hl]; omega), List.getElem?_replicate]
      rw [if_pos (by simp [hl] at *; omega)]
    · cases h
/-- a body keeps its promise -/
theorem body_of {K : PySem.W.Frag} {k : Nat} {C : DCon} {N : List Str} {t : TS} {vs : List V} {H : Hp} {Q : VK} {E : XK} (h : spOf K k C vs H Q E)
    (hb : ∀ (A : Amb) (ds : List D) (n : Nat) (P : D → Nat → Prop), A.K = K → A.E = E → XOk A → ds.length = k → C A.b ds n P A.PX → DS A t (rho0 ds N.length) n { nx := fun _ m => P .non m, rt := P }) :
    t { nx := fun _ H' => Q .non H', rt := Q } (L2.start N vs) H := by
  obtain ⟨b, S, ds, n, P, PX, hs, hbx, r, hl, hc, hq, hx⟩ := h
  have f : Fr ⟨K, b, S, H, E, PX⟩ n S H := ⟨hs.1, Mv.refl, fun a e => ⟨(hbx a e).1, (hbx a e).2, (hbx a e).1.ne⟩, hs.2⟩
  have toBx : ∀ {n' S' H'}, Fr ⟨K, b, S, H, E, PX⟩ n' S' H' → BoxAt b n' S' H' := fun f a e => ⟨(f.box a e).1, (f.box a e).2.1⟩
  refine hb ⟨K, b, S, H, E, PX⟩ ds n P rfl rfl (fun c fs dd S' H' n' f' e p => hx c fs dd S' H' n' f'.mv ⟨f'.sub, f'.tab⟩ (toBx f') e p) hl hc S H _ (er_start (A := ⟨K, b, S, H, E, PX⟩) f r) _ ⟨?_, ?_, ?_, ?_⟩
  · exact fun ρ' n' S' H' σ' _ e p => hq .non .non S' H' n' e.f.mv ⟨e.f.sub, e.f.tab⟩ (toBx e.f) Rep.non p
  · exact fun v d n' S' H' _ f' rv p => hq v d S' H' n' f'.mv ⟨f'.sub, f'.tab⟩ (toBx f') rv p
  · exact fun _ _ _ _ _ _ _ p => p.elim
  · exact fun _ _ _ _ _ _ _ p => p.elim
section
variable {A : Amb} {te ta tb : TE} {tt tu : TT} {tr tk : TA} {ρ : Rho} {n k : Nat} {C : DCon}
theorem call_at {S H : Hp} {vs : List V} {ds : List D} {P : D → Nat → Prop} {Q : VK} {E : XK} (f : Fr A n S H) (r : Reps A.K S vs ds) (hl : ds.length = k) {PX : Addr → List (Str × V) → Prop} (hc : C A.b ds n P PX)
    (q : ∀ v d S' H' n', Mv A.b S H S' H' → Fr A n' S' H' → Rep A.K S' v d → P d n' → Q v H')
    (hx : ∀ c fs dd S' H' n', Fr A n' S' H' → S' dd = some (.xd fs) → PX c fs → E (.ref c) (some dd) H') : spOf A.K k C vs H Q E := by
  have mk : ∀ {n' S' H'}, Mv A.b S H S' H' → (Ex S' H' ∧ TabK A.K S' H') → BoxAt A.b n' S' H' → Fr A n' S' H' := fun {n' S' H'} m ex bx =>
    ⟨ex.1, f.mv.trans f.bt m, fun a e => ⟨(bx a e).1, (bx a e).2, (f.box a e).2.2⟩, ex.2⟩
  exact ⟨A.b, S, ds, n, P, PX, ⟨f.sub, f.tab⟩, fun a e => ⟨(f.box a e).1, (f.box a e).2.1⟩, r, hl, hc,
    fun v d S' H' n' m ex bx rv p => q v d S' H' n' m (mk m ex bx) rv p, fun c fs dd S' H' n' m ex bx e p => hx c fs dd S' H' n' (mk m ex bx) e p⟩
/-- f(..), what it raises leaves this def -/
theorem de_call {P : D → Nat → Prop} (hX : XOk A) (h : DA A tr ρ n fun ds m => ds.length = k ∧ C A.b ds m P A.PX) : DE A (tCall (spOf A.K k C) [] A.E tr) ρ n P := fun S H σ e Q q =>
  h S H σ e _ fun vs ds S1 H1 n1 m1 f1 r1 ⟨hl, hc⟩ => by
    rw [List.append_nil]
    exact call_at f1 r1 hl hc (fun v d S' H' n' m f rv p => q v d S' H' n' (m1.trans f1.bt m) f rv p) hX
/-- f(..), it raises nothing -/
theorem de_call0 {P : D → Nat → Prop} {E : XK} (h : DA A tr ρ n fun ds m => ds.length = k ∧ C A.b ds m P fun _ _ => False) : DE A (tCall (spOf A.K k C) [] E tr) ρ n P := fun S H σ e Q q =>
  h S H σ e _ fun vs ds S1 H1 n1 m1 f1 r1 ⟨hl, hc⟩ => by
    rw [List.append_nil]
    exact call_at f1 r1 hl hc (fun v d S' H' n' m f rv p => q v d S' H' n' (m1.trans f1.bt m) f rv p) fun _ _ _ _ _ _ _ _ z => z.elim
/-- how keywords put values in order, on data -/
def Puts (gV : List V → List V → List V) (gD : List D → List D → List D) : Prop := ∀ K S vs ds ws es, Reps K S vs ds → Reps K S ws es → Reps K S (gV vs ws) (gD ds es)
theorem de_callK {P : D → Nat → Prop} {gV : List V → List V → List V} (gD : List D → List D → List D) (pg : Puts gV gD) (hX : XOk A) (h : DA A tr ρ n fun ds m => DA A tk ρ m fun es m2 => (gD ds es).length = k ∧ C A.b (gD ds es) m2 P A.PX) :
    DE A (tCallK (spOf A.K k C) gV A.E tr tk) ρ n P := fun S H σ e Q q =>
  h S H σ e _ fun vs ds S1 H1 n1 m1 f1 r1 h1 => h1 S1 H1 σ (e.mv m1 f1) _ fun ws es S2 H2 n2 m2 f2 r2 ⟨hl, hc⟩ =>
    call_at f2 (pg _ _ _ _ _ _ (r1.mono m2.ss) r2) hl hc (fun v d S' H' n' m f rv p => q v d S' H' n' ((m1.trans f1.bt m2).trans f2.bt m) f rv p) hX
theorem de_callK0 {P : D → Nat → Prop} {gV : List V → List V → List V} {E : XK} (gD : List D → List D → List D) (pg : Puts gV gD) (h : DA A tr ρ n fun ds m => DA A tk ρ m fun es m2 => (gD ds es).length = k ∧ C A.b (gD ds es) m2 P fun _ _ => False) :
    DE A (tCallK (spOf A.K k C) gV E tr tk) ρ n P := fun S H σ e Q q =>
  h S H σ e _ fun vs ds S1 H1 n1 m1 f1 r1 h1 => h1 S1 H1 σ (e.mv m1 f1) _ fun ws es S2 H2 n2 m2 f2 r2 ⟨hl, hc⟩ =>
    call_at f2 (pg _ _ _ _ _ _ (r1.mono m2.ss) r2) hl hc (fun v d S' H' n' m f rv p => q v d S' H' n' ((m1.trans f1.bt m2).trans f2.bt m) f rv p) fun _ _ _ _ _ _ _ _ z => z.elim
/-! ### more operations on values -/
theorem dr_ixN {d : D} {ds : List D} {j : Nat} {x : D} {P : D → Nat → Prop} (hd : d = .lst ds ∨ d = .tup ds) (hj : ds[j]? = some x) (p : P x n) : DR A (rIx A.K) d (.int (j : Int)) n P := fun S H v w f r1 r2 Q q => by
  cases r2.int_inv
  rcases hd with hd | hd
  · subst hd
    obtain ⟨a, vs, rfl, h1, h2⟩ := r1.lst_inv
    obtain ⟨u, hu, ru⟩ := h2.get hj
    exact Or.inl ⟨a, vs, (j : Int), u, rfl, rfl, Evl.sq_of (f.sub _ _ h1), atI_nat hu, q u x S H n Mv.refl f ru p⟩
  · subst hd
    obtain ⟨a, vs, rfl, h1, h2⟩ := r1.tup_inv
    obtain ⟨u, hu, ru⟩ := h2.get hj
    exact Or.inr (Or.inl ⟨a, vs, (j : Int), u, rfl, rfl, Evl.st_of (f.sub _ _ h1), atI_nat hu, q u x S H n Mv.refl f ru p⟩)
/-- at the index i, in bounds -/
theorem dr_ix {d : D} {ds : List D} {i : Int} {x : D} {P : D → Nat → Prop} (hd : d = .lst ds ∨ d = .tup ds) (h0 : 0 ≤ i) (hj : ds[i.toNat]? = some x) (p : P x n) : DR A (rIx A.K) d (.int i) n P := by
  have e : i = (i.toNat : Int) := by omega
  rw [e]
  exact dr_ixN hd hj p
/-- our list at a place -/
theorem de_ixOwn {i : Nat} {ds : List D} {P : D → Nat → Prop} (hi : ρ[i]? = some (.own ds)) (h : DE A tb ρ n fun d m => ∃ (j : Nat) (x : D), d = .int (j : Int) ∧ ds[j]? = some x ∧ P x m) : DE A (tOp (rIx A.K) (tVar i) tb) ρ n P := fun S H σ e Q q => by
  obtain ⟨a, vs, h1, h2, h3, h4, h5⟩ := e.own hi
  refine ⟨.ref a, h1, h S H σ e _ fun w d S1 H1 n1 m1 f1 r1 ⟨j, x, hd, hj, p⟩ => ?_⟩
  subst hd
  cases r1.int_inv
  obtain ⟨a', vs', g1, g2, g3, _⟩ := (e.mv m1 f1).own hi
  rw [h1] at g1; cases g1
  obtain ⟨u, hu, ru⟩ := g3.get hj
  exact Or.inl ⟨a, vs', (j : Int), u, rfl, rfl, Evl.sq_of g2, atI_nat hu, q u x S1 H1 n1 m1 f1 ru p⟩
/-- xs + ys, lists -/
theorem drf_cat {xs ys : List D} {P : List D → Nat → Prop} (hl : xs.length + ys.length ≤ 100000) (p : P (xs ++ ys) n) : DRF A rCat (.lst xs) (.lst ys) n P := fun S H v w f r1 r2 Q q => by
  obtain ⟨a, vs, rfl, h1, h2⟩ := r1.lst_inv
  obtain ⟨b, ws, rfl, h3, h4⟩ := r2.lst_inv
  refine ⟨a, b, vs, ws, rfl, rfl, f.sub _ _ h1, f.sub _ _ h3, Evl.sz_of (by rw [h2.length, h4.length]; exact hl), fun l hl => ?_⟩
  exact q l _ _ S _ n (Mv.newO hl) (f.newO hl) hl upd_same (f.s0 hl) (h2.append h4) p
theorem de_chain {r r' : R2} {tc : TE} {P : D → Nat → Prop} (h : DE A ta ρ n fun x n1 => DE A tb ρ n1 fun y n2 => DR A r x y n2 fun z n3 => ∃ b, z = .bl b ∧ if b = true then DE A tc ρ n3 (fun z2 n4 => DR A r' y z2 n4 P) else P (.bl false) n3) :
    DE A (tChain r r' ta tb tc) ρ n P := fun S H σ e Q q =>
  h S H σ e _ fun v x S1 H1 n1 m1 f1 r1 h1 => h1 S1 H1 σ (e.mv m1 f1) _ fun w y S2 H2 n2 m2 f2 r2 h2 =>
    h2 S2 H2 v w f2 (r1.mono m2.ss) r2 _ fun u z S3 H3 n3 m3 f3 r3 ⟨b, hz, p⟩ => by
      subst hz
      have m12 := (m1.trans f1.bt m2).trans f2.bt m3
      refine ⟨b, r3.bl_inv, ?_⟩
      cases b with
      | true =>
        rw [if_pos rfl] at p ⊢
        exact p S3 H3 σ (e.mv m12 f3) _ fun w4 z2 S4 H4 n4 m4 f4 r4 p4 => p4 S4 H4 w w4 f4 (r2.mono (m3.ss.trans m4.ss)) r4 Q fun u5 d5 S5 H5 n5 m5 f5 r5 p5 => q u5 d5 S5 H5 n5 ((m12.trans f3.bt m4).trans f4.bt m5) f5 r5 p5
      | false =>
        rw [if_neg Bool.false_ne_true] at p ⊢
        exact q _ _ S3 H3 n3 m12 f3 Rep.bl p
end
end DL
namespace DL
open PySem PySem.Spec PyProof.Rows L2 Evl
/-! ### rules for lists and tuples alike -/
section
variable {X : Cx} {pos : Pos} {tg : Expr}
def gSeq (K : PySem.W.Frag) (n : Nat) (t : TGs) : TG := fun v σ H Q => gTup K n t v σ H Q ∨ gUnl K n t v σ H Q
theorem pg_seq {es : List Expr} {k : Nat} {t : TGs} {n : Nat} (hc : X.calm = true) (h : PGs X es t) (hn : (assignEach es X.env).length = n := by rfl) (hst : (assignEach es X.env).findIdx? (·.1) = none := by rfl) : PG X (.Tuple es k pos) (gSeq X.K n t) := by
  constructor
  intro pins s σ H v u Q I r hw
  rcases hw with hw | hw
  · exact (pg_tup hc h hn hst).run pins s σ H v u Q I r hw
  · exact (pg_unl hc h hn hst).run pins s σ H v u Q I r hw
def iSeq (K : PySem.W.Frag) (tl : TE) : TI := fun σ H R => tl σ H fun x H1 => ∃ a, x = .ref a ∧ ((∃ xs, SqL K H1 a xs) ∧ R (Itl K a) H1 ∨ (∃ xs, SqT K H1 a xs) ∧ R (Itt K a) H1)
theorem pi_seq {l : Expr} {tl : TE} (hl : PE X l tl) : PI X tg l (iSeq X.K tl) := by
  constructor
  intro pins s σ H R I h
  refine thn (hl.run pins s σ H _ I h) ?_
  rintro v s1 ⟨x, H1, I1, r1, a, rfl, hq⟩
  cases r1
  have fp : ∀ b ∈ [s1.heap.objs.size], FpOk X pins H1 b := fun b hb => by
    obtain rfl : b = s1.heap.objs.size := by simpa using hb
    exact I1.fpOk (Nat.le_refl _) (I1.hok.fresh (Nat.le_refl _))
  rcases hq with ⟨⟨xs, hq⟩, q⟩ | ⟨⟨xs, hq⟩, q⟩
  · obtain ⟨its, rv, p, hz⟩ := I1.list hq
    refine wpAny_pyIter_list p.isList ⟨s1.heap.objs.size, [s1.heap.objs.size], _, _, H1, rfl, ?_, turn_list a _, ⟨_, Heap.get?_push_size _ rfl, rfl, rfl⟩, fp, q⟩
    exact I1.kept (t' := s1.toks) fun b o e => Heap.get?_push_of_some _ e
  · obtain ⟨its, rv, p, hz⟩ := I1.tuple hq
    refine wpAny_pyIter_tuple (show s1.heap.IsTuple a its.toArray from p) ⟨s1.heap.objs.size, [s1.heap.objs.size], _, _, H1, rfl, ?_, turn_tuple a _, ⟨_, Heap.get?_push_size _ rfl, rfl, rfl⟩, fp, q⟩
    exact I1.kept (t' := s1.toks) fun b o e => Heap.get?_push_of_some _ e
theorem callR_or {f : Value} {r r' : List V → Hp → VK → Prop} (h : CallR X f r) (h' : CallR X f r') : CallR X f (fun xs H Q => r xs H Q ∨ r' xs H Q) := by
  intro pins s σ H xs us Q I rx q
  rcases q with q | q
  · exact h pins s σ H xs us Q I rx q
  · exact h' pins s σ H xs us Q I rx q
/-- + of ints, lists, tuples, texts -/
def rPlus (K : PySem.W.Frag) : R2 := fun x y H Q => rI0 (fun i j => .int (i + j)) x y H Q ∨ rCat x y H Q ∨ rCatA K x y H Q ∨ (∃ i j, x = .str i ∧ y = .str j ∧ i.length + j.length ≤ sizeLine ∧ Q (.str (i ++ j)) H)
theorem op_plus : OpR X (binaryOp .Add) (rPlus X.K) := op_add.or (op_cat.or (op_catA.or op_add_str))
/-- * of ints; a list repeated -/
def rTimes : R2 := fun x y H Q => rI CMul (fun i j => .int (i * j)) x y H Q ∨ rI CMulW (fun i j => .int (i * j)) x y H Q ∨ rRep x y H Q
theorem op_times : OpR X (binaryOp .Mult) rTimes := op_mul.or (op_mulW.or op_rep)
/-- a[lo:hi] -/
def rSlice (K : PySem.W.Frag) : V → Option Int → Option Int → Hp → VK → Prop := fun x lo hi H Q => rSlL K x lo hi H Q ∨ rSlA K x lo hi H Q
theorem sl_or {r r' : V → Option Int → Option Int → Hp → VK → Prop} (h : SlR X r) (h' : SlR X r') : SlR X (fun x lo hi H Q => r x lo hi H Q ∨ r' x lo hi H Q) := by
  intro pins s σ H x v vl vu lo hi sl Q I rx hs pl pu q
  rcases q with q | q
  · exact h pins s σ H x v vl vu lo hi sl Q I rx hs pl pu q
  · exact h' pins s σ H x v vl vu lo hi sl Q I rx hs pl pu q
theorem sl_seq : SlR X (rSlice X.K) := sl_or sl_list sl_tupA
end
/-! ### the same on data -/
section
variable {A : Amb} {te ta tb : TE} {tt tu : TT} {tr tk : TA} {ts : TS} {wi : TI} {g : TG} {ρ : Rho} {n k : Nat} {T : DEnds}
theorem dg_seq {gs : TGs} {d : D} {ds : List D} {k : Nat} {P : Rho → Prop} (hd : d = .lst ds ∨ d = .tup ds) (hk : ds.length = k) (h : DGs A gs ds ρ n P) : DG A (gSeq A.K k gs) d ρ n P := fun S H σ v e r Q q => by
  rcases hd with hd | hd
  · subst hd
    obtain ⟨a, vs, rfl, h1, h2⟩ := r.lst_inv
    exact Or.inr ⟨a, vs, rfl, Evl.sq_of (e.f.sub _ _ h1), by rw [h2.length]; exact hk, h S H σ vs e h2 Q q⟩
  · subst hd
    obtain ⟨a, vs, rfl, h1, h2⟩ := r.tup_inv
    exact Or.inl ⟨a, vs, rfl, Evl.st_of (e.f.sub _ _ h1), by rw [h2.length]; exact hk, h S H σ vs e h2 Q q⟩
theorem gw_seq {K : PySem.W.Frag} {gs : TGs} {vs : List Nat} {k : Nat} (hs : GWs gs vs) : GW (gSeq K k gs) vs := fun v σ H Q q => by
  rcases q with ⟨a, xs, e, h1, h2, q⟩ | ⟨a, xs, e, h1, h2, q⟩
  · exact Or.inl ⟨a, xs, e, h1, h2, hs xs σ H Q q⟩
  · exact Or.inr ⟨a, xs, e, h1, h2, hs xs σ H Q q⟩
theorem di_seq {P : List D → Nat → Prop} (h : DE A te ρ n fun d m => ∃ ds, (d = .lst ds ∨ d = .tup ds) ∧ P ds m) : DI A (iSeq A.K te) ρ n P := fun S H σ e R q =>
  h S H σ e _ fun v d S1 H1 n1 m1 f1 r1 ⟨ds, hd, p⟩ => by
    rcases hd with hd | hd
    · subst hd
      obtain ⟨a, vs, rfl, h1, h2⟩ := r1.lst_inv
      refine ⟨a, rfl, Or.inl ⟨⟨vs, Evl.sq_of (f1.sub _ _ h1)⟩, q _ ds S1 H1 n1 _ _ m1 f1 (by rw [← h2.length]; exact walk_list) (fun S2 H2 m x f => Evl.sq_of ((x.trans f.sub) _ _ h1)) (fun i S2 H2 x H3 m hi ex f y => ?_) p⟩⟩
      obtain ⟨rfl, hx⟩ := y
      obtain ⟨d, g1, g2⟩ := h2.getV hx
      exact ⟨S2, d, g1, Mv.refl, f, g2.mono ex⟩
    · subst hd
      obtain ⟨a, vs, rfl, h1, h2⟩ := r1.tup_inv
      refine ⟨a, rfl, Or.inr ⟨⟨vs, Evl.st_of (f1.sub _ _ h1)⟩, q _ ds S1 H1 n1 _ _ m1 f1 (by rw [← h2.length]; exact walk_tup) (fun S2 H2 m x f => Evl.st_of ((x.trans f.sub) _ _ h1)) (fun i S2 H2 x H3 m hi ex f y => ?_) p⟩⟩
      obtain ⟨rfl, hx⟩ := y
      obtain ⟨d, g1, g2⟩ := h2.getV hx
      exact ⟨S2, d, g1, Mv.refl, f, g2.mono ex⟩
theorem DR.of_fresh {r : R2} {x y : D} {P : D → Nat → Prop} (h : DRF A r x y n fun ds m => P (.lst ds) m) : DR A r x y n P := fun S H v w f r1 r2 Q q =>
  h S H v w f r1 r2 Q fun a vs ds S' H' n' m f' hn hh hs r p => by
    have h0 : A.H0 a = none := f.h0 hn
    have ex : Ex S' (upd S' a (.lst vs)) := fun x u y => by rw [upd_ne (ne_of_none y hs)]; exact y
    have m' : Mv A.b S H (upd S' a (.lst vs)) H' := by
      refine ⟨m.ss.trans ex, fun a o x y nt => m.fr a o x y nt, m.tb, fun x y z => ?_⟩
      have ne : x ≠ a := fun w => y (by rw [w]; exact hn)
      rw [upd_ne ne]; exact m.sep x y z
    exact q (.ref a) (.lst ds) _ H' n' m' (f'.freeze hh hs h0) (Rep.lst upd_same (r.mono ex)) p
theorem dr_plusI {i j : Int} {P : D → Nat → Prop} (p : P (.int (i + j)) n) : DR A (rPlus A.K) (.int i) (.int j) n P := fun S H v w f r1 r2 Q q => Or.inl (dr_add p S H v w f r1 r2 Q q)
theorem dr_plusL {xs ys : List D} {P : D → Nat → Prop} (hl : xs.length + ys.length ≤ 100000) (p : P (.lst (xs ++ ys)) n) : DR A (rPlus A.K) (.lst xs) (.lst ys) n P := fun S H v w f r1 r2 Q q =>
  Or.inr (Or.inl (DR.of_fresh (drf_cat (P := fun ds m => P (.lst ds) m) hl p) S H v w f r1 r2 Q q))
theorem drf_plusL {xs ys : List D} {P : List D → Nat → Prop} (hl : xs.length + ys.length ≤ 100000) (p : P (xs ++ ys) n) : DRF A (rPlus A.K) (.lst xs) (.lst ys) n P := fun S H v w f r1 r2 Q q =>
  Or.inr (Or.inl (drf_cat hl p S H v w f r1 r2 Q q))
theorem dr_plusT {xs ys : List D} {P : D → Nat → Prop} (hl : xs.length + ys.length ≤ 100000) (p : P (.tup (xs ++ ys)) n) : DR A (rPlus A.K) (.tup xs) (.tup ys) n P := fun S H v w f r1 r2 Q q => by
  obtain ⟨a, vs, rfl, h1, h2⟩ := r1.tup_inv
  obtain ⟨b, ws, rfl, h3, h4⟩ := r2.tup_inv
  have hx := h2.length
  have hy := h4.length
  refine Or.inr (Or.inr (Or.inl ⟨a, b, vs, ws, rfl, rfl, Evl.st_of (f.sub _ _ h1), Evl.st_of (f.sub _ _ h3), Evl.sz_of (by rw [hx, hy]; exact hl), fun e => ?_, fun e1 e2 => ?_, fun e1 e2 t ht => ?_⟩))
  · subst e
    have : xs = [] := by cases xs with | nil => rfl | cons _ _ => simp at hx
    subst this
    exact q _ _ S H n Mv.refl f (Rep.tup h3 h4) p
  · subst e2
    have : ys = [] := by cases ys with | nil => rfl | cons _ _ => simp at hy
    subst this
    rw [List.append_nil] at p
    exact q _ _ S H n Mv.refl f (Rep.tup h1 h2) p
  · exact q _ _ _ _ n (Mv.new f.sub ht) (f.new ht) (Rep.tup upd_same ((h2.append h4).mono (Mv.new (b := A.b) f.sub ht).ss)) p
theorem dr_plusS {i j : Str} {P : D → Nat → Prop} (hl : i.length + j.length ≤ 100000) (p : P (.str (i ++ j)) n) : DR A (rPlus A.K) (.str i) (.str j) n P := fun S H v w f r1 r2 Q q => by
  cases r1.str_inv; cases r2.str_inv
  exact Or.inr (Or.inr (Or.inr ⟨i, j, rfl, rfl, Evl.sz_of hl, q _ _ S H n Mv.refl f Rep.str p⟩))
theorem dr_timesI {i j : Int} {P : D → Nat → Prop} (hc : CMul i j) (p : P (.int (i * j)) n) : DR A rTimes (.int i) (.int j) n P := fun S H v w f r1 r2 Q q => Or.inl (dr_mul hc p S H v w f r1 r2 Q q)
theorem dr_timesW {i j : Int} {P : D → Nat → Prop} (hc : CMulW i j) (p : P (.int (i * j)) n) : DR A rTimes (.int i) (.int j) n P := fun S H v w f r1 r2 Q q => Or.inr (Or.inl (dr_mulW hc p S H v w f r1 r2 Q q))
theorem Reps.rep {K : PySem.W.Frag} {S : Hp} {vs : List V} {ds : List D} (r : Reps K S vs ds) : ∀ m : Nat, Reps K S (List.replicate m vs).flatten (List.replicate m ds).flatten
  | 0 => by simpa using Reps.nil
  | m + 1 => by
    rw [List.replicate_succ, List.replicate_succ, List.flatten_cons, List.flatten_cons]
    exact r.append (Reps.rep r m)
end
end DL
namespace DL
open PySem PySem.Spec PyProof.Rows L2 Evl
/-- the inner loop of a comprehension of two clauses, over a walk -/
theorem in_it {J : It} {n : Nat} {G : Hp → Prop} {Y : Nat → Hp → V → Hp → Prop} (w : Walk J n G Y) {H0 : Hp} {Qd : Hp → Prop} {step : Nat → (Hp → Prop) → V → Hp → Prop} (Pv : Nat → Hp → Prop) (h0 : Pv 0 H0) (hG : ∀ i H, i ≤ n → Pv i H → G H)
    (hs : ∀ i x H H', i < n → Pv i H → Y i H x H' → step i (Pv (i + 1)) x H') (hd : ∀ H, Pv n H → Qd H) :
    ∃ W : Nat → Nat → Hp → Prop, (∃ m, W 0 m H0) ∧ ∀ i m H, W i m H → (J.stop i H ∧ Qd H) ∨ (J.go i H ∧ ∃ Nx : Hp → Prop, (∀ H', Nx H' → ∃ m', m' < m ∧ W (i + 1) m' H') ∧ ∀ x H', J.yld i H x H' → step i Nx x H') := by
  refine ⟨fun i m H => m = n - i ∧ i ≤ n ∧ Pv i H, ⟨n, by simp, Nat.zero_le _, h0⟩, ?_⟩
  rintro i m H ⟨rfl, hi, p⟩
  have q := hG i H hi p
  by_cases hlt : i < n
  · refine .inr ⟨w.goes i H hlt q, Pv (i + 1), fun H' p' => ⟨n - (i + 1), by omega, rfl, hlt, p'⟩, fun x H' y => ?_⟩
    exact hs i x H H' hlt p (w.yields i H x H' hlt q y)
  · obtain rfl : i = n := by omega
    exact .inl ⟨w.stops H q, hd H p⟩
section
variable {A : Amb} {te ta tb : TE} {tt tt1 : TT} {wi wi1 : TI} {g g1 : TG} {ρ : Rho} {n : Nat}
/-- [e for x in xs if t for y in ys if u] -/
theorem df_lc2 {vs vs1 : List Nat} {P : List D → Nat → Prop} (gw : GW g vs) (gw1 : GW g1 vs1)
    (h : DI A wi ρ n fun ds n1 => ∃ I : Nat → List D → Nat → Prop, I 0 [] n1 ∧ (∀ i d acc n', ds[i]? = some d → I i acc n' →
      DG A g d (wipeR ρ vs) n' fun ρ2 => DT A tt ρ2 n' fun b n2 => if b = true then DI A wi1 ρ2 n2 (fun ds1 n3 => ∃ I1 : Nat → List D → Nat → Prop, I1 0 acc n3 ∧
        (∀ j d1 acc1 n4, ds1[j]? = some d1 → I1 j acc1 n4 → DG A g1 d1 (wipeR ρ2 vs1) n4 fun ρ3 => DT A tt1 ρ3 n4 fun b1 n5 => if b1 = true then DE A te ρ3 n5 (fun y n6 => acc1.length < 100000 ∧ I1 (j + 1) (acc1 ++ [y]) n6) else I1 (j + 1) acc1 n5) ∧
        ∀ acc1 n4, I1 ds1.length acc1 n4 → I (i + 1) acc1 n4) else I (i + 1) acc n2) ∧ ∀ acc n', I ds.length acc n' → P acc n') :
    DF A (tLc2 wi g tt wi1 g1 tt1 te vs vs1) ρ n P := fun S H σ e Q q =>
  h S H σ e _ fun J ds S1 H1 n1 G Y m1 f1 w hG hY ⟨I, i0, istep, iend⟩ => fun L hL => by
    have hL0 : H L = none := by
      cases z : H L with
      | none => rfl
      | some o => exact absurd hL (m1.there f1.bt (by rw [z]; exact fun y => nomatch y))
    have hS1 : S1 L = none := f1.s0 hL
    have h0L : A.H0 L = none := f1.h0 hL
    have nb : some L ≠ A.b := fun z => (f1.box L z.symm).2.2 h0L
    have nH : ∀ {S' H' S'' H'' : Hp} {v : List V}, Mv A.b S' H' S'' H'' → H' L = some (.lst v) → S' L = none → H'' L = some (.lst v) ∧ S'' L = none := fun m a b => ⟨m.fr L _ nb a, m.sep L (by rw [a]; exact fun z => nomatch z) b⟩
    -- the state of the list while it grows
    let St : List D → Nat → Hp → Hp → Prop := fun acc n' S' H' => ∃ vacc, Ex S1 S' ∧ Mv A.b S1 H1 S' H' ∧ Fr A n' S' H' ∧ H' L = some (.lst vacc) ∧ S' L = none ∧ Reps A.K S' vacc acc
    have St.go : ∀ {acc n' n'' S' H' S'' H''}, St acc n' S' H' → Mv A.b S' H' S'' H'' → Fr A n'' S'' H'' → St acc n'' S'' H'' := fun {acc n' n'' S' H' S'' H''} ⟨va, x1, x2, x3, x4, x5, x6⟩ m f =>
      ⟨va, x1.trans m.ss, x2.trans x3.bt m, f, (nH m x4 x5).1, (nH m x4 x5).2, x6.mono m.ss⟩
    have St.er : ∀ {acc n' S' H'}, St acc n' S' H' → ER A n' S' H' σ ρ := fun ⟨va, x1, x2, x3, _⟩ => (e.mv m1 f1).mv x2 x3
    have St.put : ∀ {acc n' S' H' y dy}, St acc n' S' H' → Rep A.K S' y dy → ∃ va, H' L = some (.lst va) ∧ va.length = acc.length ∧ St (acc ++ [dy]) n' S' (upd H' L (.lst (va ++ [y]))) := fun {acc n' S' H' y dy} ⟨va, x1, x2, x3, x4, x5, x6⟩ r =>
      ⟨va, x4, x6.length, va ++ [y], x1, ⟨x2.ss, fun a o hb ha nt => by rw [upd_ne (ne_of_none ha hL)]; exact x2.fr a o hb ha nt, fun a ps ha => by rw [upd_ne (ne_of_none ha hL)]; exact x2.tb a ps ha, x2.sep⟩, x3.put x5 h0L ⟨_, x4⟩, upd_same, x5, x6.append (Reps.one r)⟩
    have key : ∀ (Qd : Hp → Prop), (∀ (H' : Hp), (∃ S' n' acc, St acc n' S' H' ∧ I ds.length acc n') → Qd H') → _ := fun Qd hd =>
      in_it (Qd := Qd) (step := fun i Nx x H' => g x (wipe σ vs) H' fun σ2 H2 => wipe σ2 vs = wipe σ vs ∧ tt σ2 H2 fun b H3 =>
        if b = true then wi1 σ2 H3 fun J1 H4 => ∃ W1 : Nat → Nat → Hp → Prop, (∃ m, W1 0 m H4) ∧ ∀ j k H, W1 j k H →
          (J1.stop j H ∧ Nx H) ∨ (J1.go j H ∧ ∃ Nx1 : Hp → Prop, (∀ H', Nx1 H' → ∃ k', k' < k ∧ W1 (j + 1) k' H') ∧ ∀ x H', J1.yld j H x H' → g1 x (wipe σ2 vs1) H' fun σ3 H5 => wipe σ3 vs1 = wipe σ2 vs1 ∧ tt1 σ3 H5 fun b H6 =>
            if b = true then te σ3 H6 fun y H7 => ∃ acc, H7 L = some (.lst acc) ∧ acc.length < sizeLine ∧ Nx1 (upd H7 L (.lst (acc ++ [y]))) else Nx1 H6)
        else Nx H3) w (fun i H' => ∃ S' n' acc, St acc n' S' H' ∧ I i acc n')
        ⟨S1, n1, [], ⟨[], Ex.refl _, Mv.newO hL, f1.newO hL, upd_same, hS1, Reps.nil⟩, i0⟩ (fun i H' _ ⟨S', n', acc, s, _⟩ => let ⟨va, x1, x2, x3, _⟩ := s; hG S' H' n' x1 x3) (by
          rintro i x H' H3 hi ⟨S', n', acc, s, p⟩ y
          obtain ⟨va, x1, x2, x3, _⟩ := id s
          obtain ⟨S3, d, hdd, m3, f3, r3⟩ := hY i S' H' x H3 n' hi x1 x3 y
          have s3 := St.go s m3 f3
          have z := gw x (wipe σ vs) H3 (fun σ2 H2 => tt σ2 H2 fun b H3 =>
            if b = true then wi1 σ2 H3 fun J1 H4 => ∃ W1 : Nat → Nat → Hp → Prop, (∃ m, W1 0 m H4) ∧ ∀ j k H, W1 j k H →
              (J1.stop j H ∧ (∃ S' n' acc, St acc n' S' H ∧ I (i + 1) acc n')) ∨ (J1.go j H ∧ ∃ Nx1 : Hp → Prop, (∀ H', Nx1 H' → ∃ k', k' < k ∧ W1 (j + 1) k' H') ∧ ∀ x H', J1.yld j H x H' → g1 x (wipe σ2 vs1) H' fun σ3 H5 => wipe σ3 vs1 = wipe σ2 vs1 ∧ tt1 σ3 H5 fun b H6 =>
                if b = true then te σ3 H6 fun y H7 => ∃ acc, H7 L = some (.lst acc) ∧ acc.length < sizeLine ∧ Nx1 (upd H7 L (.lst (acc ++ [y]))) else Nx1 H6)
            else (∃ S' n' acc, St acc n' S' H3 ∧ I (i + 1) acc n')) ?_
          · rw [wipe_wipe] at z
            exact z
          refine istep i d acc n' hdd p S3 H3 _ x ((St.er s3).wipe vs) r3 _ fun σ2 ρ2 e2 ow2 p2 => ?_
          refine p2 S3 H3 σ2 e2 _ fun b S4 H4 n4 m4 f4 p4 => ?_
          have s4 := St.go s3 m4 f4
          cases b with
          | false =>
            rw [if_neg Bool.false_ne_true] at p4 ⊢
            exact ⟨S4, n4, acc, s4, p4⟩
          | true =>
            rw [if_pos rfl] at p4 ⊢
            have e4 := e2.mv m4 f4
            refine p4 S4 H4 σ2 e4 _ fun J1 ds1 S5 H5 n5 G1 Y1 m5 f5 w1 hG1 hY1 ⟨I1, j0, jstep, jend⟩ => ?_
            have s5 := St.go s4 m5 f5
            have e5 := e4.mv m5 f5
            refine in_it (step := fun j Nx1 x H' => g1 x (wipe σ2 vs1) H' fun σ3 H5 => wipe σ3 vs1 = wipe σ2 vs1 ∧ tt1 σ3 H5 fun b H6 =>
              if b = true then te σ3 H6 fun y H7 => ∃ acc, H7 L = some (.lst acc) ∧ acc.length < sizeLine ∧ Nx1 (upd H7 L (.lst (acc ++ [y]))) else Nx1 H6) w1
              (fun j H' => ∃ S' n' acc1, Ex S5 S' ∧ ER A n' S' H' σ2 ρ2 ∧ St acc1 n' S' H' ∧ I1 j acc1 n') ⟨S5, n5, acc, Ex.refl _, e5, s5, j0⟩ (fun j H' _ ⟨S', n', acc1, x, e', _⟩ => hG1 S' H' n' x e'.f) ?_ ?_
            · rintro j x6 H6 H7 hj ⟨S6, n6, acc1, ex6, e6, s6, pj⟩ y6
              obtain ⟨S7, d7, hd7, m7, f7, r7⟩ := hY1 j S6 H6 x6 H7 n6 hj ex6 e6.f y6
              have e7 := e6.mv m7 f7
              have s7 := St.go s6 m7 f7
              have z1 := gw1 x6 (wipe σ2 vs1) H7 (fun σ3 H5 => tt1 σ3 H5 fun b H6 =>
                if b = true then te σ3 H6 fun y H7 => ∃ acc, H7 L = some (.lst acc) ∧ acc.length < sizeLine ∧ (∃ S' n' acc1, Ex S5 S' ∧ ER A n' S' (upd H7 L (.lst (acc ++ [y]))) σ2 ρ2 ∧ St acc1 n' S' (upd H7 L (.lst (acc ++ [y]))) ∧ I1 (j + 1) acc1 n')
                else (∃ S' n' acc1, Ex S5 S' ∧ ER A n' S' H6 σ2 ρ2 ∧ St acc1 n' S' H6 ∧ I1 (j + 1) acc1 n')) ?_
              · rw [wipe_wipe] at z1
                exact z1
              refine jstep j d7 acc1 n6 hd7 pj S7 H7 _ x6 (e7.wipe vs1) r7 _ fun σ3 ρ3 e8 _ p8 => ?_
              refine p8 S7 H7 σ3 e8 _ fun b1 S9 H9 n9 m9 f9 p9 => ?_
              have s9 := St.go s7 m9 f9
              cases b1 with
              | false =>
                rw [if_neg Bool.false_ne_true] at p9 ⊢
                exact ⟨S9, n9, acc1, ex6.trans (m7.ss.trans m9.ss), e7.mv m9 f9, s9, p9⟩
              | true =>
                rw [if_pos rfl] at p9 ⊢
                refine p9 S9 H9 σ3 (e8.mv m9 f9) _ fun yv dy S10 H10 n10 m10 f10 r10 ⟨hl10, p10⟩ => ?_
                have s10 := St.go s9 m10 f10
                have e10 := (e7.mv m9 f9).mv m10 f10
                obtain ⟨va10, hh10, hln, s11⟩ := St.put s10 r10
                obtain ⟨_, y1, y2, y3, y4, y5, y6⟩ := id s10
                refine ⟨va10, hh10, Evl.sz_lt (by rw [hln]; exact hl10), S10, n10, acc1 ++ [dy], ex6.trans (m7.ss.trans (m9.ss.trans m10.ss)), ?_, s11, p10⟩
                -- the slots hold no word of the list that grows
                refine ⟨f10.put y5 h0L ⟨_, hh10⟩, e10.len, fun i s hi => ?_, e10.ap⟩
                obtain ⟨o, g1', g2'⟩ := e10.sl i s hi
                refine ⟨o, g1', ?_⟩
                cases s with
                | un => trivial
                | val d => exact g2'
                | own es =>
                  obtain ⟨a, ws, k1, k2, k3, k4, k5⟩ := g2'
                  obtain ⟨z1, z2⟩ := ((OwnIn.wipe vs).trans ow2) i es hi
                  obtain ⟨a', ws', z3, z4, _⟩ := e.own z1
                  rw [← z2, g1', k1] at z3
                  cases z3
                  have ne : a ≠ L := ne_of_none z4 hL0
                  exact ⟨a, ws, k1, by rw [upd_ne ne]; exact k2, k3, k4, k5⟩
                | dic kvs =>
                  obtain ⟨a, ks, k1, k2, k3, k4, k5⟩ := g2'
                  have ne : a ≠ L := fun z => by
                    subst z
                    rw [hh10] at k2
                    cases k2
                  exact ⟨a, ks, k1, by rw [upd_ne ne]; exact k2, k3, k4, k5⟩
                | nd kvs =>
                  obtain ⟨a, ks, k1, k2, k3, k4, k5⟩ := g2'
                  have ne : a ≠ L := fun z => by
                    subst z
                    rw [hh10] at k2
                    cases k2
                  exact ⟨a, ks, k1, by rw [upd_ne ne]; exact k2, k3, k4, k5⟩
            · rintro H' ⟨S', n', acc1, ex', e', s', pj⟩
              exact ⟨S', n', acc1, s', jend acc1 n' pj⟩) hd
    refine key _ fun H' ⟨S', n', acc, ⟨vacc, x1, x2, x3, x4, x5, x6⟩, p⟩ => ?_
    exact q L vacc acc S' H' n' (m1.trans f1.bt x2) x3 hL0 x4 x5 x6 (iend acc n' p)
end
end DL
namespace DL
open PySem PySem.Spec PyProof.Rows L2 Evl
/-! ### the rules with the written part named -/
section
variable {X : Cx} {pos : Pos} {tg : Expr}
theorem kx_ix (K : PySem.W.Frag) (h : X.K = K := by rfl) : IxR X (rIx K) := h ▸ ix_seq
theorem kx_plus (K : PySem.W.Frag) (h : X.K = K := by rfl) : OpR X (binaryOp .Add) (rPlus K) := h ▸ op_plus
theorem kx_in (K : PySem.W.Frag) (h : X.K = K := by rfl) : OpR X (compareOp .In) (rIn K false) := h ▸ op_in_seq
theorem kx_notin (K : PySem.W.Frag) (h : X.K = K := by rfl) : OpR X (compareOp .NotIn) (rIn K true) := h ▸ op_notIn_seq
theorem kx_sl (K : PySem.W.Frag) (h : X.K = K := by rfl) : SlR X (rSlice K) := h ▸ sl_seq
def rLen (K : PySem.W.Frag) : List V → Hp → VK → Prop := fun xs H Q => ∃ p ys, xs = [.ref p] ∧ (SqL K H p ys ∨ SqT K H p ys) ∧ Q (.int ys.length) H
theorem kx_len (K : PySem.W.Frag) (h : X.K = K := by rfl) : CallR X (.builtin "len") (rLen K) := h ▸ call_len_seq
def rList (K : PySem.W.Frag) : List V → Hp → VK → Prop := fun xs H Q => ∃ p ys, xs = [.ref p] ∧ (SqL K H p ys ∨ SqT K H p ys) ∧ ∀ l, H l = none → Q (.ref l) (upd H l (.lst ys))
theorem kx_list (K : PySem.W.Frag) (h : X.K = K := by rfl) : CallR X (.type "list") (rList K) := h ▸ call_list_of
def rTuple (K : PySem.W.Frag) : List V → Hp → VK → Prop := fun xs H Q => ∃ p ys, xs = [.ref p] ∧ ((SqL K H p ys ∧ ∀ l, H l = none → Q (.ref l) (upd H l (.tup ys))) ∨ (SqT K H p ys ∧ Q (.ref p) H))
theorem kx_tuple (K : PySem.W.Frag) (h : X.K = K := by rfl) : CallR X (.type "tuple") (rTuple K) := h ▸ call_tuple_of
theorem kx_all (K : PySem.W.Frag) (hc : X.calm = true := by rfl) (h : X.K = K := by rfl) : CallR X (.builtin "all") (rAll K) := h ▸ cr_all hc
theorem kx_any (K : PySem.W.Frag) (hc : X.calm = true := by rfl) (h : X.K = K := by rfl) : CallR X (.builtin "any") (rAny K) := h ▸ cr_any hc
theorem kx_sum (K : PySem.W.Frag) (hc : X.calm = true := by rfl) (h : X.K = K := by rfl) : CallR X (.builtin "sum") (rSum K) := h ▸ cr_sum hc
theorem kx_sortedPO (K : PySem.W.Frag) (h : X.K = K := by rfl) : CallR X (.builtin "sorted") (rSortedPO K) := h ▸ cr_sortedPO
theorem kx_isi (K : PySem.W.Frag) (h : X.K = K := by rfl) : CallR X (.builtin "isinstance") (rIsi K) := h ▸ call_isi
theorem kx_isiT (K : PySem.W.Frag) (h : X.K = K := by rfl) : CallR X (.builtin "isinstance") (rIsiT K) := h ▸ call_isiT
theorem kp_seq (K : PySem.W.Frag) {l : Expr} {tl : TE} (hl : PE X l tl) (h : X.K = K := by rfl) : PI X tg l (iSeq K tl) := h ▸ pi_seq hl
theorem kg_seq (K : PySem.W.Frag) {es : List Expr} {k : Nat} {t : TGs} {n : Nat} (hc : X.calm = true) (h : PGs X es t) (hK : X.K = K := by rfl) (hn : (assignEach es X.env).length = n := by rfl) (hst : (assignEach es X.env).findIdx? (·.1) = none := by rfl) : PG X (.Tuple es k pos) (gSeq K n t) := hK ▸ pg_seq hc h hn hst
theorem kp_zip (K : PySem.W.Frag) {e e2 : Expr} {ta : TA} {p tpos : Pos} {elts : List Expr} {kk : Nat} (hm : X.mg "zip" = none) (ha : PA X [e, e2] ta) (hg : Gl X "zip" := by rfl) (h : X.K = K := by rfl) (hs : starEach [e, e2] X.env = (false, eval e X.env) :: starEach [e2] X.env := by rfl) (hpl : (backTo pos (starEach [e2] X.env)).any (·.1) = false := by rfl) :
    PI X (.Tuple elts kk tpos) (.Call (.Name "zip" p) [e, e2] [] pos) (RZ.iZipA K ta) := h ▸ RZ.pi_zipA hg hm ha hs hpl
/-- == and != of scalars or of data -/
def rEqA (K : PySem.W.Frag) : R2 := fun x y H Q => rEq x y H Q ∨ rEqD K x y H Q
def rNeA (K : PySem.W.Frag) : R2 := fun x y H Q => rNe x y H Q ∨ rNeD K x y H Q
theorem kx_eq (K : PySem.W.Frag) (hu : X.A.units + 64 < cLine) (h : X.K = K := by rfl) : OpR X (compareOp .Eq) (rEqA K) := h ▸ op_eq.or (op_eqD hu)
theorem kx_ne (K : PySem.W.Frag) (hu : X.A.units + 64 < cLine) (h : X.K = K := by rfl) : OpR X (compareOp .NotEq) (rNeA K) := h ▸ op_ne.or (op_neD hu)
/-- repr of data -/
def rRepr (K : PySem.W.Frag) : List V → Hp → VK → Prop := fun xs H Q => ∃ x d, xs = [x] ∧ Dp K H x d ∧ d.showable = true ∧ d.hasDict = false ∧ d.depth ≤ 60 ∧ d.shown.length ≤ sizeLine ∧ Q (.str d.shown) H
theorem kx_repr (K : PySem.W.Frag) (gd : X.A.guards = some []) (hu : X.A.units + 64 < cLine) (h : X.K = K := by rfl) : CallR X (.builtin "repr") (rRepr K) := by
  subst h
  intro pins s σ H xs us Q I r q
  obtain ⟨x, d, rfl, hd, hs, hno, hdep, hz, q⟩ := q
  obtain ⟨u, rfl, ru⟩ := vals1 r
  have fin : ∀ {h' : Heap} {t tk : Nat}, (∀ b o, s.heap.get? b = some o → h'.get? b = some o) → EP X pins σ Q (.str d.shown t) { s with heap := h', toks := tk } := fun {h' t tk} k => ⟨.str d.shown, H, I.kept k, ⟨_, rfl⟩, q⟩
  cases hd with
  | non =>
    cases (show u = Value.none from ru)
    exact PySem.P.repr_of_none (fin fun _ _ e => e)
  | bl b =>
    cases (show u = Value.bool b from ru)
    exact PySem.P.repr_of_bool (fin fun _ _ e => e)
  | int i =>
    obtain ⟨t, rfl⟩ := (show ∃ t, u = Value.int i t from ru)
    exact PySem.P.repr_of_int (of_decide_eq_true hs) (fin fun _ _ e => e)
  | str z =>
    obtain ⟨t, rfl⟩ := (show ∃ t, u = Value.str z t from ru)
    exact PySem.P.repr_of_str (fin fun _ _ e => e) hz
  | @lst a vs ds h1 h2 =>
    cases (show u = Value.ref a from ru)
    obtain ⟨as, rd⟩ := Dp.reads I _ _ _ (Dp.lst h1 h2) rfl
    exact PySem.repr_of_reads' rd hs (fun e => by rw [hno] at e; cases e) gd (by omega) (fun _ _ e => e) (fun h' t tk k => fin k) hz
  | @tup a vs ds h1 h2 =>
    cases (show u = Value.ref a from ru)
    obtain ⟨as, rd⟩ := Dp.reads I _ _ _ (Dp.tup h1 h2) rfl
    exact PySem.repr_of_reads' rd hs (fun e => by rw [hno] at e; cases e) gd (by omega) (fun _ _ e => e) (fun h' t tk k => fin k) hz
end
mutual
def toP : D → PyData
  | .non => .none
  | .bl b => .bool b
  | .int i => .int i
  | .str s => .str s
  | .lst xs => .list (toPs xs)
  | .tup xs => .tuple (toPs xs)
  | .raw _ => .none
  | .exc _ _ => .none
def toPs : List D → List PyData
  | [] => []
  | d :: ds => toP d :: toPs ds
end
mutual
/-- data all through -/
def pureD : D → Bool
  | .raw _ => false
  | .exc _ _ => false
  | .lst xs => pureDs xs
  | .tup xs => pureDs xs
  | _ => true
def pureDs : List D → Bool
  | [] => true
  | d :: ds => pureD d && pureDs ds
end
mutual
theorem rep_dp {K : PySem.W.Frag} {S H : Hp} (ex : Ex S H) : ∀ (d : D) (v : V), pureD d = true → Rep K S v d → Dp K H v (toP d)
  | .non, _, _, r => by rw [r.non_inv]; exact Dp.non
  | .bl b, _, _, r => by rw [r.bl_inv]; exact Dp.bl b
  | .int b, _, _, r => by rw [r.int_inv]; exact Dp.int b
  | .str b, _, _, r => by rw [r.str_inv]; exact Dp.str b
  | .lst xs, _, h, r => by
    obtain ⟨a, vs, rfl, h1, h2⟩ := r.lst_inv
    exact Dp.lst (Evl.sq_of (ex _ _ h1)) (reps_dp ex xs vs h h2)
  | .tup xs, _, h, r => by
    obtain ⟨a, vs, rfl, h1, h2⟩ := r.tup_inv
    exact Dp.tup (Evl.st_of (ex _ _ h1)) (reps_dp ex xs vs h h2)
  | .raw _, _, h, _ => nomatch h
  | .exc _ _, _, h, _ => nomatch h
theorem reps_dp {K : PySem.W.Frag} {S H : Hp} (ex : Ex S H) : ∀ (ds : List D) (vs : List V), pureDs ds = true → Reps K S vs ds → DpAll K H vs (toPs ds)
  | [], _, _, r => by
    unfold Reps at r
    subst r
    exact DpAll.nil
  | d :: ds, _, h, r => by
    obtain ⟨v, r', rfl, r1, r2⟩ := r.uncons
    have hh : pureD d = true ∧ pureDs ds = true := Bool.and_eq_true_iff.mp h
    exact DpAll.cons (rep_dp ex d v hh.1 r1) (reps_dp ex ds r' hh.2 r2)
end
/-- may be compared, and shown -/
def okD (d : D) : Bool := pureD d && SeqAt.shaped (toP d)
section
variable {A : Amb} {te ta tb : TE} {tt tu : TT} {tr tk : TA} {ts : TS} {wi : TI} {g : TG} {ρ : Rho} {n k : Nat} {T : DEnds}
theorem dr_eqAI {i j : Int} {P : D → Nat → Prop} (p : P (.bl (decide (i = j))) n) : DR A (rEqA A.K) (.int i) (.int j) n P := fun S H v w f r1 r2 Q q => Or.inl (dr_eqI p S H v w f r1 r2 Q q)
theorem dr_neAI {i j : Int} {P : D → Nat → Prop} (p : P (.bl (!decide (i = j))) n) : DR A (rNeA A.K) (.int i) (.int j) n P := fun S H v w f r1 r2 Q q => Or.inl (dr_neI p S H v w f r1 r2 Q q)
theorem dr_eqAB {i j : Bool} {P : D → Nat → Prop} (p : P (.bl (i == j)) n) : DR A (rEqA A.K) (.bl i) (.bl j) n P := fun S H v w f r1 r2 Q q => Or.inl (dr_eqB p S H v w f r1 r2 Q q)
theorem dr_neAB {i j : Bool} {P : D → Nat → Prop} (p : P (.bl (i != j)) n) : DR A (rNeA A.K) (.bl i) (.bl j) n P := fun S H v w f r1 r2 Q q => Or.inl (dr_neB p S H v w f r1 r2 Q q)
theorem dr_eqAD {x y : D} {P : D → Nat → Prop} (hx : okD x = true) (hy : okD y = true) (p : P (.bl (PyData.eqv (toP x) (toP y))) n) : DR A (rEqA A.K) x y n P := fun S H v w f r1 r2 Q q => by
  have a := Bool.and_eq_true_iff.mp hx
  have b := Bool.and_eq_true_iff.mp hy
  exact Or.inr ⟨toP x, toP y, rep_dp f.sub x v a.1 r1, rep_dp f.sub y w b.1 r2, a.2, b.2, q _ _ S H n Mv.refl f Rep.bl p⟩
theorem dr_neAD {x y : D} {P : D → Nat → Prop} (hx : okD x = true) (hy : okD y = true) (p : P (.bl (!PyData.eqv (toP x) (toP y))) n) : DR A (rNeA A.K) x y n P := fun S H v w f r1 r2 Q q => by
  have a := Bool.and_eq_true_iff.mp hx
  have b := Bool.and_eq_true_iff.mp hy
  exact Or.inr ⟨toP x, toP y, rep_dp f.sub x v a.1 r1, rep_dp f.sub y w b.1 r2, a.2, b.2, q _ _ S H n Mv.refl f Rep.bl p⟩
/-- the same data -/
theorem dr_eqSame {x : D} {P : D → Nat → Prop} (hx : okD x = true) (p : P (.bl true) n) : DR A (rEqA A.K) x x n P := dr_eqAD hx hx (by
  have a := (Bool.and_eq_true_iff.mp hx).2
  rw [SeqAt.eqv_refl _ (SeqAt.canLay_of_shaped a)]
  exact p)
theorem dr_neSame {x : D} {P : D → Nat → Prop} (hx : okD x = true) (p : P (.bl false) n) : DR A (rNeA A.K) x x n P := dr_neAD hx hx (by
  have a := (Bool.and_eq_true_iff.mp hx).2
  rw [SeqAt.eqv_refl _ (SeqAt.canLay_of_shaped a)]
  exact p)
theorem dr_eqAS {i j : Str} {P : D → Nat → Prop} (p : P (.bl (decide (i = j))) n) : DR A (rEqA A.K) (.str i) (.str j) n P := fun S H v w f r1 r2 Q q => by
  cases r1.str_inv; cases r2.str_inv
  refine Or.inl ⟨rfl, q _ _ S H n Mv.refl f ?_ p⟩
  have e : decide ((V.str i) = V.str j) = decide (i = j) := by
    by_cases h : i = j
    · subst h; simp
    · have : ¬ (V.str i) = V.str j := fun z => h (V.str.inj z)
      rw [decide_eq_false h, decide_eq_false this]
  rw [e]; exact Rep.bl
theorem dr_neAS {i j : Str} {P : D → Nat → Prop} (p : P (.bl (!decide (i = j))) n) : DR A (rNeA A.K) (.str i) (.str j) n P := fun S H v w f r1 r2 Q q => by
  cases r1.str_inv; cases r2.str_inv
  refine Or.inl ⟨rfl, q _ _ S H n Mv.refl f ?_ p⟩
  have e : decide ((V.str i) = V.str j) = decide (i = j) := by
    by_cases h : i = j
    · subst h; simp
    · have : ¬ (V.str i) = V.str j := fun z => h (V.str.inj z)
      rw [decide_eq_false h, decide_eq_false this]
  rw [e]; exact Rep.bl
/-- repr(e) -/
theorem de_repr {P : D → Nat → Prop} (h : DE A te ρ n fun d m => pureD d = true ∧ (toP d).showable = true ∧ (toP d).hasDict = false ∧ (toP d).depth ≤ 60 ∧ (toP d).shown.length ≤ sizeLine ∧ P (.str (toP d).shown) m) : DE A (tCB (rRepr A.K) (tCons te tNil)) ρ n P := fun S H σ e Q q =>
  h S H σ e _ fun v d S1 H1 n1 m1 f1 r1 ⟨h1, h2, h3, h4, h5, p⟩ => ⟨v, toP d, rfl, rep_dp f1.sub d v h1 r1, h2, h3, h4, h5, q _ _ S1 H1 n1 m1 f1 Rep.str p⟩
/-- all(e), of bools -/
theorem de_all {P : D → Nat → Prop} (h : DE A te ρ n fun d m => ∃ bs : List Bool, d = .lst (bs.map D.bl) ∧ P (.bl (bs.all id)) m) : DE A (tCB (rAll A.K) (tCons te tNil)) ρ n P := fun S H σ e Q q =>
  h S H σ e _ fun v d S1 H1 n1 m1 f1 r1 ⟨bs, hd, p⟩ => by
    subst hd
    obtain ⟨a, vs, rfl, h1, h2⟩ := r1.lst_inv
    rw [h2.bls] at h1
    exact ⟨a, bs, rfl, Evl.sq_of (f1.sub _ _ h1), q _ _ S1 H1 n1 m1 f1 Rep.bl p⟩
theorem de_any {P : D → Nat → Prop} (h : DE A te ρ n fun d m => ∃ bs : List Bool, d = .lst (bs.map D.bl) ∧ P (.bl (bs.any id)) m) : DE A (tCB (rAny A.K) (tCons te tNil)) ρ n P := fun S H σ e Q q =>
  h S H σ e _ fun v d S1 H1 n1 m1 f1 r1 ⟨bs, hd, p⟩ => by
    subst hd
    obtain ⟨a, vs, rfl, h1, h2⟩ := r1.lst_inv
    rw [h2.bls] at h1
    exact ⟨a, bs, rfl, Evl.sq_of (f1.sub _ _ h1), q _ _ S1 H1 n1 m1 f1 Rep.bl p⟩
theorem de_sum {P : D → Nat → Prop} (h : DE A te ρ n fun d m => ∃ ns : List Int, d = .lst (ns.map D.int) ∧ P (.int ns.sum) m) : DE A (tCB (rSum A.K) (tCons te tNil)) ρ n P := fun S H σ e Q q =>
  h S H σ e _ fun v d S1 H1 n1 m1 f1 r1 ⟨ns, hd, p⟩ => by
    subst hd
    obtain ⟨a, vs, rfl, h1, h2⟩ := r1.lst_inv
    rw [h2.intsV] at h1
    exact ⟨a, ns, rfl, Evl.sq_of (f1.sub _ _ h1), q _ _ S1 H1 n1 m1 f1 Rep.int p⟩
/-- abs, max, min, int -/
theorem de_abs {P : D → Nat → Prop} (h : DE A te ρ n fun d m => ∃ i, d = .int i ∧ P (.int (if i < 0 then -i else i)) m) : DE A (tCB (fun xs H Q => ∃ i, xs = [.int i] ∧ Q (.int (if i < 0 then -i else i)) H) (tCons te tNil)) ρ n P := fun S H σ e Q q =>
  h S H σ e _ fun v d S1 H1 n1 m1 f1 r1 ⟨i, hd, p⟩ => by
    subst hd
    exact ⟨i, by rw [r1.int_inv], q _ _ S1 H1 n1 m1 f1 Rep.int p⟩
theorem de_max2 {P : D → Nat → Prop} (h : DE A ta ρ n fun d m => DE A tb ρ m fun d2 m2 => ∃ i j, d = .int i ∧ d2 = .int j ∧ P (.int (max i j)) m2) : DE A (tCB (fun xs H Q => ∃ i j, xs = [.int i, .int j] ∧ Q (.int (if j > i then j else i)) H) (tCons ta (tCons tb tNil))) ρ n P := fun S H σ e Q q =>
  h S H σ e _ fun v d S1 H1 n1 m1 f1 r1 h1 => h1 S1 H1 σ (e.mv m1 f1) _ fun w d2 S2 H2 n2 m2 f2 r2 ⟨i, j, hd, hd2, p⟩ => by
    subst hd hd2
    refine ⟨i, j, by rw [r1.int_inv, r2.int_inv], q _ _ S2 H2 n2 (m1.trans f1.bt m2) f2 ?_ p⟩
    have e1 : (if j > i then j else i) = max i j := by
      by_cases c : j > i
      · rw [if_pos c]; omega
      · rw [if_neg c]; omega
    rw [e1]
    exact Rep.int
theorem de_min2 {P : D → Nat → Prop} (h : DE A ta ρ n fun d m => DE A tb ρ m fun d2 m2 => ∃ i j, d = .int i ∧ d2 = .int j ∧ P (.int (min i j)) m2) : DE A (tCB (fun xs H Q => ∃ i j, xs = [.int i, .int j] ∧ Q (.int (if j < i then j else i)) H) (tCons ta (tCons tb tNil))) ρ n P := fun S H σ e Q q =>
  h S H σ e _ fun v d S1 H1 n1 m1 f1 r1 h1 => h1 S1 H1 σ (e.mv m1 f1) _ fun w d2 S2 H2 n2 m2 f2 r2 ⟨i, j, hd, hd2, p⟩ => by
    subst hd hd2
    refine ⟨i, j, by rw [r1.int_inv, r2.int_inv], q _ _ S2 H2 n2 (m1.trans f1.bt m2) f2 ?_ p⟩
    have e1 : (if j < i then j else i) = min i j := by
      by_cases c : j < i
      · rw [if_pos c]; omega
      · rw [if_neg c]; omega
    rw [e1]
    exact Rep.int
theorem de_intB {P : D → Nat → Prop} (h : DE A te ρ n fun d m => ∃ k, d = .bl k ∧ P (.int (if k then 1 else 0)) m) : DE A (tCB (fun xs H Q => (∃ i, xs = [.int i] ∧ Q (.int i) H) ∨ ∃ k, xs = [.bl k] ∧ Q (.int (if k then 1 else 0)) H) (tCons te tNil)) ρ n P := fun S H σ e Q q =>
  h S H σ e _ fun v d S1 H1 n1 m1 f1 r1 ⟨i, hd, p⟩ => by
    subst hd
    exact Or.inr ⟨i, by rw [r1.bl_inv], q _ _ S1 H1 n1 m1 f1 Rep.int p⟩
theorem de_isN {P : D → Nat → Prop} (h : DE A ta ρ n fun d m => P (.bl (match d with | .non => true | .raw v => decide (v = .non) | _ => false)) m) : DE A (tOp (fun x y H Q => y = .non ∧ Q (.bl (decide (x = .non))) H) ta (tC .non)) ρ n P := fun S H σ e Q q =>
  h S H σ e _ fun v d S1 H1 n1 m1 f1 r1 p => by
    refine ⟨rfl, q _ _ S1 H1 n1 m1 f1 ?_ p⟩
    cases d with
    | non => rw [r1.non_inv]; exact Rep.bl
    | bl b => rw [r1.bl_inv]; exact Rep.bl
    | int b => rw [r1.int_inv]; exact Rep.bl
    | str b => rw [r1.str_inv]; exact Rep.bl
    | lst b => obtain ⟨a, vs, rfl, _⟩ := r1.lst_inv; exact Rep.bl
    | tup b => obtain ⟨a, vs, rfl, _⟩ := r1.tup_inv; exact Rep.bl
    | raw u => rw [r1.raw_inv]; exact Rep.bl
    | exc C fs =>
      have r := r1
      unfold Rep at r
      obtain ⟨a, d, rfl, _⟩ := r
      exact Rep.bl
end
end DL
namespace DL
open PySem PySem.Spec PyProof.Rows L2 Evl
theorem take_one_more {α : Type} : ∀ {l : List α} {i : Nat} {x : α}, l[i]? = some x → l.take (i + 1) = l.take i ++ [x]
  | [], i, x, h => by simp at h
  | a :: l, 0, x, h => by simp at h; subst h; rfl
  | a :: l, i + 1, x, h => by
    rw [List.take_succ_cons, List.take_succ_cons, take_one_more (l := l) (i := i) (x := x) (by simpa using h)]
    rfl
section
variable {A : Amb} {te ta tb : TE} {tt tt1 : TT} {wi wi1 : TI} {g g1 : TG} {ρ : Rho} {n : Nat} {ts : TS} {T : DEnds}
/-- [F x for x in xs if b x] -/
theorem df_fm {vs : List Nat} {P : List D → Nat → Prop} {α : Type} (xs : List α) (b : α → Bool) (F : α → D) (gw : GW g vs) (hx : xs.length ≤ 100000)
    (h : DI A wi ρ n fun ds n1 => ds.length = xs.length ∧ (∀ (i : Nat) (d : D) (x : α), ds[i]? = some d → xs[i]? = some x →
      DG A g d (wipeR ρ vs) n1 fun ρ2 => DT A tt ρ2 n1 fun c m => m = n1 ∧ c = b x ∧ (b x = true → DE A te ρ2 n1 fun y m2 => m2 = n1 ∧ y = F x)) ∧ P ((xs.filter b).map F) n1) :
    DF A (tLc wi g tt te vs) ρ n P := df_lc gw (h.imp fun ds n1 ⟨hl, hs, hp⟩ => ⟨fun i acc m => acc = ((xs.take i).filter b).map F ∧ m = n1, ⟨rfl, rfl⟩, by omega, by
      rintro i d acc m hd hle ⟨rfl, rfl⟩
      have hi : i < xs.length := by rw [← hl]; exact (List.getElem?_eq_some_iff.mp hd).1
      have ex : xs[i]? = some xs[i] := by simp [hi]
      have st := hs i d xs[i] hd ex
      intro S H σ v e r Q q
      refine st S H σ v e r Q fun σ' ρ' e' o p => q σ' ρ' e' o (p.imp ?_)
      rintro c m ⟨rfl, rfl, hy⟩
      have tk := take_one_more ex
      cases hb : b xs[i] with
      | true =>
        rw [if_pos rfl]
        refine (hy hb).imp ?_
        rintro y m2 ⟨rfl, rfl⟩
        exact ⟨by rw [tk, List.filter_append]; simp [hb], rfl⟩
      | false =>
        rw [if_neg Bool.false_ne_true]
        exact ⟨by rw [tk, List.filter_append]; simp [hb], rfl⟩, by
      rintro acc m ⟨rfl, rfl⟩
      rw [hl, List.take_length]
      exact hp⟩)
/-- [F x for x in xs] -/
theorem df_map {vs : List Nat} {P : List D → Nat → Prop} {α : Type} (xs : List α) (F : α → D) (gw : GW g vs) (hx : xs.length ≤ 100000)
    (h : DI A wi ρ n fun ds n1 => ds.length = xs.length ∧ (∀ (i : Nat) (d : D) (x : α), ds[i]? = some d → xs[i]? = some x →
      DG A g d (wipeR ρ vs) n1 fun ρ2 => DE A te ρ2 n1 fun y m2 => m2 = n1 ∧ y = F x) ∧ P (xs.map F) n1) :
    DF A (tLc wi g tYes te vs) ρ n P := df_fm xs (fun _ => true) F gw hx (h.imp fun ds n1 ⟨hl, hs, hp⟩ => ⟨hl, fun i d x hd hx => by
      intro S H σ v e r Q q
      exact hs i d x hd hx S H σ v e r Q fun σ' ρ' e' o p => q σ' ρ' e' o (dt_yes ⟨rfl, rfl, fun _ => p⟩), by
      have : xs.filter (fun _ => true) = xs := by simp
      rw [this]
      exact hp⟩)
theorem flat_len {α : Type} {f : α → List D} (hf : ∀ x, (f x).length ≤ 300) : ∀ (l : List α), (l.flatMap f).length ≤ l.length * 300
  | [] => by simp
  | a :: l => by
    have := flat_len hf l
    have := hf a
    simp only [List.flatMap_cons, List.length_append, List.length_cons]
    omega
/-- [F x y for x in xs for y in ys x if b x y] -/
theorem df_fm2 {vs vs1 : List Nat} {P : List D → Nat → Prop} {α β : Type} (xs : List α) (ys : α → List β) (b : α → β → Bool) (F : α → β → D) (gw : GW g vs) (gw1 : GW g1 vs1) (hx : xs.length ≤ 300) (hy : ∀ x, (ys x).length ≤ 300)
    (h : DI A wi ρ n fun ds n1 => ds.length = xs.length ∧ (∀ (i : Nat) (d : D) (x : α), ds[i]? = some d → xs[i]? = some x →
      DG A g d (wipeR ρ vs) n1 fun ρ2 => DI A wi1 ρ2 n1 fun ds1 m => m = n1 ∧ ds1.length = (ys x).length ∧ ∀ (j : Nat) (d1 : D) (y : β), ds1[j]? = some d1 → (ys x)[j]? = some y →
        DG A g1 d1 (wipeR ρ2 vs1) n1 fun ρ3 => DT A tt1 ρ3 n1 fun c m => m = n1 ∧ c = b x y ∧ (b x y = true → DE A te ρ3 n1 fun z m2 => m2 = n1 ∧ z = F x y)) ∧
      P (xs.flatMap fun x => ((ys x).filter (b x)).map (F x)) n1) :
    DF A (tLc2 wi g tYes wi1 g1 tt1 te vs vs1) ρ n P := df_lc2 gw gw1 (h.imp fun ds n1 ⟨hl, hs, hp⟩ => ⟨fun i acc m => acc = (xs.take i).flatMap (fun x => ((ys x).filter (b x)).map (F x)) ∧ m = n1, ⟨rfl, rfl⟩, by
      rintro i d acc m hd ⟨rfl, rfl⟩
      have hi : i < xs.length := by rw [← hl]; exact (List.getElem?_eq_some_iff.mp hd).1
      have ex : xs[i]? = some xs[i] := by simp [hi]
      have st := hs i d xs[i] hd ex
      intro S H σ v e r Q q
      refine st S H σ v e r Q fun σ' ρ' e' o p => q σ' ρ' e' o (dt_yes ?_)
      rw [if_pos rfl]
      refine p.imp ?_
      rintro ds1 m0 ⟨rfl, hl1, hs1⟩
      have fl := flat_len (f := fun x => ((ys x).filter (b x)).map (F x)) (fun x => by
        rw [List.length_map]
        exact Nat.le_trans (List.length_filter_le _ _) (hy x)) (xs.take i)
      have tk := take_one_more ex
      refine ⟨fun j acc1 m => acc1 = (xs.take i).flatMap (fun x => ((ys x).filter (b x)).map (F x)) ++ (((ys xs[i]).take j).filter (b xs[i])).map (F xs[i]) ∧ m = m0, ⟨by simp, rfl⟩, ?_, ?_⟩
      · rintro j d1 acc1 m hd1 ⟨rfl, rfl⟩
        have hj : j < (ys xs[i]).length := by rw [← hl1]; exact (List.getElem?_eq_some_iff.mp hd1).1
        have ey : (ys xs[i])[j]? = some (ys xs[i])[j] := by simp [hj]
        have st1 := hs1 j d1 _ hd1 ey
        intro S H σ v e r Q q
        refine st1 S H σ v e r Q fun σ' ρ' e' o p => q σ' ρ' e' o (p.imp ?_)
        rintro c m ⟨rfl, rfl, hz⟩
        have tk1 := take_one_more ey
        cases hb : b xs[i] (ys xs[i])[j] with
        | true =>
          rw [if_pos rfl]
          refine (hz hb).imp ?_
          rintro z m2 ⟨rfl, rfl⟩
          refine ⟨?_, by rw [tk1, List.filter_append]; simp [hb], rfl⟩
          have l1 : ((((ys xs[i]).take j).filter (b xs[i])).map (F xs[i])).length ≤ 300 := by
            rw [List.length_map]
            have a1 := List.length_filter_le (b xs[i]) ((ys xs[i]).take j)
            have a2 : ((ys xs[i]).take j).length ≤ (ys xs[i]).length := by simp; omega
            have a3 := hy xs[i]
            omega
          have l2 : (xs.take i).length ≤ 300 := by
            have : (xs.take i).length ≤ xs.length := by simp; omega
            omega
          rw [List.length_append]
          omega
        | false =>
          rw [if_neg Bool.false_ne_true]
          exact ⟨by rw [tk1, List.filter_append]; simp [hb], rfl⟩
      · rintro acc1 m ⟨rfl, rfl⟩
        rw [hl1, List.take_length, tk, List.flatMap_append]
        exact ⟨by simp, rfl⟩, by
      rintro acc m ⟨rfl, rfl⟩
      rw [hl, List.take_length]
      exact hp⟩)
end
end DL
namespace DL
open PySem PySem.Spec PyProof.Rows L2 Evl
section
variable {A : Amb} {te ta tb tc : TE} {tt tt1 : TT} {wi wi1 : TI} {g g1 : TG} {tr : TA} {ρ : Rho} {n : Nat} {ts : TS} {T : DEnds}
/-- while, a word by a measure -/
theorem ds_while (h : ∃ I : Nat → Rho → Nat → Prop, (∃ m, I m ρ n) ∧ ∀ k ρ' n', I k ρ' n' → DT A tt ρ' n' fun b n1 => if b = true then DS A ts ρ' n1 { T with nx := fun ρ2 n2 => ∃ k', k' < k ∧ I k' ρ2 n2, ct := fun ρ2 n2 => ∃ k', k' < k ∧ I k' ρ2 n2, bk := T.nx } else T.nx ρ' n1) :
    DS A (tWhile tt ts) ρ n T := fun S H σ e D k => by
  obtain ⟨I, ⟨m, i0⟩, st⟩ := h
  refine ⟨fun m σ' H' => ∃ S' ρ' n', Ex S S' ∧ ER A n' S' H' σ' ρ' ∧ I m ρ' n', ⟨m, S, ρ, n, Ex.refl S, e, i0⟩, ?_⟩
  rintro m σ' H' ⟨S', ρ', n', ex, e', p⟩
  refine st m ρ' n' p S' H' σ' e' _ fun b S1 H1 n1 m1 f1 p1 => ?_
  have e1 := e'.mv m1 f1
  cases b with
  | true =>
    rw [if_pos rfl] at p1 ⊢
    refine ⟨fun σ2 H2 => ∃ S2 ρ2 n2 k', Ex S1 S2 ∧ ER A n2 S2 H2 σ2 ρ2 ∧ k' < m ∧ I k' ρ2 n2, ?_, p1 S1 H1 σ' e1 _ ⟨?_, ?_, ?_, ?_⟩⟩
    · rintro σ2 H2 ⟨S2, ρ2, n2, k', x, e2, lt, p2⟩
      exact ⟨k', lt, S2, ρ2, n2, ex.trans (m1.ss.trans x), e2, p2⟩
    · exact fun ρ2 n2 S2 H2 σ2 x e2 ⟨k', lt, p2⟩ => ⟨S2, ρ2, n2, k', x, e2, lt, p2⟩
    · exact fun v d n2 S2 H2 x f2 r2 p2 => k.rt v d n2 S2 H2 (ex.trans (m1.ss.trans x)) f2 r2 p2
    · exact fun ρ2 n2 S2 H2 σ2 x e2 p2 => k.nx ρ2 n2 S2 H2 σ2 (ex.trans (m1.ss.trans x)) e2 p2
    · exact fun ρ2 n2 S2 H2 σ2 x e2 ⟨k', lt, p2⟩ => ⟨S2, ρ2, n2, k', x, e2, lt, p2⟩
  | false =>
    rw [if_neg Bool.false_ne_true] at p1 ⊢
    exact k.nx ρ' n1 S1 H1 σ' (ex.trans m1.ss) e1 p1
theorem inV_ints {x : Int} : ∀ {ns : List Int}, inV (.int x) (ns.map V.int) = decide (x ∈ ns)
  | [] => by simp [inV]
  | n :: ns => by
    have ih := inV_ints (x := x) (ns := ns)
    unfold inV at ih ⊢
    rw [List.map_cons, List.any_cons, ih]
    have e : eqV (.int n) (.int x) = decide (n = x) := by
      show (n == x) = decide (n = x)
      by_cases c : n = x
      · subst c; simp
      · simp [c]
    rw [e]
    by_cases c : n = x
    · subst c; simp
    · have c' : ¬ x = n := fun z => c z.symm
      simp [c, c']
theorem flat_ints {ns : List Int} : (ns.map V.int).all flatV = true := by simp [flatV]
/-- e in xs, e not in xs: ints, xs ours -/
theorem de_inOwn {neg : Bool} {i : Nat} {ns : List Int} {P : D → Nat → Prop} (hi : ρ[i]? = some (.own (ns.map D.int))) (h : DE A ta ρ n fun d m => ∃ x, d = .int x ∧ P (.bl (if neg then !decide (x ∈ ns) else decide (x ∈ ns))) m) : DE A (tOp (rIn A.K neg) ta (tVar i)) ρ n P := fun S H σ e Q q =>
  h S H σ e _ fun v d S1 H1 n1 m1 f1 r1 ⟨x, hd, p⟩ => by
    subst hd
    obtain ⟨a, vs, g1, g2, g3, _⟩ := (e.mv m1 f1).own hi
    have g3' := g3.intsV
    subst g3'
    refine ⟨.ref a, g1, a, _, rfl, Or.inl (Evl.sq_of g2), by rw [r1.int_inv]; rfl, flat_ints, q _ _ S1 H1 n1 m1 f1 ?_ p⟩
    rw [r1.int_inv, inV_ints]
    exact Rep.bl
/-- of a value -/
theorem dr_in {neg : Bool} {x : Int} {d : D} {ns : List Int} {P : D → Nat → Prop} (hd : d = .lst (ns.map D.int) ∨ d = .tup (ns.map D.int)) (p : P (.bl (if neg then !decide (x ∈ ns) else decide (x ∈ ns))) n) : DR A (rIn A.K neg) (.int x) d n P := fun S H v w f r1 r2 Q q => by
  cases r1.int_inv
  rcases hd with hd | hd
  · subst hd
    obtain ⟨a, vs, rfl, h1, h2⟩ := r2.lst_inv
    have h2' := h2.intsV
    subst h2'
    exact ⟨a, _, rfl, Or.inl (Evl.sq_of (f.sub _ _ h1)), rfl, flat_ints, q _ _ S H n Mv.refl f (by rw [inV_ints]; exact Rep.bl) p⟩
  · subst hd
    obtain ⟨a, vs, rfl, h1, h2⟩ := r2.tup_inv
    have h2' := h2.intsV
    subst h2'
    exact ⟨a, _, rfl, Or.inr (Evl.st_of (f.sub _ _ h1)), rfl, flat_ints, q _ _ S H n Mv.refl f (by rw [inV_ints]; exact Rep.bl) p⟩
/-- x, y = [], [] : both ours -/
theorem ds_parNil {i j : Nat} (hij : i ≠ j) (hi : i < ρ.length) (hj : j < ρ.length) (h : T.nx ((ρ.set i (.own [])).set j (.own [])) n) : DS A (tPar i j (tCons (tLst tNil) (tCons (tLst tNil) tNil))) ρ n T := fun S H σ e D k => by
  refine ⟨Nat.zero_le _, fun a ha => ⟨Nat.zero_le _, fun b hb => ⟨.ref a, .ref b, rfl, ?_⟩⟩⟩
  have fa := e.f.newO (o := .lst []) ha
  have ea : ER A n S (upd H a (.lst [])) σ ρ := e.mv (Mv.newO ha) fa
  have e1 := ea.setOwn (i := i) (vs := []) (ds := []) (fun j es hj z => by
    obtain ⟨b, ws, h1, h2, _⟩ := e.own hj
    rw [z] at h1; cases h1
    rw [ha] at h2; cases h2) upd_same Reps.nil (e.f.s0 ha) (e.f.h0 ha)
  have fb := fa.newO (o := .lst []) hb
  have e2 : ER A n S (upd (upd H a (.lst [])) b (.lst [])) (σ.set i (some (.ref a))) (ρ.set i (.own [])) := e1.mv (Mv.newO hb) fb
  have nab : b ≠ a := fun z => by rw [z, upd_same] at hb; cases hb
  have e3 := e2.setOwn (i := j) (vs := []) (ds := []) (fun j' es hj' z => by
    obtain ⟨b', ws, h1, h2, _⟩ := e1.own hj'
    rw [z] at h1; cases h1
    rw [hb] at h2; cases h2) upd_same Reps.nil (fa.s0 hb) (fa.h0 hb)
  exact k.nx _ n S _ _ (Ex.refl S) e3 h
/-- xs[i1], xs[i2] = e, xs ours -/
theorem ds_put2 {i : Nat} {ds : List D} {t1 t2 : TE} (hi : ρ[i]? = some (.own ds)) (h : DE A te ρ n fun d m => ∃ x y, (d = .tup [x, y] ∨ d = .lst [x, y]) ∧ DE A t1 ρ m fun p m1 => ∃ j1 : Nat, p = .int (j1 : Int) ∧ j1 < ds.length ∧
      DE A t2 (ρ.set i (.own (ds.set j1 x))) m1 fun q m2 => ∃ j2 : Nat, q = .int (j2 : Int) ∧ j2 < ds.length ∧ T.nx (ρ.set i (.own ((ds.set j1 x).set j2 y))) m2) :
    DS A (tAsg te (gSeq A.K 2 (gCons (gSub (tVar i) t1 rSetL) (gCons (gSub (tVar i) t2 rSetL) gNil)))) ρ n T := fun S H σ e D k =>
  h S H σ e _ fun v d S' H' n' m f r ⟨x, y, hd, h1⟩ => by
    have e' := e.mv m f
    have li : i < ρ.length := (List.getElem?_eq_some_iff.mp hi).1
    have main : ∀ (vs : List V), Reps A.K S' vs [x, y] → gCons (gSub (tVar i) t1 rSetL) (gCons (gSub (tVar i) t2 rSetL) gNil) vs σ H' D.nx := by
      intro vs rv
      obtain ⟨vx, r1, rfl, rx, rv1⟩ := rv.uncons
      obtain ⟨vy, r2, rfl, ry, rv2⟩ := rv1.uncons
      have z : r2 = [] := by unfold Reps at rv2; exact rv2
      subst z
      obtain ⟨a, ws, g1, g2, g3, g4, g5⟩ := e'.own hi
      refine ⟨vx, [vy], rfl, .ref a, g1, h1 S' H' σ e' _ fun w p S1 H1 n1 m1 f1 rp ⟨j1, hp, hj1, h2⟩ => ?_⟩
      subst hp
      have e1 := e'.mv m1 f1
      obtain ⟨a', ws', k1, k2, k3, k4, k5⟩ := e1.own hi
      rw [g1] at k1; cases k1
      have ep := e1.putOwn hi g1 (k3.set j1 (rx.mono m1.ss))
      refine ⟨a, ws', (j1 : Int), j1, rfl, rp.int_inv, k2, Evl.ixN_nat (by rw [k3.length]; exact hj1), ?_⟩
      refine ⟨vy, [], rfl, .ref a, g1, h2 S1 _ σ ep _ fun w2 q S2 H2 n2 m2 f2 rq ⟨j2, hq, hj2, p2⟩ => ?_⟩
      subst hq
      have e2 := ep.mv m2 f2
      have hi2 : (ρ.set i (.own (ds.set j1 x)))[i]? = some (.own (ds.set j1 x)) := List.getElem?_set_self li
      obtain ⟨a2, ws2, l1, l2, l3, l4, l5⟩ := e2.own hi2
      rw [g1] at l1; cases l1
      have ef := e2.putOwn hi2 g1 (l3.set j2 (ry.mono (m1.ss.trans m2.ss)))
      rw [List.set_set] at ef
      refine ⟨a, ws2, (j2 : Int), j2, rfl, rq.int_inv, l2, Evl.ixN_nat (by rw [l3.length, List.length_set]; exact hj2), rfl, ?_⟩
      exact k.nx _ n2 S2 _ σ (m.ss.trans (m1.ss.trans m2.ss)) ef p2
    rcases hd with hd | hd
    · subst hd
      obtain ⟨b, vs, rfl, q1, q2⟩ := r.tup_inv
      exact Or.inl ⟨b, vs, rfl, Evl.st_of (f.sub _ _ q1), by rw [q2.length]; rfl, main vs q2⟩
    · subst hd
      obtain ⟨b, vs, rfl, q1, q2⟩ := r.lst_inv
      exact Or.inr ⟨b, vs, rfl, Evl.sq_of (f.sub _ _ q1), by rw [q2.length]; rfl, main vs q2⟩
/-- a pair of ints, a tuple -/
def pr (p : Int × Int) : D := .tup [.int p.1, .int p.2]
def prL (p : Int × Int) : D := .lst [.int p.1, .int p.2]
/-- sorted(e), pairs of ints -/
theorem df_sortP {P : List D → Nat → Prop} (h : DE A te ρ n fun d m => ∃ l : List (Int × Int), d = .lst (l.map pr) ∧ ∀ l' : List (Int × Int), l'.Perm l → l'.Pairwise (fun x y => SrtO.lexB y x = false) → P (l'.map pr) m) : DF A (tCB (rSortedPO A.K) (tCons te tNil)) ρ n P := fun S H σ e Q q =>
  h S H σ e _ fun v d S1 H1 n1 m1 f1 r1 ⟨l, hd, p⟩ => by
    subst hd
    obtain ⟨a, vs, rfl, h1, h2⟩ := r1.lst_inv
    let key : V → Int × Int := fun x => match x with
      | .ref t => match S1 t with
        | some (.tup [.int i, .int j]) => (i, j)
        | _ => (0, 0)
      | _ => (0, 0)
    have kf : ∀ (x : V) (p : Int × Int), Rep A.K S1 x (pr p) → (∃ t, x = .ref t ∧ S1 t = some (.tup [.int p.1, .int p.2])) ∧ key x = p := by
      intro x p r
      obtain ⟨t, ws, rfl, g1, g2⟩ := (show Rep A.K S1 x (.tup [.int p.1, .int p.2]) from r).tup_inv
      obtain ⟨w1, r', rfl, q1, q2⟩ := g2.uncons
      obtain ⟨w2, r'', rfl, q3, q4⟩ := q2.uncons
      have z : r'' = [] := by unfold Reps at q4; exact q4
      subst z
      rw [q1.int_inv, q3.int_inv] at g1
      refine ⟨⟨t, rfl, g1⟩, ?_⟩
      show (match S1 t with | some (.tup [.int i, .int j]) => (i, j) | _ => (0, 0)) = p
      rw [g1]
    have all : ∀ x ∈ vs, ∃ p, Rep A.K S1 x (pr p) := by
      intro x hx
      obtain ⟨i, hi⟩ := List.getElem?_of_mem hx
      obtain ⟨d, hd, rd⟩ := h2.getV hi
      rw [List.getElem?_map] at hd
      cases c : l[i]? with
      | none => rw [c] at hd; cases hd
      | some p => rw [c] at hd; cases hd; exact ⟨p, rd⟩
    have keys : vs.map key = l := by
      have : ∀ (l : List (Int × Int)) (vs : List V), Reps A.K S1 vs (l.map pr) → vs.map key = l := by
        intro l
        induction l with
        | nil => intro vs h; unfold Reps at h; subst h; rfl
        | cons p l ih =>
          intro vs h
          obtain ⟨w, r', rfl, q1, q2⟩ := (show Reps A.K S1 vs (pr p :: l.map pr) from h).uncons
          rw [List.map_cons, (kf w p q1).2, ih r' q2]
      exact this l vs h2
    have back : ∀ (ys : List V), (∀ y ∈ ys, y ∈ vs) → Reps A.K S1 ys ((ys.map key).map pr) := by
      intro ys
      induction ys with
      | nil => intro _; exact Reps.nil
      | cons y ys ih =>
        intro hy
        obtain ⟨p, rp⟩ := all y (hy y List.mem_cons_self)
        have kp := (kf y p rp).2
        rw [List.map_cons, List.map_cons, kp]
        exact Reps.cons rp (ih fun z hz => hy z (List.mem_cons_of_mem _ hz))
    refine ⟨a, vs, key, rfl, Evl.sq_of (f1.sub _ _ h1), fun x hx => ?_, fun ys p' hs hb hp => ?_⟩
    · obtain ⟨p, rp⟩ := all x hx
      obtain ⟨⟨t, rfl, g⟩, kp⟩ := kf x p rp
      rw [kp]
      exact ⟨t, rfl, f1.sub _ _ g⟩
    · have hn0 : H p' = none := by
        cases z : H p' with
        | none => rfl
        | some o => exact absurd hp (m1.there f1.bt (by rw [z]; exact fun y => nomatch y))
      refine q p' ys ((ys.map key).map pr) S1 _ n1 (m1.trans f1.bt (Mv.newO hp)) (f1.newO hp) hn0 upd_same (f1.s0 hp) (back ys fun y hy => hb.perm.mem_iff.mp hy) (p (ys.map key) ?_ ?_)
      · rw [← keys]
        exact hb.perm.map key
      · exact List.pairwise_map.mpr hs
/-! ### isinstance -/
def tyN : D → String
  | .non => "NoneType"
  | .bl _ => "bool"
  | .int _ => "int"
  | .str _ => "str"
  | .lst _ => "list"
  | .tup _ => "tuple"
  | _ => ""
def isiB (d : D) (t : String) : Bool := tyN d == t || (tyN d == "bool" && t == "int")
/-- a value whose class is told -/
def plainD : D → Bool
  | .raw _ => false
  | .exc _ _ => false
  | _ => true
theorem tyx_of {K : PySem.W.Frag} {S H : Hp} {v : V} {d : D} (ex : Ex S H) (h : plainD d = true) (r : Rep K S v d) : TyX K H v (.type (tyN d)) := by
  cases d with
  | non => rw [r.non_inv]; exact .base .non
  | bl b => rw [r.bl_inv]; exact .base (.bl b)
  | int b => rw [r.int_inv]; exact .base (.int b)
  | str b => rw [r.str_inv]; exact .base (.str b)
  | lst b => obtain ⟨a, vs, rfl, h1, _⟩ := r.lst_inv; exact .base (.lst (ex _ _ h1))
  | tup b => obtain ⟨a, vs, rfl, h1, _⟩ := r.tup_inv; exact .base (.tup (ex _ _ h1))
  | raw u => cases h
  | exc C fs => cases h
def knownT (t : String) : Bool := t == "list" || t == "tuple" || t == "int" || t == "str" || t == "bool"
def tyNames : List String := ["NoneType", "bool", "int", "str", "list", "tuple"]
def askNames : List String := ["list", "tuple", "int", "str", "bool"]
theorem kit_table : (tyNames.all fun a => askNames.all fun t => kitB a t == some (a == t || (a == "bool" && t == "int"))) = true := by decide +kernel
theorem tyN_in {d : D} (h : plainD d = true) : tyN d ∈ tyNames := by
  cases d <;> first
    | (simp [tyN, tyNames]; done)
    | cases h
theorem kit_known {K : PySem.W.Frag} {d : D} {t : String} (h : plainD d = true) (ht : knownT t = true) : PySem.W.kitOne K (.type (tyN d)) (.type t) = some (isiB d t) := by
  have hm : t ∈ askNames := by
    unfold knownT at ht
    simp only [Bool.or_eq_true, beq_iff_eq] at ht
    rcases ht with (((h | h) | h) | h) | h <;> subst h <;> simp [askNames]
  have q := List.all_eq_true.mp (List.all_eq_true.mp kit_table (tyN d) (tyN_in h)) t hm
  exact kit_ty (eq_of_beq q)
theorem de_isi {t : String} {P : D → Nat → Prop} (ht : knownT t = true) (h : DE A te ρ n fun d m => plainD d = true ∧ P (.bl (isiB d t)) m) : DE A (tCB (rIsi A.K) (tCons te (tCons (tC (.ty t)) tNil))) ρ n P := fun S H σ e Q q =>
  h S H σ e _ fun v d S1 H1 n1 m1 f1 r1 ⟨hd, p⟩ => ⟨v, .ty t, .type (tyN d), .type t, isiB d t, rfl, .ty t, tyx_of f1.sub hd r1, kit_known hd ht, q _ _ S1 H1 n1 m1 f1 Rep.bl p⟩
theorem de_isi2 {t u : String} {P : D → Nat → Prop} (ht : knownT t = true) (hu : knownT u = true) (h : DE A te ρ n fun d m => plainD d = true ∧ P (.bl (isiB d t || isiB d u)) m) :
    DE A (tCB (rIsiT A.K) (tCons te (tCons (tTup (tCons (tC (.ty t)) (tCons (tC (.ty u)) tNil))) tNil))) ρ n P := fun S H σ e Q q =>
  h S H σ e _ fun v d S1 H1 n1 m1 f1 r1 ⟨hd, p⟩ => ⟨by show 2 ≤ sizeLine; decide, fun tp htp => by
    have ex : Ex S1 (upd H1 tp (.tup [V.ty t, V.ty u])) := fun a o z => by rw [upd_ne (ne_of_none (f1.sub a o z) htp)]; exact f1.sub a o z
    refine ⟨v, tp, [V.ty t, V.ty u], .type (tyN d), [.type t, .type u], isiB d t || isiB d u, rfl, upd_same, .cons (.ty t) (.cons (.ty u) .nil), tyx_of ex hd r1, ?_, ?_⟩
    · refine kitAny_cons (kit_known hd ht) (fun e1 => ?_) fun e1 => by rw [e1]; rfl
      refine kitAny_cons (kit_known hd hu) (fun e2 => ?_) fun e2 => by rw [e2]; simp
      rw [e1, e2]
      exact kitAny_nil
    · exact q _ _ S1 _ n1 (m1.trans f1.bt (Mv.newO htp)) (f1.newO htp) Rep.bl p⟩
/-! ### zip -/
theorem di_zip {P : List D → Nat → Prop} (h : DE A ta ρ n fun d m => DE A tb ρ m fun d2 m2 => ∃ xs ys, ((d = .lst xs ∧ d2 = .lst ys) ∨ (d = .tup xs ∧ d2 = .tup ys)) ∧ P ((xs.zip ys).map fun p => D.tup [p.1, p.2]) m2) : DI A (RZ.iZipA A.K (tCons ta (tCons tb tNil))) ρ n P := fun S H σ e R q =>
  h S H σ e _ fun v d S1 H1 n1 m1 f1 r1 h1 => h1 S1 H1 σ (e.mv m1 f1) _ fun w d2 S2 H2 n2 m2 f2 r2 ⟨xs, ys, hd, p⟩ => by
    have r1' := r1.mono m2.ss
    have fin : ∀ (vs ws : List V), Reps A.K S2 vs xs → Reps A.K S2 ws ys → ∀ i S3 H3 x H4 m, i < ((xs.zip ys).map fun p => D.tup [p.1, p.2]).length → Ex S2 S3 → Fr A m S3 H3 → YPair (fun i => vs[i]?) (fun i => ws[i]?) i H3 x H4 →
        ∃ S4 d, ((xs.zip ys).map fun p => D.tup [p.1, p.2])[i]? = some d ∧ Mv A.b S3 H3 S4 H4 ∧ Fr A m S4 H4 ∧ Rep A.K S4 x d := by
      rintro vs ws rv rw' i S3 H3 x H4 m hi ex f3 ⟨t, x1, x2, rfl, ht, rfl, e1, e2⟩
      obtain ⟨d1, hd1, rd1⟩ := rv.getV e1
      obtain ⟨d2, hd2, rd2⟩ := rw'.getV e2
      refine ⟨_, .tup [d1, d2], ?_, Mv.new f3.sub ht, f3.new ht, Rep.tup upd_same (Reps.cons (rd1.mono (ex.trans (Mv.new (b := A.b) f3.sub ht).ss)) (Reps.one (rd2.mono (ex.trans (Mv.new (b := A.b) f3.sub ht).ss))))⟩
      rw [List.getElem?_map, show (xs.zip ys)[i]? = some (d1, d2) from List.getElem?_zip_eq_some.mpr ⟨hd1, hd2⟩]
      rfl
    rcases hd with ⟨hd, hd2⟩ | ⟨hd, hd2⟩
    · subst hd hd2
      obtain ⟨a, vs, rfl, a1, a2⟩ := r1'.lst_inv
      obtain ⟨b, ws, rfl, b1, b2⟩ := r2.lst_inv
      refine ⟨a, b, vs, ws, rfl, Or.inl ⟨Evl.sq_of (f2.sub _ _ a1), Evl.sq_of (f2.sub _ _ b1), q _ _ S2 H2 n2 _ _ (m1.trans f1.bt m2) f2 (walk_zip (by simp [a2.length, b2.length])) (fun S3 H3 m ex f => ⟨Evl.sq_of ((ex.trans f.sub) _ _ a1), Evl.sq_of ((ex.trans f.sub) _ _ b1)⟩) (fin vs ws a2 b2) p⟩⟩
    · subst hd hd2
      obtain ⟨a, vs, rfl, a1, a2⟩ := r1'.tup_inv
      obtain ⟨b, ws, rfl, b1, b2⟩ := r2.tup_inv
      refine ⟨a, b, vs, ws, rfl, Or.inr ⟨Evl.st_of (f2.sub _ _ a1), Evl.st_of (f2.sub _ _ b1), q _ _ S2 H2 n2 (fun H => SqT A.K H a vs ∧ SqT A.K H b ws) _ (m1.trans f1.bt m2) f2 ?_ (fun S3 H3 m ex f => ⟨Evl.st_of ((ex.trans f.sub) _ _ a1), Evl.st_of ((ex.trans f.sub) _ _ b1)⟩) (fin vs ws a2 b2) p⟩⟩
      have hl : ((xs.zip ys).map fun p => D.tup [p.1, p.2]).length = min vs.length ws.length := by simp [a2.length, b2.length]
      rw [hl]
      refine ⟨fun i H hi q => ?_, fun H q => ⟨vs, ws, q.1, q.2, by omega⟩, fun i H x H' hi q y => ?_⟩
      · have h1 : i < vs.length := by omega
        have h2 : i < ws.length := by omega
        exact ⟨vs, ws, vs[i], ws[i], q.1, q.2, by simp [h1], by simp [h2]⟩
      · obtain ⟨t, x1, y1, e1, e2, e3, e4, e5⟩ := y
        exact ⟨t, x1, y1, e1, e2, e3, e4 vs q.1, e5 ws q.2⟩
end
end DL
namespace DL
open PySem PySem.Spec PyProof.Rows L2 Evl
theorem if2t {b : Bool} {X Y : Prop} (h : b = true) (x : X) : if b = true then X else Y := by rw [if_pos h]; exact x
theorem if2f {b : Bool} {X Y : Prop} (h : b = false) (y : Y) : if b = true then X else Y := by rw [h, if_neg Bool.false_ne_true]; exact y
theorem if2 {b : Bool} {X Y : Prop} (h : b = true → X) (g : b = false → Y) : if b = true then X else Y := by
  cases b with
  | true => exact h rfl
  | false => exact g rfl
section
variable {A : Amb} {te ta tb : TE} {tt tu : TT} {tr : TA} {ts us : TS} {wi : TI} {g : TG} {ρ : Rho} {n : Nat} {T : DEnds}
/-- back to the earlier tracked state -/
theorem ER.back {S H H' : Hp} {σ : L2.St} {m : Nat} (e : ER A n S H σ ρ) (bb : ∀ a, A.b = some a → BoxOk m H' a) (mv : ∀ a o, some a ≠ A.b → H a = some o → NT o → H' a = some o) (tb : ∀ a ps, H a = some (.tbl ps) → ∃ qs, H' a = some (.tbl qs)) (ex : Ex S H') {S2 : Hp} (tab : TabK A.K S2 H') : ER A m S H' σ ρ := by
  refine ⟨⟨ex, ⟨e.f.mv.ss, fun a o hne h nt => mv a o hne (e.f.mv.fr a o hne h nt) nt, fun a ps h => let ⟨qs, h'⟩ := e.f.mv.tb a ps h; tb a qs h', e.f.mv.sep⟩, fun a ha => ⟨bb a ha, (e.f.box a ha).2⟩, ⟨tab.1, e.f.tab.2⟩⟩, e.len, fun i s hs => ?_, e.ap⟩
  obtain ⟨o, h1, h2⟩ := e.sl i s hs
  refine ⟨o, h1, ?_⟩
  cases s with
  | un => trivial
  | val d => exact h2
  | own ds =>
    obtain ⟨a, vs, g1, g2, g3, g4, g5⟩ := h2
    have nb : some a ≠ A.b := fun z => (e.f.box a z.symm).2.2 g5
    exact ⟨a, vs, g1, mv a _ nb g2 nt_lst, g3, g4, g5⟩
  | dic kvs =>
    obtain ⟨a, ks, g1, g2, g3, g4, g5⟩ := h2
    have nb : some a ≠ A.b := fun z => (e.f.box a z.symm).2.2 g5
    exact ⟨a, ks, g1, mv a _ nb g2 nt_dK, g3, g4, g5⟩
  | nd kvs =>
    obtain ⟨a, ks, g1, g2, g3, g4, g5⟩ := h2
    have nb : some a ≠ A.b := fun z => (e.f.box a z.symm).2.2 g5
    exact ⟨a, ks, g1, mv a _ nb g2 nt_ND, g3, g4, g5⟩
/-- a list of ours is lent to a test -/
theorem ds_lendIf {i : Nat} {ds : List D} (hi : ρ[i]? = some (.own ds)) (h : DT A tt (ρ.set i (.val (.lst ds))) n fun b m => if b = true then DS A ts ρ m T else DS A us ρ m T) : DS A (tIfS tt ts us) ρ n T := fun S H σ e D k => by
  obtain ⟨a, vs, S1, g1, ex1, f1, r1, e1, hS1, hSa, hHa, ra, h0a⟩ := e.frz hi
  refine h S1 H σ e1 _ fun b S2 H2 n2 m2 f2 p2 => ?_
  have e2 : ER A n2 S H2 σ ρ := e.back (fun x hx => (f2.box x hx).1) (fun x o hne hx nt => m2.fr x o hne hx nt) m2.tb (fun x u hx => f2.sub _ _ (m2.ss _ _ (ex1 _ _ hx))) f2.tab
  cases b with
  | true =>
    rw [if_pos rfl] at p2 ⊢
    exact p2 S H2 σ e2 D k
  | false =>
    rw [if_neg Bool.false_ne_true] at p2 ⊢
    exact p2 S H2 σ e2 D k
end
end DL
namespace DL
open PySem PySem.Spec PyProof.Rows L2 Evl
/-! ### how long a shown value is -/
theorem join_le {B : Nat} : ∀ ts : List Str, (∀ t ∈ ts, t.length ≤ B) → (Str.join ", " ts).length ≤ ts.length * (B + 2)
  | [], _ => by show (0 : Nat) ≤ _; omega
  | [x], h => by
    have := h x List.mem_cons_self
    show x.length ≤ 1 * (B + 2)
    omega
  | x :: y :: r, h => by
    have a := h x List.mem_cons_self
    have b := join_le (y :: r) fun t ht => h t (List.mem_cons_of_mem _ ht)
    show (x ++ ", " ++ Str.join ", " (y :: r)).length ≤ _
    rw [Str.length_append, Str.length_append]
    have c : (Str.ofString ", ").length = 2 := by decide
    have d : (x :: y :: r).length = (y :: r).length + 1 := rfl
    have e : ((", " : Str)).length = 2 := c
    rw [e, d, Nat.succ_mul]
    omega
theorem tup_le {B : Nat} {ts : List Str} (h : ∀ t ∈ ts, t.length ≤ B) : (tupleText ts).length ≤ ts.length * (B + 2) + 3 := by
  have a := join_le ts h
  unfold tupleText
  rw [Str.length_append, Str.length_append]
  have e : (("(" : Str)).length = 1 := by decide
  have f : (Str.ofString (if ts.length == 1 then ",)" else ")" : String)).length ≤ 2 := by
    split <;> decide
  have f' : ((if ts.length == 1 then ",)" else ")" : String) : Str).length ≤ 2 := f
  omega
theorem shownAll_map : ∀ xs : List PyData, PyData.shownAll xs = xs.map PyData.shown
  | [] => by simp [PyData.shownAll]
  | x :: xs => by simp [PyData.shownAll, shownAll_map xs]
theorem toPs_map : ∀ xs : List D, toPs xs = xs.map toP
  | [] => by simp [toPs]
  | x :: xs => by simp [toPs, toPs_map xs]
theorem shown_pr {p : Int × Int} {k : Nat} (hk : 0 < k) (h0 : 0 ≤ p.1) (h1 : p.1 < 10 ^ k) (h2 : 0 ≤ p.2) (h3 : p.2 < 10 ^ k) : (toP (pr p)).shown.length ≤ 2 * (k + 2) + 3 := by
  have e : (toP (pr p)).shown = tupleText [Str.ofString (toString p.1), Str.ofString (toString p.2)] := by
    simp only [pr, toP, toPs, PyData.shown, PyData.shownAll]
  rw [e]
  refine tup_le fun t ht => ?_
  rcases List.mem_cons.mp ht with rfl | ht
  · exact toString_length_le h0 hk h1
  · rcases List.mem_cons.mp ht with rfl | ht
    · exact toString_length_le h2 hk h3
    · simp at ht
theorem shown_line {l : List (Int × Int)} {k : Nat} (hk : 0 < k) (h : ∀ p ∈ l, 0 ≤ p.1 ∧ p.1 < 10 ^ k ∧ 0 ≤ p.2 ∧ p.2 < 10 ^ k) : (toP (.tup (l.map pr))).shown.length ≤ l.length * (2 * (k + 2) + 3 + 2) + 3 := by
  have e : (toP (.tup (l.map pr))).shown = tupleText ((l.map fun p => (toP (pr p)).shown)) := by
    simp only [toP, PyData.shown, shownAll_map, toPs_map, List.map_map]
    rfl
  rw [e]
  have t := tup_le (B := 2 * (k + 2) + 3) (ts := l.map fun p => (toP (pr p)).shown) fun t ht => by
    obtain ⟨p, hp, rfl⟩ := List.mem_map.mp ht
    obtain ⟨a, b, c, d⟩ := h p hp
    exact shown_pr hk a b c d
  rw [List.length_map] at t
  exact t
theorem pure_line (l : List (Int × Int)) : pureD (.tup (l.map pr)) = true := by
  show pureDs (l.map pr) = true
  induction l with
  | nil => rfl
  | cons p l ih => exact ih
theorem pure_lineL (l : List (Int × Int)) : pureD (.lst (l.map prL)) = true := by
  show pureDs (l.map prL) = true
  induction l with
  | nil => rfl
  | cons p l ih => exact ih
theorem dict_line (l : List (Int × Int)) : (toP (.tup (l.map pr))).hasDict = false := by
  show PyData.hasDictAll (toPs (l.map pr)) = false
  induction l with
  | nil => rfl
  | cons p l ih => 
    show (_ || PyData.hasDictAll (toPs (l.map pr))) = false
    rw [ih]
    rfl
theorem depth_line (l : List (Int × Int)) : (toP (.tup (l.map pr))).depth ≤ 60 := by
  show PyData.depthAll (toPs (l.map pr)) + 1 ≤ 60
  have : PyData.depthAll (toPs (l.map pr)) ≤ 1 := by
    induction l with
    | nil => exact Nat.zero_le _
    | cons p l ih =>
      show max (max 0 (max 0 0) + 1) (PyData.depthAll (toPs (l.map pr))) ≤ 1
      omega
  omega
theorem log_small {i : Int} (h0 : 0 ≤ i) (h1 : i < 10 ^ 100) : i.natAbs.log2 < 1920 := by
  by_cases z : i.natAbs = 0
  · rw [z]; decide
  · rw [Nat.log2_lt z]
    have : (10 : Nat) ^ 100 < 2 ^ 1920 := by decide
    omega
theorem show_line {l : List (Int × Int)} (h : ∀ p ∈ l, 0 ≤ p.1 ∧ p.1 < 10 ^ 100 ∧ 0 ≤ p.2 ∧ p.2 < 10 ^ 100) : (toP (.tup (l.map pr))).showable = true := by
  show PyData.showableAll (toPs (l.map pr)) = true
  induction l with
  | nil => rfl
  | cons p l ih =>
    obtain ⟨a, b, c, d⟩ := h p List.mem_cons_self
    show ((decide (p.1.natAbs.log2 < 1920) && (decide (p.2.natAbs.log2 < 1920) && true)) && PyData.showableAll (toPs (l.map pr))) = true
    rw [ih fun q hq => h q (List.mem_cons_of_mem _ hq), decide_eq_true (log_small a b), decide_eq_true (log_small c d)]
    rfl
section
variable {A : Amb} {te ta tb : TE} {tt tu : TT} {tr : TA} {ts us : TS} {wi : TI} {g : TG} {ρ : Rho} {n : Nat} {T : DEnds}
/-- list * int -/
theorem drf_timesL {xs : List D} {k : Int} {P : List D → Nat → Prop} (h0 : 0 ≤ k) (h1 : k < 2 ^ 63) (hl : xs.length * k.toNat ≤ 100000) (p : P (List.replicate k.toNat xs).flatten n) : DRF A rTimes (.lst xs) (.int k) n P := fun S H v w f r1 r2 Q q => by
  obtain ⟨a, vs, rfl, e1, e2⟩ := r1.lst_inv
  cases r2.int_inv
  refine Or.inr (Or.inr ⟨a, k, vs, rfl, rfl, f.sub _ _ e1, by omega, h1, Evl.sz_of (by rw [e2.length]; exact hl), fun l hl => ?_⟩)
  exact q l _ _ S _ n (Mv.newO hl) (f.newO hl) hl upd_same (f.s0 hl) (e2.rep _) p
/-- a list of the outside, as it stood at the entry -/
theorem sq_keep {S H : Hp} {a : Addr} {xs : List V} (f : Fr A n S H) (hb : A.b = none) (h : SqL A.K A.H0 a xs) : SqL A.K H a xs := by
  have ne : some a ≠ A.b := by rw [hb]; exact fun z => nomatch z
  rcases h with (h | ⟨o, h⟩) | h
  · exact Or.inl (Or.inl (f.mv.fr a _ ne h))
  · exact Or.inl (Or.inr ⟨o, f.mv.fr a _ ne h⟩)
  · exact Or.inr h
theorem de_slRaw {i : Nat} {a : Addr} {ns : List Int} {lo hi : Option Int} {tl th : TO} {P : D → Nat → Prop} (hi' : ρ[i]? = some (.val (.raw (.ref a)))) (hb : A.b = none) (hS : SqL A.K A.H0 a (ns.map V.int))
    (hl : ∀ S H σ, ER A n S H σ ρ → ∀ Q : Option Int → Hp → Prop, Q lo H → tl σ H Q) (hh : ∀ S H σ, ER A n S H σ ρ → ∀ Q : Option Int → Hp → Prop, Q hi H → th σ H Q) (p : P (.lst (((ns.drop (HT.sIx ns.length 0 lo)).take (HT.sIx ns.length ns.length hi - HT.sIx ns.length 0 lo)).map D.int)) n) : DE A (tSl (rSlice A.K) (tVar i) tl th) ρ n P := fun S H σ e Q q => by
  obtain ⟨v, h1, h2⟩ := e.val hi'
  cases h2.raw_inv
  have hq := sq_keep e.f hb hS
  refine ⟨_, h1, hl _ _ _ e _ (hh _ _ _ e _ (Or.inl ⟨a, _, rfl, hq, fun p' hp' => ?_⟩))⟩
  have ec : cutV (ns.map V.int) lo hi = ((ns.drop (HT.sIx ns.length 0 lo)).take (HT.sIx ns.length ns.length hi - HT.sIx ns.length 0 lo)).map V.int := by
    unfold cutV
    rw [List.length_map, ← List.map_drop, ← List.map_take]
  rw [ec]
  exact q _ _ _ _ n (Mv.new e.f.sub hp') (e.f.new hp') (Rep.lst upd_same Reps.of_ints) p
theorem kp_enum (K : PySem.W.Frag) {X : Cx} {e : Expr} {ta : TA} {p pos tpos : Pos} {elts : List Expr} {kk : Nat} (hm : X.mg "enumerate" = none) (ha : PA X [e] ta) (hg : Gl X "enumerate" := by rfl) (h : X.K = K := by rfl) (hs : starEach [e] X.env = [(false, eval e X.env)] := by rfl) :
    PI X (.Tuple elts kk tpos) (.Call (.Name "enumerate" p) [e] [] pos) (iEnum K ta) := h ▸ pi_enum hg hm ha hs
def enumD (ds : List D) : List D := ds.zipIdx.map fun p => D.tup [.int (p.2 : Int), p.1]
theorem enumD_len {ds : List D} : (enumD ds).length = ds.length := by simp [enumD]
theorem enumD_get {ds : List D} {i : Nat} {d : D} (h : ds[i]? = some d) : (enumD ds)[i]? = some (.tup [.int (i : Int), d]) := by
  unfold enumD
  rw [List.getElem?_map, List.getElem?_zipIdx, h]
  simp
theorem di_enum {P : List D → Nat → Prop} (h : DE A te ρ n fun d m => ∃ ds, d = .lst ds ∧ P (enumD ds) m) : DI A (iEnum A.K (tCons te tNil)) ρ n P := fun S H σ e R q =>
  h S H σ e _ fun v d S1 H1 n1 m1 f1 r1 ⟨ds, hd, p⟩ => by
    subst hd
    obtain ⟨a, vs, rfl, h1, h2⟩ := r1.lst_inv
    refine ⟨a, vs, rfl, Evl.sq_of (f1.sub _ _ h1), q _ (enumD ds) S1 H1 n1 _ _ m1 f1 (by rw [enumD_len, ← h2.length]; exact walk_enum) (fun S2 H2 m x f => Evl.sq_of ((x.trans f.sub) _ _ h1)) (fun i S2 H2 x H3 m hi ex f y => ?_) p⟩
    obtain ⟨t, x1, x2, rfl, ht, rfl, e1, e2⟩ := y
    obtain ⟨d2, hd2, rd2⟩ := h2.getV e2
    cases e1
    exact ⟨_, _, enumD_get hd2, Mv.new f.sub ht, f.new ht, Rep.tup upd_same (Reps.cons Rep.int (Reps.one (rd2.mono (ex.trans (Mv.new (b := A.b) f.sub ht).ss))))⟩
end
end DL
namespace DL
open PySem PySem.Spec PyProof.Rows L2 Evl
/-- a promise whose result is a new list -/
def spOfF (K : PySem.W.Frag) (k : Nat) (C : DCon) : Sp := fun vs H Q E => ∃ (b : Option Addr) (S : Hp) (ds : List D) (n : Nat) (P : D → Nat → Prop),
  (Ex S H ∧ TabK K S H) ∧ BoxAt b n S H ∧ Reps K S vs ds ∧ ds.length = k ∧ C b ds n P (fun _ _ => False) ∧
  (∀ a ws es S' H' n', Mv b S H S' H' → (Ex S' H' ∧ TabK K S' H') → BoxAt b n' S' H' → H a = none → H' a = some (.lst ws) → S' a = none → Reps K S' ws es → P (.lst es) n' → Q (.ref a) H')
theorem spOfF_len {K : PySem.W.Frag} {k : Nat} {C : DCon} {vs : List V} {H : Hp} {Q : VK} {E : XK} (h : spOfF K k C vs H Q E) : vs.length = k := by
  obtain ⟨b, S, ds, n, P, _, _, r, hl, _⟩ := h
  rw [r.length, hl]
/-- a body that ends with return e, e a new list -/
theorem bodyF_of {K : PySem.W.Frag} {k : Nat} {C : DCon} {N : List Str} {t : TS} {vs : List V} {H : Hp} {Q : VK} {E : XK} (h : spOfF K k C vs H Q E)
    (hb : ∀ (A : Amb) (ds : List D) (n : Nat) (P : D → Nat → Prop), A.K = K → A.E = E → XOk A → ds.length = k → C A.b ds n P (fun _ _ => False) → ∀ σ, ER A n A.S0 A.H0 σ (rho0 ds N.length) → ∀ D : Ends,
      (∀ a ws es S' H' n', Mv A.b A.S0 A.H0 S' H' → Fr A n' S' H' → A.H0 a = none → H' a = some (.lst ws) → S' a = none → Reps A.K S' ws es → P (.lst es) n' → D.rt (.ref a) H') → t D σ A.H0) :
    t { nx := fun _ H' => Q .non H', rt := Q } (L2.start N vs) H := by
  obtain ⟨b, S, ds, n, P, hs, hbx, r, hl, hc, hq⟩ := h
  have f : Fr ⟨K, b, S, H, E, fun _ _ => False⟩ n S H := ⟨hs.1, Mv.refl, fun a e => ⟨(hbx a e).1, (hbx a e).2, (hbx a e).1.ne⟩, hs.2⟩
  exact hb ⟨K, b, S, H, E, fun _ _ => False⟩ ds n P rfl rfl (fun _ _ _ _ _ _ _ _ z => z.elim) hl hc _ (er_start (A := ⟨K, b, S, H, E, fun _ _ => False⟩) f r) _ fun a ws es S' H' n' m f' hn hh hS re p =>
    hq a ws es S' H' n' m ⟨f'.sub, f'.tab⟩ (fun a e => ⟨(f'.box a e).1, (f'.box a e).2.1⟩) hn hh hS re p
section
variable {A : Amb} {te ta tb : TE} {tt tu : TT} {tr tk : TA} {ts us : TS} {wi : TI} {g : TG} {ρ : Rho} {n k : Nat} {T : DEnds} {C : DCon}
theorem DF.go {P : List DL.D → Nat → Prop} {S H : Hp} {σ : L2.St} {Q : VK} (h : DF A te ρ n P) (e : ER A n S H σ ρ) (q : ∀ a vs ds S' H' n', Mv A.b S H S' H' → Fr A n' S' H' → H a = none → H' a = some (.lst vs) → S' a = none → Reps A.K S' vs ds → P ds n' → Q (.ref a) H') : te σ H Q := h S H σ e Q q
theorem dr_pow {i j : Int} {P : DL.D → Nat → Prop} (hc : CPow i j) (p : P (.int (i ^ j.toNat)) n) : DR A (rI CPow fun i j => .int (i ^ j.toNat)) (.int i) (.int j) n P := dr_I (fun _ _ => Rep.int) hc p
theorem ok_lineL (l : List (Int × Int)) : okD (.lst (l.map prL)) = true := by
  unfold okD
  rw [pure_lineL, Bool.true_and]
  show (PyData.canLayAll0 (toPs (l.map prL)) && decide (PyData.depthAll (toPs (l.map prL)) + 1 ≤ 64)) = true
  have a : PyData.canLayAll0 (toPs (l.map prL)) = true := by
    induction l with
    | nil => rfl
    | cons p l ih => exact ih
  have b : PyData.depthAll (toPs (l.map prL)) ≤ 1 := by
    induction l with
    | nil => exact Nat.zero_le _
    | cons p l ih =>
      have ih := ih (by exact (show PyData.canLayAll0 (toPs (l.map prL)) = true from a))
      show max (max 0 (max 0 0) + 1) (PyData.depthAll (toPs (l.map prL))) ≤ 1
      omega
  rw [a, decide_eq_true (by omega)]
  rfl
theorem none_back {S H S' H' : Hp} (f : Fr A n S H) (m : Mv A.b S H S' H') {m' : Nat} (f' : Fr A m' S' H') {a : Addr} (h : H' a = none) : H a = none := by
  cases z : H a with
  | none => rfl
  | some o => exact absurd h (m.there f'.bt (by rw [z]; exact fun y => nomatch y))
theorem callF_at {S H : Hp} {vs : List V} {ds : List D} {P : D → Nat → Prop} {Q : VK} {E : XK} (f : Fr A n S H) (r : Reps A.K S vs ds) (hl : ds.length = k) (hc : C A.b ds n P fun _ _ => False)
    (q : ∀ a ws es S' H' n', Mv A.b S H S' H' → Fr A n' S' H' → H a = none → H' a = some (.lst ws) → S' a = none → Reps A.K S' ws es → P (.lst es) n' → Q (.ref a) H') : spOfF A.K k C vs H Q E := by
  exact ⟨A.b, S, ds, n, P, ⟨f.sub, f.tab⟩, fun a e => ⟨(f.box a e).1, (f.box a e).2.1⟩, r, hl, hc,
    fun a ws es S' H' n' m ex bx hn hh hS re p => q a ws es S' H' n' m ⟨ex.1, f.mv.trans f.bt m, fun a e => ⟨(bx a e).1, (bx a e).2, (f.box a e).2.2⟩, ex.2⟩ hn hh hS re p⟩
theorem df_call0F {P : List D → Nat → Prop} {E : XK} (h : DA A tr ρ n fun ds m => ds.length = k ∧ C A.b ds m (fun d m => ∃ es, d = .lst es ∧ P es m) fun _ _ => False) : DF A (tCall (spOfF A.K k C) [] E tr) ρ n P := fun S H σ e Q q =>
  h S H σ e _ fun vs ds S1 H1 n1 m1 f1 r1 ⟨hl, hc⟩ => by
    rw [List.append_nil]
    refine callF_at f1 r1 hl hc fun a ws es S' H' n' m f hn hh hS re p => ?_
    obtain ⟨es', e1, p⟩ := p
    cases e1
    exact q a ws es S' H' n' (m1.trans f1.bt m) f (none_back e.f m1 f1 hn) hh hS re p
theorem df_callK0F {P : List D → Nat → Prop} {gV : List V → List V → List V} {E : XK} (gD : List D → List D → List D) (pg : Puts gV gD) (h : DA A tr ρ n fun ds m => DA A tk ρ m fun es m2 => (gD ds es).length = k ∧ C A.b (gD ds es) m2 (fun d m => ∃ es, d = .lst es ∧ P es m) fun _ _ => False) :
    DF A (tCallK (spOfF A.K k C) gV E tr tk) ρ n P := fun S H σ e Q q =>
  h S H σ e _ fun vs ds S1 H1 n1 m1 f1 r1 h1 => h1 S1 H1 σ (e.mv m1 f1) _ fun ws es S2 H2 n2 m2 f2 r2 ⟨hl, hc⟩ => by
    refine callF_at f2 (pg _ _ _ _ _ _ (r1.mono m2.ss) r2) hl hc fun a ws es S' H' n' m f hn hh hS re p => ?_
    obtain ⟨es', e1, p⟩ := p
    cases e1
    exact q a ws es S' H' n' ((m1.trans f1.bt m2).trans f2.bt m) f (none_back e.f m1 f1 (none_back f1 m2 f2 hn)) hh hS re p
theorem de_call0F {P : D → Nat → Prop} {E : XK} (h : DA A tr ρ n fun ds m => ds.length = k ∧ C A.b ds m (fun d m => ∃ es, d = .lst es ∧ P (.lst es) m) fun _ _ => False) : DE A (tCall (spOfF A.K k C) [] E tr) ρ n P := DE.of_fresh (df_call0F h)
theorem de_callK0F {P : D → Nat → Prop} {gV : List V → List V → List V} {E : XK} (gD : List D → List D → List D) (pg : Puts gV gD) (h : DA A tr ρ n fun ds m => DA A tk ρ m fun es m2 => (gD ds es).length = k ∧ C A.b (gD ds es) m2 (fun d m => ∃ es, d = .lst es ∧ P (.lst es) m) fun _ _ => False) :
    DE A (tCallK (spOfF A.K k C) gV E tr tk) ρ n P := DE.of_fresh (df_callK0F gD pg h)
theorem ds_par3 {i j l : Nat} (h : DA A tr ρ n fun ds m => ∃ x y z, ds = [x, y, z] ∧ T.nx (((ρ.set i (.val x)).set j (.val y)).set l (.val z)) m) : DS A (tPar3 i j l tr) ρ n T := fun S H σ e D k =>
  h S H σ e _ fun vs ds S' H' n' m f r ⟨x, y, z, hd, p⟩ => by
    subst hd
    obtain ⟨u, r1, rfl, ru, r⟩ := r.uncons
    obtain ⟨v, r2, rfl, rv, r⟩ := r.uncons
    obtain ⟨w, r3, rfl, rw', r⟩ := r.uncons
    obtain rfl : r3 = [] := by unfold Reps at r; exact r
    exact ⟨u, v, w, rfl, k.nx _ n' S' H' _ m.ss ((((e.mv m f).set ru).set rv).set rw') p⟩
/-- a list of three ints, new, for a box -/
def spBox (K : PySem.W.Frag) : Sp := fun vs H Q _ => ∃ (a : Addr) (cs : List Int) (i : Nat), vs = [.ref a, .int i] ∧ H a = some (.lst (cs.map V.int)) ∧ i < cs.length ∧ cs.length ≤ 100 ∧
  ∀ p x y, H p = none → 0 ≤ x → 0 ≤ y → y < 2 ^ 62 → Q (.ref p) (upd H p (.lst [.int x, .int y, .int 0]))
theorem spBox_len {K : PySem.W.Frag} {vs : List V} {H : Hp} {Q : VK} {E : XK} (h : spBox K vs H Q E) : vs.length = 2 := by
  obtain ⟨a, cs, i, rfl, _⟩ := h
  rfl
theorem raw_body {K : PySem.W.Frag} {N : List Str} {t : TS} {vs : List V} {ds : List DL.D} {S H : Hp} {Q : VK} {E : XK} {P : DL.D → Nat → Prop} (ex : Ex S H) (tab : TabK K S H) (r : Reps K S vs ds)
    (h : DS ⟨K, none, S, H, E, fun _ _ => False⟩ t (rho0 ds N.length) 0 { nx := fun _ _ => False, rt := P })
    (q : ∀ v d S' H' m, Mv none S H S' H' → (Ex S' H' ∧ TabK K S' H') → Rep K S' v d → P d m → Q v H') : t { nx := fun _ H' => Q .non H', rt := Q } (L2.start N vs) H := by
  have f : Fr ⟨K, none, S, H, E, fun _ _ => False⟩ 0 S H := ⟨ex, Mv.refl, fun a e => (nomatch e), tab⟩
  refine h S H _ (er_start (A := ⟨K, none, S, H, E, fun _ _ => False⟩) f r) _ ⟨?_, ?_, ?_, ?_⟩
  · exact fun _ _ _ _ _ _ _ p => p.elim
  · exact fun v d n' S' H' _ f' rv p => q v d S' H' n' f'.mv ⟨f'.sub, f'.tab⟩ rv p
  · exact fun _ _ _ _ _ _ _ p => p.elim
  · exact fun _ _ _ _ _ _ _ p => p.elim
theorem po_none_d {lo : Option Int} (h : lo = none) : ∀ S H σ, ER A n S H σ ρ → ∀ Q : Option Int → Hp → Prop, Q lo H → tNoPart σ H Q := by
  subst h
  exact fun S H σ e Q q => q
theorem po_var_d {i : Nat} {j : Int} (h : ρ[i]? = some (.val (.int j))) : ∀ S H σ, ER A n S H σ ρ → ∀ Q : Option Int → Hp → Prop, Q (some j) H → tPart (tVar i) σ H Q := fun S H σ e Q q => by
  obtain ⟨v, h1, h2⟩ := e.val h
  cases h2.int_inv
  exact ⟨_, h1, j, rfl, q⟩
theorem po_int_d {j : Int} : ∀ S H σ, ER A n S H σ ρ → ∀ Q : Option Int → Hp → Prop, Q (some j) H → tPart (tC (.int j)) σ H Q := fun S H σ e Q q => ⟨j, rfl, q⟩
theorem ok_ints (l : List Int) : okD (.lst (l.map DL.D.int)) = true := by
  show (pureDs (l.map DL.D.int) && (PyData.canLayAll0 (toPs (l.map DL.D.int)) && decide (PyData.depthAll (toPs (l.map DL.D.int)) + 1 ≤ 64))) = true
  have c : pureDs (l.map DL.D.int) = true := by
    induction l with
    | nil => rfl
    | cons p l ih => exact ih
  have a : PyData.canLayAll0 (toPs (l.map DL.D.int)) = true := by
    clear c
    induction l with
    | nil => rfl
    | cons p l ih => exact ih
  have b : PyData.depthAll (toPs (l.map DL.D.int)) ≤ 0 := by
    clear a c
    induction l with
    | nil => exact Nat.le_refl _
    | cons p l ih =>
      show max 0 (PyData.depthAll (toPs (l.map DL.D.int))) ≤ 0
      omega
  rw [a, c, decide_eq_true (by omega)]
  rfl
def spLaw (K : PySem.W.Frag) : Sp := fun vs H Q _ => ∃ (a : Addr) (ns : List Int), (vs = [.ref a] ∧ TabK K (fun _ => none) H) ∧ SqL K H a (ns.map V.int) ∧ ns.length ≤ 63 ∧ ∀ H', Q (.bl true) H'
theorem spLaw_len {K : PySem.W.Frag} {vs : List V} {H : Hp} {Q : VK} {E : XK} (h : spLaw K vs H Q E) : vs.length = 1 := by
  obtain ⟨a, ns, ⟨rfl, _⟩, _⟩ := h
  rfl
def noOwn (ρ : Rho) : Bool := ρ.all fun s => match s with | .own _ => false | .dic _ => false | .nd _ => false | _ => true
/-- box = _law_box(cells, k), then a test under the box -/
theorem ds_box {i j c : Nat} {cs : List Int} {k : Nat} {E : XK} (hb : A.b = none) (ho : noOwn ρ = true) (hc : ρ[c]? = some (.val (.lst (cs.map D.int)))) (hj : ρ[j]? = some (.val (.int (k : Int)))) (hk : k < cs.length) (hl : cs.length ≤ 100)
    (h : ∀ A' : Amb, A'.K = A.K → ∀ a, A'.b = some a → DT A' tt (ρ.set i (.val (.raw (.ref a)))) 0 fun b _ => b = true) (hn : T.nx (ρ.set i .un) n) :
    DS A (tSeq (tAsg (tCall (spBox A.K) [] E (tCons (tVar c) (tCons (tVar j) tNil))) (gName i)) (tIfS (tNot tt) ts tNext)) ρ n T := fun S H σ e D k' => by
  obtain ⟨vc, c1, c2⟩ := e.val hc
  obtain ⟨a, vs, rfl, c3, c4⟩ := c2.lst_inv
  obtain rfl := c4.intsV
  obtain ⟨vj, j1, j2⟩ := e.val hj
  cases j2.int_inv
  refine ⟨_, c1, _, j1, a, cs, k, rfl, e.f.sub _ _ c3, hk, hl, fun p x y hp x0 y0 y1 => ?_⟩
  have hSp : S p = none := e.f.s0 hp
  have ex1 : Ex S (upd H p (.lst [.int x, .int y, .int 0])) := fun z u q => by
    rw [upd_ne (ne_of_none q hSp)]
    exact e.f.sub z u q
  let A' : Amb := ⟨A.K, some p, S, upd H p (.lst [.int x, .int y, .int 0]), A.E, fun _ _ => False⟩
  have f' : Fr A' 0 S (upd H p (.lst [.int x, .int y, .int 0])) := ⟨ex1, Mv.refl, fun z q => by
    cases q
    exact ⟨⟨x, y, 0, upd_same, x0, y0, y1, by omega, by omega⟩, hSp, by show upd H p _ p ≠ none; rw [upd_same]; exact fun w => nomatch w⟩, e.f.tab.new hp⟩
  have noO : ∀ (j : Nat) (es : List DL.D), ρ[j]? ≠ some (.own es) := fun j es q => by
    have := List.all_eq_true.mp ho _ (List.mem_of_getElem? q)
    cases this
  have noD : ∀ (j : Nat) (es : List (Key × DL.D)), ρ[j]? ≠ some (.dic es) := fun j es q => by
    have := List.all_eq_true.mp ho _ (List.mem_of_getElem? q)
    cases this
  have noN : ∀ (j : Nat) (es : List (List (Int × Int) × DL.D)), ρ[j]? ≠ some (.nd es) := fun j es q => by
    have := List.all_eq_true.mp ho _ (List.mem_of_getElem? q)
    cases this
  have e' : ER A' 0 S (upd H p (.lst [.int x, .int y, .int 0])) σ ρ := ⟨f', e.len, fun m s hs => by
    obtain ⟨o, o1, o2⟩ := e.sl m s hs
    refine ⟨o, o1, ?_⟩
    cases s with
    | un => trivial
    | val d => exact o2
    | own es => exact absurd hs (noO m es)
    | dic es => exact absurd hs (noD m es)
    | nd es => exact absurd hs (noN m es), fun m q ds es _ q1 _ => absurd q1 (noO m ds)⟩
  refine h A' rfl p rfl S _ _ (e'.set Rep.raw) _ fun b S2 H2 n2 m2 f2 hb2 => ?_
  subst hb2
  have er : ER A n S H2 σ ρ := e.back (fun z q => by rw [hb] at q; cases q) (fun z o _ q nt => m2.fr z o (fun w => by
    cases w
    rw [hp] at q; cases q) (by show upd H p _ z = _; rw [upd_ne (ne_of_none q hp)]; exact q) nt) (fun z ps q => m2.tb z ps (by show upd H p _ z = _; rw [upd_ne (ne_of_none q hp)]; exact q)) (fun z u q => f2.sub _ _ (m2.ss _ _ q)) f2.tab
  exact k'.nx _ n S H2 _ (Ex.refl S) er.setUn hn
/-- the cells: a list of ints, new -/
def spCells (K : PySem.W.Frag) : Sp := fun vs H Q _ => ∃ (a : Addr) (ns : List Int) (S : Hp), (Ex S H ∧ TabK K S H) ∧ vs = [.ref a, .int 3] ∧ SqL K H a (ns.map V.int) ∧ ns.length ≤ 63 ∧
  ∀ v S' H' (cs : List Int), Mv none S H S' H' → (Ex S' H' ∧ TabK K S' H') → Rep K S' v (.lst (cs.map D.int)) → 0 < cs.length → cs.length ≤ 3 → Q v H'
theorem spCells_len {K : PySem.W.Frag} {vs : List V} {H : Hp} {Q : VK} {E : XK} (h : spCells K vs H Q E) : vs.length = 2 := by
  obtain ⟨a, ns, S, _, rfl, _⟩ := h
  rfl
theorem ds_cells {i : Nat} {a : Addr} {ns : List Int} {E : XK} (hb : A.b = none) (hS : SqL A.K A.H0 a (ns.map V.int)) (hz : ns.length ≤ 63) (h0 : ρ[0]? = some (.val (.raw (.ref a))))
    (h : ∀ cs : List Int, 0 < cs.length → cs.length ≤ 3 → T.nx (ρ.set i (.val (.lst (cs.map D.int)))) n) :
    DS A (tAsg (tCall (spCells A.K) [] E (tCons (tVar 0) (tCons (tC (.int 3)) tNil))) (gName i)) ρ n T := fun S H σ e D k' => by
  obtain ⟨v, h1, h2⟩ := e.val h0
  cases h2.raw_inv
  refine ⟨_, h1, a, ns, S, ⟨e.f.sub, e.f.tab⟩, rfl, sq_keep e.f hb hS, hz, fun v S' H' cs m ex r c0 c1 => ?_⟩
  have m' : Mv A.b S H S' H' := by rw [hb]; exact m
  have f' : Fr A n S' H' := ⟨ex.1, e.f.mv.trans e.f.bt m', (fun z q => by rw [hb] at q; cases q), ex.2⟩
  exact k'.nx _ n S' H' _ m'.ss ((e.mv m' f').set r) (h cs c0 c1)
end
end DL
namespace DL
open PySem PySem.Spec PyProof.Rows L2 Evl
/-- what is tracked at the law's call: the script, if the module does not know it -/
def scriptH (K : PySem.W.Frag) (a : Addr) (ob : Obj) (ws : List V) : Hp := fun b => if b = a ∧ (K.lookup a).isNone = true then some (.frz ob (.lst ws)) else none
section
variable {P : Program} {w : World} {K : PySem.W.Frag} {mg mb : Str → Option Value} {a : Addr} {ob : Obj} {ws : List V}
theorem scriptH_at {b : Addr} {u : HO} (h : scriptH K a ob ws b = some u) : b = a ∧ K.lookup a = none ∧ u = .frz ob (.lst ws) := by
  unfold scriptH at h
  split at h
  · next c =>
    cases h
    exact ⟨c.1, Option.isNone_iff_eq_none.mp c.2, rfl⟩
  · cases h
end
theorem FnG.void {P : Program} {w : World} {K : PySem.W.Frag} {mg : Str → Option Value} {base : Heap} {k m : Nat} {f : Addr} {fd : FuncData} {ps : List Str} : FnG P w K mg base k f fd ps (spOf K m fun _ _ _ _ _ => False) :=
  ⟨fun _ _ _ _ ⟨_, _, _, _, _, _, _, _, _, _, z, _⟩ => z.elim, fun _ _ _ _ _ _ _ _ _ _ _ _ _ _ ⟨_, _, _, _, _, _, _, _, _, _, z, _⟩ => z.elim⟩
end DL
namespace DL
open PySem PySem.Spec PyProof.Rows L2 Evl
/-! ### own error classes that keep what they are made of -/
/-- what a built-in error class is known to do -/
structure XcB (B newId initId : String) (bmB : List Value) : Prop where
  F : ExcBaseFacts B newId initId bmB
  St : StoreFacts B bmB "object.__setattr__" "object"
theorem xb_Lookup : XcB "LookupError" "LookupError.__new__" "LookupError.__init__" [.type "LookupError", .type "Exception", .type "BaseException", .type "object"] := ⟨PySem.F.excBase_LookupError, PySem.F.store_LookupError⟩
theorem xb_Runtime : XcB "RuntimeError" "RuntimeError.__new__" "RuntimeError.__init__" [.type "RuntimeError", .type "Exception", .type "BaseException", .type "object"] := ⟨PySem.F.excBase_RuntimeError, PySem.F.store_RuntimeError⟩
theorem xb_Value : XcB "ValueError" "ValueError.__new__" "ValueError.__init__" [.type "ValueError", .type "Exception", .type "BaseException", .type "object"] := ⟨PySem.F.excBase_ValueError, PySem.F.store_ValueError⟩
theorem xb_Overflow : XcB "OverflowError" "OverflowError.__new__" "OverflowError.__init__" [.type "OverflowError", .type "ArithmeticError", .type "Exception", .type "BaseException", .type "object"] := ⟨PySem.F.excBase_OverflowError, PySem.F.store_OverflowError⟩
/-- what the written part says of such a class -/
structure XcC (K : PySem.W.Frag) (C : Addr) (newId : String) (bmB : List Value) : Prop where
  cls : ∃ nm q N bs sn sub ab col dd k0 k1 k2 k3 k5, K.lookup C = some (excClassObj nm q C N bs bmB true sn sub ab col dd k0 k1 k2 k3 k5 newId)
  sa : PySem.W.findIn K (.ref C) "__setattr__" = some (some (.builtin "object.__setattr__"))
  exC : PySem.W.subIn K (.ref C) (.type "BaseException") = some true
  tyC : PySem.W.typeIn K (.ref C) = some (.type "type")
  kC : PySem.W.keepIn K (.ref C) = true
/-- the same, as a test -/
def xcB (K : PySem.W.Frag) (C : Addr) (newId : String) (bmB : List Value) : Bool := match K.lookup C with
  | some ⟨.type "type", _, .cls cd, sl⟩ => (match cd.mro, sl.toList with
    | .ref C' :: bm, [_, _, _, _, some (.builtin n), _] => C' == C && n == newId && bm == bmB && cd.hasDict && !cd.hasDel
    | _, _ => false)
  | _ => false
theorem xcB_ok {K : PySem.W.Frag} {C : Addr} {newId : String} {bmB : List Value} (h : xcB K C newId bmB = true) : ∃ nm q N bs sn sub ab col dd k0 k1 k2 k3 k5, K.lookup C = some (excClassObj nm q C N bs bmB true sn sub ab col dd k0 k1 k2 k3 k5 newId) := by
  unfold xcB at h
  split at h
  · next dd cd sl ho =>
    split at h
    · next C' bm k0 k1 k2 k3 n k5 hm hs =>
      simp only [Bool.and_eq_true, beq_iff_eq, Bool.not_eq_true'] at h
      obtain ⟨⟨⟨⟨rfl, rfl⟩, rfl⟩, hd⟩, hx⟩ := h
      obtain ⟨nm, bs, mro, ns, qn, hdc, sn, sub, ab, col, del⟩ := cd
      dsimp only at hm hd hx
      subst hm hd hx
      have e : sl = #[k0, k1, k2, k3, some (.builtin n), k5] := by
        obtain ⟨l⟩ := sl
        simp only at hs
        rw [hs]
      subst e
      exact ⟨nm, qn, ns, bs, sn, sub, ab, col, dd, k0, k1, k2, k3, k5, ho⟩
    · cases h
  · cases h
section
open Builtin Builtin.ObjectAttr
variable {prog : Program} {w : World} {A : Around} {X' : Value → Shared → Prop} {R : Result → Shared → Prop} {hh : Heap} {g : Array GenState} {dr : Drawn} {tk : Nat} {os : OsState}
variable {B newId initId : String} {bmB : List Value}
/-- the mro of such a class lets a store through -/
theorem mro_pass (F : XcB B newId initId bmB) (self : Value) (C : Addr) : refuseLoop self "__setattr__" (.ref C :: bmB) = pure () := by
  rw [refuseLoop_ref]
  exact F.St.passes self
theorem mro_obj (F : XcB B newId initId bmB) (C : Addr) : (Value.ref C :: bmB).contains (.type "object") = true := by
  rw [List.contains_cons, F.St.hasOwner, Bool.or_true]
/-- the first store: the instance gets its dict -/
theorem osa_first {K : PySem.W.Frag} {f : Str} {t0 : Tok} {y : Value} {p C : Addr} {fv : Array Value} {cd : ClassData} (F : XcB B newId initId bmB) (Kin : K.In hh) (hp : hh.get? p = some { cls := .ref C, data := .fields fv }) (hcd : PySem.W.clsIn K C = some cd) (hm : cd.mro = .ref C :: bmB) (hd : cd.hasDict = true)
    (no : PySem.W.findIn K (.ref C) f = some none)
    (fin : ∀ h2 t2 dx, (∀ b o, b ≠ p → hh.get? b = some o → h2.get? b = some o) → hh.objs.size ≤ dx → dx ≠ p → h2.get? p = some { cls := .ref C, dict := some dx, data := .fields fv } → h2.Ns1 dx (fun z => if z = f then some y else none) → R (.ok (.ret .none)) ⟨h2, g, dr, t2, os⟩) :
    codeAny (model prog w) A (.call (.builtin "object.__setattr__") ⟨[.ref p, .str f t0, y], []⟩) R ⟨hh, g, dr, tk, os⟩ := by
  have J : PySem.W.InstAt hh p { cls := .ref C, data := .fields fv } C none := ⟨hp, rfl, rfl, trivial⟩
  have So := PySem.F.store_object
  have isO : PySem.W.Looks (model prog w) hh (isInstance (.ref p) (.type "object")) true := J.type.andThen (PySem.W.looks_mroIn Kin (by
    unfold PySem.W.mroIn
    rw [hcd, Option.bind_some, hm, if_neg (by simp), mro_obj F]))
  have pne : p ≠ hh.objs.size := Nat.ne_of_lt (Heap.lt_size hp)
  have lm : PySem.W.Looks (model prog w) hh (mroOf (.ref C)) cd.mro := (PySem.W.looks_clsIn Kin hcd).andThen .now
  have lt : PySem.W.Looks (model prog w) hh (storeTaker? none) none := .now
  have lc : PySem.W.Looks (model prog w) hh (classData C) cd := PySem.W.looks_clsIn Kin hcd
  refine codeAny_call_builtin So.slot.plain So.entry (@PySem.W.check_slot (model prog w) _ _ ⟨hh, g, dr, tk, os⟩ "object.__setattr__" "object" "__setattr__" (.ref p) [.str f t0, y] [] _ So.kind So.split isO (So.args (.ref p) (.str f t0) y) ?_)
  rw [PySem.W.osa_eq, refuse_eq]
  refine wpAny_bind (wpAny_bind (J.type.at (wpAny_bind (lm.at ?_))))
  rw [hm, mro_pass F]
  refine wpAny_pure (wpAny_bind (J.type.at (wpAny_bind ((PySem.W.looks_findIn Kin no).at (wpAny_bind (lt.at ?_))))))
  show wpAny _ _ (storeInOwnDict (.ref p) (.ref C) (.str f t0) f y false) _ _ _
  obtain ⟨q1, q2, q3, q4, q5, q6, q7, q8, q9, q10, q11⟩ := cd
  dsimp only at hd
  subst hd
  unfold storeInOwnDict ownDictForStores
  repeat (first | with_reducible refine PySem.HandSPX.store_in_new ?_ ?_ | with_reducible refine wpAny_loadPart_at hp ?_ | with_reducible refine lc.at ?_ | wp_step)
  · exact ⟨_, #[], _, (Heap.get?_update_ne _ _ _ _ pne.symm).trans (Heap.get?_push_at rfl rfl), rfl, fun e z => absurd z (by simp), fun _ => rfl⟩
  · intro h2 t2 hn hs
    have hp1 : (hh.push { cls := .type "dict", data := .dict #[] }).get? p = some { cls := .ref C, data := .fields fv } := Heap.get?_push_of_some _ hp
    exact fin h2 t2 hh.objs.size (fun b o hb ho => (hs.2 b (Nat.ne_of_lt (Heap.lt_size ho))).trans ((Heap.get?_update_ne _ _ _ _ hb).trans (Heap.get?_push_of_some _ ho))) (Nat.le_refl _) pne.symm
      ((hs.2 p pne).trans (Heap.get?_update_self _ hp1 rfl)) hn
/-- a further store -/
theorem osa_next {K : PySem.W.Frag} {f : Str} {t0 : Tok} {y : Value} {p C dx : Addr} {fv : Array Value} {cd : ClassData} {m0 : Str → Option Value} {nl : List Str} (F : XcB B newId initId bmB) (Kin : K.In hh) (hp : hh.get? p = some { cls := .ref C, dict := some dx, data := .fields fv })
    (hns : hh.Ns1 dx m0) (hw : Within m0 nl) (hz : nl.length ≤ 1000) (hcd : PySem.W.clsIn K C = some cd) (hm : cd.mro = .ref C :: bmB) (hd : cd.hasDict = true) (no : PySem.W.findIn K (.ref C) f = some none)
    (fin : ∀ h2 t2, (∀ b o, b ≠ dx → hh.get? b = some o → h2.get? b = some o) → h2.Ns1 dx (fun z => if z = f then some y else m0 z) → R (.ok (.ret .none)) ⟨h2, g, dr, t2, os⟩) :
    codeAny (model prog w) A (.call (.builtin "object.__setattr__") ⟨[.ref p, .str f t0, y], []⟩) R ⟨hh, g, dr, tk, os⟩ := by
  obtain ⟨oD, eD, pD, hoD, hdD, _⟩ := hns.count hw
  have J : PySem.W.InstAt hh p { cls := .ref C, dict := some dx, data := .fields fv } C (some oD) := ⟨hp, rfl, rfl, hoD⟩
  have So := PySem.F.store_object
  have isO : PySem.W.Looks (model prog w) hh (isInstance (.ref p) (.type "object")) true := J.type.andThen (PySem.W.looks_mroIn Kin (by
    unfold PySem.W.mroIn
    rw [hcd, Option.bind_some, hm, if_neg (by simp), mro_obj F]))
  have lm : PySem.W.Looks (model prog w) hh (mroOf (.ref C)) cd.mro := (PySem.W.looks_clsIn Kin hcd).andThen .now
  have lt : PySem.W.Looks (model prog w) hh (storeTaker? none) none := .now
  have lc : PySem.W.Looks (model prog w) hh (classData C) cd := PySem.W.looks_clsIn Kin hcd
  refine codeAny_call_builtin So.slot.plain So.entry (@PySem.W.check_slot (model prog w) _ _ ⟨hh, g, dr, tk, os⟩ "object.__setattr__" "object" "__setattr__" (.ref p) [.str f t0, y] [] _ So.kind So.split isO (So.args (.ref p) (.str f t0) y) ?_)
  rw [PySem.W.osa_eq, refuse_eq]
  refine wpAny_bind (wpAny_bind (J.type.at (wpAny_bind (lm.at ?_))))
  rw [hm, mro_pass F]
  refine wpAny_pure (wpAny_bind (J.type.at (wpAny_bind ((PySem.W.looks_findIn Kin no).at (wpAny_bind (lt.at ?_))))))
  show wpAny _ _ (storeInOwnDict (.ref p) (.ref C) (.str f t0) f y false) _ _ _
  obtain ⟨q1, q2, q3, q4, q5, q6, q7, q8, q9, q10, q11⟩ := cd
  dsimp only at hd
  subst hd
  unfold storeInOwnDict ownDictForStores
  repeat (first | with_reducible refine PySem.OEX.store_in_old hns hw hz ?_ | with_reducible refine wpAny_loadPart_at hp ?_ | with_reducible refine lc.at ?_ | wp_step)
  intro h2 t2 hn hs
  exact fin h2 t2 (fun b o hb ho => (hs.2 b hb).trans ho) hn
end
section
variable {X : Cx} {pins : List (Addr × Obj)} {σ : L2.St} {H : Hp} {s : Shared} {a C dx : Addr} {f : Str} {y : V} {u : Value} {fs : List (Str × V)} {Q : Unit → Shared → Prop} {E : Value → Shared → Prop} {A : Around}
variable {B newId initId : String} {bmB : List Value}
theorem xst_new (F : XcB B newId initId bmB) (T : XcC X.K C newId bmB) (I : Inv X pins σ H s) (ha : H a = some (exo a C none)) (no : PySem.W.findIn X.K (.ref C) f = some none) (ry : RelV y u)
    (fin : ∀ dx s2, H dx = none → dx ≠ a → Inv X pins σ (upd (upd H dx (exd dx [(f, y)])) a (exo a C (some dx))) s2 → Q () s2) : wpAny (model X.prog X.w) A (setAttr (.ref a) f u) Q E s := by
  obtain ⟨nm, qn, N, bs, sn, sub, ab, col, dd, k0, k1, k2, k3, k5, hC⟩ := T.cls
  have hcd : PySem.W.clsIn X.K C = some { name := nm, bases := bs, mro := .ref C :: bmB, ns := N, qualname := qn, hasDict := true, slotNames := sn, subclasses := sub, abstract := ab, collection := col, hasDel := false } := by
    unfold PySem.W.clsIn
    rw [hC] <;> rfl
  obtain ⟨t1, ho⟩ := exo_at I.hok ha
  obtain ⟨hh, g, dr, tk, os⟩ := s
  refine PySem.W.set_plain I.kIn (ox := { cls := .ref C, dict := none, data := .fields #[.ref t1, .none, .none, .none, .bool false, .none] }) (od := none) ⟨ho, rfl, rfl, trivial⟩ T.sa ?_
  refine osa_first F I.kIn ho hcd rfl rfl no fun h2 t2 dx k dn dne hx hn => ?_
  have hnd : H dx = none := I.hok.fresh dn
  have n1 : ∀ {b : Addr} {o : Obj}, hh.get? b = some o → b ≠ dx := fun {b o} q => Nat.ne_of_lt (Nat.lt_of_lt_of_le (Heap.lt_size q) dn)
  have n2 : ∀ {b : Addr}, H b = none → b ≠ a := fun {b} n z => by
    rw [z, ha] at n
    cases n
  have un : Un X.fs [] H (upd (upd H dx (exd dx [(f, y)])) a (exo a C (some dx))) hh h2 := by
    refine ⟨fun b o q n _ _ => k b o (n2 n) q, fun b o q n _ _ => ⟨o.slots, k b o (n2 n) q⟩, fun b o q n _ => ?_, fun b o q _ => ?_, fun b xs q => ?_, fun b o v q => ?_, fun b ps q => ⟨#[], ?_⟩⟩
    · rw [upd_ne (n2 n), upd_ne (n1 q)]; exact n
    · by_cases hb : b = a
      · subst hb; exact ⟨_, hx⟩
      · exact ⟨o, k b o hb q⟩
    · rw [upd_ne (at_ne ha q exo_tup), upd_ne (ne_of_none q hnd), q]
    · rw [upd_ne (at_ne ha q exo_frz), upd_ne (ne_of_none q hnd), q]
    · rw [upd_ne (at_ne ha q exo_tbl), upd_ne (ne_of_none q hnd), q, Array.append_empty]
  refine fin dx _ hnd dne (I.un (t' := t2) un fun b o q => ?_)
  by_cases hb : b = a
  · subst hb
    rw [upd_same] at q; cases q
    exact exo_ok hx
  rw [upd_ne hb] at q
  by_cases hd : b = dx
  · subst hd
    rw [upd_same] at q; cases q
    exact exd_ok hn (relO_put (fs := []) ry fun _ => True.intro)
  rw [upd_ne hd] at q
  refine (I.hok b o q).stay (fun c v hc z => k c v ?_ z) (fun c hc => ?_) (fun c xs hc => ?_)
  · rcases hc with rfl | hc
    · exact hb
    · exact at_ne ha hc exo_own
  · rw [upd_ne (at_ne ha hc exo_own), upd_ne (ne_of_none hc hnd), hc]
  · rw [upd_ne (at_ne ha hc exo_tup), upd_ne (ne_of_none hc hnd), hc]
theorem xst_old (F : XcB B newId initId bmB) (T : XcC X.K C newId bmB) (I : Inv X pins σ H s) (ha : H a = some (exo a C (some dx))) (hd : H dx = some (exd dx fs)) (hl : fs.length ≤ 900) (no : PySem.W.findIn X.K (.ref C) f = some none) (ry : RelV y u)
    (fin : ∀ s2, Inv X pins σ (upd H dx (exd dx ((f, y) :: fs))) s2 → Q () s2) : wpAny (model X.prog X.w) A (setAttr (.ref a) f u) Q E s := by
  obtain ⟨nm, qn, N, bs, sn, sub, ab, col, dd, k0, k1, k2, k3, k5, hC⟩ := T.cls
  have hcd : PySem.W.clsIn X.K C = some { name := nm, bases := bs, mro := .ref C :: bmB, ns := N, qualname := qn, hasDict := true, slotNames := sn, subclasses := sub, abstract := ab, collection := col, hasDel := false } := by
    unfold PySem.W.clsIn
    rw [hC] <;> rfl
  obtain ⟨t1, ho⟩ := exo_at I.hok ha
  obtain ⟨mA, hns, rel⟩ := exd_at I.hok hd
  have wi := within_of rel
  obtain ⟨hh, g, dr, tk, os⟩ := s
  obtain ⟨oD, eD, pD, hoD, hdD, _⟩ := hns.count wi
  refine PySem.W.set_plain I.kIn (ox := { cls := .ref C, dict := some dx, data := .fields #[.ref t1, .none, .none, .none, .bool false, .none] }) (od := some oD) ⟨ho, rfl, rfl, hoD⟩ T.sa ?_
  refine osa_next F I.kIn ho hns wi (by rw [List.length_map]; omega) hcd rfl rfl no fun h2 t2 k hn => ?_
  have there : ∃ o, h2.get? dx = some o := by
    obtain ⟨o, e1, e2, e', _⟩ := hn
    exact ⟨o, e'⟩
  refine fin _ (I.write (t' := t2) (x := dx) (e := dx) (o := exd dx ((f, y) :: fs)) ?_ (.inl rfl) k there (exd_ok hn (relO_put ry rel)))
  rw [hd]
  exact True.intro
end
/-- self.f = e, self such a new instance -/
def tXst (K : PySem.W.Frag) (f : Str) (to te : TE) : TS := fun D σ H => te σ H fun y H1 => to σ H1 fun x H2 => ∃ (a C : Addr) (B newId initId : String) (bmB : List Value), x = .ref a ∧ XcB B newId initId bmB ∧ XcC K C newId bmB ∧ PySem.W.findIn K (.ref C) f = some none ∧
  ((H2 a = some (exo a C none) ∧ ∀ dx, H2 dx = none → dx ≠ a → D.nx σ (upd (upd H2 dx (exd dx [(f, y)])) a (exo a C (some dx)))) ∨
    ∃ (dx : Addr) (fs : List (Str × V)), H2 a = some (exo a C (some dx)) ∧ H2 dx = some (exd dx fs) ∧ fs.length ≤ 900 ∧ D.nx σ (upd H2 dx (exd dx ((f, y) :: fs))))
/-- C(e, ..) that is raised at once; its __init__ keeps sp -/
def tXmk (C : Addr) (sp : Sp) (ta : TA) : L2.St → Hp → XK → Prop := fun σ H Q => ta σ H fun vs H1 => vs.length ≤ 1000 ∧ ∀ a, H1 a = none → sp (.ref a :: vs) (upd H1 a (exo a C none))
  (fun v H2 => v = .non ∧ ∃ (d : Addr) (fs : List (Str × V)), H2 a = some (exo a C (some d)) ∧ H2 d = some (exd d fs) ∧ H1 d = none ∧ Q (.ref C) (some d) (upd (del H2 a) d (.xd fs))) (fun _ _ _ => False)
section
variable {X : Cx} {o e : Expr} {es : List Expr} {to te : TE} {ta : TA} {f : Str} {p p' pos : Pos} {B newId initId : String} {bmB : List Value}
theorem ps_xst (ho : PE X o to) (he : PE X e te) (hs : swapsWith e (some (.Attribute o f p')) pos.line X.env = pure false := by rfl) : PS X (.Assign [.Attribute o f p'] e pos) (tXst X.K f to te) := by
  constructor
  intro pins s σ H D I h
  refine plainObj_wpAny_Assign_Attribute (thn (he.run pins s σ H _ I h) ?_) hs
  rintro v s1 ⟨y, H1, I1, r1, q1⟩
  refine thn (ho.run pins s1 σ H1 _ I1 q1) ?_
  rintro u s2 ⟨x, H2, I2, r2, a, C, B, n1, n2, bmB, rfl, F, T, no, q⟩
  obtain rfl : u = Value.ref a := r2
  rcases q with ⟨ea, q⟩ | ⟨dx, fs, ea, ed, hl, q⟩
  · exact xst_new F T I2 ea no r1 fun dx s' n ne J => ⟨σ, _, J, q dx n ne⟩
  · exact xst_old F T I2 ea ed hl no r1 fun s' J => ⟨σ, _, J, q⟩
theorem pmk_x {x : Str} {C fI : Addr} {k : Nat} {fd : FuncData} {ps : List Str} {sp : Sp} (F : XcB B newId initId bmB) (T : XcC X.K C newId bmB) (iC : PySem.W.findIn X.K (.ref C) "__init__" = some (some (.ref fI))) (tI : PySem.W.typeIn X.K (.ref fI) = some (.type "function"))
    (G : FnG X.prog X.w X.K X.mg X.base k fI fd ps sp) (hgd : X.A.guards = some []) (hr : Room (k + 1) X.A) (hb : Binds X.K fd ps []) (hx : Passes (L2.CX X.prog X.w) X (fun _ _ _ => False)) (hm : X.mg x = some (.ref C)) (ha : PA X (e :: es) ta) (hg : Gl X x := by rfl)
    (hdb : (x == ("__debug__" : Str)) = false := by decide) (he : starEach (e :: es) X.env = (false, eval e X.env) :: starEach es X.env := by rfl) (hpl : (backTo pos (starEach es X.env)).any (·.1) = false := by rfl) :
    PMk X (.Call (.Name x p) (e :: es) [] pos) (tXmk C sp ta) := by
  intro pins s σ H Q I h
  obtain ⟨nm, qn, N, bs, sn, sub, ab, col, dd, k0, k1, k2, k3, k5, hC⟩ := T.cls
  refine wpAny_Call_Name_kw (ld_glob I hg hm ?_ hdb)
  refine PySem.W.callWith_K (h₀ := X.base) I.ok.mod.kin T.kC (thn (ha.run pos pins s σ H _ I h) ?_) he hpl
  rintro us s1 ⟨vs, H1, I1, r1, hz, q1⟩
  refine ⟨I1.kIn, ?_⟩
  show wpAny _ _ (call (.ref C) us) _ _ _
  obtain ⟨hh, g, dr, tk, os⟩ := s1
  have above : hh.objs.size ≤ hh.objs.size + 1 := Nat.le_succ _
  have hn : H1 (hh.objs.size + 1) = none := I1.hok.fresh above
  have hq := q1 (hh.objs.size + 1) hn
  let h2 : Heap := (hh.push (PySem.W.kdv_tup us)).push (PySem.HandSPX.excO C hh.objs.size)
  have keep : ∀ b o, hh.get? b = some o → h2.get? b = some o := fun b o e => Heap.get?_push_of_some _ (Heap.get?_push_of_some _ e)
  have hget : h2.get? (hh.objs.size + 1) = some (PySem.HandSPX.excO C hh.objs.size) := by
    show ((hh.push (PySem.W.kdv_tup us)).push (PySem.HandSPX.excO C hh.objs.size)).get? (hh.objs.size + 1) = _
    heap_get
  have I2 : Inv X pins σ (upd H1 (hh.objs.size + 1) (exo (hh.objs.size + 1) C none)) ⟨h2, g, dr, tk, os⟩ := I1.laid (t' := tk) (h' := h2) keep above (exo_ok hget)
  have r2 : Vals (V.ref (hh.objs.size + 1) :: vs) (Value.ref (hh.objs.size + 1) :: us) := .cons rfl r1
  have hl : (Value.ref (hh.objs.size + 1) :: us).length = ps.length := by rw [← r2.length]; exact G.arity _ _ _ _ hq
  have hus : us.length ≤ sizeLine := by
    rw [← Paired.length r1, sizeLine_eq]
    omega
  have bind := hb ⟨h2, g, dr, tk, os⟩ (Value.ref (hh.objs.size + 1) :: us) I2.kIn (by rw [List.append_nil]; exact hl)
  rw [List.append_nil] at bind
  have gu : (X.A.under (.builtin "type.__call__" ⟨.ref C :: us, []⟩)).guards = some [] := by
    first
      | exact hgd
      | (rw [← hgd]; rfl)
  refine wpAny_call (PySem.HandSPX.call_own F.F (fun _ => rfl) (I1.kIn _ _ hC) (PySem.W.looks_findIn I1.kIn iC) (fun self => PySem.W.bind_fn I1.kIn self tI) hus ?_)
  refine codeAny_mono (G.go _ gu (hr.make C us []) X.stack _ _ (I2.env0.make C us []) _ _ _ bind r2 _ (fun _ _ _ => False) hq) ?_
  rintro (er | fl) s' hq'
  · exact hx pins σ _ _ er s' I2 hq'
  · cases fl with
    | ret u =>
      obtain ⟨v, H2, os2, bare2, un2, hok2, rv, ev, d, fs, ea, ed, hd1, q2⟩ := hq'
      subst ev
      obtain ⟨h3, g3, d3, t3, os3⟩ := s'
      exact ⟨rv, mk_end (raises_own T.exC T.tyC) I1 above keep un2 hok2 os2 bare2 ea ed hd1 q2⟩
    | next => exact hq'
    | brk => exact hq'
    | cont => exact hq'
end
end DL
namespace DL
open PySem PySem.Spec PyProof.Rows L2 Evl
/-! ### except (A, B, ..) as e -/
section
variable {M : Model} {h : Heap} {β : Type}
theorem looks_each (body : Value → β → Sem (ForInStep β)) (r : β) : ∀ l : List Value, (∀ c ∈ l, PySem.W.Looks M h (body c r) (.yield r)) → PySem.W.Looks M h (forIn l r body) r
  | [], _ => by
    rw [List.forIn_nil]
    exact PySem.W.Looks.now
  | c :: l, k => by
    rw [List.forIn_cons]
    exact (k c List.mem_cons_self).andThen (looks_each body r l fun d hd => k d (List.mem_cons_of_mem _ hd))
theorem looks_first (body : Value → β → Sem (ForInStep β)) (r r' : β) (f : Value → Bool) : ∀ l : List Value, (∀ c ∈ l, PySem.W.Looks M h (body c r) (if f c then .done r' else .yield r)) → PySem.W.Looks M h (forIn l r body) (if l.any f then r' else r)
  | [], _ => by
    rw [List.forIn_nil]
    exact PySem.W.Looks.now
  | c :: l, k => by
    rw [List.forIn_cons]
    refine (k c List.mem_cons_self).andThen ?_
    rw [List.any_cons]
    cases f c with
    | true => exact PySem.W.Looks.now
    | false =>
      rw [Bool.false_or]
      exact looks_first body r r' f l fun d hd => k d (List.mem_cons_of_mem _ hd)
end
theorem exmAny_each {K : PySem.W.Frag} {cls : Value} : ∀ {cs : List Value} {b : Bool}, PySem.W.exmAny K cls cs = some b → (∀ c ∈ cs, PySem.W.exmOne K cls c = some (PySem.W.exmOne K cls c == some true)) ∧ b = cs.any fun c => PySem.W.exmOne K cls c == some true
  | [], b, e => ⟨fun c hc => absurd hc (by simp), by cases e; rfl⟩
  | c :: r, b, e => by
    obtain ⟨b1, d1, h1, h2, h3⟩ := PySem.W.exmAny_cons e
    obtain ⟨k1, k2⟩ := exmAny_each h2
    have e1 : (PySem.W.exmOne K cls c == some true) = b1 := by rw [h1]; cases b1 <;> rfl
    refine ⟨fun d hd => ?_, ?_⟩
    · rcases List.mem_cons.mp hd with rfl | hd
      · rw [e1, h1]
      · exact k1 d hd
    · rw [List.any_cons, e1, h3, k2]
theorem exm_tup {M : Model} {K : PySem.W.Frag} {h : Heap} {cs : List Value} {cls : Value} {tp e : Addr} {b : Bool} {o : Obj} {n : Nat} (Kin : K.In h) (LT : PySem.W.Looks M h (typeOf (.ref e)) cls) (hp : h.get? tp = some o) (hc : o.cls = .type "tuple") (hd : o.data = .seq cs.toArray n)
    (hx : PySem.W.exmAny K cls cs = some b) : PySem.W.Looks M h (excMatches (.ref e) (.ref tp)) b := by
  obtain ⟨each, eb⟩ := exmAny_each hx
  have isT : PySem.W.Looks M h (isInstance (.ref tp) (.type "tuple")) true := by
    refine PySem.W.Looks.andThen (a := Value.type "tuple") ?_ (PySem.W.Looks.of_pure isSubtype_tuple_tuple)
    intro A Q E s k q
    exact wpAny_typeOf_ref (k _ _ hp) (by rw [hc]; exact q)
  have items : PySem.W.Looks M h (seqItems? (.ref tp)) (some cs.toArray) := fun A Q E s k q => wpAny_seqItems (k _ _ hp) hd q
  unfold excMatches
  refine isT.andThen ?_
  dsimp only
  rw [if_pos rfl]
  refine items.andThen ?_
  refine PySem.W.Looks.andThen (a := cs) PySem.W.Looks.now ?_
  refine PySem.W.Looks.andThen (a := PUnit.unit) (looks_each _ _ cs fun c hc => ?_) ?_
  · obtain ⟨x1, x2⟩ := PySem.W.exm_cls (M := M) Kin (each c hc)
    refine x1.andThen ?_
    exact PySem.W.Looks.now
  · refine LT.andThen ?_
    refine PySem.W.Looks.andThen (looks_first _ _ (some true, ()) (fun c => PySem.W.exmOne K cls c == some true) cs fun c hc => ?_) ?_
    · obtain ⟨x1, x2⟩ := PySem.W.exm_cls (M := M) Kin (each c hc)
      refine x2.andThen ?_
      cases (PySem.W.exmOne K cls c == some true) <;> exact PySem.W.Looks.now
    · rw [← eb]
      cases b <;> exact PySem.W.Looks.now
section
variable {X : Cx} {pins : List (Addr × Obj)} {σ : L2.St} {H : Hp} {s sI : Shared} {a : Addr} {o : HO}
/-- an object of ours that is not tracked is tracked from now on -/
theorem Inv_track (I : Inv X pins σ H s) (n0 : X.s_0.heap.get? a = none) (na : H a = none) (nL : a ≠ X.env.locals) (nc : ∀ x c, X.env.cells.lookup x = some c → c ≠ a) (np : ∀ p ∈ X.pn ++ pins, p.1 ≠ a) (new : ObjOk X.prog X.w (upd H a o) s.heap a o) : Inv X pins σ (upd H a o) s := by
  have old : ∀ b u, X.s_0.heap.get? b = some u → b ≠ a := fun b u e z => by
    rw [z, n0] at e
    cases e
  refine ⟨I.ok, I.os, I.bare, ⟨I.base.keep, I.base.slot, fun b u e n hx => ?_, I.base.there, fun b xs e => ?_, fun b u v e => ?_, fun b ps e => ?_⟩, I.loc, I.cell, ?_, fun x c e => ?_, fun p hp => ?_, I.hok.laidN (fun _ _ q => q) na new, I.len⟩
  · rw [upd_ne (old b u e)]
    exact I.base.free b u e n hx
  · have q := I.base.tups b xs e
    rw [upd_ne (ne_of_none q na)]; exact q
  · have q := I.base.frzs b u v e
    rw [upd_ne (ne_of_none q na)]; exact q
  · obtain ⟨m, q⟩ := I.base.tbls b ps e
    exact ⟨m, by rw [upd_ne (ne_of_none q na)]; exact q⟩
  · rw [upd_ne nL.symm]; exact I.free
  · rw [upd_ne (nc x c e)]; exact I.freeC x c e
  · obtain ⟨h1, h2, h3, h4, h5⟩ := I.pin p hp
    exact ⟨h1, by rw [upd_ne (np p hp)]; exact h2, h3, h4, h5⟩
/-- what was not there in a state of ours is none of what is known -/
theorem Inv_gone (J : Inv X pins σ H sI) (g : sI.heap.get? a = none) (hex : X.ex = []) : X.s_0.heap.get? a = none ∧ a ≠ X.env.locals ∧ (∀ x c, X.env.cells.lookup x = some c → c ≠ a) ∧ ∀ p ∈ X.pn ++ pins, p.1 ≠ a := by
  refine ⟨?_, fun z => ?_, fun x c e z => ?_, fun p hp z => ?_⟩
  · cases e : X.s_0.heap.get? a with
    | none => rfl
    | some u =>
      obtain ⟨u', q⟩ := J.base.there a u e (by rw [hex]; exact fun z => nomatch z)
      rw [g] at q; cases q
  · obtain ⟨m, ⟨oL, _, _, q, _⟩, _⟩ := J.loc
    rw [← z, g] at q; cases q
  · obtain ⟨v, oc, q, _⟩ := J.cell x c e
    rw [z, g] at q; cases q
  · have q := (J.pin p hp).1
    rw [z, g] at q; cases q
end
/-- the classes that an except clause names -/
inductive NamesAll (X : Cx) : List Expr → List Value → Prop
  | nil : NamesAll X [] []
  | cons {x : Str} {c : Value} {p : Pos} {es : List Expr} {cs : List Value} (h : Names X x c) (r : NamesAll X es cs) : NamesAll X (.Name x p :: es) (c :: cs)
theorem NamesAll.suite {X : Cx} {a : Addr} {pn : List (Addr × Obj)} : ∀ {es : List Expr} {cs : List Value}, NamesAll X es cs → NamesAll (X.suite a pn) es cs
  | _, _, .nil => .nil
  | _, _, .cons h r => .cons h r.suite
/-- such an exception, held -/
def ExHv (cls : Value) (d : Option Addr) (a : Addr) : HO := .ext fun h => ∃ (oe : Obj) (vs : Array Value), h.get? a = some oe ∧ oe.cls = cls ∧ oe.dict = d ∧ oe.data = .fields vs
theorem exHv_ok {P : Program} {w : World} {H : Hp} {h : Heap} {a : Addr} {cls : Value} {d : Option Addr} {oe : Obj} {vs : Array Value} (e : h.get? a = some oe) (z : Zc cls d oe) (q : oe.data = .fields vs) : ObjOk P w H h a (ExHv cls d a) :=
  ⟨⟨oe, vs, e, z.1, z.2, q⟩, ⟨oe, e⟩, fun _ _ ⟨u, v, q1, q2⟩ k => ⟨u, v, k u q1, q2⟩⟩
/-- what the clause 'except (..) as n' wishes of an exception of the body; behind the suite it is held at a -/
def wTup (K : PySem.W.Frag) (cs : List Value) (i : Nat) (ts : Addr → Value → Option Addr → TS) (D : Ends) : WX := fun cls d σ H =>
  PySem.W.exmAny K cls cs = some true ∧ ∀ a, H a = none → ts a cls d { nx := fun σ' H' => H' a = none ∧ D.nx (σ'.set i none) (upd H' a (ExHv cls d a)), rt := D.rt, bk := fun σ' H' => D.bk (σ'.set i none) H', ct := fun σ' H' => D.ct (σ'.set i none) H' } (σ.set i (some (.ref a))) H
section
variable {X : Cx} {n : Str} {i kk : Nat} {body suite : List Stmt} {b₀ : Stmt} {es : List Expr} {cs : List Value} {tpos pos pos' : Pos} {tb : WX → TS} {ts : Addr → Value → Option Addr → TS}
theorem names_spliced {pins : List (Addr × Obj)} {σ : L2.St} {H : Hp} {s : Shared} {E : Value → Shared → Prop} (I : Inv X pins σ H s) : ∀ {es : List Expr} {cs : List Value}, NamesAll X es cs → ∀ {Q : List Value → Shared → Prop}, Q cs s → wpAny (model X.prog X.w) X.A (spliced (backTo tpos (starEach es X.env))) Q E s
  | _, _, .nil, Q, q => spliced_none q
  | _, _, .cons ⟨hg, hdb, hm⟩ r, Q, q => by
    refine spliced_more ?_
    have go := names_spliced (E := E) I r (Q := fun vs s2 => Q (_ :: vs) s2) q
    rcases hm with hm | ⟨hm, hv, hn⟩
    · exact ld_glob I hg hm go hdb
    · exact ld_blt I hg hm hv go hn hdb
theorem ps_try_tup (hs : X.stack = X.env :: X.outer) (hf : X.env.frame = some X.env.locals) (hN : X.N.Nodup) (hi : X.N[i]? = some n) (hln : X.env.kindOf n = some .local) (hex : X.ex = []) (hc : NamesAll X es cs) (hcl : cs.length ≤ sizeLine)
    (hb : ∀ (W : WX) (pn : List (Addr × Obj)) (xe : Value → Shared → Prop), Takes (X.tr pn xe) W → PassesOwn (model X.prog X.w) X.A X.env xe → PSs (X.tr pn xe) body (tb W))
    (hsu : ∀ (a : Addr) (oe : Obj) (cls : Value) (d : Option Addr) (pn : List (Addr × Obj)), Zc cls d oe → (∃ vs, oe.data = .fields vs) → PSs (X.suite a ((a, oe) :: pn)) (b₀ :: suite) (ts a cls d)) :
    PS X (.Try body [.ExceptHandler (some (.Tuple es kk tpos)) (some n) (b₀ :: suite) pos'] [] [] pos) (fun D σ H => tb (wTup X.K cs i ts D) D σ H) := by
  constructor
  intro pins s σ H D I h
  have ok := I.ok
  have hfr : X.A.frames = some (X.env :: X.outer) := by rw [ok.frames, hs]
  have hloc : Loc X.env.scope n := .inl hln
  refine wpAny_Try_except ?_
  let cat : Value → Shared → Prop := fun e s1 => wpAny (model X.prog X.w) X.A (noteFrame e X.env) (fun _ s2 => wpAny (model X.prog X.w) X.A (setFlight e none) (fun _ s3 =>
    wpAny (model X.prog X.w) X.A (handleBy e X.env [.ExceptHandler (some (.Tuple es kk tpos)) (some n) (b₀ :: suite) pos']) (SP X pins D) X.xe s3) X.xe s2) X.xe s1
  have catch_ : Takes (X.tr (X.pn ++ pins) cat) (wTup X.K cs i ts D) := by
    rintro u s' ⟨a, B, sI, pins', σ', H', cls, d, rfl, J', nb, up, sky, na, os, ag, hm, hyes⟩
    have J : Inv X pins σ' H' sI := J'.ofTry ok
    have sky' : Sky B (X.env :: X.outer) a (Zc cls d) X.env.locals s'.heap := by rw [← hs]; exact sky
    show wpAny (model X.prog X.w) X.A (noteFrame (.ref a) X.env) _ _ _
    refine Sky.land Zc.steady hfr hf sky' fun h3 fl3 up3 => ?_
    have J3 : Inv X pins σ' H' { s' with heap := h3 } := J.landed nb fl3.1 (up.trans up3) os ag
    obtain ⟨oe3, vs3, he3, hz3, hd3⟩ := fl3.there
    have nfr : a ∉ frs (X.env :: X.outer) := fun hm => by
      obtain ⟨_, o', e', hnf⟩ := fl3.2.2.1.mem hm
      rw [he3] at e'; cases e'
      exact hnf _ hd3
    have nL : a ≠ X.env.locals := fun z => nfr (List.mem_filterMap.mpr ⟨X.env, List.mem_cons_self, by rw [hf, z]⟩)
    have nF : a ∉ X.fs := fun hm => by
      obtain ⟨e, he, q⟩ := List.mem_filterMap.mp hm
      exact nfr (List.mem_filterMap.mpr ⟨e, List.mem_cons_of_mem _ he, q⟩)
    have gone : sI.heap.get? a = none := by
      cases e : sI.heap.get? a with
      | none => rfl
      | some u =>
        have z := nb a u e (by rw [hs]; exact nfr)
        rw [fl3.2.1] at z; cases z
    obtain ⟨g1, g2, g3, g4⟩ := Inv_gone J gone hex
    refine wpAny_handleBy_cons (codeAny_handlers_test ?_) (by intro q; cases q)
    -- the tuple of classes
    have S3 := J3.suite he3 hd3 na nL nF
    refine Tuple_ (names_spliced (X := X.suite a ((a, oe3) :: (X.pn ++ pins))) S3 hc.suite ?_)
    refine wpAny_newObj_type ?_ hcl
    let h4 : Heap := h3.push { cls := .type "tuple", dict := none, data := .seq cs.toArray }
    have k4 : ∀ b o, h3.get? b = some o → h4.get? b = some o := fun b o e => Heap.get?_push_of_some _ e
    have up4 : h3.UpToSlots h4 := Heap.UpToSlots.of_keeps k4
    have fl4 : PySem.HandSPX.FlyingZ B (X.env :: X.outer) a (Zc cls d) h4 := by
      obtain ⟨f1, f2, f3, oe, vs, T, oT, tt, x1, x2, x3, x4, x5, x6, x7, x8, x9⟩ := fl3
      exact ⟨fun b o e => k4 b o (f1 b o e), f2, f3.of_keeps fun b o e _ => ⟨o, k4 b o e, rfl⟩, oe, vs, T, oT, tt, k4 _ _ x1, x2, x3, x4, x5, x6, k4 _ _ x7, x8, x9⟩
    have J4 : Inv X pins σ' H' { s' with heap := h4 } := J.landed nb fl4.1 ((up.trans up3).trans up4) os ag
    have LT : PySem.W.Looks (model X.prog X.w) h4 (typeOf (.ref a)) cls := fun A Q E s k q => wpAny_typeOf_ref (k _ _ (k4 _ _ he3)) (by rw [hz3.1]; exact q)
    have LM := exm_tup (M := model X.prog X.w) J4.kIn LT (tp := h3.objs.size) (Heap.get?_push_size h3 rfl) rfl rfl hm
    refine LM.here ?_
    -- the suite
    refine codeAny_handlers_suite_as ?_
    refine PySem.HandSPX.lands_againZ fl4 fun h5 fl5 up5 => ?_
    have J5 : Inv X pins σ' H' { s' with heap := h5 } := J.landed nb fl5.1 (((up.trans up3).trans up4).trans up5) os ag
    obtain ⟨oe5, vs5, he5, hz5, hd5⟩ := fl5.there
    have S5 := J5.suite he5 hd5 na nL nF
    refine store_ok (X := X.suite a ((a, oe5) :: (X.pn ++ pins))) (v := .ref a) S5 hN hi hloc rfl (fun s6 S6 => ?_) (.inr hln)
    refine wpAny_mono ((hsu a oe5 cls d (X.pn ++ pins) hz5 ⟨_, hd5⟩).run [] s6 _ H' _ S6 (hyes a na)) (fun f s7 hsp => ?_) (fun _ _ z => False.elim z)
    have fin : ∀ {σ6 : L2.St} {H6 : Hp} {Q : Shared → Prop}, Inv (X.suite a ((a, oe5) :: (X.pn ++ pins))) [] σ6 H6 s7 → (∀ s8, Inv X pins (σ6.set i none) H6 s8 → Q s8) →
        wpAny (model X.prog X.w) X.A (do bindName X.env n .none; unbindBehindTheSuite X.env n pos') (fun _ s8 => Q s8) X.xe s7 := fun {σ6 H6 Q} S7 hq => gone_ok (S7.unsuite ok) hN hi hln hq
    cases f with
    | next =>
      obtain ⟨σ7, H7, S7, n7, q7⟩ := hsp
      have pin := (S7.pin (a, oe5) (List.mem_append_left _ List.mem_cons_self)).1
      have S8 : Inv X pins σ7 (upd H7 a (ExHv cls d a)) s7 := Inv_track (S7.unsuite ok) g1 n7 g2 g3 g4 (exHv_ok pin hz5 hd5)
      exact gone_ok S8 hN hi hln fun s8 J8 => ⟨_, _, J8, q7⟩
    | brk =>
      obtain ⟨σ7, H7, S7, q7⟩ := hsp
      exact fin S7 fun s8 J8 => ⟨_, _, J8, q7⟩
    | cont =>
      obtain ⟨σ7, H7, S7, q7⟩ := hsp
      exact fin S7 fun s8 J8 => ⟨_, _, J8, q7⟩
    | ret u =>
      obtain ⟨v7, σ7, H7, S7, r7, q7⟩ := hsp
      exact fin S7 fun s8 J8 => ⟨_, _, _, J8, r7, q7⟩
  refine wpAny_mono ((hb (wTup X.K cs i ts D) (X.pn ++ pins) cat catch_ PassesOwn.looking).run [] s σ H D (I.toTry _) h) (fun f s1 hsp => ?_) (fun e s1 he => he)
  cases f with
  | next =>
    obtain ⟨σ', H', J', q⟩ := hsp
    exact wpAny_execs_nil ⟨σ', H', J'.ofTry ok, q⟩
  | brk =>
    obtain ⟨σ', H', J', q⟩ := hsp
    exact ⟨σ', H', J'.ofTry ok, q⟩
  | cont =>
    obtain ⟨σ', H', J', q⟩ := hsp
    exact ⟨σ', H', J'.ofTry ok, q⟩
  | ret u =>
    obtain ⟨v, σ', H', J', r, q⟩ := hsp
    exact ⟨v, σ', H', J'.ofTry ok, r, q⟩
end
end DL
namespace DL
open PySem PySem.Spec PyProof.Rows L2 Evl
/-! ### what a held error is asked -/
section
variable {X : Cx} {pins : List (Addr × Obj)} {σ : L2.St} {H : Hp} {s : Shared} {a D dd : Addr} {fs : List (Str × V)}
theorem held_at (I : Inv X pins σ H s) (ha : H a = some (ExH D dd a)) (hd : H dd = some (.xd fs)) : ∃ oe od, PySem.W.InstAt s.heap a oe D (some od) ∧ ∀ f, ∃ m : Option Value, PySem.W.lookIn f od = some m ∧ RelO (fs.lookup f) m := by
  obtain ⟨⟨oe, vs, e1, e2, e3, e4⟩, _⟩ := (show ObjOk X.prog X.w H s.heap a (ExH D dd a) from I.hok a _ ha)
  obtain ⟨mA, hns, hr⟩ := (show ObjOk X.prog X.w H s.heap dd (.xd fs) from I.hok dd _ hd)
  obtain ⟨od, ho, hl⟩ := lookIn_ns hns
  exact ⟨oe, od, ⟨e1, e2, by unfold PySem.W.notCls; rw [e4] <;> rfl, by rw [e3]; exact ho⟩, fun f => ⟨mA f, hl f, hr f⟩⟩
end
/-- isinstance(x, c), a held error among what x may be -/
def rIsX (K : PySem.W.Frag) : List V → Hp → VK → Prop := fun xs H Q => rIsi K xs H Q ∨ ∃ (a D dd : Addr) (fs : List (Str × V)) (c : V) (u : Value) (b : Bool), xs = [.ref a, c] ∧ ClsV c u ∧ ExcC K D ∧ H a = some (ExH D dd a) ∧ H dd = some (.xd fs) ∧ PySem.W.kitOne K (.ref D) u = some b ∧ Q (.bl b) H
/-- isinstance(x, (c, ..)) -/
def rIsXT (K : PySem.W.Frag) : List V → Hp → VK → Prop := fun xs H Q => rIsiT K xs H Q ∨ ∃ (a D dd tp : Addr) (fs : List (Str × V)) (cs : List V) (us : List Value) (b : Bool), xs = [.ref a, .ref tp] ∧ H tp = some (.tup cs) ∧ Paired ClsV cs us ∧ ExcC K D ∧ H a = some (ExH D dd a) ∧ H dd = some (.xd fs) ∧ PySem.W.kitAny K (.ref D) us = some b ∧ Q (.bl b) H
theorem dict_cls {K : PySem.W.Frag} {D : Addr} (h : PySem.W.hasDictIn K D = true) : (PySem.W.clsIn K D).isSome = true := by
  obtain ⟨cd, e, _⟩ := PySem.W.any_some h
  rw [e]
  rfl
section
variable {X : Cx}
theorem call_isX : CallR X (.builtin "isinstance") (rIsX X.K) := by
  intro pins s σ H xs us Q I r h
  rcases h with h | ⟨a, D, dd, fs, c, u, b, rfl, k, C, ha, hd, e, q⟩
  · exact call_isi pins s σ H xs us Q I r h
  obtain ⟨u1, u2, rfl, r1, r2⟩ := vals2 r
  cases (show u1 = Value.ref a from r1)
  have e2 := k.eq r2
  subst e2
  obtain ⟨oe, od, J, _⟩ := held_at I ha hd
  exact PySem.W.kia_one (PySem.W.kitx_exc (dict_cls C.hd) C.hg C.hk C.hs C.ha C.hn C.ht C.hm) I.kIn J e (fun z => nomatch z) fun tk => ⟨.bl b, H, I.tok tk, rfl, q⟩
theorem call_isXT : CallR X (.builtin "isinstance") (rIsXT X.K) := by
  intro pins s σ H xs us Q I r h
  rcases h with h | ⟨a, D, dd, tp, fs, cs, ws, b, rfl, hT, k, C, ha, hd, e, q⟩
  · exact call_isiT pins s σ H xs us Q I r h
  obtain ⟨u1, u2, rfl, r1, r2⟩ := vals2 r
  cases (show u1 = Value.ref a from r1)
  cases (show u2 = Value.ref tp from r2)
  obtain ⟨oe, od, J, _⟩ := held_at I ha hd
  obtain ⟨_, its, rv, ob, h1, h2, n, h3⟩ := (show ObjOk X.prog X.w H s.heap tp (.tup cs) from I.hok tp _ hT)
  have e3 := ClsV.all k rv
  subst e3
  obtain ⟨oc, od', dt, sl⟩ := ob
  simp only at h2 h3
  subst h2 h3
  exact PySem.W.kia_tup (PySem.W.kitx_exc (dict_cls C.hd) C.hg C.hk C.hs C.ha C.hn C.ht C.hm) I.kIn J h1 e (fun z => nomatch z) fun tk => ⟨.bl b, H, I.tok tk, rfl, q⟩
theorem kx_isX (K : PySem.W.Frag) (h : X.K = K := by rfl) : CallR X (.builtin "isinstance") (rIsX K) := h ▸ call_isX
theorem kx_isXT (K : PySem.W.Frag) (h : X.K = K := by rfl) : CallR X (.builtin "isinstance") (rIsXT K) := h ▸ call_isXT
/-- e.f, e a held error -/
def tXa (K : PySem.W.Frag) (n : Str) (te : TE) : TE := fun σ H Q => te σ H fun x H1 => ∃ (a D dd : Addr) (fs : List (Str × V)) (v : V), x = .ref a ∧ XfC K D ∧ PySem.W.findIn K (.ref D) n = some none ∧ H1 a = some (ExH D dd a) ∧ H1 dd = some (.xd fs) ∧ fs.lookup n = some v ∧ Q v H1
theorem pe_xa (K : PySem.W.Frag) {e : Expr} {te : TE} {pos : Pos} {n : Str} (he : PE X e te) (hK : X.K = K := by rfl) (hb : attributeBase e n X.env (eval e X.env) = eval e X.env := by rfl) : PE X (.Attribute e n pos) (tXa K n te) := by
  subst hK
  constructor
  intro pins s σ H Q I h
  refine attr_of hb (thn (he.run pins s σ H _ I h) ?_)
  rintro u s1 ⟨x, H1, I1, rx, a, D, dd, fs, v, rfl, T, no, ha, hd, hl, q⟩
  obtain rfl : u = Value.ref a := rx
  obtain ⟨oe, od, J, look⟩ := held_at I1 ha hd
  obtain ⟨m, hm, hr⟩ := look n
  rw [hl] at hr
  cases m with
  | none => exact hr.elim
  | some w => exact PySem.HandSPX.exc_get I1.kIn J T.ga T.gg T.exC (PySem.W.findObj_own T.hdC no rfl hm) (handed_of hr) ⟨v, H1, I1.tok _, hr, q⟩
/-- l.count(b), l a list of truth values -/
def rCntB (K : PySem.W.Frag) : V → List V → Hp → VK → Prop := fun x xs H Q => ∃ (p : Addr) (bs : List Bool) (c : Bool), x = .ref p ∧ xs = [.bl c] ∧ SqL K H p (bs.map V.bl) ∧ Q (.int (bs.count c : Nat)) H
theorem reads_bls {h : Heap} : ∀ {bs : List Bool} {us : List Value}, Vals (bs.map V.bl) us → ReadsAll h us (bs.map PyData.bool) []
  | [], _, .nil => .nil
  | b :: bs, _, .cons r t => by
    cases (show _ = Value.bool b from r)
    exact ReadsAll.cons (as := []) (bs := []) (.bool b) (reads_bls t)
theorem mt_cntB (K : PySem.W.Frag) (hu : X.A.units + 64 < cLine) (hK : X.K = K := by rfl) : MtR X "list.count" (rCntB K) := by
  subst hK
  intro pins s σ H x xs v us Q I rx rxs h
  obtain ⟨p, bs, c, rfl, rfl, hs, q⟩ := h
  cases rx
  obtain ⟨u, rfl, ru⟩ := rxs.one
  cases (show u = Value.bool c from ru)
  obtain ⟨its, rv, ⟨ob, n, ho, hc, hdn, hd⟩, hlen⟩ := I.list hs
  have plain : PyData.plainAll (bs.map PyData.bool) = true := by
    clear rv hs q hlen
    induction bs with
    | nil => rfl
    | cons b bs ih => exact ih
  have dep : PyData.depthAll (bs.map PyData.bool) = 0 := by
    clear rv hs q plain hlen
    induction bs with
    | nil => rfl
    | cons b bs ih =>
      show max 0 (PyData.depthAll (bs.map PyData.bool)) = 0
      rw [ih]
      try rfl
  have cnt : ((bs.map PyData.bool).countP fun y => PyData.eqv y (.bool c)) = bs.count c := by
    clear rv hs q plain dep
    rw [List.countP_map]
    unfold List.count
    congr 1
  refine PySem.SeqAt.count_list_data (xs := bs.map PyData.bool) (d := .bool c) (as := []) (bs := []) ⟨ob, ho, hc, n, hd⟩ (by simpa using reads_bls rv) (.bool c) plain rfl (by
    rw [dep]
    show X.A.units + 1 + min 0 0 < cLine
    omega) ?_
  rw [cnt]
  exact ⟨.int (bs.count c : Nat), H, I.tok _, ⟨_, rfl⟩, q⟩
end
end DL
namespace DL
open PySem PySem.Spec PyProof.Rows L2 Evl
theorem Rep.exc_inv {K : PySem.W.Frag} {S : Hp} {v : V} {C : Addr} {fs : List (Str × V)} (h : Rep K S v (.exc C fs)) : ∃ a d, v = .ref a ∧ S a = some (ExH C d a) ∧ S d = some (.xd fs) := by unfold Rep at h; exact h
theorem Rep.exc {K : PySem.W.Frag} {S : Hp} {a C d : Addr} {fs : List (Str × V)} (h1 : S a = some (ExH C d a)) (h2 : S d = some (.xd fs)) : Rep K S (.ref a) (.exc C fs) := by
  unfold Rep
  exact ⟨a, d, rfl, h1, h2⟩
/-! ### classes and isinstance -/
/-- a class of the program, as it is asked for -/
structure OwnC (K : PySem.W.Frag) (C : Addr) : Prop where
  ic : PySem.W.isClsIn K C = true
  ty : PySem.W.typeIn K (.ref C) = some (.type "type")
  ex : PySem.W.subIn K (.ref C) (.type "BaseException") = some true
theorem kitCls_own {K : PySem.W.Frag} {t : Value} {C : Addr} {b : Bool} (O : OwnC K C) (h : PySem.W.subIn K t (.ref C) = some b) : PySem.W.kitCls K t (.ref C) = some b := by
  have z : ((PySem.W.clsIn K C).isSome && PySem.W.typeIn K (.ref C) == some (.type "type")) = true := by
    have y : (PySem.W.clsIn K C).isSome = true := O.ic
    rw [y, O.ty] <;> rfl
  show (if ((PySem.W.clsIn K C).isSome && PySem.W.typeIn K (.ref C) == some (.type "type")) = true then PySem.W.subIn K t (.ref C) else none) = some b
  rw [if_pos z]
  exact h
theorem kit_own {K : PySem.W.Frag} {D C : Addr} {b : Bool} (O : OwnC K C) (self : PySem.W.subIn K (.ref D) (.ref D) = some true) (h : PySem.W.subIn K (.ref D) (.ref C) = some b) : PySem.W.kitOne K (.ref D) (.ref C) = some b := by
  unfold PySem.W.kitOne
  by_cases e : D = C
  · subst e
    rw [self] at h; cases h
    rw [if_pos (by simp)]
  · rw [if_neg (by simpa using e)]
    exact kitCls_own O h
theorem kit_blt {K : PySem.W.Frag} {D : Addr} {T : String} {b : Bool} (hT : PySem.W.kitMeta T = true) (h : PySem.W.subIn K (.ref D) (.type T) = some b) : PySem.W.kitOne K (.ref D) (.type T) = some b := by
  unfold PySem.W.kitOne
  rw [if_neg (by simp)]
  show (if PySem.W.kitMeta T = true then PySem.W.subIn K (.ref D) (.type T) else none) = some b
  rw [if_pos hT]
  exact h
theorem exm_own {K : PySem.W.Frag} {D C : Addr} {b : Bool} (O : OwnC K C) (h : PySem.W.subIn K (.ref D) (.ref C) = some b) : PySem.W.exmOne K (.ref D) (.ref C) = some b := by
  unfold PySem.W.exmOne
  rw [if_pos (by rw [O.ex] <;> rfl)]
  exact kitCls_own O h
theorem exmAny_cons {K : PySem.W.Frag} {cls c : Value} {r : List Value} {b d : Bool} (h : PySem.W.exmOne K cls c = some b) (g : PySem.W.exmAny K cls r = some d) : PySem.W.exmAny K cls (c :: r) = some (b || d) := by
  unfold PySem.W.exmAny
  rw [h, g]
theorem kitAny_no {K : PySem.W.Frag} {t c : Value} {r : List Value} {d : Bool} (h : PySem.W.kitOne K t c = some false) (g : PySem.W.kitAny K t r = some d) : PySem.W.kitAny K t (c :: r) = some d := by
  unfold PySem.W.kitAny
  rw [h]
  exact g
section
variable {A : Amb} {te ta tb : TE} {tt tu : TT} {tr tk : TA} {ts us : TS} {ρ : Rho} {n k : Nat} {T : DEnds} {C : DCon}
theorem de_isX {c : V} {u : Value} {P : D → Nat → Prop} (hc : ClsV c u) (h : DE A te ρ n fun d m => ∃ D fs b, d = .exc D fs ∧ ExcC A.K D ∧ PySem.W.kitOne A.K (.ref D) u = some b ∧ P (.bl b) m) : DE A (tCB (rIsX A.K) (tCons te (tCons (tC c) tNil))) ρ n P := fun S H σ e Q q =>
  h S H σ e _ fun v d S1 H1 n1 m1 f1 r1 ⟨D, fs, b, hd, hC, hk, p⟩ => by
    subst hd
    obtain ⟨a, dd, rfl, h1, h2⟩ := r1.exc_inv
    exact Or.inr ⟨a, D, dd, fs, c, u, b, rfl, hc, hC, f1.sub _ _ h1, f1.sub _ _ h2, hk, q _ _ S1 H1 n1 m1 f1 Rep.bl p⟩
theorem de_isXT {cs : List V} {us : List Value} {P : D → Nat → Prop} (hc : Paired ClsV cs us) (hl : cs.length ≤ 1000) (hta : ∀ σ H (Q : List V → Hp → Prop), Q cs H → ta' σ H Q) (h : DE A te ρ n fun d m => ∃ D fs b, d = .exc D fs ∧ ExcC A.K D ∧ PySem.W.kitAny A.K (.ref D) us = some b ∧ P (.bl b) m) : DE A (tCB (rIsXT A.K) (tCons te (tCons (tTup ta') tNil))) ρ n P := fun S H σ e Q q =>
  h S H σ e _ fun v d S1 H1 n1 m1 f1 r1 ⟨D, fs, b, hd, hC, hk, p⟩ => by
    subst hd
    obtain ⟨a, dd, rfl, h1, h2⟩ := r1.exc_inv
    refine hta _ _ _ ⟨Evl.sz_of (by omega), fun t ht => Or.inr ?_⟩
    have ea := f1.sub _ _ h1
    have ed := f1.sub _ _ h2
    exact ⟨a, D, dd, t, fs, cs, us, b, rfl, upd_same, hc, hC, by rw [upd_ne (ne_of_none ea ht)]; exact ea, by rw [upd_ne (ne_of_none ed ht)]; exact ed, hk,
      q _ _ _ _ n1 (m1.trans f1.bt (Mv.newO ht)) (f1.newO ht) Rep.bl p⟩
theorem de_xa {f : Str} {P : D → Nat → Prop} (h : DE A te ρ n fun d m => ∃ D fs v x, d = .exc D fs ∧ XfC A.K D ∧ PySem.W.findIn A.K (.ref D) f = some none ∧ fs.lookup f = some v ∧ (∀ S, Rep A.K S v x) ∧ P x m) : DE A (tXa A.K f te) ρ n P := fun S H σ e Q q =>
  h S H σ e _ fun v d S1 H1 n1 m1 f1 r1 ⟨D, fs, y, x, hd, hX, no, hl, ry, p⟩ => by
    subst hd
    obtain ⟨a, dd, rfl, h1, h2⟩ := r1.exc_inv
    exact ⟨a, D, dd, fs, y, rfl, hX, no, f1.sub _ _ h1, f1.sub _ _ h2, hl, q y x S1 H1 n1 m1 f1 (ry _) p⟩
theorem de_cntB {c : Bool} {P : D → Nat → Prop} (h : DE A te ρ n fun d m => ∃ bs : List Bool, d = .lst (bs.map D.bl) ∧ P (.int (bs.count c : Nat)) m) : DE A (tBM A.K "list" (rCntB A.K) te (tCons (tC (.bl c)) tNil)) ρ n P := fun S H σ e Q q =>
  h S H σ e _ fun v d S1 H1 n1 m1 f1 r1 ⟨bs, hd, p⟩ => by
    subst hd
    obtain ⟨a, vs, rfl, h1, h2⟩ := r1.lst_inv
    cases h2.bls
    exact ⟨Or.inl ⟨rfl, _, Evl.sq_of (f1.sub _ _ h1)⟩, a, bs, c, rfl, rfl, Evl.sq_of (f1.sub _ _ h1), q _ _ S1 H1 n1 m1 f1 Rep.int p⟩
/-! ### calls that may raise -/
/-- a call that leaves the box alone -/
theorem call_atN {S H : Hp} {vs : List V} {ds : List D} {P : D → Prop} {PX : Addr → List (Str × V) → Prop} {Q : VK} {E : XK} (f : Fr A n S H) (r : Reps A.K S vs ds) (hl : ds.length = k) (hc : C none ds 0 (fun d _ => P d) PX)
    (q : ∀ v d S' H', Mv A.b S H S' H' → Fr A n S' H' → Rep A.K S' v d → P d → Q v H')
    (hx : ∀ c fs dd S' H', Mv A.b S H S' H' → Fr A n S' H' → S' dd = some (.xd fs) → PX c fs → E (.ref c) (some dd) H') : spOf A.K k C vs H Q E := by
  have to : ∀ {S' H'}, Mv none S H S' H' → Mv A.b S H S' H' := fun m => ⟨m.ss, fun a o _ e nt => m.fr a o (fun z => nomatch z) e nt, m.tb, m.sep⟩
  have mk : ∀ {S' H'}, Mv none S H S' H' → (Ex S' H' ∧ TabK A.K S' H') → Fr A n S' H' := fun {S' H'} m ex => ⟨ex.1, f.mv.trans f.bt (to m), fun a e => by
    obtain ⟨⟨x, y, z, h1, h2⟩, h3, h4⟩ := f.box a e
    exact ⟨⟨x, y, z, m.fr a _ (fun z => nomatch z) h1, h2⟩, m.sep a (by rw [h1]; exact fun z => nomatch z) h3, h4⟩, ex.2⟩
  exact ⟨none, S, ds, 0, fun d _ => P d, PX, ⟨f.sub, f.tab⟩, fun a e => (nomatch e), r, hl, hc, fun v d S' H' _ m ex _ rv p => q v d S' H' (to m) (mk m ex) rv p, fun c fs dd S' H' _ m ex _ e p => hx c fs dd S' H' (to m) (mk m ex) e p⟩
/-- f(..), the box left alone, what it raises leaves this def -/
theorem de_callX {P : D → Nat → Prop} (hX : XOk A) (h : DA A tr ρ n fun ds m => ds.length = k ∧ C none ds 0 (fun d _ => P d m) A.PX) : DE A (tCall (spOf A.K k C) [] A.E tr) ρ n P := fun S H σ e Q q =>
  h S H σ e _ fun vs ds S1 H1 n1 m1 f1 r1 ⟨hl, hc⟩ => by
    rw [List.append_nil]
    exact call_atN f1 r1 hl hc (fun v d S' H' m f rv p => q v d S' H' n1 (m1.trans f1.bt m) f rv p) fun c fs dd S' H' _ f e p => hX c fs dd S' H' n1 f e p
theorem ds_tryCall {f i j : Nat} {cs : List Value} (hi : i < ρ.length) (h : DA A tr ρ n fun ds m => ds.length = k ∧ C none ds 0 (fun d _ => T.nx (ρ.set f (.val d)) m) (fun c fs => PySem.W.exmAny A.K (.ref c) cs = some true ∧ T.nx (((ρ.set i .un).set j (.val (.exc c fs))).set i .un) m)) :
    DS A (fun D σ H => tAsg (tCallS (spOf A.K k C) (WE (wTup A.K cs i (fun a cls d => tAsg (tVar i) (gName j)) D)) tr) (gName f) D σ H) ρ n T := fun S H σ e D k =>
  h S H σ e _ fun vs ds S1 H1 n1 m1 f1 r1 ⟨hl, hc⟩ => by
    refine call_atN f1 r1 hl hc (fun v d S' H' m f' rv p => ?_) fun c fs dd S' H' m f' hdd ⟨hm, p⟩ => ⟨hm, fun a ha => ?_⟩
    · have e' := e.mv (m1.trans f1.bt m) f'
      exact k.nx _ n1 S' H' _ (m1.ss.trans m.ss) (e'.set rv) p
    · have e' := e.mv (m1.trans f1.bt m) f'
      have hs : (σ.set i (some (V.ref a)))[i]? = some (some (V.ref a)) := List.getElem?_set_self (by rw [e.len]; exact hi)
      refine ⟨V.ref a, hs, ha, ?_⟩
      have mn : Mv A.b S' H' (upd S' a (ExH c dd a)) (upd H' a (ExH c dd a)) := Mv.new f'.sub ha
      have fn := f'.new (o := ExH c dd a) ha
      have e2 := (e'.mv mn fn).setUn (i := i) (o := some (V.ref a))
      have ne : dd ≠ a := ne_of_none (f'.sub _ _ hdd) ha
      have rx : Rep A.K (upd S' a (ExH c dd a)) (.ref a) (.exc c fs) := Rep.exc upd_same (by rw [upd_ne ne]; exact hdd)
      exact k.nx _ n1 _ _ _ ((m1.ss.trans m.ss).trans mn.ss) ((e2.set (i := j) rx).setUn (i := i) (o := none)) p
end
end DL
namespace DL
open PySem PySem.Spec PyProof.Rows L2 Evl
section
variable {X : Cx} {k : Nat} {f : Addr} {fd : FuncData} {ps : List Str} {sp : Sp} {E : L2.St → XK} {x : Str} {p pos : Pos} {e : Expr} {es : List Expr} {t : TA}
/-- f(e, ..) within a try: what is let out is told of these slots -/
theorem pe_gS (G : FnG X.prog X.w X.K X.mg X.base k f fd ps sp) (hgd : X.A.guards = some []) (hr : Room k X.A) (hm : X.mg x = some (.ref f)) (hk : PySem.W.keepIn X.K (.ref f) = true) (hb : Binds X.K fd ps []) (hx : ∀ σ, PassesAt (L2.CX X.prog X.w) X σ (E σ)) (ha : PA X (e :: es) t) (hg : Gl X x := by rfl)
    (hdb : (x == ("__debug__" : Str)) = false := by decide) (he : starEach (e :: es) X.env = (false, eval e X.env) :: starEach es X.env := by rfl) (hpl : (backTo pos (starEach es X.env)).any (·.1) = false := by rfl) :
    PE X (.Call (.Name x p) (e :: es) [] pos) (tCallS sp E t) := by
  constructor
  intro pins s σ H Q I h
  refine wpAny_Call_Name_kw (ld_glob I hg hm ?_ hdb)
  refine PySem.W.callWith_K (h₀ := X.base) I.ok.mod.kin hk (thn (ha.run pos pins s σ H _ I h) ?_) he hpl
  rintro us s1 ⟨vs, H1, I1, r, q⟩
  have hl : us.length = ps.length := by rw [← r.length]; exact G.arity _ _ _ _ q
  have z := hb s1 us I1.kIn (by rw [List.append_nil]; exact hl)
  rw [List.append_nil] at z
  refine ⟨I1.kIn, wpAny_call (codeAny_mono (G.go X.A hgd hr X.stack s1 H1 I1.env0 ⟨us, []⟩ us vs z r Q (E σ) q) ?_)⟩
  rintro (er | fl) s' hq
  · exact hx σ pins H1 s1 er s' I1 hq
  · cases fl with
    | ret u => exact I1.after hq
    | next => exact hq
    | brk => exact hq
    | cont => exact hq
end
/-- what __init__ of such a class does: it keeps its arguments under these names -/
def spXi (K : PySem.W.Frag) (names : List Str) : Sp := fun vs H Q E => ∃ (a C : Addr) (B newId initId : String) (bmB : List Value) (ys : List V), vs = .ref a :: ys ∧ ys.length = names.length ∧ XcB B newId initId bmB ∧ XcC K C newId bmB ∧ (∀ f ∈ names, PySem.W.findIn K (.ref C) f = some none) ∧ H a = some (exo a C none) ∧
  ∀ dx, H dx = none → dx ≠ a → Q .non (upd (upd H dx (exd dx (names.zip ys).reverse)) a (exo a C (some dx)))
theorem spXi_len {K : PySem.W.Frag} {names : List Str} {vs : List V} {H : Hp} {Q : VK} {E : XK} (h : spXi K names vs H Q E) : vs.length = names.length + 1 := by
  obtain ⟨a, C, B, n1, n2, bm, ys, rfl, hl, _⟩ := h
  rw [List.length_cons, hl]
theorem init1_of {K : PySem.W.Frag} {f g : Str} {vs : List V} {H : Hp} {Q : VK} {E : XK} (h : spXi K [f] vs H Q E) : tXst K f (tVar 0) (tVar 1) { nx := fun _ H' => Q .non H', rt := Q } (L2.start ["self", g] vs) H := by
  obtain ⟨a, C, B, n1, n2, bm, ys, rfl, hl, F, T, no, ha, q⟩ := h
  match ys, hl with
  | [y], _ =>
    refine ⟨y, rfl, .ref a, rfl, a, C, B, n1, n2, bm, rfl, F, T, no f List.mem_cons_self, Or.inl ⟨ha, fun dx n ne => q dx n ne⟩⟩
theorem init2_of {K : PySem.W.Frag} {f1 f2 g1 g2 : Str} {vs : List V} {H : Hp} {Q : VK} {E : XK} (h : spXi K [f1, f2] vs H Q E) : tSeq (tXst K f1 (tVar 0) (tVar 1)) (tXst K f2 (tVar 0) (tVar 2)) { nx := fun _ H' => Q .non H', rt := Q } (L2.start ["self", g1, g2] vs) H := by
  obtain ⟨a, C, B, n1, n2, bm, ys, rfl, hl, F, T, no, ha, q⟩ := h
  match ys, hl with
  | [y, z], _ =>
    refine ⟨y, rfl, .ref a, rfl, a, C, B, n1, n2, bm, rfl, F, T, no f1 List.mem_cons_self, Or.inl ⟨ha, fun dx n ne => ?_⟩⟩
    refine ⟨z, rfl, .ref a, rfl, a, C, B, n1, n2, bm, rfl, F, T, no f2 (List.mem_cons_of_mem _ List.mem_cons_self), Or.inr ⟨dx, [(f1, y)], upd_same, by rw [upd_ne ne, upd_same], by simp, ?_⟩⟩
    have e : upd (upd (upd H dx (exd dx [(f1, y)])) a (exo a C (some dx))) dx (exd dx [(f2, z), (f1, y)]) = upd (upd H dx (exd dx [(f2, z), (f1, y)])) a (exo a C (some dx)) := by
      funext b
      by_cases h1 : b = dx
      · subst h1
        rw [upd_same, upd_ne ne, upd_same]
      · rw [upd_ne h1]
        by_cases h2 : b = a
        · subst h2
          rw [upd_same, upd_same]
        · rw [upd_ne h2, upd_ne h1, upd_ne h2, upd_ne h1]
    show Q .non _
    rw [e]
    exact q dx n ne
section
variable {A : Amb} {tr : TA} {ρ : Rho} {n : Nat} {T : DEnds}
/-- raise C(e, ..) -/
theorem ds_raiseX {names : List Str} {C : Addr} {B newId initId : String} {bmB : List Value} (hX : XOk A) (F : XcB B newId initId bmB) (Tc : XcC A.K C newId bmB) (no : ∀ f ∈ names, PySem.W.findIn A.K (.ref C) f = some none) (hn : names.length ≤ 100)
    (h : DA A tr ρ n fun ds m => ∃ vs : List V, vs.length = names.length ∧ (∀ S ws, Reps A.K S ws ds → ws = vs) ∧ A.PX C (names.zip vs).reverse) : DS A (fun _ σ H => tXmk C (spXi A.K names) tr σ H fun cls d H' => A.E cls d H') ρ n T := fun S H σ e D k =>
  h S H σ e _ fun ws ds S1 H1 n1 m1 f1 r1 ⟨vs, hl, det, p⟩ => by
    cases det _ _ r1
    refine ⟨by omega, fun a ha => ⟨a, C, B, newId, initId, bmB, ws, rfl, hl, F, Tc, no, upd_same, fun dx hdx hne => ?_⟩⟩
    rw [upd_ne hne] at hdx
    refine ⟨rfl, dx, (names.zip ws).reverse, upd_same, by rw [upd_ne hne, upd_same], hdx, ?_⟩
    have e2 : upd (del (upd (upd (upd H1 a (exo a C none)) dx (exd dx (names.zip ws).reverse)) a (exo a C (some dx))) a) dx (.xd (names.zip ws).reverse) = upd H1 dx (.xd (names.zip ws).reverse) := by
      funext b
      by_cases h1 : b = dx
      · subst h1
        rw [upd_same, upd_same]
      · rw [upd_ne h1, upd_ne h1]
        by_cases h2 : b = a
        · subst h2
          rw [del_same, ha]
        · rw [del_ne h2, upd_ne h2, upd_ne h1, upd_ne h2]
    rw [e2]
    exact hX C _ dx (upd S1 dx (.xd (names.zip ws).reverse)) _ n1 (f1.new hdx) upd_same p
theorem reps1 {K : PySem.W.Frag} {S : Hp} {ws : List V} {i : Int} (h : Reps K S ws [.int i]) : ws = [.int i] := by
  obtain ⟨v, r, rfl, h1, h2⟩ := h.uncons
  cases h1.int_inv
  unfold Reps at h2
  rw [h2]
theorem reps2 {K : PySem.W.Frag} {S : Hp} {ws : List V} {i j : Int} (h : Reps K S ws [.int i, .int j]) : ws = [.int i, .int j] := by
  obtain ⟨v, r, rfl, h1, h2⟩ := h.uncons
  cases h1.int_inv
  rw [reps1 h2]
end
theorem mem1 {p : Str → Prop} {a : Str} (h : p a) : ∀ f ∈ [a], p f := fun f hf => by
  cases List.mem_singleton.mp hf
  exact h
theorem mem2 {p : Str → Prop} {a b : Str} (h : p a) (g : p b) : ∀ f ∈ [a, b], p f := fun f hf => by
  rcases List.mem_cons.mp hf with rfl | hf
  · exact h
  · cases List.mem_singleton.mp hf
    exact g
end DL
namespace DL
open PySem PySem.Spec PyProof.Rows L2 Evl
theorem reps_rng {K : PySem.W.Frag} {S : Hp} {i j : Int} : Reps K S (rgV i j) (rng i (j - i).toNat) := by
  have e1 : rgV i j = ((List.range (j - i).toNat).map fun k : Nat => i + (k : Int)).map V.int := by
    unfold rgV
    rw [List.map_map]
    rfl
  have e2 : rng i (j - i).toNat = ((List.range (j - i).toNat).map fun k : Nat => i + (k : Int)).map D.int := by
    unfold rng
    rw [List.map_map]
    rfl
  rw [e1, e2]
  exact Reps.of_ints
section
variable {A : Amb} {te ta tb : TE} {tr : TA} {ρ : Rho} {n : Nat} {T : DEnds}
theorem df_listRg2 {P : List D → Nat → Prop} (h : DE A ta ρ n fun d m => DE A tb ρ m fun d2 m2 => ∃ i j : Int, d = .int i ∧ d2 = .int j ∧ RgOk i j ∧ P (rng i (j - i).toNat) m2) : DF A (tLstRg (tRg2 ta tb)) ρ n P := fun S H σ e Q q =>
  h S H σ e _ fun v d S1 H1 n1 m1 f1 r1 h1 => h1 S1 H1 σ (e.mv m1 f1) _ fun w d2 S2 H2 n2 m2 f2 r2 ⟨i, j, hd, hd2, ok, p⟩ => by
    subst hd hd2
    cases r1.int_inv
    cases r2.int_inv
    refine ⟨i, j, rfl, rfl, ok, fun t ht => ?_⟩
    have m12 := m1.trans f1.bt m2
    exact q t _ (rng i (j - i).toNat) S2 _ n2 (m12.trans f2.bt (Mv.newO ht)) (f2.newO ht) (none_back e.f m12 f2 ht) upd_same (f2.s0 ht) reps_rng p
theorem df_listRg1 {P : List D → Nat → Prop} (h : DE A ta ρ n fun d m => ∃ j : Int, d = .int j ∧ RgOk 0 j ∧ P (rng 0 j.toNat) m) : DF A (tLstRg (tRg1 ta)) ρ n P := fun S H σ e Q q =>
  h S H σ e _ fun v d S1 H1 n1 m1 f1 r1 ⟨j, hd, ok, p⟩ => by
    subst hd
    cases r1.int_inv
    refine ⟨j, rfl, ok, fun t ht => ?_⟩
    have ej : (j - 0).toNat = j.toNat := by rw [Int.sub_zero]
    exact q t _ (rng 0 j.toNat) S1 _ n1 (m1.trans f1.bt (Mv.newO ht)) (f1.newO ht) (none_back e.f m1 f1 ht) upd_same (f1.s0 ht) (by rw [← ej]; exact reps_rng) p
theorem de_neg {P : D → Nat → Prop} (h : DE A te ρ n fun d m => ∃ i, d = .int i ∧ P (.int (-i)) m) : DE A (tUn (rU fun i => .int (-i)) te) ρ n P := fun S H σ e Q q =>
  h S H σ e _ fun v d S1 H1 n1 m1 f1 r1 ⟨i, hd, p⟩ => by
    subst hd
    cases r1.int_inv
    exact ⟨i, rfl, q _ _ S1 H1 n1 m1 f1 Rep.int p⟩
end
end DL
namespace DL
open PySem PySem.Spec PyProof.Rows L2 Evl
/-! ### slices of data -/
def cutD (xs : List D) (lo hi : Option Int) : List D := (xs.drop (HT.sIx xs.length 0 lo)).take (HT.sIx xs.length xs.length hi - HT.sIx xs.length 0 lo)
theorem cutD_len (xs : List D) (lo hi : Option Int) : (cutD xs lo hi).length ≤ xs.length := by
  unfold cutD
  rw [List.length_take, List.length_drop]
  omega
theorem cutD_take {xs : List D} {k : Nat} : cutD xs none (some (k : Int)) = xs.take k := by
  unfold cutD
  rw [HT.sIx_none, HT.sIx_nat]
  show (xs.drop 0).take (min k xs.length - 0) = xs.take k
  rw [List.drop_zero, Nat.sub_zero, ← List.take_take, List.take_length]
theorem cutD_drop {xs : List D} {k : Nat} : cutD xs (some (k : Int)) none = xs.drop k := by
  unfold cutD
  rw [HT.sIx_none, HT.sIx_nat]
  by_cases h : k ≤ xs.length
  · rw [Nat.min_eq_left h]
    exact List.take_of_length_le (by rw [List.length_drop]; exact Nat.le_refl _)
  · rw [Nat.min_eq_right (by omega), List.drop_length, List.take_nil, List.drop_eq_nil_of_le (by omega)]
theorem reps_cut {K : PySem.W.Frag} {S : Hp} {vs : List V} {ds : List D} (r : Reps K S vs ds) (lo hi : Option Int) : Reps K S (cutV vs lo hi) (cutD ds lo hi) := by
  unfold cutV cutD
  rw [r.length]
  exact (r.drop _).take _
/-- a slice's part -/
def DP (A : Amb) (to : TO) (ρ : Rho) (n : Nat) (P : Option Int → Nat → Prop) : Prop := ∀ S H σ, ER A n S H σ ρ → ∀ Q : Option Int → Hp → Prop, (∀ o S' H' n', Mv A.b S H S' H' → Fr A n' S' H' → P o n' → Q o H') → to σ H Q
section
variable {A : Amb} {te ta tb : TE} {tl th : TO} {tr : TA} {ts us : TS} {ρ : Rho} {n k : Nat} {T : DEnds} {C : DCon}
theorem dp_none {P : Option Int → Nat → Prop} (p : P none n) : DP A tNoPart ρ n P := fun S H σ e Q q => q none S H n Mv.refl e.f p
theorem dp_some {P : Option Int → Nat → Prop} (h : DE A te ρ n fun d m => ∃ j, d = .int j ∧ P (some j) m) : DP A (tPart te) ρ n P := fun S H σ e Q q =>
  h S H σ e _ fun v d S1 H1 n1 m1 f1 r1 ⟨j, hd, p⟩ => by
    subst hd
    cases r1.int_inv
    exact ⟨j, rfl, q _ S1 H1 n1 m1 f1 p⟩
theorem de_slL {P : D → Nat → Prop} (h : DE A te ρ n fun d m => ∃ ds, d = .lst ds ∧ DP A tl ρ m fun lo m2 => DP A th ρ m2 fun hi m3 => P (.lst (cutD ds lo hi)) m3) : DE A (tSl (rSlice A.K) te tl th) ρ n P := fun S H σ e Q q =>
  h S H σ e _ fun v d S1 H1 n1 m1 f1 r1 ⟨ds, hd, p⟩ => by
    subst hd
    obtain ⟨a, vs, rfl, h1, h2⟩ := r1.lst_inv
    have e1 := e.mv m1 f1
    refine p S1 H1 σ e1 _ fun lo S2 H2 n2 m2 f2 p2 => p2 S2 H2 σ (e1.mv m2 f2) _ fun hi S3 H3 n3 m3 f3 p3 => ?_
    have ex := m2.ss.trans m3.ss
    refine Or.inl ⟨a, vs, rfl, Evl.sq_of (f3.sub _ _ (ex _ _ h1)), fun t ht => ?_⟩
    exact q _ _ _ _ n3 (((m1.trans f1.bt m2).trans f2.bt m3).trans f3.bt (Mv.new f3.sub ht)) (f3.new ht) (Rep.lst upd_same ((reps_cut (h2.mono ex) lo hi).mono (Mv.new (b := A.b) f3.sub ht).ss)) p3
/-- a state between two statements -/
theorem ds_cut (I : Rho → Nat → Prop) (h : DS A ts ρ n { T with nx := I }) (g : ∀ ρ' m, I ρ' m → DS A us ρ' m T) : DS A (tSeq ts us) ρ n T := fun S H σ e D k =>
  h S H σ e _ ⟨fun ρ' n' S' H' σ' x e' p => g ρ' n' p S' H' σ' e' D (k.on x), k.rt, k.bk, k.ct⟩
/-- try: f(..) .. as e: c = e -/
theorem ds_tryDrop {i j : Nat} {cs : List Value} (hi : i < ρ.length) (h : DA A tr ρ n fun ds m => ds.length = k ∧ C none ds 0 (fun _ _ => T.nx ρ m) (fun c fs => PySem.W.exmAny A.K (.ref c) cs = some true ∧ T.nx (((ρ.set i .un).set j (.val (.exc c fs))).set i .un) m)) :
    DS A (fun D σ H => tDrop (tCallS (spOf A.K k C) (WE (wTup A.K cs i (fun a cls d => tAsg (tVar i) (gName j)) D)) tr) D σ H) ρ n T := fun S H σ e D k =>
  h S H σ e _ fun vs ds S1 H1 n1 m1 f1 r1 ⟨hl, hc⟩ => by
    refine call_atN f1 r1 hl hc (fun v d S' H' m f' rv p => ?_) fun c fs dd S' H' m f' hdd ⟨hm, p⟩ => ⟨hm, fun a ha => ?_⟩
    · exact k.nx _ n1 S' H' _ (m1.ss.trans m.ss) (e.mv (m1.trans f1.bt m) f') p
    · have e' := e.mv (m1.trans f1.bt m) f'
      have hs : (σ.set i (some (V.ref a)))[i]? = some (some (V.ref a)) := List.getElem?_set_self (by rw [e.len]; exact hi)
      refine ⟨V.ref a, hs, ha, ?_⟩
      have mn : Mv A.b S' H' (upd S' a (ExH c dd a)) (upd H' a (ExH c dd a)) := Mv.new f'.sub ha
      have e2 := (e'.mv mn (f'.new (o := ExH c dd a) ha)).setUn (i := i) (o := some (V.ref a))
      have rx : Rep A.K (upd S' a (ExH c dd a)) (.ref a) (.exc c fs) := Rep.exc upd_same (by rw [upd_ne (ne_of_none (f'.sub _ _ hdd) ha)]; exact hdd)
      exact k.nx _ n1 _ _ _ ((m1.ss.trans m.ss).trans mn.ss) ((e2.set (i := j) rx).setUn (i := i) (o := none)) p
end
end DL
namespace DL
open PySem PySem.Spec PyProof.Rows L2 Evl
/-! ### values that may be shown -/
theorem from_le {B : Nat} : ∀ (ts : List Str) (k : Nat) (acc : Str), (∀ t ∈ ts, t.length ≤ B) → (textFrom k acc ts).length ≤ acc.length + ts.length * (B + 2)
  | [], k, acc, _ => by
    show acc.length ≤ acc.length + 0 * (B + 2)
    omega
  | t :: ts, k, acc, h => by
    have a := h t List.mem_cons_self
    have b := from_le ts (k + 1) (acc ++ ((if k > 0 then ", " else "" : String) : Str) ++ t) fun u hu => h u (List.mem_cons_of_mem _ hu)
    have e : (((if k > 0 then ", " else "" : String) : Str)).length ≤ 2 := by
      split <;> decide
    rw [Str.length_append, Str.length_append] at b
    show (textFrom (k + 1) (acc ++ ((if k > 0 then ", " else "" : String) : Str) ++ t) ts).length ≤ acc.length + (ts.length + 1) * (B + 2)
    rw [Nat.succ_mul]
    omega
theorem lst_le {B : Nat} {ts : List Str} (h : ∀ t ∈ ts, t.length ≤ B) : (listText ts).length ≤ ts.length * (B + 2) + 3 := by
  have a := from_le ts 0 "[" h
  unfold listText
  rw [Str.length_append]
  have e : (("[" : Str)).length = 1 := by decide
  have f : (("]" : Str)).length = 1 := by decide
  omega
structure Sh (d : D) (dep len : Nat) : Prop where
  pure : pureD d = true
  sh : (toP d).showable = true
  nd : (toP d).hasDict = false
  dep : (toP d).depth ≤ dep
  len : (toP d).shown.length ≤ len
theorem Sh.up {d : D} {a b a' b' : Nat} (h : Sh d a b) (ha : a ≤ a') (hb : b ≤ b') : Sh d a' b' := ⟨h.pure, h.sh, h.nd, Nat.le_trans h.dep ha, Nat.le_trans h.len hb⟩
theorem Sh.int {i : Int} {k : Nat} (hk : 0 < k) (h0 : 0 ≤ i) (h1 : i < 10 ^ k) (h2 : k ≤ 100) : Sh (.int i) 0 k := by
  have p : (10 : Int) ^ k ≤ 10 ^ 100 := by
    have q : (10 : Nat) ^ k ≤ 10 ^ 100 := Nat.pow_le_pow_right (by decide) h2
    exact_mod_cast q
  exact ⟨rfl, decide_eq_true (log_small h0 (by omega)), rfl, Nat.le_refl _, by
    show (Str.ofString (toString i)).length ≤ k
    exact toString_length_le h0 hk h1⟩
theorem sh_all {dep len : Nat} : ∀ {xs : List D}, (∀ x ∈ xs, Sh x dep len) → pureDs xs = true ∧ PyData.showableAll (toPs xs) = true ∧ PyData.hasDictAll (toPs xs) = false ∧ PyData.depthAll (toPs xs) ≤ dep ∧ (∀ t ∈ PyData.shownAll (toPs xs), t.length ≤ len) ∧ (PyData.shownAll (toPs xs)).length = xs.length
  | [], _ => by
    simp [pureDs, toPs, PyData.showableAll, PyData.hasDictAll, PyData.depthAll, PyData.shownAll]
  | x :: xs, h => by
    obtain ⟨a, b, c, d, e, f⟩ := sh_all fun y hy => h y (List.mem_cons_of_mem _ hy)
    have g := h x List.mem_cons_self
    refine ⟨?_, ?_, ?_, ?_, fun t ht => ?_, ?_⟩
    · show (pureD x && pureDs xs) = true
      rw [g.pure, a]
      rfl
    · show (PyData.showable (toP x) && PyData.showableAll (toPs xs)) = true
      rw [g.sh, b]
      rfl
    · show (PyData.hasDict (toP x) || PyData.hasDictAll (toPs xs)) = false
      rw [g.nd, c]
      rfl
    · show max (toP x).depth (PyData.depthAll (toPs xs)) ≤ dep
      have := g.dep
      omega
    · have ht : t ∈ (toP x).shown :: PyData.shownAll (toPs xs) := ht
      rcases List.mem_cons.mp ht with rfl | ht
      · exact g.len
      · exact e t ht
    · show (PyData.shownAll (toPs xs)).length + 1 = xs.length + 1
      rw [f]
theorem Sh.lst {xs : List D} {dep len : Nat} (h : ∀ x ∈ xs, Sh x dep len) : Sh (.lst xs) (dep + 1) (xs.length * (len + 2) + 3) := by
  obtain ⟨a, b, c, d, e, f⟩ := sh_all h
  refine ⟨a, b, c, ?_, ?_⟩
  · show PyData.depthAll (toPs xs) + 1 ≤ dep + 1
    omega
  · show (listText (PyData.shownAll (toPs xs))).length ≤ _
    rw [← f]
    exact lst_le e
theorem Sh.tup {xs : List D} {dep len : Nat} (h : ∀ x ∈ xs, Sh x dep len) : Sh (.tup xs) (dep + 1) (xs.length * (len + 2) + 3) := by
  obtain ⟨a, b, c, d, e, f⟩ := sh_all h
  refine ⟨a, b, c, ?_, ?_⟩
  · show PyData.depthAll (toPs xs) + 1 ≤ dep + 1
    omega
  · show (tupleText (PyData.shownAll (toPs xs))).length ≤ _
    rw [← f]
    exact tup_le e
theorem Sh.pr {p : Int × Int} {k : Nat} (hk : 0 < k) (h2 : k ≤ 100) (a : 0 ≤ p.1) (b : p.1 < 10 ^ k) (c : 0 ≤ p.2) (d : p.2 < 10 ^ k) : Sh (DL.pr p) 1 (2 * (k + 2) + 3) :=
  Sh.tup (xs := [.int p.1, .int p.2]) fun x hx => by
    rcases List.mem_cons.mp hx with rfl | hx
    · exact Sh.int hk a b h2
    · cases List.mem_singleton.mp hx
      exact Sh.int hk c d h2
section
variable {A : Amb} {te : TE} {ρ : Rho} {n : Nat}
theorem de_reprS {P : D → Nat → Prop} (h : DE A te ρ n fun d m => (∃ dep len, Sh d dep len ∧ dep ≤ 60 ∧ len ≤ 1000000) ∧ P (.str (toP d).shown) m) : DE A (tCB (rRepr A.K) (tCons te tNil)) ρ n P := de_repr (h.imp fun d m ⟨⟨dep, len, s, h1, h2⟩, p⟩ => ⟨s.pure, s.sh, s.nd, Nat.le_trans s.dep h1, Nat.le_trans s.len (Nat.le_trans h2 (Nat.le_of_ble_eq_true rfl)), p⟩)
end
end DL
namespace DL
open PySem PySem.Spec PyProof.Rows L2 Evl
section
variable {X : Cx}
theorem kx_sortedI (K : PySem.W.Frag) (h : X.K = K := by rfl) : CallR X (.builtin "sorted") (rSortedI K) := h ▸ cr_sortedI
theorem kx_max (K : PySem.W.Frag) (hc : X.calm = true := by rfl) (h : X.K = K := by rfl) : CallR X (.builtin "max") (rMax K) := h ▸ cr_max hc
variable {k : Nat} {f : Addr} {fd : FuncData} {ps ks : List Str} {sp : Sp} {E : L2.St → XK} {x : Str} {p pos : Pos} {kws : List Keyword} {tk : TA} {g : List Value → List Value → List Value} {gV : List V → List V → List V}
/-- f(k = v, ..) within a try -/
def tCallKS (sp : Sp) (gV : List V → List V → List V) (E : L2.St → XK) (t tk : TA) : TE := fun σ H Q => t σ H fun vs H1 => tk σ H1 fun zs H2 => sp (gV vs zs) H2 Q (E σ)
theorem pe_gKS (G : FnG X.prog X.w X.K X.mg X.base k f fd ps sp) (hgd : X.A.guards = some []) (hr : Room k X.A) (hm : X.mg x = some (.ref f)) (hk : PySem.W.keepIn X.K (.ref f) = true) (hb : KBinds X.K fd ps ks g gV) (hx : ∀ σ, PassesAt (L2.CX X.prog X.w) X σ (E σ))
    (hkw : PK X kws tk) (hg : Gl X x := by rfl) (hall : (backToKw pos (keywordEach kws X.env)).all (·.1.isSome) = true := by rfl) (hks : (backToKw pos (keywordEach kws X.env)).filterMap (·.1) = ks := by rfl)
    (hdb : (x == ("__debug__" : Str)) = false := by decide) (hpl : ((backTo pos (starEach [] X.env)).any (·.1) || (backToKw pos (keywordEach kws X.env)).any (·.1.isNone)) = false := by rfl) :
    PE X (.Call (.Name x p) [] kws pos) (tCallKS sp gV E tNil tk) := by
  constructor
  intro pins s σ H Q I h
  refine wpAny_Call_Name_kw (ld_glob I hg hm ?_ hdb)
  refine PySem.W.callWith_KW0 (h₀ := X.base) I.ok.mod.kin hk hall ?_ hpl
  refine thn (hkw.run pos pins s σ H _ I h) ?_
  rintro ws s2 ⟨zs, H2, I2, rz, q2⟩
  refine ⟨I2.kIn, ?_⟩
  rw [hks]
  have r2 := hb.rel .nil rz
  have hl : (g [] ws).length = ps.length := by rw [← r2.length]; exact G.arity _ _ _ _ q2
  refine wpAny_call (codeAny_mono (G.go X.A hgd hr X.stack s2 H2 I2.env0 ⟨[], ks.zip ws⟩ (g [] ws) (gV [] zs) (hb.to s2 [] ws I2.kIn hl) r2 Q (E σ) q2) ?_)
  rintro (er | fl) s' hq
  · exact hx σ pins H2 s2 er s' I2 hq
  · cases fl with
    | ret u => exact I2.after hq
    | next => exact hq
    | brk => exact hq
    | cont => exact hq
end
section
variable {A : Amb} {te ta tb : TE} {tt : TT} {tl th : TO} {tr tk : TA} {ts us : TS} {ρ : Rho} {n k : Nat} {T : DEnds} {C C2 : DCon}
theorem df_sortI {P : List D → Nat → Prop} (h : DE A te ρ n fun d m => ∃ ns : List Int, d = .lst (ns.map D.int) ∧ ∀ ns' : List Int, ns'.Perm ns → ns'.Pairwise (· ≤ ·) → P (ns'.map D.int) m) : DF A (tCB (rSortedI A.K) (tCons te tNil)) ρ n P := fun S H σ e Q q =>
  h S H σ e _ fun v d S1 H1 n1 m1 f1 r1 ⟨ns, hd, p⟩ => by
    subst hd
    obtain ⟨a, vs, rfl, h1, h2⟩ := r1.lst_inv
    cases h2.intsV
    refine ⟨a, ns, rfl, Evl.sq_of (f1.sub _ _ h1), fun ns' t hp hs ht => ?_⟩
    exact q t _ (ns'.map D.int) S1 _ n1 (m1.trans f1.bt (Mv.newO ht)) (f1.newO ht) (none_back e.f m1 f1 ht) upd_same (f1.s0 ht) Reps.of_ints (p ns' hp hs)
theorem de_maxL {P : D → Nat → Prop} (h : DE A te ρ n fun d m => ∃ ns : List Int, d = .lst (ns.map D.int) ∧ 0 < ns.length ∧ ∀ x, x ∈ ns → (∀ y, y ∈ ns → y ≤ x) → P (.int x) m) : DE A (tCB (rMax A.K) (tCons te tNil)) ρ n P := fun S H σ e Q q =>
  h S H σ e _ fun v d S1 H1 n1 m1 f1 r1 ⟨ns, hd, hl, p⟩ => by
    subst hd
    obtain ⟨a, vs, rfl, h1, h2⟩ := r1.lst_inv
    cases h2.intsV
    exact ⟨a, ns, rfl, Evl.sq_of (f1.sub _ _ h1), hl, fun x hx hy => q _ _ S1 H1 n1 m1 f1 Rep.int (p x hx hy)⟩
theorem de_slT {P : D → Nat → Prop} (h : DE A te ρ n fun d m => ∃ ds, d = .tup ds ∧ DP A tl ρ m fun lo m2 => DP A th ρ m2 fun hi m3 => P (.tup (cutD ds lo hi)) m3) : DE A (tSl (rSlice A.K) te tl th) ρ n P := fun S H σ e Q q =>
  h S H σ e _ fun v d S1 H1 n1 m1 f1 r1 ⟨ds, hd, p⟩ => by
    subst hd
    obtain ⟨a, vs, rfl, h1, h2⟩ := r1.tup_inv
    have e1 := e.mv m1 f1
    refine p S1 H1 σ e1 _ fun lo S2 H2 n2 m2 f2 p2 => p2 S2 H2 σ (e1.mv m2 f2) _ fun hi S3 H3 n3 m3 f3 p3 => ?_
    have ex := m2.ss.trans m3.ss
    have m123 := (m1.trans f1.bt m2).trans f2.bt m3
    refine Or.inr ⟨a, vs, rfl, Evl.st_of (f3.sub _ _ (ex _ _ h1)), fun c => ?_, fun _ t ht => ?_⟩
    · have ew : cutV vs lo hi = vs := by
        unfold cutV
        rw [c.1, c.2, List.drop_zero, Nat.sub_zero, List.take_length]
      have rr := reps_cut (h2.mono ex) lo hi
      rw [ew] at rr
      exact q _ _ S3 H3 n3 m123 f3 (Rep.tup (ex _ _ h1) rr) p3
    · exact q _ _ _ _ n3 (m123.trans f3.bt (Mv.new f3.sub ht)) (f3.new ht) (Rep.tup upd_same ((reps_cut (h2.mono ex) lo hi).mono (Mv.new (b := A.b) f3.sub ht).ss)) p3
/-- xs.append(ys.pop(e)), both ours -/
theorem ds_appPop {i j : Nat} {ds es : List D} (hij : i ≠ j) (hi : ρ[i]? = some (.own ds)) (hj : ρ[j]? = some (.own es)) (h : DE A te ρ n fun d m => ∃ (c : Nat) (x : D), d = .int (c : Int) ∧ es[c]? = some x ∧ ds.length < 100000 ∧ c < 2 ^ 62 ∧ T.nx ((ρ.set j (.own (es.eraseIdx c))).set i (.own (ds ++ [x]))) m) :
    DS A (tDrop (tBM A.K "list" rAppend (tVar i) (tCons (tBM A.K "list" rPopAt (tVar j) (tCons te tNil)) tNil))) ρ n T := fun S H σ e D k => by
  obtain ⟨a, vs, h1, h2, h3, h4, h5⟩ := e.own hi
  obtain ⟨b, ws, g1, g2, g3, g4, g5⟩ := e.own hj
  refine ⟨.ref a, h1, Or.inl ⟨rfl, vs, Evl.sq_of h2⟩, ⟨.ref b, g1, Or.inl ⟨rfl, ws, Evl.sq_of g2⟩, h S H σ e _ fun v d S' H' n' m f r ⟨c, x, hd, hx, hl, hc, p⟩ => ?_⟩⟩
  subst hd
  cases r.int_inv
  have e' := e.mv m f
  obtain ⟨b', ws', q1, q2, q3, q4, q5⟩ := e'.own hj
  rw [g1] at q1; cases q1
  obtain ⟨y, hy, ry⟩ := q3.get hx
  have lt : c < ws'.length := (List.getElem?_eq_some_iff.mp hy).1
  refine ⟨b, ws', (c : Int), c, y, rfl, rfl, q2, by omega, by omega, seqIndex_of (by omega) (by omega), hy, ?_⟩
  have e2 := e'.putOwn hj g1 (q3.eraseIdx c)
  have hi2 : (ρ.set j (.own (es.eraseIdx c)))[i]? = some (.own ds) := by rw [List.getElem?_set_ne (fun z => hij z.symm)]; exact hi
  obtain ⟨a', vs', x1, x2, x3, x4, x5⟩ := e2.own hi2
  rw [h1] at x1; cases x1
  refine ⟨a, vs', y, rfl, rfl, x2, Evl.sz_lt (by rw [x3.length]; exact hl), ?_⟩
  exact k.nx _ n' S' _ σ m.ss (e2.putOwn hi2 h1 (x3.append (Reps.one ry))) p
/-- try: x = f(k = ..) if t else g(k = ..) .. as e: c = e -/
theorem ds_tryIfK {f i j : Nat} {cs : List Value} {gV gV2 : List V → List V → List V} {tk2 : TA} {k2 : Nat} (gD gD2 : List D → List D → List D) (pg : Puts gV gD) (pg2 : Puts gV2 gD2) (hi : i < ρ.length)
    (h : DT A tt ρ n fun b m => if b = true then DA A tk ρ m (fun es m2 => (gD [] es).length = k ∧ C none (gD [] es) 0 (fun d _ => T.nx (ρ.set f (.val d)) m2) (fun c fs => PySem.W.exmAny A.K (.ref c) cs = some true ∧ T.nx (((ρ.set i .un).set j (.val (.exc c fs))).set i .un) m2))
      else DA A tk2 ρ m (fun es m2 => (gD2 [] es).length = k2 ∧ C2 none (gD2 [] es) 0 (fun d _ => T.nx (ρ.set f (.val d)) m2) (fun c fs => PySem.W.exmAny A.K (.ref c) cs = some true ∧ T.nx (((ρ.set i .un).set j (.val (.exc c fs))).set i .un) m2))) :
    DS A (fun D σ H => tAsg (tIf tt (tCallKS (spOf A.K k C) gV (WE (wTup A.K cs i (fun a cls d => tAsg (tVar i) (gName j)) D)) tNil tk) (tCallKS (spOf A.K k2 C2) gV2 (WE (wTup A.K cs i (fun a cls d => tAsg (tVar i) (gName j)) D)) tNil tk2)) (gName f) D σ H) ρ n T := fun S H σ e Dn kk => by
  have go : ∀ {k : Nat} {C : DCon} {gV : List V → List V → List V} {tk : TA} {gD : List D → List D → List D} {S0 H0 : Hp} {m0 : Nat}, Puts gV gD → Ex S S0 → ER A m0 S0 H0 σ ρ → DA A tk ρ m0 (fun es m2 => (gD [] es).length = k ∧ C none (gD [] es) 0 (fun d _ => T.nx (ρ.set f (.val d)) m2) (fun c fs => PySem.W.exmAny A.K (.ref c) cs = some true ∧ T.nx (((ρ.set i .un).set j (.val (.exc c fs))).set i .un) m2)) →
      tCallKS (spOf A.K k C) gV (WE (wTup A.K cs i (fun a cls d => tAsg (tVar i) (gName j)) Dn)) tNil tk σ H0 (fun x H1 => gName f x σ H1 Dn.nx) := by
    intro k C gV tk gD S0 H0 m0 pg ex0 e0 h
    refine h S0 H0 σ e0 _ fun ws es S1 H1 n1 m1 f1 r1 ⟨hl, hc⟩ => ?_
    refine call_atN f1 (pg _ _ _ _ _ _ Reps.nil r1) hl hc (fun v d S' H' m f' rv p => ?_) fun c fs dd S' H' m f' hdd ⟨hm, p⟩ => ⟨hm, fun a ha => ?_⟩
    · exact kk.nx _ n1 S' H' _ (ex0.trans (m1.ss.trans m.ss)) ((e0.mv (m1.trans f1.bt m) f').set rv) p
    · have e' := e0.mv (m1.trans f1.bt m) f'
      have hs : (σ.set i (some (V.ref a)))[i]? = some (some (V.ref a)) := List.getElem?_set_self (by rw [e.len]; exact hi)
      refine ⟨V.ref a, hs, ha, ?_⟩
      have mn : Mv A.b S' H' (upd S' a (ExH c dd a)) (upd H' a (ExH c dd a)) := Mv.new f'.sub ha
      have e2 := (e'.mv mn (f'.new (o := ExH c dd a) ha)).setUn (i := i) (o := some (V.ref a))
      have rx : Rep A.K (upd S' a (ExH c dd a)) (.ref a) (.exc c fs) := Rep.exc upd_same (by rw [upd_ne (ne_of_none (f'.sub _ _ hdd) ha)]; exact hdd)
      exact kk.nx _ n1 _ _ _ (ex0.trans ((m1.ss.trans m.ss).trans mn.ss)) ((e2.set (i := j) rx).setUn (i := i) (o := none)) p
  refine h S H σ e _ fun b S1 H1 n1 m1 f1 p => ?_
  cases b with
  | true =>
    rw [if_pos rfl] at p ⊢
    exact go pg m1.ss (e.mv m1 f1) p
  | false =>
    rw [if_neg Bool.false_ne_true] at p ⊢
    exact go pg2 m1.ss (e.mv m1 f1) p
end
end DL
namespace DL
open PySem PySem.Spec PyProof.Rows L2 Evl
theorem eqv_ints : ∀ (a b : List Int), PyData.eqvAll (toPs (a.map D.int)) (toPs (b.map D.int)) = decide (a = b)
  | [], [] => rfl
  | [], _ :: _ => rfl
  | _ :: _, [] => rfl
  | x :: a, y :: b => by
    have e : PyData.eqvAll (toPs ((x :: a).map D.int)) (toPs ((y :: b).map D.int)) = ((x == y) && PyData.eqvAll (toPs (a.map D.int)) (toPs (b.map D.int))) := by
      show PyData.eqvAll (PyData.int x :: toPs (a.map D.int)) (PyData.int y :: toPs (b.map D.int)) = _
      rw [PyData.eqvAll]
      rfl
    rw [e, eqv_ints a b]
    by_cases h : x = y
    · subst h
      by_cases g : a = b
      · subst g; simp
      · simp [g]
    · simp [h]
theorem eqv_lst_ints (a b : List Int) : PyData.eqv (toP (.lst (a.map D.int))) (toP (.lst (b.map D.int))) = decide (a = b) := eqv_ints a b
theorem sorted_one : ∀ (a b : List Int), a.Perm b → a.Pairwise (· ≤ ·) → b.Pairwise (· ≤ ·) → a = b
  | [], b, h, _, _ => by rw [h.symm.eq_nil]
  | x :: a, [], h, _, _ => by have := h.length_eq; simp at this
  | x :: a, y :: b, h, ha, hb => by
    obtain ⟨a1, a2⟩ := List.pairwise_cons.mp ha
    obtain ⟨b1, b2⟩ := List.pairwise_cons.mp hb
    have e : x = y := by
      have h1 : y ∈ x :: a := h.mem_iff.mpr List.mem_cons_self
      have h2 : x ∈ y :: b := h.mem_iff.mp List.mem_cons_self
      rcases List.mem_cons.mp h1 with e | m1
      · exact e.symm
      · rcases List.mem_cons.mp h2 with e | m2
        · exact e
        · have := a1 y m1
          have := b1 x m2
          omega
    subst e
    rw [sorted_one a b h.cons_inv a2 b2]
section
variable {A : Amb} {te ta tb : TE} {tr tk : TA} {ts us : TS} {ρ : Rho} {n k : Nat} {T : DEnds} {C C2 : DCon}
/-- xs != [], xs ours -/
theorem de_neNil {i : Nat} {ds : List D} {P : D → Nat → Prop} (hi : ρ[i]? = some (.own ds)) (hok : okD (.lst ds) = true) (p : P (.bl (!PyData.eqv (toP (.lst ds)) (toP (.lst [])))) n) : DE A (tOp (rNeA A.K) (tVar i) (tLst tNil)) ρ n P := fun S H σ e Q q => by
  obtain ⟨a, vs, h1, h2, h3, h4, h5⟩ := e.own hi
  refine ⟨.ref a, h1, Nat.zero_le _, fun t ht => ?_⟩
  have ok := Bool.and_eq_true_iff.mp hok
  have f2 := e.f.newO (o := .lst []) ht
  have ha : upd H t (.lst []) a = some (.lst vs) := by rw [upd_ne (ne_of_none h2 ht)]; exact h2
  exact Or.inr ⟨toP (.lst ds), toP (.lst []), Dp.lst (Evl.sq_of ha) (reps_dp f2.sub ds vs ok.1 h3), Dp.lst (Evl.sq_of upd_same) DpAll.nil, ok.2, rfl, q _ _ S _ n (Mv.newO ht) f2 Rep.bl p⟩
/-- xs, ys = list(..), [] : both ours -/
theorem ds_parLN {i j : Nat} (hij : i ≠ j) (h : DF A te ρ n fun ds m => T.nx ((ρ.set i (.own ds)).set j (.own [])) m) : DS A (tPar i j (tCons te (tCons (tLst tNil) tNil))) ρ n T := fun S H σ e D k =>
  h S H σ e _ fun a vs ds S1 H1 n1 m1 f1 hn hh hs r p => by
    refine ⟨Nat.zero_le _, fun b hb => ⟨.ref a, .ref b, rfl, ?_⟩⟩
    have e0 := e.mv m1 f1
    have e1 := e0.setOwn (i := i) (vs := vs) (ds := ds) (fun j' es hj' z => by
      obtain ⟨c, ws, g1, g2, _⟩ := e.own hj'
      rw [z] at g1; cases g1
      rw [hn] at g2; cases g2) hh r hs (e.f.h0 hn)
    have fb := f1.newO (o := .lst []) hb
    have e2 := e1.mv (Mv.newO hb) fb
    have e3 := e2.setOwn (i := j) (vs := []) (ds := []) (fun j' es hj' z => by
      obtain ⟨c, ws, g1, g2, _⟩ := e1.own hj'
      rw [z] at g1; cases g1
      rw [hb] at g2; cases g2) upd_same Reps.nil (f1.s0 hb) (f1.h0 hb)
    exact k.nx _ n1 S1 _ _ m1.ss e3 p
end
end DL
namespace DL
open PySem PySem.Spec PyProof.Rows Srt SrtO
section
variable {prog : Program} {w : World} {A : Around} {E : Value → Shared → Prop} {s : Shared}
theorem collect_tup {l : Addr} {vs : List Value} {Q : List Value → Shared → Prop} (hl : IsTup s.heap l vs.toArray)
    (h : Q vs { s with heap := (s.heap.push (seqObj "list" #[] 0)).update s.heap.objs.size (Obj.mapSeq (· ++ vs.toArray)) }) (hsz : vs.length ≤ sizeLine) :
    wpAny (model prog w) A (collect (.ref l)) Q E s := by
  obtain ⟨o, ho, hc, n, hd⟩ := id hl
  unfold collect
  refine wpAny_bind (wpAny_runValue (codeAny_builtin entry_proto_collect' ?_))
  show wpAny _ _ (do again (.builtin "list.__iadd__" ⟨[← newList [], .ref l], []⟩)) _ _ s
  refine wpAny_bind (wpAny_newList (wpAny_pure ⟨Code.quiet_builtin _ (by decide +kernel), codeAny_builtin entry_list_iadd' ?_⟩))
  show wpAny _ _ (Builtin.List.listExtendWith (.ref s.heap.objs.size) (.ref l) (.ref s.heap.objs.size)) _ _ { s with heap := s.heap.push (seqObj "list" #[] 0) }
  unfold Builtin.List.listExtendWith
  have ho' : (s.heap.push (seqObj "list" #[] 0)).get? l = some o := Heap.get?_push_of_some _ ho
  refine wpAny_bind (wpAny_typeOf (T := "tuple") ⟨o, ho', hc⟩ ?_)
  have ht : (Value.type "tuple" == Value.type "tuple") = true := by rfl
  rw [if_pos (by rw [ht]; simp)]
  refine wpAny_bind (listItems_at ho' hd ?_)
  refine wpAny_bind (listItems_at (xs := #[]) (n := 0) (Heap.get?_push_size _ rfl) rfl ?_)
  rw [if_neg (by simp)]
  refine wpAny_bind (listUpdate_at (xs := #[]) (n := 0) (Heap.get?_push_size _ rfl) rfl ?_ (Nat.zero_le _) (by show (#[] ++ vs.toArray).size ≤ sizeLine + 1; simp only [Array.size_append, List.size_toArray, List.length_nil]; omega))
  refine wpAny_pure ?_
  show wpAny (model prog w) A (do
      let o ← load s.heap.objs.size
      match o.data with
      | .seq xs _ => pure xs.toList
      | _ => unsupported "internal:collect") Q E { s with heap := (s.heap.push (seqObj "list" #[] 0)).update s.heap.objs.size (Obj.mapSeq (· ++ vs.toArray)) }
  refine wpAny_bind (wpAny_load (get?_update_seq (Heap.get?_push_size _ rfl) _) ?_)
  show wpAny _ _ (pure ((#[] : Array Value) ++ vs.toArray).toList) Q E _
  rw [show ((#[] : Array Value) ++ vs.toArray).toList = vs by simp]
  exact wpAny_pure h
/-- sorted(t), t a tuple -/
theorem sorted_ordT {l : Addr} {vs : List Value} {ltv : Value → Value → Bool} {Q : Value → Shared → Prop} (O : Swo ltv) (hl : IsTup s.heap l vs.toArray) (hz : vs.length ≤ sizeLine)
    (hS : 2 ≤ vs.length → ∀ (h₁ : Heap) (a : Addr), h₁.get? a = some (seqObj "list" vs.toArray 0) → (∀ b o, s.heap.get? b = some o → b ≠ a ∧ h₁.get? b = some o) → SortableO prog w A.in1.in1 { s with heap := h₁ } a vs ltv)
    (h : ∀ out : List Value, Srtd ltv out → Stb ltv out vs → Q (.ref (s.heap.objs.size + 1)) { s with heap := sortedAll s.heap vs out.toArray }) :
    wpAny (model prog w) A (call (.builtin "sorted") [.ref l]) Q E s := by
  refine Calls.call_function_entry kind_sorted plain_sorted entry_sorted (args_sorted1 _) ?_
  unfold Builtin.«sorted»
  refine wpAny_bind (m := checkCount "sorted" 1 1 _) (wpAny_pure ?_)
  refine wpAny_bind (collect_tup hl ?_ hz)
  refine wpAny_bind (wpAny_newList ?_ hz)
  have hsz : ((s.heap.push (seqObj "list" #[] 0)).update s.heap.objs.size (Obj.mapSeq (· ++ vs.toArray))).objs.size = s.heap.objs.size + 1 := by
    rw [Heap.size_update, size_push']
  have hoL : (((s.heap.push (seqObj "list" #[] 0)).update s.heap.objs.size (Obj.mapSeq (· ++ vs.toArray))).push (seqObj "list" vs.toArray 0)).get? (s.heap.objs.size + 1) = some (seqObj "list" vs.toArray 0) := by
    rw [← hsz]; exact Heap.get?_push_size _ rfl
  have keep : ∀ b o, s.heap.get? b = some o → b ≠ s.heap.objs.size + 1 ∧ (((s.heap.push (seqObj "list" #[] 0)).update s.heap.objs.size (Obj.mapSeq (· ++ vs.toArray))).push (seqObj "list" vs.toArray 0)).get? b = some o := fun b o q => by
    have hlt : b < s.heap.objs.size := Heap.lt_size q
    refine ⟨Nat.ne_of_lt (Nat.lt_succ_of_lt hlt), Heap.get?_push_of_some _ ?_⟩
    rw [Heap.get?_update_ne _ _ _ _ (Nat.ne_of_lt hlt)]
    exact Heap.get?_push_of_some _ q
  show wpAny _ _ _ _ _ { s with heap := ((s.heap.push (seqObj "list" #[] 0)).update s.heap.objs.size (Obj.mapSeq (· ++ vs.toArray))).push (seqObj "list" vs.toArray 0) }
  rw [hsz]
  refine wpAny_bind (wpAny_holding (wpAny_call_entry slot_list_sort ⟨_, hoL, rfl⟩ entry_list_sort (list_sort_ord O hoL hz (fun h2 => hS h2 _ _ hoL keep) fun out hs hb => ⟨_, rfl, ?_⟩) (args_list_sort _)))
  exact wpAny_pure ⟨_, rfl, h out hs hb⟩
/-- sorted(t, reverse=b) -/
theorem sorted_ordKT {l : Addr} {vs : List Value} {b : Bool} {ltv : Value → Value → Bool} {Q : Value → Shared → Prop} (O : Swo ltv) (hl : IsTup s.heap l vs.toArray) (hz : vs.length ≤ sizeLine)
    (hS : 2 ≤ vs.length → ∀ (h₁ : Heap) (a : Addr), h₁.get? a = some (seqObj "list" vs.toArray 0) → (∀ b o, s.heap.get? b = some o → b ≠ a ∧ h₁.get? b = some o) → SortableO prog w A.in1.in1 { s with heap := h₁ } a vs ltv)
    (h : ∀ out : List Value, Srtd ltv out → Stb ltv out (if b = true then vs.reverse else vs) → Q (.ref (s.heap.objs.size + 1)) { s with heap := sortedAll s.heap vs (if b = true then out.toArray.reverse else out.toArray) }) :
    wpAny (model prog w) A (call (.builtin "sorted") [.ref l] [(Str.ofString "reverse", .bool b)]) Q E s := by
  refine call_function_entry_kw kind_sorted plain_sorted entry_sorted (PyProof.Rows.args_sorted_rev _ _) ?_
  unfold Builtin.«sorted»
  refine wpAny_bind (m := checkCount "sorted" 1 1 _) (wpAny_pure ?_)
  refine wpAny_bind (collect_tup hl ?_ hz)
  refine wpAny_bind (wpAny_newList ?_ hz)
  have hsz : ((s.heap.push (seqObj "list" #[] 0)).update s.heap.objs.size (Obj.mapSeq (· ++ vs.toArray))).objs.size = s.heap.objs.size + 1 := by
    rw [Heap.size_update, size_push']
  have hoL : (((s.heap.push (seqObj "list" #[] 0)).update s.heap.objs.size (Obj.mapSeq (· ++ vs.toArray))).push (seqObj "list" vs.toArray 0)).get? (s.heap.objs.size + 1) = some (seqObj "list" vs.toArray 0) := by
    rw [← hsz]; exact Heap.get?_push_size _ rfl
  have keep : ∀ b o, s.heap.get? b = some o → b ≠ s.heap.objs.size + 1 ∧ (((s.heap.push (seqObj "list" #[] 0)).update s.heap.objs.size (Obj.mapSeq (· ++ vs.toArray))).push (seqObj "list" vs.toArray 0)).get? b = some o := fun b o q => by
    have hlt : b < s.heap.objs.size := Heap.lt_size q
    refine ⟨Nat.ne_of_lt (Nat.lt_succ_of_lt hlt), Heap.get?_push_of_some _ ?_⟩
    rw [Heap.get?_update_ne _ _ _ _ (Nat.ne_of_lt hlt)]
    exact Heap.get?_push_of_some _ q
  show wpAny _ _ _ _ _ { s with heap := ((s.heap.push (seqObj "list" #[] 0)).update s.heap.objs.size (Obj.mapSeq (· ++ vs.toArray))).push (seqObj "list" vs.toArray 0) }
  rw [hsz]
  refine wpAny_bind (wpAny_holding (wpAny_call_entry_kw slot_list_sort ⟨_, hoL, rfl⟩ entry_list_sort ?_ (PyProof.Rows.args_list_sort_rev _ _)))
  refine SrtR.list_sort_ordR O hoL hz (fun h2 => hS h2 _ _ hoL keep) fun out hs hb => ⟨_, rfl, ?_⟩
  exact wpAny_pure ⟨_, rfl, h out hs hb⟩
end
end DL
namespace DL
open PySem PySem.Spec PyProof.Rows L2 Evl
/-- sorted(xs), xs a list or tuple of ints -/
def rSortS (K : PySem.W.Frag) : List V → Hp → VK → Prop := fun vs H Q => ∃ (a : Addr) (ns : List Int), vs = [V.ref a] ∧ (SqL K H a (ns.map V.int) ∨ SqT K H a (ns.map V.int)) ∧
  ∀ (ns' : List Int) (p : Addr), ns'.Perm ns → ns'.Pairwise (· ≤ ·) → H p = none → Q (.ref p) (upd H p (.lst (ns'.map V.int)))
/-- sorted(xs) of ints or of pairs of ints -/
def rSortAny (K : PySem.W.Frag) : List V → Hp → VK → Prop := fun xs H Q => rSortedPO K xs H Q ∨ rSortS K xs H Q
/-- sorted(xs, reverse=True) of ints -/
def rSortR (K : PySem.W.Frag) : List V → List V → Hp → VK → Prop := fun vs zs H Q => ∃ (a : Addr) (ns : List Int), vs = [V.ref a] ∧ zs = [.bl true] ∧ (SqL K H a (ns.map V.int) ∨ SqT K H a (ns.map V.int)) ∧
  ∀ (ns' : List Int) (p : Addr), ns'.Perm ns → ns'.Pairwise (· ≥ ·) → H p = none → Q (.ref p) (upd H p (.lst (ns'.map V.int)))
section
variable {X : Cx}
theorem cr_sortS : CallR X (.builtin "sorted") (rSortS X.K) := by
  intro pins s σ H vs us Q I r h
  obtain ⟨a, ns, rfl, hs, q⟩ := h
  rcases hs with hs | hs
  · exact cr_sortedI pins s σ H _ us Q I r ⟨a, ns, rfl, hs, q⟩
  obtain ⟨its, rv, hl, hz⟩ := I.tuple hs
  rw [Vals.ref1 r]
  have hi := rv.ints
  refine sorted_ordT SrtO.swo_int hl (by rw [← rv.length]; exact hz) (fun h2 h₁ a' _ _ => SrtO.ints_sortable hi h2) fun out h1 h2 => ?_
  obtain ⟨k1, k2, k3⟩ := SrtO.ints_out hi h1 h2
  obtain ⟨ep, he'⟩ := PyProof.Rows.sortedAll_at s.heap its out.toArray
  have hlen : ((out.map SrtO.iv).map V.int).length ≤ sizeLine := by
    rw [List.length_map, k2.length_eq]
    rw [List.length_map] at hz
    exact hz
  exact ⟨.ref _, upd H (s.heap.objs.size + 1) (.lst ((out.map SrtO.iv).map V.int)), I.laid (t' := s.toks) (fun _ _ => PyProof.Rows.sortedAll_old) (Nat.le_succ _) ⟨hlen, out, ep, vals_of_ints k1, he'⟩, rfl, q _ _ k2 k3 (I.hok.fresh (Nat.le_succ _))⟩
theorem cr_sortR : CallRK X (.builtin "sorted") [Str.ofString "reverse"] (rSortR X.K) := by
  intro pins s σ H vs zs us ws Q I r rz h
  obtain ⟨a, ns, rfl, rfl, hs, q⟩ := h
  rcases hs with hs | hs
  · exact cr_sortedRev (b := true) pins s σ H _ _ us ws Q I r rz ⟨a, ns, rfl, rfl, hs, q⟩
  obtain rfl := Vals.ref1 r
  obtain ⟨w1, rfl, e1⟩ := vals1 rz
  obtain rfl : w1 = Value.bool true := e1
  obtain ⟨its, rv, hl, hz⟩ := I.tuple hs
  have hi := rv.ints
  refine sorted_ordKT (b := true) SrtO.swo_int hl (by rw [← rv.length]; exact hz) (fun h2 h₁ a' _ _ => SrtO.ints_sortable hi h2) fun out h1 h2 => ?_
  obtain ⟨ns', k1, k2, k3⟩ := SrtR.ints_outR (b := true) hi h1 h2
  obtain ⟨ep, he'⟩ := PyProof.Rows.sortedAll_at s.heap its (if true = true then out.toArray.reverse else out.toArray)
  have hlen : (ns'.map V.int).length ≤ sizeLine := by
    rw [List.length_map, k2.length_eq]
    rw [List.length_map] at hz
    exact hz
  have e0 : ((if true = true then out.toArray.reverse else out.toArray).toList).toArray = (if true = true then out.toArray.reverse else out.toArray) := by rw [Array.toArray_toList]
  exact ⟨.ref _, upd H (s.heap.objs.size + 1) (.lst (ns'.map V.int)), I.laid (t' := s.toks) (fun _ _ => PyProof.Rows.sortedAll_old) (Nat.le_succ _) ⟨hlen, _, ep, vals_of_ints k1, by rw [e0]; exact he'⟩, rfl, q _ _ k2 k3 (I.hok.fresh (Nat.le_succ _))⟩
theorem kx_sortA (K : PySem.W.Frag) (h : X.K = K := by rfl) : CallR X (.builtin "sorted") (rSortAny K) := h ▸ callR_or cr_sortedPO cr_sortS
theorem kx_sortR (K : PySem.W.Frag) (h : X.K = K := by rfl) : CallRK X (.builtin "sorted") [Str.ofString "reverse"] (rSortR K) := h ▸ cr_sortR
def ipC (C : Int → Int → Prop) (f : Int → Int → Int) : TIp := fun x y H Q => ∃ i j, x = .int i ∧ y = .int j ∧ C i j ∧ Q (.int (f i j)) H
theorem ip_mulW : PIp X .Mult (ipC CMulW fun i j => i * j) := by
  intro pins s σ H x y v u Q I r1 r2 h
  obtain ⟨i, j, rfl, rfl, hc, q⟩ := h
  obtain ⟨t, rfl⟩ := r1
  obtain ⟨t', rfl⟩ := r2
  exact PySem.AutoIntOps.imul_0 ⟨.int _, H, I.tok _, ⟨_, rfl⟩, q⟩ hc.ok
def tTru (K : PySem.W.Frag) (ta : TE) : TT := fun σ H Q => ta σ H fun x H' => ∃ k, TruV K x H' k ∧ Q k H'
theorem kt_truth (K : PySem.W.Frag) {a : Expr} {ta : TE} (ha : PE X a ta) (h : X.K = K := by rfl) (he : ∀ whole, isTrue a X.env whole = (do let v ← whole; standAt a.pos; holding [v] (truthy v)) := by intro; rfl) : PT X a (tTru K ta) := h ▸ pt_truth ha he
theorem kx_remove (K : PySem.W.Frag) (h : X.K = K := by rfl) : MtM X "list.remove" rRemI := mt_remove
theorem kx_lcount (K : PySem.W.Frag) (h : X.K = K := by rfl) : MtR X "list.count" (rCntI K) := h ▸ mt_lcount
end
section
variable {A : Amb} {te ta tb : TE} {tt : TT} {tr tk : TA} {ts us : TS} {ρ : Rho} {n k : Nat} {T : DEnds}
theorem df_sortA {P : List D → Nat → Prop} (h : DE A te ρ n fun d m => ∃ ns : List Int, (d = .lst (ns.map D.int) ∨ d = .tup (ns.map D.int)) ∧ ∀ ns' : List Int, ns'.Perm ns → ns'.Pairwise (· ≤ ·) → P (ns'.map D.int) m) : DF A (tCB (rSortAny A.K) (tCons te tNil)) ρ n P := fun S H σ e Q q =>
  h S H σ e _ fun v d S1 H1 n1 m1 f1 r1 ⟨ns, hd, p⟩ => by
    have fin : ∀ (a : Addr), (SqL A.K H1 a (ns.map V.int) ∨ SqT A.K H1 a (ns.map V.int)) → rSortAny A.K [.ref a] H1 Q := fun a hs => Or.inr ⟨a, ns, rfl, hs, fun ns' t hp hs ht =>
      q t _ (ns'.map D.int) S1 _ n1 (m1.trans f1.bt (Mv.newO ht)) (f1.newO ht) (none_back e.f m1 f1 ht) upd_same (f1.s0 ht) Reps.of_ints (p ns' hp hs)⟩
    rcases hd with rfl | rfl
    · obtain ⟨a, vs, rfl, h1, h2⟩ := r1.lst_inv
      cases h2.intsV
      exact fin a (Or.inl (Evl.sq_of (f1.sub _ _ h1)))
    · obtain ⟨a, vs, rfl, h1, h2⟩ := r1.tup_inv
      cases h2.intsV
      exact fin a (Or.inr (Evl.st_of (f1.sub _ _ h1)))
theorem df_sortR {P : List D → Nat → Prop} (h : DE A te ρ n fun d m => ∃ ns : List Int, (d = .lst (ns.map D.int) ∨ d = .tup (ns.map D.int)) ∧ ∀ ns' : List Int, ns'.Perm ns → ns'.Pairwise (· ≥ ·) → P (ns'.map D.int) m) : DF A (tCKw (rSortR A.K) (tCons te tNil) (tCons (tC (.bl true)) tNil)) ρ n P := fun S H σ e Q q =>
  h S H σ e _ fun v d S1 H1 n1 m1 f1 r1 ⟨ns, hd, p⟩ => by
    have fin : ∀ (a : Addr), (SqL A.K H1 a (ns.map V.int) ∨ SqT A.K H1 a (ns.map V.int)) → rSortR A.K [.ref a] [.bl true] H1 Q := fun a hs => ⟨a, ns, rfl, rfl, hs, fun ns' t hp hs ht =>
      q t _ (ns'.map D.int) S1 _ n1 (m1.trans f1.bt (Mv.newO ht)) (f1.newO ht) (none_back e.f m1 f1 ht) upd_same (f1.s0 ht) Reps.of_ints (p ns' hp hs)⟩
    rcases hd with rfl | rfl
    · obtain ⟨a, vs, rfl, h1, h2⟩ := r1.lst_inv
      cases h2.intsV
      exact fin a (Or.inl (Evl.sq_of (f1.sub _ _ h1)))
    · obtain ⟨a, vs, rfl, h1, h2⟩ := r1.tup_inv
      cases h2.intsV
      exact fin a (Or.inr (Evl.st_of (f1.sub _ _ h1)))
theorem ds_augC {i : Nat} {C : Int → Int → Prop} {f : Int → Int → Int} {x : Int} (hi : ρ[i]? = some (.val (.int x))) (h : DE A te ρ n fun d m => ∃ y, d = .int y ∧ C x y ∧ T.nx (ρ.set i (.val (.int (f x y)))) m) : DS A (tAug i te (ipC C f)) ρ n T := fun S H σ e D k => by
  obtain ⟨v, h1, h2⟩ := e.val hi
  cases h2.int_inv
  refine ⟨_, h1, h S H σ e _ fun v d S' H' n' m f' r ⟨y, hd, hc, p⟩ => ?_⟩
  subst hd
  cases r.int_inv
  exact ⟨x, y, rfl, rfl, hc, k.nx _ n' S' H' _ m.ss ((e.mv m f').set Rep.int) p⟩
theorem ds_augI {i : Nat} {f : Int → Int → Int} {x : Int} (hi : ρ[i]? = some (.val (.int x))) (h : DE A te ρ n fun d m => ∃ y, d = .int y ∧ T.nx (ρ.set i (.val (.int (f x y)))) m) : DS A (tAug i te (ipI f)) ρ n T := fun S H σ e D k => by
  obtain ⟨v, h1, h2⟩ := e.val hi
  cases h2.int_inv
  refine ⟨_, h1, h S H σ e _ fun v d S' H' n' m f' r ⟨y, hd, p⟩ => ?_⟩
  subst hd
  cases r.int_inv
  exact ⟨x, y, rfl, rfl, k.nx _ n' S' H' _ m.ss ((e.mv m f').set Rep.int) p⟩
theorem dt_tru {P : Bool → Nat → Prop} (h : DE A te ρ n fun d m => (∃ ds, (d = .lst ds ∨ d = .tup ds) ∧ P (!ds.isEmpty) m) ∨ (∃ b, d = .bl b ∧ P b m)) : DT A (tTru A.K te) ρ n P := fun S H σ e Q q =>
  h S H σ e _ fun v d S1 H1 n1 m1 f1 r1 hp => by
    rcases hp with ⟨ds, hd, p⟩ | ⟨b, rfl, p⟩
    · have ie : ∀ {vs : List V}, Reps A.K S1 vs ds → vs.isEmpty = ds.isEmpty := fun {vs} r => by
        have := r.length
        cases vs <;> cases ds <;> first | rfl | simp at this
      rcases hd with rfl | rfl
      · obtain ⟨a, vs, rfl, h1, h2⟩ := r1.lst_inv
        exact ⟨!ds.isEmpty, Or.inl ⟨vs, Evl.sq_of (f1.sub _ _ h1), by rw [ie h2]⟩, q _ S1 H1 n1 m1 f1 p⟩
      · obtain ⟨a, vs, rfl, h1, h2⟩ := r1.tup_inv
        exact ⟨!ds.isEmpty, Or.inr (Or.inl ⟨vs, Evl.st_of (f1.sub _ _ h1), by rw [ie h2]⟩), q _ S1 H1 n1 m1 f1 p⟩
    · cases r1.bl_inv
      exact ⟨b, rfl, q _ S1 H1 n1 m1 f1 p⟩
end
end DL
namespace DL
open PySem PySem.Spec PyProof.Rows L2 Evl
namespace Rv
open HT
variable {prog : Program} {w : World} {A : Around} {E : Value → Shared → Prop} {s : Shared}
theorem adjust_rev (n : Nat) : Builtin.Slice.sliceAdjust none none (-1) (n : Int) = ((n : Int) - 1, -1) := by
  unfold Builtin.Slice.sliceAdjust
  rfl
theorem places_rev (n : Nat) : Builtin.Slice.slicePlaces ((n : Int) - 1) (-1) (-1) = n := by
  unfold Builtin.Slice.slicePlaces
  simp
  try omega
theorem rev_pick (xs : Array Value) : ((List.range xs.size).filterMap fun (m : Nat) => xs[(((xs.size : Nat) : Int) - 1 + (m : Int) * (-1)).toNat]?).toArray = xs.toList.reverse.toArray := by
  congr 1
  refine List.ext_getElem? fun i => ?_
  have key : ∀ k, k ≤ xs.size → ((List.range k).filterMap fun (m : Nat) => xs[(((xs.size : Nat) : Int) - 1 + (m : Int) * (-1)).toNat]?) = xs.toList.reverse.take k := by
    intro k
    induction k with
    | zero => intro _; simp
    | succ k ih =>
      intro hk
      have e1 : (((xs.size : Nat) : Int) - 1 + (k : Int) * (-1)).toNat = xs.size - 1 - k := by omega
      have hl : xs.size - 1 - k < xs.size := by omega
      rw [List.range_succ, List.filterMap_append, ih (by omega)]
      have e2 : xs.toList.reverse[k]? = some (xs[xs.size - 1 - k]'hl) := by
        rw [List.getElem?_reverse (by rw [Array.length_toList]; omega), Array.length_toList, Array.getElem?_toList, Array.getElem?_eq_getElem hl]
      have e3 : (List.filterMap (fun (m : Nat) => xs[(((xs.size : Nat) : Int) - 1 + (m : Int) * (-1)).toNat]?) [k]) = [xs[xs.size - 1 - k]'hl] := by
        rw [List.filterMap_cons, e1, Array.getElem?_eq_getElem hl]
        rfl
      rw [e3, take_one_more e2]
  rw [key xs.size (Nat.le_refl _), List.take_of_length_le (by rw [List.length_reverse, Array.length_toList]; exact Nat.le_refl _)]
theorem getItem_tuple_rev {t sl : Addr} {items : Array Value} {vs : Value} {Q : Value → Shared → Prop} (ht : IsTup s.heap t items) (hs : s.heap.IsSliceOf sl .none .none vs) (ps : IsPart vs (some (-1)))
    (h : Q (.ref s.heap.objs.size) { s with heap := s.heap.push { cls := .type "tuple", data := .seq items.toList.reverse.toArray } })
    (hsz : items.size ≤ sizeLine) : wpAny (model prog w) A (getItem (.ref t) (.ref sl)) Q E s := by
  have htake : sizeOk (.seq items.toList.reverse.toArray) := by
    show items.toList.reverse.toArray.size ≤ sizeLine
    rw [List.size_toArray, List.length_reverse, Array.length_toList]
    exact hsz
  obtain ⟨os, hos, hcs, hds⟩ := id hs
  have hTs : s.TypeIs (.ref sl) "slice" := ⟨os, hos, hcs⟩
  unfold getItem
  try with_reducible refine wpAny_holding ?_
  first | refine wpAny_bind (wpAny_pure ?_) | skip
  refine wpAny_bind (wpAny_sequenceKey ht.typeIs (by decide) ?_)
  refine wpAny_bind (wpAny_callSpecial?_slot (name := Str.ofString "__getitem__") ht.typeIs PyProof.Rows.slot_tuple_getitem
    (wpAny_call_entry PyProof.Rows.slot_tuple_getitem ht.typeIs entry_tuple_getitem ?_ (args_tuple_getitem _ _)))
  show wpAny _ _ (Builtin.Tuple.tupleItemsOf (.ref t) >>= _) _ _ s
  refine wpAny_bind (tupleItemsOf_ ht ?_)
  refine wpAny_bind (wpAny_typeOf hTs ?_)
  rw [if_pos (by decide)]
  have sa : ∀ {Q : Int × Int × Nat → Shared → Prop} {E : Value → Shared → Prop} {A : Around}, Q (((items.size : Nat) : Int) - 1, -1, items.size) s → wpAny (model prog w) A (Builtin.Slice.sliceApplied (.ref sl) (pure ((items.size : Nat) : Int))) Q E s := by
    intro Q E A h
    unfold Builtin.Slice.sliceApplied Builtin.Slice.sliceFields
    refine wpAny_bind (wpAny_bind (wpAny_field hos hds (x := .none) rfl (wpAny_bind (wpAny_field hos hds (x := .none) rfl (wpAny_bind (wpAny_field hos hds (x := vs) rfl (wpAny_pure ?_)))))))
    refine wpAny_bind (slicePart_ ps ?_)
    show wpAny _ _ (if ((-1 : Int) == 0) = true then _ else _) _ _ s
    rw [if_neg (by decide)]
    refine wpAny_bind (slicePart_ .none (wpAny_bind (slicePart_ .none (wpAny_bind (wpAny_pure ?_)))))
    show wpAny _ _ (match Builtin.Slice.sliceAdjust none none (-1) ((items.size : Nat) : Int) with | (lo, hi) => pure (lo, (-1 : Int), Builtin.Slice.slicePlaces lo hi (-1))) _ _ s
    rw [adjust_rev]
    show wpAny _ _ (pure (((items.size : Nat) : Int) - 1, (-1 : Int), Builtin.Slice.slicePlaces (((items.size : Nat) : Int) - 1) (-1) (-1))) _ _ s
    rw [places_rev]
    exact wpAny_pure h
  refine wpAny_bind (sa ?_)
  have hno : ¬ ((((items.size : Nat) : Int) - 1 == 0 && (-1 : Int) == 1 && items.size == items.size) = true) := by
    intro q
    rw [Bool.and_eq_true, Bool.and_eq_true] at q
    exact absurd q.1.2 (by decide)
  show wpAny _ _ (if (((items.size : Nat) : Int) - 1 == 0 && (-1 : Int) == 1 && items.size == items.size) = true then _ else _) _ _ s
  rw [if_neg hno, rev_pick]
  first
    | exact wpAny_bind (m := Builtin.Tuple.tupleExact _) (wpAny_newObj_type (wpAny_pure ⟨_, rfl, wpAny_pure h⟩) htake)
    | exact wpAny_bind (m := Builtin.Tuple.tupleExact _) (wpAny_newObj_type (wpAny_bind (wpAny_pure (wpAny_pure ⟨_, rfl, wpAny_pure h⟩))) htake)
    | exact wpAny_bind (wpAny_bind (m := Builtin.Tuple.tupleExact _) (wpAny_newObj_type (wpAny_pure (wpAny_pure ⟨_, rfl, wpAny_pure h⟩)) htake))
    | exact wpAny_bind (wpAny_bind (m := Builtin.Tuple.tupleExact _) (wpAny_newObj_type (wpAny_pure ⟨_, rfl, wpAny_pure h⟩) htake))
end Rv
/-- e[::-1], a tuple or a list -/
def tRevA (K : PySem.W.Frag) (te : TE) : TE := fun σ H Q => te σ H fun x H1 => ∃ a xs, x = .ref a ∧ ((SqL K H1 a xs ∧ ∀ p, H1 p = none → Q (.ref p) (upd H1 p (.lst xs.reverse))) ∨ (SqT K H1 a xs ∧ ∀ p, H1 p = none → Q (.ref p) (upd H1 p (.tup xs.reverse))))
section
variable {X : Cx}
theorem kx_rev (K : PySem.W.Frag) {e : Expr} {te : TE} {k : Nat} {p1 p2 p3 pos : Pos} (he : PE X e te) (hK : X.K = K := by rfl) : PE X (.Subscript e (.Slice none none (some (.UnaryOp .USub (.Constant (.int 1) k p1) p2)) p3) pos) (tRevA K te) := by
  subst hK
  refine ⟨fun pins s σ H Q I h => ?_⟩
  refine Subscript_ (thn (he.run pins s σ H _ I h) fun v s1 ⟨x, H1, I1, r1, q1⟩ => ?_)
  obtain ⟨a, xs, ex, q1⟩ := q1
  subst ex
  cases r1
  have hst : PO X (some (.UnaryOp .USub (.Constant (.int 1) k p1) p2)) (tPart (tUn (rU fun i => .int (-i)) (tC (.int 1)))) := po_some (pe_un un_neg pe_int)
  refine wpAny_Slice (thn (po_none.run pins s1 σ H1 (fun o H2 => o = none ∧ H2 = H1) I1 ⟨rfl, rfl⟩) fun vl s2 ⟨l, H2, I2, pl, el, e2⟩ => ?_)
  subst el e2
  refine thn (po_none.run pins s2 σ H2 (fun o H3 => o = none ∧ H3 = H2) I2 ⟨rfl, rfl⟩) fun vu s3 ⟨u, H3, I3, pu, eu, e3⟩ => ?_
  subst eu e3
  refine thn (hst.run pins s3 σ H3 (fun o H4 => o = some (-1) ∧ H4 = H3) I3 ⟨1, rfl, -1, rfl, rfl, rfl⟩) fun vs s4 ⟨o, H4, I4, ps, eo, e4⟩ => ?_
  subst eo e4
  have I5 : Inv X pins σ H4 { s4 with heap := s4.heap.push { cls := .type "slice", data := .fields #[vl, vu, vs] } } := I4.kept (t' := s4.toks) fun b ob q => Heap.get?_push_of_some _ q
  show wpAny (model X.prog X.w) X.A (subscriptTail e (.Slice none none (some (.UnaryOp .USub (.Constant (.int 1) k p1) p2)) p3) (.ref a) (.ref s4.heap.objs.size)) (EP X pins σ Q) X.xe { s4 with heap := s4.heap.push { cls := .type "slice", data := .fields #[vl, vu, vs] } }
  rcases q1 with ⟨hx, q⟩ | ⟨hx, q⟩
  · obtain ⟨its, r, ht, hz⟩ := I5.list hx
    have hlen := r.length
    refine tail_any (ops := [.ref a, .ref s4.heap.objs.size]) ht.isList.typeIs (PySem.slot_list_getitem.lookup) ?_ (by with_unfolding_all rfl)
    refine wpAny_getItem_list_slice ht.isList (Heap.IsSliceOf.new _ vl vu vs) pl pu ps (by decide) ?_ (by rw [List.size_toArray]; omega)
    rw [PySem.W.krv_pick]
    refine ⟨.ref _, _, I5.laid (t' := s4.toks) (o := .lst xs.reverse) (fun b ob q => Heap.get?_push_of_some _ q) (Nat.le_refl _) ?_, rfl, q _ (I5.hok.fresh (Nat.le_refl _))⟩
    exact ⟨by rw [List.length_reverse]; exact hz, _, 0, r.reverse, Heap.get?_push_size _ rfl⟩
  · obtain ⟨its, r, ht, hz⟩ := I5.tuple hx
    have hlen := r.length
    cases pl
    cases pu
    refine tail_any (ops := [.ref a, .ref s4.heap.objs.size]) ht.typeIs (PyProof.Rows.slot_tuple_getitem.lookup) ?_ (by with_unfolding_all rfl)
    refine Rv.getItem_tuple_rev ht (Heap.IsSliceOf.new _ _ _ vs) ps ?_ (by rw [List.size_toArray]; omega)
    refine ⟨.ref _, _, I5.laid (t' := s4.toks) (o := .tup xs.reverse) (fun b ob q => Heap.get?_push_of_some _ q) (Nat.le_refl _) ?_, rfl, q _ (I5.hok.fresh (Nat.le_refl _))⟩
    exact ⟨by rw [List.length_reverse]; exact hz, its.reverse, r.reverse, _, Heap.get?_push_size _ rfl, rfl, 0, rfl⟩
end
section
variable {A : Amb} {te : TE} {ρ : Rho} {n : Nat}
theorem Reps.reverse {K : PySem.W.Frag} {S : Hp} : ∀ {ds : List D} {vs : List V}, Reps K S vs ds → Reps K S vs.reverse ds.reverse
  | [], vs, h => by unfold Reps at h; subst h; exact Reps.nil
  | d :: ds, vs, h => by
    obtain ⟨v, r, rfl, h1, h2⟩ := h.uncons
    rw [List.reverse_cons, List.reverse_cons]
    exact h2.reverse.append (Reps.one h1)
theorem de_revT {P : D → Nat → Prop} (h : DE A te ρ n fun d m => ∃ ds, d = .tup ds ∧ P (.tup ds.reverse) m) : DE A (tRevA A.K te) ρ n P := fun S H σ e Q q =>
  h S H σ e _ fun v d S1 H1 n1 m1 f1 r1 ⟨ds, hd, p⟩ => by
    subst hd
    obtain ⟨a, vs, rfl, h1, h2⟩ := r1.tup_inv
    refine ⟨a, vs, rfl, Or.inr ⟨Evl.st_of (f1.sub _ _ h1), fun t ht => ?_⟩⟩
    exact q _ _ _ _ n1 (m1.trans f1.bt (Mv.new f1.sub ht)) (f1.new ht) (Rep.tup upd_same (h2.reverse.mono (Mv.new (b := A.b) f1.sub ht).ss)) p
theorem df_revL {P : List D → Nat → Prop} (h : DE A te ρ n fun d m => ∃ ds, d = .lst ds ∧ P ds.reverse m) : DF A (tRevA A.K te) ρ n P := fun S H σ e Q q =>
  h S H σ e _ fun v d S1 H1 n1 m1 f1 r1 ⟨ds, hd, p⟩ => by
    subst hd
    obtain ⟨a, vs, rfl, h1, h2⟩ := r1.lst_inv
    refine ⟨a, vs, rfl, Or.inl ⟨Evl.sq_of (f1.sub _ _ h1), fun t ht => ?_⟩⟩
    exact q t _ ds.reverse S1 _ n1 (m1.trans f1.bt (Mv.newO ht)) (f1.newO ht) (none_back e.f m1 f1 ht) upd_same (f1.s0 ht) h2.reverse p
end
end DL
namespace DL
open PySem PySem.Spec PyProof.Rows L2 Evl
/-- max(xs), min(xs), a list or tuple of ints -/
def rMaxA (K : PySem.W.Frag) : List V → Hp → VK → Prop := fun vs H Q => ∃ (a : Addr) (ns : List Int), vs = [V.ref a] ∧ (SqL K H a (ns.map V.int) ∨ SqT K H a (ns.map V.int)) ∧ 0 < ns.length ∧ ∀ m, m ∈ ns → (∀ y, y ∈ ns → y ≤ m) → Q (.int m) H
def rMinA (K : PySem.W.Frag) : List V → Hp → VK → Prop := fun vs H Q => ∃ (a : Addr) (ns : List Int), vs = [V.ref a] ∧ (SqL K H a (ns.map V.int) ∨ SqT K H a (ns.map V.int)) ∧ 0 < ns.length ∧ ∀ m, m ∈ ns → (∀ y, y ∈ ns → m ≤ y) → Q (.int m) H
theorem reads_intsV {h : Heap} : ∀ {ns : List Int} {us : List Value}, Vals (ns.map V.int) us → ReadsAll h us (ns.map PyData.int) []
  | [], _, .nil => .nil
  | n :: ns, _, .cons r t => by
    obtain ⟨k, rfl⟩ := r
    have := ReadsAll.cons (as := []) (bs := []) (Reads.int (h := h) (i := n) (t := k)) (reads_intsV t)
    exact this
theorem foldl_max (n : Int) : ∀ ns : List Int, ns.foldl max n ∈ n :: ns ∧ ∀ y ∈ n :: ns, y ≤ ns.foldl max n
  | [] => ⟨by simp, by simp⟩
  | k :: r => by
    obtain ⟨h1, h2⟩ := foldl_max (max n k) r
    rw [List.foldl_cons]
    refine ⟨?_, fun y hy => ?_⟩
    · rcases List.mem_cons.mp h1 with h | h
      · rw [h]
        by_cases c : n ≤ k
        · rw [Int.max_eq_right c]; simp
        · rw [Int.max_eq_left (by omega)]; simp
      · simp [h]
    · have hm := h2 (max n k) (by simp)
      rcases List.mem_cons.mp hy with rfl | hy
      · omega
      · rcases List.mem_cons.mp hy with rfl | hy
        · omega
        · exact h2 y (List.mem_cons_of_mem _ hy)
theorem foldl_min (n : Int) : ∀ ns : List Int, ns.foldl min n ∈ n :: ns ∧ ∀ y ∈ n :: ns, ns.foldl min n ≤ y
  | [] => ⟨by simp, by simp⟩
  | k :: r => by
    obtain ⟨h1, h2⟩ := foldl_min (min n k) r
    rw [List.foldl_cons]
    refine ⟨?_, fun y hy => ?_⟩
    · rcases List.mem_cons.mp h1 with h | h
      · rw [h]
        by_cases c : n ≤ k
        · rw [Int.min_eq_left c]; simp
        · rw [Int.min_eq_right (by omega)]; simp
      · simp [h]
    · have hm := h2 (min n k) (by simp)
      rcases List.mem_cons.mp hy with rfl | hy
      · omega
      · rcases List.mem_cons.mp hy with rfl | hy
        · omega
        · exact h2 y (List.mem_cons_of_mem _ hy)
theorem alike_ints (ns : List Int) : PySem.W.AlikeAll (ns.map PyData.int) := by
  refine ⟨fun x hx y hy => ?_, fun x hx => ?_⟩
  · obtain ⟨a, _, rfl⟩ := List.mem_map.mp hx
    obtain ⟨b, _, rfl⟩ := List.mem_map.mp hy
    rfl
  · obtain ⟨a, _, rfl⟩ := List.mem_map.mp hx
    intro h; cases h
theorem depth_ints : ∀ ns : List Int, PyData.depthAll (ns.map PyData.int) = 0
  | [] => rfl
  | n :: ns => by
    have := depth_ints ns
    simp only [List.map_cons, PyData.depthAll, PyData.depth, this]
    rfl
theorem reads_int_val {h : Heap} {v : Value} {m : Int} {bs : List Addr} (r : Reads h v (.int m) bs) : ∃ t, v = .int m t := by
  cases r
  exact ⟨_, rfl⟩
section
variable {X : Cx}
theorem cr_maxA (hc : X.calm = true) (hu : X.A.units + 64 < cLine) : CallR X (.builtin "max") (rMaxA X.K) := by
  intro pins s σ H vs us Q I r h
  obtain ⟨a, ns, rfl, hs, hne, q⟩ := h
  rcases hs with hs | hs
  · exact cr_max hc pins s σ H _ us Q I r ⟨a, ns, rfl, hs, hne, q⟩
  obtain ⟨its, rv, hl, _⟩ := I.tuple hs
  rw [Vals.ref1 r]
  match ns, hne, rv, q with
  | n :: ns, _, rv, q =>
    have hd := depth_ints (n :: ns)
    refine PySem.W.max_tuple_data (x := .int n) (xs := ns.map PyData.int) (I.ok.hd hc) hl (by rw [List.toList_toArray]; exact reads_intsV rv) (alike_ints (n :: ns)) (by
      have e : PyData.depthAll (PyData.int n :: ns.map PyData.int) = 0 := hd
      rw [e]; omega) fun i v h' tk bs hv hr hk => ?_
    rw [PySem.W.maxD_ints] at hr
    obtain ⟨t, rfl⟩ := reads_int_val hr
    obtain ⟨h1, h2⟩ := foldl_max n ns
    exact ⟨.int _, H, I.kept hk, ⟨_, rfl⟩, q _ h1 h2⟩
theorem cr_minA (hc : X.calm = true) (hu : X.A.units + 64 < cLine) : CallR X (.builtin "min") (rMinA X.K) := by
  intro pins s σ H vs us Q I r h
  obtain ⟨a, ns, rfl, hs, hne, q⟩ := h
  rcases hs with hs | hs
  · exact cr_min hc pins s σ H _ us Q I r ⟨a, ns, rfl, hs, hne, q⟩
  obtain ⟨its, rv, hl, _⟩ := I.tuple hs
  rw [Vals.ref1 r]
  match ns, hne, rv, q with
  | n :: ns, _, rv, q =>
    have hd := depth_ints (n :: ns)
    refine PySem.W.min_tuple_data (x := .int n) (xs := ns.map PyData.int) (I.ok.hd hc) hl (by rw [List.toList_toArray]; exact reads_intsV rv) (alike_ints (n :: ns)) (by
      have e : PyData.depthAll (PyData.int n :: ns.map PyData.int) = 0 := hd
      rw [e]; omega) fun i v h' tk bs hv hr hk => ?_
    rw [PySem.W.minD_ints] at hr
    obtain ⟨t, rfl⟩ := reads_int_val hr
    obtain ⟨h1, h2⟩ := foldl_min n ns
    exact ⟨.int _, H, I.kept hk, ⟨_, rfl⟩, q _ h1 h2⟩
theorem kx_maxA (K : PySem.W.Frag) (hu : X.A.units + 64 < cLine) (hc : X.calm = true := by rfl) (h : X.K = K := by rfl) : CallR X (.builtin "max") (rMaxA K) := h ▸ cr_maxA hc hu
theorem kx_minA (K : PySem.W.Frag) (hu : X.A.units + 64 < cLine) (hc : X.calm = true := by rfl) (h : X.K = K := by rfl) : CallR X (.builtin "min") (rMinA K) := h ▸ cr_minA hc hu
end
section
variable {A : Amb} {te : TE} {ρ : Rho} {n : Nat}
theorem de_maxA {P : D → Nat → Prop} (h : DE A te ρ n fun d m => ∃ ns : List Int, (d = .lst (ns.map D.int) ∨ d = .tup (ns.map D.int)) ∧ 0 < ns.length ∧ ∀ x, x ∈ ns → (∀ y, y ∈ ns → y ≤ x) → P (.int x) m) : DE A (tCB (rMaxA A.K) (tCons te tNil)) ρ n P := fun S H σ e Q q =>
  h S H σ e _ fun v d S1 H1 n1 m1 f1 r1 ⟨ns, hd, hl, p⟩ => by
    rcases hd with rfl | rfl
    · obtain ⟨a, vs, rfl, h1, h2⟩ := r1.lst_inv
      cases h2.intsV
      exact ⟨a, ns, rfl, Or.inl (Evl.sq_of (f1.sub _ _ h1)), hl, fun x hx hy => q _ _ S1 H1 n1 m1 f1 Rep.int (p x hx hy)⟩
    · obtain ⟨a, vs, rfl, h1, h2⟩ := r1.tup_inv
      cases h2.intsV
      exact ⟨a, ns, rfl, Or.inr (Evl.st_of (f1.sub _ _ h1)), hl, fun x hx hy => q _ _ S1 H1 n1 m1 f1 Rep.int (p x hx hy)⟩
theorem de_minA {P : D → Nat → Prop} (h : DE A te ρ n fun d m => ∃ ns : List Int, (d = .lst (ns.map D.int) ∨ d = .tup (ns.map D.int)) ∧ 0 < ns.length ∧ ∀ x, x ∈ ns → (∀ y, y ∈ ns → x ≤ y) → P (.int x) m) : DE A (tCB (rMinA A.K) (tCons te tNil)) ρ n P := fun S H σ e Q q =>
  h S H σ e _ fun v d S1 H1 n1 m1 f1 r1 ⟨ns, hd, hl, p⟩ => by
    rcases hd with rfl | rfl
    · obtain ⟨a, vs, rfl, h1, h2⟩ := r1.lst_inv
      cases h2.intsV
      exact ⟨a, ns, rfl, Or.inl (Evl.sq_of (f1.sub _ _ h1)), hl, fun x hx hy => q _ _ S1 H1 n1 m1 f1 Rep.int (p x hx hy)⟩
    · obtain ⟨a, vs, rfl, h1, h2⟩ := r1.tup_inv
      cases h2.intsV
      exact ⟨a, ns, rfl, Or.inr (Evl.st_of (f1.sub _ _ h1)), hl, fun x hx hy => q _ _ S1 H1 n1 m1 f1 Rep.int (p x hx hy)⟩
end
end DL
namespace DL
open PySem PySem.Spec PyProof.Rows L2 Evl
/-- a list of ours is only read for a while -/
def pinA (A : Amb) (S : Hp) (a : Addr) (vs : List V) : Amb := ⟨A.K, A.b, S, upd A.H0 a (.lst vs), A.E, A.PX⟩
structure Pin (A : Amb) (a : Addr) (ds : List D) : Prop where
  ex : ∃ vs, A.H0 a = some (.lst vs) ∧ Reps A.K A.S0 vs ds
  nb : some a ≠ A.b
section
variable {A : Amb} {te ta tb : TE} {tt tu : TT} {tr tk : TA} {ts us : TS} {wi : TI} {g : TG} {ρ : Rho} {n : Nat} {T : DEnds}
theorem Pin.at {A : Amb} {a : Addr} {ds : List D} {n : Nat} {S H : Hp} (p : Pin A a ds) (f : Fr A n S H) : ∃ vs, H a = some (.lst vs) ∧ Reps A.K S vs ds := by
  obtain ⟨vs, h1, h2⟩ := p.ex
  exact ⟨vs, f.mv.fr a _ p.nb h1, h2.mono f.mv.ss⟩
theorem pin_back {A : Amb} {S0 H0 : Hp} {n0 : Nat} (f0 : Fr A n0 S0 H0) {a : Addr} {vs : List V} (h0a : A.H0 a = none) {n : Nat} {S H : Hp} (f : Fr (pinA A S0 a vs) n S H) : Fr A n S H := by
  refine ⟨f.sub, ⟨f0.mv.ss.trans f.mv.ss, fun x o hne h nt => ?_, fun x ps h => ?_, fun x hx hs => ?_⟩, fun x hx => ⟨(f.box x hx).1, (f.box x hx).2.1, (f0.box x hx).2.2⟩, f.tab⟩
  · refine f.mv.fr x o hne ?_ nt
    show upd A.H0 a (.lst vs) x = some o
    rw [upd_ne (ne_of_none h h0a)]; exact h
  · refine f.mv.tb x ps ?_
    show upd A.H0 a (.lst vs) x = some (.tbl ps)
    rw [upd_ne (ne_of_none h h0a)]; exact h
  · refine f.mv.sep x ?_ (f0.mv.sep x hx hs)
    show upd A.H0 a (.lst vs) x ≠ none
    by_cases e : x = a
    · subst e; rw [upd_same]; simp
    · rw [upd_ne e]; exact hx
theorem pin_xok {A : Amb} {S0 H0 : Hp} {n0 : Nat} (f0 : Fr A n0 S0 H0) {a : Addr} {vs : List V} (h0a : A.H0 a = none) (hX : XOk A) : XOk (pinA A S0 a vs) := fun c fs dd S' H' n' f hd hp => hX c fs dd S' H' n' (pin_back f0 h0a f) hd hp
/-- what is done while our list at i is only read -/
theorem ds_pin {i : Nat} {ds : List D} (hi : ρ[i]? = some (.own ds)) (h : ∀ (S : Hp) (a : Addr) (vs : List V), Pin (pinA A S a vs) a ds → (XOk A → XOk (pinA A S a vs)) →
    DS (pinA A S a vs) ts (ρ.set i (.val (.raw (.ref a)))) n { nx := fun ρ' m => ρ'[i]? = some (.val (.raw (.ref a))) ∧ T.nx (ρ'.set i (.own ds)) m, rt := T.rt }) : DS A ts ρ n T := fun S H σ e D k => by
  obtain ⟨a, vs, h1, h2, h3, h4, h5⟩ := e.own hi
  have nb : some a ≠ A.b := fun z => (e.f.box a z.symm).2.2 h5
  have f1 : Fr (pinA A S a vs) n S H := by
    refine ⟨e.f.sub, ⟨Ex.refl S, fun x o hne hx nt => ?_, fun x ps hx => ?_, fun x hx hs => hs⟩, fun x hx => ⟨(e.f.box x hx).1, (e.f.box x hx).2.1, ?_⟩, e.f.tab⟩
    · have hx' : upd A.H0 a (.lst vs) x = some o := hx
      by_cases c : x = a
      · subst c
        rw [upd_same] at hx'; cases hx'
        exact h2
      · rw [upd_ne c] at hx'
        exact e.f.mv.fr x o hne hx' nt
    · have hx' : upd A.H0 a (.lst vs) x = some (.tbl ps) := hx
      by_cases c : x = a
      · subst c
        rw [upd_same] at hx'; cases hx'
      · rw [upd_ne c] at hx'
        exact e.f.mv.tb x ps hx'
    · show upd A.H0 a (.lst vs) x ≠ none
      by_cases c : x = a
      · subst c; rw [upd_same]; simp
      · rw [upd_ne c]; exact (e.f.box x hx).2.2
  have hil : i < σ.length := by
    rw [e.len]
    exact (List.getElem?_eq_some_iff.mp hi).1
  have sig : σ.set i (some (.ref a)) = σ := by
    refine List.ext_getElem? fun j => ?_
    by_cases c : i = j
    · subst c; rw [List.getElem?_set_self hil, h1]
    · rw [List.getElem?_set_ne c]
  have e1 : ER (pinA A S a vs) n S H σ (ρ.set i (.val (.raw (.ref a)))) := by
    refine ⟨f1, by rw [List.length_set]; exact e.len, fun j s hs => ?_, fun j l ds' es hne hj hl => ?_⟩
    · by_cases c : i = j
      · subst c
        rw [List.getElem?_set_self (by rw [← e.len]; exact hil)] at hs
        cases hs
        exact ⟨_, h1, _, rfl, Rep.raw⟩
      · rw [List.getElem?_set_ne c] at hs
        obtain ⟨o, g1, g2⟩ := e.sl j s hs
        refine ⟨o, g1, ?_⟩
        cases s with
        | un => trivial
        | val d => exact g2
        | own es =>
          obtain ⟨b, ws, q1, q2, q3, q4, q5⟩ := g2
          refine ⟨b, ws, q1, q2, q3, q4, ?_⟩
          show upd A.H0 a (.lst vs) b = none
          have hab : b ≠ a := fun z => by
            subst z
            exact e.ap i j ds es c hi hs (by rw [h1, g1, q1])
          rw [upd_ne hab]; exact q5
        | dic kvs =>
          obtain ⟨b, ks, q1, q2, q3, q4, q5⟩ := g2
          refine ⟨b, ks, q1, q2, q3, q4, ?_⟩
          show upd A.H0 a (.lst vs) b = none
          have hab : b ≠ a := fun z => by
            subst z
            rw [h2] at q2
            cases q2
          rw [upd_ne hab]; exact q5
        | nd kvs =>
          obtain ⟨b, ks, q1, q2, q3, q4, q5⟩ := g2
          refine ⟨b, ks, q1, q2, q3, q4, ?_⟩
          show upd A.H0 a (.lst vs) b = none
          have hab : b ≠ a := fun z => by
            subst z
            rw [h2] at q2
            cases q2
          rw [upd_ne hab]; exact q5
    · have ci : i ≠ j := fun z => by
        subst z
        rw [List.getElem?_set_self (by rw [← e.len]; exact hil)] at hj
        cases hj
      have cl : i ≠ l := fun z => by
        subst z
        rw [List.getElem?_set_self (by rw [← e.len]; exact hil)] at hl
        cases hl
      rw [List.getElem?_set_ne ci] at hj
      rw [List.getElem?_set_ne cl] at hl
      exact e.ap j l ds' es hne hj hl
  have P0 : Pin (pinA A S a vs) a ds := ⟨⟨vs, upd_same, h3⟩, nb⟩
  refine h S a vs P0 (pin_xok e.f h5) S H σ e1 D ⟨fun ρ' n' S' H' σ' ex e' ⟨p1, p2⟩ => ?_, fun v d n' S' H' ex f r p => k.rt v d n' S' H' ex (pin_back e.f h5 f) r p, fun _ _ _ _ _ _ _ p => p.elim, fun _ _ _ _ _ _ _ p => p.elim⟩
  refine k.nx (ρ'.set i (.own ds)) n' S' H' σ' ex ?_ p2
  obtain ⟨v, g1, g2⟩ := e'.val p1
  cases g2.raw_inv
  obtain ⟨ws, w1, w2⟩ := P0.at e'.f
  have hS' : S' a = none := e'.f.mv.sep a (by show upd A.H0 a (.lst vs) a ≠ none; rw [upd_same]; simp) h4
  have hil' : i < ρ'.length := (List.getElem?_eq_some_iff.mp p1).1
  refine ⟨pin_back e.f h5 e'.f, by rw [List.length_set]; exact e'.len, fun j s hs => ?_, fun j l ds' es hne hj hl => ?_⟩
  · by_cases c : i = j
    · subst c
      rw [List.getElem?_set_self hil'] at hs
      cases hs
      exact ⟨_, g1, a, ws, rfl, w1, w2, hS', h5⟩
    · rw [List.getElem?_set_ne c] at hs
      obtain ⟨o, q1, q2⟩ := e'.sl j s hs
      refine ⟨o, q1, ?_⟩
      cases s with
      | un => trivial
      | val d => exact q2
      | own es =>
        obtain ⟨b, us, x1, x2, x3, x4, x5⟩ := q2
        refine ⟨b, us, x1, x2, x3, x4, ?_⟩
        have x5' : upd A.H0 a (.lst vs) b = none := x5
        by_cases z : b = a
        · subst z; rw [upd_same] at x5'; cases x5'
        · rw [upd_ne z] at x5'; exact x5'
      | dic kvs =>
        obtain ⟨b, us, x1, x2, x3, x4, x5⟩ := q2
        refine ⟨b, us, x1, x2, x3, x4, ?_⟩
        have x5' : upd A.H0 a (.lst vs) b = none := x5
        by_cases z : b = a
        · subst z; rw [upd_same] at x5'; cases x5'
        · rw [upd_ne z] at x5'; exact x5'
      | nd kvs =>
        obtain ⟨b, us, x1, x2, x3, x4, x5⟩ := q2
        refine ⟨b, us, x1, x2, x3, x4, ?_⟩
        have x5' : upd A.H0 a (.lst vs) b = none := x5
        by_cases z : b = a
        · subst z; rw [upd_same] at x5'; cases x5'
        · rw [upd_ne z] at x5'; exact x5'
  · have own_ne : ∀ {l : Nat} {es : List DL.D}, i ≠ l → ρ'[l]? = some (.own es) → σ'[l]? ≠ some (some (.ref a)) := fun {l es} c hl z => by
      obtain ⟨b, us, x1, x2, x3, x4, x5⟩ := e'.own hl
      rw [x1] at z; cases z
      have x5' : upd A.H0 a (.lst vs) a = none := x5
      rw [upd_same] at x5'; cases x5'
    by_cases cj : i = j
    · subst cj
      rw [List.getElem?_set_ne hne] at hl
      rw [g1]
      exact fun z => own_ne hne hl z.symm
    · rw [List.getElem?_set_ne cj] at hj
      by_cases cl : i = l
      · subst cl
        rw [g1]
        exact fun z => own_ne cj hj z
      · rw [List.getElem?_set_ne cl] at hl
        exact e'.ap j l ds' es hne hj hl
theorem di_pin {i : Nat} {a : Addr} {ds : List D} {P : List D → Nat → Prop} (p : Pin A a ds) (hi : ρ[i]? = some (.val (.raw (.ref a)))) (h : P ds n) : DI A (iSeq A.K (tVar i)) ρ n P := fun S H σ e R q => by
  obtain ⟨v, g1, g2⟩ := e.val hi
  cases g2.raw_inv
  obtain ⟨vs, h1, h2⟩ := p.ex
  have at' : ∀ {m : Nat} {S2 H2 : Hp}, Fr A m S2 H2 → H2 a = some (.lst vs) := fun f => f.mv.fr a _ p.nb h1
  have r := h2.mono e.f.mv.ss
  refine ⟨_, g1, a, rfl, Or.inl ⟨⟨vs, Evl.sq_of (at' e.f)⟩, q _ ds S H n _ _ Mv.refl e.f (by rw [← h2.length]; exact walk_list) (fun S2 H2 m x f => Evl.sq_of (at' f)) (fun i S2 H2 x H3 m hi ex f y => ?_) h⟩⟩
  obtain ⟨rfl, hx⟩ := y
  obtain ⟨d, q1, q2⟩ := r.getV hx
  exact ⟨S2, d, q1, Mv.refl, f, q2.mono ex⟩
theorem de_pinLen {i : Nat} {a : Addr} {ds : List D} {P : D → Nat → Prop} (p : Pin A a ds) (hi : ρ[i]? = some (.val (.raw (.ref a)))) (h : P (.int (ds.length : Int)) n) :
    DE A (tCB (fun xs H Q => ∃ p ys, xs = [.ref p] ∧ (SqL A.K H p ys ∨ SqT A.K H p ys) ∧ Q (.int ys.length) H) (tCons (tVar i) tNil)) ρ n P := fun S H σ e Q q => by
  obtain ⟨v, g1, g2⟩ := e.val hi
  cases g2.raw_inv
  obtain ⟨vs, h1, h2⟩ := p.at e.f
  refine ⟨_, g1, a, vs, rfl, Or.inl (Evl.sq_of h1), ?_⟩
  rw [h2.length]
  exact q _ _ S H n Mv.refl e.f Rep.int h
theorem de_pinIx {i : Nat} {a : Addr} {ds : List D} {P : D → Nat → Prop} (p : Pin A a ds) (hi : ρ[i]? = some (.val (.raw (.ref a)))) (h : DE A tb ρ n fun d m => ∃ (j : Nat) (x : D), d = .int (j : Int) ∧ ds[j]? = some x ∧ P x m) : DE A (tOp (rIx A.K) (tVar i) tb) ρ n P := fun S H σ e Q q => by
  obtain ⟨v, g1, g2⟩ := e.val hi
  cases g2.raw_inv
  refine ⟨_, g1, h S H σ e _ fun w d S' H' m mv f r ⟨j, x, hd, hj, px⟩ => ?_⟩
  subst hd
  cases r.int_inv
  obtain ⟨vs, h1, h2⟩ := p.at f
  obtain ⟨y, hy, ry⟩ := h2.get hj
  exact Or.inl ⟨a, vs, (j : Int), y, rfl, rfl, Evl.sq_of h1, atI_nat hy, q _ _ S' H' m mv f ry px⟩
/-- xs, ys = [], list(..) : both ours -/
theorem ds_parNL {i j : Nat} (hij : i ≠ j) (hi : i < ρ.length) (h : DF A te ρ n fun ds m => T.nx ((ρ.set i (.own [])).set j (.own ds)) m) : DS A (tPar i j (tCons (tLst tNil) (tCons te tNil))) ρ n T := fun S H σ e D k => by
  refine ⟨Nat.zero_le _, fun l hl => ?_⟩
  have e1 : ER A n S (upd H l (.lst [])) σ ρ := e.mv (Mv.newO hl) (e.f.newO hl)
  have new : ∀ (j : Nat) (es : List DL.D), ρ[j]? = some (.own es) → σ[j]? ≠ some (some (V.ref l)) := fun j es hj z => by
    obtain ⟨b, us, x1, x2, _⟩ := e.own hj
    rw [x1] at z; cases z
    rw [hl] at x2; cases x2
  refine h S _ σ e1 _ fun a vs ds S' H' n' m f hHa hH' hS' r p => ?_
  have ne : a ≠ l := fun z => by subst z; rw [upd_same] at hHa; cases hHa
  have nbl : some l ≠ A.b := fun z => (e1.f.box l z.symm).2.2 (e.f.h0 hl)
  have hl' : H' l = some (.lst []) := m.fr l _ nbl upd_same
  have sl' : S' l = none := m.sep l (by rw [upd_same]; simp) (e.f.s0 hl)
  have e2 := (e1.mv m f).setOwn (i := i) (fun j es hj => new j es hj) hl' Reps.nil sl' (e.f.h0 hl)
  have hil : i < σ.length := by rw [e.len]; exact hi
  have new2 : ∀ (j : Nat) (es : List DL.D), (ρ.set i (.own []))[j]? = some (.own es) → (σ.set i (some (V.ref l)))[j]? ≠ some (some (V.ref a)) := fun j es hj z => by
    by_cases c : i = j
    · subst c
      rw [List.getElem?_set_self hil] at z
      cases z; exact ne rfl
    · rw [List.getElem?_set_ne c] at hj z
      obtain ⟨b, us, x1, x2, _⟩ := e1.own hj
      rw [x1] at z; cases z
      rw [hHa] at x2; cases x2
  have ha0 : A.H0 a = none := by
    cases c : A.H0 a with
    | none => rfl
    | some o =>
      have nb : some a ≠ A.b := fun z => by
        obtain ⟨⟨_, _, _, w, _⟩, _⟩ := e1.f.box a z.symm
        rw [hHa] at w; cases w
      by_cases nt : NT o
      · have := e1.f.mv.fr a o nb c nt
        rw [hHa] at this; cases this
      · obtain ⟨ps, hp⟩ : ∃ ps, o = .tbl ps := by
          refine Classical.byContradiction fun z => nt fun ps q => z ⟨ps, q⟩
        subst hp
        obtain ⟨qs, hq⟩ := e1.f.mv.tb a ps c
        rw [hHa] at hq; cases hq
  have e3 := e2.setOwn (i := j) new2 hH' r hS' ha0
  exact ⟨_, _, rfl, k.nx _ n' S' H' _ m.ss e3 p⟩
/-- xs.remove(e), ints, xs ours -/
theorem ds_remOwn {i : Nat} {ns : List Int} (hi : ρ[i]? = some (.own (ns.map D.int))) (h : DE A te ρ n fun d m => ∃ x, d = .int x ∧ x ∈ ns ∧ T.nx (ρ.set i (.own ((ns.erase x).map D.int))) m) : DS A (tDrop (tBM A.K "list" rRemI (tVar i) (tCons te tNil))) ρ n T := fun S H σ e D k => by
  obtain ⟨a, vs, h1, h2, h3, h4, h5⟩ := e.own hi
  refine ⟨.ref a, h1, Or.inl ⟨rfl, vs, Evl.sq_of h2⟩, h S H σ e _ fun v d S' H' n' m f r ⟨x, hd, hx, p⟩ => ?_⟩
  subst hd
  cases r.int_inv
  have e' := e.mv m f
  obtain ⟨a', vs', q1, q2, q3, q4, q5⟩ := e'.own hi
  rw [h1] at q1; cases q1
  cases q3.intsV
  obtain ⟨j, hj, hno, he⟩ : ∃ j : Nat, ns[j]? = some x ∧ (∀ m : Nat, m < j → ns[m]? ≠ some x) ∧ ns.eraseIdx j = ns.erase x := by
    refine ⟨ns.idxOf x, ?_, fun m hm z => ?_, ?_⟩
    · have := List.idxOf_lt_length_of_mem hx
      rw [List.getElem?_eq_getElem this, List.getElem_idxOf]
    · have hl : m < ns.length := (List.getElem?_eq_some_iff.mp z).1
      have := List.not_of_lt_findIdx (p := fun y => y == x) (xs := ns) (i := m) hm
      rw [(List.getElem?_eq_some_iff.mp z).2] at this
      simp at this
    · exact (List.erase_eq_eraseIdx_of_idxOf rfl).symm
  refine ⟨a, ns, x, j, rfl, rfl, q2, hj, hno, ?_⟩
  rw [he]
  exact k.nx _ n' S' _ σ m.ss (e'.putOwn hi h1 (Reps.of_ints (ns := ns.erase x))) p
end
end DL
namespace DL
open PySem PySem.Spec PyProof.Rows L2 Evl
section
variable {A : Amb} {te ta tb : TE} {tt tu : TT} {tr tk : TA} {ts us : TS} {wi : TI} {g : TG} {ρ : Rho} {n : Nat} {T : DEnds}
theorem de_notN {P : D → Nat → Prop} (h : DE A ta ρ n fun d m => P (.bl (match d with | .non => false | .raw v => !decide (v = .non) | _ => true)) m) : DE A (tOp (fun x y H Q => y = .non ∧ Q (.bl (!decide (x = .non))) H) ta (tC .non)) ρ n P := fun S H σ e Q q =>
  h S H σ e _ fun v d S1 H1 n1 m1 f1 r1 p => by
    refine ⟨rfl, q _ _ S1 H1 n1 m1 f1 ?_ p⟩
    cases d with
    | non => rw [r1.non_inv]; exact Rep.bl
    | bl b => rw [r1.bl_inv]; exact Rep.bl
    | int b => rw [r1.int_inv]; exact Rep.bl
    | str b => rw [r1.str_inv]; exact Rep.bl
    | lst b => obtain ⟨a, vs, rfl, _⟩ := r1.lst_inv; exact Rep.bl
    | tup b => obtain ⟨a, vs, rfl, _⟩ := r1.tup_inv; exact Rep.bl
    | raw u => rw [r1.raw_inv]; exact Rep.bl
    | exc C fs =>
      have r := r1
      unfold Rep at r
      obtain ⟨a, d, rfl, _⟩ := r
      exact Rep.bl
end
end DL
namespace DL
open PySem PySem.Spec PyProof.Rows L2 Evl
open Sem (wp)
/-! enumerate(tuple) -/
theorem meets_enumerate_new1 {v : Value} {o : Obj} {H : Heap → Prop} (B : Begins v o H) :
    Meets (Builtin.«enumerate.__new__» ⟨[.type "enumerate", v], []⟩) (fun _ R s => H s.heap ∧
      R (.ok (.ret (.ref (s.heap.push o).objs.size))) { s with heap := (s.heap.push o).push { cls := .type "enumerate", data := .fields #[.none, .bool false, .ref s.heap.objs.size, rawInt 0, .none, .none] } }) :=
  .of_wp fun prog w A R s h => by
    obtain ⟨hp, g, d, tk, os⟩ := s; obtain ⟨h1, h⟩ := h
    have hsub := sub_enumerate
    have q1 : ∀ {A' : Around} {E : Value → Shared → Prop} {Q : Value → Shared → Prop}, Q (.ref hp.objs.size) ⟨hp.push o, g, d, tk, os⟩ → wpAny (model prog w) A' (pyIter v) Q E ⟨hp, g, d, tk, os⟩ :=
      fun q => B.iter prog w _ _ ⟨hp, g, d, tk, os⟩ _ h1 q
    wp_walk using q1
    refine wpAny_stack_any fun st => wpAny_pure ?_
    split
    · rename_i c _ _ _ _ _
      cases (c == Value.type "enumerate")
      · wp_walk using q1
        exact ⟨_, rfl, h⟩
      · wp_walk using q1
        exact ⟨_, rfl, h⟩
    · wp_walk using q1
      exact ⟨_, rfl, h⟩
section
variable {prog : Program} {w : World} {A : Around} {E : Value → Shared → Prop} {s : Shared}
theorem enum_begins1 {v : Value} {o : Obj} {H : Heap → Prop} {Q : Value → Shared → Prop} (B : Begins v o H) (h1 : H s.heap)
    (h : ∀ h', IsEnum h' (s.heap.objs.size + 1) s.heap.objs.size 0 .none → h'.get? s.heap.objs.size = some o → h'.objs.size = s.heap.objs.size + 2 →
      (∀ b o, s.heap.get? b = some o → h'.get? b = some o) → Q (.ref (s.heap.objs.size + 1)) { s with heap := h' }) :
    wpAny (model prog w) A (call (.type "enumerate") [v]) Q E s := by
  refine callType_new F.called_enumerate (by decide) (F.typeCall_enumerate_1 _) (F.newCall_enumerate_1 _) (fun obj => F.args_object_init_2 obj _) F.entry_enumerate_new
    (meets_enumerate_new1 B) ⟨h1, ?_⟩
  have hz : (s.heap.push o).objs.size = s.heap.objs.size + 1 := Heap.size_push ..
  show _ ∧ _
  rw [hz]
  have he : IsEnum ((s.heap.push o).push { cls := .type "enumerate", data := .fields #[.none, .bool false, .ref s.heap.objs.size, rawInt 0, .none, .none] }) (s.heap.objs.size + 1) s.heap.objs.size 0 .none := by
    have := Heap.get?_push_size (s.heap.push o) (o := { cls := .type "enumerate", data := .fields #[.none, .bool false, .ref s.heap.objs.size, rawInt 0, .none, .none] }) rfl
    rw [hz] at this; exact this
  refine ⟨⟨_, he, rfl⟩, h _ he (Heap.get?_push_of_some _ (Heap.get?_push_size _ B.free)) (by rw [Heap.size_push, hz]) fun b o x => Heap.get?_push_of_some _ (Heap.get?_push_of_some _ x)⟩
end
def IteT (K : PySem.W.Frag) (a : Addr) : It :=
  ⟨fun i H => ∃ (xs : List V) (x : V), SqT K H a xs ∧ xs[i]? = some x, fun i H v H' => ∃ T x, v = .ref T ∧ H T = none ∧ H' = upd H T (.tup [.int (i : Nat), x]) ∧ ∀ xs, SqT K H a xs → xs[i]? = some x, fun i H => ∃ xs : List V, SqT K H a xs ∧ xs.length = i⟩
theorem turn_enumT {P : Program} {w : World} {K : PySem.W.Frag} {elts : List Expr} {kk : Nat} {tpos : Pos} (a e it : Addr) :
    Turn P w K (.Tuple elts kk tpos) (IteT K a) [e, it] e (fun i h => (∃ old, IsEnum h e it ((i : Nat) : Int) old) ∧ h.IsTupleIter it a i ∧ e ≠ it) where
  mem := by simp
  obj := fun i h st b hb => by
    obtain ⟨⟨old, he⟩, ⟨o, ho, hc, hd⟩, _⟩ := st
    have e' : b = e ∨ b = it := by simpa using hb
    rcases e' with z | z
    · rw [z]; exact ⟨_, he, fun v q => nomatch q⟩
    · rw [z]; exact ⟨o, ho, fun v q => by rw [hd] at q; cases q⟩
  keep := fun i h h' st k => let ⟨⟨old, he⟩, hi, hne⟩ := st; ⟨⟨old, k e (by simp) _ he⟩, hi.at fun o q => k it (by simp) o q, hne⟩
  item := by
    intro X hP hw hK hc i pins s σ H E I hf st hg
    subst hP hw hK
    obtain ⟨⟨old, he⟩, hit, hne⟩ := st
    obtain ⟨xs, x, hq, hx⟩ := hg
    obtain ⟨its, rv, p, hz⟩ := I.tuple hq
    obtain ⟨u, hu, ru⟩ := rv.get hx
    have hel : e < s.heap.objs.size := Heap.lt_size he
    have hil : it < s.heap.objs.size := by obtain ⟨_, q, _⟩ := hit; exact Heap.lt_size q
    have p' : s.heap.IsTuple a its.toArray := p
    have clash : ∀ {b : Addr} {o : Obj} {T : String}, s.heap.get? b = some o → o.cls = .type T → T ≠ "tuple" → a ≠ b := fun hb hcl hT z => by
      subst z
      obtain ⟨o2, h2, c2, _⟩ := p'
      rw [hb] at h2; cases h2
      rw [hcl] at c2
      exact hT (Value.type.inj c2)
    have hai : a ≠ it := by
      obtain ⟨o, ho, hcl, _⟩ := hit
      exact clash ho hcl (by decide)
    have hae : a ≠ e := clash he rfl (by decide)
    have hlt : i < its.toArray.size := by
      have := (List.getElem?_eq_some_iff.mp hx).1
      rw [List.size_toArray, ← rv.length]; exact this
    refine wpAny_pyNext_enum_itemD (Draws.tuple (A := X.A.in1) (show X.A.in1.handled = none from I.ok.hd hc) it a hai its.toArray) he ⟨hit, p'⟩ hlt hne (by
      intro hm
      rcases List.mem_cons.mp hm with z | z
      · exact hne z
      · exact hae (List.mem_singleton.mp z).symm) fun y h' tk py ho st' hT hsz hk => ?_
    have hy : y = u := by
      have hu' : its.toArray[i]? = some u := by simpa using hu
      rw [hu'] at py; cases py; rfl
    subst hy
    obtain ⟨hit', ht'⟩ := st'
    refine ⟨_, rfl, wpAny_letOwnedTupleGo_enum (s := { s with heap := h', toks := tk + 1 }) ho fun h'' he' sb => ?_⟩
    have hT2 : h''.get? s.heap.objs.size = some { cls := .type "tuple", data := .seq #[.int i tk, y] } := (sb.2 _ (Nat.ne_of_gt hel)).trans hT
    have new : ObjOk X.prog X.w (upd H s.heap.objs.size (.tup [.int (i : Nat), x])) h'' s.heap.objs.size (.tup [.int (i : Nat), x]) :=
      ⟨by show 2 ≤ sizeLine; decide, [.int i tk, y], .cons ⟨_, rfl⟩ (.cons ru .nil), ⟨_, hT2, rfl, _, rfl⟩⟩
    have I1 : Inv X pins σ (upd H s.heap.objs.size (.tup [.int (i : Nat), x])) { s with heap := h'', toks := tk + 1 } :=
      I.turnedNew (ch := [e, it]) (fun b ob hb q => (sb.2 b (fun z => hb (by simp [z]))).trans (hk b ob (fun z => hb (by simp [z])) (fun z => hb (by simp [z])) q)) hf (Nat.le_refl _) new
    refine ⟨.ref s.heap.objs.size, _, I1, rfl, ⟨_, x, rfl, I.hok.fresh (Nat.le_refl _), rfl, fun ys hy => by rw [I.tuple_inj hy hq]; exact hx⟩, ⟨⟨y, ?_⟩, hit'.at fun o q => (sb.2 it (Ne.symm hne)).trans q, hne⟩, fun b hb => ?_⟩
    · have e1 : ((i + 1 : Nat) : Int) = (i : Int) + 1 := by omega
      rw [e1]; exact he'
    · have hb' : b < s.heap.objs.size := by
        have e' : b = e ∨ b = it := by simpa using hb
        rcases e' with z | z
        · rw [z]; exact hel
        · rw [z]; exact hil
      rw [upd_ne (Nat.ne_of_lt hb')]
      exact (hf b hb).1
  done := by
    intro X hP hw hK hc i pins s σ H E I hf st hg
    subst hP hw hK
    obtain ⟨⟨old, he⟩, hit, hne⟩ := st
    obtain ⟨xs, hq, hx⟩ := hg
    obtain ⟨its, rv, p, hz⟩ := I.tuple hq
    obtain ⟨f0, f1, f2, f3, f4, f5⟩ := hf it (by simp)
    have hl := rv.length
    have p' : s.heap.IsTuple a its.toArray := p
    have hai : a ≠ it := by
      obtain ⟨o, ho, hcl, _⟩ := hit
      intro z
      subst z
      obtain ⟨o2, h2, c2, _⟩ := p'
      rw [ho] at h2; cases h2
      rw [hcl] at c2
      exact absurd (Value.type.inj c2) (by decide)
    have hn : i = its.toArray.size := by rw [List.size_toArray]; omega
    rw [hn] at he hit
    exact wpAny_pyNext_enum_endD (Draws.tuple (A := X.A.in1) (show X.A.in1.handled = none from I.ok.hd hc) it a hai its.toArray) he ⟨hit, p'⟩ fun h' eb => ⟨rfl, I.turned (t' := s.toks) (fun b o hb q => eb b o hb q) f0 f1 f3 f4 f5⟩
  self := fun A i s Q E st h => let ⟨⟨_, he⟩, _⟩ := st; wpAny_pyIter_enum he h
/-- enumerate(xs), a list or a tuple -/
def iEnumS (K : PySem.W.Frag) (ta : TA) : TI := fun σ H R => ta σ H fun vs H1 => ∃ a, vs = [.ref a] ∧ ((∃ xs, SqL K H1 a xs) ∧ R (Ite K a) H1 ∨ (∃ xs, SqT K H1 a xs) ∧ R (IteT K a) H1)
theorem pi_enumS {X : Cx} {e : Expr} {ta : TA} {p pos tpos : Pos} {elts : List Expr} {kk : Nat} (hg : Gl X "enumerate") (hm : X.mg "enumerate" = none) (ha : PA X [e] ta) (hs : starEach [e] X.env = [(false, eval e X.env)] := by rfl) :
    PI X (.Tuple elts kk tpos) (.Call (.Name "enumerate" p) [e] [] pos) (iEnumS X.K ta) := by
  refine ⟨fun pins s σ H R I h => ?_⟩
  refine Call_ (ld_blt I hg hm boot_enumerate (PyProof.Rows.callWith_type1 (thn (ha.run pos pins s σ H _ I h) fun us s1 ⟨vs, H1, I1, r1, q1⟩ => ?_) hs rfl))
  obtain ⟨a, ex, q1⟩ := q1
  subst ex
  cases r1 with
  | cons r rr =>
    cases rr
    cases r
    have fin : ∀ {hh : Heap}, (∀ b ∈ [s1.heap.objs.size + 1, s1.heap.objs.size], b = s1.heap.objs.size + 1 ∨ b = s1.heap.objs.size) := fun {hh} b hb => by simpa using hb
    rcases q1 with ⟨⟨xs, hq⟩, q⟩ | ⟨⟨xs, hq⟩, q⟩
    · obtain ⟨its, rv, p', hz⟩ := I1.list hq
      refine call_enumerate_list p'.isList fun h' he hit hsz hk => wpAny_pyIter_enum he ?_
      have I2 : Inv X pins σ H1 { s1 with heap := h' } := I1.kept (t' := s1.toks) hk
      refine ⟨s1.heap.objs.size + 1, [s1.heap.objs.size + 1, s1.heap.objs.size], _, _, H1, rfl, I2, turn_enum a (s1.heap.objs.size + 1) s1.heap.objs.size, ⟨⟨.none, he⟩, hit, Nat.succ_ne_self _⟩, fun b hb => ?_, q⟩
      have e' : b = s1.heap.objs.size + 1 ∨ b = s1.heap.objs.size := by simpa using hb
      have hle : s1.heap.objs.size ≤ b := by
        rcases e' with z | z
        · rw [z]; exact Nat.le_add_right _ _
        · rw [z]; exact Nat.le_refl _
      exact I1.fpOk hle (I1.hok.fresh hle)
    · obtain ⟨its, rv, p', hz⟩ := I1.tuple hq
      refine enum_begins1 (begins_tuple a its.toArray) p' fun h' he hit hsz hk => wpAny_pyIter_enum he ?_
      have I2 : Inv X pins σ H1 { s1 with heap := h' } := I1.kept (t' := s1.toks) hk
      refine ⟨s1.heap.objs.size + 1, [s1.heap.objs.size + 1, s1.heap.objs.size], _, _, H1, rfl, I2, turn_enumT a (s1.heap.objs.size + 1) s1.heap.objs.size, ⟨⟨.none, he⟩, ⟨_, hit, rfl, rfl⟩, Nat.succ_ne_self _⟩, fun b hb => ?_, q⟩
      have e' : b = s1.heap.objs.size + 1 ∨ b = s1.heap.objs.size := by simpa using hb
      have hle : s1.heap.objs.size ≤ b := by
        rcases e' with z | z
        · rw [z]; exact Nat.le_add_right _ _
        · rw [z]; exact Nat.le_refl _
      exact I1.fpOk hle (I1.hok.fresh hle)
theorem kp_enumS (K : PySem.W.Frag) {X : Cx} {e : Expr} {ta : TA} {p pos tpos : Pos} {elts : List Expr} {kk : Nat} (hm : X.mg "enumerate" = none) (ha : PA X [e] ta) (hg : Gl X "enumerate" := by rfl) (h : X.K = K := by rfl) (hs : starEach [e] X.env = [(false, eval e X.env)] := by rfl) :
    PI X (.Tuple elts kk tpos) (.Call (.Name "enumerate" p) [e] [] pos) (iEnumS K ta) := h ▸ pi_enumS hg hm ha hs
end DL
namespace DL
open PySem PySem.Spec PyProof.Rows L2 Evl
/-! set(list of ints), then sorted of it -/
namespace SL
/-- a set as it is made -/
abbrev set0 (w : World) : Obj := { cls := .type "set", dict := none, data := .set #[] 0 (.fresh 0 0 (!w.params.followText "set-order")) }
/-- what is there once the ints are in -/
def Full (w : World) (h : Heap) (ns : List Int) (h' : Heap) : Prop := ∃ c, SetR w h' h.objs.size (fun j => decide (j ∈ ns)) c ∧ c ≤ ns.length ∧ ∀ b o, h.get? b = some o → h'.get? b = some o
section
variable {P : Program} {w : World} {A : Around} {E : Value → Shared → Prop} {h : Heap} {g : Array GenState} {dr : Drawn} {tk : Nat} {os : OsState} {l : Addr} {items : Array Value} {ns : List Int}
set_option maxHeartbeats 3200000 in
/-- set.__init__ on the new set -/
theorem init_list {R : PySem.Fin → Shared → Prop} (hh : A.handled = none) (hl : h.IsList l items) (hi : IntsAre items.toList ns) (hb : ns.length + 1 < scanBound)
    (hR : ∀ h' k, Full w h ns h' → R (.done (.ret .none)) ⟨h', g, dr, k, os⟩) : wpAny (model P w) A (Builtin.«set.__init__» ⟨[.ref h.objs.size, .ref l], []⟩) R E ⟨h.push (set0 w), g, dr, tk, os⟩ := by
  obtain ⟨o, ho, hc, nl, hd⟩ := hl
  obtain ⟨oc, od, odat, osl⟩ := o
  cases (show oc = .type "list" from hc)
  cases (show odat = .seq items nl from hd)
  have lt : l < h.objs.size := Heap.lt_size ho
  have sz : items.size = ns.length := (Array.length_toList (xs := items)).symm.trans (IntsAre.length hi)
  have at0 : (h.push (set0 w)).get? h.objs.size = some (set0 w) := Heap.get?_push_size _ rfl
  have atl := Heap.get?_push_of_some (set0 w) ho
  have il : (h.push (set0 w)).IsList l items := ⟨_, atl, rfl, nl, rfl⟩
  have hs := F.sub_list_set
  have hf := F.sub_list_frozenset
  have hne : (Value.type "list" == Value.type "dict") = false := by decide
  have size1 : (h.push (set0 w)).objs.size = h.objs.size + 1 := Heap.size_push ..
  unfold Builtin.«set.__init__» noKeywords Builtin.Frozenset.updateFrom
  generalize hPI : pyIter = PI
  wp_walk
  subst hPI
  refine wpAny_pyIter_list il (wpAny_bind (wpAny_runValue ?_))
  have vals : ∀ (i : Nat) (v : Value), items[i]? = some v → ∃ k t, ns[i]? = some k ∧ v = .int k t := fun i v hv => by
    have lti : i < ns.length := sz ▸ (Array.getElem?_eq_some_iff.mp hv).1
    obtain ⟨t, e⟩ := IntsAre.int_at hi i v ((Array.getElem?_toList ..).trans hv)
    have ge := List.getElem?_eq_getElem lti
    exact ⟨ns[i], t, ge, by rw [e, List.getD_eq_getElem?_getD, ge] <;> rfl⟩
  have out : h.objs.size ∉ [(h.push (set0 w)).objs.size, l] := by
    rw [size1]
    intro z
    rcases List.mem_cons.mp z with z | z
    · exact absurd z (Nat.ne_of_lt (Nat.lt_succ_self _))
    · exact absurd (List.mem_singleton.mp z) (Nat.ne_of_gt lt)
  have apart : l ≠ (h.push (set0 w)).objs.size := fun z => absurd (z.trans size1) (Nat.ne_of_lt (Nat.lt_succ_of_lt lt))
  refine set_update_ints ((Walks.list (show A.in1.handled = none from hh) _ l apart items).toS) h.objs.size out ns sz hb vals (items.size - 0) 0 _ (by omega) (Nat.zero_le _) ⟨⟨_, Heap.get?_push_size _ rfl, rfl, rfl⟩, il.push _⟩ ⟨0, Nat.le_refl 0, setR_new_at (Heap.get?_push_of_some _ at0)⟩ ?_
  rintro ⟨h', g2, d2, k2, o2⟩ c' hm hc' hS'
  cases (show g2 = g from hm.gens)
  cases (show d2 = dr from hm.drawn)
  cases (show o2 = os from hm.os)
  show wpAny _ _ _ _ _ _
  refine wpAny_pure (show wpAny _ _ (ret Value.none) _ _ _ from wpAny_pure (hR h' k2 ⟨c', hS', sz ▸ hc', fun b o e => ?_⟩))
  have hb0 : b < h.objs.size := Heap.lt_size e
  refine hm.heap b o (fun z => ?_) (Heap.get?_push_of_some _ (Heap.get?_push_of_some _ e))
  rcases List.mem_cons.mp z with z | z
  · exact absurd z (Nat.ne_of_lt hb0)
  · exact absurd ((List.mem_singleton.mp z).trans size1) (Nat.ne_of_lt (Nat.lt_succ_of_lt hb0))
/-- set(l), l a list of ints -/
theorem call_list {s : Shared} {Q : Value → Shared → Prop} (hh : A.handled = none) (hl : s.heap.IsList l items) (hi : IntsAre items.toList ns) (hb : ns.length + 1 < scanBound)
    (k : ∀ h' tk, Full w s.heap ns h' → Q (.ref s.heap.objs.size) { s with heap := h', toks := tk }) : wpAny (model P w) A (call (.type "set") [.ref l]) Q E s := by
  obtain ⟨c, tl, hmro⟩ := F.called_set.mro
  have made := F.called_set.made
  have sub := F.called_set.sub
  have nt := F.called_set.notType
  have cc := F.called_set.canCreate
  have ct := F.typeCall_set_1 (.ref l)
  refine wpAny_call (codeAny_of_tree (show wpAny _ _ (callAny (.type "set") _) _ _ _ from wpAny_pure ⟨Code.quiet_builtin _ (by decide +kernel), codeAny_builtin F.entry_type_call ?_⟩))
  rw [Around.under_plain (weight_type_call_type "set" [.ref l] []) rfl]
  repeat (any_goals (first | assumption | wp_step))
  refine codeAny_mono (code_set_led1 (.ref l) (E := E) (Q₁ := fun obj s₁ => obj = .ref s.heap.objs.size ∧ s₁ = { s with heap := s.heap.push (set0 w) }) ⟨rfl, rfl⟩) ?_
  rintro (er | fl) s1 hr
  · exact hr
  cases fl with
  | ret obj =>
    obtain ⟨rfl, rfl⟩ := hr
    have ty : Shared.TypeIs { s with heap := s.heap.push (set0 w) } (.ref s.heap.objs.size) "set" := ⟨_, Heap.get?_push_size _ rfl, rfl⟩
    have li := F.called_set.init.lookup
    have bi := F.called_set.init.bind (.ref s.heap.objs.size)
    repeat (any_goals (first | assumption | wp_step))
    refine codeAny_mono (codeAny_call_builtin (R := wants (fun r s₂ => r = .none ∧ ∃ h' tk, s₂ = { s with heap := h', toks := tk } ∧ Full w s.heap ns h') E) F.called_set.init.plain F.entry_set_init (check_set_init_1 ty ?_)) ?_
    · exact init_list (R := _) (by simp [hh]) hl hi hb fun h' tk f => ⟨rfl, h', tk, rfl, f⟩
    · rintro (er | fl) s2 hr2
      · exact hr2
      cases fl with
      | ret r =>
        obtain ⟨rfl, h', tk, rfl, f⟩ := hr2
        repeat (any_goals (first | assumption | wp_step))
        exact k _ _ f
      | _ => exact hr2.elim
  | _ => exact hr.elim
end
end SL
/-- sorted(set(e)), e a list of ints, few different ones -/
def tSortSet (K : PySem.W.Frag) (ta : TE) : TE := fun σ H Q => ta σ H fun x H1 => ∃ (l : Addr) (ns : List Int), x = V.ref l ∧ SqL K H1 l (ns.map V.int) ∧ ns.length < 64 ∧
  ∀ (ns' : List Int) (p : Addr), ns'.Pairwise (· < ·) → (∀ k, k ∈ ns' ↔ k ∈ ns) → H1 p = none → Q (.ref p) (upd H1 p (.lst (ns'.map V.int)))
section
variable {X : Cx}
theorem kx_sortSet (K : PySem.W.Frag) {a : Expr} {ta : TE} {p p2 q pos : Pos} (hm : X.mg "sorted" = none) (hm2 : X.mg "set" = none) (ha : PE X a ta) (hc : X.calm = true := by rfl) (hg : Gl X "sorted" := by rfl) (hg2 : Gl X "set" := by rfl) (hK : X.K = K := by rfl)
    (hs : starEach [.Call (.Name "set" p2) [a] [] q] X.env = [(false, eval (.Call (.Name "set" p2) [a] [] q) X.env)] := by rfl) (hs2 : starEach [a] X.env = [(false, eval a X.env)] := by rfl) :
    PE X (.Call (.Name "sorted" p) [.Call (.Name "set" p2) [a] [] q] [] pos) (tSortSet K ta) := by
  subst hK
  refine ⟨fun pins s σ H Q I h => ?_⟩
  refine Call_ (ld_blt I hg hm PyProof.Rows.boot_sorted (PyProof.Rows.callWith_builtin1 (PyProof.Rows.args_cons ?_ hs) hs rfl))
  refine Call_ (ld_blt I hg2 hm2 PyProof.Rows.boot_set ?_)
  refine PyProof.Rows.callWith_type1 (PyProof.Rows.args_cons (thn (ha.run pins s σ H _ I h) fun v s1 ⟨x, H1, I1, r1, l, ns, ex, hq, hl, k⟩ => PyProof.Rows.args_nil ?_) hs2) hs2 rfl
  subst ex
  cases r1
  obtain ⟨its, r, pl, hz⟩ := I1.list hq
  refine SL.call_list (I1.ok.hd hc) pl.isList (ns := ns) (by rw [List.toList_toArray]; exact ints_of_vals r) (by unfold scanBound; omega) fun h' tk ⟨c, hS, hcn, hk⟩ => PyProof.Rows.args_nil ?_
  have I2 : Inv X pins σ H1 { s1 with heap := h', toks := tk } := I1.kept (t' := tk) hk
  refine sorted_set (s := { s1 with heap := h', toks := tk }) hS (I2.ok.hd hc) (by omega) fun s' p out c' ms kk gg oo hp hg' hi hs' hm' hl' => ?_
  have hlen : (ms.map V.int).length ≤ sizeLine := by rw [List.length_map, hl', sizeLine_eq]; omega
  have hn : H1 p = none := I2.hok.fresh hp
  have J : Inv X pins σ (upd H1 p (.lst (ms.map V.int))) { ({ s1 with heap := h', toks := tk } : Shared) with heap := s'.heap, gens := s'.gens, drawn := s'.drawn, toks := s'.toks } :=
    I2.call (ch := []) (Un.laid kk hp hn) (I2.hok.laid kk hp ⟨hlen, out.toList, c', vals_of_ints hi, hg'⟩) (by rw [gg]; exact I2.bare) (fun _ z => nomatch z)
  have e : s' = { s1 with heap := s'.heap, gens := s'.gens, drawn := s'.drawn, toks := s'.toks } := by
    obtain ⟨x1, x2, x3, x4, x5⟩ := s'
    cases (show x5 = s1.os from oo)
    rfl
  rw [e]
  exact ⟨.ref p, _, J, rfl, k ms p hs' (fun j => by rw [hm' j, decide_eq_true_eq]) hn⟩
end
section
variable {A : Amb} {te : TE} {ρ : Rho} {n : Nat}
theorem df_sortSet {P : List D → Nat → Prop} (h : DE A te ρ n fun d m => ∃ ns : List Int, d = .lst (ns.map D.int) ∧ ns.length < 64 ∧ ∀ ns' : List Int, ns'.Pairwise (· < ·) → (∀ k, k ∈ ns' ↔ k ∈ ns) → P (ns'.map D.int) m) : DF A (tSortSet A.K te) ρ n P := fun S H σ e Q q =>
  h S H σ e _ fun v d S1 H1 n1 m1 f1 r1 ⟨ns, hd, hl, p⟩ => by
    subst hd
    obtain ⟨a, vs, rfl, h1, h2⟩ := r1.lst_inv
    cases h2.intsV
    refine ⟨a, ns, rfl, Evl.sq_of (f1.sub _ _ h1), hl, fun ns' t hp hs ht => ?_⟩
    exact q t _ (ns'.map D.int) S1 _ n1 (m1.trans f1.bt (Mv.newO ht)) (f1.newO ht) (none_back e.f m1 f1 ht) upd_same (f1.s0 ht) Reps.of_ints (p ns' hp hs)
end
end DL
namespace DL
open PySem PySem.Spec PyProof.Rows L2 Evl
theorem walk_enumT {K : PySem.W.Frag} {a : Addr} {xs : List V} : Walk (IteT K a) xs.length (fun H => SqT K H a xs) (YPair (fun i => some (.int (i : Nat))) (fun i => xs[i]?)) := by
  refine ⟨fun i _ hi q => ⟨xs, xs[i], q, by simp [hi]⟩, fun _ q => ⟨xs, q, rfl⟩, fun i H v H' _ q y => ?_⟩
  obtain ⟨T, x, h1, h2, h3, h4⟩ := y
  exact ⟨T, .int (i : Nat), x, h1, h2, h3, rfl, h4 xs q⟩
/-- < of tuples of ints -/
def rLtA (K : PySem.W.Frag) : R2 := fun x y H Q => rI0 (fun i j => .bl (decide (i < j))) x y H Q ∨ rLtT K x y H Q
section
variable {X : Cx}
theorem kx_lt (K : PySem.W.Frag) (hu : X.A.units + 64 < cLine) (h : X.K = K := by rfl) : OpR X (compareOp .Lt) (rLtA K) := by
  subst h
  intro pins s σ H x y v u Q I rx ry hh
  rcases hh with hh | hh
  · exact op_lt pins s σ H x y v u Q I rx ry hh
  · exact op_ltT (by omega) pins s σ H x y v u Q I rx ry hh
theorem kx_index (K : PySem.W.Frag) (h : X.K = K := by rfl) : MtR X "list.index" (rIndex K) := h ▸ mt_index
end
section
variable {A : Amb} {te ta tb : TE} {tt : TT} {tr tk : TA} {ts us : TS} {ρ : Rho} {n k : Nat} {T : DEnds}
theorem di_enumS {P : List D → Nat → Prop} (h : DE A te ρ n fun d m => ∃ ds, (d = .lst ds ∨ d = .tup ds) ∧ P (enumD ds) m) : DI A (iEnumS A.K (tCons te tNil)) ρ n P := fun S H σ e R q =>
  h S H σ e _ fun v d S1 H1 n1 m1 f1 r1 ⟨ds, hd, p⟩ => by
    rcases hd with rfl | rfl
    · obtain ⟨a, vs, rfl, h1, h2⟩ := r1.lst_inv
      refine ⟨a, rfl, Or.inl ⟨⟨vs, Evl.sq_of (f1.sub _ _ h1)⟩, q _ (enumD ds) S1 H1 n1 _ _ m1 f1 (by rw [enumD_len, ← h2.length]; exact walk_enum) (fun S2 H2 m x f => Evl.sq_of ((x.trans f.sub) _ _ h1)) (fun i S2 H2 x H3 m hi ex f y => ?_) p⟩⟩
      obtain ⟨t, x1, x2, rfl, ht, rfl, e1, e2⟩ := y
      obtain ⟨d2, hd2, rd2⟩ := h2.getV e2
      cases e1
      exact ⟨_, _, enumD_get hd2, Mv.new f.sub ht, f.new ht, Rep.tup upd_same (Reps.cons Rep.int (Reps.one (rd2.mono (ex.trans (Mv.new (b := A.b) f.sub ht).ss))))⟩
    · obtain ⟨a, vs, rfl, h1, h2⟩ := r1.tup_inv
      refine ⟨a, rfl, Or.inr ⟨⟨vs, Evl.st_of (f1.sub _ _ h1)⟩, q _ (enumD ds) S1 H1 n1 _ _ m1 f1 (by rw [enumD_len, ← h2.length]; exact walk_enumT) (fun S2 H2 m x f => Evl.st_of ((x.trans f.sub) _ _ h1)) (fun i S2 H2 x H3 m hi ex f y => ?_) p⟩⟩
      obtain ⟨t, x1, x2, rfl, ht, rfl, e1, e2⟩ := y
      obtain ⟨d2, hd2, rd2⟩ := h2.getV e2
      cases e1
      exact ⟨_, _, enumD_get hd2, Mv.new f.sub ht, f.new ht, Rep.tup upd_same (Reps.cons Rep.int (Reps.one (rd2.mono (ex.trans (Mv.new (b := A.b) f.sub ht).ss))))⟩
theorem dr_ltT {ns ms : List Int} {P : D → Nat → Prop} (p : P (.bl (HT.lexLt ns ms)) n) : DR A (rLtA A.K) (.tup (ns.map D.int)) (.tup (ms.map D.int)) n P := fun S H v w f rv rw Q q => by
  obtain ⟨a, vs, rfl, h1, h2⟩ := rv.tup_inv
  obtain ⟨b, ws, rfl, g1, g2⟩ := rw.tup_inv
  cases h2.intsV
  cases g2.intsV
  exact Or.inr ⟨a, b, ns, ms, rfl, rfl, Evl.st_of (f.sub _ _ h1), Evl.st_of (f.sub _ _ g1), q _ _ S H n Mv.refl f Rep.bl p⟩
theorem dr_ltA {i j : Int} {P : D → Nat → Prop} (p : P (.bl (decide (i < j))) n) : DR A (rLtA A.K) (.int i) (.int j) n P := fun S H v w f rv rw Q q => by
  cases rv.int_inv
  cases rw.int_inv
  exact Or.inl ⟨i, j, rfl, rfl, q _ _ S H n Mv.refl f Rep.bl p⟩
/-- xs.index(e), ints, e in xs -/
theorem de_index {P : D → Nat → Prop} (h : DE A ta ρ n fun d m => ∃ ns : List Int, d = .lst (ns.map D.int) ∧ DE A tb ρ m fun e m2 => ∃ x, e = .int x ∧ x ∈ ns ∧ P (.int ((ns.idxOf x : Nat) : Int)) m2) : DE A (tBM A.K "list" (rIndex A.K) ta (tCons tb tNil)) ρ n P := fun S H σ e Q q =>
  h S H σ e _ fun v d S1 H1 n1 m1 f1 r1 ⟨ns, hd, p⟩ => by
    subst hd
    obtain ⟨a, vs, rfl, h1, h2⟩ := r1.lst_inv
    cases h2.intsV
    refine ⟨Or.inl ⟨rfl, _, Evl.sq_of (f1.sub _ _ h1)⟩, p S1 H1 σ (e.mv m1 f1) _ fun w d2 S2 H2 n2 m2 f2 r2 ⟨x, hd2, hx, p2⟩ => ?_⟩
    subst hd2
    cases r2.int_inv
    have hl := List.idxOf_lt_length_of_mem hx
    refine ⟨a, ns.map V.int, .int x, ns.idxOf x, .int x, rfl, rfl, Evl.sq_of (f2.sub _ _ (m2.ss _ _ h1)), rfl, flat_ints, ?_, ?_, fun m z hm hz => ?_, q _ _ S2 H2 n2 (m1.trans f1.bt m2) f2 Rep.int p2⟩
    · rw [List.getElem?_map, List.getElem?_eq_getElem hl, List.getElem_idxOf]; rfl
    · exact decide_eq_true rfl
    · rw [List.getElem?_map] at hz
      cases c : ns[m]? with
      | none => rw [c] at hz; cases hz
      | some y =>
        rw [c] at hz; cases hz
        have hl2 := (List.getElem?_eq_some_iff.mp c).1
        have := List.not_of_lt_findIdx (p := fun y => y == x) (xs := ns) (i := m) hm
        rw [(List.getElem?_eq_some_iff.mp c).2] at this
        exact decide_eq_false (by simpa using this)
/-- sorted(e), pairs of ints -/
theorem df_sortAP {P : List D → Nat → Prop} (h : DE A te ρ n fun d m => ∃ l : List (Int × Int), d = .lst (l.map pr) ∧ ∀ l' : List (Int × Int), l'.Perm l → l'.Pairwise (fun x y => SrtO.lexB y x = false) → P (l'.map pr) m) : DF A (tCB (rSortAny A.K) (tCons te tNil)) ρ n P := fun S H σ e Q q =>
  h S H σ e _ fun v d S1 H1 n1 m1 f1 r1 ⟨l, hd, p⟩ => by
    subst hd
    obtain ⟨a, vs, rfl, h1, h2⟩ := r1.lst_inv
    let key : V → Int × Int := fun x => match x with
      | .ref t => match S1 t with
        | some (.tup [.int i, .int j]) => (i, j)
        | _ => (0, 0)
      | _ => (0, 0)
    have kf : ∀ (x : V) (p : Int × Int), Rep A.K S1 x (pr p) → (∃ t, x = .ref t ∧ S1 t = some (.tup [.int p.1, .int p.2])) ∧ key x = p := by
      intro x p r
      obtain ⟨t, ws, rfl, g1, g2⟩ := (show Rep A.K S1 x (.tup [.int p.1, .int p.2]) from r).tup_inv
      obtain ⟨w1, r', rfl, q1, q2⟩ := g2.uncons
      obtain ⟨w2, r'', rfl, q3, q4⟩ := q2.uncons
      have z : r'' = [] := by unfold Reps at q4; exact q4
      subst z
      rw [q1.int_inv, q3.int_inv] at g1
      refine ⟨⟨t, rfl, g1⟩, ?_⟩
      show (match S1 t with | some (.tup [.int i, .int j]) => (i, j) | _ => (0, 0)) = p
      rw [g1]
    have all : ∀ x ∈ vs, ∃ p, Rep A.K S1 x (pr p) := by
      intro x hx
      obtain ⟨i, hi⟩ := List.getElem?_of_mem hx
      obtain ⟨d, hd, rd⟩ := h2.getV hi
      rw [List.getElem?_map] at hd
      cases c : l[i]? with
      | none => rw [c] at hd; cases hd
      | some p => rw [c] at hd; cases hd; exact ⟨p, rd⟩
    have keys : vs.map key = l := by
      have : ∀ (l : List (Int × Int)) (vs : List V), Reps A.K S1 vs (l.map pr) → vs.map key = l := by
        intro l
        induction l with
        | nil => intro vs h; unfold Reps at h; subst h; rfl
        | cons p l ih =>
          intro vs h
          obtain ⟨w, r', rfl, q1, q2⟩ := (show Reps A.K S1 vs (pr p :: l.map pr) from h).uncons
          rw [List.map_cons, (kf w p q1).2, ih r' q2]
      exact this l vs h2
    have back : ∀ (ys : List V), (∀ y ∈ ys, y ∈ vs) → Reps A.K S1 ys ((ys.map key).map pr) := by
      intro ys
      induction ys with
      | nil => intro _; exact Reps.nil
      | cons y ys ih =>
        intro hy
        obtain ⟨p, rp⟩ := all y (hy y List.mem_cons_self)
        have kp := (kf y p rp).2
        rw [List.map_cons, List.map_cons, kp]
        exact Reps.cons rp (ih fun z hz => hy z (List.mem_cons_of_mem _ hz))
    refine Or.inl ⟨a, vs, key, rfl, Evl.sq_of (f1.sub _ _ h1), fun x hx => ?_, fun ys p' hs hb hp => ?_⟩
    · obtain ⟨p, rp⟩ := all x hx
      obtain ⟨⟨t, rfl, g⟩, kp⟩ := kf x p rp
      rw [kp]
      exact ⟨t, rfl, f1.sub _ _ g⟩
    · have hn0 : H p' = none := by
        cases z : H p' with
        | none => rfl
        | some o => exact absurd hp (m1.there f1.bt (by rw [z]; exact fun y => nomatch y))
      refine q p' ys ((ys.map key).map pr) S1 _ n1 (m1.trans f1.bt (Mv.newO hp)) (f1.newO hp) hn0 upd_same (f1.s0 hp) (back ys fun y hy => hb.perm.mem_iff.mp hy) (p (ys.map key) ?_ ?_)
      · rw [← keys]
        exact hb.perm.map key
      · exact List.pairwise_map.mpr hs
end
end DL
namespace DL
open PySem PySem.Spec PyProof.Rows L2 Evl
section
variable {X : Cx}
theorem kx_gcd (K : PySem.W.Frag) (h : X.K = K := by rfl) : CallR X (.builtin "math.gcd") rGcd := cr_gcd
end
section
variable {A : Amb} {te ta tb : TE} {tt tu : TT} {tr tk : TA} {ts us : TS} {wi : TI} {g : TG} {ρ : Rho} {n : Nat} {T : DEnds}
theorem de_gcd {P : D → Nat → Prop} (h : DE A ta ρ n fun d m => DE A tb ρ m fun e m2 => ∃ i j, d = .int i ∧ e = .int j ∧ P (.int ((Nat.gcd i.natAbs j.natAbs : Nat) : Int)) m2) : DE A (tCB rGcd (tCons ta (tCons tb tNil))) ρ n P := fun S H σ e Q q =>
  h S H σ e _ fun v d S1 H1 n1 m1 f1 r1 p => p S1 H1 σ (e.mv m1 f1) _ fun w d2 S2 H2 n2 m2 f2 r2 ⟨i, j, hd, hd2, p2⟩ => by
    subst hd hd2
    cases r1.int_inv
    cases r2.int_inv
    exact ⟨i, j, rfl, q _ _ S2 H2 n2 (m1.trans f1.bt m2) f2 Rep.int p2⟩
/-- the script's length -/
theorem de_lenRaw {i : Nat} {a : Addr} {ns : List Int} {P : D → Nat → Prop} (hi : ρ[i]? = some (.val (.raw (.ref a)))) (hb : A.b = none) (hS : SqL A.K A.H0 a (ns.map V.int)) (p : P (.int (ns.length : Int)) n) :
    DE A (tCB (fun xs H Q => ∃ p ys, xs = [.ref p] ∧ (SqL A.K H p ys ∨ SqT A.K H p ys) ∧ Q (.int ys.length) H) (tCons (tVar i) tNil)) ρ n P := fun S H σ e Q q => by
  obtain ⟨v, g1, g2⟩ := e.val hi
  cases g2.raw_inv
  refine ⟨_, g1, a, ns.map V.int, rfl, Or.inl (sq_keep e.f hb hS), ?_⟩
  rw [List.length_map]
  exact q _ _ S H n Mv.refl e.f Rep.int p
/-- a box out of the script -/
def spBoxS (K : PySem.W.Frag) : Sp := fun vs H Q _ => ∃ (a : Addr) (ns : List Int) (k : Nat), vs = [.ref a, .int (k : Int)] ∧ SqL K H a (ns.map V.int) ∧ ns.length ≤ 63 ∧ k ≤ 100 ∧
  ∀ p x y, H p = none → 0 ≤ x → 0 ≤ y → y < 2 ^ 62 → Q (.ref p) (upd H p (.lst [.int x, .int y, .int 0]))
theorem spBoxS_len {K : PySem.W.Frag} {vs : List V} {H : Hp} {Q : VK} {E : XK} (h : spBoxS K vs H Q E) : vs.length = 2 := by
  obtain ⟨a, ns, k, rfl, _⟩ := h
  rfl
/-- f(box(script, k)) -/
theorem de_boxR {i j : Nat} {a : Addr} {ns : List Int} {k : Nat} {E E2 : XK} {C : DCon} {P : D → Nat → Prop} (hb : A.b = none) (hi : ρ[i]? = some (.val (.raw (.ref a)))) (hS : SqL A.K A.H0 a (ns.map V.int)) (hz : ns.length ≤ 63) (hj : ρ[j]? = some (.val (.int (k : Int)))) (hk : k ≤ 100)
    (h : ∀ p, C (some p) [.raw (.ref p)] 0 (fun d _ => P d n) (fun _ _ => False)) : DE A (tCall (spOf A.K 1 C) [] E2 (tCons (tCall (spBoxS A.K) [] E (tCons (tVar i) (tCons (tVar j) tNil))) tNil)) ρ n P := fun S H σ e Q q => by
  obtain ⟨v, c1, c2⟩ := e.val hi
  cases c2.raw_inv
  obtain ⟨vj, j1, j2⟩ := e.val hj
  cases j2.int_inv
  refine ⟨_, c1, _, j1, a, ns, k, rfl, sq_keep e.f hb hS, hz, hk, fun p x y hp x0 y0 y1 => ?_⟩
  have hSp : S p = none := e.f.s0 hp
  have ex1 : Ex S (upd H p (.lst [.int x, .int y, .int 0])) := fun z u q => by
    rw [upd_ne (ne_of_none q hSp)]
    exact e.f.sub z u q
  refine ⟨some p, S, [.raw (.ref p)], 0, fun d _ => P d n, fun _ _ => False, ⟨ex1, TabK.new e.f.tab hp⟩, fun z q => by
    cases q
    exact ⟨⟨x, y, 0, upd_same, x0, y0, y1, by omega, by omega⟩, hSp⟩, Reps.one Rep.raw, rfl, h p, fun v d S' H' n' m ex b r pd => ?_, fun _ _ _ _ _ _ _ _ _ _ z => z.elim⟩
  have mv : Mv A.b S H S' H' := by
    rw [hb]
    refine ⟨m.ss, fun z o _ hz nt => m.fr z o (fun w => by cases w; rw [hp] at hz; cases hz) (by rw [upd_ne (ne_of_none hz hp)]; exact hz) nt, fun z ps hz => m.tb z ps (by rw [upd_ne (ne_of_none hz hp)]; exact hz), fun z hz hs => m.sep z ?_ hs⟩
    by_cases c : z = p
    · subst c; rw [upd_same]; exact fun w => nomatch w
    · rw [upd_ne c]; exact hz
  exact q v d S' H' n mv ⟨ex.1, e.f.mv.trans e.f.bt mv, fun z w => (by rw [hb] at w; cases w), ex.2⟩ r pd
/-! a list of new lists, shown to a test, then changed -/
inductive FreshL (K : PySem.W.Frag) (H S' H' : Hp) : List Addr → List (List D) → Prop
  | nil : FreshL K H S' H' [] []
  | cons {a : Addr} {as : List Addr} {vs : List V} {ds : List D} {dss : List (List D)} (h0 : H a = none) (h1 : H' a = some (.lst vs)) (h2 : S' a = none) (r : Reps K S' vs ds) (nin : a ∉ as) (t : FreshL K H S' H' as dss) : FreshL K H S' H' (a :: as) (ds :: dss)
theorem FreshL.at {K : PySem.W.Frag} {H S' H' : Hp} : ∀ {as : List Addr} {dss : List (List D)}, FreshL K H S' H' as dss → ∀ a ∈ as, H a = none ∧ (∃ vs, H' a = some (.lst vs)) ∧ S' a = none
  | _, _, .nil, a, h => absurd h (by simp)
  | _, _, .cons h0 h1 h2 _ _ t, a, h => by
    rcases List.mem_cons.mp h with rfl | h
    · exact ⟨h0, ⟨_, h1⟩, h2⟩
    · exact t.at a h
theorem FreshL.nodup {K : PySem.W.Frag} {H S' H' : Hp} : ∀ {as : List Addr} {dss : List (List D)}, FreshL K H S' H' as dss → as.Nodup ∧ as.length = dss.length
  | _, _, .nil => ⟨by simp, rfl⟩
  | _, _, .cons _ _ _ _ nin t => ⟨List.nodup_cons.mpr ⟨nin, t.nodup.1⟩, by rw [List.length_cons, List.length_cons, t.nodup.2]⟩
def DAF (A : Amb) (ta : TA) (ρ : Rho) (n : Nat) (P : List (List D) → Nat → Prop) : Prop := ∀ S H σ, ER A n S H σ ρ → ∀ Q : List V → Hp → Prop,
  (∀ as dss S' H' n', Mv A.b S H S' H' → Fr A n' S' H' → FreshL A.K H S' H' as dss → P dss n' → Q (as.map V.ref) H') → ta σ H Q
theorem daf_nil {P : List (List D) → Nat → Prop} (p : P [] n) : DAF A tNil ρ n P := fun S H σ e Q q => q [] [] S H n Mv.refl e.f .nil p
theorem FreshL.on {b : Option Addr} {K : PySem.W.Frag} {H0 H S H1 S1 : Hp} (back : ∀ a, H a = none → H0 a = none) : ∀ {as : List Addr} {dss : List (List D)}, FreshL K H S1 H1 as dss → FreshL K H0 S1 H1 as dss
  | _, _, .nil => .nil
  | _, _, .cons h0 h1 h2 r nin t => .cons (back _ h0) h1 h2 r nin (FreshL.on (b := b) (S := S) back t)
theorem daf_cons {P : List (List D) → Nat → Prop} (h : DF A te ρ n fun ds m => DAF A tr ρ m fun dss m2 => P (ds :: dss) m2) : DAF A (tCons te tr) ρ n P := fun S H σ e Q q =>
  h S H σ e _ fun a vs ds S1 H1 n1 m1 f1 h0 h1 h2 r p => p S1 H1 σ (e.mv m1 f1) _ fun as dss S2 H2 n2 m2 f2 fl p2 => by
    have nb : some a ≠ A.b := fun z => by
      obtain ⟨⟨_, _, _, w, _⟩, _⟩ := e.f.box a z.symm
      rw [h0] at w; cases w
    refine q (a :: as) (ds :: dss) S2 H2 n2 (m1.trans f1.bt m2) f2 (.cons h0 (m2.fr a _ nb h1) (m2.sep a (by rw [h1]; exact fun z => nomatch z) h2) (r.mono m2.ss) (fun z => ?_) (FreshL.on (b := A.b) (S := S) (fun x hx => none_back e.f m1 f1 hx) fl)) p2
    have := (fl.at a z).1
    rw [h1] at this; cases this
theorem TabK.same {K : PySem.W.Frag} {S H H' : Hp} (t : TabK K S H) (h : ∀ x, (∀ vs, H x ≠ some (.lst vs)) → H' x = H x) : TabK K S H' := ⟨fun q hq => by
  obtain ⟨ps, h1, h2, h3⟩ := t.1 q hq
  refine ⟨ps, (h _ fun vs z => by rw [h1] at z; cases z).trans h1, h2, fun pos cv hc => ?_⟩
  obtain ⟨c, e1, e2⟩ := h3 pos cv hc
  refine ⟨c, e1, (h c fun vs z => ?_).trans e2⟩
  rw [z] at e2
  have e2 := Option.some.inj e2
  unfold LamX.CodeO at e2
  exact HO.noConfusion e2, t.2⟩
/-- what changes nothing but the lists in the list at slot i -/
def Muts (K : PySem.W.Frag) (M : TS → TS) (i c : Nat) : Prop := ∀ (R : TS) (D : Ends) (σ : L2.St) (H : Hp) (p : Addr) (as : List Addr), σ[i]? = some (some (.ref p)) → H p = some (.lst (as.map V.ref)) → as.length = c → p ∉ as → as.Nodup → (∀ a ∈ as, ∃ vs, H a = some (.lst vs) ∧ vs.length ≤ 99000) →
  (∀ H', (∀ x, x ∉ as → H' x = H x) → (∀ a ∈ as, ∃ vs, H' a = some (.lst vs) ∧ vs.length ≤ 99001) → R D σ H') → M R D σ H
theorem FreshL.vals {K : PySem.W.Frag} {H S1 H1 S2 : Hp} (ex : Ex S1 S2) : ∀ {as : List Addr} {dss : List (List D)}, FreshL K H S1 H1 as dss → (∀ a ∈ as, S2 a = H1 a) → Reps K S2 (as.map V.ref) (dss.map D.lst)
  | _, _, .nil, _ => Reps.nil
  | _, _, .cons h0 h1 h2 r nin t, h => Reps.cons (Rep.lst ((h _ List.mem_cons_self).trans h1) (r.mono ex)) (t.vals ex fun a ha => h a (List.mem_cons_of_mem _ ha))
theorem FreshL.small {K : PySem.W.Frag} {H S1 H1 : Hp} {B : Nat} : ∀ {as : List Addr} {dss : List (List D)}, FreshL K H S1 H1 as dss → (∀ ds ∈ dss, ds.length ≤ B) → ∀ a ∈ as, ∃ vs, H1 a = some (.lst vs) ∧ vs.length ≤ B
  | _, _, .nil, _, a, ha => absurd ha (by simp)
  | _, _, .cons h0 h1 h2 r nin t, h, a, ha => by
    rcases List.mem_cons.mp ha with rfl | ha
    · exact ⟨_, h1, by rw [r.length]; exact h _ List.mem_cons_self⟩
    · exact t.small (fun ds hd => h ds (List.mem_cons_of_mem _ hd)) a ha
theorem ds_told {i c : Nat} {M : TS → TS} (hM : Muts A.K M i c) (hil : i < ρ.length) (h : DAF A tr ρ n fun dss m => dss.length = c ∧ c ≤ 1000 ∧ (∀ ds ∈ dss, ds.length ≤ 99000) ∧ DT A tt (ρ.set i (.val (.lst (dss.map D.lst)))) m fun b m2 => b = false ∧ DS A us (ρ.set i .un) m2 T) :
    DS A (tSeq (tAsg (tLst tr) (gName i)) (tSeq (tIfS tt ts tNext) (M us))) ρ n T := fun S H σ e D k => by
  refine h S H σ e _ fun as dss S1 H1 n1 m1 f1 fl ⟨hc, hc2, hs, p⟩ => ?_
  obtain ⟨nd, hl⟩ := fl.nodup
  refine ⟨by rw [List.length_map]; exact Evl.sz_of (by omega), fun p0 hp0 => ?_⟩
  have p0as : p0 ∉ as := fun z => by
    obtain ⟨_, ⟨vs, w⟩, _⟩ := fl.at p0 z
    rw [hp0] at w; cases w
  have hp0H : H p0 = none := none_back e.f m1 f1 hp0
  have hS1p : S1 p0 = none := f1.s0 hp0
  let H2 : Hp := upd H1 p0 (.lst (as.map V.ref))
  let S2 : Hp := fun x => if x = p0 ∨ x ∈ as then H2 x else S1 x
  have S2n : ∀ x, x ≠ p0 → x ∉ as → S2 x = S1 x := fun x a b => if_neg (by rintro (z | z); exact a z; exact b z)
  have S2y : ∀ x, x = p0 ∨ x ∈ as → S2 x = H2 x := fun x a => if_pos a
  have out1 : ∀ x u, S1 x = some u → x ≠ p0 ∧ x ∉ as := by
    intro x u hx
    constructor
    · intro z
      rw [z, hS1p] at hx
      cases hx
    · intro z
      rw [(fl.at x z).2.2] at hx
      cases hx
  have ex12 : Ex S1 S2 := fun x u hx => by
    obtain ⟨a, b⟩ := out1 x u hx
    rw [S2n x a b]; exact hx
  have sub2 : Ex S2 H2 := fun x u hx => by
    by_cases z : x = p0 ∨ x ∈ as
    · rw [← S2y x z]; exact hx
    · have a : x ≠ p0 := fun w => z (Or.inl w)
      rw [S2n x a (fun w => z (Or.inr w))] at hx
      show upd H1 p0 _ x = some u
      rw [upd_ne a]; exact f1.sub x u hx
  have outH : ∀ x, H x ≠ none → x ≠ p0 ∧ x ∉ as := fun x hx => ⟨fun z => hx (by rw [z]; exact hp0H), fun z => hx (fl.at x z).1⟩
  have mSH : Mv A.b S H S2 H2 := by
    refine ⟨m1.ss.trans ex12, fun x o hne hx nt => ?_, fun x ps hx => ?_, fun x hx hs => ?_⟩
    · obtain ⟨a, _⟩ := outH x (by rw [hx]; exact fun z => nomatch z)
      show upd H1 p0 _ x = some o
      rw [upd_ne a]; exact m1.fr x o hne hx nt
    · obtain ⟨a, _⟩ := outH x (by rw [hx]; exact fun z => nomatch z)
      obtain ⟨qs, hq⟩ := m1.tb x ps hx
      refine ⟨qs, ?_⟩
      show upd H1 p0 _ x = _
      rw [upd_ne a]; exact hq
    · obtain ⟨a, b⟩ := outH x hx
      rw [S2n x a b]; exact m1.sep x hx hs
  have boxout : ∀ x, A.b = some x → x ≠ p0 ∧ x ∉ as := fun x hx => outH x (by
    obtain ⟨⟨_, _, _, w, _⟩, _⟩ := e.f.box x hx
    rw [w]; exact fun z => nomatch z)
  have f2 : Fr A n1 S2 H2 := ⟨sub2, e.f.mv.trans e.f.bt mSH, fun x hx => by
    obtain ⟨a, b⟩ := boxout x hx
    obtain ⟨b1, b2, b3⟩ := f1.box x hx
    refine ⟨?_, by rw [S2n x a b]; exact b2, b3⟩
    obtain ⟨u, v, w, q1, q2⟩ := b1
    exact ⟨u, v, w, by show upd H1 p0 _ x = _; rw [upd_ne a]; exact q1, q2⟩, TabK.new (⟨f1.tab.1, fun q hq => by
      obtain ⟨ps, h1, _⟩ := f1.tab.1 q hq
      rw [S2n q.1 (fun z => by rw [z, hp0] at h1; cases h1) (fun z => by
        obtain ⟨_, ⟨vs, w⟩, _⟩ := fl.at q.1 z
        rw [h1] at w; cases w)]
      exact f1.tab.2 q hq⟩ : TabK A.K S2 H1) hp0⟩
  have rp : Rep A.K S2 (.ref p0) (.lst (dss.map DL.D.lst)) := Rep.lst (vs := as.map V.ref) ((S2y p0 (Or.inl rfl)).trans upd_same) (fl.vals ex12 fun a ha => by
    rw [S2y a (Or.inr ha)]
    show upd H1 p0 _ a = H1 a
    exact upd_ne (show a ≠ p0 from fun z => p0as (z ▸ ha)))
  refine p S2 H2 _ ((e.mv mSH f2).set rp) _ fun b S3 H3 n3 m3 f3 ⟨hb, p3⟩ => ?_
  subst hb
  have keep : ∀ x u, S2 x = some u → H3 x = some u := fun x u hx => f3.sub x u (m3.ss x u hx)
  have hσ : (σ.set i (some (V.ref p0)))[i]? = some (some (.ref p0)) := List.getElem?_set_self (by rw [e.len]; exact hil)
  have hH3p : H3 p0 = some (.lst (as.map V.ref)) := keep _ _ ((S2y p0 (Or.inl rfl)).trans upd_same)
  refine hM us D _ H3 p0 as hσ hH3p (hl.trans hc) p0as nd (fun a ha => ?_) fun H4 same _ => ?_
  · obtain ⟨vs, w1, w2⟩ := fl.small hs a ha
    refine ⟨vs, keep a _ ?_, w2⟩
    rw [S2y a (Or.inr ha)]
    show upd H1 p0 _ a = _
    rw [upd_ne (show a ≠ p0 from fun z => p0as (z ▸ ha))]; exact w1
  · have mv4 : Mv A.b S H S1 H4 := by
      refine ⟨m1.ss, fun x o hne hx nt => ?_, fun x ps hx => ?_, m1.sep⟩
      · obtain ⟨_, b⟩ := outH x (by rw [hx]; exact fun z => nomatch z)
        rw [same x b]
        exact m3.fr x o hne (mSH.fr x o hne hx nt) nt
      · obtain ⟨_, b⟩ := outH x (by rw [hx]; exact fun z => nomatch z)
        obtain ⟨qs, hq⟩ := mSH.tb x ps hx
        obtain ⟨rs, hr⟩ := m3.tb x qs hq
        exact ⟨rs, (same x b).trans hr⟩
    have lst3 : ∀ x ∈ as, ∃ vs, H3 x = some (.lst vs) := fun x hx => by
      obtain ⟨vs, w1, _⟩ := fl.small hs x hx
      refine ⟨vs, keep x _ ?_⟩
      rw [S2y x (Or.inr hx)]
      show upd H1 p0 _ x = _
      rw [upd_ne (show x ≠ p0 from fun z => p0as (z ▸ hx))]; exact w1
    have tab4 : TabK A.K S1 H4 := TabK.same (⟨f3.tab.1, f1.tab.2⟩ : TabK A.K S1 H3) fun x hx => same x fun z => by
      obtain ⟨vs, w⟩ := lst3 x z
      exact hx vs w
    have f4 : Fr A n3 S1 H4 := ⟨fun x u hx => by
      obtain ⟨_, b⟩ := out1 x u hx
      rw [same x b]
      exact keep x u (ex12 x u hx), e.f.mv.trans e.f.bt mv4, fun x hx => by
      obtain ⟨_, b⟩ := boxout x hx
      obtain ⟨u, v, w, q1, q2⟩ := (f3.box x hx).1
      exact ⟨⟨u, v, w, by rw [same x b]; exact q1, q2⟩, (f1.box x hx).2.1, (f1.box x hx).2.2⟩, tab4⟩
    exact p3 S1 H4 _ ((e.mv mv4 f4).setUn (i := i) (o := some (V.ref p0))) D (k.on m1.ss)
/-- told[j].append(v) -/
theorem mut_app {K : PySem.W.Frag} {i c j : Nat} {v : V} (hj : j < c) (hfl : ∀ (σ : L2.St) (H : Hp) (Q : VK), Q v H → te σ H Q) : Muts K (fun R => tSeq (tDrop (tBM K "list" rAppend (tOp (rIx K) (tVar i) (tC (.int (j : Int)))) (tCons te tNil))) R) i c := fun R D σ H p as hσ hp hc pin nd hs k => by
  have hja : j < as.length := by omega
  have hm : as[j] ∈ as := List.getElem_mem hja
  obtain ⟨vs, w1, w2⟩ := hs _ hm
  refine ⟨.ref p, hσ, Or.inl ⟨p, as.map V.ref, (j : Int), .ref as[j], rfl, rfl, Evl.sq_of hp, atI_nat (by rw [List.getElem?_map]; simp [hja]), Or.inl ⟨rfl, vs, Evl.sq_of w1⟩, ?_⟩⟩
  refine hfl σ H _ ⟨as[j], vs, v, rfl, rfl, w1, Evl.sz_lt (by omega), ?_⟩
  refine k _ (fun x hx => upd_ne fun z => hx (z ▸ hm)) fun a ha => ?_
  by_cases z : a = as[j]
  · subst z
    exact ⟨vs ++ [v], upd_same, by rw [List.length_append, List.length_singleton]; omega⟩
  · obtain ⟨us, u1, u2⟩ := hs a ha
    exact ⟨us, by rw [upd_ne z]; exact u1, by omega⟩
end
end DL
namespace DL
open PySem PySem.Spec PyProof.Rows L2 Evl
theorem blkOk_blk {X : Cx} {s : Shared} {H : Hp} {S0 S scope : Scope} {cl : List (Str × Addr)} {C : Addr} {fp : List Addr} {own : List (Str × Nat)} {N : List Str} (hN : X.N = N) (he : X.env.scope = S0) (h : blkC N (relS S S0) scope own = true) : BlkOk (X.blk s H S (compEnvC S cl C X.env) fp).N (X.blk s H S (compEnvC S cl C X.env) fp).env.scope scope own := by
  subst hN he
  have e : (X.blk s H S (compEnvC S cl C X.env) fp).env.scope = relS S X.env.scope := rfl
  rw [e]
  exact blkOk_by h
section
variable {A : Amb} {te ta tb : TE} {tt tu : TT} {tr tk : TA} {ts us : TS} {wi : TI} {g : TG} {ρ : Rho} {n : Nat} {T : DEnds}
/-- xs, ys, z = [], [], e : the first two ours -/
theorem ds_parOOV {i j l : Nat} (hij : i ≠ j) (hi : i < ρ.length) (hj : j < ρ.length) (h : DE A te ρ n fun d m => T.nx (((ρ.set i (.own [])).set j (.own [])).set l (.val d)) m) : DS A (tPar3 i j l (tCons (tLst tNil) (tCons (tLst tNil) (tCons te tNil)))) ρ n T := fun S H σ e D k => by
  refine ⟨Nat.zero_le _, fun a ha => ⟨Nat.zero_le _, fun b hb => ?_⟩⟩
  have fa := e.f.newO (o := .lst []) ha
  have ea : ER A n S (upd H a (.lst [])) σ ρ := e.mv (Mv.newO ha) fa
  have fb := fa.newO (o := .lst []) hb
  have eb : ER A n S (upd (upd H a (.lst [])) b (.lst [])) σ ρ := ea.mv (Mv.newO hb) fb
  have nab : b ≠ a := fun z => by rw [z, upd_same] at hb; cases hb
  have nbA : some a ≠ A.b := fun z => (fa.box a z.symm).2.2 (e.f.h0 ha)
  have nbB : some b ≠ A.b := fun z => (fb.box b z.symm).2.2 (fa.h0 hb)
  have hHb : H b = none := by
    have := hb
    rw [upd_ne nab] at this; exact this
  have sa : S a = none := e.f.s0 ha
  have sb : S b = none := fa.s0 hb
  refine h S _ σ eb _ fun v d S' H' n' m f r p => ?_
  have ha' : H' a = some (.lst []) := m.fr a _ nbA (by rw [upd_ne (fun z => nab z.symm)]; exact upd_same)
  have hb' : H' b = some (.lst []) := m.fr b _ nbB upd_same
  have sa' : S' a = none := m.sep a (by rw [upd_ne (fun z => nab z.symm), upd_same]; simp) sa
  have sb' : S' b = none := m.sep b (by rw [upd_same]; simp) sb
  have e1 := (eb.mv m f).setOwn (i := i) (vs := []) (ds := []) (fun j es hj z => by
    obtain ⟨c, ws, h1, h2, _⟩ := e.own hj
    rw [z] at h1; cases h1
    rw [ha] at h2; cases h2) ha' Reps.nil sa' (e.f.h0 ha)
  have hil : i < σ.length := by rw [e.len]; exact hi
  have e2 := e1.setOwn (i := j) (vs := []) (ds := []) (fun j' es hj' z => by
    by_cases c : i = j'
    · subst c
      rw [List.getElem?_set_self hil] at z
      cases z; exact nab rfl
    · rw [List.getElem?_set_ne c] at hj' z
      obtain ⟨b', ws, h1, h2, _⟩ := e.own hj'
      rw [z] at h1; cases h1
      rw [hHb] at h2; cases h2) hb' Reps.nil sb' (fa.h0 hb)
  have e3 := e2.set (i := l) r
  have hm : Ex S S' := m.ss
  exact ⟨_, _, _, rfl, k.nx _ n' S' H' _ hm e3 p⟩
end
end DL
namespace DL
open PySem PySem.Spec PyProof.Rows L2 Evl
section
variable {A : Amb} {te ta tb : TE} {tt tu : TT} {tr tk : TA} {ts us : TS} {wi : TI} {g : TG} {ρ : Rho} {n : Nat} {T : DEnds}
/-- x, y, zs = e, e2, [] : the last one ours -/
theorem ds_parVVO {i j l : Nat} (hl : l < ρ.length) (h : DE A ta ρ n fun d m => DE A tb ρ m fun d2 m2 => T.nx (((ρ.set i (.val d)).set j (.val d2)).set l (.own [])) m2) : DS A (tPar3 i j l (tCons ta (tCons tb (tCons (tLst tNil) tNil)))) ρ n T := fun S H σ e D k => by
  refine h S H σ e _ fun v d S1 H1 n1 m1 f1 r1 h1 => ?_
  have e1 := e.mv m1 f1
  refine h1 S1 H1 σ e1 _ fun v2 d2 S2 H2 n2 m2 f2 r2 p => ?_
  have e2 := e1.mv m2 f2
  refine ⟨Nat.zero_le _, fun b hb => ?_⟩
  have f3 := f2.newO (o := .lst []) hb
  have e3 : ER A n2 S2 (upd H2 b (.lst [])) σ ρ := e2.mv (Mv.newO hb) f3
  have e4 := (e3.set (i := i) (r1.mono m2.ss)).set (i := j) r2
  have new : ∀ (j' : Nat) (es : List DL.D), ρ[j']? = some (.own es) → σ[j']? ≠ some (some (V.ref b)) := fun j' es hj z => by
    obtain ⟨c, ws, h1, h2, _⟩ := e2.own hj
    rw [z] at h1; cases h1
    rw [hb] at h2; cases h2
  have sl : σ.length = ρ.length := e.len
  have e5 := e4.setOwn (i := l) (vs := []) (ds := []) (fun j' es hj' z => by
    by_cases c : j = j'
    · subst c
      by_cases cl : j < ρ.length
      · rw [List.getElem?_set_self (by rw [List.length_set]; exact cl)] at hj'; cases hj'
      · rw [List.getElem?_eq_none (by rw [List.length_set, List.length_set]; omega)] at hj'; cases hj'
    · rw [List.getElem?_set_ne c] at hj' z
      by_cases c2 : i = j'
      · subst c2
        by_cases cl : i < ρ.length
        · rw [List.getElem?_set_self cl] at hj'; cases hj'
        · rw [List.getElem?_eq_none (by rw [List.length_set]; omega)] at hj'; cases hj'
      · rw [List.getElem?_set_ne c2] at hj' z
        exact new j' es hj' z) upd_same Reps.nil (f2.s0 hb) (f2.h0 hb)
  exact ⟨_, _, _, rfl, k.nx _ n2 S2 _ _ (m1.ss.trans m2.ss) e5 p⟩
end
end DL
namespace DL
open PySem PySem.Spec PyProof.Rows L2 Evl
theorem nodup_le {α : Type} [DecidableEq α] : ∀ {l us : List α}, l.Nodup → (∀ k ∈ l, k ∈ us) → l.length ≤ us.length
  | [], _, _, _ => Nat.zero_le _
  | x :: l, us, nd, h => by
    obtain ⟨a, b⟩ := List.nodup_cons.mp nd
    have hx := h x List.mem_cons_self
    have ih := nodup_le (us := us.erase x) b fun k hk => (List.mem_erase_of_ne (show k ≠ x by intro e; subst e; exact a hk)).mpr (h k (List.mem_cons_of_mem _ hk))
    have := List.length_erase_of_mem hx
    have := List.length_pos_of_mem hx
    rw [List.length_cons]; omega
theorem setR_le {w : World} {h : Heap} {a : Addr} {S : Int → Bool} {n : Nat} {us : List Int} (R : SetR w h a S n) (hu : ∀ k, S k = true → k ∈ us) : n ≤ us.length := by
  obtain ⟨o, es, ep, t, ho, hex, hd, g, nd, hm, hb, hf, hn, hr, hl⟩ := R
  have := nodup_le nd fun k hk => hu k ((hm k).mpr hk)
  rw [List.length_map, Array.length_toList] at this
  omega
/-- sorted(set(e)), e a list of ints, few different ones -/
def tSortSet2 (K : PySem.W.Frag) (ta : TE) : TE := fun σ H Q => ta σ H fun x H1 => ∃ (l : Addr) (ns us : List Int), x = V.ref l ∧ SqL K H1 l (ns.map V.int) ∧ ns.length < 4000 ∧ us.length < 64 ∧ (∀ k ∈ ns, k ∈ us) ∧
  ∀ (ns' : List Int) (p : Addr), ns'.Pairwise (· < ·) → (∀ k, k ∈ ns' ↔ k ∈ ns) → H1 p = none → Q (.ref p) (upd H1 p (.lst (ns'.map V.int)))
section
variable {X : Cx}
theorem kx_sortSet2 (K : PySem.W.Frag) {a : Expr} {ta : TE} {p p2 q pos : Pos} (hm : X.mg "sorted" = none) (hm2 : X.mg "set" = none) (ha : PE X a ta) (hc : X.calm = true := by rfl) (hg : Gl X "sorted" := by rfl) (hg2 : Gl X "set" := by rfl) (hK : X.K = K := by rfl)
    (hs : starEach [.Call (.Name "set" p2) [a] [] q] X.env = [(false, eval (.Call (.Name "set" p2) [a] [] q) X.env)] := by rfl) (hs2 : starEach [a] X.env = [(false, eval a X.env)] := by rfl) :
    PE X (.Call (.Name "sorted" p) [.Call (.Name "set" p2) [a] [] q] [] pos) (tSortSet2 K ta) := by
  subst hK
  refine ⟨fun pins s σ H Q I h => ?_⟩
  refine Call_ (ld_blt I hg hm PyProof.Rows.boot_sorted (PyProof.Rows.callWith_builtin1 (PyProof.Rows.args_cons ?_ hs) hs rfl))
  refine Call_ (ld_blt I hg2 hm2 PyProof.Rows.boot_set ?_)
  refine PyProof.Rows.callWith_type1 (PyProof.Rows.args_cons (thn (ha.run pins s σ H _ I h) fun v s1 ⟨x, H1, I1, r1, l, ns, us, ex, hq, hl, hul, hus, k⟩ => PyProof.Rows.args_nil ?_) hs2) hs2 rfl
  subst ex
  cases r1
  obtain ⟨its, r, pl, hz⟩ := I1.list hq
  refine SL.call_list (I1.ok.hd hc) pl.isList (ns := ns) (by rw [List.toList_toArray]; exact ints_of_vals r) (by unfold scanBound; omega) fun h' tk ⟨c, hS, hcn, hk⟩ => PyProof.Rows.args_nil ?_
  have I2 : Inv X pins σ H1 { s1 with heap := h', toks := tk } := I1.kept (t' := tk) hk
  have hcl : c < 64 := Nat.lt_of_le_of_lt (setR_le hS fun k hk => hus k (of_decide_eq_true hk)) hul
  refine sorted_set (s := { s1 with heap := h', toks := tk }) hS (I2.ok.hd hc) hcl fun s' p out c' ms kk gg oo hp hg' hi hs' hm' hl' => ?_
  have hlen : (ms.map V.int).length ≤ sizeLine := by rw [List.length_map, hl', sizeLine_eq]; omega
  have hn : H1 p = none := I2.hok.fresh hp
  have J : Inv X pins σ (upd H1 p (.lst (ms.map V.int))) { ({ s1 with heap := h', toks := tk } : Shared) with heap := s'.heap, gens := s'.gens, drawn := s'.drawn, toks := s'.toks } :=
    I2.call (ch := []) (Un.laid kk hp hn) (I2.hok.laid kk hp ⟨hlen, out.toList, c', vals_of_ints hi, hg'⟩) (by rw [gg]; exact I2.bare) (fun _ z => nomatch z)
  have e : s' = { s1 with heap := s'.heap, gens := s'.gens, drawn := s'.drawn, toks := s'.toks } := by
    obtain ⟨x1, x2, x3, x4, x5⟩ := s'
    cases (show x5 = s1.os from oo)
    rfl
  rw [e]
  exact ⟨.ref p, _, J, rfl, k ms p hs' (fun j => by rw [hm' j, decide_eq_true_eq]) hn⟩
end
section
variable {A : Amb} {te tb : TE} {ρ : Rho} {n : Nat}
theorem df_sortSet2 {P : List D → Nat → Prop} (h : DE A te ρ n fun d m => ∃ ns us : List Int, d = .lst (ns.map D.int) ∧ ns.length < 4000 ∧ us.length < 64 ∧ (∀ k ∈ ns, k ∈ us) ∧ ∀ ns' : List Int, ns'.Pairwise (· < ·) → (∀ k, k ∈ ns' ↔ k ∈ ns) → P (ns'.map D.int) m) : DF A (tSortSet2 A.K te) ρ n P := fun S H σ e Q q =>
  h S H σ e _ fun v d S1 H1 n1 m1 f1 r1 ⟨ns, us, hd, hl, hul, hus, p⟩ => by
    subst hd
    obtain ⟨a, vs, rfl, h1, h2⟩ := r1.lst_inv
    cases h2.intsV
    refine ⟨a, ns, us, rfl, Evl.sq_of (f1.sub _ _ h1), hl, hul, hus, fun ns' t hp hs ht => ?_⟩
    exact q t _ (ns'.map D.int) S1 _ n1 (m1.trans f1.bt (Mv.newO ht)) (f1.newO ht) (none_back e.f m1 f1 ht) upd_same (f1.s0 ht) Reps.of_ints (p ns' hp hs)
/-- xs.count(e), ints -/
theorem de_cntI {P : D → Nat → Prop} (h : DE A te ρ n fun d m => ∃ ns : List Int, d = .lst (ns.map D.int) ∧ DE A tb ρ m fun e m2 => ∃ c : Int, e = .int c ∧ P (.int (ns.count c : Nat)) m2) : DE A (tBM A.K "list" (rCntI A.K) te (tCons tb tNil)) ρ n P := fun S H σ e Q q =>
  h S H σ e _ fun v d S1 H1 n1 m1 f1 r1 ⟨ns, hd, h1⟩ => by
    subst hd
    obtain ⟨a, vs, rfl, g1, g2⟩ := r1.lst_inv
    cases g2.intsV
    refine ⟨Or.inl ⟨rfl, _, Evl.sq_of (f1.sub _ _ g1)⟩, h1 S1 H1 σ (e.mv m1 f1) _ fun w e2 S2 H2 n2 m2 f2 r2 ⟨c, he, p⟩ => ?_⟩
    subst he
    cases r2.int_inv
    exact ⟨a, ns, c, rfl, rfl, Evl.sq_of (f2.sub _ _ (m2.ss _ _ g1)), q _ _ S2 H2 n2 (m1.trans f1.bt m2) f2 Rep.int p⟩
end
section
variable {X : Cx} {T id : String} {name : Str} {o e : Expr} {es : List Expr} {apos cpos : Pos} {to : TE} {t : TA} {r : V → List V → Hp → VK → Prop}
/-- o.name(e, ..), with the frame's words told -/
theorem pe_bmK (K : PySem.W.Frag) (pa : PlainAttrs T) (slot : PySem.Slot T name id) (hty : typeOf (.builtin id) = pure (.type "method_descriptor")) (hm : MtR X id r) (ho : PE X o to) (ha : PA X (e :: es) t)
    (hbase : attributeBase o name X.env (eval o X.env) = eval o X.env := by rfl)
    (hfew : ((backTo cpos (starEach (e :: es) X.env)).all (fun x => !x.1) && (backToKw cpos (keywordEach [] X.env)).all (fun x => x.1.isSome)
      && decide ((e :: es).length + ([] : List Keyword).length + (if ([] : List Keyword).isEmpty then 0 else 1) < 30)) = true := by rfl)
    (hline : (apos.endLine == cpos.line) = true := by rfl) (hs : starEach (e :: es) X.env = (false, eval e X.env) :: starEach es X.env := by rfl) (hplain : (backTo cpos (starEach es X.env)).any (·.1) = false := by rfl) (hK : X.K = K := by rfl) :
    PE X (.Call (.Attribute o name apos) (e :: es) [] cpos) (tBM K T r to t) := by
  subst hK
  exact pe_bm pa slot hty hm ho ha hbase hfew hline hs hplain
end
end DL
/-! zip of lists and tuples in any mixture -/
namespace DLZ
open PySem PySem.Spec PyProof.Rows L2
/-- what is walked: a list (true) or a tuple -/
def IterK (κ : Bool) (g : Heap) (it l : Addr) (k : Nat) : Prop := match κ with | true => g.IsListIter it l k | false => g.IsTupleIter it l k
def ItemsK (κ : Bool) (g : Heap) (l : Addr) (us : Array Value) : Prop := match κ with | true => g.IsList l us | false => g.IsTuple l us
theorem IterK.ext {κ : Bool} {g g' : Heap} {it l c : Addr} {k : Nat} (x : IterK κ g it l k) (e : Heap.ExtBut c g g') (n : it ≠ c) : IterK κ g' it l k := by
  cases κ
  · exact Heap.IsTupleIter.extBut x e n
  · exact Heap.IsListIter.extBut x e n
theorem ItemsK.ext {κ : Bool} {g g' : Heap} {l c : Addr} {us : Array Value} (x : ItemsK κ g l us) (e : Heap.ExtBut c g g') (n : l ≠ c) : ItemsK κ g' l us := by
  cases κ
  · exact Heap.IsTuple.extBut x e n
  · exact Heap.IsList.extBut x e n
theorem IterK.to {κ : Bool} {g g' : Heap} {it l : Addr} {k : Nat} (x : IterK κ g it l k) (e : ∀ o, g.get? it = some o → g'.get? it = some o) : IterK κ g' it l k := by
  cases κ
  · exact Heap.IsTupleIter.at x e
  · exact Heap.IsListIter.at x e
theorem IterK.some {κ : Bool} {g : Heap} {it l : Addr} {k : Nat} (x : IterK κ g it l k) : ∃ o, g.get? it = .some o ∧ ∀ v, o.data ≠ .cell v := by
  cases κ
  · obtain ⟨o, a, _, d⟩ := x
    exact ⟨o, a, fun v z => by rw [d] at z; cases z⟩
  · obtain ⟨o, a, _, d⟩ := x
    exact ⟨o, a, fun v z => by rw [d] at z; cases z⟩
theorem IterK.lt {κ : Bool} {g : Heap} {it l : Addr} {k : Nat} (x : IterK κ g it l k) : it < g.objs.size := by
  obtain ⟨o, h, _⟩ := x.some
  exact Heap.lt_size h
section
variable {prog : Program} {w : World} {A : Around} {E : Value → Shared → Prop} {s : Shared}
theorem stepK {κ : Bool} {it l : Addr} {k : Nat} {us : Array Value} {u : Value} {Q : Value → Shared → Prop} (x : IterK κ s.heap it l k) (y : ItemsK κ s.heap l us) (hu : us[k]? = some u)
    (q : ∀ g, IterK κ g it l (k + 1) → Heap.SameBut it s.heap g → Q u { s with heap := g }) : wpAny (model prog w) A (Builtin.SmallTypes.nextOf (.ref it)) Q E s := by
  cases κ
  · exact RZ.nextOf_tuple_item x y hu q
  · exact wpAny_nextOf_list_item x y hu q
theorem lastK {κ : Bool} {it l : Addr} {k : Nat} {us : Array Value} {Q : Value → Shared → Prop} (hh : A.handled = none) (x : IterK κ s.heap it l k) (y : ItemsK κ s.heap l us) (hu : us[k]? = none)
    (q : ∀ g e, Heap.ExtBut it s.heap g → (∃ o, g.get? e = some o ∧ o.cls = .type "StopIteration") → E (.ref e) { s with heap := g }) : wpAny (model prog w) A (Builtin.SmallTypes.nextOf (.ref it)) Q E s := by
  cases κ
  · exact RZ.nextOf_tuple_end hh x y hu q
  · exact wpAny_nextOf_list_end hh x y hu q
variable {zz I O p1 p2 r1 r2 : Addr} {κ κ' : Bool} {n1 n2 : Nat} {us us' : Array Value} {u u' c1 c2 : Value}
theorem both_go {Q : Value → Shared → Prop} (D : ZipApart zz I O p1 p2 r1 r2) (gz : IsZip s.heap zz I O .none) (gI : IsPair s.heap I (.ref p1) (.ref p2)) (gO : IsPair s.heap O c1 c2)
    (x1 : IterK κ s.heap p1 r1 n1) (x2 : IterK κ' s.heap p2 r2 n2) (y1 : ItemsK κ s.heap r1 us) (y2 : ItemsK κ' s.heap r2 us') (e1 : us[n1]? = some u) (e2 : us'[n2]? = some u')
    (q : ∀ g, IsZip g zz I O (rawInt s.heap.objs.size) → IsPair g O u u' → IterK κ g p1 r1 (n1 + 1) → IterK κ' g p2 r2 (n2 + 1) → IsPair g s.heap.objs.size u u' → g.objs.size = s.heap.objs.size + 1 →
      (∀ c o, c ≠ zz → c ≠ O → c ≠ p1 → c ≠ p2 → s.heap.get? c = some o → g.get? c = some o) → Q (.ref s.heap.objs.size) { s with heap := g }) :
    wpAny (model prog w) A (Builtin.«zip.__next__» ⟨[.ref zz], []⟩) (fun fin s' => ∃ v, fin = .done (.ret v) ∧ Q v s') E s := by
  show wpAny _ _ (field (.ref zz) 2 >>= _) _ _ _
  refine wpAny_bind (wpAny_field gz rfl (x := .bool false) rfl ?_)
  show wpAny _ _ (field (.ref zz) 3 >>= _) _ _ _
  refine wpAny_bind (wpAny_field gz rfl (x := .ref I) rfl (wpAny_bind (wpAny_seqItems gI rfl ?_)))
  show wpAny _ _ (Builtin.SmallTypes.ownedTupleIsFree (.ref zz) >>= _) _ _ _
  refine wpAny_bind ?_
  (unfold Builtin.SmallTypes.ownedTupleIsFree)
  refine wpAny_bind (wpAny_field gz rfl (x := .none) rfl (wpAny_pure ?_))
  rw [if_pos (by rfl)]
  refine wpAny_bind (wpAny_rule (wpAny_bind (wpAny_field gz rfl (x := .ref O) rfl (wpAny_bind (wpAny_setField_rec gz (by simp) fun g1 gz1 b1 => ?_)))))
  replace gz1 : IsZip g1 zz I O .ellipsis := gz1
  refine wpAny_bind ?_
  simp only [List.forIn_cons, List.forIn_nil, List.zipIdx_nil, List.zipIdx_cons]
  refine wpAny_bind (wpAny_bind (wpAny_onRaise ?_))
  show wpAny _ _ (Builtin.SmallTypes.nextOf (.ref p1) >>= _) _ _ _
  refine wpAny_bind (stepK (x1.ext b1.extBut D.i1z) (y1.ext b1.extBut D.l1z) e1 fun g2 x1b b2 => wpAny_pure ?_)
  have gO2 : IsPair g2 O c1 c2 := b2.extBut _ _ D.TOi1 (b1.extBut _ _ D.TOz gO)
  refine wpAny_bind (wpAny_seqItems gO2 rfl (wpAny_bind (wpAny_updateSeq_pair gO2 fun g3 gO3 b3 => ?_)))
  replace gO3 : IsPair g3 O u c2 := gO3
  refine wpAny_bind (wpAny_letGo (wpAny_pure ?_))
  refine wpAny_bind (wpAny_bind (wpAny_onRaise ?_))
  show wpAny _ _ (Builtin.SmallTypes.nextOf (.ref p2) >>= _) _ _ _
  refine wpAny_bind (stepK (((x2.ext b1.extBut D.i2z).ext b2.extBut D.i12.symm).ext b3.extBut D.TOi2.symm) (((y2.ext b1.extBut D.l2z).ext b2.extBut D.l2i1).ext b3.extBut D.l2TO) e2 fun g4 x2b b4 => wpAny_pure ?_)
  have gO4 : IsPair g4 O u c2 := b4.extBut _ _ D.TOi2 gO3
  refine wpAny_bind (wpAny_seqItems gO4 rfl (wpAny_bind (wpAny_updateSeq_pair gO4 fun g5 gO5 b5 => ?_)))
  replace gO5 : IsPair g5 O u u' := gO5
  refine wpAny_bind (wpAny_letGo (wpAny_pure (wpAny_pure ?_)))
  refine wpAny_bind (wpAny_seqItems gO5 rfl (wpAny_bind (wpAny_newTuple ?_)))
  have sz : g5.objs.size = s.heap.objs.size := by rw [b5.1, b4.1, b3.1, b2.1, b1.1]
  have gz5 : IsZip g5 zz I O .ellipsis := b5.extBut _ _ D.TOz.symm (b4.extBut _ _ D.i2z.symm (b3.extBut _ _ D.TOz.symm (b2.extBut _ _ D.i1z.symm gz1)))
  have kp : ∀ c o, c ≠ zz → c ≠ O → c ≠ p1 → c ≠ p2 → s.heap.get? c = some o → g5.get? c = some o := fun c o k1 k2 k3 k4 e =>
    b5.extBut _ _ k2 (b4.extBut _ _ k4 (b3.extBut _ _ k2 (b2.extBut _ _ k3 (b1.extBut _ _ k1 e))))
  have x1c : IterK κ g5 p1 r1 (n1 + 1) := ((x1b.ext b3.extBut D.TOi1.symm).ext b4.extBut D.i12).ext b5.extBut D.TOi1.symm
  have x2c : IterK κ' g5 p2 r2 (n2 + 1) := x2b.ext b5.extBut D.TOi2.symm
  have ltz : zz < g5.objs.size := Heap.lt_size gz5
  show wpAny _ _ (Builtin.SmallTypes.ownedTupleHandOut (.ref zz) (.ref g5.objs.size) >>= _) _ _ _
  refine wpAny_bind ?_
  (unfold Builtin.SmallTypes.ownedTupleHandOut)
  have gz6 : IsZip (g5.push { cls := .type "tuple", data := .seq #[u, u'] }) zz I O .ellipsis := Heap.get?_push_of_some _ gz5
  refine wpAny_bind (wpAny_setField_rec gz6 (by simp) fun g7 gz7 b7 => ?_)
  replace gz7 : IsZip g7 zz I O (rawInt g5.objs.size) := gz7
  refine wpAny_setField_rec gz7 (by simp) fun g8 gz8 b8 => ?_
  replace gz8 : IsZip g8 zz I O (rawInt g5.objs.size) := gz8
  have up : ∀ c o, c ≠ zz → g5.get? c = some o → g8.get? c = some o := fun c o k e => b8.extBut _ _ k (b7.extBut _ _ k (Heap.get?_push_of_some _ e))
  have gT : IsPair g8 g5.objs.size u u' := b8.extBut _ _ (Nat.ne_of_gt ltz) (b7.extBut _ _ (Nat.ne_of_gt ltz) (Heap.get?_push_size _ rfl))
  have s8 : g8.objs.size = g5.objs.size + 1 := by rw [b8.1, b7.1, Heap.size_push]
  rw [sz] at gz8 gT s8
  refine wpAny_pure ⟨_, rfl, ?_⟩
  show Q (.ref g5.objs.size) _
  rw [sz]
  exact q g8 gz8 (up _ _ D.TOz gO5) (x1c.to fun o e => up _ o D.i1z e) (x2c.to fun o e => up _ o D.i2z e) gT s8 fun c o k1 k2 k3 k4 e => up c o k1 (kp c o k1 k2 k3 k4 e)
theorem both_end {Q : Fin → Shared → Prop} (hh : A.handled = none) (D : ZipApart zz I O p1 p2 r1 r2) (gz : IsZip s.heap zz I O .none) (gI : IsPair s.heap I (.ref p1) (.ref p2)) (gO : IsPair s.heap O c1 c2)
    (x1 : IterK κ s.heap p1 r1 n1) (x2 : IterK κ' s.heap p2 r2 n2) (y1 : ItemsK κ s.heap r1 us) (y2 : ItemsK κ' s.heap r2 us') (end_ : us[n1]? = none ∨ us'[n2]? = none)
    (q : ∀ g e, (∀ c o, c ≠ zz → c ≠ O → c ≠ p1 → c ≠ p2 → s.heap.get? c = some o → g.get? c = some o) → (∃ o, g.get? e = some o ∧ o.cls = .type "StopIteration") → E (.ref e) { s with heap := g }) :
    wpAny (model prog w) A (Builtin.«zip.__next__» ⟨[.ref zz], []⟩) Q E s := by
  show wpAny _ _ (field (.ref zz) 2 >>= _) _ _ _
  refine wpAny_bind (wpAny_field gz rfl (x := .bool false) rfl ?_)
  show wpAny _ _ (field (.ref zz) 3 >>= _) _ _ _
  refine wpAny_bind (wpAny_field gz rfl (x := .ref I) rfl (wpAny_bind (wpAny_seqItems gI rfl ?_)))
  show wpAny _ _ (Builtin.SmallTypes.ownedTupleIsFree (.ref zz) >>= _) _ _ _
  refine wpAny_bind ?_
  (unfold Builtin.SmallTypes.ownedTupleIsFree)
  refine wpAny_bind (wpAny_field gz rfl (x := .none) rfl (wpAny_pure ?_))
  rw [if_pos (by rfl)]
  refine wpAny_bind (wpAny_rule (wpAny_bind (wpAny_field gz rfl (x := .ref O) rfl (wpAny_bind (wpAny_setField_rec gz (by simp) fun g1 gz1 b1 => ?_)))))
  replace gz1 : IsZip g1 zz I O .ellipsis := gz1
  refine wpAny_bind ?_
  simp only [List.forIn_cons, List.forIn_nil, List.zipIdx_nil, List.zipIdx_cons]
  refine wpAny_bind (wpAny_bind (wpAny_onRaise ?_))
  show wpAny _ _ (Builtin.SmallTypes.nextOf (.ref p1) >>= _) _ _ _
  cases e1 : us[n1]? with
  | none =>
    refine wpAny_bind (lastK hh (x1.ext b1.extBut D.i1z) (y1.ext b1.extBut D.l1z) e1 fun g2 e b2 ⟨oe, f1, f2⟩ => ?_)
    have gz2 : IsZip g2 zz I O .ellipsis := b2 _ _ D.i1z.symm gz1
    have ne : e ≠ zz := fun z => by subst z; rw [gz2] at f1; cases f1; simp at f2
    exact wpAny_setField_rec gz2 (by simp) fun g3 _ b3 => q g3 e (fun c o k1 _ k3 _ z => b3.extBut _ _ k1 (b2 _ _ k3 (b1.extBut _ _ k1 z))) ⟨oe, b3.extBut _ _ ne f1, f2⟩
  | some u =>
    have e2 : us'[n2]? = none := end_.elim (fun z => by rw [e1] at z; cases z) id
    refine wpAny_bind (stepK (x1.ext b1.extBut D.i1z) (y1.ext b1.extBut D.l1z) e1 fun g2 x1b b2 => wpAny_pure ?_)
    have gO2 : IsPair g2 O c1 c2 := b2.extBut _ _ D.TOi1 (b1.extBut _ _ D.TOz gO)
    refine wpAny_bind (wpAny_seqItems gO2 rfl (wpAny_bind (wpAny_updateSeq_pair gO2 fun g3 gO3 b3 => ?_)))
    refine wpAny_bind (wpAny_letGo (wpAny_pure ?_))
    refine wpAny_bind (wpAny_bind (wpAny_onRaise ?_))
    show wpAny _ _ (Builtin.SmallTypes.nextOf (.ref p2) >>= _) _ _ _
    refine wpAny_bind (lastK hh (((x2.ext b1.extBut D.i2z).ext b2.extBut D.i12.symm).ext b3.extBut D.TOi2.symm) (((y2.ext b1.extBut D.l2z).ext b2.extBut D.l2i1).ext b3.extBut D.l2TO) e2 fun g4 e b4 ⟨oe, f1, f2⟩ => ?_)
    have gz4 : IsZip g4 zz I O .ellipsis := b4 _ _ D.i2z.symm (b3.extBut _ _ D.TOz.symm (b2.extBut _ _ D.i1z.symm gz1))
    have ne : e ≠ zz := fun z => by subst z; rw [gz4] at f1; cases f1; simp at f2
    exact wpAny_setField_rec gz4 (by simp) fun g5 _ b5 => q g5 e (fun c o k1 k2 k3 k4 z => b5.extBut _ _ k1 (b4 _ _ k4 (b3.extBut _ _ k2 (b2.extBut _ _ k3 (b1.extBut _ _ k1 z))))) ⟨oe, b5.extBut _ _ ne f1, f2⟩
theorem both_goN {Q : Option Value → Shared → Prop} (D : ZipApart zz I O p1 p2 r1 r2) (gz : IsZip s.heap zz I O .none) (gI : IsPair s.heap I (.ref p1) (.ref p2)) (gO : IsPair s.heap O c1 c2)
    (x1 : IterK κ s.heap p1 r1 n1) (x2 : IterK κ' s.heap p2 r2 n2) (y1 : ItemsK κ s.heap r1 us) (y2 : ItemsK κ' s.heap r2 us') (e1 : us[n1]? = some u) (e2 : us'[n2]? = some u')
    (q : ∀ g, IsZip g zz I O (rawInt s.heap.objs.size) → IsPair g O u u' → IterK κ g p1 r1 (n1 + 1) → IterK κ' g p2 r2 (n2 + 1) → IsPair g s.heap.objs.size u u' → g.objs.size = s.heap.objs.size + 1 →
      (∀ c o, c ≠ zz → c ≠ O → c ≠ p1 → c ≠ p2 → s.heap.get? c = some o → g.get? c = some o) → Q (some (.ref s.heap.objs.size)) { s with heap := g }) : wpAny (model prog w) A (pyNext (.ref zz)) Q E s := by
  have ty : s.TypeIs (.ref zz) "zip" := ⟨_, gz, rfl⟩
  (unfold pyNext)
  exact wpAny_bind (wpAny_attempt (wpAny_callSpecial?_slot (name := Str.ofString "__next__") ty F.slot_zip_next
    (wpAny_call_entry F.slot_zip_next ty F.entry_zip_next (both_go D gz gI gO x1 x2 y1 y2 e1 e2 fun g a1 a2 a3 a4 a5 a6 a7 => wpAny_pure (q g a1 a2 a3 a4 a5 a6 a7)) (F.args_zip_next_1 _))))
theorem both_endN {Q : Option Value → Shared → Prop} (hh : A.handled = none) (D : ZipApart zz I O p1 p2 r1 r2) (gz : IsZip s.heap zz I O .none) (gI : IsPair s.heap I (.ref p1) (.ref p2)) (gO : IsPair s.heap O c1 c2)
    (x1 : IterK κ s.heap p1 r1 n1) (x2 : IterK κ' s.heap p2 r2 n2) (y1 : ItemsK κ s.heap r1 us) (y2 : ItemsK κ' s.heap r2 us') (end_ : us[n1]? = none ∨ us'[n2]? = none)
    (q : ∀ g, (∀ c o, c ≠ zz → c ≠ O → c ≠ p1 → c ≠ p2 → s.heap.get? c = some o → g.get? c = some o) → Q none { s with heap := g }) : wpAny (model prog w) A (pyNext (.ref zz)) Q E s := by
  have ty : s.TypeIs (.ref zz) "zip" := ⟨_, gz, rfl⟩
  (unfold pyNext)
  refine wpAny_bind (wpAny_attempt (wpAny_callSpecial?_slot (name := Str.ofString "__next__") ty F.slot_zip_next
    (wpAny_call_entry F.slot_zip_next ty F.entry_zip_next (both_end hh D gz gI gO x1 x2 y1 y2 end_ fun g e kp ⟨o, f1, f2⟩ => ?_) (F.args_zip_next_1 _))))
  exact wpAny_bind (wpAny_isInstance (T := "StopIteration") (b := true) ⟨o, f1, f2⟩ isSubtype_stop (wpAny_pure (q _ kp)))
end
/-! ### zip(a, b) made -/
def itN (κ : Bool) : String := match κ with | true => "list_iterator" | false => "tuple_iterator"
abbrev mz1 (κ : Bool) (g : Heap) (a : Addr) : Heap := g.push { cls := .type (itN κ), data := .fields #[.ref a, .int 0 0] }
abbrev mz2 (κ κ' : Bool) (g : Heap) (a b : Addr) : Heap := (mz1 κ g a).push { cls := .type (itN κ'), data := .fields #[.ref b, .int 0 0] }
abbrev mz3 (κ κ' : Bool) (g : Heap) (a b : Addr) : Heap := (mz2 κ κ' g a b).push { cls := .type "tuple", data := .seq #[.ref g.objs.size, .ref (mz1 κ g a).objs.size] }
abbrev mz4 (κ κ' : Bool) (g : Heap) (a b : Addr) : Heap := (mz3 κ κ' g a b).push { cls := .type "tuple", data := .seq #[.none, .none] }
abbrev mz5 (κ κ' : Bool) (g : Heap) (a b : Addr) : Heap := (mz4 κ κ' g a b).push { cls := .type "zip", data := .fields #[.none, .bool false, .bool false, .ref (mz2 κ κ' g a b).objs.size, .ref (mz3 κ κ' g a b).objs.size] }
theorem made_LT (a b : Addr) (us vs : Array Value) : Meets (Builtin.«zip.__new__» ⟨[.type "zip", .ref a, .ref b], []⟩) (fun _ R s => ItemsK true s.heap a us ∧ ItemsK false s.heap b vs ∧ R (.ok (.ret (.ref (mz4 true false s.heap a b).objs.size))) { s with heap := mz5 true false s.heap a b }) :=
  .of_wp fun prog w A R s h => by
    obtain ⟨hp, g, d, tk, os⟩ := s; obtain ⟨y1, y2, h⟩ := h
    have isz := sub_zip
    have u1 : Heap.IsList (Shared.heap ⟨hp, g, d, tk, os⟩) a us := y1
    have u2 : Heap.IsTuple (Shared.heap ⟨hp.push { cls := .type "list_iterator", data := .fields #[.ref a, .int 0 0] }, g, d, tk, os⟩) b vs := Heap.IsTuple.push y2 _
    wp_walk using wpAny_pyIter_list u1, wpAny_pyIter_tuple u2
    exact ⟨_, rfl, h⟩
theorem made_TL (a b : Addr) (us vs : Array Value) : Meets (Builtin.«zip.__new__» ⟨[.type "zip", .ref a, .ref b], []⟩) (fun _ R s => ItemsK false s.heap a us ∧ ItemsK true s.heap b vs ∧ R (.ok (.ret (.ref (mz4 false true s.heap a b).objs.size))) { s with heap := mz5 false true s.heap a b }) :=
  .of_wp fun prog w A R s h => by
    obtain ⟨hp, g, d, tk, os⟩ := s; obtain ⟨y1, y2, h⟩ := h
    have isz := sub_zip
    have u1 : Heap.IsTuple (Shared.heap ⟨hp, g, d, tk, os⟩) a us := y1
    have u2 : Heap.IsList (Shared.heap ⟨hp.push { cls := .type "tuple_iterator", data := .fields #[.ref a, .int 0 0] }, g, d, tk, os⟩) b vs := Heap.IsList.push y2 _
    wp_walk using wpAny_pyIter_tuple u1, wpAny_pyIter_list u2
    exact ⟨_, rfl, h⟩
section
variable {prog : Program} {w : World} {A : Around} {E : Value → Shared → Prop} {s : Shared}
theorem zip_made (κ κ' : Bool) {a b : Addr} {us vs : Array Value} {Q : Value → Shared → Prop} (y1 : ItemsK κ s.heap a us) (y2 : ItemsK κ' s.heap b vs)
    (h : ∀ g, IsZip g (s.heap.objs.size + 4) (s.heap.objs.size + 2) (s.heap.objs.size + 3) .none → IsPair g (s.heap.objs.size + 2) (.ref s.heap.objs.size) (.ref (s.heap.objs.size + 1)) →
      IsPair g (s.heap.objs.size + 3) .none .none → IterK κ g s.heap.objs.size a 0 → IterK κ' g (s.heap.objs.size + 1) b 0 → g.objs.size = s.heap.objs.size + 5 →
      (∀ c o, s.heap.get? c = some o → g.get? c = some o) → Q (.ref (s.heap.objs.size + 4)) { s with heap := g }) : wpAny (model prog w) A (call (.type "zip") [.ref a, .ref b]) Q E s := by
  have mixed : ∀ κ κ', Meets (Builtin.«zip.__new__» ⟨[.type "zip", .ref a, .ref b], []⟩) (fun _ R s => ItemsK κ s.heap a us ∧ ItemsK κ' s.heap b vs ∧ R (.ok (.ret (.ref (mz4 κ κ' s.heap a b).objs.size))) { s with heap := mz5 κ κ' s.heap a b }) → ItemsK κ s.heap a us → ItemsK κ' s.heap b vs →
      (∀ g, IsZip g (s.heap.objs.size + 4) (s.heap.objs.size + 2) (s.heap.objs.size + 3) .none → IsPair g (s.heap.objs.size + 2) (.ref s.heap.objs.size) (.ref (s.heap.objs.size + 1)) →
      IsPair g (s.heap.objs.size + 3) .none .none → IterK κ g s.heap.objs.size a 0 → IterK κ' g (s.heap.objs.size + 1) b 0 → g.objs.size = s.heap.objs.size + 5 →
      (∀ c o, s.heap.get? c = some o → g.get? c = some o) → Q (.ref (s.heap.objs.size + 4)) { s with heap := g }) → wpAny (model prog w) A (call (.type "zip") [.ref a, .ref b]) Q E s := by
    intro κ κ' M y1 y2 h
    refine callType_new F.called_zip (by decide) (F.typeCall_zip_2 _ _) (F.newCall_zip_2 _ _) (fun obj => F.args_object_init_3 obj _ _) F.entry_zip_new M ⟨y1, y2, ?_⟩
    have w1 : (mz1 κ s.heap a).objs.size = s.heap.objs.size + 1 := Heap.size_push ..
    have w2 : (mz2 κ κ' s.heap a b).objs.size = s.heap.objs.size + 2 := by rw [Heap.size_push, w1]
    have w3 : (mz3 κ κ' s.heap a b).objs.size = s.heap.objs.size + 3 := by rw [Heap.size_push, w2]
    have w4 : (mz4 κ κ' s.heap a b).objs.size = s.heap.objs.size + 4 := by rw [Heap.size_push, w3]
    have w5 : (mz5 κ κ' s.heap a b).objs.size = s.heap.objs.size + 5 := by rw [Heap.size_push, w4]
    have v5 : (mz5 κ κ' s.heap a b).get? (mz4 κ κ' s.heap a b).objs.size = some _ := Heap.get?_push_size _ rfl
    have v4 : (mz5 κ κ' s.heap a b).get? (mz3 κ κ' s.heap a b).objs.size = some _ := Heap.get?_push_of_some _ (Heap.get?_push_size _ rfl)
    have v3 : (mz5 κ κ' s.heap a b).get? (mz2 κ κ' s.heap a b).objs.size = some _ := Heap.get?_push_of_some _ (Heap.get?_push_of_some _ (Heap.get?_push_size _ rfl))
    have v2 : (mz5 κ κ' s.heap a b).get? (mz1 κ s.heap a).objs.size = some _ := Heap.get?_push_of_some _ (Heap.get?_push_of_some _ (Heap.get?_push_of_some _ (Heap.get?_push_size _ rfl)))
    have v1 : (mz5 κ κ' s.heap a b).get? s.heap.objs.size = some _ := Heap.get?_push_of_some _ (Heap.get?_push_of_some _ (Heap.get?_push_of_some _ (Heap.get?_push_of_some _ (Heap.get?_push_size _ rfl))))
    show _ ∧ _
    rw [w2, w3, w4] at v5
    rw [w1, w2] at v3
    rw [w3] at v4
    rw [w1] at v2
    rw [w4]
    refine ⟨⟨_, v5, rfl⟩, h _ v5 v3 v4 ?_ ?_ w5 fun c o x => Heap.get?_push_of_some _ (Heap.get?_push_of_some _ (Heap.get?_push_of_some _ (Heap.get?_push_of_some _ (Heap.get?_push_of_some _ x))))⟩
    · cases κ
      · exact ⟨_, v1, rfl, rfl⟩
      · exact ⟨_, v1, rfl, rfl⟩
    · cases κ'
      · exact ⟨_, v2, rfl, rfl⟩
      · exact ⟨_, v2, rfl, rfl⟩
  cases κ <;> cases κ'
  · exact RZ.call_zipT y1 y2 h
  · exact mixed _ _ (made_TL a b us vs) y1 y2 h
  · exact mixed _ _ (made_LT a b us vs) y1 y2 h
  · exact call_zip_2 y1 y2 h
end
/-! ### a loop over it -/
def SqK (κ : Bool) (K : PySem.W.Frag) (H : Hp) (a : Addr) (xs : List V) : Prop := match κ with | true => SqL K H a xs | false => SqT K H a xs
theorem SqK.it {X : Cx} {pins : List (Addr × Obj)} {σ : L2.St} {H : Hp} {s : Shared} {κ : Bool} {a : Addr} {xs : List V} (I : Inv X pins σ H s) (q : SqK κ X.K H a xs) : ∃ its : List Value, Vals xs its ∧ ItemsK κ s.heap a its.toArray := by
  cases κ
  · obtain ⟨its, rv, p, _⟩ := I.tuple q
    exact ⟨its, rv, p⟩
  · obtain ⟨its, rv, p, _⟩ := I.list q
    exact ⟨its, rv, p.isList⟩
theorem SqK.inj {X : Cx} {pins : List (Addr × Obj)} {σ : L2.St} {H : Hp} {s : Shared} {κ : Bool} {a : Addr} {xs ys : List V} (I : Inv X pins σ H s) (q : SqK κ X.K H a xs) (r : SqK κ X.K H a ys) : xs = ys := by
  cases κ
  · exact I.tuple_inj q r
  · exact I.list_inj q r
def ItM (K : PySem.W.Frag) (κ κ' : Bool) (a b : Addr) : It where
  go := fun i H => ∃ (xs ys : List V) (x y : V), SqK κ K H a xs ∧ SqK κ' K H b ys ∧ xs[i]? = some x ∧ ys[i]? = some y
  yld := fun i H v H' => ∃ T x y, v = .ref T ∧ H T = none ∧ H' = upd H T (.tup [x, y]) ∧ (∀ xs, SqK κ K H a xs → xs[i]? = some x) ∧ ∀ ys, SqK κ' K H b ys → ys[i]? = some y
  stop := fun i H => ∃ xs ys : List V, SqK κ K H a xs ∧ SqK κ' K H b ys ∧ (xs.length ≤ i ∨ ys.length ≤ i)
theorem turnM {P : Program} {w : World} {K : PySem.W.Frag} {elts : List Expr} {kk : Nat} {tpos : Pos} {κ κ' : Bool} {a b zz TI O p1 p2 : Addr} (D : ZipApart zz TI O p1 p2 a b) :
    Turn P w K (.Tuple elts kk tpos) (ItM K κ κ' a b) [zz, TI, O, p1, p2] zz (fun i g => IsZip g zz TI O .none ∧ IsPair g TI (.ref p1) (.ref p2) ∧ (∃ x y, IsPair g O x y) ∧ IterK κ g p1 a i ∧ IterK κ' g p2 b i) where
  mem := List.mem_cons_self
  obj := fun i g ⟨gz, gI, ⟨x, y, gO⟩, x1, x2⟩ c hc => by
    have e : c = zz ∨ c = TI ∨ c = O ∨ c = p1 ∨ c = p2 := by simpa using hc
    rcases e with rfl | rfl | rfl | rfl | rfl
    · exact ⟨_, gz, fun v q => nomatch q⟩
    · exact ⟨_, gI, fun v q => nomatch q⟩
    · exact ⟨_, gO, fun v q => nomatch q⟩
    · exact x1.some
    · exact x2.some
  keep := fun i g g' ⟨gz, gI, ⟨x, y, gO⟩, x1, x2⟩ k =>
    ⟨k zz (by simp) _ gz, k TI (by simp) _ gI, ⟨x, y, k O (by simp) _ gO⟩, x1.to fun o q => k p1 (by simp) o q, x2.to fun o q => k p2 (by simp) o q⟩
  item := by
    intro X hP hw hK hc i pins s σ H E J fr ⟨gz, gI, ⟨c1, c2, gO⟩, x1, x2⟩ ⟨xs, ys, x, y, q1, q2, hx, hy⟩
    subst hP hw hK
    obtain ⟨its, rv, y1⟩ := q1.it J
    obtain ⟨its2, rv2, y2⟩ := q2.it J
    obtain ⟨u, hu, ru⟩ := rv.get hx
    obtain ⟨u2, hu2, ru2⟩ := rv2.get hy
    have ltz : zz < s.heap.objs.size := Heap.lt_size gz
    refine both_goN D gz gI gO x1 x2 y1 y2 (u := u) (u' := u2) (by simpa using hu) (by simpa using hu2) fun g' gz' gO' x1' x2' gT sz kp => ?_
    refine ⟨_, rfl, wpAny_letOwnedTupleGo_zip (s := { s with heap := g' }) gz' fun g2 gz2 sb => ?_⟩
    have gT2 : g2.get? s.heap.objs.size = some { cls := .type "tuple", data := .seq #[u, u2] } := (sb.2 _ (Nat.ne_of_gt ltz)).trans gT
    have nw : ObjOk X.prog X.w (upd H s.heap.objs.size (.tup [x, y])) g2 s.heap.objs.size (.tup [x, y]) := ⟨Nat.le_of_ble_eq_true rfl, [u, u2], .cons ru (.cons ru2 .nil), ⟨_, gT2, rfl, _, rfl⟩⟩
    have J1 : Inv X pins σ (upd H s.heap.objs.size (.tup [x, y])) { s with heap := g2 } :=
      J.turnedNew (t' := s.toks) (ch := [zz, TI, O, p1, p2]) (fun c o hb q => (sb.2 c (fun z => hb (by simp [z]))).trans (kp c o (fun z => hb (by simp [z])) (fun z => hb (by simp [z])) (fun z => hb (by simp [z])) (fun z => hb (by simp [z])) q)) fr (Nat.le_refl _) nw
    refine ⟨.ref s.heap.objs.size, _, J1, rfl, ⟨_, x, y, rfl, J.hok.fresh (Nat.le_refl _), rfl, fun l hl => by rw [SqK.inj J hl q1]; exact hx, fun l hl => by rw [SqK.inj J hl q2]; exact hy⟩, ⟨gz2, ?_, ⟨u, u2, ?_⟩, ?_, ?_⟩, fun c hcm => ?_⟩
    · exact (sb.2 _ D.TIz).trans (kp _ _ D.TIz D.TITO D.TIi1 D.TIi2 gI)
    · exact (sb.2 _ D.TOz).trans gO'
    · exact x1'.to fun o q => (sb.2 _ D.i1z).trans q
    · exact x2'.to fun o q => (sb.2 _ D.i2z).trans q
    · have lt : c < s.heap.objs.size := by
        have e : c = zz ∨ c = TI ∨ c = O ∨ c = p1 ∨ c = p2 := by simpa using hcm
        rcases e with rfl | rfl | rfl | rfl | rfl
        · exact ltz
        · exact Heap.lt_size gI
        · exact Heap.lt_size gO
        · exact x1.lt
        · exact x2.lt
      rw [upd_ne (Nat.ne_of_lt lt)]
      exact (fr c hcm).1
  done := by
    intro X hP hw hK hc i pins s σ H E J fr ⟨gz, gI, ⟨c1, c2, gO⟩, x1, x2⟩ ⟨xs, ys, q1, q2, hend⟩
    subst hP hw hK
    obtain ⟨its, rv, y1⟩ := q1.it J
    obtain ⟨its2, rv2, y2⟩ := q2.it J
    have l1 := rv.length
    have l2 := rv2.length
    have he : its.toArray[i]? = none ∨ its2.toArray[i]? = none := hend.imp (fun q => by simp; omega) (fun q => by simp; omega)
    exact both_endN (J.ok.hd hc) D gz gI gO x1 x2 y1 y2 he fun g kp => ⟨rfl, J.turnedL (t' := s.toks) (ch := [zz, TI, O, p1, p2]) (fun c o hb q =>
      kp c o (fun z => hb (by simp [z])) (fun z => hb (by simp [z])) (fun z => hb (by simp [z])) (fun z => hb (by simp [z])) q) fr⟩
  self := fun A i s Q E st h => wpAny_pyIter_zip st.1 h
def iZipM (K : PySem.W.Frag) (ta : TA) : TI := fun σ H R => ta σ H fun vs H1 => ∃ κ κ' a b xs ys, vs = [.ref a, .ref b] ∧ SqK κ K H1 a xs ∧ SqK κ' K H1 b ys ∧ R (ItM K κ κ' a b) H1
theorem pi_zipM {X : Cx} {e e2 : Expr} {ta : TA} {p pos tpos : Pos} {elts : List Expr} {kk : Nat} (hg : Gl X "zip") (hm : X.mg "zip" = none) (ha : PA X [e, e2] ta)
    (hs : starEach [e, e2] X.env = (false, eval e X.env) :: starEach [e2] X.env := by rfl) (hpl : (backTo pos (starEach [e2] X.env)).any (·.1) = false := by rfl) : PI X (.Tuple elts kk tpos) (.Call (.Name "zip" p) [e, e2] [] pos) (iZipM X.K ta) := by
  refine ⟨fun pins s σ H R J h => Call_ (ld_blt J hg hm PyProof.Rows.boot_zip (PyProof.Rows.callWith_type1 (thn (ha.run pos pins s σ H _ J h) fun us s1 ⟨vs, H1, J1, rr, q1⟩ => ?_) hs hpl))⟩
  obtain ⟨κ, κ', a, b, xs, ys, ex, hqx, hqy, q⟩ := q1
  subst ex
  obtain ⟨v1, v2, rfl, ra, rb⟩ := vals2 rr
  cases ra
  cases rb
  obtain ⟨its, rv, y1⟩ := hqx.it J1
  obtain ⟨its2, rv2, y2⟩ := hqy.it J1
  have lt1 : ∀ {κ : Bool} {l : Addr} {us : Array Value}, ItemsK κ s1.heap l us → l < s1.heap.objs.size := fun {κ l us} y => by
    cases κ
    · obtain ⟨o, ho, _⟩ := y; exact Heap.lt_size ho
    · obtain ⟨o, ho, _⟩ := y; exact Heap.lt_size ho
  refine zip_made κ κ' y1 y2 fun g gz gI gO x1 x2 sz kp => wpAny_pyIter_zip gz ?_
  have J2 : Inv X pins σ H1 { s1 with heap := g } := J1.kept (t' := s1.toks) kp
  refine ⟨s1.heap.objs.size + 4, [s1.heap.objs.size + 4, s1.heap.objs.size + 2, s1.heap.objs.size + 3, s1.heap.objs.size, s1.heap.objs.size + 1], _, _, H1, rfl, J2, turnM (PySem.W.ktu_apart s1.heap.objs.size a b (lt1 y1) (lt1 y2)), ⟨gz, gI, ⟨_, _, gO⟩, x1, x2⟩, fun c hcm => ?_, q⟩
  have le : s1.heap.objs.size ≤ c := by
    have e : c = s1.heap.objs.size + 4 ∨ c = s1.heap.objs.size + 2 ∨ c = s1.heap.objs.size + 3 ∨ c = s1.heap.objs.size ∨ c = s1.heap.objs.size + 1 := by simpa using hcm
    rcases e with z | z | z | z | z <;> rw [z] <;> first | exact Nat.le_add_right _ _ | exact Nat.le_refl _
  exact J1.fpOk le (J1.hok.fresh le)
end DLZ
namespace DL
open PySem PySem.Spec PyProof.Rows L2 Evl DLZ
theorem kp_zipM (K : PySem.W.Frag) {X : Cx} {e e2 : Expr} {ta : TA} {p pos tpos : Pos} {elts : List Expr} {kk : Nat} (hm : X.mg "zip" = none) (ha : PA X [e, e2] ta) (hg : Gl X "zip" := by rfl) (h : X.K = K := by rfl) (hs : starEach [e, e2] X.env = (false, eval e X.env) :: starEach [e2] X.env := by rfl) (hpl : (backTo pos (starEach [e2] X.env)).any (·.1) = false := by rfl) :
    PI X (.Tuple elts kk tpos) (.Call (.Name "zip" p) [e, e2] [] pos) (iZipM K ta) := h ▸ pi_zipM hg hm ha hs hpl
theorem seqK {A : Amb} {S : Hp} {v : V} {d : D} {xs : List D} (r : Rep A.K S v d) (h : d = .lst xs ∨ d = .tup xs) : ∃ κ a vs, v = .ref a ∧ Reps A.K S vs xs ∧ ∀ H : Hp, (∀ b o, S b = some o → H b = some o) → SqK κ A.K H a vs := by
  rcases h with rfl | rfl
  · obtain ⟨a, vs, rfl, a1, a2⟩ := r.lst_inv
    exact ⟨true, a, vs, rfl, a2, fun H e => Evl.sq_of (e _ _ a1)⟩
  · obtain ⟨a, vs, rfl, a1, a2⟩ := r.tup_inv
    exact ⟨false, a, vs, rfl, a2, fun H e => Evl.st_of (e _ _ a1)⟩
section
variable {A : Amb} {ρ : Rho} {n : Nat} {ta tb : TE}
theorem di_zipM {P : List D → Nat → Prop} (h : DE A ta ρ n fun d m => DE A tb ρ m fun d2 m2 => ∃ xs ys, (d = .lst xs ∨ d = .tup xs) ∧ (d2 = .lst ys ∨ d2 = .tup ys) ∧ P ((xs.zip ys).map fun p => D.tup [p.1, p.2]) m2) : DI A (iZipM A.K (tCons ta (tCons tb tNil))) ρ n P := fun S H σ e R q =>
  h S H σ e _ fun v d S1 H1 n1 m1 f1 r1 h1 => h1 S1 H1 σ (e.mv m1 f1) _ fun w d2 S2 H2 n2 m2 f2 r2 ⟨xs, ys, hd, hd2, p⟩ => by
    have r1' := r1.mono m2.ss
    obtain ⟨κ, a, vs, rfl, ra, qa⟩ := seqK r1' hd
    obtain ⟨κ', b, ws, rfl, rb, qb⟩ := seqK r2 hd2
    refine ⟨κ, κ', a, b, vs, ws, rfl, qa H2 f2.sub, qb H2 f2.sub, q _ _ S2 H2 n2 (fun H => SqK κ A.K H a vs ∧ SqK κ' A.K H b ws) (fun i => YPair (fun i => vs[i]?) (fun i => ws[i]?) i) (m1.trans f1.bt m2) f2 ?_ (fun S3 H3 m ex f => ⟨qa H3 (ex.trans f.sub), qb H3 (ex.trans f.sub)⟩) ?_ p⟩
    · have hl : ((xs.zip ys).map fun p => D.tup [p.1, p.2]).length = min vs.length ws.length := by simp [ra.length, rb.length]
      rw [hl]
      refine ⟨fun i H hi q => ?_, fun H q => ⟨vs, ws, q.1, q.2, by omega⟩, fun i H x H' hi q y => ?_⟩
      · have h1 : i < vs.length := by omega
        have h2 : i < ws.length := by omega
        exact ⟨vs, ws, vs[i], ws[i], q.1, q.2, by simp [h1], by simp [h2]⟩
      · obtain ⟨t, x1, y1, e1, e2, e3, e4, e5⟩ := y
        exact ⟨t, x1, y1, e1, e2, e3, e4 vs q.1, e5 ws q.2⟩
    · rintro i S3 H3 x H4 m hi ex f3 ⟨t, x1, x2, rfl, ht, rfl, e1, e2⟩
      obtain ⟨d1, hd1, rd1⟩ := ra.getV e1
      obtain ⟨d2, hd2, rd2⟩ := rb.getV e2
      refine ⟨_, .tup [d1, d2], ?_, Mv.new f3.sub ht, f3.new ht, Rep.tup upd_same (Reps.cons (rd1.mono (ex.trans (Mv.new (b := A.b) f3.sub ht).ss)) (Reps.one (rd2.mono (ex.trans (Mv.new (b := A.b) f3.sub ht).ss))))⟩
      rw [List.getElem?_map, show (xs.zip ys)[i]? = some (d1, d2) from List.getElem?_zip_eq_some.mpr ⟨hd1, hd2⟩]
      rfl
end
end DL
/-! a tuple repeated any number of times -/
namespace DLZ
open PySem PySem.Spec PyProof.Rows L2
theorem mul_none (l : Addr) (us : Array Value) (m : Nat) (dd : Option Addr) (so : Array (Option Value)) (k : Int) (t : Tok) (e0 : (decide (k < -(2 ^ 63)) || decide (k ≥ 2 ^ 63)) = false) (e1 : (us.isEmpty || k == 1) = false) (e2 : (decide (k ≤ 0) || us.isEmpty) = true) :
    Meets (Builtin.«tuple.__mul__» ⟨[.ref l, .int k t], []⟩) (fun _ R s => s.heap.get? l = some { cls := .type "tuple", dict := dd, data := .seq us m, slots := so } ∧
      R (.ok (.ret (Value.ref s.heap.objs.size))) { s with heap := s.heap.push { cls := Value.type "tuple", data := Data.seq #[] }, toks := s.toks }) :=
  .of_wp fun prog w A R s q => by
    obtain ⟨hp, g, d, tk, os⟩ := s
    obtain ⟨hl, q⟩ := q
    have idx := AutoSeq1.idx_int
    wp_walk using wpAny_loadPart' hl
    repeat (first
      | (refine wpAny_ite_false (decide_eq_false (by rw [e0]; exact nofun)) ?_; wp_walk using wpAny_loadPart' hl)
      | (refine wpAny_ite_false (decide_eq_false (by rw [e1]; exact nofun)) ?_; wp_walk using wpAny_loadPart' hl)
      | (refine wpAny_ite_true (decide_eq_true e2) ?_; wp_walk using wpAny_loadPart' hl))
    exact ⟨_, rfl, q⟩
theorem mul_one (l : Addr) (us : Array Value) (m : Nat) (dd : Option Addr) (so : Array (Option Value)) (k : Int) (t : Tok) (e0 : (decide (k < -(2 ^ 63)) || decide (k ≥ 2 ^ 63)) = false) (e1 : (us.isEmpty || k == 1) = true) :
    Meets (Builtin.«tuple.__mul__» ⟨[.ref l, .int k t], []⟩) (fun _ R s => s.heap.get? l = some { cls := .type "tuple", dict := dd, data := .seq us m, slots := so } ∧ R (.ok (.ret (Value.ref l))) s) :=
  .of_wp fun prog w A R s q => by
    obtain ⟨hp, g, d, tk, os⟩ := s
    obtain ⟨hl, q⟩ := q
    have idx := AutoSeq1.idx_int
    wp_walk using wpAny_loadPart' hl
    repeat (first
      | (refine wpAny_ite_false (decide_eq_false (by rw [e0]; exact nofun)) ?_; wp_walk using wpAny_loadPart' hl)
      | (refine wpAny_ite_true (decide_eq_true e1) ?_; wp_walk using wpAny_loadPart' hl))
    exact ⟨_, rfl, q⟩
def rRep01 (K : PySem.W.Frag) : R2 := fun x y H Q => ∃ l k xs, x = .ref l ∧ y = .int k ∧ SqT K H l xs ∧ xs ≠ [] ∧ ((k = 0 ∧ ∀ p, H p = none → Q (.ref p) (upd H p (.tup []))) ∨ (k = 1 ∧ Q (.ref l) H))
theorem op_rep01 {X : Cx} : OpR X (binaryOp .Mult) (rRep01 X.K) := by
  intro pins s σ H x y v u Q I rx ry h
  obtain ⟨l, k, xs, rfl, rfl, hT, hne, hk⟩ := h
  cases rx
  obtain ⟨t, rfl⟩ := ry
  obtain ⟨its, r, ⟨⟨cls, dd, data, so⟩, ho, hc, n, hd⟩, hs⟩ := I.tuple hT
  simp only at hc hd
  subst hc hd
  have hi : its.toArray.isEmpty = false := by
    cases its with
    | nil =>
      have := r.length
      exact absurd (List.eq_nil_of_length_eq_zero this) hne
    | cons a b => rfl
  rcases hk with ⟨rfl, q⟩ | ⟨rfl, q⟩
  · refine wpAny_binaryOp_repeat_ref (T := "tuple") (U := "int") (by decide) ⟨_, ho, rfl⟩ (fun s' => typeIs_int s' 0 t) noFill_tuple_mul F.fills_int_mul F.slot_int_rmul repeat_tuple F.slot_int_index.lookup
      (call_meets F.slot_int_rmul (typeIs_int s 0 t) F.entry_int_rmul (F.args_int_rmul_2 _ _) (int_rmul_tuple 0 t l its.toArray n dd so)
        ⟨ho, rfl, ⟨_, ho, rfl⟩, call_meets F.slot_tuple_mul ⟨_, ho, rfl⟩ F.entry_tuple_mul (F.args_tuple_mul_2 _ _) (mul_none l its.toArray n dd so 0 t rfl (by rw [hi]; rfl) rfl) ⟨ho, ?_⟩⟩)
    exact ⟨.ref s.heap.objs.size, _, I.laid (t' := s.toks) (o := .tup []) (fun b ob z => Heap.get?_push_of_some _ z) (Nat.le_refl _) ⟨Nat.zero_le _, [], .nil, IsTup.new _ _⟩, rfl, q _ (I.hok.fresh (Nat.le_refl _))⟩
  · refine wpAny_binaryOp_repeat_ref (T := "tuple") (U := "int") (by decide) ⟨_, ho, rfl⟩ (fun s' => typeIs_int s' 1 t) noFill_tuple_mul F.fills_int_mul F.slot_int_rmul repeat_tuple F.slot_int_index.lookup
      (call_meets F.slot_int_rmul (typeIs_int s 1 t) F.entry_int_rmul (F.args_int_rmul_2 _ _) (int_rmul_tuple 1 t l its.toArray n dd so)
        ⟨ho, rfl, ⟨_, ho, rfl⟩, call_meets F.slot_tuple_mul ⟨_, ho, rfl⟩ F.entry_tuple_mul (F.args_tuple_mul_2 _ _) (mul_one l its.toArray n dd so 1 t rfl (by rw [hi]; rfl)) ⟨ho, ?_⟩⟩)
    exact ⟨.ref l, H, I, rfl, q⟩
/-- * of ints; a list or a tuple repeated -/
def rTimesT (K : PySem.W.Frag) : R2 := fun x y H Q => DL.rTimes x y H Q ∨ rRepT K x y H Q ∨ rRep01 K x y H Q
theorem op_timesT {X : Cx} (K : PySem.W.Frag) (h : X.K = K := by rfl) : OpR X (binaryOp .Mult) (rTimesT K) := h ▸ DL.op_times.or (op_repT.or op_rep01)
end DLZ
namespace DL
open PySem PySem.Spec PyProof.Rows L2 Evl DLZ
section
variable {A : Amb} {ρ : Rho} {n : Nat} {ta tb : TE}
theorem dr_timesTup {xs : List D} {k : Int} {P : D → Nat → Prop} (h0 : 0 ≤ k) (h1 : k ≤ 1000) (hx : xs ≠ []) (hl : xs.length ≤ 1000) (p : P (.tup (List.replicate k.toNat xs).flatten) n) : DR A (rTimesT A.K) (.tup xs) (.int k) n P := fun S H v w f r1 r2 Q q => by
  obtain ⟨a, vs, rfl, e1, e2⟩ := r1.tup_inv
  cases r2.int_inv
  have ne : vs ≠ [] := fun z => hx (by
    have := e2.length
    rw [z] at this
    exact List.eq_nil_of_length_eq_zero this.symm)
  have sq := Evl.st_of (K := A.K) (f.sub _ _ e1)
  by_cases c0 : k = 0
  · subst c0
    exact Or.inr (Or.inr ⟨a, 0, vs, rfl, rfl, sq, ne, Or.inl ⟨rfl, fun t ht => q _ _ _ _ n (Mv.new f.sub ht) (f.new ht) (Rep.tup upd_same Reps.nil) p⟩⟩)
  by_cases c1 : k = 1
  · subst c1
    have e : (List.replicate (1 : Int).toNat xs).flatten = xs := by show (List.replicate 1 xs).flatten = xs; simp
    rw [e] at p
    exact Or.inr (Or.inr ⟨a, 1, vs, rfl, rfl, sq, ne, Or.inr ⟨rfl, q _ _ S H n Mv.refl f (Rep.tup e1 e2) p⟩⟩)
  refine Or.inr (Or.inl ⟨a, k, vs, rfl, rfl, sq, ne, by omega, h1, by rw [e2.length]; exact hl, fun t ht => ?_⟩)
  exact q _ _ _ _ n (Mv.new f.sub ht) (f.new ht) (Rep.tup upd_same ((e2.rep _).mono (Mv.new (b := A.b) f.sub ht).ss)) p
end
end DL
namespace DL
open PySem PySem.Spec PyProof.Rows L2 Evl
/-! ### numbers and None -/
def optD : Option Int → D
  | none => .non
  | some i => .int i
def optV : Option Int → V
  | none => .non
  | some i => .int i
def Sq (d : D) (xs : List D) : Prop := d = .lst xs ∨ d = .tup xs
def Wi (d : D) (h : List (Option Int)) : Prop := d = .lst (h.map optD) ∨ d = .tup (h.map optD)
theorem Wi.sq {d : D} {h : List (Option Int)} (w : Wi d h) : Sq d (h.map optD) := w
theorem Rep.optV {K : PySem.W.Frag} {S : Hp} {v : V} {o : Option Int} (r : Rep K S v (optD o)) : v = optV o := by
  cases o with
  | none => exact r.non_inv
  | some i => exact r.int_inv
theorem Reps.optsV {K : PySem.W.Frag} {S : Hp} : ∀ {h : List (Option Int)} {vs : List V}, Reps K S vs (h.map optD) → vs = h.map DL.optV
  | [], vs, r => by
    have z : Reps K S vs [] := r
    unfold Reps at z
    exact z
  | o :: h, vs, r => by
    obtain ⟨v, ws, rfl, r1, r2⟩ := (show Reps K S vs (optD o :: h.map optD) from r).uncons
    rw [Rep.optV r1, Reps.optsV r2]
    rfl
theorem inV_opts {x : Int} : ∀ {h : List (Option Int)}, inV (.int x) (h.map optV) = decide (some x ∈ h)
  | [] => by simp [inV]
  | o :: h => by
    have ih := inV_opts (x := x) (h := h)
    unfold inV at ih ⊢
    rw [List.map_cons, List.any_cons, ih]
    have e : eqV (optV o) (.int x) = decide (some x = o) := by
      cases o with
      | none => rfl
      | some y =>
        show (y == x) = decide (some x = some y)
        by_cases c : y = x
        · subst c; simp
        · have : ¬ some x = some y := fun z => c (Option.some.inj z).symm
          simp [c, this]
    rw [e, show decide (some x ∈ o :: h) = decide (some x = o ∨ some x ∈ h) from by congr 1; exact propext List.mem_cons]
    by_cases c : some x = o <;> simp [c]
theorem flat_opts {h : List (Option Int)} : (h.map optV).all flatV = true := by
  rw [List.all_eq_true]
  intro v hv
  obtain ⟨o, _, rfl⟩ := List.mem_map.mp hv
  cases o <;> rfl
section
variable {A : Amb} {te ta tb : TE} {ρ : Rho} {n : Nat} {T : DEnds}
theorem dr_inO {neg : Bool} {x : Int} {d : D} {h : List (Option Int)} {P : D → Nat → Prop} (hd : Wi d h) (p : P (.bl (if neg then !decide (some x ∈ h) else decide (some x ∈ h))) n) : DR A (rIn A.K neg) (.int x) d n P := fun S H v w f r1 r2 Q q => by
  cases r1.int_inv
  rcases hd with rfl | rfl
  · obtain ⟨a, vs, rfl, h1, h2⟩ := r2.lst_inv
    have h2' := Reps.optsV h2
    subst h2'
    exact ⟨a, _, rfl, Or.inl (Evl.sq_of (f.sub _ _ h1)), rfl, flat_opts, q _ _ S H n Mv.refl f (by rw [inV_opts]; exact Rep.bl) p⟩
  · obtain ⟨a, vs, rfl, h1, h2⟩ := r2.tup_inv
    have h2' := Reps.optsV h2
    subst h2'
    exact ⟨a, _, rfl, Or.inr (Evl.st_of (f.sub _ _ h1)), rfl, flat_opts, q _ _ S H n Mv.refl f (by rw [inV_opts]; exact Rep.bl) p⟩
/-- xs.append((e, ys.pop(k))), both ours -/
theorem ds_appTupPop {i j : Nat} {ds es : List D} (hij : i ≠ j) (hi : ρ[i]? = some (.own ds)) (hj : ρ[j]? = some (.own es)) (h : DE A ta ρ n fun d0 m0 => DE A te ρ m0 fun d m => ∃ (c : Nat) (x : D), d = .int (c : Int) ∧ es[c]? = some x ∧ ds.length < 100000 ∧ c < 2 ^ 62 ∧ T.nx ((ρ.set j (.own (es.eraseIdx c))).set i (.own (ds ++ [.tup [d0, x]]))) m) :
    DS A (tDrop (tBM A.K "list" rAppend (tVar i) (tCons (tTup (tCons ta (tCons (tBM A.K "list" rPopAt (tVar j) (tCons te tNil)) tNil))) tNil))) ρ n T := fun S H σ e D k => by
  obtain ⟨a, vs, h1, h2, h3, h4, h5⟩ := e.own hi
  refine ⟨.ref a, h1, Or.inl ⟨rfl, vs, Evl.sq_of h2⟩, h S H σ e _ fun v0 d0 S1 H1 n1 m1 f1 r1 h' => ?_⟩
  have e1 := e.mv m1 f1
  obtain ⟨b, ws, g1, g2, g3, g4, g5⟩ := e1.own hj
  refine ⟨.ref b, g1, Or.inl ⟨rfl, ws, Evl.sq_of g2⟩, h' S1 H1 σ e1 _ fun v d S' H' n' m f r ⟨c, x, hd, hx, hl, hc, p⟩ => ?_⟩
  subst hd
  cases r.int_inv
  have e' := e1.mv m f
  obtain ⟨b', ws', q1, q2, q3, q4, q5⟩ := e'.own hj
  rw [g1] at q1; cases q1
  obtain ⟨y, hy, ry⟩ := q3.get hx
  have lt : c < ws'.length := (List.getElem?_eq_some_iff.mp hy).1
  refine ⟨b, ws', (c : Int), c, y, rfl, rfl, q2, by omega, by omega, seqIndex_of (by omega) (by omega), hy, ?_⟩
  have e2 := e'.putOwn hj g1 (q3.eraseIdx c)
  refine ⟨Nat.le_of_ble_eq_true rfl, fun t ht => ?_⟩
  have mn := Mv.new (b := A.b) (o := .tup [v0, y]) e2.f.sub ht
  have e3 := e2.mv mn (e2.f.new ht)
  have hi2 : (ρ.set j (.own (es.eraseIdx c)))[i]? = some (.own ds) := by rw [List.getElem?_set_ne (fun z => hij z.symm)]; exact hi
  obtain ⟨a', vs', x1, x2, x3, x4, x5⟩ := e3.own hi2
  rw [h1] at x1; cases x1
  refine ⟨a, vs', .ref t, rfl, rfl, x2, Evl.sz_lt (by rw [x3.length]; exact hl), ?_⟩
  have rt : Rep A.K (upd S' t (.tup [v0, y])) (.ref t) (.tup [d0, x]) := Rep.tup upd_same (Reps.cons ((r1.mono m.ss).mono mn.ss) (Reps.one (ry.mono mn.ss)))
  exact k.nx _ n' _ _ σ (m1.ss.trans (m.ss.trans mn.ss)) (e3.putOwn hi2 h1 (x3.append (Reps.one rt))) p
end
end DL
namespace DL
open PySem PySem.Spec PyProof.Rows L2 Evl
theorem last_len {α : Type} {xs : List α} {x : α} (h : xs.getLast? = some x) : 0 < xs.length ∧ xs[xs.length - 1]? = some x := by
  rw [List.getLast?_eq_getElem?] at h
  exact ⟨by have := (List.getElem?_eq_some_iff.mp h).1; omega, h⟩
theorem atI_last {α : Type} {xs : List α} {x : α} (h : xs[xs.length - 1]? = some x) (h0 : 0 < xs.length) : atI xs (-1) = some x := by
  unfold atI
  have e : ixN xs.length (-1) = some (xs.length - 1) := by
    unfold ixN
    rw [if_neg (by omega)]
    split
    · congr 1
      omega
    · omega
  rw [e]
  exact h
section
variable {A : Amb} {ρ : Rho} {n : Nat}
theorem dr_ixL {d : D} {ds : List D} {x : D} {P : D → Nat → Prop} (hd : d = .lst ds ∨ d = .tup ds) (hj : ds.getLast? = some x) (p : P x n) : DR A (rIx A.K) d (.int (-1)) n P := fun S H v w f r1 r2 Q q => by
  cases r2.int_inv
  obtain ⟨h0, hx⟩ := last_len hj
  rcases hd with rfl | rfl
  · obtain ⟨a, vs, rfl, h1, h2⟩ := r1.lst_inv
    obtain ⟨u, hu, ru⟩ := h2.get hx
    rw [← h2.length] at hu h0
    exact Or.inl ⟨a, vs, -1, u, rfl, rfl, Evl.sq_of (f.sub _ _ h1), atI_last hu h0, q u x S H n Mv.refl f ru p⟩
  · obtain ⟨a, vs, rfl, h1, h2⟩ := r1.tup_inv
    obtain ⟨u, hu, ru⟩ := h2.get hx
    rw [← h2.length] at hu h0
    exact Or.inr (Or.inl ⟨a, vs, -1, u, rfl, rfl, Evl.st_of (f.sub _ _ h1), atI_last hu h0, q u x S H n Mv.refl f ru p⟩)
end
theorem okIn_line (l : List (Int × Int)) : pureDs (l.map pr) = true ∧ PyData.canLayAll0 (toPs (l.map pr)) = true ∧ PyData.depthAll (toPs (l.map pr)) ≤ 1 := by
  induction l with
  | nil => exact ⟨rfl, rfl, Nat.zero_le _⟩
  | cons p l ih =>
    obtain ⟨a, b, c⟩ := ih
    refine ⟨a, b, ?_⟩
    show max (max 0 (max 0 0) + 1) (PyData.depthAll (toPs (l.map pr))) ≤ 1
    omega
theorem ok_rows (G : List (List (Int × Int))) : okD (.lst (G.map fun r => D.tup (r.map pr))) = true := by
  have all : pureDs (G.map fun r => D.tup (r.map pr)) = true ∧ PyData.canLayAll0 (toPs (G.map fun r => D.tup (r.map pr))) = true ∧ PyData.depthAll (toPs (G.map fun r => D.tup (r.map pr))) ≤ 2 := by
    induction G with
    | nil => exact ⟨rfl, rfl, Nat.zero_le _⟩
    | cons r G ih =>
      obtain ⟨a, b, c⟩ := ih
      obtain ⟨a', b', c'⟩ := okIn_line r
      refine ⟨?_, ?_, ?_⟩
      · show (pureDs (r.map pr) && pureDs (G.map fun r => D.tup (r.map pr))) = true
        rw [a, a']; rfl
      · show (PyData.canLayAll0 (toPs (r.map pr)) && PyData.canLayAll0 (toPs (G.map fun r => D.tup (r.map pr)))) = true
        rw [b, b']; rfl
      · show max (PyData.depthAll (toPs (r.map pr)) + 1) (PyData.depthAll (toPs (G.map fun r => D.tup (r.map pr)))) ≤ 2
        omega
  obtain ⟨a, b, c⟩ := all
  show (pureDs (G.map fun r => D.tup (r.map pr)) && (PyData.canLayAll0 (toPs (G.map fun r => D.tup (r.map pr))) && decide (PyData.depthAll (toPs (G.map fun r => D.tup (r.map pr))) + 1 ≤ 64))) = true
  rw [a, b, decide_eq_true (by omega)]
  rfl
end DL
namespace DL
open PySem PySem.Spec PyProof.Rows L2 Evl
/-! ### a call of one of several defs -/
/-- the def at f is one of ours -/
structure HeldG (X : Cx) (f : Addr) (sp : Sp) : Prop where
  ex : ∃ (k : Nat) (fd : FuncData) (ps : List Str), FnG X.prog X.w X.K X.mg X.base k f fd ps sp ∧ Room k X.A ∧ PySem.W.keepIn X.K (.ref f) = true ∧ Binds X.K fd ps []
def HeldS (X : Cx) (S : List (Addr × Sp)) : Prop := ∀ p ∈ S, HeldG X p.1 p.2
theorem held_nil {X : Cx} : HeldS X [] := fun p hp => absurd hp List.not_mem_nil
theorem held_cons {X : Cx} {k : Nat} {f : Addr} {fd : FuncData} {ps : List Str} {sp : Sp} {S : List (Addr × Sp)} (G : FnG X.prog X.w X.K X.mg X.base k f fd ps sp) (hr : Room k X.A) (hk : PySem.W.keepIn X.K (.ref f) = true) (hb : Binds X.K fd ps []) (h : HeldS X S) : HeldS X ((f, sp) :: S) := fun p hp => by
  rcases List.mem_cons.mp hp with rfl | hp
  · exact ⟨k, fd, ps, G, hr, hk, hb⟩
  · exact h p hp
def tSel (tf : TE) (S : List (Addr × Sp)) (E : XK) (t : TA) : TE := fun σ H Q => tf σ H fun v H1 => ∃ p ∈ S, v = .ref p.1 ∧ t σ H1 fun vs H2 => p.2 vs H2 Q E
section
variable {X : Cx} {E : XK} {pos : Pos} {fe e : Expr} {es : List Expr} {tf : TE} {t : TA} {S : List (Addr × Sp)}
theorem pe_sel (hf : PE X fe tf) (A : HeldS X S) (hgd : X.A.guards = some []) (hx : Passes (L2.CX X.prog X.w) X E) (ha : PA X (e :: es) t)
    (hev : eval (.Call fe (e :: es) [] pos) X.env = (do callWith pos (← eval fe X.env) [] (backTo pos (starEach (e :: es) X.env)) (backToKw pos (keywordEach [] X.env))) := by rfl)
    (he : starEach (e :: es) X.env = (false, eval e X.env) :: starEach es X.env := by rfl) (hpl : (backTo pos (starEach es X.env)).any (·.1) = false := by rfl) : PE X (.Call fe (e :: es) [] pos) (tSel tf S E t) := by
  constructor
  intro pins s σ H Q I h
  rw [hev]
  refine wpAny_bind (thn (hf.run pins s σ H _ I h) ?_)
  rintro u s1 ⟨v, H1, I1, r1, p, hp, rfl, q1⟩
  cases r1
  obtain ⟨k, fd, ps, G, hr, hk, hb⟩ := (A p hp).ex
  refine PySem.W.callWith_K (h₀ := X.base) I1.ok.mod.kin hk (thn (ha.run pos pins s1 σ H1 _ I1 q1) ?_) he hpl
  rintro us s2 ⟨vs, H2, I2, r, q⟩
  refine ⟨I2.kIn, wpAny_call (codeAny_mono (G.at hgd hr (us := us) ?_ hx I2 r q) ?_)⟩
  · have hl : us.length = ps.length := by rw [← r.length]; exact G.arity _ _ _ _ q
    have z := hb s2 us I2.kIn (by rw [List.append_nil]; exact hl)
    rw [List.append_nil] at z
    exact z
  · rintro (e | fl) s' hq
    · exact hq
    · cases fl <;> exact hq
end
section
variable {A : Amb} {tf : TE} {tr : TA} {ρ : Rho} {n : Nat} {Ss : List (Addr × Sp)}
/-- what it raises leaves this def -/
theorem de_selX {P : D → Nat → Prop} (hX : XOk A) (h : DE A tf ρ n fun d m => ∃ f k C, (f, spOf A.K k C) ∈ Ss ∧ d = .raw (.ref f) ∧ DA A tr ρ m fun ds m2 => ds.length = k ∧ C none ds 0 (fun d _ => P d m2) A.PX) : DE A (tSel tf Ss A.E tr) ρ n P := fun S H σ e Q q =>
  h S H σ e _ fun v d S1 H1 n1 m1 f1 r1 ⟨f, k, C, hm, hd, ha⟩ => by
    subst hd
    cases r1.raw_inv
    exact ⟨_, hm, rfl, ha S1 H1 σ (e.mv m1 f1) _ fun vs ds S2 H2 n2 m2 f2 r2 ⟨hl, hc⟩ => call_atN f2 r2 hl hc (fun v d S' H' m f rv p => q v d S' H' n2 ((m1.trans f1.bt m2).trans f2.bt m) f rv p) fun c fs dd S' H' _ f e p => hX c fs dd S' H' n2 f e p⟩
end
end DL
namespace DL
open PySem PySem.Spec PyProof.Rows L2 Evl
theorem pe_globC {X : Cx} {x : Str} {i : Int} {pos : Pos} (hm : ∃ t, X.mg x = some (.int i t)) (hg : Gl X x := by rfl) (hd : (x == ("__debug__" : Str)) = false := by decide) : PE X (.Name x pos) (tC (.int i)) := by
  obtain ⟨t, h⟩ := hm
  exact pe_glob hg h ⟨t, rfl⟩ hd
end DL
namespace DL
open PySem PySem.Spec PyProof.Rows L2 Evl
section
variable {A : Amb} {te : TE} {ρ : Rho} {n : Nat} {T : DEnds}
/-- xs.extend(e), xs ours -/
theorem ds_ext {i : Nat} {ds : List D} (hi : ρ[i]? = some (.own ds)) (h : DE A te ρ n fun d m => ∃ es, d = .lst es ∧ ds.length + es.length ≤ 100000 ∧ T.nx (ρ.set i (.own (ds ++ es))) m) : DS A (tDrop (tBM A.K "list" rExtend (tVar i) (tCons te tNil))) ρ n T := fun S H σ e D k => by
  obtain ⟨a, vs, h1, h2, h3, h4, h5⟩ := e.own hi
  refine ⟨.ref a, h1, Or.inl ⟨rfl, vs, Evl.sq_of h2⟩, h S H σ e _ fun v d S' H' n' m f r ⟨es, hd, hl, p⟩ => ?_⟩
  subst hd
  have e' := e.mv m f
  obtain ⟨a', vs', g1, g2, g3, g4, g5⟩ := e'.own hi
  rw [h1] at g1; cases g1
  obtain ⟨b, ws, rfl, b1, b2⟩ := r.lst_inv
  refine ⟨a, b, vs', ws, rfl, rfl, g2, f.sub _ _ b1, Evl.sz_of (by rw [g3.length, b2.length]; exact hl), ?_⟩
  exact k.nx _ n' S' _ σ m.ss (e'.putOwn hi h1 (g3.append b2)) p
end
end DL
namespace DL
open PySem PySem.Spec PyProof.Rows L2 Evl
section
variable {A : Amb} {te ta tb : TE} {ρ : Rho} {n : Nat} {T : DEnds}
/-- xs, y = [], e : xs ours -/
theorem ds_parOV {i j : Nat} (h : DE A te ρ n fun d m => T.nx ((ρ.set i (.own [])).set j (.val d)) m) : DS A (tPar i j (tCons (tLst tNil) (tCons te tNil))) ρ n T := fun S H σ e D k => by
  refine ⟨Nat.zero_le _, fun a ha => ?_⟩
  have fa := e.f.newO (o := .lst []) ha
  have ea : ER A n S (upd H a (.lst [])) σ ρ := e.mv (Mv.newO ha) fa
  have nbA : some a ≠ A.b := fun z => (fa.box a z.symm).2.2 (e.f.h0 ha)
  refine h S _ σ ea _ fun v d S' H' n' m f r p => ?_
  have ha' : H' a = some (.lst []) := m.fr a _ nbA upd_same
  have sa' : S' a = none := m.sep a (by rw [upd_same]; simp) (e.f.s0 ha)
  have e1 := (ea.mv m f).setOwn (i := i) (vs := []) (ds := []) (fun j es hj z => by
    obtain ⟨c, ws, h1, h2, _⟩ := e.own hj
    rw [z] at h1; cases h1
    rw [ha] at h2; cases h2) ha' Reps.nil sa' (e.f.h0 ha)
  exact ⟨_, _, rfl, k.nx _ n' S' H' _ m.ss (e1.set (i := j) r) p⟩
/-- xs, y, z = [], e, e2 : xs ours -/
theorem ds_parOVV {i j l : Nat} (h : DE A ta ρ n fun d m => DE A tb ρ m fun d2 m2 => T.nx (((ρ.set i (.own [])).set j (.val d)).set l (.val d2)) m2) : DS A (tPar3 i j l (tCons (tLst tNil) (tCons ta (tCons tb tNil)))) ρ n T := fun S H σ e D k => by
  refine ⟨Nat.zero_le _, fun a ha => ?_⟩
  have fa := e.f.newO (o := .lst []) ha
  have ea : ER A n S (upd H a (.lst [])) σ ρ := e.mv (Mv.newO ha) fa
  have nbA : some a ≠ A.b := fun z => (fa.box a z.symm).2.2 (e.f.h0 ha)
  refine h S _ σ ea _ fun v d S1 H1 n1 m1 f1 r1 h1 => ?_
  have e1 := ea.mv m1 f1
  refine h1 S1 H1 σ e1 _ fun v2 d2 S' H' n' m2 f r2 p => ?_
  have m := m1.trans f1.bt m2
  have ha' : H' a = some (.lst []) := m.fr a _ nbA upd_same
  have sa' : S' a = none := m.sep a (by rw [upd_same]; simp) (e.f.s0 ha)
  have e2 := (ea.mv m f).setOwn (i := i) (vs := []) (ds := []) (fun j es hj z => by
    obtain ⟨c, ws, h1, h2, _⟩ := e.own hj
    rw [z] at h1; cases h1
    rw [ha] at h2; cases h2) ha' Reps.nil sa' (e.f.h0 ha)
  exact ⟨_, _, _, rfl, k.nx _ n' S' H' _ m.ss ((e2.set (i := j) (r1.mono m2.ss)).set (i := l) r2) p⟩
end
end DL
namespace DL
open PySem PySem.Spec PyProof.Rows L2 Evl
/-! the law's end where tables of code are made -/
def tblH (ts : List Addr) (H0 : Hp) : Hp := fun b => if b ∈ ts then some (.tbl #[]) else H0 b
theorem tblH_at {ts : List Addr} {H0 : Hp} {b : Addr} {u : HO} (h : tblH ts H0 b = some u) : (b ∈ ts ∧ u = .tbl #[]) ∨ (b ∉ ts ∧ H0 b = some u) := by
  unfold tblH at h
  split at h
  · next c => cases h; exact .inl ⟨c, rfl⟩
  · next c => exact .inr ⟨c, h⟩
section
variable {P : Program} {w : World} {K : PySem.W.Frag} {mg mb : Str → Option Value} {a : Addr} {ob : Obj} {ws : List V}
theorem law_endT {k : Nat} {fa : Addr} {fd : FuncData} {x : Str} {s : Shared} {vs : List Value} {ns : List Int} {cs : List (Addr × Addr)}
    (inK : K.In s.heap) (main : s.heap.Ns mainGlobals mg) (blt : s.heap.Ns builtinsNs mb) (boot : ∀ y : Str, y ≠ "__name__" → mb y = bootBuiltins y) (lim : s.heap.NoLimit) (gens : s.gens = #[])
    (tab0 : ∀ p ∈ cs, s.heap.get? p.2 = some { cls := .none, data := .fields #[] }) (tabN : ∀ p ∈ cs, K.lookup p.2 = none) (hd : ∀ p ∈ cs, PySem.W.CodeHd s.heap p.1 p.2) (mine : ∀ q ∈ tabsOf K, ∃ p ∈ cs, p.2 = q.1)
    (bm : ∃ (bm : Addr) (ob : Obj), mg "__builtins__" = some (.ref bm) ∧ bm ≠ builtinsNs ∧ s.heap.get? bm = some ob ∧ ob.cls = .type "module" ∧ ob.dict = some builtinsNs ∧ ob.data = .plain)
    (obj : s.heap.get? a = some { cls := .type "list", data := .seq vs.toArray }) (isInts : IntsAre vs ns) (most : ns.length ≤ 63) (room : Room k callerA)
    (G : ∀ base : Heap, K.In base → base.Ns mainGlobals mg → (∀ p ∈ cs, LamX.TabB base mg p.1 p.2) → FnG P w K mg base k fa fd [x] (spLaw K)) (bind : ∀ (t : Shared) (u : Value), BindsTo t fd ⟨[u], []⟩ [(x, u)]) :
    codeAny (model P w) callerA (.call (.ref fa) ⟨[.ref a], []⟩) (fun r t => r = .ok (.ret (.bool true)) ∧ OldK s.heap t.heap ∧ t.os = s.os ∧ AllBare t.gens) s := by
  have lenV : vs.length = ns.length := isInts.length
  have rv : Vals (ns.map V.int) vs := vals_ints isInts
  have z63 : (63 : Nat) ≤ sizeLine := by decide
  let ts : List Addr := cs.map (·.2)
  have tabT : ∀ b ∈ ts, s.heap.get? b = some { cls := .none, data := .fields #[] } := fun b hb => by
    obtain ⟨p, hp, rfl⟩ := List.mem_map.mp hb
    exact tab0 p hp
  have inT : ∀ p ∈ cs, p.2 ∈ ts := fun p hp => List.mem_map.mpr ⟨p, hp, rfl⟩
  have aNo : a ∉ ts := fun z => by
    have q := tabT a z
    rw [obj] at q
    exact Data.noConfusion (congrArg Obj.data (Option.some.inj q))
  let H : Hp := tblH ts (scriptH K a { cls := .type "list", data := .seq vs.toArray } (ns.map V.int))
  have atH : ∀ {b : Addr} {u : HO}, H b = some u → (b ∈ ts ∧ u = .tbl #[]) ∨ (b = a ∧ K.lookup a = none ∧ u = .frz { cls := .type "list", data := .seq vs.toArray } (.lst (ns.map V.int))) := fun {b u} h => by
    rcases tblH_at h with z | ⟨_, z⟩
    · exact .inl z
    · exact .inr (scriptH_at z)
  have okH : HOk P w H s.heap := fun b u h => by
    rcases atH h with ⟨z, rfl⟩ | ⟨rfl, _, rfl⟩
    · exact tabT b z
    · exact ⟨obj, by rw [List.length_map]; omega, vs, _, rv, obj⟩
  have seen : SqL K H a (ns.map V.int) := by
    cases hk : K.lookup a with
    | some o =>
      have e := inK a o hk
      rw [obj] at e
      cases e
      exact .inr ⟨_, vs.toArray, _, hk, rfl, rfl, rfl, by rw [List.size_toArray, lenV]; omega, by simpa using rv⟩
    | none => exact .inl (.inr ⟨{ cls := .type "list", data := .seq vs.toArray }, by
        show tblH ts (scriptH K a _ _) a = _
        unfold tblH
        rw [if_neg aNo]
        unfold scriptH
        rw [if_pos ⟨rfl, by rw [hk]; rfl⟩]⟩)
  have hidden : ∀ {b : Addr} {o : Obj}, s.heap.get? b = some o → (∀ us n, o.data ≠ .seq us n) → o.data ≠ .fields #[] → (hidT s.heap H).get? b = some o := fun {b o} e d1 d2 => hidT_get e (by
    cases q : H b with
    | none => rfl
    | some u =>
      rcases atH q with ⟨z, rfl⟩ | ⟨rfl, _, rfl⟩
      · rw [tabT b z] at e; cases e
        exact (d2 rfl).elim
      · rw [obj] at e; cases e
        exact (d1 _ _ rfl).elim)
  have nsH : ∀ {b : Addr} {m : Str → Option Value}, s.heap.Ns b m → (hidT s.heap H).Ns b m := fun ⟨o, es, ep, e, d, r⟩ => ⟨o, es, ep, hidden e (fun us n z => by rw [d] at z; cases z) (fun z => by rw [d] at z; cases z), d, r⟩
  have inH : K.In (hidT s.heap H) := fun b o e => hidT_get (inK b o e) (by
    cases q : H b with
    | none => rfl
    | some u =>
      rcases atH q with ⟨z, rfl⟩ | ⟨rfl, n, _⟩
      · obtain ⟨p, hp, rfl⟩ := List.mem_map.mp z
        rw [tabN p hp] at e; cases e
      · rw [n] at e; cases e)
  have md : Mod K mg (hidT s.heap H) := ⟨inH, nsH main, ⟨mb, nsH blt, boot⟩, let ⟨mc, p, q⟩ := lim; ⟨mc, nsH p, q⟩⟩
  have tb : ∀ p ∈ cs, LamX.TabB (hidT s.heap H) mg p.1 p.2 := fun p hp => by
    have t0 := tab0 p hp
    refine ⟨?_, ?_, fun z => ?_⟩
    · obtain ⟨o, us, file, tf, flags, tg, inF, text, tt, e1, r1, r2, r3, rest⟩ := hd p hp
      refine ⟨o, us, file, tf, flags, tg, inF, text, tt, hidden e1 (fun _ _ z => by rw [r2] at z; cases z) (fun z => ?_), r1, r2, r3, rest⟩
      rw [r2] at z; cases z
      simp at r3
    · obtain ⟨bm, ob, b1, b2, b3, b4, b5, b6⟩ := bm
      refine ⟨bm, ob, b1, b2, fun q => ?_, fun q => ?_, hidden b3 (fun _ _ z => by rw [b6] at z; cases z) (fun z => by rw [b6] at z; cases z), b4, b5, b6⟩
      · obtain ⟨o, es, ep, e, d, _⟩ := main
        rw [q, e] at b3; cases b3
        rw [d] at b6; cases b6
      · rw [q, t0] at b3; cases b3
        cases b6
    · obtain ⟨o, es, ep, e, d, _⟩ := main
      rw [z, t0] at e; cases e
      cases d
  have env : Env0 P w K mg (hidT s.heap H) callerA [] s H := ⟨rfl, md, fun b o e => of_hidT e, Nat.le_of_eq (hidT_size _ _), trivial, fun b hb => absurd (show b ∈ ([] : List Addr) from hb) (by simp), okH, .of_eq gens⟩
  have tk : TabK K (fun _ => none) H := ⟨fun q hq => by
    obtain ⟨p, hp, e⟩ := mine q hq
    refine LamX.TabS.nil ?_
    show tblH ts _ q.1 = _
    unfold tblH
    rw [if_pos (by rw [← e]; exact inT p hp)], fun _ _ => rfl⟩
  refine codeAny_mono ((G _ inH (nsH main) tb).go callerA rfl room [] s H env ⟨[.ref a], []⟩ [.ref a] [.ref a] (bind s (.ref a)) (.cons rfl .nil) (fun v _ => v = .bl true) (fun _ _ _ => False) ⟨a, ns, ⟨rfl, tk⟩, seen, most, fun _ => rfl⟩) fun r t h => ?_
  match r, h with
  | .error e, h =>
    obtain ⟨_, _, _, _, _, _, _, _, _, _, _, _, z⟩ := (show L2.CX P w [] H s (fun _ _ _ => False) e t from h)
    exact z.elim
  | .ok .next, h => exact False.elim h
  | .ok .brk, h => exact False.elim h
  | .ok .cont, h => exact False.elim h
  | .ok (.ret u), ⟨v, H', os, bare, un, ok', r', q⟩ =>
    have q : v = .bl true := q
    subst q
    obtain rfl : u = Value.bool true := r'
    have tbH : ∀ p ∈ cs, H p.2 = some (.tbl #[]) := fun p hp => by
      show tblH ts _ p.2 = _
      unfold tblH
      rw [if_pos (inT p hp)]
    have more : ∀ p ∈ cs, ∃ xs : Array Value, t.heap.get? p.2 = some { cls := .none, data := .fields xs } := fun p hp => by
      obtain ⟨xs, z⟩ := un.tbls p.2 #[] (tbH p hp)
      exact ⟨_, ok' p.2 _ z⟩
    have rest : ∀ b o, b ∉ ts → s.heap.get? b = some o → t.heap.get? b = some o := fun b o nb e => by
      cases q : H b with
      | none => exact un.keep b o e q (by intro z; exact absurd (show b ∈ ([] : List Addr) from z) (by simp)) (by simp)
      | some u =>
        rcases atH q with ⟨z, _⟩ | ⟨rfl, _, rfl⟩
        · exact absurd z nb
        · obtain ⟨e1, _⟩ := okH _ _ q
          obtain ⟨e2, _⟩ := ok' _ _ (un.frzs _ _ _ q)
          rw [e] at e1; cases e1
          exact e2
    refine ⟨rfl, ⟨fun b o e => ?_, fun b o e => ?_⟩, os, bare⟩
    · by_cases hb : b ∈ ts
      · obtain ⟨p, hp, rfl⟩ := List.mem_map.mp hb
        obtain ⟨xs, hx⟩ := more p hp
        rw [tab0 p hp] at e; cases e
        exact .inr (.inl ⟨((hd p hp).tab (tab0 p hp)).isCodeTable, rfl, #[], xs, rfl, by rw [Array.empty_append]; exact hx⟩)
      · exact .inl (rest b o hb e)
    · by_cases hb : b ∈ ts
      · obtain ⟨p, hp, rfl⟩ := List.mem_map.mp hb
        obtain ⟨xs, hx⟩ := more p hp
        exact ⟨_, hx⟩
      · exact ⟨o, rest b o hb e⟩
end
/-- the goal that k_head leaves, from the law's promise, tables of code and all -/
theorem walkGT {l : PySem.W.OpenLaw} {k : Nat} {q : Program} {loose : List Str} {XP : (Str → Option Value) → Heap → Prop} {YP : World → Heap → Prop} {d : DefRec} {K : Params → PySem.W.Frag} {x : Str} {cs : List (Addr × Addr)}
    (most : l.most = some 63) (plain : d.params.defaults = []) (room : Room k callerA) (inK : ∀ (w : World) (h : Heap), YP w h → (K w.params).In h)
    (tab0 : ∀ (w : World) (h : Heap), YP w h → ∀ p ∈ cs, h.get? p.2 = some { cls := .none, data := .fields #[] }) (tabN : ∀ (w : World), ∀ p ∈ cs, (K w.params).lookup p.2 = none) (hd : ∀ (w : World) (h : Heap), YP w h → ∀ p ∈ cs, PySem.W.CodeHd h p.1 p.2)
    (mine : ∀ (w : World), ∀ q ∈ tabsOf (K w.params), ∃ p ∈ cs, p.2 = q.1)
    (F : ∀ (w : World) (mg : Str → Option Value) (fa : Addr) (h : Heap), (K w.params).In h → h.Ns mainGlobals mg → mg d.name = some (.ref fa) →
      ∃ fd : FuncData, (∀ (t : Shared) (u : Value), BindsTo t fd ⟨[u], []⟩ [(x, u)]) ∧ ∀ base : Heap, (K w.params).In base → base.Ns mainGlobals mg → (∀ p ∈ cs, LamX.TabB base mg p.1 p.2) → FnG l.prog w (K w.params) mg base k fa fd [x] (spLaw (K w.params))) :
    PySem.W.WalkO q loose XP YP l.row.toRowW d [] (fun f us => PySem.call f us) := by
  refine Att.attach_callB most plain fun w s₀ s mg mb fa o pm cd doc a vs ns G Y ho hdf hcd hmg hobj hints hlen hbits hg => ?_
  obtain ⟨fd, hb, hF⟩ := F w mg fa _ (inK w _ Y) G.T.g hmg
  exact law_endT (inK w _ Y) G.T.g G.T.b G.T.builtins G.T.nolimit hg (tab0 w _ Y) (tabN w) (hd w _ Y) (mine w) G.T.bmain hobj hints hlen room hF hb
end DL
namespace DL
open PySem PySem.Spec PyProof.Rows L2 Evl
/-! the key of a sort, worked out beside all else -/
def ItemAt (h : Heap) (u : Value) (i : Nat) (x : Value) : Prop := ∃ (l : Addr) (items : Array Value), u = .ref l ∧ (h.IsList l items ∨ IsTup h l items) ∧ items[i]? = some x ∧ (i : Int) < 2 ^ 63
theorem ItemAt.keeps {h h' : Heap} {u x : Value} {i : Nat} (k : ∀ b o, h.get? b = some o → h'.get? b = some o) (q : ItemAt h u i x) : ItemAt h' u i x := by
  obtain ⟨l, items, e, q, r⟩ := q
  refine ⟨l, items, e, ?_, r⟩
  rcases q with ⟨o, q1, q2⟩ | ⟨o, q1, q2⟩
  · exact .inl ⟨o, k _ _ q1, q2⟩
  · exact .inr ⟨o, k _ _ q1, q2⟩
section
variable {prog : Program} {w : World} {A : Around} {E : Value → Shared → Prop} {s : Shared}
theorem item_any {value slice : Expr} {u x : Value} {i : Nat} {t : Tok} {Q : Value → Shared → Prop} (q : ItemAt s.heap u i x) (h : Q x s)
    (hs : ∀ (l : Addr) (k : Int) (t : Tok), subscripted slice false (.ref l) (.int k t) = operate [.ref l, .int k t] (getItem (.ref l) (.int k t)) := by intros; with_unfolding_all rfl) :
    wpAny (model prog w) A (subscriptTail value slice u (.int (i : Int) t)) Q E s := by
  obtain ⟨l, items, rfl, q, hx, hi⟩ := q
  have hlt : i < items.size := (Array.getElem?_eq_some_iff.mp hx).1
  rcases q with q | q
  · exact item_listR q (by omega) hi (by simpa using hx) h (hs _ _ _)
  · exact subscriptTail_builtinR (x := x) q.typeIs slot_tuple_getitem.lookup
      (getItem_tuple (j := i) (Q := fun r s' => r = x ∧ Q r s') q (by omega) hi (by rw [seqIndex_of (by omega) (by omega)]; simp) hx ⟨rfl, h⟩) (hs _ _ _)
abbrev keyBody (p1 p2 p3 p4 p5 p6 p7 : Pos) (k x1 : Nat) : Expr :=
  .Tuple [.Subscript (.Subscript (.Name "stays" p1) (.Name "guest" p2) p3) (.Constant (.int 0) k p4) p5, .Name "guest" p6] x1 p7
theorem key_call {f c' c : Addr} {qual : Str} {params : Arguments} {scope : Scope} {cl : List (Str × Addr)} {pm ctv u r : Value} {g : Nat} {a : Int} {tg ta : Tok} {p1 p2 p3 p4 p5 p6 p7 : Pos} {k x1 : Nat}
    (ho : s.heap.get? f = some (PySem.W.kla_obj "<lambda>" qual params (keyBody p1 p2 p3 p4 p5 p6 p7 k x1) scope cl pm c' ctv)) (hcd : s.heap.CodeRec (.ref c') qual) (hroom : A.depth < recursionLimit) (nl : s.heap.NoLimit)
    (hbind : bindArgs (PySem.W.kla_fn "<lambda>" qual params (keyBody p1 p2 p3 p4 p5 p6 p7 k x1) scope cl pm (.ref c') ctv) ⟨[.int (g : Int) tg], []⟩ = pure [(("guest" : Str), Value.int (g : Int) tg)])
    (hk : scope.kind = .function) (hco : scope.isCoroutine = false) (hgen : scope.isGenerator = false) (hcell : ∀ y ∈ scope.names, y.2 ≠ .cell) (hg : scope.names.lookup ("guest" : Str) = some .local) (hs : scope.names.lookup ("stays" : Str) = some .free)
    (hc : cl.lookup ("stays" : Str) = some c) (hcv : s.heap.IsCell c (some u)) (row : ItemAt s.heap u g r) (arr : ItemAt s.heap r 0 (.int a ta)) :
    wpAny (model prog w) A (call (.ref f) [.int (g : Int) tg]) (PySem.W.KeyPure (.tuple [.int a, .int (g : Int)]) s) (fun _ _ => False) s := by
  refine wpAny_call (PySem.W.kla_callFunE hroom ho rfl hco hgen rfl hcd ?_)
  rw [hbind]
  refine wpAny_pure (wpAny_newFunctionEnv hcell (fun y hy => ?_) (fun h₁ hns hsb => ⟨nl.fresh _ hsb, ?_⟩) hk)
  · have : y = (("guest" : Str), Value.int (g : Int) tg) := by simpa using hy
    subst this
    exact hg
  have kp : ∀ b o, s.heap.get? b = some o → h₁.get? b = some o := fun b o e => hsb.extBut b o (Nat.ne_of_lt (Heap.lt_size e)) (Heap.get?_push_of_some _ e)
  show codeAny _ _ (.expr (keyBody p1 p2 p3 p4 p5 p6 p7 k x1) (PySem.W.envX qual scope s.heap.objs.size f (.ref c') cl)) _ _
  refine PySem.W.kla_codeExpr ?_
  have loadS : ∀ {A' : Around} {tk : Nat} {p : Pos} {Q : Value → Shared → Prop} {E' : Value → Shared → Prop}, Q u { s with heap := h₁, toks := tk } → wpAny (model prog w) A' (eval (.Name "stays" p) (PySem.W.envX qual scope s.heap.objs.size f (.ref c') cl)) Q E' { s with heap := h₁, toks := tk } := fun {A' tk p Q E'} q =>
    wpAny_Name (wpAny_loadName_free hk hs hc (by obtain ⟨o, z1, z2⟩ := hcv; exact ⟨o, kp _ _ z1, z2⟩) q (by decide)) (by decide)
  have loadG : ∀ {A' : Around} {tk : Nat} {p : Pos} {Q : Value → Shared → Prop} {E' : Value → Shared → Prop}, Q (.int (g : Int) tg) { s with heap := h₁, toks := tk } → wpAny (model prog w) A' (eval (.Name "guest" p) (PySem.W.envX qual scope s.heap.objs.size f (.ref c') cl)) Q E' { s with heap := h₁, toks := tk } := fun {A' tk p Q E'} q =>
    wpAny_Name (wpAny_loadName_local hk hg hns (by rfl) q) (by decide)
  refine wpAny_Tuple_spliced ?_
  have ns1 : starEach [.Subscript (.Subscript (.Name "stays" p1) (.Name "guest" p2) p3) (.Constant (.int 0) k p4) p5, .Name "guest" p6] (PySem.W.envX qual scope s.heap.objs.size f (.ref c') cl) = (false, eval (.Subscript (.Subscript (.Name "stays" p1) (.Name "guest" p2) p3) (.Constant (.int 0) k p4) p5) (PySem.W.envX qual scope s.heap.objs.size f (.ref c') cl)) :: (false, eval (.Name "guest" p6) (PySem.W.envX qual scope s.heap.objs.size f (.ref c') cl)) :: [] := rfl
  rw [ns1]
  refine Calls.spliced_cons (Subscript_ (Subscript_ (loadS (loadG ?_))))
  refine item_any (row.keeps kp) ?_
  refine wpAny_Constant_int ?_
  refine item_any (i := 0) (arr.keeps kp) ?_
  refine Calls.spliced_cons (loadG ?_)
  refine Calls.spliced_nil ⟨show 2 ≤ sizeLine from by decide, ?_⟩
  refine ⟨_, _, rfl, fun b o e => Heap.get?_push_of_some _ (kp b o e), ?_⟩
  refine .tuple (o := { cls := .type "tuple", data := .seq [Value.int a ta, Value.int (g : Int) tg].toArray }) (Heap.get?_push_size _ rfl) rfl rfl ?_
  exact .cons (as := []) (bs := []) (.int _ _) (.cons (as := []) (bs := []) (.int _ _) .nil)
end
end DL
namespace DL
open PySem PySem.Spec PyProof.Rows L2 Evl
section
variable {prog : Program} {w : World} {A : Around} {E : Value → Shared → Prop} {s : Shared}
theorem eachIs_items : ∀ (vs : List Value) (m : Nat), (∀ (j : Nat) (v : Value), vs[j]? = some v → ∃ t, v = .int ((m + j : Nat) : Int) t) → PySem.W.EachIs (fun v (i : Nat) => ∃ t, v = Value.int (i : Int) t) vs (List.range' m vs.length)
  | [], _, _ => .nil
  | v :: vs, m, h => by
    refine .cons (by simpa using h 0 v rfl) (eachIs_items vs (m + 1) fun j u hj => ?_)
    have := h (j + 1) u (by simpa using hj)
    rw [show m + 1 + j = m + (j + 1) by omega]
    exact this
/-- sorted(range(n), key=f) -/
theorem sorted_range_key {r : Addr} {n : Nat} {t u v : Tok} {f : Addr} {Q : Value → Shared → Prop} (k : Nat → PyData) (hh : A.handled = none) (hr : IsRange s.heap r 0 (n : Int) 1 t u v) (hn : n ≤ 10000) (hal : PySem.W.AllAlike ((List.range n).map k)) (hk : PySem.W.Sortable ((List.range n).map k))
    (hu : ∀ i, i < n → A.units + 2 + (k i).depth < cLine)
    (turn : ∀ (i : Nat) (tk0 : Tok), i < n → ∀ (h : Heap) (tk : Nat), (∀ b o, s.heap.get? b = some o → h.get? b = some o) →
      wpAny (model prog w) A.in1.in1 (call (.ref f) [.int (i : Int) tk0]) (PySem.W.KeyPure (k i) { s with heap := h, toks := tk }) (fun _ _ => False) { s with heap := h, toks := tk })
    (h : ∀ D out c h' tk, (∀ b o, s.heap.get? b = some o → h'.get? b = some o) → s.heap.get? D = none → h'.get? D = some (seqObj "list" (List.toArray out) c) → PySem.W.EachIs (fun v (i : Nat) => ∃ t, v = Value.int (i : Int) t) out ((List.range n).mergeSort (PySem.W.dataLe false k)) →
      Q (.ref D) { s with heap := h', toks := tk }) :
    wpAny (model prog w) A (call (.builtin "sorted") [.ref r] [(Str.ofString "key", .ref f)]) Q E s := by
  refine call_function_entry_kw kind_sorted plain_sorted entry_sorted (ksk_s1 _ _) ?_
  unfold Builtin.«sorted»
  refine wpAny_bind (m := checkCount "sorted" 1 1 _) (wpAny_pure ?_)
  have hsz : Builtin.Range.rangeSize 0 (n : Int) 1 = (n : Int) := by rw [rangeSize_one]; split <;> omega
  have sl := sizeLine_eq
  refine wpAny_bind (collect_range (A := A.in1) hh hr ?small hsz (by omega) fun h1 tk1 acc kp1 hacc => ?_)
  case small => exact small_one (by decide) (by decide) (by omega) (by omega)
  have lenA : acc.toList.length = n := by rw [Array.length_toList]; exact hacc.1
  have e0 : PySem.W.EachIs (fun v (i : Nat) => ∃ t, v = Value.int (i : Int) t) acc.toList (List.range n) := by
    have := eachIs_items acc.toList 0 fun j v hj => by
      obtain ⟨t, e⟩ := hacc.2 j v (by simpa using hj)
      exact ⟨t, by rw [e]; simp⟩
    rw [lenA] at this
    rw [List.range_eq_range']
    exact this
  refine wpAny_bind (wpAny_newList ?_ (by rw [lenA]; omega))
  have obj : (h1.push { cls := .type "list", data := .seq acc.toList.toArray }).get? h1.objs.size = some (seqObj "list" acc.toList.toArray 0) := Heap.get?_push_size _ rfl
  have up : ∀ {g : Heap}, PySem.W.KeepsBut h1.objs.size (h1.push { cls := .type "list", data := .seq acc.toList.toArray }) g → ∀ b o, s.heap.get? b = some o → g.get? b = some o := fun {g} kp b o q =>
    kp b o (Nat.ne_of_lt (Heap.lt_size (kp1 b o q))) (Heap.get?_push_of_some _ (kp1 b o q))
  have fresh : s.heap.get? h1.objs.size = none := by
    cases c : s.heap.get? h1.objs.size with
    | none => rfl
    | some o => exact absurd (Heap.lt_size (kp1 _ _ c)) (Nat.lt_irrefl _)
  refine wpAny_bind (wpAny_holding (wpAny_call_entry_kw slot_list_sort ⟨_, obj, rfl⟩ entry_list_sort ?body (ksk_l1 _ _)))
  case body =>
    rw [ksk_t1]
    refine PySem.W.keyH_tree (kz := (List.range n).map k) (s := { s with heap := h1.push { cls := .type "list", data := .seq acc.toList.toArray }, toks := tk1 }) obj (by rw [List.length_map, List.length_range, lenA]) (by rw [lenA]; omega) hal hk
      (fun d hd => ?_) ?_ fun h' tk out c kp hD ko => ⟨.none, rfl, ?_⟩
    · obtain ⟨i, hi, rfl⟩ := List.mem_map.mp hd
      exact hu i (List.mem_range.mp hi)
    · refine PySem.W.keyH_turns (s := { s with heap := h1.push { cls := .type "list", data := .seq acc.toList.toArray }, toks := tk1 }) e0 fun v i hR hi h tk kp => ?_
      obtain ⟨t0, rfl⟩ := hR
      exact turn i t0 (List.mem_range.mp hi) h tk (up kp)
    · exact wpAny_pure ⟨_, rfl, h _ out c h' tk (up kp) fresh hD (PySem.W.keyedOut_each k ko e0)⟩
end
end DL
namespace DL
open PySem PySem.Spec PyProof.Rows L2 Evl
section
variable {X : Cx} {pins : List (Addr × Obj)} {σ : L2.St} {H : Hp} {s : Shared}
/-- a lambda is made: what is tracked but the table stays -/
theorem lam_new {c P : Addr} {q : Str} {params : Arguments} {body : Expr} {scope : Scope} {pos : Pos} {E Q : Value → Shared → Prop} (I : Inv X pins σ H s) (TB : LamX.TabB X.base X.mg c P) (hcode : X.env.code = .ref c)
    (hq : X.env.qual ++ "<lambda>" = q) (hT : LamX.TabS H P q) (hdef : defaultsOf params X.env = ([], [])) (hfree : ∀ y ∈ scope.names, y.2 = .free → ∃ c, X.env.cells.lookup y.1 = some c)
    (h : ∀ (f c' : Addr) (pm ctv : Value) (H1 : Hp) (s' : Shared), Inv X pins σ H1 s' → (∀ b, b ≠ P → H b ≠ none → H1 b = H b) → LamX.TabS H1 P q → (∀ b o, b ≠ P → s.heap.get? b = some o → s'.heap.get? b = some o) →
      s'.heap.get? f = some (PySem.W.kla_obj "<lambda>" q params body scope (cloFrom X.env.cells scope.names []) pm c' ctv) → s'.heap.CodeRec (.ref c') q → Q (.ref f) s') :
    wpAny (model X.prog X.w) X.A (eval (.Lambda params body scope pos) X.env) Q E s := by
  subst hq
  obtain ⟨ps, hP, tri, known⟩ := hT
  have bi : s.heap.BuiltinsAt X.mg P := TB.bm.keeps I.bk
  have obP : s.heap.get? P = some { cls := .none, data := .fields ps } := I.hok P _ hP
  refine PySem.W.kla_eval hdef ?_
  cases hc : codeAmong pos ps.toList with
  | some cv =>
    obtain ⟨c', e, hco⟩ := known pos cv hc
    subst e
    refine PySem.W.kla_makeFunctionHit (mg := X.mg) (c := c) (P := P) (ps := ps) (closure_ok hfree) I.ok.glob (I.mod.glob.keeps I.bk) hcode (TB.code.keeps I.bk) obP tri hc bi fun ctv h' tk hx hsz => ?_
    obtain ⟨⟨oc, vs, t, hoc, hd, hv⟩, _⟩ := I.hok c' _ hco
    refine h h'.objs.size c' ((X.mg "__name__").getD .none) ctv H _ (I.kept fun b o e => Heap.get?_push_of_some _ (hx b o e)) (fun _ _ _ => rfl) ⟨ps, hP, tri, known⟩ (fun b o _ e => Heap.get?_push_of_some _ (hx b o e)) (Heap.get?_push_size _ rfl) ?_
    exact ⟨c', oc, vs, t, rfl, Heap.get?_push_of_some _ (hx _ _ hoc), hd, hv⟩
  | none =>
    refine PySem.W.kla_makeFunction (mg := X.mg) (c := c) (P := P) (ps := ps) (closure_ok hfree) I.ok.glob (I.mod.glob.keeps I.bk) hcode (TB.code.keeps I.bk) obP tri hc TB.gP bi fun c' ctv h' tk hx hge hlt hrec htb => ?_
    obtain ⟨c2, oc, vs, t, e2, hoc, hd, hv⟩ := hrec
    cases e2
    have freeC : H c' = none := I.hok.fresh hge
    have I1 := LamX.inv_table (t' := tk) (more := #[rawInt pos.line, rawInt pos.col, .ref c']) (h' := h'.push (PySem.W.kla_obj "<lambda>" (X.env.qual ++ "<lambda>") params body scope (cloFrom X.env.cells scope.names []) ((X.mg "__name__").getD .none) c' ctv)) I hP
      (fun b o hb e => Heap.get?_push_of_some _ (hx b o hb e)) (Heap.get?_push_of_some _ htb) hge ⟨oc, vs, t, Heap.get?_push_of_some _ hoc, hd, hv⟩
    have same : ∀ b, b ≠ P → H b ≠ none → upd (upd H P (.tbl (ps ++ #[rawInt pos.line, rawInt pos.col, .ref c']))) c' (LamX.CodeO c' (X.env.qual ++ "<lambda>")) b = H b := fun b hb hn => by
      rw [upd_ne (fun z => hn (by rw [z]; exact freeC)), upd_ne hb]
    have eL : (ps ++ #[rawInt pos.line, rawInt pos.col, .ref c']).toList = ps.toList ++ [rawInt pos.line, rawInt pos.col, .ref c'] := by simp
    refine h h'.objs.size c' ((X.mg "__name__").getD .none) ctv _ _ I1 same ⟨_, ?_, by rw [eL]; exact PySem.TriplesOk_snoc _ _ _ _ tri, fun p' cv hcv => ?_⟩ (fun b o hb e => Heap.get?_push_of_some _ (hx b o hb e)) (Heap.get?_push_size _ rfl) ⟨c', oc, vs, t, rfl, Heap.get?_push_of_some _ hoc, hd, hv⟩
    · rw [upd_ne (ne_of_none hP freeC), upd_same]
    · rw [eL] at hcv
      rcases LamX.among_app _ tri hcv with z | z
      · obtain ⟨c0, e1, e2⟩ := known p' cv z
        refine ⟨c0, e1, (same c0 (fun w => ?_) (by rw [e2]; exact fun w => nomatch w)).trans e2⟩
        rw [w, hP] at e2
        exact LamX.codeO_ne ps (Option.some.inj e2).symm
      · exact ⟨c', z, upd_same⟩
/-- the numbers 0 to n - 1 as the keys order them -/
def orderBy (n : Nat) (ar : Nat → Int) : List Nat := (List.range n).mergeSort (PySem.W.dataLe false fun g => PyData.tuple [.int (ar g), .int (g : Int)])
/-- sorted(range(len(stays)), key=lambda guest: (stays[guest][0], guest)), stays at slot i -/
def tOrder (K : PySem.W.Frag) (P : Addr) (q : Str) (i : Nat) : TE := fun σ H Q => ∃ (a : Addr) (n : Nat) (ar : Nat → Int), σ[i]? = some (some (.ref a)) ∧ n ≤ 10000 ∧ LamX.TabS H P q ∧
  (∃ xs : List V, (SqL K H a xs ∨ SqT K H a xs) ∧ xs.length = n ∧ ∀ g, g < n → ∃ r ys, xs[g]? = some (.ref r) ∧ (SqL K H r ys ∨ SqT K H r ys) ∧ ys[0]? = some (.int (ar g))) ∧
  ∀ H1 D, (∀ b, b ≠ P → H b ≠ none → H1 b = H b) → LamX.TabS H1 P q → H1 D = none → H D = none → Q (.ref D) (upd H1 D (.lst ((orderBy n ar).map fun (g : Nat) => V.int (g : Int))))
theorem item_of {a : Addr} {xs : List V} {v : V} {g : Nat} (I : Inv X pins σ H s) (h : SqL X.K H a xs ∨ SqT X.K H a xs) (hg : xs[g]? = some v) : ∃ u, RelV v u ∧ ItemAt s.heap (.ref a) g u := by
  have sl := sizeLine_eq
  have lt : g < xs.length := (List.getElem?_eq_some_iff.mp hg).1
  rcases h with h | h
  · obtain ⟨its, r, pl, hz⟩ := I.list h
    obtain ⟨w, ew, rw'⟩ := r.get hg
    exact ⟨w, rw', a, its.toArray, rfl, .inl pl.isList, by simpa using ew, by omega⟩
  · obtain ⟨its, r, pl, hz⟩ := I.tuple h
    obtain ⟨w, ew, rw'⟩ := r.get hg
    exact ⟨w, rw', a, its.toArray, rfl, .inr pl, by simpa using ew, by omega⟩
theorem ItemAt.but {h h' : Heap} {u x : Value} {i : Nat} {P : Addr} {ps : Array Value} (hP : h.get? P = some { cls := .none, data := .fields ps }) (k : ∀ b o, b ≠ P → h.get? b = some o → h'.get? b = some o) (q : ItemAt h u i x) : ItemAt h' u i x := by
  obtain ⟨l, items, e, q, r⟩ := q
  refine ⟨l, items, e, ?_, r⟩
  rcases q with ⟨o, q1, q2, q3⟩ | ⟨o, q1, q2, q3⟩
  · exact .inl ⟨o, k _ _ (fun z => by rw [z, hP] at q1; cases q1; cases q2) q1, q2, q3⟩
  · exact .inr ⟨o, k _ _ (fun z => by rw [z, hP] at q1; cases q1; cases q2) q1, q2, q3⟩
theorem ints_each : ∀ {out : List Value} {gs : List Nat}, PySem.W.EachIs (fun v (i : Nat) => ∃ t, v = Value.int (i : Int) t) out gs → Vals (gs.map fun (g : Nat) => V.int (g : Int)) out
  | _, _, .nil => .nil
  | _, _, .cons h t => .cons h (ints_each t)
theorem pe_order {k : Nat} {c P : Addr} {q : Str} {i : Nat} {params : Arguments} {scope : Scope} {p1 p2 p3 p4 p5 p6 p7 p8 lpos kpos pos : Pos} {k1 x1 : Nat} {e : Expr} (hroom : Room k X.A) (TB : LamX.TabB X.base X.mg c P) (hcode : X.env.code = .ref c) (hq : X.env.qual ++ "<lambda>" = q)
    (hdef : defaultsOf params X.env = ([], [])) (hfree : ∀ y ∈ scope.names, y.2 = .free → X.env.scope.names.lookup y.1 = some .cell ∨ X.env.scope.names.lookup y.1 = some .free) (hN : X.N[i]? = some ("stays" : Str))
    (hgs : Gl X "sorted") (hms : X.mg "sorted" = none) (hrg : PRg X e (tRg1 (tCB (rLen X.K) (tCons (tVar i) tNil))))
    (hk : scope.kind = .function) (hco : scope.isCoroutine = false) (hgen : scope.isGenerator = false) (hcell : ∀ y ∈ scope.names, y.2 ≠ .cell) (hg : scope.names.lookup ("guest" : Str) = some .local) (hs : (("stays" : Str), NameKind.free) ∈ scope.names) (hs2 : scope.names.lookup ("stays" : Str) = some .free)
    (hbind : ∀ (c' : Addr) (pm ctv : Value) (g : Int) (tg : Tok), bindArgs (PySem.W.kla_fn "<lambda>" q params (keyBody p1 p2 p3 p4 p5 p6 p7 k1 x1) scope (cloFrom X.env.cells scope.names []) pm (.ref c') ctv) ⟨[.int g tg], []⟩ = pure [(("guest" : Str), Value.int g tg)])
    (he : backTo pos (starEach [e] X.env) = (false, eval e X.env) :: backTo pos (starEach [] X.env) := by rfl) (hpl : (backTo pos (starEach [e] X.env)).any (·.1) = false := by rfl) :
    PE X (.Call (.Name "sorted" p8) [e] [⟨some "key", .Lambda params (keyBody p1 p2 p3 p4 p5 p6 p7 k1 x1) scope lpos, kpos⟩] pos) (tOrder X.K P q i) := by
  refine ⟨fun pins s σ H Q I h => ?_⟩
  obtain ⟨a, n, ar, hσ, hn, hT, ⟨xs, hxs, hxl, hrow⟩, fin⟩ := h
  have sl := sizeLine_eq
  obtain ⟨ps0, hP0, _⟩ := id hT
  have eqH : True := trivial
  refine wpAny_Call_Name_kw (ld_blt I hgs hms boot_sorted ?_)
  refine PyProof.Rows.callWith_kw ?_ he hpl (by rfl) (by rfl)
  rw [he]
  refine Calls.spliced_cons (thn (hrg pins s σ H (fun lo hi H' => lo = 0 ∧ hi = (n : Int) ∧ H' = H) I ⟨_, hσ, _, xs, rfl, hxs, _, rfl, rfl, by rw [hxl], rfl⟩) fun x s1 ⟨r, lo, hi, t, u, v, H', ex, hR, I1, elo, ehi, eH⟩ => ?_)
  subst ex elo ehi
  rw [eH] at I1
  refine Calls.spliced_nil ?_
  have obP : s1.heap.get? P = some { cls := .none, data := .fields ps0 } := I1.hok P _ hP0
  show wpAny _ _ (evalAll [(do let v ← eval (.Lambda params (keyBody p1 p2 p3 p4 p5 p6 p7 k1 x1) scope lpos) X.env; standAt pos; pure v)]) _ _ s1
  have hfree' : ∀ y ∈ scope.names, y.2 = .free → ∃ c, X.env.cells.lookup y.1 = some c := fun y hy e => (hfree y hy e).elim (fun z => I.ok.has _ (.inl z)) fun z => I.ok.has _ (.inr z)
  refine wpAny_evalAll_cons (wpAny_bind (lam_new I1 TB hcode hq hT hdef hfree' fun f c' pm ctv H1 s' I2 same T2 kept hf hcd => wpAny_bind (wpAny_standAt (wpAny_pure (wpAny_evalAll_nil ?_)))))
  -- the key of each guest
  obtain ⟨cst, hc1, hc2⟩ := (NdefX.cells_of I2 (NdefX.Caps.made (fr := [("stays" : Str)]) (js := [i]) I.ok hfree (fun y hy => by
    have : y = ("stays" : Str) := by simpa using hy
    subst this
    exact hs) (by simp [hN]))).has 0 "stays" rfl
  obtain ⟨w0, hw0, hcv⟩ := hc2 (.ref a) (by simp [NdefX.slotAt_of hσ])
  obtain rfl : w0 = Value.ref a := hw0
  have rangeS : IsRange s'.heap r 0 (n : Int) 1 t u v := kept r _ (fun z => by
    have hR' : s1.heap.get? r = _ := hR
    rw [z, obP] at hR'
    cases hR') hR
  have rows : ∀ g, g < n → ∃ (ru : Value) (ta : Tok), ItemAt s'.heap (.ref a) g ru ∧ ItemAt s'.heap ru 0 (.int (ar g) ta) := fun g hgn => by
    obtain ⟨r0, ys, e1, e2, e3⟩ := hrow g hgn
    obtain ⟨u1, q1, q2⟩ := item_of I1 hxs e1
    obtain rfl : u1 = Value.ref r0 := q1
    obtain ⟨u2, q3, q4⟩ := item_of I1 e2 e3
    obtain ⟨ta, rfl⟩ := q3
    exact ⟨_, ta, q2.but obP kept, q4.but obP kept⟩
  refine sorted_range_key (fun g => PyData.tuple [.int (ar g), .int (g : Int)]) hroom.hd rangeS hn (PySem.W.AllAlike.of fun _ _ => by simp [PySem.W.alike, PySem.W.alikeAll]) (PySem.W.Sortable.tuples fun _ => ⟨_, _, rfl⟩) (fun g _ => ?_) (fun g tk0 hgn h tk kp => ?_) fun D out cc h' tk kp hD hobj each => ?_
  · have := hroom.un
    have d : (PyData.tuple [.int (ar g), .int (g : Int)]).depth = 1 := by simp [PyData.depth, PyData.depthAll]
    rw [d]; omega
  · obtain ⟨ru, ta, q1, q2⟩ := rows g hgn
    refine key_call (s := { s' with heap := h, toks := tk }) (kp _ _ hf) (hcd.keeps kp) (by have := hroom.dp; show X.A.depth < _; omega) (I2.nolimit.keeps kp) (hbind _ _ _ _ _) hk hco hgen hcell hg hs2 hc1 (by obtain ⟨o, z1, z2⟩ := hcv; exact ⟨o, kp _ _ z1, z2⟩) (q1.keeps kp) (q2.keeps kp)
  · have hDn : H1 D = none := by
      cases z : H1 D with
      | none => rfl
      | some o =>
        obtain ⟨o2, ho2⟩ := objOk_get (I2.hok D o z)
        rw [hD] at ho2; cases ho2
    have hDH : H D = none := by
      cases z : H D with
      | none => rfl
      | some o =>
        by_cases c0 : D = P
        · obtain ⟨ps1, w1, _⟩ := T2
          rw [c0, w1] at hDn; cases hDn
        · rw [same D c0 (by rw [z]; exact fun w => nomatch w), z] at hDn
          cases hDn
    refine ⟨.ref D, upd H1 D (.lst ((orderBy n ar).map fun (g : Nat) => V.int (g : Int))), I2.laidN (t' := tk) kp hD hDn ?_, rfl, fin H1 D same T2 hDn hDH⟩
    have le : (orderBy n ar).length = n := by unfold orderBy; rw [List.length_mergeSort, List.length_range]
    exact ⟨by rw [List.length_map, le]; omega, out, cc, ints_each each, hobj⟩
end
end DL
namespace DL
open PySem PySem.Spec PyProof.Rows L2 Evl
section
variable {A : Amb} {ρ : Rho} {n : Nat}
theorem seqD {K : PySem.W.Frag} {S H : Hp} {v : V} {d : D} {ds : List D} (ex : Ex S H) (r : Rep K S v d) (h : d = .lst ds ∨ d = .tup ds) : ∃ a vs, v = .ref a ∧ (SqL K H a vs ∨ SqT K H a vs) ∧ Reps K S vs ds := by
  rcases h with rfl | rfl
  · obtain ⟨a, vs, e, h1, h2⟩ := r.lst_inv
    exact ⟨a, vs, e, .inl (.inl (.inl (ex _ _ h1))), h2⟩
  · obtain ⟨a, vs, e, h1, h2⟩ := r.tup_inv
    exact ⟨a, vs, e, .inr (.inl (.inl (ex _ _ h1))), h2⟩
/-- the rows' numbers order the guests -/
theorem df_order {P : Addr} {q : Str} {i : Nat} {d : D} {ds : List D} {ar : Nat → Int} {Pp : List D → Nat → Prop} (ht : tabsOf A.K = [(P, q)]) (hi : ρ[i]? = some (.val d)) (hd : d = .lst ds ∨ d = .tup ds) (hz : ds.length ≤ 10000)
    (hrow : ∀ g, g < ds.length → ∃ r ys, ds[g]? = some r ∧ (r = .lst ys ∨ r = .tup ys) ∧ ys[0]? = some (.int (ar g))) (p : Pp (((orderBy ds.length ar).map fun (g : Nat) => (g : Int)).map D.int) n) :
    DF A (tOrder A.K P q i) ρ n Pp := fun S H σ e Q k => by
  obtain ⟨v, h1, h2⟩ := e.val hi
  obtain ⟨a, vs, rfl, sq, rs⟩ := seqD e.f.sub h2 hd
  have inT : (P, q) ∈ tabsOf A.K := by rw [ht]; exact List.mem_singleton_self _
  have tP : LamX.TabS H P q := e.f.tab.1 _ inT
  have sP : S P = none := e.f.tab.2 _ inT
  obtain ⟨ps, hP, _⟩ := id tP
  refine ⟨a, ds.length, ar, h1, hz, tP, ⟨vs, sq, rs.length.symm ▸ rfl, fun g hg => ?_⟩, fun H1 D same T1 hD1 hD => ?_⟩
  · obtain ⟨r, ys, e1, e2, e3⟩ := hrow g hg
    obtain ⟨v, g1, g2⟩ := rs.get e1
    obtain ⟨a2, vs2, rfl, sq2, rs2⟩ := seqD e.f.sub g2 e2
    obtain ⟨w, w1, w2⟩ := rs2.get e3
    cases w2.int_inv
    exact ⟨a2, vs2, g1, sq2, w1⟩
  · obtain ⟨ps1, hP1, _⟩ := id T1
    have nDP : P ≠ D := fun z => by rw [z, hD1] at hP1; cases hP1
    have keep : ∀ b u, H b = some u → b ≠ P → upd H1 D (.lst ((orderBy ds.length ar).map fun (g : Nat) => V.int (g : Int))) b = some u := fun b u hb hn => by
      rw [upd_ne (ne_of_none hb hD), same b hn (by rw [hb]; exact fun z => nomatch z)]; exact hb
    have atP : upd H1 D (.lst ((orderBy ds.length ar).map fun (g : Nat) => V.int (g : Int))) P = some (.tbl ps1) := by rw [upd_ne nDP]; exact hP1
    have sub : Ex S (upd H1 D (.lst ((orderBy ds.length ar).map fun (g : Nat) => V.int (g : Int)))) := fun b u hb => keep b u (e.f.sub b u hb) (ne_of_none hb sP)
    have mv : Mv A.b S H S (upd H1 D (.lst ((orderBy ds.length ar).map fun (g : Nat) => V.int (g : Int)))) := ⟨Ex.refl S, fun b o _ hb nt => keep b o hb (fun z => by rw [z, hP] at hb; exact nt ps (Option.some.inj hb).symm),
      fun b qs hb => by
        by_cases c : b = P
        · exact ⟨ps1, by rw [c]; exact atP⟩
        · exact ⟨qs, keep b _ hb c⟩, fun _ _ h => h⟩
    have sD : S D = none := e.f.s0 hD
    refine k D _ _ S _ n mv ⟨sub, e.f.mv.trans e.f.bt mv, fun b hb => ?_, ⟨fun q' hq => ?_, e.f.tab.2⟩⟩ hD upd_same sD (by
      have := Reps.of_ints (K := A.K) (S := S) (ns := (orderBy ds.length ar).map fun (g : Nat) => (g : Int))
      rw [List.map_map] at this
      exact this) p
    · obtain ⟨⟨x, y, z, b1, b2⟩, b3, b4⟩ := e.f.box b hb
      exact ⟨⟨x, y, z, keep b _ b1 (fun w => by rw [w, hP] at b1; cases b1), b2⟩, b3, b4⟩
    · rw [ht] at hq
      obtain rfl : q' = (P, q) := by simpa using hq
      exact T1.ext fun b u hb => by rw [upd_ne (ne_of_none hb hD1)]; exact hb
end
section
variable {P : Program} {w : World} {K : PySem.W.Frag} {mg : Str → Option Value} {base : Heap}
/-- a def by its body, its code object told -/
theorem FnG.ofC {x qual : Str} {st : Stmt} {f : Addr} {fd : FuncData} {N ps : List Str} {k : Nat} {sp : Sp} (F : Fun K x qual st f fd) (S : FnScope N ps (defScope st)) (ar : ∀ vs H Q E, sp vs H Q E → vs.length = ps.length)
    (body : ∀ (cdv : Value) (_ : fd.code = cdv) (A : Around) (outer : List Env) (s : Shared) (H : Hp) (vs : List V) (Q : VK) (E : XK), A.guards = some [] → Room k (A.deeper (envOfC qual (defScope st) s.heap.objs.size f cdv)) → sp vs H Q E →
      ∃ t, PSs (cxOf (L2.CX P w) P w K mg base N qual (defScope st) f cdv A outer s H E) (defBody st) t ∧ t { nx := fun _ H' => Q .non H', rt := Q } (start N vs) H) : FnG P w K mg base (k + 1) f fd ps sp := by
  obtain ⟨oc, od, kV, doc, pm, an, cd0, ct, osl, efd, lk, hcd0⟩ := F.ex
  subst efd
  refine ⟨ar, fun A hg hr outer s H e0 args us vs hb r Q E hsp => ?_⟩
  have KX : K.In s.heap := e0.mod.kin.keeps fun b o e => (e0.bs b o e).1
  have lim : s.heap.NoLimit := e0.mod.nolimit.keeps fun b o e => (e0.bs b o e).1
  have hl := ar _ _ _ _ hsp
  have kinds : ∀ y ∈ ps.zip us, (defScope st).names.lookup y.1 = some .local ∨ ((defScope st).names.lookup y.1 = some .cell ∧ ((cellsFrom (s.heap.objs.size + 1) (defScope st).names []).lookup y.1).isSome = true) := by
    rintro ⟨n, v⟩ hy
    rcases S.par n (List.of_mem_zip hy).1 with q | q
    · exact Or.inl q
    · exact Or.inr ⟨q, PySem.W.cellsFrom_some _ _ _ (Or.inl q)⟩
  refine codeAny_call_function hr.depth (KX _ _ lk) rfl S.co S.gen rfl (PySem.W.codeRec_of KX hcd0) ?_
  refine hb _ _ _ _ ?_
  refine wpAny_newFunctionEnv_cells S.kind kinds ?_
  intro env he s1 x
  subst he
  refine ⟨lim.keeps x.toInCall.keep, codeAny_func ?_⟩
  obtain ⟨t, ht, hq⟩ := body cd0 rfl A outer s H vs Q E hg (hr.deeper _) hsp
  have I := inv_start (CX := L2.CX P w) (E := E) (base := base) (mg := mg) S hr.hd e0 hl r x
  refine wpAny_mono (ht.run [] s1 (start N vs) H _ I hq) ?_ (fun e s' hs => hs)
  intro fl s' hs
  cases fl with
  | ret u =>
    obtain ⟨v, σ', H', J, rv, q⟩ := hs
    exact ⟨v, H', J.os, J.bare, J.base, J.hok, rv, q⟩
  | next =>
    obtain ⟨σ', H', J, q⟩ := hs
    exact ⟨V.non, H', J.os, J.bare, J.base, J.hok, rfl, q⟩
  | brk => exact (hs.elim fun _ h => h.elim fun _ h => h.2).elim
  | cont => exact (hs.elim fun _ h => h.elim fun _ h => h.2).elim
end
end DL
namespace DL
open PySem PySem.Spec PyProof.Rows L2 Evl
section
variable {A : Amb} {ρ : Rho} {n k : Nat} {C : DCon} {tk : TA} {T : DEnds}
/-- try: x = f(k = ..) .. as e: c = e -/
theorem ds_tryCallK {f i j : Nat} {cs : List Value} {gV : List V → List V → List V} (gD : List D → List D → List D) (pg : Puts gV gD) (hi : i < ρ.length)
    (h : DA A tk ρ n fun es m => (gD [] es).length = k ∧ C none (gD [] es) 0 (fun d _ => T.nx (ρ.set f (.val d)) m) (fun c fs => PySem.W.exmAny A.K (.ref c) cs = some true ∧ T.nx (((ρ.set i .un).set j (.val (.exc c fs))).set i .un) m)) :
    DS A (fun D σ H => tAsg (tCallKS (spOf A.K k C) gV (WE (wTup A.K cs i (fun a cls d => tAsg (tVar i) (gName j)) D)) tNil tk) (gName f) D σ H) ρ n T := fun S H σ e Dn kk => by
  refine h S H σ e _ fun ws es S1 H1 n1 m1 f1 r1 ⟨hl, hc⟩ => ?_
  refine call_atN f1 (pg _ _ _ _ _ _ Reps.nil r1) hl hc (fun v d S' H' m f' rv p => ?_) fun c fs dd S' H' m f' hdd ⟨hm, p⟩ => ⟨hm, fun a ha => ?_⟩
  · exact kk.nx _ n1 S' H' _ (m1.ss.trans m.ss) ((e.mv (m1.trans f1.bt m) f').set rv) p
  · have e' := e.mv (m1.trans f1.bt m) f'
    have hs : (σ.set i (some (V.ref a)))[i]? = some (some (V.ref a)) := List.getElem?_set_self (by rw [e.len]; exact hi)
    refine ⟨V.ref a, hs, ha, ?_⟩
    have mn : Mv A.b S' H' (upd S' a (ExH c dd a)) (upd H' a (ExH c dd a)) := Mv.new f'.sub ha
    have e2 := (e'.mv mn (f'.new (o := ExH c dd a) ha)).setUn (i := i) (o := some (V.ref a))
    have rx : Rep A.K (upd S' a (ExH c dd a)) (.ref a) (.exc c fs) := Rep.exc upd_same (by rw [upd_ne (ne_of_none (f'.sub _ _ hdd) ha)]; exact hdd)
    exact kk.nx _ n1 _ _ _ ((m1.ss.trans m.ss).trans mn.ss) ((e2.set (i := j) rx).setUn (i := i) (o := none)) p
end
end DL
namespace DL
open PySem PySem.Spec PyProof.Rows L2 Evl
/-! a dict out of two lists -/
def putAll (acc kvs : List (Key × V)) : List (Key × V) := kvs.foldl (fun a kv => putK a kv.1 kv.2) acc
theorem kv_putAll : ∀ (kvs : List (Key × V)) (vs : List (Key × Value)) (acc : List (Key × V)) (accv : List (Key × Value)), KV acc accv → KV kvs vs → KV (putAll acc kvs) (PySem.merged accv vs)
  | _, _, _, _, a, .nil => a
  | _, _, acc, accv, a, .cons (l₁ := l1) (l₂ := l2) (a := kv) (b := u) h t => by
    obtain ⟨k, v⟩ := kv
    obtain ⟨k', u⟩ := u
    obtain ⟨e, r⟩ := h
    have e : k = k' := e
    subst e
    exact kv_putAll l1 l2 (putK acc k v) (stored accv k u) (KV.put a k r) t
theorem putAll_len : ∀ (kvs acc : List (Key × V)), (putAll acc kvs).length ≤ acc.length + kvs.length
  | [], acc => by simp [putAll]
  | kv :: kvs, acc => by
    have h1 := putAll_len kvs (putK acc kv.1 kv.2)
    have h2 := length_putK acc kv.1 kv.2
    show (putAll (putK acc kv.1 kv.2) kvs).length ≤ _
    rw [List.length_cons]
    omega
theorem putAll_val : ∀ (kvs acc : List (Key × V)) (k : Key), (∀ kv ∈ kvs, kv.1 ≠ k) → valV (putAll acc kvs) k = valV acc k
  | [], _, _, _ => rfl
  | kv :: kvs, acc, k, h => by
    show valV (putAll (putK acc kv.1 kv.2) kvs) k = _
    rw [putAll_val kvs _ k fun x hx => h x (List.mem_cons_of_mem _ hx), valV_put, if_neg (fun z => h kv List.mem_cons_self z.symm)]
/-- the dict's value for a key of keys all different -/
theorem putAll_at : ∀ (kvs acc : List (Key × V)), (kvs.map Prod.fst).Nodup → ∀ (i : Nat) (k : Key) (v : V), kvs[i]? = some (k, v) → valV (putAll acc kvs) k = some v
  | [], _, _, i, k, v, h => by simp at h
  | kv :: kvs, acc, nd, 0, k, v, h => by
    have e : kv = (k, v) := by simpa using h
    subst e
    have nd' := List.nodup_cons.mp (show (k :: kvs.map Prod.fst).Nodup from nd)
    show valV (putAll (putK acc k v) kvs) k = _
    rw [putAll_val kvs _ k fun x hx z => nd'.1 (by rw [← z]; exact List.mem_map.mpr ⟨x, hx, rfl⟩), valV_put, if_pos rfl]
  | kv :: kvs, acc, nd, i + 1, k, v, h => by
    have nd' := List.nodup_cons.mp (show (kv.1 :: kvs.map Prod.fst).Nodup from nd)
    exact putAll_at kvs _ nd'.2 i k v (by simpa using h)
def zipK (ks : List Int) (ys : List V) : List (Key × V) := (ks.map Sum.inl).zip ys
section
variable {X : Cx} {a b : Expr} {ta tb : TE}
/-- dict(zip(a, b)): lists of one length, the first of ints -/
def tDictZip (K : PySem.W.Frag) (ta tb : TE) : TE := fun σ H Q => ta σ H fun x H1 => tb σ H1 fun y H2 => ∃ (p q : Addr) (ks : List Int) (ys : List V), x = .ref p ∧ y = .ref q ∧ SqL K H2 p (ks.map V.int) ∧ SqL K H2 q ys ∧ ks.length = ys.length ∧
  ∀ d, H2 d = none → Q (.ref d) (upd H2 d (.dK (putAll [] (zipK ks ys))))
theorem vals_keys : ∀ {ks : List Int} {its : List Value}, Vals (ks.map V.int) its → ∀ (i : Nat) (k : Value), its[i]? = some k → ∃ n t, ks[i]? = some n ∧ k = .int n t
  | [], _, .nil, i, k, h => by simp at h
  | n :: ks, _, .cons (b := u) h t, 0, k, e => by
    obtain ⟨t, rfl⟩ := h
    have : k = Value.int n t := by simpa using e.symm
    exact ⟨n, t, rfl, this⟩
  | n :: ks, _, .cons h t, i + 1, k, e => by
    obtain ⟨m, t', h1, h2⟩ := vals_keys t i k (by simpa using e)
    exact ⟨m, t', by simpa using h1, h2⟩
theorem kv_zip : ∀ {ks : List Int} {ys : List V} {us : List Value}, Vals ys us → ks.length = ys.length → KV (zipK ks ys) ((ks.map (Sum.inl : Int → Key)).zip us)
  | [], _, _, .nil, _ => .nil
  | k :: ks, _, _, .cons h t, hl => .cons ⟨rfl, h⟩ (kv_zip t (by simpa using hl))
theorem pe_dictZip {p1 p2 pos1 pos2 : Pos} (hd : Gl X "dict") (hmd : X.mg "dict" = none) (hz : Gl X "zip") (hmz : X.mg "zip" = none) (hh : X.A.handled = none) (ha : PE X a ta) (hb : PE X b tb)
    (hs : starEach [a, b] X.env = (false, eval a X.env) :: starEach [b] X.env := by rfl) (hs2 : starEach [b] X.env = (false, eval b X.env) :: starEach [] X.env := by rfl) (hpl : (backTo pos1 (starEach [b] X.env)).any (·.1) = false := by rfl)
    (ho : starEach [.Call (.Name "zip" p1) [a, b] [] pos1] X.env = (false, eval (.Call (.Name "zip" p1) [a, b] [] pos1) X.env) :: starEach [] X.env := by rfl) :
    PE X (.Call (.Name "dict" p2) [.Call (.Name "zip" p1) [a, b] [] pos1] [] pos2) (tDictZip X.K ta tb) := by
  refine ⟨fun pins s σ H Q I h => ?_⟩
  refine Call_ (ld_blt I hd hmd PyProof.Rows.boot_dict (PyProof.Rows.callWith_type1 ?_ ho))
  rw [ho]
  refine Calls.spliced_cons (Call_ (ld_blt I hz hmz PyProof.Rows.boot_zip (PyProof.Rows.callWith_type1 ?_ hs hpl)))
  rw [hs]
  refine Calls.spliced_cons (thn (ha.run pins s σ H _ I h) fun u s0 ⟨x, H0, I0, r0, q0⟩ => ?_)
  rw [hs2]
  refine Calls.spliced_cons (thn (hb.run pins s0 σ H0 _ I0 q0) fun u2 s1 ⟨y, H1, I1, r1, q1⟩ => ?_)
  obtain ⟨p, q, ks, ys, rfl, rfl, hqx, hqy, hl, fin⟩ := q1
  obtain rfl : u = Value.ref p := r0
  obtain rfl : u2 = Value.ref q := r1
  refine Calls.spliced_nil ?_
  obtain ⟨its, rv, pl1, z1⟩ := I1.list hqx
  obtain ⟨its2, rv2, pl2, z2⟩ := I1.list hqy
  have l1 := rv.length
  have l2 := rv2.length
  rw [List.length_map] at l1
  refine call_zip_2 pl1.isList pl2.isList fun h' hzz hTI hTO hi1 hi2 hsz hk => ?_
  refine Calls.spliced_nil ?_
  have lt1 := pl1.lt
  have lt2 := pl2.lt
  refine call_dict_pairs (knd := mixKind X.prog X.w) (kvs := (ks.map (Sum.inl : Int → Key)).zip its2) (PairArg.zip _ _ _ _ _ p q (PySem.W.ktu_apart s1.heap.objs.size p q lt1 lt2) its.toArray its2.toArray) hh
    ⟨hzz, hTI, ⟨_, _, hTO⟩, hi1, hi2, ?_, ?_⟩ ⟨?_, fun i key v hr => ?_⟩ ?_ fun h2 tk hdict hkeep => ?_
  · obtain ⟨o, e1, e2⟩ := pl1.isList
    exact ⟨o, hk _ _ e1, e2⟩
  · obtain ⟨o, e1, e2⟩ := pl2.isList
    exact ⟨o, hk _ _ e1, e2⟩
  · rw [List.length_zip, List.length_map, List.size_toArray, List.size_toArray]; omega
  · obtain ⟨k1, k2⟩ := hr
    obtain ⟨n, t, e1, rfl⟩ := vals_keys rv i key (by simpa using k1)
    refine ⟨.inl n, ?_, keyIs_int n t⟩
    rw [List.getElem?_zip_eq_some]
    exact ⟨by rw [List.getElem?_map, e1]; rfl, by simpa using k2⟩
  · rw [List.size_toArray, List.size_toArray]; omega
  · have big := I1.big
    have keep : ∀ c o, s1.heap.get? c = some o → h2.get? c = some o := fun c o e => by
      have lt := Heap.lt_size e
      refine hkeep c o (fun z => ?_) (hk c o e)
      simp only [List.mem_cons, List.not_mem_nil, or_false] at z
      rcases z with rfl | rfl | rfl | rfl <;> first | exact Nat.lt_irrefl _ lt | exact Nat.lt_irrefl _ (Nat.lt_of_le_of_lt (Nat.le_add_right _ _) lt)
    have le : s1.heap.objs.size ≤ h'.objs.size := by omega
    have len : (putAll [] (zipK ks ys)).length ≤ sizeLine := by
      have := putAll_len (zipK ks ys) []
      unfold zipK at this ⊢
      rw [List.length_zip, List.length_map] at this
      simp at this
      omega
    have nsys : ((h'.objs.size : Addr) == sysModules) = false := by
      rw [beq_eq_false_iff_ne]
      intro z
      have big2 : sysModules < h'.objs.size := Nat.lt_of_lt_of_le big le
      rw [← z] at big2
      exact Nat.lt_irrefl _ big2
    exact ⟨.ref h'.objs.size, upd H1 h'.objs.size (.dK (putAll [] (zipK ks ys))), I1.laid (t' := tk) keep le (dk_new len nsys (kv_putAll _ _ _ _ .nil (kv_zip rv2 hl)) hdict), rfl, fin _ (I1.hok.fresh le)⟩
end
end DL
namespace DL
open PySem PySem.Spec PyProof.Rows L2 Evl
/-- what is tracked now is known from now on -/
def dicA (A : Amb) (S : Hp) : Amb := ⟨A.K, A.b, S, A.H0, A.E, A.PX⟩
/-- the dict at p: the i-th of ks to the i-th of ds -/
def DicAt (A : Amb) (p : Addr) (ks : List Int) (ds : List D) : Prop := ∃ ys, A.S0 p = some (.dK (putAll [] (zipK ks ys))) ∧ Reps A.K A.S0 ys ds ∧ ks.length = ds.length
section
variable {A : Amb} {te ta tb : TE} {ts : TS} {ρ : Rho} {n : Nat} {T : DEnds}
theorem dic_back {S1 H1 : Hp} {n1 : Nat} (f0 : Fr A n1 S1 H1) {m : Nat} {S H : Hp} (f : Fr (dicA A S1) m S H) : Fr A m S H :=
  ⟨f.sub, ⟨f0.mv.ss.trans f.mv.ss, fun a o hne h nt => f.mv.fr a o hne h nt, f.mv.tb, fun a h hs => f.mv.sep a h (f0.mv.sep a h hs)⟩, f.box, f.tab⟩
theorem dic_in {S1 H1 : Hp} {n1 : Nat} (f0 : Fr A n1 S1 H1) : Fr (dicA A S1) n1 S1 H1 :=
  ⟨f0.sub, ⟨Ex.refl S1, fun a o hne h nt => f0.mv.fr a o hne h nt, f0.mv.tb, fun _ _ h => h⟩, f0.box, f0.tab⟩
theorem dic_er {S1 S H : Hp} {σ : L2.St} {m : Nat} {ρ : Rho} (f : Fr A m S H) (e : ER (dicA A S1) m S H σ ρ) : ER A m S H σ ρ := ⟨f, e.len, e.sl, e.ap⟩
theorem dic_xok {S1 H1 : Hp} {n1 : Nat} (f0 : Fr A n1 S1 H1) (hX : XOk A) : XOk (dicA A S1) := fun c fs dd S' H' n' f hd hp => hX c fs dd S' H' n' (dic_back f0 f) hd hp
/-- d = dict(zip(ks, xs)) -/
theorem ds_dictZip {i : Nat} (h : DE A ta ρ n fun d m => ∃ ks : List Int, d = .lst (ks.map D.int) ∧ DE A tb ρ m fun e m2 => ∃ ds : List D, e = .lst ds ∧ ks.length = ds.length ∧
      ∀ (S1 : Hp) (p : Addr), (XOk A → XOk (dicA A S1)) → DicAt (dicA A S1) p ks ds → DS (dicA A S1) ts (ρ.set i (.val (.raw (.ref p)))) m2 T) : DS A (tSeq (tAsg (tDictZip A.K ta tb) (gName i)) ts) ρ n T := fun S H σ e Dn k => by
  refine h S H σ e _ fun v d S1 H1 n1 m1 f1 r1 ⟨ks, hd, h2⟩ => ?_
  subst hd
  refine h2 S1 H1 σ (e.mv m1 f1) _ fun v2 d2 S2 H2 n2 m2 f2 r2 ⟨ds, hd2, hl, h3⟩ => ?_
  subst hd2
  obtain ⟨a, vs, rfl, a1, a2⟩ := r1.lst_inv
  obtain ⟨b, ys, rfl, b1, b2⟩ := r2.lst_inv
  cases a2.intsV
  refine ⟨a, b, ks, ys, rfl, rfl, .inl (.inl (f2.sub _ _ (m2.ss _ _ a1))), .inl (.inl (f2.sub _ _ b1)), by rw [hl, ← b2.length], fun p hp => ?_⟩
  have mn : Mv A.b S2 H2 (upd S2 p (.dK (putAll [] (zipK ks ys)))) (upd H2 p (.dK (putAll [] (zipK ks ys)))) := Mv.new f2.sub hp
  have fn := f2.new (o := .dK (putAll [] (zipK ks ys))) hp
  have e3 := ((e.mv m1 f1).mv m2 f2).mv mn fn
  have e4 := e3.set (i := i) (Rep.raw (u := V.ref p))
  have rep : DicAt (dicA A (upd S2 p (.dK (putAll [] (zipK ks ys))))) p ks ds := ⟨ys, upd_same, b2.mono mn.ss, hl⟩
  refine h3 _ p (dic_xok fn) rep _ _ _ ⟨dic_in fn, e4.len, e4.sl, e4.ap⟩ Dn ⟨fun ρ' n' S' H' σ' ex e' q => ?_, fun v d n' S' H' ex f r q => ?_, fun ρ' n' S' H' σ' ex e' q => ?_, fun ρ' n' S' H' σ' ex e' q => ?_⟩
  · exact k.nx ρ' n' S' H' σ' (((m1.ss.trans m2.ss).trans mn.ss).trans ex) (dic_er (dic_back fn e'.f) e') q
  · exact k.rt v d n' S' H' (((m1.ss.trans m2.ss).trans mn.ss).trans ex) (dic_back fn f) r q
  · exact k.bk ρ' n' S' H' σ' (((m1.ss.trans m2.ss).trans mn.ss).trans ex) (dic_er (dic_back fn e'.f) e') q
  · exact k.ct ρ' n' S' H' σ' (((m1.ss.trans m2.ss).trans mn.ss).trans ex) (dic_er (dic_back fn e'.f) e') q
/-- d[g] -/
theorem de_dic {j : Nat} {p : Addr} {ks : List Int} {ds : List D} {P : D → Nat → Prop} (hj : ρ[j]? = some (.val (.raw (.ref p)))) (hD : DicAt A p ks ds) (nd : ks.Nodup)
    (h : DE A te ρ n fun d m => ∃ (g : Int) (i : Nat) (x : D), d = .int g ∧ ks[i]? = some g ∧ ds[i]? = some x ∧ P x m) : DE A (tDGet (tVar j) te) ρ n P := fun S H σ e Q q => by
  obtain ⟨v, h1, h2⟩ := e.val hj
  cases h2.raw_inv
  refine ⟨_, h1, h S H σ e _ fun w d S1 H1 n1 m1 f1 r1 ⟨g, i, x, hd, hk, hx, pp⟩ => ?_⟩
  subst hd
  cases r1.int_inv
  obtain ⟨ys, w1, w2, wl⟩ := hD
  obtain ⟨y, hy1, hy2⟩ := w2.get hx
  have at1 : S1 p = some (.dK (putAll [] (zipK ks ys))) := (e.f.mv.trans e.f.bt m1).ss _ _ w1
  have zi : (zipK ks ys)[i]? = some ((.inl g : Key), y) := by
    unfold zipK
    rw [List.getElem?_zip_eq_some]
    exact ⟨by rw [List.getElem?_map, hk]; rfl, hy1⟩
  have ndk : ((zipK ks ys).map Prod.fst).Nodup := by
    have sub : (zipK ks ys).map Prod.fst = ks.map (Sum.inl : Int → Key) := by
      unfold zipK
      exact List.map_fst_zip (by rw [List.length_map, wl, ← w2.length]; exact Nat.le_refl _)
    rw [sub]
    exact List.Pairwise.map _ (fun a b h z => h (Sum.inl.inj z)) nd
  refine ⟨p, y, rfl, ?_, q y x S1 H1 n1 m1 f1 (hy2.mono (e.f.mv.trans e.f.bt m1).ss) pp⟩
  have := DGet.k (H := H1) (k := (.inl g : Key)) (f1.sub _ _ at1)
  rw [putAll_at (zipK ks ys) [] ndk i _ _ zi] at this
  exact this
end
end DL
namespace DL
open PySem PySem.Spec PyProof.Rows L2 Evl RT
section
variable {A : Amb} {te : TE} {ρ : Rho} {n : Nat}
/-- reversed(xs), xs a list -/
theorem di_revA {P : List D → Nat → Prop} (h : DE A te ρ n fun d m => ∃ ds, d = .lst ds ∧ P ds.reverse m) : DI A (iRevA A.K te) ρ n P := fun S H σ e R q =>
  h S H σ e _ fun v d S1 H1 n1 m1 f1 r1 ⟨ds, hd, p⟩ => by
    subst hd
    obtain ⟨a, vs, rfl, h1, h2⟩ := r1.lst_inv
    refine ⟨a, vs, rfl, Or.inl ⟨Evl.sq_of (f1.sub _ _ h1), q _ ds.reverse S1 H1 n1 _ _ m1 f1 (by rw [List.length_reverse, ← h2.length]; exact walk_rev) (fun S2 H2 m x f => Evl.sq_of ((x.trans f.sub) _ _ h1)) (fun i S2 H2 x H3 m hi ex f y => ?_) p⟩⟩
    obtain ⟨rfl, hx⟩ := y
    rw [List.length_reverse] at hi
    obtain ⟨d, g1, g2⟩ := h2.getV hx
    refine ⟨S2, d, ?_, Mv.refl, f, g2.mono ex⟩
    rw [List.getElem?_reverse hi, ← h2.length]
    exact g1
variable {ta tb tc : TE} {T : DEnds}
/-- xs, ys, z = list(..), list(..), e : the first two ours -/
theorem ds_parFFE {i j l : Nat} (hij : i ≠ j) (hi : i < ρ.length) (hj : j < ρ.length) (h : DF A ta ρ n fun ds m => DF A tb ρ m fun es m2 => DE A tc ρ m2 fun d m3 => T.nx (((ρ.set i (.own ds)).set j (.own es)).set l (.val d)) m3) : DS A (tPar3 i j l (tCons ta (tCons tb (tCons tc tNil)))) ρ n T := fun S H σ e D k => by
  refine h S H σ e _ fun a vs ds S1 H1 n1 m1 f1 hHa hH1 hS1 r1 h2 => ?_
  refine h2 S1 H1 σ (e.mv m1 f1) _ fun b ws es S2 H2 n2 m2 f2 hHb hH2 hS2 r2 h3 => ?_
  have e2 := (e.mv m1 f1).mv m2 f2
  refine h3 S2 H2 σ e2 _ fun v d S3 H3 n3 m3 f3 r p => ?_
  have e3 := e2.mv m3 f3
  have a0 : A.H0 a = none := e.f.h0 hHa
  have b0 : A.H0 b = none := f1.h0 hHb
  have nbA : some a ≠ A.b := fun z => (f1.box a z.symm).2.2 a0
  have nbB : some b ≠ A.b := fun z => (f2.box b z.symm).2.2 b0
  have nab : b ≠ a := fun z => by rw [z, hH1] at hHb; cases hHb
  have a2 : H2 a = some (.lst vs) := m2.fr a _ nbA hH1
  have a3 : H3 a = some (.lst vs) := m3.fr a _ nbA a2
  have b3 : H3 b = some (.lst ws) := m3.fr b _ nbB hH2
  have sa2 : S2 a = none := m2.sep a (by rw [hH1]; exact fun z => nomatch z) hS1
  have sa3 : S3 a = none := m3.sep a (by rw [a2]; exact fun z => nomatch z) sa2
  have sb3 : S3 b = none := m3.sep b (by rw [hH2]; exact fun z => nomatch z) hS2
  have g1 := e3.setOwn (i := i) (fun j es hj z => by
    obtain ⟨c, us, x1, x2, _⟩ := e.own hj
    rw [z] at x1; cases x1
    rw [hHa] at x2; cases x2) a3 ((r1.mono m2.ss).mono m3.ss) sa3 a0
  have hil : i < σ.length := by rw [e.len]; exact hi
  have g2 := g1.setOwn (i := j) (fun j' es hj' z => by
    by_cases c : i = j'
    · subst c
      rw [List.getElem?_set_self hil] at z
      cases z; exact nab rfl
    · rw [List.getElem?_set_ne c] at hj' z
      obtain ⟨b', us, x1, x2, _⟩ := (e.mv m1 f1).own hj'
      rw [z] at x1; cases x1
      rw [hHb] at x2; cases x2) b3 (r2.mono m3.ss) sb3 b0
  exact ⟨_, _, _, rfl, k.nx _ n3 S3 H3 _ ((m1.ss.trans m2.ss).trans m3.ss) (g2.set (i := l) r) p⟩
end
section
variable {X : Cx} {tg : Expr}
theorem kp_revA (K : PySem.W.Frag) {e : Expr} {te : TE} {p pos : Pos} (hm : X.mg "reversed" = none) (he : PE X e te) (hg : Gl X "reversed" := by rfl) (h : X.K = K := by rfl) (hs : starEach [e] X.env = (false, eval e X.env) :: starEach [] X.env := by rfl) : PI X tg (.Call (.Name "reversed" p) [e] [] pos) (iRevA K te) := h ▸ pi_revA hg hm he hs
end
end DL
namespace DL
open PySem PySem.Spec PyProof.Rows L2 Evl
section
variable {A : Amb} {ρ : Rho} {n k : Nat} {C : DCon} {tk : TA} {T : DEnds} {tt : TT}
/-- try: f(k = ..) .. as e: c = e -/
theorem ds_tryDropK {i j : Nat} {cs : List Value} {gV : List V → List V → List V} (gD : List D → List D → List D) (pg : Puts gV gD) (hi : i < ρ.length)
    (h : DA A tk ρ n fun es m => (gD [] es).length = k ∧ C none (gD [] es) 0 (fun _ _ => T.nx ρ m) (fun c fs => PySem.W.exmAny A.K (.ref c) cs = some true ∧ T.nx (((ρ.set i .un).set j (.val (.exc c fs))).set i .un) m)) :
    DS A (fun D σ H => tDrop (tCallKS (spOf A.K k C) gV (WE (wTup A.K cs i (fun a cls d => tAsg (tVar i) (gName j)) D)) tNil tk) D σ H) ρ n T := fun S H σ e Dn kk => by
  refine h S H σ e _ fun ws es S1 H1 n1 m1 f1 r1 ⟨hl, hc⟩ => ?_
  refine call_atN f1 (pg _ _ _ _ _ _ Reps.nil r1) hl hc (fun v d S' H' m f' rv p => ?_) fun c fs dd S' H' m f' hdd ⟨hm, p⟩ => ⟨hm, fun a ha => ?_⟩
  · exact kk.nx _ n1 S' H' _ (m1.ss.trans m.ss) (e.mv (m1.trans f1.bt m) f') p
  · have e' := e.mv (m1.trans f1.bt m) f'
    have hs : (σ.set i (some (V.ref a)))[i]? = some (some (V.ref a)) := List.getElem?_set_self (by rw [e.len]; exact hi)
    refine ⟨V.ref a, hs, ha, ?_⟩
    have mn : Mv A.b S' H' (upd S' a (ExH c dd a)) (upd H' a (ExH c dd a)) := Mv.new f'.sub ha
    have e2 := (e'.mv mn (f'.new (o := ExH c dd a) ha)).setUn (i := i) (o := some (V.ref a))
    have rx : Rep A.K (upd S' a (ExH c dd a)) (.ref a) (.exc c fs) := Rep.exc upd_same (by rw [upd_ne (ne_of_none (f'.sub _ _ hdd) ha)]; exact hdd)
    exact kk.nx _ n1 _ _ _ ((m1.ss.trans m.ss).trans mn.ss) ((e2.set (i := j) rx).setUn (i := i) (o := none)) p
/-- try: if t: .. else: .. -/
theorem ds_tryIf {X Y : Ends → TS} (h : DT A tt ρ n fun b m => if b = true then DS A (fun D σ H => X D D σ H) ρ m T else DS A (fun D σ H => Y D D σ H) ρ m T) : DS A (fun D σ H => tIfS tt (X D) (Y D) D σ H) ρ n T := ds_if h
end
end DL
namespace DL
open PySem PySem.Spec PyProof.Rows L2 Evl
/-! ### xs[i] += e, xs ours -/
section
variable {X : Cx}
def gIx (K : PySem.W.Frag) : V → V → Hp → VK → Prop := fun x y H Q => ∃ (p : Addr) (xs : List V) (i : Nat) (v : V), x = .ref p ∧ y = .int (i : Int) ∧ SqL K H p xs ∧ xs[i]? = some v ∧ Q v H
theorem pget_list (K : PySem.W.Frag) (h : X.K = K := by rfl) : PGet X (gIx K) := by
  subst h
  intro pins s σ H x y v u Q I rx ry h
  obtain ⟨p, xs, i, z, rfl, rfl, hq, he, q⟩ := h
  cases rx
  obtain ⟨t, rfl⟩ := ry
  obtain ⟨its, r, pl, hz⟩ := I.list hq
  obtain ⟨w, ew, rw'⟩ := r.get he
  have hl := r.length
  have hi := (List.getElem?_eq_some_iff.mp he).1
  have hn := line63
  exact wpAny_getItem_list pl.isList (by omega) (by omega) (by simpa using ew) ⟨z, H, I, rw', q⟩
end
section
variable {A : Amb} {ρ : Rho} {n : Nat} {te : TE} {T : DEnds}
theorem ds_augOwn {i : Nat} {ds : List D} {ti : TE} (hi : ρ[i]? = some (.own ds)) (h : DE A ti ρ n fun x m => ∃ (j : Nat) (u : Int), x = .int (j : Int) ∧ ds[j]? = some (.int u) ∧ DE A te ρ m fun y m2 => ∃ v : Int, y = .int v ∧ T.nx (ρ.set i (.own (ds.set j (.int (u + v))))) m2) : DS A (tAugS (tVar i) ti te (gIx A.K) (ipI fun i j => i + j) rSetL) ρ n T := fun S H σ e D k => by
  obtain ⟨a, vs, h1, h2, h3, h4, h5⟩ := e.own hi
  refine ⟨.ref a, h1, h S H σ e _ fun w x S1 H1 n1 m1 f1 r1 ⟨j, u, hx, hj, p⟩ => ?_⟩
  subst hx
  have e1 := e.mv m1 f1
  obtain ⟨a1, vs1, g1, g2, g3, _⟩ := e1.own hi
  rw [h1] at g1; cases g1
  obtain ⟨uv, huv, ru⟩ := g3.get hj
  refine ⟨a, vs1, j, uv, rfl, r1.int_inv, Evl.sq_of g2, huv, ?_⟩
  refine p S1 H1 σ e1 _ fun w2 y S2 H2 n2 m2 f2 r2 ⟨v, hy, p2⟩ => ?_
  subst hy
  have e2 := e1.mv m2 f2
  obtain ⟨a2, vs2, k1, k2, k3, k4, k5⟩ := e2.own hi
  rw [h1] at k1; cases k1
  refine ⟨u, v, ru.int_inv, r2.int_inv, ?_⟩
  have hj2 : j < vs2.length := by rw [k3.length]; exact (List.getElem?_eq_some_iff.mp hj).1
  refine ⟨a, vs2, (j : Int), j, rfl, r1.int_inv, k2, Evl.ixN_nat hj2, ?_⟩
  exact k.nx _ n2 S2 _ σ (m1.ss.trans m2.ss) (e2.putOwn hi h1 (k3.set j Rep.int)) p2
end
end DL
namespace DL
open PySem PySem.Spec PyProof.Rows L2 Evl
/-! ### a def whose own list is its result -/
section
variable {A : Amb} {ρ : Rho} {n : Nat} {S H : Hp} {σ : L2.St} {D : Ends}
theorem seqR {ts us : TS} {N : Rho → Nat → Prop} (h : DS A ts ρ n { nx := N, rt := fun _ _ => False }) (e : ER A n S H σ ρ)
    (k : ∀ S' H' σ' n' ρ', ER A n' S' H' σ' ρ' → N ρ' n' → us D σ' H') : tSeq ts us D σ H :=
  h S H σ e _ ⟨fun ρ' n' S' H' σ' _ e' p => k S' H' σ' n' ρ' e' p, fun _ _ _ _ _ _ _ _ z => z.elim, fun _ _ _ _ _ _ _ z => z.elim, fun _ _ _ _ _ _ _ z => z.elim⟩
theorem retR {i : Nat} {P : DL.D → Nat → Prop} {dl : List DL.D} (hi : ρ[i]? = some (.own dl)) (e : ER A n S H σ ρ)
    (hq : ∀ a ws es S' H' n', Mv A.b A.S0 A.H0 S' H' → Fr A n' S' H' → A.H0 a = none → H' a = some (.lst ws) → S' a = none → Reps A.K S' ws es → P (.lst es) n' → D.rt (.ref a) H') (p : P (.lst dl) n) : tRet (tVar i) D σ H := by
  obtain ⟨a, vs, h1, h2, h3, h4, h5⟩ := e.own hi
  exact ⟨.ref a, h1, hq a vs dl S H n e.f.mv e.f h5 h2 h4 h3 p⟩
end
end DL
namespace DL
open PySem PySem.Spec PyProof.Rows L2 Evl
theorem TabK.putN {K : PySem.W.Frag} {S H : Hp} {p : Addr} {o : HO} (t : TabK K S H) (hp : ∃ xs, H p = some (.dK xs)) : TabK K S (upd H p o) := ⟨fun q hq => by
  obtain ⟨xs, hp⟩ := hp
  obtain ⟨ps, h1, h2, h3⟩ := t.1 q hq
  have n1 : q.1 ≠ p := fun z => by rw [z, hp] at h1; cases h1
  refine ⟨ps, by rw [upd_ne n1]; exact h1, h2, fun pos cv hc => ?_⟩
  obtain ⟨c, e1, e2⟩ := h3 pos cv hc
  refine ⟨c, e1, ?_⟩
  have n2 : c ≠ p := fun z => by
    rw [z, hp] at e2
    have e2 := Option.some.inj e2
    unfold LamX.CodeO at e2
    cases e2
  rw [upd_ne n2]
  exact e2, t.2⟩
theorem Fr.putN {A : Amb} {n : Nat} {S H : Hp} {p : Addr} {o : HO} (f : Fr A n S H) (hs : S p = none) (h0 : A.H0 p = none) (hl : ∃ xs, H p = some (.dK xs)) : Fr A n S (upd H p o) := by
  have np : ∀ a u, A.H0 a = some u → a ≠ p := fun a u e => ne_of_none e h0
  refine ⟨fun a u e => ?_, ⟨f.mv.ss, fun a u e h nt => ?_, fun a ps h => ?_, f.mv.sep⟩, fun a e => ?_, f.tab.putN hl⟩
  · rw [upd_ne (ne_of_none e hs)]; exact f.sub a u e
  · rw [upd_ne (np a u h)]; exact f.mv.fr a u e h
  · rw [upd_ne (np a _ h)]; exact f.mv.tb a ps h
  · obtain ⟨⟨x, y, z, h1, h2⟩, h3, h4⟩ := f.box a e
    have ne : a ≠ p := fun q => h4 (by rw [q]; exact h0)
    exact ⟨⟨x, y, z, by rw [upd_ne ne]; exact h1, h2⟩, h3, h4⟩
/-! d = {k: v for .. in ..}, from then on only read -/
theorem dc_it {J : It} {n : Nat} {G : Hp → Prop} {Y : Nat → Hp → V → Hp → Prop} (w : Walk J n G Y) {g : TG} {tt : TT} {tk tv : TE} {vs : List Nat} {σ : L2.St} {H1 : Hp} {D : Addr} {Qd : Hp → Prop} (Pv : Nat → Hp → Prop) (h0 : Pv 0 (upd H1 D (.dK []))) (hG : ∀ i H, i ≤ n → Pv i H → G H)
    (hs : ∀ i x H H', i < n → Pv i H → Y i H x H' → g x (wipe σ vs) H' fun σ2 H2 => wipe σ2 vs = wipe σ vs ∧ tt σ2 H2 fun b H3 =>
      if b = true then tk σ2 H3 fun y H4 => tv σ2 H4 fun z H5 => ∃ kvs k, y = kV k ∧ H5 D = some (.dK kvs) ∧ kvs.length < sizeLine ∧ Pv (i + 1) (upd H5 D (.dK (putK kvs k z))) else Pv (i + 1) H3) (hd : ∀ H, Pv n H → Qd H) :
    ∃ W : Nat → Nat → Hp → Prop, (∃ m, W 0 m (upd H1 D (.dK []))) ∧ ∀ i m H, W i m H →
      (J.stop i H ∧ Qd H) ∨ (J.go i H ∧ ∃ Nx : Hp → Prop, (∀ H', Nx H' → ∃ m', m' < m ∧ W (i + 1) m' H') ∧ ∀ x H', J.yld i H x H' → g x (wipe σ vs) H' fun σ2 H2 => wipe σ2 vs = wipe σ vs ∧ tt σ2 H2 fun b H3 =>
        if b = true then tk σ2 H3 fun y H4 => tv σ2 H4 fun z H5 => ∃ kvs k, y = kV k ∧ H5 D = some (.dK kvs) ∧ kvs.length < sizeLine ∧ Nx (upd H5 D (.dK (putK kvs k z))) else Nx H3) := by
  refine ⟨fun i m H => m = n - i ∧ i ≤ n ∧ Pv i H, ⟨n, by simp, Nat.zero_le _, h0⟩, ?_⟩
  rintro i m H ⟨rfl, hi, p⟩
  have q := hG i H hi p
  by_cases hlt : i < n
  · refine .inr ⟨w.goes i H hlt q, Pv (i + 1), fun H' p' => ⟨n - (i + 1), by omega, rfl, hlt, p'⟩, fun x H' y => hs i x H H' hlt p (w.yields i H x H' hlt q y)⟩
  · have e : i = n := by omega
    subst e
    exact .inl ⟨w.stops H q, hd H p⟩
theorem nodup_at {ks : List Int} (nd : ks.Nodup) {q j : Nat} {k : Int} (h1 : ks[q]? = some k) (h2 : ks[j]? = some k) : q = j := by
  obtain ⟨a, e1⟩ := List.getElem?_eq_some_iff.mp h1
  obtain ⟨b, e2⟩ := List.getElem?_eq_some_iff.mp h2
  have pw := List.pairwise_iff_getElem.mp nd
  by_cases c : q < j
  · exact absurd (e1.trans e2.symm) (pw q j a b c)
  · by_cases c2 : j < q
    · exact absurd (e2.trans e1.symm) (pw j q b a c2)
    · omega
/-- the dict at p: the i-th of ks to the i-th of ds -/
def DicC (A : Amb) (p : Addr) (ks : List Int) (ds : List D) : Prop := ∃ kvs, A.S0 p = some (.dK kvs) ∧ ∀ (i : Nat) (k : Int) (x : D), ks[i]? = some k → ds[i]? = some x → ∃ v, valV kvs (Sum.inl k : Key) = some v ∧ Rep A.K A.S0 v x
section
variable {A : Amb} {te tk tv : TE} {tt : TT} {ts : TS} {wi : TI} {g : TG} {ρ : Rho} {n : Nat} {T : DEnds}
theorem dictR {i : Nat} {vs : List Nat} {us : TS} {S H : Hp} {σ : L2.St} {Dn : Ends} (gw : GW g vs) (e : ER A n S H σ ρ)
    (h : DI A wi ρ n fun ds n1 => ∃ (ks : List Int) (xs : List D), ks.Nodup ∧ ks.length = ds.length ∧ xs.length = ds.length ∧ ds.length ≤ 100000 ∧
      (∀ (j : Nat) (d : D) (k : Int) (x : D), ds[j]? = some d → ks[j]? = some k → xs[j]? = some x → DG A g d (wipeR ρ vs) n1 fun ρ2 => DT A tt ρ2 n1 fun b n2 => b = true ∧ DE A tk ρ2 n2 fun y n3 => y = .int k ∧ DE A tv ρ2 n3 fun z n4 => n4 = n1 ∧ z = x) ∧
      ∀ (S1 H1 : Hp) (σ1 : L2.St) (p : Addr), Ex S S1 → Fr A n1 S1 H1 → DicC (dicA A S1) p ks xs → ER (dicA A S1) n1 S1 H1 σ1 (ρ.set i (.val (.raw (.ref p)))) → us Dn σ1 H1) : tSeq (tAsg (tDc wi g tt tk tv vs) (gName i)) us Dn σ H :=
  h S H σ e _ fun J ds S1 H1 n1 G Y m1 f1 w hG hY ⟨ks, xs, nd, hk, hx, hlen, istep, iend⟩ => fun L hL => by
    have hL0 : H L = none := by
      cases z : H L with
      | none => rfl
      | some o => exact absurd hL (m1.there f1.bt (by rw [z]; exact fun y => nomatch y))
    have hS1 : S1 L = none := f1.s0 hL
    have h0L : A.H0 L = none := f1.h0 hL
    have nb : some L ≠ A.b := fun z => (f1.box L z.symm).2.2 h0L
    let Iv : Nat → Hp → Prop := fun j H' => ∃ S' kvs, Ex S1 S' ∧ Mv A.b S1 H1 S' H' ∧ Fr A n1 S' H' ∧ H' L = some (.dK kvs) ∧ S' L = none ∧ kvs.length ≤ j ∧ ∀ (q : Nat) (k : Int) (x : D), q < j → ks[q]? = some k → xs[q]? = some x → ∃ v, valV kvs (Sum.inl k : Key) = some v ∧ Rep A.K S' v x
    refine dc_it w Iv ⟨S1, [], Ex.refl _, Mv.newO hL, f1.newO hL, upd_same, hS1, Nat.le_refl _, fun q k x hq => absurd hq (Nat.not_lt_zero q)⟩ (fun j H' _ ⟨S', _, ex, _, f', _⟩ => hG S' H' n1 ex f') ?_ ?_
    · rintro j x H' H3 hj ⟨S', kvs, ex, mv, f', hH, hS, hl, p⟩ y
      obtain ⟨S3, d, hdd, m3, f3, r3⟩ := hY j S' H' x H3 n1 hj ex f' y
      obtain ⟨k, hkj⟩ : ∃ k, ks[j]? = some k := ⟨ks[j]'(by omega), by simp [show j < ks.length by omega]⟩
      obtain ⟨xx, hxj⟩ : ∃ x, xs[j]? = some x := ⟨xs[j]'(by omega), by simp [show j < xs.length by omega]⟩
      have e3 : ER A n1 S3 H3 σ ρ := (e.mv m1 f1).mv (mv.trans f'.bt m3) f3
      have z := gw x (wipe σ vs) H3 (fun σ2 H2 => tt σ2 H2 fun b H3 => if b = true then tk σ2 H3 fun y H4 => tv σ2 H4 fun z H5 => ∃ kvs k, y = kV k ∧ H5 L = some (.dK kvs) ∧ kvs.length < sizeLine ∧ Iv (j + 1) (upd H5 L (.dK (putK kvs k z))) else Iv (j + 1) H3) ?_
      · rw [wipe_wipe] at z
        exact z
      refine istep j d k xx hdd hkj hxj S3 H3 _ x (e3.wipe vs) r3 _ fun σ2 ρ2 e2 _ p2 => ?_
      refine p2 S3 H3 σ2 e2 _ fun b S4 H4 n4 m4 f4 ⟨hb, p4⟩ => ?_
      subst hb
      rw [if_pos rfl]
      have nH : ∀ {S' H' S'' H'' : Hp} {v : List (Key × V)}, Mv A.b S' H' S'' H'' → H' L = some (.dK v) → S' L = none → H'' L = some (.dK v) ∧ S'' L = none := fun m a b => ⟨m.fr L _ nb a nt_dK, m.sep L (by rw [a]; exact fun z => nomatch z) b⟩
      have x3 := nH m3 hH hS
      have x4 := nH m4 x3.1 x3.2
      have mv3 := mv.trans f'.bt m3
      have mv4 := mv3.trans f3.bt m4
      refine p4 S4 H4 σ2 (e2.mv m4 f4) _ fun u1 d1 S5 H5 n5 m5 f5 r5 ⟨hd1, p5⟩ => ?_
      subst hd1
      cases r5.int_inv
      have x5 := nH m5 x4.1 x4.2
      have mv5 := mv4.trans f4.bt m5
      refine p5 S5 H5 σ2 ((e2.mv m4 f4).mv m5 f5) _ fun u2 d2 S6 H6 n6 m6 f6 r6 ⟨hn6, hd2⟩ => ?_
      subst hn6 hd2
      have x6 := nH m6 x5.1 x5.2
      have mv6 := mv5.trans f5.bt m6
      have exx : Ex S' S6 := m3.ss.trans (m4.ss.trans (m5.ss.trans m6.ss))
      refine ⟨kvs, Sum.inl k, rfl, x6.1, Evl.sz_lt (by omega), S6, _, ex.trans exx, ?_, f6.putN x6.2 h0L ⟨_, x6.1⟩, upd_same, x6.2, by have := length_putK kvs (Sum.inl k : Key) u2; omega, fun q k' x' hq h1 h2 => ?_⟩
      · refine ⟨mv6.ss, fun a o hb ha nt => ?_, fun a ps ha => ?_, mv6.sep⟩
        · rw [upd_ne (ne_of_none ha hL)]
          exact mv6.fr a o hb ha nt
        · rw [upd_ne (ne_of_none ha hL)]
          exact mv6.tb a ps ha
      · rw [valV_put]
        by_cases c : q = j
        · subst c
          rw [hkj] at h1; cases h1
          rw [hxj] at h2; cases h2
          exact ⟨u2, if_pos rfl, r6⟩
        · have ne : k' ≠ k := fun z => by
            subst z
            exact c (nodup_at nd h1 hkj)
          rw [if_neg (fun z => ne (Sum.inl.inj z))]
          obtain ⟨v, v1, v2⟩ := p q k' x' (by omega) h1 h2
          exact ⟨v, v1, v2.mono exx⟩
    · rintro H' ⟨S', kvs, ex, mv, f', hH, hS, hl, p⟩
      have m' : Mv A.b S H (upd S' L (.dK kvs)) H' := by
        have m := m1.trans f1.bt mv
        refine ⟨fun x u y => ?_, fun a o x y nt => m.fr a o x y nt, m.tb, fun x y z => ?_⟩
        · have w := m.ss x u y
          rw [upd_ne (ne_of_none w hS)]; exact w
        · have ne : x ≠ L := fun w => y (by rw [w]; exact hL0)
          rw [upd_ne ne]; exact m.sep x y z
      have exu : Ex S' (upd S' L (.dK kvs)) := fun x u y => by rw [upd_ne (ne_of_none y hS)]; exact y
      have fn := f'.freeze hH hS h0L nt_dK
      have e4 := (e.mv m' fn).set (i := i) (Rep.raw (u := V.ref L))
      have rep : DicC (dicA A (upd S' L (.dK kvs))) L ks xs := ⟨kvs, upd_same, fun q k x h1 h2 => by
        obtain ⟨v, v1, v2⟩ := p q k x (by have := (List.getElem?_eq_some_iff.mp h1).1; omega) h1 h2
        exact ⟨v, v1, v2.mono exu⟩⟩
      exact iend _ _ _ L m'.ss fn rep ⟨dic_in fn, e4.len, e4.sl, e4.ap⟩
/-- d[g] -/
theorem de_dicC {j : Nat} {p : Addr} {ks : List Int} {ds : List D} {P : D → Nat → Prop} (hj : ρ[j]? = some (.val (.raw (.ref p)))) (hD : DicC A p ks ds)
    (h : DE A te ρ n fun d m => ∃ (g : Int) (i : Nat) (x : D), d = .int g ∧ ks[i]? = some g ∧ ds[i]? = some x ∧ P x m) : DE A (tDGet (tVar j) te) ρ n P := fun S H σ e Q q => by
  obtain ⟨v, h1, h2⟩ := e.val hj
  cases h2.raw_inv
  refine ⟨_, h1, h S H σ e _ fun w d S1 H1 n1 m1 f1 r1 ⟨g, i, x, hd, hk, hx, pp⟩ => ?_⟩
  subst hd
  cases r1.int_inv
  obtain ⟨kvs, w1, w2⟩ := hD
  obtain ⟨y, hy1, hy2⟩ := w2 i g x hk hx
  have at1 : S1 p = some (.dK kvs) := (e.f.mv.trans e.f.bt m1).ss _ _ w1
  refine ⟨p, y, rfl, ?_, q y x S1 H1 n1 m1 f1 (hy2.mono (e.f.mv.trans e.f.bt m1).ss) pp⟩
  have := DGet.k (H := H1) (k := (Sum.inl g : Key)) (f1.sub _ _ at1)
  rw [hy1] at this
  exact this
end
/-! what is done to lists in a list, one deed after another -/
/-- told[j].reverse() -/
theorem mut_rev {K : PySem.W.Frag} {i c j B : Nat} (hj : j < c) (R : TS) (D : Ends) (σ : L2.St) (H : Hp) (p : Addr) (as : List Addr) (hσ : σ[i]? = some (some (.ref p))) (hp : H p = some (.lst (as.map V.ref))) (hc : as.length = c) (pin : p ∉ as) (nd : as.Nodup) (hs : ∀ a ∈ as, ∃ vs, H a = some (.lst vs) ∧ vs.length ≤ B)
    (k : ∀ H', (∀ x, x ∉ as → H' x = H x) → (∀ a ∈ as, ∃ vs, H' a = some (.lst vs) ∧ vs.length ≤ B) → R D σ H') : tSeq (tDrop (tBM0 K "list" rReverse (tOp (rIx K) (tVar i) (tC (.int (j : Int)))))) R D σ H := by
  have hja : j < as.length := by omega
  have hm : as[j] ∈ as := List.getElem_mem hja
  obtain ⟨vs, w1, w2⟩ := hs _ hm
  refine ⟨.ref p, hσ, Or.inl ⟨p, as.map V.ref, (j : Int), .ref as[j], rfl, rfl, Evl.sq_of hp, atI_nat (by rw [List.getElem?_map]; simp [hja]), Or.inl ⟨rfl, vs, Evl.sq_of w1⟩, ?_⟩⟩
  refine ⟨as[j], vs, rfl, rfl, w1, ?_⟩
  refine k _ (fun x hx => upd_ne fun z => hx (z ▸ hm)) fun a ha => ?_
  by_cases z : a = as[j]
  · subst z
    exact ⟨vs.reverse, upd_same, by rw [List.length_reverse]; exact w2⟩
  · obtain ⟨us, u1, u2⟩ := hs a ha
    exact ⟨us, by rw [upd_ne z]; exact u1, u2⟩
/-- told[j].append(v); told[l].reverse() -/
theorem mut_appRev {K : PySem.W.Frag} {te : TE} {i c j l : Nat} {v : V} (hj : j < c) (hl : l < c) (hfl : ∀ (σ : L2.St) (H : Hp) (Q : VK), Q v H → te σ H Q) :
    Muts K (fun R => tSeq (tDrop (tBM K "list" rAppend (tOp (rIx K) (tVar i) (tC (.int (j : Int)))) (tCons te tNil))) (tSeq (tDrop (tBM0 K "list" rReverse (tOp (rIx K) (tVar i) (tC (.int (l : Int)))))) R)) i c := fun R D σ H p as hσ hp hc pin nd hs k =>
  mut_app hj hfl _ D σ H p as hσ hp hc pin nd hs fun H' same hs' => mut_rev hl R D σ H' p as hσ ((same p pin).trans hp) hc pin nd hs' fun H2 same2 h2 => k H2 (fun x hx => (same2 x hx).trans (same x hx)) h2
section
variable {A : Amb} {te tb : TE} {ρ : Rho} {n : Nat} {T : DEnds}
/-- our list's last -/
theorem de_ixOwnL {i : Nat} {ds : List D} {x : D} {P : D → Nat → Prop} (hi : ρ[i]? = some (.own ds)) (hj : ds.getLast? = some x) (h : DE A tb ρ n fun d m => d = .int (-1) ∧ P x m) : DE A (tOp (rIx A.K) (tVar i) tb) ρ n P := fun S H σ e Q q => by
  obtain ⟨a0, vs0, g1, _⟩ := e.own hi
  refine ⟨.ref a0, g1, h S H σ e _ fun w d S1 H1 n1 m1 f1 r1 ⟨hd, p⟩ => ?_⟩
  subst hd
  cases r1.int_inv
  have e' := e.mv m1 f1
  obtain ⟨a, vs, h1, h2, h3, h4, h5⟩ := e'.own hi
  rw [g1] at h1; cases h1
  obtain ⟨h0, hx⟩ := last_len hj
  obtain ⟨u, hu, ru⟩ := h3.get hx
  rw [← h3.length] at hu h0
  exact Or.inl ⟨_, vs, -1, u, rfl, rfl, Evl.sq_of h2, atI_last hu h0, q u x S1 H1 n1 m1 f1 ru p⟩
/-- xs = [ys.pop(e)], ys ours -/
theorem ds_setPop {i j : Nat} {es : List D} (hij : i ≠ j) (hj : ρ[j]? = some (.own es)) (h : DE A te ρ n fun d m => ∃ (c : Nat) (x : D), d = .int (c : Int) ∧ es[c]? = some x ∧ c < 2 ^ 62 ∧ T.nx ((ρ.set j (.own (es.eraseIdx c))).set i (.own [x])) m) :
    DS A (tAsg (tLst (tCons (tBM A.K "list" rPopAt (tVar j) (tCons te tNil)) tNil)) (gName i)) ρ n T := fun S H σ e D k => by
  obtain ⟨b, ws, g1, g2, g3, g4, g5⟩ := e.own hj
  refine ⟨.ref b, g1, Or.inl ⟨rfl, ws, Evl.sq_of g2⟩, h S H σ e _ fun v d S' H' n' m f r ⟨c, x, hd, hx, hc, p⟩ => ?_⟩
  subst hd
  cases r.int_inv
  have e' := e.mv m f
  obtain ⟨b', ws', q1, q2, q3, q4, q5⟩ := e'.own hj
  rw [g1] at q1; cases q1
  obtain ⟨y, hy, ry⟩ := q3.get hx
  have lt : c < ws'.length := (List.getElem?_eq_some_iff.mp hy).1
  refine ⟨b, ws', (c : Int), c, y, rfl, rfl, q2, by omega, by omega, seqIndex_of (by omega) (by omega), hy, ?_⟩
  have e2 := e'.putOwn hj g1 (q3.eraseIdx c)
  refine ⟨Evl.sz_of (Nat.le_of_ble_eq_true rfl), fun a ha => ?_⟩
  have mn : Mv A.b S' (upd H' b (.lst (ws'.eraseIdx c))) S' (upd (upd H' b (.lst (ws'.eraseIdx c))) a (.lst [y])) := Mv.newO ha
  have e3 := e2.mv mn (e2.f.newO ha)
  refine k.nx _ n' S' _ _ m.ss (e3.setOwn (fun jj es' hj' z => ?_) upd_same (Reps.one ry) (e2.f.s0 ha) (e2.f.h0 ha)) p
  obtain ⟨b2, w2, x1, x2, _⟩ := e2.own hj'
  rw [z] at x1
  cases x1
  rw [ha] at x2; cases x2
end
/-! a list of ours is lent: for a while it is read as any value, then it is ours again -/
/-- data that no list stands for -/
def Loose (d : D) : Prop := ∀ (K : PySem.W.Frag) (S S' : Hp) (a : Addr) (v : V) (vs : List V), S a = some (.lst vs) → (∀ x o, x ≠ a → S x = some o → S' x = some o) → Rep K S v d → Rep K S' v d
theorem Loose.int {i : Int} : Loose (.int i) := fun K S S' a v vs h1 h2 r => by cases r.int_inv; exact Rep.int
theorem Loose.str {i : Str} : Loose (.str i) := fun K S S' a v vs h1 h2 r => by cases r.str_inv; exact Rep.str
theorem Loose.raw {u : V} : Loose (.raw u) := fun K S S' a v vs h1 h2 r => by cases r.raw_inv; exact Rep.raw
theorem loose_all : ∀ {ds : List D}, (∀ d ∈ ds, Loose d) → ∀ {K : PySem.W.Frag} {S S' : Hp} {a : Addr} {vs us : List V}, S a = some (.lst vs) → (∀ x o, x ≠ a → S x = some o → S' x = some o) → Reps K S us ds → Reps K S' us ds
  | [], _, K, S, S', a, vs, us, h1, h2, r => by
    unfold Reps at r
    subst r
    exact Reps.nil
  | d :: ds, h, K, S, S', a, vs, us, h1, h2, r => by
    obtain ⟨v, w, rfl, r1, r2⟩ := r.uncons
    exact Reps.cons (h d List.mem_cons_self K S S' a v vs h1 h2 r1) (loose_all (fun x hx => h x (List.mem_cons_of_mem _ hx)) h1 h2 r2)
theorem Loose.tup {ds : List D} (h : ∀ d ∈ ds, Loose d) : Loose (.tup ds) := fun K S S' a v vs h1 h2 r => by
  obtain ⟨b, ws, rfl, x1, x2⟩ := r.tup_inv
  have ne : b ≠ a := fun z => by
    subst z
    rw [h1] at x1; cases x1
  exact Rep.tup (h2 b _ ne x1) (loose_all h h1 h2 x2)
theorem Loose.pr {p : Int × Int} : Loose (DL.pr p) := Loose.tup fun d hd => by
  simp only [List.mem_cons, List.not_mem_nil, or_false] at hd
  rcases hd with rfl | rfl <;> exact Loose.int
theorem Loose.line {l : List (Int × Int)} : Loose (.tup (l.map DL.pr)) := Loose.tup fun d hd => by
  obtain ⟨p, _, rfl⟩ := List.mem_map.mp hd
  exact Loose.pr
def LoanAt (A : Amb) (a : Addr) (ds : List D) : Prop := ∃ vs, A.S0 a = some (.lst vs) ∧ Reps A.K A.S0 vs ds
section
variable {A : Amb} {te tb : TE} {ts : TS} {ρ : Rho} {n : Nat} {T : DEnds}
theorem de_loan {j : Nat} {a : Addr} {ds : List D} {P : D → Nat → Prop} (hj : ρ[j]? = some (.val (.raw (.ref a)))) (hL : LoanAt A a ds) (p : P (.lst ds) n) : DE A (tVar j) ρ n P := fun S H σ e Q q => by
  obtain ⟨v, h1, h2⟩ := e.val hj
  cases h2.raw_inv
  obtain ⟨vs, x1, x2⟩ := hL
  exact ⟨_, h1, q _ _ S H n Mv.refl e.f (Rep.lst (e.f.mv.ss _ _ x1) (x2.mono e.f.mv.ss)) p⟩
theorem ds_loan {i : Nat} {ds : List D} (hi : ρ[i]? = some (.own ds)) (ld : ∀ d ∈ ds, Loose d)
    (h : ∀ (S : Hp) (a : Addr), LoanAt (dicA A S) a ds → (XOk A → XOk (dicA A S)) → DS (dicA A S) ts (ρ.set i (.val (.raw (.ref a)))) n { nx := fun ρ' m => ∃ ρ2 : Rho, ρ2.length = ρ'.length ∧ ρ'[i]? = some (.val (.raw (.ref a))) ∧ ρ2[i]? = some (.own ds) ∧ (∀ (j : Nat) (s : Slot), j ≠ i → ρ2[j]? = some s → s = .un ∨ ∃ d, s = .val d ∧ Loose d ∧ ρ'[j]? = some (.val d)) ∧ T.nx ρ2 m, rt := T.rt }) : DS A ts ρ n T := fun S H σ e D k => by
  obtain ⟨a, vs, S', h1, ex, f', rp, e', hS, h4, h2, h3, h5⟩ := e.frz hi
  subst hS
  have li : i < σ.length := by rw [e.len]; exact (List.getElem?_eq_some_iff.mp hi).1
  have sig : σ.set i (some (.ref a)) = σ := by
    refine List.ext_getElem? fun j => ?_
    by_cases c : i = j
    · subst c; rw [List.getElem?_set_self li, h1]
    · rw [List.getElem?_set_ne c]
  have e2 := e'.set (i := i) (Rep.raw (u := V.ref a))
  rw [sig, List.set_set] at e2
  refine h (upd S a (.lst vs)) a ⟨vs, upd_same, h3.mono ex⟩ (dic_xok f') _ H σ ⟨dic_in f', e2.len, e2.sl, e2.ap⟩ D ⟨fun ρ' n' S1 H1 σ1 ex1 e1 ⟨ρ2, q1, q2, q3, q4, q⟩ => ?_, fun v d n1 S1 H1 ex1 f1 r1 q => k.rt v d n1 S1 H1 (ex.trans ex1) (dic_back f' f1) r1 q, fun _ _ _ _ _ _ _ z => z.elim, fun _ _ _ _ _ _ _ z => z.elim⟩
  have fb := dic_back f' e1.f
  have at1 : S1 a = some (.lst vs) := ex1 _ _ upd_same
  let S2 : Hp := fun x => if x = a then none else S1 x
  have s2a : S2 a = none := if_pos rfl
  have s2n : ∀ x, x ≠ a → S2 x = S1 x := fun x hx => if_neg hx
  have sub2 : ∀ x o, S2 x = some o → S1 x = some o := fun x o hx => by
    by_cases c : x = a
    · rw [c, s2a] at hx; cases hx
    · rw [s2n x c] at hx; exact hx
  have lo : ∀ x o, x ≠ a → S1 x = some o → S2 x = some o := fun x o hx h => by rw [s2n x hx]; exact h
  have exS : Ex S S2 := fun x o hx => lo x o (ne_of_none hx h4) (ex1 _ _ (ex _ _ hx))
  have f2 : Fr A n' S2 H1 := by
    refine ⟨fun x o hx => fb.sub x o (sub2 x o hx), ⟨e.f.mv.ss.trans exS, fun a o x y nt => fb.mv.fr a o x y nt, fb.mv.tb, fun x hx hs => ?_⟩, fun x hx => ?_, ?_⟩
    · by_cases c : x = a
      · rw [c]; exact s2a
      · rw [s2n x c]; exact fb.mv.sep x hx hs
    · obtain ⟨b1, b2, b3⟩ := fb.box x hx
      refine ⟨b1, ?_, b3⟩
      by_cases c : x = a
      · rw [c]; exact s2a
      · rw [s2n x c]; exact b2
    · refine ⟨fb.tab.1, fun q hq => ?_⟩
      by_cases c : q.1 = a
      · rw [c]; exact s2a
      · rw [s2n _ c]; exact fb.tab.2 q hq
  refine k.nx ρ2 n' S2 H1 σ1 exS ⟨f2, e1.len.trans q1.symm, fun j s hs => ?_, fun j j2 es es2 ne g1 g2 => ?_⟩ q
  · by_cases c : j = i
    · subst c
      rw [q3] at hs; cases hs
      obtain ⟨o, o1, v, o2, o3⟩ := e1.sl j _ q2
      cases o3.raw_inv
      exact ⟨o, o1, a, vs, o2, fb.sub _ _ at1, loose_all ld at1 lo (h3.mono (ex.trans ex1)), s2a, h5⟩
    · rcases q4 j s c hs with rfl | ⟨d, rfl, ldd, hd⟩
      · have lj : j < ρ'.length := by rw [← q1]; exact (List.getElem?_eq_some_iff.mp hs).1
        obtain ⟨o, o1, _⟩ := e1.sl j ρ'[j] (by simp [lj])
        exact ⟨o, o1, trivial⟩
      · obtain ⟨o, o1, v, o2, o3⟩ := e1.sl j _ hd
        exact ⟨o, o1, v, o2, ldd _ S1 S2 a v vs at1 lo o3⟩
  · exfalso
    have only : ∀ {j : Nat} {es : List DL.D}, ρ2[j]? = some (.own es) → j = i := fun {j es} g => by
      by_cases c : j = i
      · exact c
      · rcases q4 j _ c g with z | ⟨d, z, _⟩ <;> cases z
    exact ne ((only g1).trans (only g2).symm)
/-- x, y = f(..), z: the first ours -/
theorem ds_parFv {i j l : Nat} {d : D} (hl : ρ[l]? = some (.val d)) (h : DF A te ρ n fun ds m => T.nx ((ρ.set i (.own ds)).set j (.val d)) m) : DS A (tPar i j (tCons te (tCons (tVar l) tNil))) ρ n T := fun S H σ e D k =>
  h S H σ e _ fun a vs ds S1 H1 n1 m1 f1 hn hh hs r p => by
    have e0 := e.mv m1 f1
    obtain ⟨v, g1, g2⟩ := e0.val hl
    refine ⟨v, g1, .ref a, v, rfl, ?_⟩
    have e1 := e0.setOwn (i := i) (vs := vs) (ds := ds) (fun j' es hj' z => by
      obtain ⟨c, ws, g1, g2, _⟩ := e.own hj'
      rw [z] at g1; cases g1
      rw [hn] at g2; cases g2) hh r hs (e.f.h0 hn)
    exact k.nx _ n1 S1 _ _ m1.ss (e1.set (i := j) g2) p
theorem ds_assoc3 {a b c us : TS} (h : DS A (tSeq (tSeq a (tSeq b c)) us) ρ n T) : DS A (tSeq a (tSeq b (tSeq c us))) ρ n T := h
end
end DL
namespace DL
open PySem PySem.Spec PyProof.Rows L2 Evl
/-! e[:0:-1], a tuple -/
namespace Rv1
open HT
variable {prog : Program} {w : World} {A : Around} {E : Value → Shared → Prop} {s : Shared}
theorem adjust_rev1 (n : Nat) (h : 0 < n) : Builtin.Slice.sliceAdjust none (some 0) (-1) (n : Int) = ((n : Int) - 1, 0) := by
  unfold Builtin.Slice.sliceAdjust
  simp
  omega
theorem places_rev1 (n : Nat) : Builtin.Slice.slicePlaces ((n : Int) - 1) 0 (-1) = n - 1 := by
  unfold Builtin.Slice.slicePlaces
  simp
  try omega
theorem rev_pick1 (xs : Array Value) : ((List.range (xs.size - 1)).filterMap fun (m : Nat) => xs[(((xs.size : Nat) : Int) - 1 + (m : Int) * (-1)).toNat]?).toArray = (xs.toList.drop 1).reverse.toArray := by
  congr 1
  have key : ∀ k, k ≤ xs.size → ((List.range k).filterMap fun (m : Nat) => xs[(((xs.size : Nat) : Int) - 1 + (m : Int) * (-1)).toNat]?) = xs.toList.reverse.take k := by
    intro k
    induction k with
    | zero => intro _; simp
    | succ k ih =>
      intro hk
      have e1 : (((xs.size : Nat) : Int) - 1 + (k : Int) * (-1)).toNat = xs.size - 1 - k := by omega
      have hl : xs.size - 1 - k < xs.size := by omega
      rw [List.range_succ, List.filterMap_append, ih (by omega)]
      have e2 : xs.toList.reverse[k]? = some (xs[xs.size - 1 - k]'hl) := by
        rw [List.getElem?_reverse (by rw [Array.length_toList]; omega), Array.length_toList, Array.getElem?_toList, Array.getElem?_eq_getElem hl]
      have e3 : (List.filterMap (fun (m : Nat) => xs[(((xs.size : Nat) : Int) - 1 + (m : Int) * (-1)).toNat]?) [k]) = [xs[xs.size - 1 - k]'hl] := by
        rw [List.filterMap_cons, e1, Array.getElem?_eq_getElem hl]
        rfl
      rw [e3, take_one_more e2]
  rw [key _ (Nat.sub_le _ _), List.reverse_drop, Array.length_toList]
theorem getItem_tuple_rev1 {t sl : Addr} {items : Array Value} {vu vs : Value} {Q : Value → Shared → Prop} (ht : IsTup s.heap t items) (hs : s.heap.IsSliceOf sl .none vu vs) (pu : IsPart vu (some 0)) (hn : 0 < items.size) (ps : IsPart vs (some (-1)))
    (h : Q (.ref s.heap.objs.size) { s with heap := s.heap.push { cls := .type "tuple", data := .seq (items.toList.drop 1).reverse.toArray } })
    (hsz : items.size ≤ sizeLine) : wpAny (model prog w) A (getItem (.ref t) (.ref sl)) Q E s := by
  have htake : sizeOk (.seq (items.toList.drop 1).reverse.toArray) := by
    show (items.toList.drop 1).reverse.toArray.size ≤ sizeLine
    rw [List.size_toArray, List.length_reverse, List.length_drop, Array.length_toList]
    omega
  obtain ⟨os, hos, hcs, hds⟩ := id hs
  have hTs : s.TypeIs (.ref sl) "slice" := ⟨os, hos, hcs⟩
  unfold getItem
  try with_reducible refine wpAny_holding ?_
  first | refine wpAny_bind (wpAny_pure ?_) | skip
  refine wpAny_bind (wpAny_sequenceKey ht.typeIs (by decide) ?_)
  refine wpAny_bind (wpAny_callSpecial?_slot (name := Str.ofString "__getitem__") ht.typeIs PyProof.Rows.slot_tuple_getitem
    (wpAny_call_entry PyProof.Rows.slot_tuple_getitem ht.typeIs entry_tuple_getitem ?_ (args_tuple_getitem _ _)))
  show wpAny _ _ (Builtin.Tuple.tupleItemsOf (.ref t) >>= _) _ _ s
  refine wpAny_bind (tupleItemsOf_ ht ?_)
  refine wpAny_bind (wpAny_typeOf hTs ?_)
  rw [if_pos (by decide)]
  have sa : ∀ {Q : Int × Int × Nat → Shared → Prop} {E : Value → Shared → Prop} {A : Around}, Q (((items.size : Nat) : Int) - 1, -1, items.size - 1) s → wpAny (model prog w) A (Builtin.Slice.sliceApplied (.ref sl) (pure ((items.size : Nat) : Int))) Q E s := by
    intro Q E A h
    unfold Builtin.Slice.sliceApplied Builtin.Slice.sliceFields
    refine wpAny_bind (wpAny_bind (wpAny_field hos hds (x := .none) rfl (wpAny_bind (wpAny_field hos hds (x := vu) rfl (wpAny_bind (wpAny_field hos hds (x := vs) rfl (wpAny_pure ?_)))))))
    refine wpAny_bind (slicePart_ ps ?_)
    show wpAny _ _ (if ((-1 : Int) == 0) = true then _ else _) _ _ s
    rw [if_neg (by decide)]
    refine wpAny_bind (slicePart_ .none (wpAny_bind (slicePart_ pu (wpAny_bind (wpAny_pure ?_)))))
    show wpAny _ _ (match Builtin.Slice.sliceAdjust none (some 0) (-1) ((items.size : Nat) : Int) with | (lo, hi) => pure (lo, (-1 : Int), Builtin.Slice.slicePlaces lo hi (-1))) _ _ s
    rw [adjust_rev1 _ hn]
    show wpAny _ _ (pure (((items.size : Nat) : Int) - 1, (-1 : Int), Builtin.Slice.slicePlaces (((items.size : Nat) : Int) - 1) 0 (-1))) _ _ s
    rw [places_rev1]
    exact wpAny_pure h
  refine wpAny_bind (sa ?_)
  have hno : ¬ ((((items.size : Nat) : Int) - 1 == 0 && (-1 : Int) == 1 && items.size - 1 == items.size) = true) := by
    intro q
    rw [Bool.and_eq_true, Bool.and_eq_true] at q
    exact absurd q.1.2 (by decide)
  show wpAny _ _ (if (((items.size : Nat) : Int) - 1 == 0 && (-1 : Int) == 1 && items.size - 1 == items.size) = true then _ else _) _ _ s
  rw [if_neg hno, rev_pick1]
  first
    | exact wpAny_bind (m := Builtin.Tuple.tupleExact _) (wpAny_newObj_type (wpAny_pure ⟨_, rfl, wpAny_pure h⟩) htake)
    | exact wpAny_bind (m := Builtin.Tuple.tupleExact _) (wpAny_newObj_type (wpAny_bind (wpAny_pure (wpAny_pure ⟨_, rfl, wpAny_pure h⟩))) htake)
    | exact wpAny_bind (wpAny_bind (m := Builtin.Tuple.tupleExact _) (wpAny_newObj_type (wpAny_pure (wpAny_pure ⟨_, rfl, wpAny_pure h⟩)) htake))
    | exact wpAny_bind (wpAny_bind (m := Builtin.Tuple.tupleExact _) (wpAny_newObj_type (wpAny_pure ⟨_, rfl, wpAny_pure h⟩) htake))
end Rv1
def tRev1 (K : PySem.W.Frag) (te : TE) : TE := fun σ H Q => te σ H fun x H1 => ∃ a xs, x = .ref a ∧ SqT K H1 a xs ∧ 0 < xs.length ∧ ∀ p, H1 p = none → Q (.ref p) (upd H1 p (.tup (xs.drop 1).reverse))
section
variable {X : Cx}
theorem kx_rev1 (K : PySem.W.Frag) {e : Expr} {te : TE} {k k0 : _} {p0 p1 p2 p3 pos : Pos} (he : PE X e te) (hK : X.K = K := by rfl) : PE X (.Subscript e (.Slice none (some (.Constant (.int 0) k0 p0)) (some (.UnaryOp .USub (.Constant (.int 1) k p1) p2)) p3) pos) (tRev1 K te) := by
  subst hK
  refine ⟨fun pins s σ H Q I h => ?_⟩
  refine Subscript_ (thn (he.run pins s σ H _ I h) fun v s1 ⟨x, H1, I1, r1, q1⟩ => ?_)
  obtain ⟨a, xs, ex, q1⟩ := q1
  subst ex
  cases r1
  have hst : PO X (some (.UnaryOp .USub (.Constant (.int 1) k p1) p2)) (tPart (tUn (rU fun i => .int (-i)) (tC (.int 1)))) := po_some (pe_un un_neg pe_int)
  have hup : PO X (some (.Constant (.int 0) k0 p0)) (tPart (tC (.int 0))) := po_some pe_int
  refine wpAny_Slice (thn (po_none.run pins s1 σ H1 (fun o H2 => o = none ∧ H2 = H1) I1 ⟨rfl, rfl⟩) fun vl s2 ⟨l, H2, I2, pl, el, e2⟩ => ?_)
  subst el e2
  refine thn (hup.run pins s2 σ H2 (fun o H3 => o = some 0 ∧ H3 = H2) I2 ⟨0, rfl, rfl, rfl⟩) fun vu s3 ⟨u, H3, I3, pu, eu, e3⟩ => ?_
  subst eu e3
  refine thn (hst.run pins s3 σ H3 (fun o H4 => o = some (-1) ∧ H4 = H3) I3 ⟨1, rfl, -1, rfl, rfl, rfl⟩) fun vs s4 ⟨o, H4, I4, ps, eo, e4⟩ => ?_
  subst eo e4
  have I5 : Inv X pins σ H4 { s4 with heap := s4.heap.push { cls := .type "slice", data := .fields #[vl, vu, vs] } } := I4.kept (t' := s4.toks) fun b ob q => Heap.get?_push_of_some _ q
  show wpAny (model X.prog X.w) X.A (subscriptTail e (.Slice none (some (.Constant (.int 0) k0 p0)) (some (.UnaryOp .USub (.Constant (.int 1) k p1) p2)) p3) (.ref a) (.ref s4.heap.objs.size)) (EP X pins σ Q) X.xe { s4 with heap := s4.heap.push { cls := .type "slice", data := .fields #[vl, vu, vs] } }
  obtain ⟨hx, hn, q⟩ := q1
  obtain ⟨its, r, ht, hz⟩ := I5.tuple hx
  have hlen := r.length
  cases pl
  refine tail_any (ops := [.ref a, .ref s4.heap.objs.size]) ht.typeIs (PyProof.Rows.slot_tuple_getitem.lookup) ?_ (by with_unfolding_all rfl)
  refine Rv1.getItem_tuple_rev1 ht (Heap.IsSliceOf.new _ _ _ vs) pu (by rw [List.size_toArray]; omega) ps ?_ (by rw [List.size_toArray]; omega)
  refine ⟨.ref _, _, I5.laid (t' := s4.toks) (o := .tup (xs.drop 1).reverse) (fun b ob q => Heap.get?_push_of_some _ q) (Nat.le_refl _) ?_, rfl, q _ (I5.hok.fresh (Nat.le_refl _))⟩
  exact ⟨by rw [List.length_reverse, List.length_drop]; omega, (its.drop 1).reverse, (r.drop 1).reverse, _, Heap.get?_push_size _ rfl, rfl, 0, rfl⟩
end
section
variable {A : Amb} {te : TE} {ρ : Rho} {n : Nat}
theorem de_rev1 {P : D → Nat → Prop} (h : DE A te ρ n fun d m => ∃ ds, d = .tup ds ∧ 0 < ds.length ∧ P (.tup (ds.drop 1).reverse) m) : DE A (tRev1 A.K te) ρ n P := fun S H σ e Q q =>
  h S H σ e _ fun v d S1 H1 n1 m1 f1 r1 ⟨ds, hd, hn, p⟩ => by
    subst hd
    obtain ⟨a, vs, rfl, h1, h2⟩ := r1.tup_inv
    have hl := h2.length
    have h3 : Reps A.K S1 (vs.drop 1) (ds.drop 1) := by
      cases ds with
      | nil => exact absurd hn (Nat.lt_irrefl 0)
      | cons d ds =>
        obtain ⟨v, w, rfl, _, r2⟩ := h2.uncons
        exact r2
    refine ⟨a, vs, rfl, Evl.st_of (f1.sub _ _ h1), by omega, fun t ht => ?_⟩
    exact q _ _ _ _ n1 (m1.trans f1.bt (Mv.new f1.sub ht)) (f1.new ht) (Rep.tup upd_same (h3.reverse.mono (Mv.new (b := A.b) f1.sub ht).ss)) p
end
end DL
namespace DL
open PySem PySem.Spec PyProof.Rows L2 Evl
section
variable {A : Amb} {te tb : TE} {tt : TT} {ts us : TS} {ρ : Rho} {n : Nat} {T : DEnds}
/-- x, y = f(..), e: the first ours -/
theorem ds_parFE {i j : Nat} (h : DF A te ρ n fun ds m => DE A tb ρ m fun d m2 => T.nx ((ρ.set i (.own ds)).set j (.val d)) m2) : DS A (tPar i j (tCons te (tCons tb tNil))) ρ n T := fun S H σ e D k => by
  refine h S H σ e _ fun a vs ds S1 H1 n1 m1 f1 hHa hH1 hS1 r1 h2 => ?_
  refine h2 S1 H1 σ (e.mv m1 f1) _ fun v d S3 H3 n3 m3 f3 r p => ?_
  have e3 := (e.mv m1 f1).mv m3 f3
  have a0 : A.H0 a = none := e.f.h0 hHa
  have nbA : some a ≠ A.b := fun z => (f1.box a z.symm).2.2 a0
  have a3 : H3 a = some (.lst vs) := m3.fr a _ nbA hH1
  have sa3 : S3 a = none := m3.sep a (by rw [hH1]; exact fun z => nomatch z) hS1
  have g1 := e3.setOwn (i := i) (fun j es hj z => by
    obtain ⟨c, us, x1, x2, _⟩ := e.own hj
    rw [z] at x1; cases x1
    rw [hHa] at x2; cases x2) a3 (r1.mono m3.ss) sa3 a0
  exact ⟨_, _, rfl, k.nx _ n3 S3 H3 _ (m1.ss.trans m3.ss) (g1.set (i := j) r) p⟩
end
def tVoid : TS := fun _ _ _ => False
theorem pss_void {X : Cx} {st : List Stmt} : PSs X st tVoid := ⟨fun _ _ _ _ _ _ h => h.elim⟩
section
variable {A : Amb} {ρ : Rho} {n : Nat} {S H : Hp} {σ : L2.St} {D : Ends}
theorem retF {te : TE} {P : DL.D → Nat → Prop} (h : DF A te ρ n fun es m => P (.lst es) m) (e : ER A n S H σ ρ)
    (hq : ∀ a ws es S' H' n', Mv A.b A.S0 A.H0 S' H' → Fr A n' S' H' → A.H0 a = none → H' a = some (.lst ws) → S' a = none → Reps A.K S' ws es → P (.lst es) n' → D.rt (.ref a) H') : tRet te D σ H :=
  h S H σ e _ fun a vs ds S' H' n' m f hn hh hs r p => hq a vs ds S' H' n' (e.f.mv.trans e.f.bt m) f (e.f.h0 hn) hh hs r p
end
end DL
namespace DL
open PySem PySem.Spec PyProof.Rows L2 Evl
/-! sorted(xs), xs a list of data of one shape -/
theorem each_vals : ∀ {ps : List (V × D)} {us : List Value}, Vals (ps.map Prod.fst) us → PySem.W.EachIs (fun v (p : V × D) => RelV p.1 v) us ps
  | [], _, .nil => .nil
  | p :: ps, _, .cons r t => .cons r (each_vals t)
theorem vals_each : ∀ {ps : List (V × D)} {us : List Value}, PySem.W.EachIs (fun v (p : V × D) => RelV p.1 v) us ps → Vals (ps.map Prod.fst) us
  | _, _, .nil => .nil
  | _, _, .cons r t => .cons r (vals_each t)
/-- sorted(xs) of data -/
def rSortD (K : PySem.W.Frag) : List V → Hp → VK → Prop := fun vs H Q => ∃ (a : Addr) (ps : List (V × D)), vs = [V.ref a] ∧ SqL K H a (ps.map Prod.fst) ∧ (∀ p ∈ ps, Dp K H p.1 (toP p.2)) ∧
  PySem.W.AllAlike (ps.map fun p => toP p.2) ∧ PySem.W.Sortable (ps.map fun p => toP p.2) ∧ (∀ p ∈ ps, (toP p.2).depth ≤ 60) ∧
  ∀ t, H t = none → Q (.ref t) (upd H t (.lst ((ps.mergeSort (PySem.W.dataLe false fun p => toP p.2)).map Prod.fst)))
section
variable {X : Cx}
theorem cr_sortD (hu : X.A.units + 64 < cLine) : CallR X (.builtin "sorted") (rSortD X.K) := by
  intro pins s σ H vs us Q I r h
  obtain ⟨a, ps, rfl, hs, hd, hal, hk, hdep, q⟩ := h
  obtain ⟨its, rv, pl, hz⟩ := I.list hs
  rw [Vals.ref1 r]
  have e := each_vals rv
  have er : PySem.W.EachIs (fun v (p : V × D) => ∃ as, Reads s.heap v (toP p.2) as) its ps := by
    have go : ∀ {us : List Value} {qs : List (V × D)}, (∀ p ∈ qs, Dp X.K H p.1 (toP p.2)) → PySem.W.EachIs (fun v (p : V × D) => RelV p.1 v) us qs → PySem.W.EachIs (fun v (p : V × D) => ∃ as, Reads s.heap v (toP p.2) as) us qs := by
      intro us qs hq h
      induction h with
      | nil => exact .nil
      | cons r t ih => exact .cons (Dp.reads I _ _ _ (hq _ List.mem_cons_self) r) (ih fun p hp => hq p (List.mem_cons_of_mem _ hp))
    exact go hd e
  have el : its.length = ps.length := e.length
  refine PySem.W.sorted_data (enc := fun p : V × D => toP p.2) pl.isList e er hal hk (by rw [← el, ← rv.length]; exact hz) (fun b hb => by
    have := hdep b hb
    show X.A.units + 2 + (toP b.2).depth < cLine
    omega) fun out hlen eo => ?_
  obtain ⟨ep, he'⟩ := PyProof.Rows.sortedAll_at s.heap its out.toArray
  have ml : ((ps.mergeSort (PySem.W.dataLe false fun p => toP p.2)).map Prod.fst).length ≤ sizeLine := by
    rw [List.length_map, List.length_mergeSort, ← List.length_map (f := Prod.fst)]
    exact hz
  exact ⟨.ref _, upd H (s.heap.objs.size + 1) (.lst ((ps.mergeSort (PySem.W.dataLe false fun p => toP p.2)).map Prod.fst)), I.laid (t' := s.toks) (fun _ _ => PyProof.Rows.sortedAll_old) (Nat.le_succ _) ⟨ml, out, ep, vals_each eo, he'⟩, rfl, q _ (I.hok.fresh (Nat.le_succ _))⟩
theorem kx_sortD (K : PySem.W.Frag) (hu : X.A.units + 64 < cLine) (h : X.K = K := by rfl) : CallR X (.builtin "sorted") (rSortD K) := h ▸ cr_sortD hu
end
theorem reps_zip {K : PySem.W.Frag} {S : Hp} : ∀ {ds : List D} {vs : List V}, Reps K S vs ds → ∃ ps : List (V × D), ps.map Prod.fst = vs ∧ ps.map Prod.snd = ds ∧ ∀ p ∈ ps, Rep K S p.1 p.2
  | [], vs, h => ⟨[], by unfold Reps at h; exact h.symm, rfl, fun p z => nomatch z⟩
  | d :: ds, vs, h => by
    obtain ⟨v, r, rfl, h1, h2⟩ := h.uncons
    obtain ⟨ps, e1, e2, e3⟩ := reps_zip h2
    refine ⟨(v, d) :: ps, by rw [List.map_cons, e1], by rw [List.map_cons, e2], fun p hp => ?_⟩
    rcases List.mem_cons.mp hp with rfl | hp
    · exact h1
    · exact e3 p hp
theorem zip_reps {K : PySem.W.Frag} {S : Hp} : ∀ {ps : List (V × D)}, (∀ p ∈ ps, Rep K S p.1 p.2) → Reps K S (ps.map Prod.fst) (ps.map Prod.snd)
  | [], _ => Reps.nil
  | p :: ps, h => Reps.cons (h p List.mem_cons_self) (zip_reps fun q hq => h q (List.mem_cons_of_mem _ hq))
section
variable {A : Amb} {te : TE} {ρ : Rho} {n : Nat}
theorem df_sortD {P : List D → Nat → Prop} (h : DE A te ρ n fun d m => ∃ ds : List D, d = .lst ds ∧ (∀ x ∈ ds, pureD x = true ∧ (toP x).depth ≤ 60) ∧ PySem.W.AllAlike (ds.map toP) ∧ PySem.W.Sortable (ds.map toP) ∧ P (ds.mergeSort (PySem.W.dataLe false toP)) m) :
    DF A (tCB (rSortD A.K) (tCons te tNil)) ρ n P := fun S H σ e Q q => by
  refine h S H σ e _ fun v d S1 H1 n1 m1 f1 r1 ⟨ds, hd, hx, hal, hk, hp⟩ => ?_
  subst hd
  obtain ⟨l, vs, rfl, a1, a2⟩ := r1.lst_inv
  obtain ⟨ps, e1, e2, e3⟩ := reps_zip a2
  have mem2 : ∀ p ∈ ps, p.2 ∈ ds := fun p hp => by rw [← e2]; exact List.mem_map.mpr ⟨p, hp, rfl⟩
  have em : ps.map (fun p => toP p.2) = ds.map toP := by rw [← e2, List.map_map]; rfl
  refine ⟨l, ps, rfl, by rw [e1]; exact Evl.sq_of (f1.sub _ _ a1), fun p hp => rep_dp f1.sub _ _ (hx _ (mem2 p hp)).1 (e3 p hp), by rw [em]; exact hal, by rw [em]; exact hk, fun p hp => (hx _ (mem2 p hp)).2, fun t ht => ?_⟩
  have f2 := f1.newO (o := .lst ((ps.mergeSort (PySem.W.dataLe false fun p => toP p.2)).map Prod.fst)) ht
  have hn0 : H t = none := by
    cases z : H t with
    | none => rfl
    | some o => exact absurd ht (m1.there f1.bt (by rw [z]; exact fun y => nomatch y))
  have es : (ps.mergeSort (PySem.W.dataLe false fun p => toP p.2)).map Prod.snd = ds.mergeSort (PySem.W.dataLe false toP) := by
    rw [← e2]
    exact List.map_mergeSort (r := PySem.W.dataLe false fun p : V × D => toP p.2) (s := PySem.W.dataLe false toP) (f := Prod.snd) (fun a _ b _ => rfl)
  refine q t _ ((ps.mergeSort (PySem.W.dataLe false fun p => toP p.2)).map Prod.snd) S1 _ n1 (m1.trans f1.bt (Mv.newO ht)) f2 hn0 upd_same (f1.s0 ht) (zip_reps fun p hp => e3 p (List.mem_mergeSort.mp hp)) ?_
  rw [es]
  exact hp
/-- sorted(xs), xs in order -/
theorem df_sortAsc {P : List D → Nat → Prop} (h : DE A te ρ n fun d m => ∃ ds : List D, d = .lst ds ∧ (∀ x ∈ ds, pureD x = true ∧ (toP x).depth ≤ 60) ∧ PySem.W.AllAlike (ds.map toP) ∧ PySem.W.Sortable (ds.map toP) ∧ ds.Pairwise (fun a b => PySem.W.dataLt (toP b) (toP a) = false) ∧ P ds m) :
    DF A (tCB (rSortD A.K) (tCons te tNil)) ρ n P := df_sortD (h.imp fun d m ⟨ds, h1, h2, h3, h4, h5, h6⟩ => ⟨ds, h1, h2, h3, h4, by
  rw [List.mergeSort_of_pairwise (h5.imp fun {a b} hab => by
    rw [PySem.W.dataLe_eq]
    show (!PySem.W.dataLt (toP b) (toP a)) = true
    rw [hab]; rfl)]
  exact h6⟩)
end
/-! sorted(xs) of at most one item; is True; appends -/
def rSort1 (K : PySem.W.Frag) : List V → Hp → VK → Prop := fun vs H Q => ∃ (a : Addr) (xs : List V), vs = [V.ref a] ∧ SqL K H a xs ∧ xs.length ≤ 1 ∧ ∀ t, H t = none → Q (.ref t) (upd H t (.lst xs))
section
variable {X : Cx}
theorem cr_sort1 : CallR X (.builtin "sorted") (rSort1 X.K) := by
  intro pins s σ H vs us Q I r h
  obtain ⟨a, xs, rfl, hs, h1, q⟩ := h
  obtain ⟨its, rv, pl, hz⟩ := I.list hs
  rw [Vals.ref1 r]
  have el : xs.length = its.length := rv.length
  refine SrtO.sorted_ord (ltv := fun _ _ => false) ⟨fun _ _ _ => rfl, fun _ _ _ _ _ => rfl⟩ pl.isList (by rw [← el]; exact hz) (fun h2 => by omega) fun out h1' h2 => ?_
  have eo : out = its := by
    match its, el, h2.perm with
    | [], _, p => exact p.eq_nil
    | [x], _, p => exact List.perm_singleton.mp p
    | _ :: _ :: _, el, _ => simp at el; omega
  subst eo
  obtain ⟨ep, he'⟩ := PyProof.Rows.sortedAll_at s.heap out out.toArray
  exact ⟨.ref _, upd H (s.heap.objs.size + 1) (.lst xs), I.laid (t' := s.toks) (fun _ _ => PyProof.Rows.sortedAll_old) (Nat.le_succ _) ⟨hz, out, ep, rv, he'⟩, rfl, q _ (I.hok.fresh (Nat.le_succ _))⟩
def rSortDD (K : PySem.W.Frag) : List V → Hp → VK → Prop := fun xs H Q => rSortD K xs H Q ∨ rSort1 K xs H Q
theorem kx_sortDD (K : PySem.W.Frag) (hu : X.A.units + 64 < cLine) (h : X.K = K := by rfl) : CallR X (.builtin "sorted") (rSortDD K) := h ▸ callR_or (cr_sortD hu) cr_sort1
end
section
variable {A : Amb} {te ta tb : TE} {ρ : Rho} {n : Nat} {T : DEnds}
/-- sorted(xs), xs in order -/
theorem df_sortUp {P : List D → Nat → Prop} (h : DE A te ρ n fun d m => ∃ ds : List D, d = .lst ds ∧ (ds.length ≤ 1 ∨ (∀ x ∈ ds, pureD x = true ∧ (toP x).depth ≤ 60) ∧ PySem.W.AllAlike (ds.map toP) ∧ PySem.W.Sortable (ds.map toP) ∧ ds.Pairwise (fun a b => PySem.W.dataLt (toP b) (toP a) = false)) ∧ P ds m) :
    DF A (tCB (rSortDD A.K) (tCons te tNil)) ρ n P := fun S H σ e Q q => by
  refine h S H σ e _ fun v d S1 H1 n1 m1 f1 r1 ⟨ds, hd, hc, hp⟩ => ?_
  have fin := m1
  subst hd
  rcases hc with hc | ⟨h1, h2, h3, h4⟩
  · obtain ⟨l, vs, rfl, a1, a2⟩ := r1.lst_inv
    refine Or.inr ⟨l, vs, rfl, Evl.sq_of (f1.sub _ _ a1), by rw [a2.length]; exact hc, fun t ht => ?_⟩
    have hn0 : H t = none := by
      cases z : H t with
      | none => rfl
      | some o => exact absurd ht (m1.there f1.bt (by rw [z]; exact fun y => nomatch y))
    exact q t vs ds S1 _ n1 (m1.trans f1.bt (Mv.newO ht)) (f1.newO ht) hn0 upd_same (f1.s0 ht) a2 hp
  · obtain ⟨l, vs, rfl, a1, a2⟩ := r1.lst_inv
    obtain ⟨ps, e1, e2, e3⟩ := reps_zip a2
    have mem2 : ∀ p ∈ ps, p.2 ∈ ds := fun p hp => by rw [← e2]; exact List.mem_map.mpr ⟨p, hp, rfl⟩
    have em : ps.map (fun p => toP p.2) = ds.map toP := by rw [← e2, List.map_map]; rfl
    refine Or.inl ⟨l, ps, rfl, by rw [e1]; exact Evl.sq_of (f1.sub _ _ a1), fun p hp => rep_dp f1.sub _ _ (h1 _ (mem2 p hp)).1 (e3 p hp), by rw [em]; exact h2, by rw [em]; exact h3, fun p hp => (h1 _ (mem2 p hp)).2, fun t ht => ?_⟩
    have hn0 : H t = none := by
      cases z : H t with
      | none => rfl
      | some o => exact absurd ht (m1.there f1.bt (by rw [z]; exact fun y => nomatch y))
    have es : (ps.mergeSort (PySem.W.dataLe false fun p => toP p.2)).map Prod.snd = ds := by
      rw [List.map_mergeSort (r := PySem.W.dataLe false fun p : V × D => toP p.2) (s := PySem.W.dataLe false toP) (f := Prod.snd) (fun a _ b _ => rfl), e2]
      refine List.mergeSort_of_pairwise (h4.imp fun {a b} hab => ?_)
      rw [PySem.W.dataLe_eq]
      show (!PySem.W.dataLt (toP b) (toP a)) = true
      rw [hab]; rfl
    refine q t _ ((ps.mergeSort (PySem.W.dataLe false fun p => toP p.2)).map Prod.snd) S1 _ n1 (m1.trans f1.bt (Mv.newO ht)) (f1.newO ht) hn0 upd_same (f1.s0 ht) (zip_reps fun p hp => e3 p (List.mem_mergeSort.mp hp)) ?_
    rw [es]
    exact hp
/-- sorted(xs), xs data of one shape -/
theorem df_sortAll {P : List D → Nat → Prop} (h : DE A te ρ n fun d m => ∃ ds : List D, d = .lst ds ∧ ((ds.length ≤ 1 ∧ P ds m) ∨ (∀ x ∈ ds, pureD x = true ∧ (toP x).depth ≤ 60) ∧ PySem.W.AllAlike (ds.map toP) ∧ PySem.W.Sortable (ds.map toP) ∧ P (ds.mergeSort (PySem.W.dataLe false toP)) m)) :
    DF A (tCB (rSortDD A.K) (tCons te tNil)) ρ n P := fun S H σ e Q q => by
  refine h S H σ e _ fun v d S1 H1 n1 m1 f1 r1 ⟨ds, hd, hc⟩ => ?_
  have fin := m1
  subst hd
  rcases hc with ⟨hc, hp⟩ | ⟨h1, h2, h3, hp⟩
  · obtain ⟨l, vs, rfl, a1, a2⟩ := r1.lst_inv
    refine Or.inr ⟨l, vs, rfl, Evl.sq_of (f1.sub _ _ a1), by rw [a2.length]; exact hc, fun t ht => ?_⟩
    have hn0 : H t = none := by
      cases z : H t with
      | none => rfl
      | some o => exact absurd ht (m1.there f1.bt (by rw [z]; exact fun y => nomatch y))
    exact q t vs ds S1 _ n1 (m1.trans f1.bt (Mv.newO ht)) (f1.newO ht) hn0 upd_same (f1.s0 ht) a2 hp
  · obtain ⟨l, vs, rfl, a1, a2⟩ := r1.lst_inv
    obtain ⟨ps, e1, e2, e3⟩ := reps_zip a2
    have mem2 : ∀ p ∈ ps, p.2 ∈ ds := fun p hp => by rw [← e2]; exact List.mem_map.mpr ⟨p, hp, rfl⟩
    have em : ps.map (fun p => toP p.2) = ds.map toP := by rw [← e2, List.map_map]; rfl
    refine Or.inl ⟨l, ps, rfl, by rw [e1]; exact Evl.sq_of (f1.sub _ _ a1), fun p hp => rep_dp f1.sub _ _ (h1 _ (mem2 p hp)).1 (e3 p hp), by rw [em]; exact h2, by rw [em]; exact h3, fun p hp => (h1 _ (mem2 p hp)).2, fun t ht => ?_⟩
    have hn0 : H t = none := by
      cases z : H t with
      | none => rfl
      | some o => exact absurd ht (m1.there f1.bt (by rw [z]; exact fun y => nomatch y))
    have es : (ps.mergeSort (PySem.W.dataLe false fun p => toP p.2)).map Prod.snd = ds.mergeSort (PySem.W.dataLe false toP) := by
      rw [List.map_mergeSort (r := PySem.W.dataLe false fun p : V × D => toP p.2) (s := PySem.W.dataLe false toP) (f := Prod.snd) (fun a _ b _ => rfl), e2]
    refine q t _ ((ps.mergeSort (PySem.W.dataLe false fun p => toP p.2)).map Prod.snd) S1 _ n1 (m1.trans f1.bt (Mv.newO ht)) (f1.newO ht) hn0 upd_same (f1.s0 ht) (zip_reps fun p hp => e3 p (List.mem_mergeSort.mp hp)) ?_
    rw [es]
    exact hp
end
end DL
namespace DL
open PySem PySem.Spec PyProof.Rows L2 Evl
/-! data in a tuple of data -/
def rInT (K : PySem.W.Frag) : R2 := fun x y H Q => ∃ d ds, Dp K H x d ∧ Dp K H y (.tuple ds) ∧ SeqAt.shaped d = true ∧ SeqAt.shaped (.tuple ds) = true ∧ Q (.bl (ds.any fun z => PyData.eqv z d)) H
section
variable {X : Cx}
theorem op_inT (hu : X.A.units + 65 < cLine) : OpR X (compareOp .In) (rInT X.K) := by
  intro pins s σ H x y v u Q I rx ry h
  obtain ⟨d, ds, hd, he, sd, se, q⟩ := h
  obtain ⟨as, r1⟩ := Dp.reads I d x v hd rx
  obtain ⟨bs, r2⟩ := Dp.reads I (.tuple ds) y u he ry
  exact SeqAt.in_tuple_reads r2 r1 (SeqAt.canLay_of_shaped se) (SeqAt.canLay_of_shaped sd) (room_in_shaped sd hu) ⟨.bl _, H, I, rfl, q⟩
theorem kx_inT (K : PySem.W.Frag) (hu : X.A.units + 65 < cLine) (h : X.K = K := by rfl) : OpR X (compareOp .In) (rInT K) := h ▸ op_inT hu
end
section
variable {A : Amb} {ρ : Rho} {n : Nat}
theorem dr_inT {x : D} {ds : List D} {P : D → Nat → Prop} (hx : okD x = true) (hy : okD (.tup ds) = true) (p : P (.bl ((toPs ds).any fun z => PyData.eqv z (toP x))) n) : DR A (rInT A.K) x (.tup ds) n P := fun S H v w f r1 r2 Q q => by
  have a := Bool.and_eq_true_iff.mp hx
  have b := Bool.and_eq_true_iff.mp hy
  exact ⟨toP x, toPs ds, rep_dp f.sub x v a.1 r1, rep_dp f.sub (.tup ds) w b.1 r2, a.2, b.2, q _ _ S H n Mv.refl f Rep.bl p⟩
end
end DL
namespace DL
open PySem PySem.Spec PyProof.Rows L2 Evl
/-! d = dict(ps), ps a list of pairs -/
theorem merge_val : ∀ (kvs acc : List (Key × V)) (k : Key), (∀ kv ∈ kvs, kv.1 ≠ k) → valV (mergeK acc kvs) k = valV acc k
  | [], _, _, _ => rfl
  | kv :: kvs, acc, k, h => by
    show valV (mergeK (putK acc kv.1 kv.2) kvs) k = _
    rw [merge_val kvs _ k fun x hx => h x (List.mem_cons_of_mem _ hx), valV_put, if_neg (fun z => h kv List.mem_cons_self z.symm)]
theorem merge_at : ∀ (kvs acc : List (Key × V)), (kvs.map Prod.fst).Nodup → ∀ (i : Nat) (k : Key) (v : V), kvs[i]? = some (k, v) → valV (mergeK acc kvs) k = some v
  | [], _, _, i, k, v, h => by simp at h
  | kv :: kvs, acc, nd, 0, k, v, h => by
    have e : kv = (k, v) := by simpa using h
    subst e
    have nd' := List.nodup_cons.mp (show (k :: kvs.map Prod.fst).Nodup from nd)
    show valV (mergeK (putK acc k v) kvs) k = _
    rw [merge_val kvs _ k fun x hx z => nd'.1 (by rw [← z]; exact List.mem_map.mpr ⟨x, hx, rfl⟩), valV_put, if_pos rfl]
  | kv :: kvs, acc, nd, i + 1, k, v, h => by
    have nd' := List.nodup_cons.mp (show (kv.1 :: kvs.map Prod.fst).Nodup from nd)
    exact merge_at kvs _ nd'.2 i k v (by simpa using h)
def rDictP (K : PySem.W.Frag) : List V → Hp → VK → Prop := fun xs H Q => ∃ (a : Addr) (ps : List Addr) (kvs : List (Key × V)), xs = [.ref a] ∧ SqL K H a (ps.map V.ref) ∧ Paired (fun p kv => SqT K H p [kV kv.1, kv.2]) ps kvs ∧
    ∀ p, H p = none → Q (.ref p) (upd H p (.dK (mergeK [] kvs)))
section
variable {X : Cx}
theorem kx_dictP (K : PySem.W.Frag) (hc : X.calm = true := by rfl) (h : X.K = K := by rfl) : CallR X (.type "dict") (rDictP K) := h ▸ call_dictP hc
end
theorem rep_prs {K : PySem.W.Frag} {S H : Hp} (sub : Ex S H) : ∀ (ps : List (Int × D)) (us : List V), Reps K S us (ps.map fun p => D.tup [.int p.1, p.2]) → ∃ (as : List Addr) (kvs : List (Key × V)), us = as.map V.ref ∧ Paired (fun p kv => SqT K H p [kV kv.1, kv.2]) as kvs ∧ kvs.map Prod.fst = ps.map (fun p => (Sum.inl p.1 : Key)) ∧ Reps K S (kvs.map Prod.snd) (ps.map Prod.snd)
  | [], us, h => by
    have : us = [] := by unfold Reps at h; exact h
    subst this
    exact ⟨[], [], rfl, .nil, rfl, Reps.nil⟩
  | p :: ps, us, h => by
    obtain ⟨v, r, rfl, h1, h2⟩ := h.uncons
    obtain ⟨a, vs, rfl, a1, a2⟩ := h1.tup_inv
    obtain ⟨v1, r1, rfl, b1, b2⟩ := a2.uncons
    obtain ⟨v2, r2, rfl, c1, c2⟩ := b2.uncons
    have : r2 = [] := by unfold Reps at c2; exact c2
    subst this
    cases b1.int_inv
    obtain ⟨as, kvs, rfl, e2, e3, e4⟩ := rep_prs sub ps r h2
    exact ⟨a :: as, (.inl p.1, v2) :: kvs, rfl, .cons (Evl.st_of (sub _ _ a1)) e2, by rw [List.map_cons, List.map_cons, e3], Reps.cons c1 e4⟩
section
variable {A : Amb} {te tb : TE} {ts : TS} {ρ : Rho} {n : Nat} {T : DEnds}
/-- d = dict(ps) -/
theorem ds_dictP {i : Nat} (h : DE A te ρ n fun d m => ∃ ps : List (Int × D), d = .lst (ps.map fun p => D.tup [.int p.1, p.2]) ∧ (ps.map Prod.fst).Nodup ∧
      ∀ (S1 : Hp) (p : Addr), (XOk A → XOk (dicA A S1)) → DicC (dicA A S1) p (ps.map Prod.fst) (ps.map Prod.snd) → DS (dicA A S1) ts (ρ.set i (.val (.raw (.ref p)))) m T) : DS A (tSeq (tAsg (tCB (rDictP A.K) (tCons te tNil)) (gName i)) ts) ρ n T := fun S H σ e Dn k => by
  refine h S H σ e _ fun v d S1 H1 n1 m1 f1 r1 ⟨ps, hd, nd, h3⟩ => ?_
  subst hd
  obtain ⟨a, us, rfl, a1, a2⟩ := r1.lst_inv
  obtain ⟨as, kvs, rfl, e2, e3, e4⟩ := rep_prs f1.sub ps us a2
  refine ⟨a, as, kvs, rfl, Evl.sq_of (f1.sub _ _ a1), e2, fun p hp => ?_⟩
  have mn : Mv A.b S1 H1 (upd S1 p (.dK (mergeK [] kvs))) (upd H1 p (.dK (mergeK [] kvs))) := Mv.new f1.sub hp
  have fn := f1.new (o := .dK (mergeK [] kvs)) hp
  have er := ((e.mv m1 f1).mv mn fn).set (i := i) (Rep.raw (u := V.ref p))
  have rep : DicC (dicA A (upd S1 p (.dK (mergeK [] kvs)))) p (ps.map Prod.fst) (ps.map Prod.snd) := ⟨_, upd_same, fun q g x h1 h2 => by
    have eK : (kvs.map Prod.fst)[q]? = some (Sum.inl g : Key) := by
      rw [e3, List.getElem?_map]
      rw [List.getElem?_map] at h1
      cases z : ps[q]? with
      | none => rw [z] at h1; cases h1
      | some y => rw [z] at h1; cases h1; rfl
    obtain ⟨u, hu, ru⟩ := e4.get h2
    rw [List.getElem?_map] at eK hu
    cases z : kvs[q]? with
    | none => rw [z] at hu; cases hu
    | some y =>
      rw [z] at eK hu
      have e5 : y = ((Sum.inl g : Key), u) := by
        have b1 : y.1 = (Sum.inl g : Key) := Option.some.inj eK
        have b2 : y.2 = u := Option.some.inj hu
        rw [← b1, ← b2]
      rw [e5] at z
      refine ⟨u, merge_at kvs [] ?_ q _ u z, ru.mono mn.ss⟩
      rw [e3]
      have : ps.map (fun p => (Sum.inl p.1 : Key)) = (ps.map Prod.fst).map Sum.inl := by rw [List.map_map]; rfl
      rw [this]
      exact List.Pairwise.map _ (fun a b (h : a ≠ b) (z : (Sum.inl a : Key) = Sum.inl b) => h (Sum.inl.inj z)) nd⟩
  refine h3 _ p (dic_xok fn) rep _ _ _ ⟨dic_in fn, er.len, er.sl, er.ap⟩ Dn ⟨fun ρ' n' S' H' σ' ex e' q => ?_, fun v d n' S' H' ex f r q => ?_, fun ρ' n' S' H' σ' ex e' q => ?_, fun ρ' n' S' H' σ' ex e' q => ?_⟩
  · exact k.nx ρ' n' S' H' σ' ((m1.ss.trans mn.ss).trans ex) (dic_er (dic_back fn e'.f) e') q
  · exact k.rt v d n' S' H' ((m1.ss.trans mn.ss).trans ex) (dic_back fn f) r q
  · exact k.bk ρ' n' S' H' σ' ((m1.ss.trans mn.ss).trans ex) (dic_er (dic_back fn e'.f) e') q
  · exact k.ct ρ' n' S' H' σ' ((m1.ss.trans mn.ss).trans ex) (dic_er (dic_back fn e'.f) e') q
theorem dr_inD {x : D} {ds : List D} {P : D → Nat → Prop} (hx : okD x = true) (hy : okD (.lst ds) = true) (p : P (.bl ((toPs ds).any fun z => PyData.eqv z (toP x))) n) : DR A (rInD A.K) x (.lst ds) n P := fun S H v w f r1 r2 Q q => by
  have a := Bool.and_eq_true_iff.mp hx
  have b := Bool.and_eq_true_iff.mp hy
  exact ⟨toP x, toPs ds, rep_dp f.sub x v a.1 r1, rep_dp f.sub (.lst ds) w b.1 r2, a.2, b.2, q _ _ S H n Mv.refl f Rep.bl p⟩
end
/-! data in a list of data -/
section
variable {X : Cx}
theorem kx_inD (K : PySem.W.Frag) (hu : X.A.units + 65 < cLine) (h : X.K = K := by rfl) : OpR X (compareOp .In) (rInD K) := h ▸ op_inD hu
end
/-! len(set(ns)), ns a list of ints -/
theorem as_many : ∀ (ns us : List Int), us.Nodup → (∀ k ∈ us, k ∈ ns) → us.length = ns.length → ns.Nodup
  | [], _, _, _, _ => List.nodup_nil
  | x :: ns, us, nd, h, e => by
    rw [List.length_cons] at e
    have out : ¬ ∀ k ∈ us, k ∈ ns := fun z => by
      have := nodup_le nd z
      omega
    have hx : x ∈ us := Classical.byContradiction fun c => out fun k hk => by
      rcases List.mem_cons.mp (h k hk) with z | z
      · exact absurd (z ▸ hk) c
      · exact z
    have hn : x ∉ ns := fun c => out fun k hk => by
      rcases List.mem_cons.mp (h k hk) with z | z
      · rw [z]; exact c
      · exact z
    refine List.nodup_cons.mpr ⟨hn, as_many ns (us.erase x) (nd.sublist List.erase_sublist) (fun k hk => ?_) ?_⟩
    · rcases List.mem_cons.mp (h k (List.mem_of_mem_erase hk)) with z | z
      · rw [z] at hk
        exact absurd hk (fun q => (List.Nodup.mem_erase_iff nd).mp q |>.1 rfl)
      · exact z
    · have := List.length_erase_of_mem hx
      have := List.length_pos_of_mem hx
      omega
theorem dup_less {ns us : List Int} (nd : us.Nodup) (h : ∀ k, k ∈ us ↔ k ∈ ns) : us.length ≤ ns.length ∧ (us.length = ns.length ↔ ns.Nodup) := by
  have le := nodup_le nd fun k hk => (h k).mp hk
  refine ⟨le, fun e => as_many ns us nd (fun k hk => (h k).mp hk) e, fun nd2 => ?_⟩
  have := nodup_le nd2 fun k hk => (h k).mpr hk
  omega
def tLenSetG (K : PySem.W.Frag) (ta : TE) : TE := fun σ H Q => ta σ H fun x H1 => ∃ (l : Addr) (ns : List Int), x = V.ref l ∧ SqL K H1 l (ns.map V.int) ∧ ns.length < 4000 ∧ ∀ c : Nat, c ≤ ns.length → (c = ns.length ↔ ns.Nodup) → Q (.int (c : Int)) H1
section
variable {X : Cx}
theorem pe_lenSetG (K : PySem.W.Frag) {a : Expr} {ta : TE} {p p2 q pos : Pos} (hm : X.mg "len" = none) (hm2 : X.mg "set" = none) (ha : PE X a ta) (hc : X.calm = true := by rfl) (hg : Gl X "len" := by rfl) (hg2 : Gl X "set" := by rfl) (hK : X.K = K := by rfl)
    (hs2 : starEach [a] X.env = [(false, eval a X.env)] := by rfl) :
    PE X (.Call (.Name "len" p) [.Call (.Name "set" p2) [a] [] q] [] pos) (tLenSetG K ta) := by
  subst hK
  refine ⟨fun pins s σ H Q I h => ?_⟩
  refine Call_ (ld_blt I hg hm boot_len (PyProof.Rows.callWith_builtin1 (PyProof.Rows.args_cons ?_ rfl) rfl rfl))
  refine Call_ (ld_blt I hg2 hm2 PyProof.Rows.boot_set ?_)
  refine PyProof.Rows.callWith_type1 (PyProof.Rows.args_cons (thn (ha.run pins s σ H _ I h) fun v s1 ⟨x, H1, I1, r1, l, ns, ex, hq, hl, k⟩ => PyProof.Rows.args_nil ?_) hs2) hs2 rfl
  subst ex
  cases r1
  obtain ⟨its, r, pl, hz⟩ := I1.list hq
  refine SL.call_list (I1.ok.hd hc) pl.isList (ns := ns) (by rw [List.toList_toArray]; exact ints_of_vals r) (by unfold scanBound; omega) fun h' tk ⟨c, hS, hcn, hk⟩ => PyProof.Rows.args_nil ?_
  have I2 : Inv X pins σ H1 { s1 with heap := h', toks := tk } := I1.kept (t' := tk) hk
  obtain ⟨o, es, ep, t, ho, hex, hd, g, nd, hmem, hb, hf, hn, hr, hl'⟩ := hS
  have dl := dup_less (ns := ns) nd fun k => by rw [← hmem k, decide_eq_true_eq]
  rw [List.length_map, Array.length_toList, hn] at dl
  exact call_len_set ho hex hd hf (by rw [hn] <;> omega) ⟨.int c, H1, I2.tok _, ⟨_, by rw [hn]⟩, k c dl.1 dl.2⟩
end
section
variable {A : Amb} {te : TE} {ρ : Rho} {n : Nat}
theorem de_lenSetG {P : D → Nat → Prop} (h : DE A te ρ n fun d m => ∃ ns : List Int, d = .lst (ns.map D.int) ∧ ns.length < 4000 ∧ ∀ c : Nat, c ≤ ns.length → (c = ns.length ↔ ns.Nodup) → P (.int (c : Int)) m) : DE A (tLenSetG A.K te) ρ n P := fun S H σ e Q q =>
  h S H σ e _ fun v d S1 H1 n1 m1 f1 r1 ⟨ns, hd, hl, p⟩ => by
    subst hd
    obtain ⟨a, vs, rfl, h1, h2⟩ := r1.lst_inv
    cases h2.intsV
    exact ⟨a, ns, rfl, Evl.sq_of (f1.sub _ _ h1), hl, fun c hc hn => q _ _ S1 H1 n1 m1 f1 Rep.int (p c hc hn)⟩
end
end DL
namespace DL
open PySem PySem.Spec PyProof.Rows L2 Evl
/-! sets by a comprehension, whatever is put into them -/
section
variable {X : Cx}
/-- the new set as an object -/
abbrev emptyS (w : World) : Obj := { cls := .type "set", dict := none, data := .set #[] 0 (.fresh 0 0 (!w.params.followText "set-order")) }
/-- {e for x in xs if t}: o0 stands for the empty set, Ad for what an item does to it -/
def tScG (o0 : Addr → HO) (Ad : Addr → V → HO → HO → Prop) (wi : TI) (g : TG) (tt : TT) (te : TE) (vs : List Nat) : TE := fun σ H Q =>
  wi σ H fun J H1 => ∀ L, H1 L = none → ∃ W : Nat → Nat → Hp → Prop, (∃ m, W 0 m (upd H1 L (o0 L))) ∧
    ∀ i m H', W i m H' → (J.stop i H' ∧ Q (.ref L) H') ∨ (J.go i H' ∧ ∃ Nx : Hp → Prop, (∀ H2, Nx H2 → ∃ k, k < m ∧ W (i + 1) k H2) ∧
      ∀ x H2, J.yld i H' x H2 → g x (wipe σ vs) H2 fun σ3 H3 => wipe σ3 vs = wipe σ vs ∧ tt σ3 H3 fun b H4 =>
        if b = true then te σ3 H4 fun y H5 => ∃ o o', H5 L = some o ∧ Ad L y o o' ∧ Nx (upd H5 L o') else Nx H4)
def AddsTo (X : Cx) (Ad : Addr → V → HO → HO → Prop) : Prop := ∀ Y : Cx, Y.w = X.w → ∀ {qs : List (Addr × Obj)} {τ : L2.St} {G : Hp} {r : Shared} {E Q : Value → Shared → Prop} {L : Addr} {y : V} {u : Value} {o o' : HO},
  Inv Y qs τ G r → G L = some o → RelV y u → Ad L y o o' → (∀ r', Inv Y qs τ (upd G L o') r' → Q .none r') → wpAny (model Y.prog Y.w) Y.A (call (.builtin "set.add") [.ref L, u]) Q E r
/-- the block's loop, from a state in the block -/
theorem scG_loop {Y : Cx} {τ : L2.St} {elt tg iter : Expr} {ifs : List Expr} {scope : Scope} {pos : Pos} {g : TG} {tt : TT} {te : TE} {vs : List Nat} {Ad : Addr → V → HO → HO → Prop} {J : It} {fp : List Addr} {it L : Addr} {tn : Nat → Heap → Prop} {R : Result → Shared → Prop} {Qs : Hp → Prop}
    (calm : Y.calm = true) (T : Turn Y.prog Y.w Y.K tg J fp it tn) (pg : PG Y tg g) (pt : PTs Y ifs tt) (pe : PE Y elt te) (ad : AddsTo Y Ad) (he : Y.xe = fun _ _ => False)
    (hfp : ∀ {σ' : L2.St} {G : Hp} {r : Shared}, Inv Y [] σ' G r → (∀ b ∈ fp, G b = none) → ∀ b ∈ fp, FpOk Y [] G b) (W : Nat → Nat → Hp → Prop)
    (turn : ∀ i m G, W i m G → (J.stop i G ∧ Qs G) ∨ (J.go i G ∧ ∃ Nx : Hp → Prop, (∀ H2, Nx H2 → ∃ k, k < m ∧ W (i + 1) k H2) ∧
      ∀ x H2, J.yld i G x H2 → g x (wipe τ vs) H2 fun σ3 H3 => wipe σ3 vs = wipe τ vs ∧ tt σ3 H3 fun b H4 =>
        if b = true then te σ3 H4 fun y H5 => ∃ o o', H5 L = some o ∧ Ad L y o o' ∧ Nx (upd H5 L o') else Nx H4))
    (fin : ∀ G r, Inv Y [] (wipe τ vs) G r → Qs G → R (.ok .next) r) {m0 : Nat} {G0 : Hp} {r0 : Shared} (J0 : Inv Y [] (wipe τ vs) G0 r0) (t0 : tn 0 r0.heap) (f0 : ∀ b ∈ fp, G0 b = none) (w0 : W 0 m0 G0) :
    codeAny (model Y.prog Y.w) Y.A (.compLoop (.SetComp elt [⟨tg, iter, ifs, 0⟩] scope pos) 0 (.ref it) (.ref L) Y.env) R r0 := by
  refine PpSet.compLoopS_any (fun m r => ∃ i G, Inv Y [] (wipe τ vs) G r ∧ tn i r.heap ∧ (∀ b ∈ fp, G b = none) ∧ W i m G) (fun m r ⟨i, G, JG, tG, fG, wG⟩ => ?_) m0 ⟨0, G0, J0, t0, f0, w0⟩
  rcases turn i m G wG with ⟨stp, qs⟩ | ⟨goes, Nx, nx, each⟩
  · refine thnF (T.done Y rfl rfl rfl calm i [] r _ G (fun _ _ => False) JG (hfp JG fG) tG stp) fun v r1 hv => ?_
    rw [hv.1]
    exact fin G r1 hv.2 qs
  · refine thnF (T.item Y rfl rfl rfl calm i [] r _ G (fun _ _ => False) JG (hfp JG fG) tG goes) fun v r1 hv => ?_
    obtain ⟨u, hu, h1⟩ := hv
    rw [hu]
    refine thnF h1 fun _ r2 h2 => ?_
    obtain ⟨x, G2, J2, ru, yl, t2, f2⟩ := h2
    have JP := J2.pinned (hfp J2 f2) (T.obj _ _ t2)
    -- a turn's end, in the block again
    have over : ∀ {σ' : L2.St} {G' : Hp} {r' : Shared}, wipe σ' vs = wipe τ vs → Inv Y ([] ++ pinsAt fp r2.heap) σ' G' r' → Nx G' → ∃ k, k < m ∧ ∃ j G'', Inv Y [] (wipe τ vs) G'' r' ∧ tn j r'.heap ∧ (∀ b ∈ fp, G'' b = none) ∧ W j k G'' := fun {σ' G' r'} hw JJ hn => by
      obtain ⟨k, hk, wk⟩ := nx G' hn
      have pins2 : ∀ b ∈ fp, ∀ o, r2.heap.get? b = some o → r'.heap.get? b = some o ∧ G' b = none := fun b hb o e => by
        have z := JJ.pin (b, o) (List.mem_append_right _ (List.mem_append_right _ (mem_pinsAt hb e)))
        exact ⟨z.1, z.2.1⟩
      have hlen : (wipe τ vs).length = σ'.length := by rw [← hw, wipe_length]
      refine ⟨k, hk, i + 1, G', (JJ.unpinned (pins := [])).weak hlen (fun j v e => ?_), T.keep _ _ _ t2 fun b hb o e => (pins2 b hb o e).1, fun b hb => ?_, wk⟩
      · rw [← hw] at e; exact (wipe_some e).1
      · obtain ⟨o, e, _⟩ := T.obj _ _ t2 b hb
        exact (pins2 b hb o e).2
    refine thnF (by rw [← he]; exact pg.run _ r2 _ G2 x u _ JP ru (each x G2 yl)) fun _ r3 h3 => ?_
    obtain ⟨σ3, G3, J3, hw3, q3⟩ := h3
    refine thnF (by rw [← he]; exact pt.run _ r3 σ3 G3 _ J3 q3) fun b r4 h4 => ?_
    obtain ⟨G4, J4, q4⟩ := h4
    cases b with
    | false =>
      rw [if_neg Bool.false_ne_true] at q4 ⊢
      exact over hw3 J4 q4
    | true =>
      rw [if_pos rfl] at q4 ⊢
      refine thnF (by rw [← he]; exact pe.run _ r4 σ3 G4 _ J4 q4) fun z r5 h5 => ?_
      obtain ⟨y, G5, J5, ry, o, o', hL, hA, nx5⟩ := h5
      exact ad Y rfl J5 hL ry hA fun r6 J6 => over hw3 J6 nx5
/-- what the block's end leaves -/
theorem compPost_none {M : Model} {A : Around} {E : Value → Shared → Prop} {Q : Value → Shared → Prop} {acc : Value} {C : Addr} {r : Shared} {m : Str → Option Value} (hn : r.heap.Ns C m) (h : ∀ h', Heap.SameBut C r.heap h' → Q acc { r with heap := h' }) : compPost M A E none Q acc C (.ok .next) r := ⟨m, hn, h⟩
theorem pe_scG {elt tg iter : Expr} {ifs : List Expr} {scope : Scope} {own : List (Str × Nat)} {pos : Pos} {wi : TI} {g : TG} {tt : TT} {te : TE} {o0 : Addr → HO} {Ad : Addr → V → HO → HO → Prop}
    (new0 : ∀ (h : Heap) (G : Hp), ObjOk X.prog X.w G (h.push (emptyS X.w)) h.objs.size (o0 h.objs.size)) (ad : AddsTo X Ad)
    (calm : X.calm = true) (nd : X.N.Nodup) (hi : PI X tg iter wi) (bo : BlkOk X.N X.env.scope scope own)
    (pg : ∀ (r : Shared) (G : Hp) (C : Addr) (cl : List (Str × Addr)) (fp : List Addr), PG (X.blk r G scope (compEnvC scope cl C X.env) fp) tg g)
    (pt : ∀ (r : Shared) (G : Hp) (C : Addr) (cl : List (Str × Addr)) (fp : List Addr), PTs (X.blk r G scope (compEnvC scope cl C X.env) fp) ifs tt)
    (pe : ∀ (r : Shared) (G : Hp) (C : Addr) (cl : List (Str × Addr)) (fp : List Addr), PE (X.blk r G scope (compEnvC scope cl C X.env) fp) elt te) (fs : ∀ x, foldedSetIterable iter X.env x = pure x := by intro _; rfl) :
    PE X (.SetComp elt [⟨tg, iter, ifs, 0⟩] scope pos) (tScG o0 Ad wi g tt te (own.map (·.2))) := by
  refine ⟨fun pins r τ G Q I0 h => ?_⟩
  rw [PpSet.eval_SetComp]
  have frees : ∀ y ∈ scope.names, y.2 = .free → ∃ c, X.env.cells.lookup y.1 = some c := fun y hy hf => (bo.free y hy hf).elim (fun k => I0.ok.has _ (Or.inl k)) (fun k => I0.ok.has _ (Or.inr k))
  refine wpAny_comprehension_free (use := none) rfl fs (closure_ok frees) bo.kind (fun y hy hf => by rw [bo.uniq y hy, hf]) (thn (hi.run pins r τ G _ I0 h) fun v1 r1 hv1 => thn hv1 fun v2 r2 hv2 => ?_)
  obtain ⟨it, fp, tn, J, G2, rfl, I2, T, t2, f2, q⟩ := hv2
  refine PpSet.newSet_ok (newEnv_comp ?_)
  have free2 : G2 r2.heap.objs.size = none := I2.hok.fresh (Nat.le_refl _)
  obtain ⟨W, ⟨m0, w0⟩, turn⟩ := q r2.heap.objs.size free2
  have I3 : Inv X pins τ (upd G2 r2.heap.objs.size (o0 r2.heap.objs.size)) { r2 with heap := r2.heap.push (emptyS X.w) } :=
    I2.laid (t' := r2.toks) (fun b o e => Heap.get?_push_of_some _ e) (Nat.le_refl _) (new0 r2.heap _)
  have small : ∀ b ∈ fp, b < r2.heap.objs.size := fun b hb => (T.obj _ _ t2 b hb).elim fun o e => Heap.lt_size e.1
  have f3 : ∀ b ∈ fp, FpOk X pins (upd G2 r2.heap.objs.size (o0 r2.heap.objs.size)) b ∧ b < (r2.heap.push (emptyS X.w)).objs.size := fun b hb => by
    refine ⟨⟨?_, (f2 b hb).2⟩, Nat.lt_of_lt_of_le (small b hb) (by rw [Heap.size_push]; exact Nat.le_succ _)⟩
    rw [upd_ne (Nat.ne_of_lt (small b hb))]
    exact (f2 b hb).1
  have t3 : tn 0 (r2.heap.push (emptyS X.w)) := T.keep _ _ _ t2 fun b _ o e => Heap.get?_push_of_some _ e
  have I4 := block_start I3 bo nd f3
  obtain ⟨L, hL⟩ : ∃ L, L = r2.heap.objs.size := ⟨_, rfl⟩
  rw [← hL] at I3 I4 f3 w0 turn free2
  obtain ⟨r3, hr3⟩ : ∃ x : Shared, x = { r2 with heap := r2.heap.push (emptyS X.w) } := ⟨_, rfl⟩
  have eh3 : r2.heap.push (emptyS X.w) = r3.heap := by rw [hr3]
  rw [← hr3] at I3 I4
  rw [eh3] at f3 t3
  show codeAny _ _ (.compStart (.SetComp elt [⟨tg, iter, ifs, 0⟩] scope pos) 0 (.ref it) (.ref r2.heap.objs.size) (compEnvC scope (cellsFrom ((r2.heap.push (emptyS X.w)).objs.size + 1) scope.names (cloFrom X.env.cells scope.names [])) (r2.heap.push (emptyS X.w)).objs.size X.env)) (compPost (model X.prog X.w) X.A X.xe none (EP X pins τ Q) (.ref r2.heap.objs.size) (r2.heap.push (emptyS X.w)).objs.size) { r2 with heap := pushCells ((r2.heap.push (emptyS X.w)).push { cls := .type "dict", data := .dict #[] }) scope.names }
  rw [← hL, eh3]
  have noFp : ∀ b ∈ fp, upd G2 L (o0 L) b = none := fun b hb => (f3 b hb).1.1
  obtain ⟨G3, hG3⟩ : ∃ x, x = upd G2 L (o0 L) := ⟨_, rfl⟩
  rw [← hG3] at I3 I4 f3 w0 noFp
  obtain ⟨r4, hr4⟩ : ∃ x : Shared, x = { r2 with heap := pushCells (r3.heap.push { cls := .type "dict", data := .dict #[] }) scope.names } := ⟨_, rfl⟩
  have er4 : ({ r3 with heap := pushCells (r3.heap.push { cls := .type "dict", data := .dict #[] }) scope.names } : Shared) = r4 := by rw [hr4, hr3]
  rw [er4] at I4
  rw [← hr4]
  have t4 : tn 0 r4.heap := T.keep _ _ _ t3 fun b _ o e => by rw [hr4]; exact pushCells_keeps _ _ _ _ (Heap.get?_push_of_some _ e)
  obtain ⟨cl, hcl⟩ : ∃ x, x = cellsFrom (r3.heap.objs.size + 1) scope.names (cloFrom X.env.cells scope.names []) := ⟨_, rfl⟩
  rw [← hcl] at I4 ⊢
  refine PpSet.codeAny_compStart_set ?_ (T.self X.A 0 _ _ _ t4 ?_)
  all_goals
    refine scG_loop (Y := X.blk r3 G3 scope (compEnvC scope cl r3.heap.objs.size X.env) fp) (τ := τ) (vs := own.map (·.2)) (Qs := fun G' => Q (.ref L) G') calm T (pg r3 G3 _ cl fp) (pt r3 G3 _ cl fp) (pe r3 G3 _ cl fp) (fun Y hw => ad Y hw) rfl (fun I' hn b hb => ?_) W turn ?_ I4 t4 noFp w0
    · exact ⟨hn b hb, (I'.ok.exf b hb).1, I'.ok.exfs b hb, Or.inl hb, fun x c e => (I'.ok.exf b hb).2 x c e, fun p hp => absurd (show p ∈ ([] : List (Addr × Obj)) ++ [] from hp) (by simp)⟩
    · intro G' r' I6 qq
      have I7 : Inv X pins τ G' r' := I3.call' (ch := fp) I6.os I6.base I6.hok I6.bare fun b hb => by
        have z := (f3 b hb).1.2
        exact ⟨z.2.2.1, z.1, z.2.2.2.1, z.2.2.2.2⟩
      have nC : G' r3.heap.objs.size = none := I6.free
      obtain ⟨m, hm, _⟩ := I6.loc
      obtain ⟨c0, c1, c2, c3, c4, c5⟩ := I3.fpOk (Nat.le_refl _) nC
      exact compPost_none hm fun h' sb => ⟨.ref L, G', I7.turned (t' := r'.toks) (fun b o hb e => (sb.2 b hb).trans e) c0 c1 c3 c4 c5, rfl, qq⟩
end
/-! sets of ints -/
def AdI (w : World) (L : Addr) (y : V) (o o' : HO) : Prop := ∃ (k : Int) (S : Int → Bool) (n : Nat), y = .int k ∧ o = SetO w L S n ∧ n + 1 < scanBound ∧ o' = SetO w L (fun j => S j || decide (j = k)) (if S k = true then n else n + 1)
theorem adI_ok {X : Cx} : AddsTo X (AdI X.w) := by
  intro Y hw qs τ G r E Q L y u o o' I hL ry ⟨k, S, n, ey, eo, room, eo'⟩ fin
  subst ey eo eo'
  obtain ⟨t, rfl⟩ := ry
  rw [← hw] at hL
  refine setR_add (setO_get I hL) room fun h' sb new => fin _ ?_
  have he : ∃ u, h'.get? L = some u := by
    have ⟨o, _, _, _, ho, _⟩ := new
    exact ⟨o, ho⟩
  rw [← hw]
  exact I.write (e := L) (t' := r.toks + 1) (by rw [hL]; trivial) (.inl rfl) (fun b u hb hu => (sb.2 b hb).trans hu) he (setO_new new)
theorem newI_ok {P : Program} {w : World} (h : Heap) (G : Hp) : ObjOk P w G (h.push (emptyS w)) h.objs.size (SetO w h.objs.size (fun _ => false) 0) := setO_new (setR_fresh w)
/-- a heap with one object of fields -/
theorem code_ne {w : World} {c : Addr} {q : Str} {S : Int → Bool} {n : Nat} : LamX.CodeO c q ≠ SetO w c S n := fun e => by
  unfold LamX.CodeO SetO at e
  have e2 := HO.ext.inj e
  have hg : (⟨Array.replicate (c + 1) { cls := .none, data := .fields #[.none, .str q 0] }, {}⟩ : Heap).get? c = some { cls := .none, data := .fields #[.none, .str q 0] } := by
    unfold Heap.get?
    simp
  have := (congrFun e2 ⟨Array.replicate (c + 1) { cls := .none, data := .fields #[.none, .str q 0] }, {}⟩).mp ⟨_, _, _, hg, rfl, rfl⟩
  obtain ⟨o, es, ep, t, ho, _, hd, _⟩ := this
  rw [hg] at ho
  cases ho
  cases hd
theorem TabK.putS {w : World} {K : PySem.W.Frag} {S H : Hp} {p : Addr} {o : HO} {Z : Int → Bool} {n : Nat} (t : TabK K S H) (hp : H p = some (SetO w p Z n)) : TabK K S (upd H p o) := ⟨fun q hq => by
  obtain ⟨ps, h1, h2, h3⟩ := t.1 q hq
  have n1 : q.1 ≠ p := fun z => by rw [z, hp] at h1; cases h1
  refine ⟨ps, by rw [upd_ne n1]; exact h1, h2, fun pos cv hc => ?_⟩
  obtain ⟨c, e1, e2⟩ := h3 pos cv hc
  refine ⟨c, e1, ?_⟩
  have n2 : c ≠ p := fun z => by
    rw [z, hp] at e2
    exact code_ne (Option.some.inj e2).symm
  rw [upd_ne n2]
  exact e2, t.2⟩
theorem Fr.putS {w : World} {A : Amb} {n : Nat} {S H : Hp} {p : Addr} {o : HO} {Z : Int → Bool} {m : Nat} (f : Fr A n S H) (hs : S p = none) (h0 : A.H0 p = none) (hl : H p = some (SetO w p Z m)) : Fr A n S (upd H p o) := by
  have np : ∀ a u, A.H0 a = some u → a ≠ p := fun a u e => ne_of_none e h0
  refine ⟨fun a u e => ?_, ⟨f.mv.ss, fun a u e h nt => ?_, fun a ps h => ?_, f.mv.sep⟩, fun a e => ?_, f.tab.putS hl⟩
  · rw [upd_ne (ne_of_none e hs)]; exact f.sub a u e
  · rw [upd_ne (np a u h)]; exact f.mv.fr a u e h nt
  · rw [upd_ne (np a _ h)]; exact f.mv.tb a ps h
  · obtain ⟨⟨x, y, z, h1, h2⟩, h3, h4⟩ := f.box a e
    have ne : a ≠ p := fun q => h4 (by rw [q]; exact h0)
    exact ⟨⟨x, y, z, by rw [upd_ne ne]; exact h1, h2⟩, h3, h4⟩
theorem nt_set {w : World} {a : Addr} {Z : Int → Bool} {n : Nat} : NT (SetO w a Z n) := fun _ z => nomatch z
/-- len of a set of ints -/
def rLenSet (w : World) : List V → Hp → VK → Prop := fun vs H Q => ∃ (a : Addr) (Z : Int → Bool) (n : Nat), vs = [V.ref a] ∧ H a = some (SetO w a Z n) ∧ Q (.int (n : Int)) H
theorem cr_lenSet {X : Cx} : CallR X (.builtin "len") (rLenSet X.w) := by
  intro pins s σ H vs us Q I r h
  obtain ⟨a, Z, n, rfl, ha, q⟩ := h
  rw [Vals.ref1 r]
  obtain ⟨o, es, ep, t, ho, hex, hd, g, nd, hm, hb, hf, hn, _⟩ := setO_get I ha
  refine call_len_set ho hex hd hf (by unfold scanBound at hb; omega) ⟨.int n, H, I.tok _, ⟨_, by rw [hn]⟩, q⟩
theorem kx_lenSet {X : Cx} (w : World) (h : X.w = w := by rfl) : CallR X (.builtin "len") (rLenSet w) := by subst h; exact cr_lenSet
/-- the walk behind such a comprehension -/
theorem scG_it {J : It} {n : Nat} {G : Hp → Prop} {Y : Nat → Hp → V → Hp → Prop} (wk : Walk J n G Y) {o0 : Addr → HO} {Ad : Addr → V → HO → HO → Prop} {g : TG} {tt : TT} {te : TE} {vs : List Nat} {σ : L2.St} {H1 : Hp} {L : Addr} {Qd : Hp → Prop} (Pv : Nat → Hp → Prop) (h0 : Pv 0 (upd H1 L (o0 L))) (hG : ∀ i H, i ≤ n → Pv i H → G H)
    (hs : ∀ i x H H', i < n → Pv i H → Y i H x H' → g x (wipe σ vs) H' fun σ3 H3 => wipe σ3 vs = wipe σ vs ∧ tt σ3 H3 fun b H4 =>
      if b = true then te σ3 H4 fun y H5 => ∃ o o', H5 L = some o ∧ Ad L y o o' ∧ Pv (i + 1) (upd H5 L o') else Pv (i + 1) H4) (hd : ∀ H, Pv n H → Qd H) :
    ∃ W : Nat → Nat → Hp → Prop, (∃ m, W 0 m (upd H1 L (o0 L))) ∧ ∀ i m H', W i m H' →
      (J.stop i H' ∧ Qd H') ∨ (J.go i H' ∧ ∃ Nx : Hp → Prop, (∀ H2, Nx H2 → ∃ k, k < m ∧ W (i + 1) k H2) ∧ ∀ x H2, J.yld i H' x H2 → g x (wipe σ vs) H2 fun σ3 H3 => wipe σ3 vs = wipe σ vs ∧ tt σ3 H3 fun b H4 =>
        if b = true then te σ3 H4 fun y H5 => ∃ o o', H5 L = some o ∧ Ad L y o o' ∧ Nx (upd H5 L o') else Nx H4) := by
  refine ⟨fun i m H => m = n - i ∧ i ≤ n ∧ Pv i H, ⟨n, by simp, Nat.zero_le _, h0⟩, ?_⟩
  rintro i m H ⟨rfl, hi, p⟩
  have q := hG i H hi p
  by_cases hlt : i < n
  · exact Or.inr ⟨wk.goes i H hlt q, Pv (i + 1), fun H' p' => ⟨n - (i + 1), by omega, rfl, hlt, p'⟩, fun x H' y => hs i x H H' hlt p (wk.yields i H x H' hlt q y)⟩
  · have e : i = n := by omega
    subst e
    exact Or.inl ⟨wk.stops H q, hd H p⟩
section
variable {A : Amb} {te : TE} {tt : TT} {wi : TI} {g : TG} {ρ : Rho} {n : Nat}
/-- len({e for x in xs}), ints: how many, and whether all are different -/
theorem de_lenSc {w : World} {vs : List Nat} {P : D → Nat → Prop} (gw : GW g vs)
    (h : DI A wi ρ n fun ds n1 => ∃ ns : List Int, ns.length = ds.length ∧ ds.length ≤ 1000 ∧ (∀ (i : Nat) (d : D) (k : Int), ds[i]? = some d → ns[i]? = some k →
      DG A g d (wipeR ρ vs) n1 fun ρ2 => DT A tt ρ2 n1 fun b n2 => b = true ∧ DE A te ρ2 n2 fun y n3 => n3 = n1 ∧ y = .int k) ∧ ∀ c : Nat, c ≤ ns.length → (c = ns.length ↔ ns.Nodup) → P (.int (c : Int)) n1) :
    DE A (tCB (rLenSet w) (tCons (tScG (fun a => SetO w a (fun _ => false) 0) (AdI w) wi g tt te vs) tNil)) ρ n P := fun S H σ e Q q =>
  h S H σ e _ fun J ds S1 H1 n1 G Y m1 f1 wk hG hY ⟨ns, hns, hsm, istep, iend⟩ => fun L hL => by
    have hL0 : H L = none := by
      cases z : H L with
      | none => rfl
      | some o => exact absurd hL (m1.there f1.bt (by rw [z]; exact fun y => nomatch y))
    have hS1 : S1 L = none := f1.s0 hL
    have h0L : A.H0 L = none := f1.h0 hL
    have nb : some L ≠ A.b := fun z => (f1.box L z.symm).2.2 h0L
    refine scG_it wk (fun i H' => ∃ (S' : Hp) (us : List Int), Ex S1 S' ∧ Mv A.b S1 H1 S' H' ∧ Fr A n1 S' H' ∧ H' L = some (SetO w L (fun j => decide (j ∈ us)) us.length) ∧ S' L = none ∧ us.Nodup ∧ us.length ≤ i ∧ ∀ k, k ∈ us ↔ k ∈ ns.take i)
      ⟨S1, [], Ex.refl _, Mv.newO hL, f1.newO hL, by rw [upd_same], hS1, List.nodup_nil, Nat.le_refl _, fun k => by simp⟩ (fun i H' _ ⟨S', _, ex, _, f', _⟩ => hG S' H' n1 ex f') ?_ ?_
    · rintro i x H' H3 hi ⟨S', us, ex, mv, f', hH, hS, nd, hl, hm⟩ y
      obtain ⟨S3, d, hdd, m3, f3, r3⟩ := hY i S' H' x H3 n1 hi ex f' y
      obtain ⟨k, hk⟩ : ∃ k, ns[i]? = some k := ⟨ns[i]'(by omega), by simp [show i < ns.length by omega]⟩
      have e3 : ER A n1 S3 H3 σ ρ := (e.mv m1 f1).mv (mv.trans f'.bt m3) f3
      have z := gw x (wipe σ vs) H3 (fun σ3 H3 => tt σ3 H3 fun b H4 => if b = true then te σ3 H4 fun y H5 => ∃ o o', H5 L = some o ∧ AdI w L y o o' ∧ (∃ (S' : Hp) (us : List Int), Ex S1 S' ∧ Mv A.b S1 H1 S' (upd H5 L o') ∧ Fr A n1 S' (upd H5 L o') ∧ (upd H5 L o') L = some (SetO w L (fun j => decide (j ∈ us)) us.length) ∧ S' L = none ∧ us.Nodup ∧ us.length ≤ i + 1 ∧ ∀ k, k ∈ us ↔ k ∈ ns.take (i + 1))
        else (∃ (S' : Hp) (us : List Int), Ex S1 S' ∧ Mv A.b S1 H1 S' H4 ∧ Fr A n1 S' H4 ∧ H4 L = some (SetO w L (fun j => decide (j ∈ us)) us.length) ∧ S' L = none ∧ us.Nodup ∧ us.length ≤ i + 1 ∧ ∀ k, k ∈ us ↔ k ∈ ns.take (i + 1))) ?_
      · rw [wipe_wipe] at z
        exact z
      refine istep i d k hdd hk S3 H3 _ x (e3.wipe vs) r3 _ fun σ2 ρ2 e2 _ p2 => ?_
      refine p2 S3 H3 σ2 e2 _ fun b S4 H4 n4 m4 f4 ⟨hb, p4⟩ => ?_
      subst hb
      have nH : ∀ {S' H' S'' H'' : Hp} {v : HO}, NT v → Mv A.b S' H' S'' H'' → H' L = some v → S' L = none → H'' L = some v ∧ S'' L = none := fun nt m a b => ⟨m.fr L _ nb a nt, m.sep L (by rw [a]; exact fun z => nomatch z) b⟩
      have x3 := nH nt_set m3 hH hS
      have x4 := nH nt_set m4 x3.1 x3.2
      have mv3 := mv.trans f'.bt m3
      have mv4 := mv3.trans f3.bt m4
      rw [if_pos rfl]
      refine p4 S4 H4 σ2 (e2.mv m4 f4) _ fun u1 d1 S5 H5 n5 m5 f5 r5 ⟨hn5, hd1⟩ => ?_
      subst hn5 hd1
      cases r5.int_inv
      have x5 := nH nt_set m5 x4.1 x4.2
      have mv5 := mv4.trans f4.bt m5
      have exx : Ex S' S5 := m3.ss.trans (m4.ss.trans m5.ss)
      have tk := take_one_more hk
      refine ⟨_, _, x5.1, ⟨k, _, _, rfl, rfl, by unfold scanBound; omega, rfl⟩, S5, if k ∈ us then us else k :: us, ex.trans exx, ?_, f5.putS x5.2 h0L x5.1, ?_, x5.2, ?_, ?_, ?_⟩
      · refine ⟨mv5.ss, fun a o hb ha nt => ?_, fun a ps ha => ?_, mv5.sep⟩
        · rw [upd_ne (ne_of_none ha hL)]
          exact mv5.fr a o hb ha nt
        · rw [upd_ne (ne_of_none ha hL)]
          exact mv5.tb a ps ha
      · rw [upd_same]
        by_cases c : k ∈ us
        · rw [if_pos c, if_pos (decide_eq_true c)]
          congr 2
          funext j
          by_cases cj : j = k
          · subst cj; simp [c]
          · simp [cj]
        · rw [if_neg c, if_neg (by simp [c])]
          congr 2
          funext j
          by_cases cj : j = k
          · subst cj; simp
          · simp [cj]
      · by_cases c : k ∈ us
        · rw [if_pos c]; exact nd
        · rw [if_neg c]; exact List.nodup_cons.mpr ⟨c, nd⟩
      · by_cases c : k ∈ us
        · rw [if_pos c]; omega
        · rw [if_neg c, List.length_cons]; omega
      · intro j
        rw [tk, List.mem_append, List.mem_singleton, ← hm j]
        by_cases c : k ∈ us
        · rw [if_pos c]
          exact ⟨Or.inl, fun z => z.elim id fun z => by rw [z]; exact c⟩
        · rw [if_neg c, List.mem_cons]
          exact Or.comm
    · rintro H' ⟨S', us, ex, mv, f', hH, hS, nd, hl, hm⟩
      rw [List.take_of_length_le (by omega)] at hm
      have dl := dup_less nd hm
      exact ⟨L, _, _, rfl, hH, q _ _ S' H' n1 (m1.trans f1.bt mv) f' Rep.int (iend us.length dl.1 dl.2)⟩
end
end DL
namespace DL
open PySem PySem.Spec PyProof.Rows L2 Evl
/-! > of data -/
def rGtD (K : PySem.W.Frag) : R2 := fun x y H Q => ∃ d e, Dp K H x d ∧ Dp K H y e ∧ PySem.W.alike d e = true ∧ d ≠ .none ∧ d.depth ≤ 60 ∧ Q (.bl (PySem.W.dataLt e d)) H
section
variable {X : Cx}
theorem op_gtD (hu : X.A.units + 64 < cLine) : OpR X (compareOp .Gt) (rGtD X.K) := by
  intro pins s σ H x y v u Q I rx ry h
  obtain ⟨d, e, hd, he, al, nn, dep, q⟩ := h
  obtain ⟨as, r1⟩ := Dp.reads I d x v hd rx
  obtain ⟨bs, r2⟩ := Dp.reads I e y u he ry
  exact PySem.W.gt_data r1 r2 al nn (by have := Nat.min_le_left d.depth e.depth; omega) ⟨.bl _, H, I, rfl, q⟩
theorem kx_gtD (K : PySem.W.Frag) (hu : X.A.units + 64 < cLine) (h : X.K = K := by rfl) : OpR X (compareOp .Gt) (rGtD K) := h ▸ op_gtD hu
end
section
variable {A : Amb} {ρ : Rho} {n : Nat}
theorem dr_gtD {x y : D} {P : D → Nat → Prop} (hx : pureD x = true) (hy : pureD y = true) (al : PySem.W.alike (toP x) (toP y) = true) (nn : toP x ≠ .none) (dep : (toP x).depth ≤ 60) (p : P (.bl (PySem.W.dataLt (toP y) (toP x))) n) : DR A (rGtD A.K) x y n P := fun S H v w f r1 r2 Q q =>
  ⟨toP x, toP y, rep_dp f.sub x v hx r1, rep_dp f.sub y w hy r2, al, nn, dep, q _ _ S H n Mv.refl f Rep.bl p⟩
end
end DL
namespace DL
open PySem PySem.Spec PyProof.Rows L2 Evl
/-! dicts of one's own -/
def putD (kvs : List (Key × D)) (k : Key) (v : D) : List (Key × D) := if kvs.any (fun kv => decide (kv.1 = k)) then kvs.map (fun kv => if kv.1 = k then (kv.1, v) else kv) else kvs ++ [(k, v)]
def valD (kvs : List (Key × D)) (k : Key) : Option D := (kvs.find? fun kv => decide (kv.1 = k)).map (·.2)
theorem kreps_nil {K : PySem.W.Frag} {S : Hp} : KReps K S [] [] := ⟨rfl, Reps.nil⟩
theorem kreps_uncons {K : PySem.W.Frag} {S : Hp} {ks : List (Key × V)} {k : Key} {d : D} {r : List (Key × D)} (h : KReps K S ks ((k, d) :: r)) : ∃ v ks', ks = (k, v) :: ks' ∧ Rep K S v d ∧ KReps K S ks' r := by
  obtain ⟨h1, h2⟩ := h
  match ks, h1 with
  | [], h1 => cases h1
  | x :: ks, h1 =>
    simp only [List.map_cons, List.cons.injEq] at h1
    obtain ⟨v, r', e, q, q'⟩ := h2.uncons
    simp only [List.map_cons, List.cons.injEq] at e
    refine ⟨x.2, ks, ?_, by rw [e.1]; exact q, h1.2, by rw [e.2]; exact q'⟩
    rw [← h1.1]
theorem kreps_cons {K : PySem.W.Frag} {S : Hp} {ks : List (Key × V)} {k : Key} {v : V} {d : D} {r : List (Key × D)} (h : Rep K S v d) (t : KReps K S ks r) : KReps K S ((k, v) :: ks) ((k, d) :: r) :=
  ⟨by simp only [List.map_cons, t.1], Reps.cons h t.2⟩
theorem kreps_any {K : PySem.W.Frag} {S : Hp} (k : Key) : ∀ {kvs : List (Key × D)} {ks : List (Key × V)}, KReps K S ks kvs → (ks.any fun kv => decide (kv.1 = k)) = kvs.any fun kv => decide (kv.1 = k)
  | [], ks, h => by
    have : ks = [] := List.map_eq_nil_iff.mp h.1
    rw [this]; rfl
  | (j, d) :: r, ks, h => by
    obtain ⟨v, ks', rfl, _, t⟩ := kreps_uncons h
    rw [List.any_cons, List.any_cons, kreps_any k t]
theorem kreps_val {K : PySem.W.Frag} {S : Hp} (k : Key) : ∀ {kvs : List (Key × D)} {ks : List (Key × V)}, KReps K S ks kvs → (valV ks k = none ∧ valD kvs k = none) ∨ ∃ v d, valV ks k = some v ∧ valD kvs k = some d ∧ Rep K S v d
  | [], ks, h => by
    have : ks = [] := List.map_eq_nil_iff.mp h.1
    rw [this]; exact Or.inl ⟨rfl, rfl⟩
  | (j, d) :: r, ks, h => by
    obtain ⟨v, ks', rfl, q, t⟩ := kreps_uncons h
    by_cases c : j = k
    · exact Or.inr ⟨v, d, by simp [valV, List.find?_cons, c], by simp [valD, List.find?_cons, c], q⟩
    · rcases kreps_val k t with ⟨a, b⟩ | ⟨v', d', a, b, e⟩
      · exact Or.inl ⟨by simpa [valV, List.find?_cons, c] using a, by simpa [valD, List.find?_cons, c] using b⟩
      · exact Or.inr ⟨v', d', by simpa [valV, List.find?_cons, c] using a, by simpa [valD, List.find?_cons, c] using b, e⟩
theorem kreps_map {K : PySem.W.Frag} {S : Hp} (k : Key) {v : V} {d : D} (hv : Rep K S v d) : ∀ {kvs : List (Key × D)} {ks : List (Key × V)}, KReps K S ks kvs → KReps K S (ks.map fun kv => if kv.1 = k then (kv.1, v) else kv) (kvs.map fun kv => if kv.1 = k then (kv.1, d) else kv)
  | [], ks, h => by
    have : ks = [] := List.map_eq_nil_iff.mp h.1
    rw [this]; exact kreps_nil
  | (j, x) :: r, ks, h => by
    obtain ⟨u, ks', rfl, q, t⟩ := kreps_uncons h
    rw [List.map_cons, List.map_cons]
    by_cases c : j = k
    · rw [if_pos c, if_pos c]; exact kreps_cons hv (kreps_map k hv t)
    · rw [if_neg c, if_neg c]; exact kreps_cons q (kreps_map k hv t)
theorem kreps_snoc {K : PySem.W.Frag} {S : Hp} {k : Key} {v : V} {d : D} (hv : Rep K S v d) : ∀ {kvs : List (Key × D)} {ks : List (Key × V)}, KReps K S ks kvs → KReps K S (ks ++ [(k, v)]) (kvs ++ [(k, d)])
  | [], ks, h => by
    have : ks = [] := List.map_eq_nil_iff.mp h.1
    rw [this]; exact kreps_cons hv kreps_nil
  | (j, x) :: r, ks, h => by
    obtain ⟨u, ks', rfl, q, t⟩ := kreps_uncons h
    exact kreps_cons q (kreps_snoc hv t)
theorem kreps_put {K : PySem.W.Frag} {S : Hp} {k : Key} {v : V} {d : D} (hv : Rep K S v d) {kvs : List (Key × D)} {ks : List (Key × V)} (h : KReps K S ks kvs) : KReps K S (putK ks k v) (putD kvs k d) := by
  unfold putK putD
  rw [kreps_any k h]
  split
  · exact kreps_map k hv h
  · exact kreps_snoc hv h
theorem kreps_len {K : PySem.W.Frag} {S : Hp} {kvs : List (Key × D)} {ks : List (Key × V)} (h : KReps K S ks kvs) : ks.length = kvs.length := by
  have := congrArg List.length h.1
  rwa [List.length_map, List.length_map] at this
/-- no dict of ours -/
def noDic (ρ : Rho) : Bool := ρ.all fun s => match s with | .dic _ => false | _ => true
section
variable {A : Amb} {n : Nat} {S H : Hp} {σ : L2.St} {ρ : Rho}
theorem ER.dic (e : ER A n S H σ ρ) {i : Nat} {kvs : List (Key × D)} (h : ρ[i]? = some (.dic kvs)) : ∃ a ks, σ[i]? = some (some (.ref a)) ∧ H a = some (.dK ks) ∧ KReps A.K S ks kvs ∧ S a = none ∧ A.H0 a = none := by
  obtain ⟨o, h1, a, vs, h2, h3⟩ := e.sl i _ h
  exact ⟨a, vs, by rw [h1, h2], h3⟩
/-- a dict is stored at i, the only one -/
theorem ER.setDic (e : ER A n S H σ ρ) {i : Nat} {a : Addr} {ks : List (Key × V)} {kvs : List (Key × D)} (hh : H a = some (.dK ks)) (r : KReps A.K S ks kvs) (hs : S a = none) (h0 : A.H0 a = none) : ER A n S H (σ.set i (some (.ref a))) (ρ.set i (.dic kvs)) := by
  refine ⟨e.f, by simp [e.len], fun j s h => ?_, fun j k ds es hne h1 h2 => ?_⟩
  · by_cases q : i = j
    · subst q
      have lt : i < ρ.length := by
        have := (List.getElem?_eq_some_iff.mp h).1
        simpa using this
      rw [List.getElem?_set_self (by rw [e.len]; exact lt)]
      rw [List.getElem?_set_self lt] at h
      cases h
      exact ⟨_, rfl, a, ks, rfl, hh, r, hs, h0⟩
    · rw [List.getElem?_set_ne q] at h ⊢
      exact e.sl j s h
  · have f1 : ∀ k ds, (ρ.set i (.dic kvs))[k]? = some (.own ds) → i ≠ k := fun k ds h z => by
      subst z
      have lt : i < ρ.length := by
        have := (List.getElem?_eq_some_iff.mp h).1
        simpa using this
      rw [List.getElem?_set_self lt] at h
      cases h
    have g1 := f1 j ds h1
    have g2 := f1 k es h2
    rw [List.getElem?_set_ne g1] at h1 ⊢
    rw [List.getElem?_set_ne g2] at h2 ⊢
    exact e.ap j k ds es hne h1 h2
/-- the dict at i is written; there is no other one -/
theorem ER.putDic (e : ER A n S H σ ρ) {i : Nat} {kvs kvs' : List (Key × D)} {a : Addr} {ks' : List (Key × V)} (h : ρ[i]? = some (.dic kvs)) (one : noDic (ρ.set i .un) = true) (ha : σ[i]? = some (some (.ref a))) (r : KReps A.K S ks' kvs') : ER A n S (upd H a (.dK ks')) σ (ρ.set i (.dic kvs')) := by
  obtain ⟨a', vs, h1, h2, h3, h4, h5⟩ := e.dic h
  rw [ha] at h1; cases h1
  have li : i < ρ.length := (List.getElem?_eq_some_iff.mp h).1
  refine ⟨e.f.putN h4 h5 ⟨_, h2⟩, by simp [e.len], fun j s hj => ?_, fun j k es es' hne g1 g2 => ?_⟩
  · by_cases q : i = j
    · subst q
      rw [List.getElem?_set_self li] at hj
      cases hj
      exact ⟨_, ha, a, ks', rfl, upd_same, r, h4, h5⟩
    · have hj0 := hj
      rw [List.getElem?_set_ne q] at hj
      obtain ⟨o, x1, x2⟩ := e.sl j s hj
      refine ⟨o, x1, ?_⟩
      cases s with
      | un => trivial
      | val d => exact x2
      | own es =>
        obtain ⟨b, ws, y1, y2, y3, y4, y5⟩ := x2
        have ne : b ≠ a := fun z => by
          subst z
          rw [h2] at y2; cases y2
        exact ⟨b, ws, y1, by rw [upd_ne ne]; exact y2, y3, y4, y5⟩
      | dic es =>
        have hj2 : (ρ.set i .un)[j]? = some (.dic es) := by rw [List.getElem?_set_ne q]; exact hj
        have := List.all_eq_true.mp one _ (List.mem_of_getElem? hj2)
        cases this
      | nd es =>
        obtain ⟨b, ws, y1, y2, y3, y4, y5⟩ := x2
        have ne : b ≠ a := fun z => by
          subst z
          rw [h2] at y2; cases y2
        exact ⟨b, ws, y1, by rw [upd_ne ne]; exact y2, y3, y4, y5⟩
  · have f1 : ∀ (k : Nat) (es : List D), (ρ.set i (.dic kvs'))[k]? = some (.own es) → ρ[k]? = some (.own es) := fun k es h' => by
      by_cases q : i = k
      · subst q; rw [List.getElem?_set_self li] at h'; cases h'
      · rw [List.getElem?_set_ne q] at h'; exact h'
    exact e.ap j k _ _ hne (f1 j es g1) (f1 k es' g2)
end
section
variable {A : Amb} {te tk tv : TE} {tt : TT} {ts : TS} {ρ : Rho} {n : Nat} {T : DEnds}
/-- d = {} -/
theorem ds_newDic {i : Nat} (h : T.nx (ρ.set i (.dic [])) n) : DS A (tAsg tDNewK (gName i)) ρ n T := fun S H σ e D k => by
  intro p hp
  have f1 := e.f.newO (o := .dK []) hp
  have e1 := (e.mv (Mv.newO hp) f1).setDic (i := i) (a := p) (ks := []) (kvs := []) upd_same kreps_nil (e.f.s0 hp) (e.f.h0 hp)
  exact k.nx _ n S _ _ (Ex.refl S) e1 h
/-- xs, d = [], {} -/
theorem ds_parOD {i j : Nat} (h : T.nx ((ρ.set i (.own [])).set j (.dic [])) n) : DS A (tPar i j (tCons (tLst tNil) (tCons tDNewK tNil))) ρ n T := fun S H σ e D k => by
  refine ⟨Nat.zero_le _, fun a ha => ?_⟩
  have fa := e.f.newO (o := .lst []) ha
  have ea : ER A n S (upd H a (.lst [])) σ ρ := e.mv (Mv.newO ha) fa
  intro p hp
  have npa : a ≠ p := fun z => by rw [← z, upd_same] at hp; cases hp
  have fp := ea.f.newO (o := .dK []) hp
  have ep := ea.mv (Mv.newO hp) fp
  have e1 := ep.setOwn (i := i) (a := a) (vs := []) (ds := []) (fun j es hj z => by
    obtain ⟨c, ws, h1, h2, _⟩ := e.own hj
    rw [z] at h1; cases h1
    rw [ha] at h2; cases h2) (by rw [upd_ne npa, upd_same]) Reps.nil (e.f.s0 ha) (e.f.h0 ha)
  have e2 := e1.setDic (i := j) (a := p) (ks := []) (kvs := []) upd_same kreps_nil (ea.f.s0 hp) (ea.f.h0 hp)
  exact ⟨_, _, rfl, k.nx _ n S _ _ (Ex.refl S) e2 h⟩
/-- k in d, k not in d -/
theorem de_inDic {i : Nat} {kvs : List (Key × D)} {P : D → Nat → Prop} (hi : ρ[i]? = some (.dic kvs)) (h : DE A te ρ n fun d m => ∃ x : Int, d = .int x ∧ P (.bl (valD kvs (Sum.inl x)).isSome) m) : DE A (tDIn te (tVar i)) ρ n P := fun S H σ e Q q =>
  h S H σ e _ fun v d S1 H1 n1 m1 f1 r1 ⟨x, hd, p⟩ => by
    subst hd
    cases r1.int_inv
    obtain ⟨a, ks, g1, g2, g3, _⟩ := (e.mv m1 f1).dic hi
    refine ⟨.ref a, g1, a, valV ks (Sum.inl x : Key), rfl, Or.inl ⟨ks, Sum.inl x, Or.inl g2, rfl, rfl⟩, q _ _ S1 H1 n1 m1 f1 ?_ p⟩
    rcases kreps_val (Sum.inl x : Key) g3 with ⟨a, b⟩ | ⟨v', d', a, b, _⟩ <;> rw [a, b] <;> exact Rep.bl
theorem de_ninDic {i : Nat} {kvs : List (Key × D)} {P : D → Nat → Prop} (hi : ρ[i]? = some (.dic kvs)) (h : DE A te ρ n fun d m => ∃ x : Int, d = .int x ∧ P (.bl (!(valD kvs (Sum.inl x)).isSome)) m) : DE A (tDNotIn te (tVar i)) ρ n P := fun S H σ e Q q =>
  h S H σ e _ fun v d S1 H1 n1 m1 f1 r1 ⟨x, hd, p⟩ => by
    subst hd
    cases r1.int_inv
    obtain ⟨a, ks, g1, g2, g3, _⟩ := (e.mv m1 f1).dic hi
    refine ⟨.ref a, g1, a, valV ks (Sum.inl x : Key), rfl, Or.inl ⟨ks, Sum.inl x, Or.inl g2, rfl, rfl⟩, q _ _ S1 H1 n1 m1 f1 ?_ p⟩
    rcases kreps_val (Sum.inl x : Key) g3 with ⟨a, b⟩ | ⟨v', d', a, b, _⟩ <;> rw [a, b] <;> exact Rep.bl
/-- d[k] -/
theorem de_getDic {i : Nat} {kvs : List (Key × D)} {P : D → Nat → Prop} (hi : ρ[i]? = some (.dic kvs)) (h : DE A te ρ n fun d m => ∃ (x : Int) (y : D), d = .int x ∧ valD kvs (Sum.inl x) = some y ∧ P y m) : DE A (tDGet (tVar i) te) ρ n P := fun S H σ e Q q => by
  obtain ⟨a, ks, g1, g2, g3, _⟩ := e.dic hi
  refine ⟨.ref a, g1, h S H σ e _ fun v d S1 H1 n1 m1 f1 r1 ⟨x, y, hd, hy, p⟩ => ?_⟩
  subst hd
  cases r1.int_inv
  obtain ⟨a', ks', g1', g2', g3', _⟩ := (e.mv m1 f1).dic hi
  rw [g1] at g1'; cases g1'
  rcases kreps_val (Sum.inl x : Key) g3' with ⟨_, b⟩ | ⟨v', d', va, b, rp⟩
  · rw [b] at hy; cases hy
  · rw [b] at hy; cases hy
    exact ⟨a, v', rfl, Or.inl ⟨ks', Sum.inl x, Or.inl g2', rfl, va.symm⟩, q _ _ S1 H1 n1 m1 f1 rp p⟩
/-- d[k] = e -/
theorem ds_putDic {i : Nat} {kvs : List (Key × D)} (hi : ρ[i]? = some (.dic kvs)) (one : noDic (ρ.set i .un) = true) (h : DE A tv ρ n fun d m => DE A tk ρ m fun x m2 => ∃ k : Int, x = .int k ∧ kvs.length < 100000 ∧ T.nx (ρ.set i (.dic (putD kvs (Sum.inl k) d))) m2) : DS A (sDPut (tVar i) tk tv) ρ n T := fun S H σ e D k =>
  h S H σ e _ fun v d S1 H1 n1 m1 f1 r1 p1 => by
    have e1 := e.mv m1 f1
    obtain ⟨a, ks, g1, _⟩ := e1.dic hi
    refine ⟨.ref a, g1, p1 S1 H1 σ e1 _ fun y dy S2 H2 n2 m2 f2 r2 ⟨x, hx, hl, p2⟩ => ?_⟩
    subst hx
    cases r2.int_inv
    have e2 := e1.mv m2 f2
    obtain ⟨a', ks', g1', g2', g3', _⟩ := e2.dic hi
    rw [g1] at g1'; cases g1'
    refine ⟨a, _, rfl, Or.inl ⟨ks', Sum.inl x, g2', rfl, Evl.sz_lt (by rw [kreps_len g3']; exact hl), rfl⟩, ?_⟩
    exact k.nx _ n2 S2 _ σ (m1.ss.trans m2.ss) (e2.putDic hi one g1 (kreps_put (r1.mono m2.ss) g3')) p2
end
end DL
namespace DL
open PySem PySem.Spec PyProof.Rows L2 Evl
/-! data of any kind, weighed: how long its text is -/
mutual
def wt : D → Nat
  | .non => 5
  | .bl _ => 5
  | .int _ => 70
  | .str s => 10 * s.length + 2
  | .lst xs => wts xs + 3
  | .tup xs => wts xs + 3
  | .raw _ => 0
  | .exc _ _ => 0
def wts : List D → Nat
  | [] => 0
  | d :: ds => wt d + 2 + wts ds
end
mutual
def dp : D → Nat
  | .lst xs => dps xs + 1
  | .tup xs => dps xs + 1
  | _ => 0
def dps : List D → Nat
  | [] => 0
  | d :: ds => max (dp d) (dps ds)
end
mutual
/-- data all through, numbers of at most B, texts of signs -/
def okv (B : Nat) : D → Prop
  | .int i => i.natAbs ≤ B
  | .str s => ∀ c ∈ s.cps.toList, c < 16 ^ 8
  | .lst xs => okvs B xs
  | .tup xs => okvs B xs
  | .raw _ => False
  | .exc _ _ => False
  | _ => True
def okvs (B : Nat) : List D → Prop
  | [] => True
  | d :: ds => okv B d ∧ okvs B ds
end
mutual
/-- the same, as a test -/
def okb (B : Nat) : D → Bool
  | .int i => decide (i.natAbs ≤ B)
  | .str s => s.cps.toList.all fun c => decide (c < 16 ^ 8)
  | .lst xs => okbs B xs
  | .tup xs => okbs B xs
  | .raw _ => false
  | .exc _ _ => false
  | _ => true
def okbs (B : Nat) : List D → Bool
  | [] => true
  | d :: ds => okb B d && okbs B ds
end
mutual
theorem okb_ok {B : Nat} : ∀ d : D, okb B d = true → okv B d
  | .non, _ => trivial
  | .bl _, _ => trivial
  | .int i, h => by
    have h : decide (i.natAbs ≤ B) = true := h
    show i.natAbs ≤ B
    exact of_decide_eq_true h
  | .str s, h => fun c hc => of_decide_eq_true (List.all_eq_true.mp h c hc)
  | .lst xs, h => okbs_ok xs h
  | .tup xs, h => okbs_ok xs h
  | .raw _, h => nomatch h
  | .exc _ _, h => nomatch h
theorem okbs_ok {B : Nat} : ∀ xs : List D, okbs B xs = true → okvs B xs
  | [], _ => trivial
  | x :: xs, h => by
    have h' : (okb B x && okbs B xs) = true := h
    rw [Bool.and_eq_true] at h'
    exact ⟨okb_ok x h'.1, okbs_ok xs h'.2⟩
end
mutual
theorem okv_up {B B' : Nat} (l : B ≤ B') : ∀ d : D, okv B d → okv B' d
  | .non, _ => trivial
  | .bl _, _ => trivial
  | .int i, h => Nat.le_trans h l
  | .str s, h => h
  | .lst xs, h => okvs_up l xs h
  | .tup xs, h => okvs_up l xs h
  | .raw _, h => h
  | .exc _ _, h => h
theorem okvs_up {B B' : Nat} (l : B ≤ B') : ∀ xs : List D, okvs B xs → okvs B' xs
  | [], _ => trivial
  | x :: xs, h => ⟨okv_up l x h.1, okvs_up l xs h.2⟩
end
theorem okvs_iff {B : Nat} : ∀ {xs : List D}, okvs B xs ↔ ∀ x ∈ xs, okv B x
  | [] => by simp [okvs]
  | d :: ds => by
    show okv B d ∧ okvs B ds ↔ _
    rw [okvs_iff (xs := ds)]
    constructor
    · rintro ⟨a, b⟩ x hx
      rcases List.mem_cons.mp hx with rfl | z
      · exact a
      · exact b x z
    · exact fun h => ⟨h d List.mem_cons_self, fun x hx => h x (List.mem_cons_of_mem _ hx)⟩
theorem wts_sum : ∀ xs : List D, wts xs = (xs.map fun x => wt x + 2).sum
  | [] => rfl
  | d :: ds => by
    show wt d + 2 + wts ds = _
    rw [wts_sum ds, List.map_cons, List.sum_cons]
theorem dps_le {k : Nat} : ∀ {xs : List D}, dps xs ≤ k ↔ ∀ x ∈ xs, dp x ≤ k
  | [] => by simp [dps]
  | d :: ds => by
    show max (dp d) (dps ds) ≤ k ↔ _
    have := dps_le (k := k) (xs := ds)
    constructor
    · intro h x hx
      rcases List.mem_cons.mp hx with rfl | z
      · omega
      · exact this.mp (by omega) x z
    · intro h
      have a := h d List.mem_cons_self
      have b := this.mpr fun x hx => h x (List.mem_cons_of_mem _ hx)
      omega
theorem wts_mem {x : D} : ∀ {xs : List D}, x ∈ xs → wt x + 2 ≤ wts xs
  | d :: ds, h => by
    show _ ≤ wt d + 2 + wts ds
    rcases List.mem_cons.mp h with rfl | z
    · omega
    · have := wts_mem z; omega
theorem wts_app : ∀ xs ys : List D, wts (xs ++ ys) = wts xs + wts ys
  | [], ys => by rw [List.nil_append]; show _ = 0 + _; omega
  | d :: ds, ys => by
    show wt d + 2 + wts (ds ++ ys) = wt d + 2 + wts ds + wts ys
    rw [wts_app ds ys]; omega
theorem join_sum : ∀ ts : List Str, (Str.join ", " ts).length ≤ (ts.map Str.length).sum + 2 * ts.length
  | [] => by show (0 : Nat) ≤ _; omega
  | [x] => by
    show x.length ≤ (x.length + 0) + 2 * 1
    omega
  | x :: y :: r => by
    have b := join_sum (y :: r)
    show (x ++ ", " ++ Str.join ", " (y :: r)).length ≤ _
    rw [Str.length_append, Str.length_append]
    have e : ((", " : Str)).length = 2 := by decide
    rw [e, List.map_cons, List.sum_cons, List.length_cons]
    omega
theorem from_sum : ∀ (ts : List Str) (k : Nat) (acc : Str), (textFrom k acc ts).length ≤ acc.length + ((ts.map Str.length).sum + 2 * ts.length)
  | [], k, acc => by
    show acc.length ≤ _
    omega
  | t :: ts, k, acc => by
    have b := from_sum ts (k + 1) (acc ++ ((if k > 0 then ", " else "" : String) : Str) ++ t)
    have e : (((if k > 0 then ", " else "" : String) : Str)).length ≤ 2 := by
      split <;> decide
    rw [Str.length_append, Str.length_append] at b
    rw [List.map_cons, List.sum_cons, List.length_cons]
    show (textFrom (k + 1) (acc ++ ((if k > 0 then ", " else "" : String) : Str) ++ t) ts).length ≤ _
    omega
theorem len_ofS (s : String) : (Str.ofString s).length = s.length := by
  rw [Str.ofString_eq_toList]
  show (s.toList.map Char.toNat).toArray.size = _
  rw [List.size_toArray, List.length_map]
  exact String.length_toList
mutual
theorem sh_okv {B : Nat} (hB : B < 10 ^ 68) : ∀ d : D, okv B d → Sh d (dp d) (wt d)
  | .non, _ => ⟨rfl, rfl, rfl, Nat.le_refl _, by decide⟩
  | .bl b, _ => ⟨rfl, rfl, rfl, Nat.le_refl _, by cases b <;> decide⟩
  | .int i, h => by
    have h : i.natAbs ≤ B := h
    have h : i.natAbs < 10 ^ 68 := Nat.lt_of_le_of_lt h hB
    have h2 := int_text_length_le10 (a := i) (k := 68) (by decide) h
    refine ⟨rfl, decide_eq_true ?_, rfl, Nat.le_refl _, ?_⟩
    · by_cases z : i.natAbs = 0
      · rw [z]; decide
      · rw [Nat.log2_lt z]
        exact Nat.lt_of_lt_of_le h (by
          have : (10 : Nat) ^ 68 ≤ 2 ^ 250 := by decide
          exact Nat.le_trans this (Nat.pow_le_pow_right (by decide) (by decide)))
    · show (Str.ofString (toString i)).length ≤ 70
      rw [len_ofS]; omega
  | .str s, h => ⟨rfl, rfl, rfl, Nat.le_refl _, StrLaws.reprText_len s h⟩
  | .lst xs, h => by
    obtain ⟨a, b, c, d, e, f⟩ := shs_okv hB xs h
    refine ⟨a, b, c, ?_, ?_⟩
    · show PyData.depthAll (toPs xs) + 1 ≤ dps xs + 1
      omega
    · show (listText (PyData.shownAll (toPs xs))).length ≤ wts xs + 3
      have z := from_sum (PyData.shownAll (toPs xs)) 0 "["
      unfold listText
      rw [Str.length_append]
      have e1 : (("[" : Str)).length = 1 := by decide
      have e2 : (("]" : Str)).length = 1 := by decide
      omega
  | .tup xs, h => by
    obtain ⟨a, b, c, d, e, f⟩ := shs_okv hB xs h
    refine ⟨a, b, c, ?_, ?_⟩
    · show PyData.depthAll (toPs xs) + 1 ≤ dps xs + 1
      omega
    · show (tupleText (PyData.shownAll (toPs xs))).length ≤ wts xs + 3
      have z := join_sum (PyData.shownAll (toPs xs))
      unfold tupleText
      rw [Str.length_append, Str.length_append]
      have e1 : (("(" : Str)).length = 1 := by decide
      have f' : ((if (PyData.shownAll (toPs xs)).length == 1 then ",)" else ")" : String) : Str).length ≤ 2 := by
        show (Str.ofString (if (PyData.shownAll (toPs xs)).length == 1 then ",)" else ")" : String)).length ≤ 2
        split <;> decide
      omega
  | .raw _, h => h.elim
  | .exc _ _, h => h.elim
theorem shs_okv {B : Nat} (hB : B < 10 ^ 68) : ∀ xs : List D, okvs B xs → pureDs xs = true ∧ PyData.showableAll (toPs xs) = true ∧ PyData.hasDictAll (toPs xs) = false ∧ PyData.depthAll (toPs xs) ≤ dps xs ∧ ((PyData.shownAll (toPs xs)).map Str.length).sum + 2 * (PyData.shownAll (toPs xs)).length ≤ wts xs ∧ (PyData.shownAll (toPs xs)).length = xs.length
  | [], _ => by simp [pureDs, toPs, PyData.showableAll, PyData.hasDictAll, PyData.depthAll, PyData.shownAll]
  | x :: xs, h => by
    obtain ⟨a, b, c, d, e, f⟩ := shs_okv hB xs h.2
    have g := sh_okv hB x h.1
    refine ⟨?_, ?_, ?_, ?_, ?_, ?_⟩
    · show (pureD x && pureDs xs) = true
      rw [g.pure, a]
      rfl
    · show (PyData.showable (toP x) && PyData.showableAll (toPs xs)) = true
      rw [g.sh, b]
      rfl
    · show (PyData.hasDict (toP x) || PyData.hasDictAll (toPs xs)) = false
      rw [g.nd, c]
      rfl
    · show max (toP x).depth (PyData.depthAll (toPs xs)) ≤ max (dp x) (dps xs)
      have := g.dep
      omega
    · show ((toP x).shown.length + ((PyData.shownAll (toPs xs)).map Str.length).sum) + 2 * ((PyData.shownAll (toPs xs)).length + 1) ≤ wt x + 2 + wts xs
      have := g.len
      omega
    · show (PyData.shownAll (toPs xs)).length + 1 = xs.length + 1
      rw [f]
end
section
variable {A : Amb} {te : TE} {ρ : Rho} {n : Nat}
/-- repr(e) of weighed data -/
theorem de_reprV {B : Nat} (hB : B < 10 ^ 68) {P : D → Nat → Prop} (h : DE A te ρ n fun d m => okv B d ∧ dp d ≤ 60 ∧ wt d ≤ 1000000 ∧ P (.str (toP d).shown) m) : DE A (tCB (rRepr A.K) (tCons te tNil)) ρ n P :=
  de_reprS (h.imp fun d m ⟨a, b, c, p⟩ => ⟨⟨_, _, sh_okv hB d a, b, c⟩, p⟩)
/-- str(e), an int -/
def rStrI : List V → Hp → VK → Prop := fun xs H Q => ∃ i : Int, xs = [.int i] ∧ i.natAbs.log2 < 1920 ∧ Q (.str (toString i)) H
theorem kx_strI {X : Cx} : CallR X (.type "str") rStrI := call_str_int
theorem de_strI {P : D → Nat → Prop} (h : DE A te ρ n fun d m => ∃ i : Int, d = .int i ∧ i.natAbs < 10 ^ 68 ∧ P (.str (toString i)) m) : DE A (tCB rStrI (tCons te tNil)) ρ n P := fun S H σ e Q q =>
  h S H σ e _ fun v d S1 H1 n1 m1 f1 r1 ⟨i, hd, hi, p⟩ => by
    subst hd
    cases r1.int_inv
    refine ⟨i, rfl, ?_, q _ _ S1 H1 n1 m1 f1 Rep.str p⟩
    by_cases z : i.natAbs = 0
    · rw [z]; decide
    · rw [Nat.log2_lt z]
      exact Nat.lt_of_lt_of_le hi (by
        have : (10 : Nat) ^ 68 ≤ 2 ^ 250 := by decide
        exact Nat.le_trans this (Nat.pow_le_pow_right (by decide) (by decide)))
/-- a text of the library's own making has signs alone -/
theorem okv_ofS {B : Nat} (s : String) : okv B (.str (Str.ofString s)) := by
  show ∀ c ∈ (Str.ofString s).cps.toList, c < 16 ^ 8
  intro c hc
  rw [Str.ofString_eq_toList] at hc
  obtain ⟨a, _, rfl⟩ := List.mem_map.mp (by simpa using hc)
  have : a.toNat < 4294967296 := a.val.toNat_lt
  have e : (16 : Nat) ^ 8 = 4294967296 := by decide
  rw [e]
  exact this
theorem wt_str (s : String) : wt (.str (Str.ofString s)) = 10 * s.length + 2 := by
  show 10 * (Str.ofString s).length + 2 = _
  rw [len_ofS]
theorem wt_strI {i : Int} (h : i.natAbs < 10 ^ 68) : wt (.str (toString i)) ≤ 700 := by
  have h2 := int_text_length_le10 (a := i) (k := 68) (by decide) h
  show wt (.str (Str.ofString (toString i))) ≤ 700
  rw [wt_str]; omega
theorem okv_seq {B : Nat} {d : D} {xs : List D} (h : d = .lst xs ∨ d = .tup xs) : okv B d ↔ ∀ x ∈ xs, okv B x := by
  rcases h with rfl | rfl <;> exact okvs_iff
theorem wt_seq {d : D} {xs : List D} (h : d = .lst xs ∨ d = .tup xs) : wt d = wts xs + 3 := by rcases h with rfl | rfl <;> rfl
theorem dp_seq {d : D} {xs : List D} (h : d = .lst xs ∨ d = .tup xs) : dp d = dps xs + 1 := by rcases h with rfl | rfl <;> rfl
theorem len_wts : ∀ xs : List D, xs.length ≤ wts xs
  | [] => Nat.le_refl _
  | d :: ds => by
    show ds.length + 1 ≤ wt d + 2 + wts ds
    have := len_wts ds
    omega
end
end DL
namespace DL
open PySem PySem.Spec PyProof.Rows L2 Evl
/-- what the clause 'except (..)' wishes of an exception of the body -/
def wTup0 (K : PySem.W.Frag) (cs : List Value) (ts : Addr → Value → Option Addr → TS) (D : Ends) : WX := fun cls d σ H =>
  PySem.W.exmAny K cls cs = some true ∧ ∀ a, H a = none → ts a cls d D σ H
section
variable {X : Cx} {kk : Nat} {body suite : List Stmt} {b₀ : Stmt} {es : List Expr} {cs : List Value} {tpos pos pos' : Pos} {tb : WX → TS} {ts : Addr → Value → Option Addr → TS}
theorem ps_try_tup0 (hs : X.stack = X.env :: X.outer) (hf : X.env.frame = some X.env.locals) (hc : NamesAll X es cs) (hcl : cs.length ≤ sizeLine)
    (hb : ∀ (W : WX) (pn : List (Addr × Obj)) (xe : Value → Shared → Prop), Takes (X.tr pn xe) W → PassesOwn (model X.prog X.w) X.A X.env xe → PSs (X.tr pn xe) body (tb W))
    (hsu : ∀ (a : Addr) (oe : Obj) (cls : Value) (d : Option Addr) (pn : List (Addr × Obj)), Zc cls d oe → (∃ vs, oe.data = .fields vs) → PSs (X.suite a ((a, oe) :: pn)) (b₀ :: suite) (ts a cls d)) :
    PS X (.Try body [.ExceptHandler (some (.Tuple es kk tpos)) none (b₀ :: suite) pos'] [] [] pos) (fun D σ H => tb (wTup0 X.K cs ts D) D σ H) := by
  constructor
  intro pins s σ H D I h
  have ok := I.ok
  have hfr : X.A.frames = some (X.env :: X.outer) := by rw [ok.frames, hs]
  refine wpAny_Try_except ?_
  let cat : Value → Shared → Prop := fun e s1 => wpAny (model X.prog X.w) X.A (noteFrame e X.env) (fun _ s2 => wpAny (model X.prog X.w) X.A (setFlight e none) (fun _ s3 =>
    wpAny (model X.prog X.w) X.A (handleBy e X.env [.ExceptHandler (some (.Tuple es kk tpos)) none (b₀ :: suite) pos']) (SP X pins D) X.xe s3) X.xe s2) X.xe s1
  have catch_ : Takes (X.tr (X.pn ++ pins) cat) (wTup0 X.K cs ts D) := by
    rintro u s' ⟨a, B, sI, pins', σ', H', cls, d, rfl, J', nb, up, sky, na, os, ag, hm, hyes⟩
    have J : Inv X pins σ' H' sI := J'.ofTry ok
    have sky' : Sky B (X.env :: X.outer) a (Zc cls d) X.env.locals s'.heap := by rw [← hs]; exact sky
    show wpAny (model X.prog X.w) X.A (noteFrame (.ref a) X.env) _ _ _
    refine Sky.land Zc.steady hfr hf sky' fun h3 fl3 up3 => ?_
    have J3 : Inv X pins σ' H' { s' with heap := h3 } := J.landed nb fl3.1 (up.trans up3) os ag
    obtain ⟨oe3, vs3, he3, hz3, hd3⟩ := fl3.there
    have nfr : a ∉ frs (X.env :: X.outer) := fun hm => by
      obtain ⟨_, o', e', hnf⟩ := fl3.2.2.1.mem hm
      rw [he3] at e'; cases e'
      exact hnf _ hd3
    have nL : a ≠ X.env.locals := fun z => nfr (List.mem_filterMap.mpr ⟨X.env, List.mem_cons_self, by rw [hf, z]⟩)
    have nF : a ∉ X.fs := fun hm => by
      obtain ⟨e, he, q⟩ := List.mem_filterMap.mp hm
      exact nfr (List.mem_filterMap.mpr ⟨e, List.mem_cons_of_mem _ he, q⟩)
    refine wpAny_handleBy_cons (codeAny_handlers_test ?_) (by intro q; cases q)
    -- the tuple of classes
    have S3 := J3.suite he3 hd3 na nL nF
    refine Tuple_ (names_spliced (X := X.suite a ((a, oe3) :: (X.pn ++ pins))) S3 hc.suite ?_)
    refine wpAny_newObj_type ?_ hcl
    let h4 : Heap := h3.push { cls := .type "tuple", dict := none, data := .seq cs.toArray }
    have k4 : ∀ b o, h3.get? b = some o → h4.get? b = some o := fun b o e => Heap.get?_push_of_some _ e
    have up4 : h3.UpToSlots h4 := Heap.UpToSlots.of_keeps k4
    have fl4 : PySem.HandSPX.FlyingZ B (X.env :: X.outer) a (Zc cls d) h4 := by
      obtain ⟨f1, f2, f3, oe, vs, T, oT, tt, x1, x2, x3, x4, x5, x6, x7, x8, x9⟩ := fl3
      exact ⟨fun b o e => k4 b o (f1 b o e), f2, f3.of_keeps fun b o e _ => ⟨o, k4 b o e, rfl⟩, oe, vs, T, oT, tt, k4 _ _ x1, x2, x3, x4, x5, x6, k4 _ _ x7, x8, x9⟩
    have J4 : Inv X pins σ' H' { s' with heap := h4 } := J.landed nb fl4.1 ((up.trans up3).trans up4) os ag
    have LT : PySem.W.Looks (model X.prog X.w) h4 (typeOf (.ref a)) cls := fun A Q E s k q => wpAny_typeOf_ref (k _ _ (k4 _ _ he3)) (by rw [hz3.1]; exact q)
    have LM := exm_tup (M := model X.prog X.w) J4.kIn LT (tp := h3.objs.size) (Heap.get?_push_size h3 rfl) rfl rfl hm
    refine LM.here ?_
    -- the suite
    refine codeAny_handlers_suite ?_
    refine PySem.HandSPX.lands_againZ fl4 fun h5 fl5 up5 => ?_
    have J5 : Inv X pins σ' H' { s' with heap := h5 } := J.landed nb fl5.1 (((up.trans up3).trans up4).trans up5) os ag
    obtain ⟨oe5, vs5, he5, hz5, hd5⟩ := fl5.there
    have S5 := J5.suite he5 hd5 na nL nF
    refine wpAny_mono ((hsu a oe5 cls d (X.pn ++ pins) hz5 ⟨_, hd5⟩).run [] _ _ H' _ S5 (hyes a na)) (fun f s6 hsp => ?_) (fun _ _ z => False.elim z)
    cases f with
    | next =>
      obtain ⟨σ6, H6, S6, q6⟩ := hsp
      exact ⟨_, _, S6.unsuite ok, q6⟩
    | brk =>
      obtain ⟨σ6, H6, S6, q6⟩ := hsp
      exact ⟨_, _, S6.unsuite ok, q6⟩
    | cont =>
      obtain ⟨σ6, H6, S6, q6⟩ := hsp
      exact ⟨_, _, S6.unsuite ok, q6⟩
    | ret u =>
      obtain ⟨v6, σ6, H6, S6, r6, q6⟩ := hsp
      exact ⟨_, _, _, S6.unsuite ok, r6, q6⟩
  refine wpAny_mono ((hb (wTup0 X.K cs ts D) (X.pn ++ pins) cat catch_ PassesOwn.looking).run [] s σ H D (I.toTry _) h) (fun f s1 hsp => ?_) (fun e s1 he => he)
  cases f with
  | next =>
    obtain ⟨σ', H', J', q⟩ := hsp
    exact wpAny_execs_nil ⟨σ', H', J'.ofTry ok, q⟩
  | brk =>
    obtain ⟨σ', H', J', q⟩ := hsp
    exact ⟨σ', H', J'.ofTry ok, q⟩
  | cont =>
    obtain ⟨σ', H', J', q⟩ := hsp
    exact ⟨σ', H', J'.ofTry ok, q⟩
  | ret u =>
    obtain ⟨v, σ', H', J', r, q⟩ := hsp
    exact ⟨v, σ', H', J'.ofTry ok, r, q⟩
end
section
variable {A : Amb} {ρ : Rho} {n k : Nat} {C : DCon} {tr : TA} {T : DEnds}
/-- try: x = f(..) except (..): ts -/
theorem ds_tryCall0 {f : Nat} {cs : List Value} {ts : TS} (h : DA A tr ρ n fun ds m => ds.length = k ∧ C none ds 0 (fun d _ => T.nx (ρ.set f (.val d)) m) (fun c fs => PySem.W.exmAny A.K (.ref c) cs = some true ∧ DS A ts ρ m T)) :
    DS A (fun D σ H => tAsg (tCallS (spOf A.K k C) (WE (wTup0 A.K cs (fun a cls d => ts) D)) tr) (gName f) D σ H) ρ n T := fun S H σ e D kk =>
  h S H σ e _ fun vs ds S1 H1 n1 m1 f1 r1 ⟨hl, hc⟩ => by
    refine call_atN f1 r1 hl hc (fun v d S' H' m f' rv p => ?_) fun c fs dd S' H' m f' hdd ⟨hm, p⟩ => ⟨hm, fun a ha => ?_⟩
    · exact kk.nx _ n1 S' H' _ (m1.ss.trans m.ss) ((e.mv (m1.trans f1.bt m) f').set rv) p
    · exact p S' H' σ (e.mv (m1.trans f1.bt m) f') D (kk.on (m1.ss.trans m.ss))
theorem dr_notinD {x : D} {ds : List D} {P : D → Nat → Prop} (hx : okD x = true) (hy : okD (.lst ds) = true) (p : P (.bl (!((toPs ds).any fun z => PyData.eqv z (toP x)))) n) : DR A (rNotInD A.K) x (.lst ds) n P := fun S H v w f r1 r2 Q q => by
  have a := Bool.and_eq_true_iff.mp hx
  have b := Bool.and_eq_true_iff.mp hy
  exact ⟨toP x, toPs ds, rep_dp f.sub x v a.1 r1, rep_dp f.sub (.lst ds) w b.1 r2, a.2, b.2, q _ _ S H n Mv.refl f Rep.bl p⟩
end
section
variable {X : Cx}
theorem kx_notinD (K : PySem.W.Frag) (hu : X.A.units + 65 < cLine) (h : X.K = K := by rfl) : OpR X (compareOp .NotIn) (rNotInD K) := h ▸ op_notInD hu
end
end DL
namespace DL
open PySem PySem.Spec PyProof.Rows L2 Evl
/-! xs or ys, by truth -/
theorem kx_orT {X : Cx} {a b : Expr} {ta tb : TE} {rest : List Expr} {pos : Pos} (K : PySem.W.Frag) (ha : PE X a ta) (hb : PE X (.BoolOp .Or (b :: rest) pos) tb) (h : X.K = K := by rfl) : PE X (.BoolOp .Or (a :: b :: rest) pos) (tOrT K ta tb) := h ▸ pe_orT ha hb
section
variable {A : Amb} {ta tb : TE} {ρ : Rho} {n : Nat}
theorem df_orT {P : List D → Nat → Prop} (h : DF A ta ρ n fun ds m => (ds ≠ [] → P ds m) ∧ (ds = [] → DF A tb ρ m P)) : DF A (tOrT A.K ta tb) ρ n P := fun S H σ e Q q =>
  h S H σ e _ fun a vs ds S1 H1 n1 m1 f1 hn hh hs r ⟨p1, p2⟩ => by
    refine ⟨!vs.isEmpty, Or.inl ⟨vs, Evl.sq_of hh, rfl⟩, ?_⟩
    have ie : vs.isEmpty = ds.isEmpty := by
      have := r.length
      cases vs <;> cases ds <;> first | rfl | simp at this
    rw [ie]
    cases ds with
    | nil =>
      rw [if_neg (by simp)]
      exact p2 rfl S1 H1 σ (e.mv m1 f1) Q fun a2 vs2 ds2 S2 H2 n2 m2 f2 hn2 hh2 hs2 r2 p => q a2 vs2 ds2 S2 H2 n2 (m1.trans f1.bt m2) f2 (none_back e.f m1 f1 hn2) hh2 hs2 r2 p
    | cons d ds =>
      rw [if_pos (by simp)]
      exact q a vs (d :: ds) S1 H1 n1 m1 f1 hn hh hs r (p1 (fun z => nomatch z))
end
end DL
namespace DL
open PySem PySem.Spec PySem.HandSPX Builtin Builtin.ObjectAttr
/-! own error classes called with keywords -/
section
variable {M : Model} {A : Around} {E : Value → Shared → Prop} {h : Heap} {g : Array GenState} {d : Drawn} {t : Nat} {os : OsState}
variable {nm q : Str} {C N : Addr} {bs bm bmB : List Value} {hdct : Bool} {sn : List Str} {sub : List Value} {ab : Bool} {col : Option Bool} {dd : Option Addr} {k0 k1 k2 k3 k5 : Option Value} {B newId initId : String}
theorem check_newK (F : ExcBaseFacts B newId initId bmB) (hT : ∀ X : String, bm.contains (.type X) = bmB.contains (.type X)) {kws : List (Str × Value)} {Q : Unit → Shared → Prop}
    (hC : h.get? C = some (excClassObj nm q C N bs bm hdct sn sub ab col dd k0 k1 k2 k3 k5 newId)) (hq : Q () ⟨h, g, d, t, os⟩) : wpAny M A (checkBuiltinCall newId ⟨[.ref C], kws⟩) Q E ⟨h, g, d, t, os⟩ := by
  have hcont : (Value.ref C :: bm).contains (.type B) = true := by rw [List.contains_cons, hT, F.hasB, Bool.or_true]
  have hstar := F.noStar
  simp only [checkBuiltinCall, F.newKind, F.newSplit, F.newRow]
  repeat (first | refine wpAny_loadPart_at hC ?_ | (refine wpAny_isSubtype_exc hC ?_; rw [hcont]) | refine wpAny_staticBase_exc hC ?_ | refine wpAny_madeBy_exc hC ?_ | simp only [bne_self_eq_false, Bool.false_eq_true, if_false] | wp_step)
  exact hq
end
section
variable {prog : Program} {w : World} {A : Around} {E : Value → Shared → Prop} {R : Result → Shared → Prop} {h : Heap} {g : Array GenState} {d : Drawn} {t : Nat} {os : OsState}
variable {nm q : Str} {C N : Addr} {bs bm bmB : List Value} {hdct : Bool} {sn : List Str} {sub : List Value} {ab : Bool} {col : Option Bool} {dd : Option Addr} {k0 k1 k2 k3 k5 : Option Value} {B newId initId : String}
/-- the new object, its arguments all by keywords -/
theorem new_ownK (F : ExcBaseFacts B newId initId bmB) (hT : ∀ X : String, bm.contains (.type X) = bmB.contains (.type X)) {kws : List (Str × Value)}
    (hC : h.get? C = some (excClassObj nm q C N bs bm hdct sn sub ab col dd k0 k1 k2 k3 k5 newId))
    (hq : R (.ok (.ret (.ref (h.objs.size + 1)))) ⟨(h.push (PySem.W.kdv_tup [])).push (excO C h.objs.size), g, d, t, os⟩) :
    codeAny (model prog w) A (.builtin newId ⟨[.ref C], kws⟩) R ⟨h, g, d, t, os⟩ := by
  have hends := F.ends
  have hcB : (Value.ref C :: bm).contains (.type B) = true := by rw [List.contains_cons, hT, F.hasB, Bool.or_true]
  have hcA : (Value.ref C :: bm).contains (.type "AttributeError") = false := by rw [List.contains_cons, hT, F.noAttr]; rfl
  have hcN : (Value.ref C :: bm).contains (.type "NameError") = false := by rw [List.contains_cons, hT, F.noName]; rfl
  refine codeAny_builtinAt F.entry ?_
  unfold Builtin.«BaseException.__new__»
  refine wpAt_bind ?_
  show wpAt _ _ _ (stack >>= _) _ _ _
  refine wpAt_bind (wpAt_stack fun p below => wpAt_of_wpAny ?_)
  wp_walk
  refine wpAt_of_wpAny ?_
  rw [F.owner]
  repeat (first | with_reducible refine wpAny_madeHere_exc F.canon hC ?_ | with_reducible refine wpAny_loadPart_at hC ?_ | (with_reducible refine wpAny_isSubtype_exc hC ?_; first | rw [hcB] | rw [hcA] | rw [hcN]) | wp_step)
  show R _ _
  rw [Heap.size_push]
  exact hq
/-- type.__call__ on such a class, its arguments all by keywords -/
theorem type_call_ownK (F : ExcBaseFacts B newId initId bmB) (hT : ∀ X : String, bm.contains (.type X) = bmB.contains (.type X)) {kws : List (Str × Value)} {fI : Addr} {Q : PySem.Fin → Shared → Prop}
    (hC : h.get? C = some (excClassObj nm q C N bs bm hdct sn sub ab col dd k0 k1 k2 k3 k5 newId))
    (hi : W.Looks (model prog w) h (typeLookup (.ref C) "__init__") (some (.ref fI))) (hb : ∀ self, W.Looks (model prog w) h (bindSpecial (.ref fI) self) (.ref fI, [self]))
    (hq : codeAny (model prog w) A (.call (.ref fI) ⟨[.ref (h.objs.size + 1)], kws⟩)
      (fun r s' => match r with | .ok (.ret v) => v = .none ∧ Q (.done (.ret (.ref (h.objs.size + 1)))) s' | .ok _ => False | .error e => E e s')
      ⟨(h.push (PySem.W.kdv_tup [])).push (excO C h.objs.size), g, d, t, os⟩) :
    wpAny (model prog w) A (Builtin.«type.__call__» ⟨[.ref C], kws⟩) Q E ⟨h, g, d, t, os⟩ := by
  repeat (first | with_reducible refine wpAny_loadPart_at hC ?_ | with_reducible refine wpAny_madeBy_exc hC ?_ | wp_step)
  refine codeAny_call_builtin_code (Code.quiet_builtin _ F.quiet) (check_newK F hT hC ?_)
  refine new_ownK F hT hC ?_
  show wpAny _ _ _ _ _ _
  have k : ∀ b o, h.get? b = some o → ((h.push (PySem.W.kdv_tup [])).push (excO C h.objs.size)).get? b = some o := fun b o e => Heap.get?_push_of_some _ (Heap.get?_push_of_some _ e)
  have hC₁ := k _ _ hC
  have hget : ((h.push (PySem.W.kdv_tup [])).push (excO C h.objs.size)).get? (h.objs.size + 1) = some (excO C h.objs.size) := by heap_get
  have hcC : (Value.ref C :: bm).contains (.ref C) = true := by simp
  have i1 := hi.keeps k
  have b1 := (hb (.ref (h.objs.size + 1))).keeps k
  unfold isInstance
  repeat (first | with_reducible refine wpAny_loadPart_at hget ?_ | (with_reducible refine wpAny_isSubtype_exc hC₁ ?_; rw [hcC]) | wp_step)
  show wpAny _ _ (typeLookup (.ref C) _) _ _ _
  refine i1.at ?_
  refine wpAny_holding (wpAny_bind (b1.at ?_))
  refine wpAny_bind (wpAny_call (codeAny_mono hq fun r s' z => ?_))
  rcases r with e | (v | _ | _ | _) <;> first | exact z | exact z.elim | skip
  obtain ⟨rfl, z⟩ := z
  first
    | exact wpAny_pure (wpAny_pure z)
    | (wp_walk; exact z)
theorem call_ownK (F : ExcBaseFacts B newId initId bmB) (hT : ∀ X : String, bm.contains (.type X) = bmB.contains (.type X)) {kws : List (Str × Value)} {fI : Addr}
    (hC : h.get? C = some (excClassObj nm q C N bs bm hdct sn sub ab col dd k0 k1 k2 k3 k5 newId))
    (hi : W.Looks (model prog w) h (typeLookup (.ref C) "__init__") (some (.ref fI))) (hb : ∀ self, W.Looks (model prog w) h (bindSpecial (.ref fI) self) (.ref fI, [self]))
    (hq : codeAny (model prog w) (A.under (.builtin "type.__call__" ⟨[.ref C], kws⟩)) (.call (.ref fI) ⟨[.ref (h.objs.size + 1)], kws⟩) (W.InitBack (h.objs.size + 1) R)
      ⟨(h.push (PySem.W.kdv_tup [])).push (excO C h.objs.size), g, d, t, os⟩) :
    codeAny (model prog w) A (.call (.ref C) ⟨[], kws⟩) R ⟨h, g, d, t, os⟩ := by
  have f1 := tc_lookup
  have f2 := tc_bind (.ref C)
  have hTy : (⟨h, g, d, t, os⟩ : Shared).TypeIs (.ref C) "type" := ⟨_, hC, rfl⟩
  refine codeAny_of_tree ?_
  show wpAny _ _ (callAny (.ref C) _) _ _ _
  repeat (any_goals (first | assumption | with_reducible refine wpAny_loadPart_at hC ?_ | wp_step))
  refine ⟨rfl, ?_⟩
  refine codeAny_call_builtin_at (Code.quiet_builtin _ (by decide +kernel)) entry_typeCall (wpAny_check_type_call_sub hC (type_call_ownK F hT hC hi hb ?_))
  refine codeAny_mono hq fun r s' z => ?_
  rcases r with e | (v | _ | _ | _) <;> exact z
end
end DL
namespace DL
open PySem PySem.Spec PyProof.Rows L2 Evl
/-! own errors as values -/
theorem exH_ok {P : Program} {w : World} {H : Hp} {h : Heap} {a C d : Addr} {oe : Obj} {vs : Array Value} (e : h.get? a = some oe) (z : oe.cls = .ref C) (y : oe.dict = some d) (q : oe.data = .fields vs) : ObjOk P w H h a (ExH C d a) :=
  ⟨⟨oe, vs, e, z, y, q⟩, ⟨oe, e⟩, fun _ _ ⟨u, v, q1, q2⟩ k => ⟨u, v, k u q1, q2⟩⟩
/-- C(e, ..), not raised: a new error that is held -/
def tXval (C : Addr) (sp : Sp) (ta : TA) : TE := fun σ H Q => ta σ H fun vs H1 => vs.length ≤ 1000 ∧ ∀ a, H1 a = none → sp (.ref a :: vs) (upd H1 a (exo a C none))
  (fun v H2 => v = .non ∧ ∃ (d : Addr) (fs : List (Str × V)), H2 a = some (exo a C (some d)) ∧ H2 d = some (exd d fs) ∧ H1 d = none ∧ Q (.ref a) (upd (upd (del H2 a) d (.xd fs)) a (ExH C d a))) (fun _ _ _ => False)
/-- C(k = e, ..), not raised -/
def tXvalK (C : Addr) (sp : Sp) (gV : List V → List V → List V) (tk : TA) : TE := fun σ H Q => tk σ H fun ws H1 => ∀ a, H1 a = none → sp (gV [.ref a] ws) (upd H1 a (exo a C none))
  (fun v H2 => v = .non ∧ ∃ (d : Addr) (fs : List (Str × V)), H2 a = some (exo a C (some d)) ∧ H2 d = some (exd d fs) ∧ H1 d = none ∧ Q (.ref a) (upd (upd (del H2 a) d (.xd fs)) a (ExH C d a))) (fun _ _ _ => False)
section
variable {X : Cx} {e : Expr} {es : List Expr} {ta tk : TA} {f : Str} {p pos : Pos} {B newId initId : String} {bmB : List Value}
theorem mk_val {pins : List (Addr × Obj)} {σ : L2.St} {H1 H2 : Hp} {Q : VK} {hp hp2 h2 : Heap} {g1 g2 : Array GenState} {d1 d2 : Drawn} {t1 t2 : Nat} {os1 os2 : OsState} {a C d : Addr} {fs : List (Str × V)} (I1 : Inv X pins σ H1 ⟨hp, g1, d1, t1, os1⟩)
    (ha : hp.objs.size ≤ a) (k : ∀ b o, hp.get? b = some o → hp2.get? b = some o) (un : Un (frs X.stack) [] (upd H1 a (exo a C none)) H2 hp2 h2) (hok : HOk X.prog X.w H2 h2) (ho : os2 = os1) (hb : AllBare g2)
    (ea : H2 a = some (exo a C (some d))) (ed : H2 d = some (exd d fs)) (hd1 : H1 d = none) (q : Q (.ref a) (upd (upd (del H2 a) d (.xd fs)) a (ExH C d a))) : EP X pins σ Q (.ref a) ⟨h2, g2, d2, t2, os2⟩ := by
  obtain ⟨t0, G, J, kG, ge, hoe, na⟩ := mk_end0 (d2 := d2) (t2 := t2) I1 ha k un hok ho hb ea ed hd1
  exact ⟨.ref a, _, J.laidN (h' := h2) (t' := t2) kG ge na (exH_ok hoe rfl rfl rfl), rfl, q⟩
theorem pe_x {x : Str} {C fI : Addr} {k : Nat} {fd : FuncData} {ps : List Str} {sp : Sp} (F : XcB B newId initId bmB) (T : XcC X.K C newId bmB) (iC : PySem.W.findIn X.K (.ref C) "__init__" = some (some (.ref fI))) (tI : PySem.W.typeIn X.K (.ref fI) = some (.type "function"))
    (G : FnG X.prog X.w X.K X.mg X.base k fI fd ps sp) (hgd : X.A.guards = some []) (hr : Room (k + 1) X.A) (hb : Binds X.K fd ps []) (hx : Passes (L2.CX X.prog X.w) X (fun _ _ _ => False)) (hm : X.mg x = some (.ref C)) (ha : PA X (e :: es) ta) (hg : Gl X x := by rfl)
    (hdb : (x == ("__debug__" : Str)) = false := by decide) (he : starEach (e :: es) X.env = (false, eval e X.env) :: starEach es X.env := by rfl) (hpl : (backTo pos (starEach es X.env)).any (·.1) = false := by rfl) :
    PE X (.Call (.Name x p) (e :: es) [] pos) (tXval C sp ta) := by
  constructor
  intro pins s σ H Q I h
  obtain ⟨nm, qn, N, bs, sn, sub, ab, col, dd, k0, k1, k2, k3, k5, hC⟩ := T.cls
  refine wpAny_Call_Name_kw (ld_glob I hg hm ?_ hdb)
  refine PySem.W.callWith_K (h₀ := X.base) I.ok.mod.kin T.kC (thn (ha.run pos pins s σ H _ I h) ?_) he hpl
  rintro us s1 ⟨vs, H1, I1, r1, hz, q1⟩
  refine ⟨I1.kIn, ?_⟩
  show wpAny _ _ (call (.ref C) us) _ _ _
  obtain ⟨hh, g, dr, tk, os⟩ := s1
  have above : hh.objs.size ≤ hh.objs.size + 1 := Nat.le_succ _
  have hn : H1 (hh.objs.size + 1) = none := I1.hok.fresh above
  have hq := q1 (hh.objs.size + 1) hn
  let h2 : Heap := (hh.push (PySem.W.kdv_tup us)).push (PySem.HandSPX.excO C hh.objs.size)
  have keep : ∀ b o, hh.get? b = some o → h2.get? b = some o := fun b o e => Heap.get?_push_of_some _ (Heap.get?_push_of_some _ e)
  have hget : h2.get? (hh.objs.size + 1) = some (PySem.HandSPX.excO C hh.objs.size) := by
    show ((hh.push (PySem.W.kdv_tup us)).push (PySem.HandSPX.excO C hh.objs.size)).get? (hh.objs.size + 1) = _
    heap_get
  have I2 : Inv X pins σ (upd H1 (hh.objs.size + 1) (exo (hh.objs.size + 1) C none)) ⟨h2, g, dr, tk, os⟩ := I1.laid (t' := tk) (h' := h2) keep above (exo_ok hget)
  have r2 : Vals (V.ref (hh.objs.size + 1) :: vs) (Value.ref (hh.objs.size + 1) :: us) := .cons rfl r1
  have hl : (Value.ref (hh.objs.size + 1) :: us).length = ps.length := by rw [← r2.length]; exact G.arity _ _ _ _ hq
  have hus : us.length ≤ sizeLine := by
    rw [← Paired.length r1, sizeLine_eq]
    omega
  have bind := hb ⟨h2, g, dr, tk, os⟩ (Value.ref (hh.objs.size + 1) :: us) I2.kIn (by rw [List.append_nil]; exact hl)
  rw [List.append_nil] at bind
  have gu : (X.A.under (.builtin "type.__call__" ⟨.ref C :: us, []⟩)).guards = some [] := by
    first
      | exact hgd
      | (rw [← hgd]; rfl)
  refine wpAny_call (PySem.HandSPX.call_own F.F (fun _ => rfl) (I1.kIn _ _ hC) (PySem.W.looks_findIn I1.kIn iC) (fun self => PySem.W.bind_fn I1.kIn self tI) hus ?_)
  refine codeAny_mono (G.go _ gu (hr.make C us []) X.stack _ _ (I2.env0.make C us []) _ _ _ bind r2 _ (fun _ _ _ => False) hq) ?_
  rintro (er | fl) s' hq'
  · exact hx pins σ _ _ er s' I2 hq'
  · cases fl with
    | ret u =>
      obtain ⟨v, H2, os2, bare2, un2, hok2, rv, ev, d, fs, ea, ed, hd1, q2⟩ := hq'
      subst ev
      obtain ⟨h3, g3, d3, t3, os3⟩ := s'
      exact ⟨rv, mk_val I1 above keep un2 hok2 os2 bare2 ea ed hd1 q2⟩
    | next => exact hq'
    | brk => exact hq'
    | cont => exact hq'
theorem pe_xK {x : Str} {C fI : Addr} {k : Nat} {fd : FuncData} {ps ks : List Str} {sp : Sp} {gg : List Value → List Value → List Value} {gV : List V → List V → List V} {kws : List Keyword} (F : XcB B newId initId bmB) (T : XcC X.K C newId bmB) (iC : PySem.W.findIn X.K (.ref C) "__init__" = some (some (.ref fI))) (tI : PySem.W.typeIn X.K (.ref fI) = some (.type "function"))
    (G : FnG X.prog X.w X.K X.mg X.base k fI fd ps sp) (hgd : X.A.guards = some []) (hr : Room (k + 1) X.A) (hb : KBinds X.K fd ps ks gg gV) (hx : Passes (L2.CX X.prog X.w) X (fun _ _ _ => False)) (hm : X.mg x = some (.ref C)) (hkw : PK X kws tk) (hg : Gl X x := by rfl)
    (hall : (backToKw pos (keywordEach kws X.env)).all (·.1.isSome) = true := by rfl) (hks : (backToKw pos (keywordEach kws X.env)).filterMap (·.1) = ks := by rfl)
    (hdb : (x == ("__debug__" : Str)) = false := by decide)
    (hpl : ((backTo pos (starEach [] X.env)).any (·.1) || (backToKw pos (keywordEach kws X.env)).any (·.1.isNone)) = false := by rfl) :
    PE X (.Call (.Name x p) [] kws pos) (tXvalK C sp gV tk) := by
  constructor
  intro pins s σ H Q I h
  obtain ⟨nm, qn, N, bs, sn, sub, ab, col, dd, k0, k1, k2, k3, k5, hC⟩ := T.cls
  refine wpAny_Call_Name_kw (ld_glob I hg hm ?_ hdb)
  refine PySem.W.callWith_KW0 (h₀ := X.base) I.ok.mod.kin T.kC hall ?_ hpl
  refine thn (hkw.run pos pins s σ H _ I h) ?_
  rintro ws s1 ⟨zs, H1, I1, rz, q1⟩
  refine ⟨I1.kIn, ?_⟩
  rw [hks]
  obtain ⟨hh, g, dr, tk, os⟩ := s1
  have above : hh.objs.size ≤ hh.objs.size + 1 := Nat.le_succ _
  have hn : H1 (hh.objs.size + 1) = none := I1.hok.fresh above
  have hq := q1 (hh.objs.size + 1) hn
  let h2 : Heap := (hh.push (PySem.W.kdv_tup [])).push (PySem.HandSPX.excO C hh.objs.size)
  have keep : ∀ b o, hh.get? b = some o → h2.get? b = some o := fun b o e => Heap.get?_push_of_some _ (Heap.get?_push_of_some _ e)
  have hget : h2.get? (hh.objs.size + 1) = some (PySem.HandSPX.excO C hh.objs.size) := by
    show ((hh.push (PySem.W.kdv_tup [])).push (PySem.HandSPX.excO C hh.objs.size)).get? (hh.objs.size + 1) = _
    heap_get
  have I2 : Inv X pins σ (upd H1 (hh.objs.size + 1) (exo (hh.objs.size + 1) C none)) ⟨h2, g, dr, tk, os⟩ := I1.laid (t' := tk) (h' := h2) keep above (exo_ok hget)
  have r2 := hb.rel (.cons (show RelV (V.ref (hh.objs.size + 1)) (Value.ref (hh.objs.size + 1)) from rfl) .nil) rz
  have hl : (gg [Value.ref (hh.objs.size + 1)] ws).length = ps.length := by rw [← r2.length]; exact G.arity _ _ _ _ hq
  have bind := hb.to ⟨h2, g, dr, tk, os⟩ [Value.ref (hh.objs.size + 1)] ws I2.kIn hl
  refine wpAny_call (call_ownK F.F (fun _ => rfl) (I1.kIn _ _ hC) (PySem.W.looks_findIn I1.kIn iC) (fun self => PySem.W.bind_fn I1.kIn self tI) ?_)
  refine codeAny_mono (G.go _ (by first | exact hgd | (rw [← hgd]; rfl)) (hr.make C [] _) X.stack _ _ (I2.env0.make C [] _) _ _ _ bind r2 _ (fun _ _ _ => False) hq) ?_
  rintro (er | fl) s' hq'
  · exact hx pins σ _ _ er s' I2 hq'
  · cases fl with
    | ret u =>
      obtain ⟨v, H2, os2, bare2, un2, hok2, rv, ev, d, fs, ea, ed, hd1, q2⟩ := hq'
      subst ev
      obtain ⟨h3, g3, d3, t3, os3⟩ := s'
      exact ⟨rv, mk_val I1 above keep un2 hok2 os2 bare2 ea ed hd1 q2⟩
    | next => exact hq'
    | brk => exact hq'
    | cont => exact hq'
end
section
variable {A : Amb} {tr tk : TA} {ρ : Rho} {n : Nat}
/-- what a new error is, as data -/
theorem x_go {names : List Str} {C : Addr} {B newId initId : String} {bmB : List Value} {P : D → Nat → Prop} {S H S1 H1 : Hp} {n1 : Nat} {Q : VK} {vs : List V} (F : XcB B newId initId bmB) (Tc : XcC A.K C newId bmB) (no : ∀ f ∈ names, PySem.W.findIn A.K (.ref C) f = some none)
    (m1 : Mv A.b S H S1 H1) (f1 : Fr A n1 S1 H1) (hl : vs.length = names.length) (p : P (.exc C (names.zip vs).reverse) n1)
    (q : ∀ v d S' H' n', Mv A.b S H S' H' → Fr A n' S' H' → Rep A.K S' v d → P d n' → Q v H') (a : Addr) (ha : H1 a = none) :
    spXi A.K names (.ref a :: vs) (upd H1 a (exo a C none)) (fun v H2 => v = .non ∧ ∃ (d : Addr) (fs : List (Str × V)), H2 a = some (exo a C (some d)) ∧ H2 d = some (exd d fs) ∧ H1 d = none ∧ Q (.ref a) (upd (upd (del H2 a) d (.xd fs)) a (ExH C d a))) (fun _ _ _ => False) := by
  refine ⟨a, C, B, newId, initId, bmB, vs, rfl, hl, F, Tc, no, upd_same, fun dx hdx hne => ?_⟩
  rw [upd_ne hne] at hdx
  refine ⟨rfl, dx, (names.zip vs).reverse, upd_same, by rw [upd_ne hne, upd_same], hdx, ?_⟩
  have e2 : upd (del (upd (upd (upd H1 a (exo a C none)) dx (exd dx (names.zip vs).reverse)) a (exo a C (some dx))) a) dx (.xd (names.zip vs).reverse) = upd H1 dx (.xd (names.zip vs).reverse) := by
    funext b
    by_cases h1 : b = dx
    · subst h1
      rw [upd_same, upd_same]
    · rw [upd_ne h1, upd_ne h1]
      by_cases h2 : b = a
      · subst h2
        rw [del_same, ha]
      · rw [del_ne h2, upd_ne h2, upd_ne h1, upd_ne h2]
  rw [e2]
  have f2 := f1.new (o := .xd (names.zip vs).reverse) hdx
  have ha2 : (upd H1 dx (.xd (names.zip vs).reverse)) a = none := by rw [upd_ne (fun z => hne z.symm)]; exact ha
  have f3 := f2.new (o := ExH C dx a) ha2
  have mm : Mv A.b S1 H1 (upd (upd S1 dx (.xd (names.zip vs).reverse)) a (ExH C dx a)) (upd (upd H1 dx (.xd (names.zip vs).reverse)) a (ExH C dx a)) := (Mv.new f1.sub hdx).trans f2.bt (Mv.new f2.sub ha2)
  exact q _ _ _ _ n1 (m1.trans f1.bt mm) f3 (Rep.exc upd_same (by rw [upd_ne hne, upd_same])) p
theorem de_x {names : List Str} {C : Addr} {B newId initId : String} {bmB : List Value} {P : D → Nat → Prop} (F : XcB B newId initId bmB) (Tc : XcC A.K C newId bmB) (no : ∀ f ∈ names, PySem.W.findIn A.K (.ref C) f = some none) (hn : names.length ≤ 100)
    (h : DA A tr ρ n fun ds m => ∃ vs : List V, vs.length = names.length ∧ (∀ S ws, Reps A.K S ws ds → ws = vs) ∧ P (.exc C (names.zip vs).reverse) m) : DE A (tXval C (spXi A.K names) tr) ρ n P := fun S H σ e Q q =>
  h S H σ e _ fun ws ds S1 H1 n1 m1 f1 r1 ⟨vs, hl, det, p⟩ => by
    cases det _ _ r1
    exact ⟨by omega, x_go F Tc no m1 f1 hl p q⟩
theorem de_xK {names : List Str} {C : Addr} {B newId initId : String} {bmB : List Value} {gV : List V → List V → List V} {P : D → Nat → Prop} (F : XcB B newId initId bmB) (Tc : XcC A.K C newId bmB) (no : ∀ f ∈ names, PySem.W.findIn A.K (.ref C) f = some none)
    (h : DA A tk ρ n fun ds m => ∃ us vs : List V, vs.length = names.length ∧ (∀ S ws, Reps A.K S ws ds → ws = us) ∧ (∀ a, gV [.ref a] us = .ref a :: vs) ∧ P (.exc C (names.zip vs).reverse) m) : DE A (tXvalK C (spXi A.K names) gV tk) ρ n P := fun S H σ e Q q =>
  h S H σ e _ fun ws ds S1 H1 n1 m1 f1 r1 ⟨us, vs, hl, det, eg, p⟩ => by
    cases det _ _ r1
    intro a ha
    rw [eg]
    exact x_go F Tc no m1 f1 hl p q a ha
end
end DL
namespace DL
open PySem PySem.Spec PyProof.Rows L2 Evl
/-! dicts whose keys are rows of pairs of integers -/
abbrev Row := List (Int × Int)
abbrev NKs := List (Row × Addr × V)
theorem row_hashes (w w' : World) : ∀ l : Row, NestedKey.hashes w (l.map fun p => NestedKey.tup [.num p.1, .num p.2]) = NestedKey.hashes w' (l.map fun p => NestedKey.tup [.num p.1, .num p.2])
  | [] => by simp [NestedKey.hashes]
  | p :: l => by
    have ih := row_hashes w w' l
    simp only [List.map_cons, NestedKey.hashes, NestedKey.hash]
    rw [ih]
theorem row_hash (w w' : World) (l : Row) : (keyR l).hash w = (keyR l).hash w' := by
  unfold keyR
  simp only [NestedKey.hash]
  rw [row_hashes w w' l]
theorem row_deep : ∀ l : Row, NestedKey.depthAll (l.map fun p => NestedKey.tup [.num p.1, .num p.2]) ≤ 1
  | [] => by simp [NestedKey.depthAll]
  | p :: l => by
    have ih := row_deep l
    simp only [List.map_cons, NestedKey.depthAll, NestedKey.depth]
    omega
theorem row_depth (l : Row) : (keyR l).depth ≤ 8 := by
  have h := row_deep l
  unfold keyR
  simp only [NestedKey.depth]
  omega
theorem keyR_inj {l l' : Row} (h : keyR l = keyR l') : l = l' := by
  have h2 := NestedKey.tup.inj h
  have go : ∀ l l' : Row, (l.map fun p => NestedKey.tup [.num p.1, .num p.2]) = (l'.map fun p => NestedKey.tup [.num p.1, .num p.2]) → l = l' := by
    intro l
    induction l with
    | nil =>
      intro l' e
      cases l' with
      | nil => rfl
      | cons _ _ => cases e
    | cons p l ih =>
      intro l' e
      cases l' with
      | nil => cases e
      | cons q l' =>
        simp only [List.map_cons, List.cons.injEq, NestedKey.tup.injEq, NestedKey.num.injEq, and_true] at e
        rw [ih l' e.2, Prod.ext e.1.1 e.1.2]
  exact go l l' h2
theorem entry_row (P P' : Program) (w w' : World) (l : Row) (a : Addr) (v : Value) : entryOfKey (nestedKind P w) (keyR l, a, v) = entryOfKey (nestedKind P' w') (keyR l, a, v) := by
  show DictEntry.mk ((keyR l).hash w) _ _ = DictEntry.mk ((keyR l).hash w') _ _
  rw [row_hash w w' l]
section
variable {P : Program} {w : World} {K : PySem.W.Frag} {S H : Hp} {h : Heap}
theorem pair_is (ok : HOk P w H h) (sub : Ex S H) {v : V} {u : Value} {p : Int × Int} (r : Rep K S v (.tup [.int p.1, .int p.2])) (rv : RelV v u) : NestedIs h (.tup [.num p.1, .num p.2]) u := by
  obtain ⟨b, vs, rfl, h1, h2⟩ := r.tup_inv
  obtain ⟨w1, r', rfl, q1, q2⟩ := h2.uncons
  obtain ⟨w2, r'', rfl, q3, q4⟩ := q2.uncons
  have z : r'' = [] := by unfold Reps at q4; exact q4
  subst z
  rw [q1.int_inv, q3.int_inv] at h1
  obtain ⟨_, its, rs, o, g1, g2, n, g3⟩ := (show ObjOk P w H h b (.tup [.int p.1, .int p.2]) from ok b _ (sub _ _ h1))
  obtain ⟨t, t2, rfl⟩ := Vals.int2 rs
  obtain rfl : u = Value.ref b := rv
  exact .tup g1 g2 g3 (by
    show NestedAll h [.num p.1, .num p.2] [Value.int p.1 t, Value.int p.2 t2]
    exact .cons (.int _ _) (.cons (.int _ _) .nil))
theorem pairs_are (ok : HOk P w H h) (sub : Ex S H) : ∀ {l : Row} {vs : List V} {us : List Value}, Reps K S vs (l.map fun p => D.tup [.int p.1, .int p.2]) → Vals vs us → NestedAll h (l.map fun p => NestedKey.tup [.num p.1, .num p.2]) us
  | [], vs, us, r, rv => by
    have z : vs = [] := by unfold Reps at r; exact r
    subst z
    cases rv
    exact .nil
  | p :: l, vs, us, r, rv => by
    obtain ⟨v, r', rfl, q1, q2⟩ := r.uncons
    cases rv with
    | cons a b => exact .cons (pair_is ok sub q1 a) (pairs_are ok sub q2 b)
theorem row_is (ok : HOk P w H h) (sub : Ex S H) {b : Addr} {l : Row} (r : Rep K S (.ref b) (rowE l)) : (nestedKind P w).is h (keyR l) b := by
  obtain ⟨c, vs, e, h1, h2⟩ := (show Rep K S (.ref b) (.tup (l.map fun p => D.tup [.int p.1, .int p.2])) from r).tup_inv
  cases e
  obtain ⟨_, its, rs, o, g1, g2, n, g3⟩ := (show ObjOk P w H h b (.tup vs) from ok b _ (sub _ _ h1))
  exact ⟨.tup g1 g2 g3 (by simpa using pairs_are ok sub h2 rs), row_depth l⟩
abbrev NPair : NKs → List (NestedKey × Addr × Value) → Prop := Paired fun p q => q.1 = keyR p.1 ∧ q.2.1 = p.2.1 ∧ RelV p.2.2 q.2.2
theorem np_keys : ∀ {ks : NKs} {xs : List (NestedKey × Addr × Value)}, NPair ks xs → xs.map (·.1) = ks.map fun p => keyR p.1
  | _, _, .nil => rfl
  | _, _, .cons r t => by rw [List.map_cons, List.map_cons, np_keys t, r.1]
theorem np_mem : ∀ {ks : NKs} {xs : List (NestedKey × Addr × Value)}, NPair ks xs → ∀ q ∈ xs, ∃ p ∈ ks, q.1 = keyR p.1 ∧ q.2.1 = p.2.1
  | _, _, .nil, q, h => nomatch h
  | _, _, .cons r t, q, h => by
    rcases List.mem_cons.mp h with rfl | h
    · exact ⟨_, List.mem_cons_self, r.1, r.2.1⟩
    · obtain ⟨p, h1, h2⟩ := np_mem t q h
      exact ⟨p, List.mem_cons_of_mem _ h1, h2⟩
theorem nd_keys {ks : NKs} (nd : (ks.map (·.1)).Nodup) : (ks.map fun p => keyR p.1).Nodup := by
  have e : (ks.map fun p => keyR p.1) = (ks.map (·.1)).map keyR := by rw [List.map_map]; rfl
  rw [e]
  refine List.pairwise_map.mpr (nd.imp fun {a b} n z => n (keyR_inj z))
def valN (ks : NKs) (l : Row) : Option V := (ks.find? fun x => decide (x.1 = l)).map fun x => x.2.2
theorem np_at : ∀ {ks : NKs} {xs : List (NestedKey × Addr × Value)}, NPair ks xs → ∀ l : Row, (valN ks l = none ∧ atKey xs (keyR l) = none) ∨ ∃ v p, valN ks l = some v ∧ atKey xs (keyR l) = some p ∧ RelV v p.2
  | _, _, .nil, l => Or.inl ⟨rfl, rfl⟩
  | x :: ks, y :: xs, .cons r t, l => by
    by_cases c : x.1 = l
    · have c2 : y.1 = keyR l := by rw [r.1, c]
      exact Or.inr ⟨x.2.2, y.2, by simp [valN, List.find?_cons, c], by simp [atKey, List.find?_cons, c2], r.2.2⟩
    · have c2 : ¬ y.1 = keyR l := fun z => c (keyR_inj (r.1.symm.trans z))
      rcases np_at t l with ⟨a, b⟩ | ⟨v, p, a, b, e⟩
      · exact Or.inl ⟨by simpa [valN, List.find?_cons, c] using a, by simpa [atKey, List.find?_cons, c2] using b⟩
      · exact Or.inr ⟨v, p, by simpa [valN, List.find?_cons, c] using a, by simpa [atKey, List.find?_cons, c2] using b, e⟩
theorem nd_rd {a : Addr} {ks : NKs} (ok : HOk P w H h) (sub : Ex S H) (e : H a = some (NDx ks a)) (rk : ∀ x ∈ ks, Rep K S (.ref x.2.1) (rowE x.1)) :
    (a == sysModules) = false ∧ ks.length ≤ sizeLine ∧ (ks.map (·.1)).Nodup ∧ ∃ xs, NPair ks xs ∧ h.DictOfH (nestedKind P w) a xs := by
  obtain ⟨⟨h1, h2, h3, xs, hp, o, es, ep, g1, g2, g3, g4⟩, _, _⟩ := (show ObjOk P w H h a (NDx ks a) from ok a _ e)
  refine ⟨h1, h2, h3, xs, hp, o, es, ep, g1, g2, g3, g4 P w, fun q hq => ?_, by rw [np_keys hp]; exact nd_keys h3⟩
  obtain ⟨p, hm, e1, e2⟩ := np_mem hp q hq
  rw [e1, e2]
  exact row_is ok sub (rk p hm)
theorem nd_ok {a : Addr} {ks : NKs} {xs : List (NestedKey × Addr × Value)} (h1 : (a == sysModules) = false) (h2 : ks.length ≤ sizeLine) (h3 : (ks.map (·.1)).Nodup) (hp : NPair ks xs) (hm : h.DictOfH (nestedKind P w) a xs) : ObjOk P w H h a (NDx ks a) := by
  obtain ⟨o, es, ep, g1, g2, g3, g4, _, _⟩ := hm
  refine ⟨⟨h1, h2, h3, xs, hp, o, es, ep, g1, g2, g3, fun P' w' => ?_⟩, ⟨o, g1⟩, ?_⟩
  · rw [g4]
    refine List.map_congr_left fun q hq => ?_
    obtain ⟨p, _, e1, _⟩ := np_mem hp q hq
    obtain ⟨k, b, v⟩ := q
    have e1 : k = keyR p.1 := e1
    subst e1
    exact entry_row P P' w w' p.1 b v
  · rintro ha hb ⟨k1, k2, k3, ys, k4, o', es', ep', f1, f2, f3, f4⟩ keep
    exact ⟨k1, k2, k3, ys, k4, o', es', ep', keep _ f1, f2, f3, f4⟩
def putN (ks : NKs) (l : Row) (b : Addr) (v : V) : NKs := if (valN ks l).isSome then ks.map fun x => if x.1 = l then (x.1, x.2.1, v) else x else ks ++ [(l, b, v)]
theorem np_put {ks : NKs} {xs : List (NestedKey × Addr × Value)} (hp : NPair ks xs) (l : Row) (b : Addr) {v : V} {u : Value} (rv : RelV v u) : NPair (putN ks l b v) (storedH xs (keyR l) b u) := by
  unfold putN storedH
  rcases np_at hp l with ⟨a1, a2⟩ | ⟨v1, p, a1, a2, _⟩
  · rw [a1, a2]
    exact Paired.snoc hp ⟨rfl, rfl, rv⟩
  · rw [a1, a2]
    show NPair (ks.map _) (xs.map _)
    have go : ∀ {ks : NKs} {xs : List (NestedKey × Addr × Value)}, NPair ks xs → NPair (ks.map fun x => if x.1 = l then (x.1, x.2.1, v) else x) (xs.map (putAt (keyR l) u)) := by
      intro ks xs hp
      induction hp with
      | nil => exact .nil
      | @cons x y ks xs r t ih =>
        rw [List.map_cons, List.map_cons]
        refine .cons ?_ ih
        unfold putAt
        by_cases c : x.1 = l
        · rw [if_pos c, if_pos (show y.1 = keyR l by rw [r.1, c])]
          exact ⟨r.1, r.2.1, rv⟩
        · rw [if_neg c, if_neg (fun z => c (keyR_inj (r.1.symm.trans z)))]
          exact r
    exact go hp
theorem valN_some {ks : NKs} {l : Row} : (valN ks l).isSome = true ↔ l ∈ ks.map (·.1) := by
  unfold valN
  rw [Option.isSome_map, List.find?_isSome, List.mem_map]
  constructor
  · rintro ⟨x, hx, e⟩
    exact ⟨x, hx, of_decide_eq_true e⟩
  · rintro ⟨x, hx, rfl⟩
    exact ⟨x, hx, decide_eq_true rfl⟩
theorem putN_keys (ks : NKs) (l : Row) (b : Addr) (v : V) : (putN ks l b v).map (·.1) = if (valN ks l).isSome then ks.map (·.1) else ks.map (·.1) ++ [l] := by
  unfold putN
  split
  · rw [List.map_map]
    refine List.map_congr_left fun x _ => ?_
    show (if x.1 = l then (x.1, x.2.1, v) else x).1 = x.1
    split <;> rfl
  · rw [List.map_append]; rfl
theorem putN_nd {ks : NKs} (nd : (ks.map (·.1)).Nodup) (l : Row) (b : Addr) (v : V) : ((putN ks l b v).map (·.1)).Nodup := by
  rw [putN_keys]
  cases c : (valN ks l).isSome with
  | true => exact nd
  | false =>
    show (ks.map (·.1) ++ [l]).Nodup
    have n : l ∉ ks.map (·.1) := fun z => by rw [valN_some.mpr z] at c; cases c
    rw [List.nodup_append]
    exact ⟨nd, by simp, fun x hx y hy e => n (by rw [List.mem_singleton] at hy; rw [← hy, ← e]; exact hx)⟩
theorem putN_len (ks : NKs) (l : Row) (b : Addr) (v : V) : (putN ks l b v).length ≤ ks.length + 1 := by
  unfold putN
  split
  · rw [List.length_map]; omega
  · rw [List.length_append]; exact Nat.le_refl _
end
/-! ### the rules over values -/
/-- a key of rows in a dict at a -/
structure KeyAt (K : PySem.W.Frag) (S H : Hp) (x : V) (l : Row) (a : Addr) (ks : NKs) (b : Addr) : Prop where
  xb : x = .ref b
  sub : Ex S H
  dict : H a = some (NDx ks a)
  key : Rep K S (.ref b) (rowE l)
  keys : ∀ y ∈ ks, Rep K S (.ref y.2.1) (rowE y.1)
def rInN (K : PySem.W.Frag) (neg : Bool) : R2 := fun x y H Q => ∃ (S : Hp) (l : Row) (a : Addr) (ks : NKs) (b : Addr), y = .ref a ∧ KeyAt K S H x l a ks b ∧ Q (.bl (neg != (valN ks l).isSome)) H
def tNGet (K : PySem.W.Frag) (td tk : TE) : TE := fun σ H Q => td σ H fun y H1 => tk σ H1 fun x H2 => ∃ (S : Hp) (l : Row) (a : Addr) (ks : NKs) (b : Addr) (v : V), y = .ref a ∧ KeyAt K S H2 x l a ks b ∧ valN ks l = some v ∧ Q v H2
def sNPut (K : PySem.W.Frag) (td tk tv : TE) : TS := fun D σ H => tv σ H fun v H1 => td σ H1 fun y H2 => tk σ H2 fun x H3 => ∃ (S : Hp) (l : Row) (a : Addr) (ks : NKs) (b : Addr), y = .ref a ∧ KeyAt K S H3 x l a ks b ∧ ks.length < sizeLine ∧ D.nx σ (upd H3 a (NDx (putN ks l b v) a))
def tND1 (K : PySem.W.Frag) (tk tv : TE) : TE := fun σ H Q => ∀ d, H d = none → tk σ (upd H d (NDx [] d)) fun x H1 => tv σ H1 fun y H2 => ∃ (S : Hp) (l : Row) (b : Addr), x = .ref b ∧ Ex S H2 ∧ H2 d = some (NDx [] d) ∧ Rep K S (.ref b) (rowE l) ∧ Q (.ref d) (upd H2 d (NDx [(l, b, y)] d))
section
variable {X : Cx} {o i value : Expr} {td ty tv : TE} {pos pos' : Pos}
theorem op_inN (hu : X.A.units + 64 < cLine) : OpR X (compareOp .In) (rInN X.K false) := by
  intro pins s σ H x y v u Q I rx ry h
  obtain ⟨S, l, a, ks, b, rfl, k, q⟩ := h
  obtain ⟨rfl, sub, e, rb, rk⟩ := k
  obtain rfl : v = Value.ref b := rx
  obtain rfl : u = Value.ref a := ry
  obtain ⟨hd, hz, nd, xs, hp, dd⟩ := nd_rd I.hok sub e rk
  refine wpAny_in_heap (knd := nestedKind X.prog X.w) (by show X.A.units + 1 + 8 < cLine; omega) (row_is I.hok sub rb) hd dd ?_
  refine ⟨.bl (valN ks l).isSome, H, I.tok _, ?_, by simpa using q⟩
  rcases np_at hp l with ⟨a1, a2⟩ | ⟨v1, p, a1, a2, _⟩ <;> rw [a1, a2] <;> rfl
theorem op_ninN (hu : X.A.units + 64 < cLine) : OpR X (compareOp .NotIn) (rInN X.K true) := by
  intro pins s σ H x y v u Q I rx ry h
  obtain ⟨S, l, a, ks, b, rfl, k, q⟩ := h
  obtain ⟨rfl, sub, e, rb, rk⟩ := k
  obtain rfl : v = Value.ref b := rx
  obtain rfl : u = Value.ref a := ry
  obtain ⟨hd, hz, nd, xs, hp, dd⟩ := nd_rd I.hok sub e rk
  refine wpAny_notIn_heap (knd := nestedKind X.prog X.w) (by show X.A.units + 1 + 8 < cLine; omega) (row_is I.hok sub rb) hd dd ?_
  refine ⟨.bl (!(valN ks l).isSome), H, I.tok _, ?_, by simpa using q⟩
  rcases np_at hp l with ⟨a1, a2⟩ | ⟨v1, p, a1, a2, _⟩ <;> rw [a1, a2] <;> rfl
theorem kx_inN (K : PySem.W.Frag) (hu : X.A.units + 64 < cLine) (h : X.K = K := by rfl) : OpR X (compareOp .In) (rInN K false) := h ▸ op_inN hu
theorem kx_ninN (K : PySem.W.Frag) (hu : X.A.units + 64 < cLine) (h : X.K = K := by rfl) : OpR X (compareOp .NotIn) (rInN K true) := h ▸ op_ninN hu
theorem pe_nget (K : PySem.W.Frag) (hu : X.A.units + 64 < cLine) (ho : PE X o td) (hi : PE X i ty) (hs : NoSl i) (hK : X.K = K := by rfl) : PE X (.Subscript o i pos) (tNGet K td ty) := by
  subst hK
  refine ⟨fun pins s σ H Q I h => ?_⟩
  refine subD_of PySem.F.slot_dict_getitem.lookup hs (thn (ho.run pins s σ H _ I h) fun u s1 ⟨y, H1, I1, ry, q1⟩ => thn (hi.run pins s1 σ H1 _ I1 q1) fun iv s2 ⟨x, H2, I2, rx, q2⟩ => ?_)
  obtain ⟨S, l, a, ks, b, v, rfl, k, hv, q3⟩ := q2
  obtain ⟨rfl, sub, e, rb, rk⟩ := k
  obtain rfl : iv = Value.ref b := rx
  obtain rfl : u = Value.ref a := ry
  obtain ⟨hd, hz, nd, xs, hp, dd⟩ := nd_rd I2.hok sub e rk
  refine ⟨dd.typeIs, ?_⟩
  rcases np_at hp l with ⟨a1, _⟩ | ⟨v1, p, a1, a2, rv⟩
  · rw [a1] at hv; cases hv
  · rw [a1] at hv; cases hv
    exact wpAny_getItem_heap (knd := nestedKind X.prog X.w) (by show X.A.units + 1 + 8 < cLine; omega) (row_is I2.hok sub rb) dd a2 ⟨v, H2, I2.tok _, rv, q3⟩
theorem ps_nput (K : PySem.W.Frag) (hu : X.A.units + 64 < cLine) (ho : PE X o td) (hi : PE X i ty) (hv : PE X value tv) (hs : swapsWith value (some (.Subscript o i pos')) pos.line X.env = pure false) (hK : X.K = K := by rfl) : PS X (.Assign [.Subscript o i pos'] value pos) (sNPut K td ty tv) := by
  subst hK
  refine ⟨fun pins s0 σ H D I h => ?_⟩
  refine wpAny_Assign_Subscript (thn (hv.run pins s0 σ H _ I h) fun r s1 ⟨v, H1, I1, rv, q1⟩ => thn (ho.run pins s1 σ H1 _ I1 q1) fun u s2 ⟨y, H2, I2, ry, q2⟩ => thn (hi.run pins s2 σ H2 _ I2 q2) fun iv s3 ⟨x, H3, I3, rx, q3⟩ => ?_) hs
  obtain ⟨S, l, a, ks, b, rfl, k, hl, q4⟩ := q3
  obtain ⟨rfl, sub, e, rb, rk⟩ := k
  obtain rfl : iv = Value.ref b := rx
  obtain rfl : u = Value.ref a := ry
  obtain ⟨hd, hz, nd, xs, hp, dd⟩ := nd_rd I3.hok sub e rk
  have hx : xs.length ≤ sizeLine := by rw [← hp.length]; exact hz
  refine wpAny_setItem_heap (knd := nestedKind X.prog X.w) (hsz := hx) (by show X.A.units + 1 + 8 < cLine; omega) (row_is I3.hok sub rb) dd fun h' dd' hs' => ?_
  have he : ∃ q, h'.get? a = some q := let ⟨q, _, _, hq, _⟩ := dd'; ⟨q, hq⟩
  have hpl := putN_len ks l b v
  exact ⟨σ, _, d_write I3 (by rw [e]; exact True.intro) hs' he (nd_ok hd (by omega) (putN_nd nd l b v) (np_put hp l b rv) dd'), q4⟩
end
section
variable {X : Cx} {kx vx : Expr} {tk tv : TE} {pos : Pos}
/-- {k: v} -/
theorem pe_nd1 (K : PySem.W.Frag) (hu : X.A.units + 64 < cLine) (hk : PE X kx tk) (hv : PE X vx tv) (hK : X.K = K := by rfl) : PE X (.Dict [some kx] [vx] pos) (tND1 K tk tv) := by
  subst hK
  refine ⟨fun pins s σ H Q I h => ?_⟩
  have hn := I.hok.fresh (Nat.le_refl s.heap.objs.size)
  have big := I.big
  have e0 : (s.heap.objs.size == sysModules) = false := beq_eq_false_iff_ne.mpr (Ne.symm (Nat.ne_of_lt big))
  have d0 : (s.heap.push { cls := .type "dict", data := .dict #[] }).DictOfH (nestedKind X.prog X.w) s.heap.objs.size [] := Heap.DictOfH.new s.heap
  have I1 := I.laid (a := s.heap.objs.size) (o := NDx [] s.heap.objs.size) (h' := s.heap.push { cls := .type "dict", data := .dict #[] }) (t' := s.toks) (fun _ _ q => Heap.get?_push_of_some _ q) (Nat.le_refl _) (nd_ok e0 (Nat.zero_le _) List.nodup_nil .nil d0)
  rw [arm_eval_Dict, zip_pairTrees [some kx] [vx] X.env pos rfl rfl, dictDisplay_pairs (pairTrees [some kx] [vx] X.env pos) (fun z => nomatch z) (show (1 : Nat) < 17 by decide)]
  refine wpAny_bind (wpAny_standAt (wpAny_bind (wpAny_subDictH (knd := nestedKind X.prog X.w) (by show X.A.units + 8 < cLine; omega) (show (1 : Nat) ≤ 15 by decide) (pairTrees_cons_walk (thn (hk.run pins _ σ _ _ I1 (h _ hn)) fun u s1 ⟨x, H1, I2, rx, q1⟩ => thn (hv.run pins s1 σ H1 _ I2 q1) fun u2 s2 ⟨y, H2, I3, ry, q2⟩ => pairTrees_nil_walk ?_)))))
  obtain ⟨S, l, b, rfl, sub, e, rb, q3⟩ := q2
  obtain rfl : u = Value.ref b := rx
  obtain ⟨hd, hz, nd, xs, hp, dd⟩ := nd_rd (S := S) (K := X.K) I3.hok sub e (fun x z => nomatch z)
  cases hp
  refine ⟨[(keyR l, b, u2)], ⟨rfl, rfl, row_is I3.hok sub rb, True.intro⟩, dd, fun h' tk' dd' hs' => wpAny_pure ?_⟩
  have he : ∃ q, h'.get? s.heap.objs.size = some q := let ⟨q, _, _, hq, _⟩ := dd'; ⟨q, hq⟩
  have z1 : 1 ≤ sizeLine := by rw [sizeLine_eq]; decide
  have np : NPair [(l, b, y)] (storedAllH [] [(keyR l, b, u2)]) := np_put (ks := []) .nil l b ry
  exact ⟨.ref _, _, d_write I3 (by rw [e]; exact True.intro) hs' he (nd_ok (ks := [(l, b, y)]) hd z1 (by simp) np dd'), rfl, q3⟩
end
/-! ### an object of one's own -/
theorem heap_size : ∀ n : Nat, ∃ h : Heap, h.objs.size = n
  | 0 => ⟨{ objs := #[] }, rfl⟩
  | n + 1 => by
    obtain ⟨h, e⟩ := heap_size n
    exact ⟨h.push { cls := .none, data := .plain }, by rw [Heap.size_push, e]⟩
theorem heap_at (a : Addr) (o : Obj) (hf : o.isFreed = false) : ∃ h : Heap, h.get? a = some o := by
  obtain ⟨h, e⟩ := heap_size a
  refine ⟨h.push o, ?_⟩
  rw [← e]
  exact Heap.get?_push_size _ hf
theorem nd_code {ks : NKs} {a : Addr} {q : Str} : NDx ks a ≠ LamX.CodeO a q := fun e => by
  have e1 := HO.ext.inj e
  obtain ⟨h, hh⟩ := heap_at a { cls := .none, data := .fields #[.none, .str q 0] } rfl
  have t : (fun h : Heap => ∃ (oc : Obj) (vs : Array Value) (t : Tok), h.get? a = some oc ∧ oc.data = .fields vs ∧ vs[1]? = some (.str q t)) h := ⟨_, _, 0, hh, rfl, rfl⟩
  rw [← e1] at t
  obtain ⟨_, _, _, xs, _, o, es, ep, g1, _, g3, _⟩ := t
  rw [hh] at g1
  cases g1
  cases g3
section
variable {A : Amb} {n : Nat} {S H : Hp} {σ : L2.St} {ρ : Rho}
theorem TabK.putX {K : PySem.W.Frag} {S H : Hp} {p : Addr} {o : HO} {ks : NKs} (t : TabK K S H) (hp : H p = some (NDx ks p)) : TabK K S (upd H p o) := ⟨fun q hq => by
  obtain ⟨ps, h1, h2, h3⟩ := t.1 q hq
  have n1 : q.1 ≠ p := fun z => by
    rw [z, hp] at h1
    exact nt_ND ps (Option.some.inj h1)
  refine ⟨ps, by rw [upd_ne n1]; exact h1, h2, fun pos cv hc => ?_⟩
  obtain ⟨c, e1, e2⟩ := h3 pos cv hc
  have n2 : c ≠ p := fun z => by
    subst z
    rw [hp] at e2
    exact nd_code (Option.some.inj e2)
  exact ⟨c, e1, by rw [upd_ne n2]; exact e2⟩, t.2⟩
theorem Fr.putX {p : Addr} {o : HO} {ks : NKs} (f : Fr A n S H) (hs : S p = none) (h0 : A.H0 p = none) (hl : H p = some (NDx ks p)) : Fr A n S (upd H p o) := by
  have np : ∀ a u, A.H0 a = some u → a ≠ p := fun a u e => ne_of_none e h0
  refine ⟨fun a u e => ?_, ⟨f.mv.ss, fun a u e h nt => ?_, fun a ps h => ?_, f.mv.sep⟩, fun a e => ?_, f.tab.putX hl⟩
  · rw [upd_ne (ne_of_none e hs)]; exact f.sub a u e
  · rw [upd_ne (np a u h)]; exact f.mv.fr a u e h
  · rw [upd_ne (np a _ h)]; exact f.mv.tb a ps h
  · obtain ⟨⟨x, y, z, h1, h2⟩, h3, h4⟩ := f.box a e
    have ne : a ≠ p := fun q => h4 (by rw [q]; exact h0)
    exact ⟨⟨x, y, z, by rw [upd_ne ne]; exact h1, h2⟩, h3, h4⟩
def valR (kvs : List (Row × D)) (l : Row) : Option D := (kvs.find? fun x => decide (x.1 = l)).map (·.2)
def putR (kvs : List (Row × D)) (l : Row) (d : D) : List (Row × D) := if (valR kvs l).isSome then kvs.map fun x => if x.1 = l then (x.1, d) else x else kvs ++ [(l, d)]
theorem nreps_nil {K : PySem.W.Frag} : NReps K S [] [] := ⟨rfl, (by intro x z; cases z), Reps.nil⟩
theorem nreps_uncons {K : PySem.W.Frag} {ks : NKs} {l : Row} {d : D} {r : List (Row × D)} (h : NReps K S ks ((l, d) :: r)) : ∃ b v ks', ks = (l, b, v) :: ks' ∧ Rep K S v d ∧ Rep K S (.ref b) (rowE l) ∧ NReps K S ks' r := by
  obtain ⟨h1, h2, h3⟩ := h
  match ks, h1 with
  | [], h1 => cases h1
  | x :: ks, h1 =>
    simp only [List.map_cons, List.cons.injEq] at h1
    obtain ⟨v, r', e, q, q'⟩ := h3.uncons
    simp only [List.map_cons, List.cons.injEq] at e
    have hx := h2 x List.mem_cons_self
    refine ⟨x.2.1, x.2.2, ks, ?_, by rw [e.1]; exact q, by rw [← h1.1]; exact hx, h1.2, fun y hy => h2 y (List.mem_cons_of_mem _ hy), by rw [e.2]; exact q'⟩
    rw [← h1.1]
theorem nreps_cons {K : PySem.W.Frag} {ks : NKs} {l : Row} {b : Addr} {v : V} {d : D} {r : List (Row × D)} (h : Rep K S v d) (hb : Rep K S (.ref b) (rowE l)) (t : NReps K S ks r) : NReps K S ((l, b, v) :: ks) ((l, d) :: r) :=
  ⟨by simp only [List.map_cons, t.1], fun x hx => by
    rcases List.mem_cons.mp hx with rfl | hx
    · exact hb
    · exact t.2.1 x hx, Reps.cons h t.2.2⟩
theorem nreps_val {K : PySem.W.Frag} (l : Row) : ∀ {kvs : List (Row × D)} {ks : NKs}, NReps K S ks kvs → (valN ks l = none ∧ valR kvs l = none) ∨ ∃ v d, valN ks l = some v ∧ valR kvs l = some d ∧ Rep K S v d
  | [], ks, h => by
    have : ks = [] := List.map_eq_nil_iff.mp h.1
    rw [this]; exact Or.inl ⟨rfl, rfl⟩
  | (j, d) :: r, ks, h => by
    obtain ⟨b, v, ks', rfl, q, _, t⟩ := nreps_uncons h
    by_cases c : j = l
    · exact Or.inr ⟨v, d, by simp [valN, List.find?_cons, c], by simp [valR, List.find?_cons, c], q⟩
    · rcases nreps_val l t with ⟨a, b⟩ | ⟨v', d', a, b, e⟩
      · exact Or.inl ⟨by simpa [valN, List.find?_cons, c] using a, by simpa [valR, List.find?_cons, c] using b⟩
      · exact Or.inr ⟨v', d', by simpa [valN, List.find?_cons, c] using a, by simpa [valR, List.find?_cons, c] using b, e⟩
theorem nreps_map {K : PySem.W.Frag} (l : Row) {v : V} {d : D} (hv : Rep K S v d) : ∀ {kvs : List (Row × D)} {ks : NKs}, NReps K S ks kvs → NReps K S (ks.map fun x => if x.1 = l then (x.1, x.2.1, v) else x) (kvs.map fun x => if x.1 = l then (x.1, d) else x)
  | [], ks, h => by
    have : ks = [] := List.map_eq_nil_iff.mp h.1
    rw [this]; exact nreps_nil
  | (j, x) :: r, ks, h => by
    obtain ⟨b, u, ks', rfl, q, qb, t⟩ := nreps_uncons h
    rw [List.map_cons, List.map_cons]
    by_cases c : j = l
    · rw [if_pos c, if_pos c]; exact nreps_cons hv qb (nreps_map l hv t)
    · rw [if_neg c, if_neg c]; exact nreps_cons q qb (nreps_map l hv t)
theorem nreps_snoc {K : PySem.W.Frag} {l : Row} {b : Addr} {v : V} {d : D} (hv : Rep K S v d) (hb : Rep K S (.ref b) (rowE l)) : ∀ {kvs : List (Row × D)} {ks : NKs}, NReps K S ks kvs → NReps K S (ks ++ [(l, b, v)]) (kvs ++ [(l, d)])
  | [], ks, h => by
    have : ks = [] := List.map_eq_nil_iff.mp h.1
    rw [this]; exact nreps_cons hv hb nreps_nil
  | (j, x) :: r, ks, h => by
    obtain ⟨b', u, ks', rfl, q, qb, t⟩ := nreps_uncons h
    exact nreps_cons q qb (nreps_snoc hv hb t)
theorem nreps_put {K : PySem.W.Frag} {l : Row} {b : Addr} {v : V} {d : D} (hv : Rep K S v d) (hb : Rep K S (.ref b) (rowE l)) {kvs : List (Row × D)} {ks : NKs} (h : NReps K S ks kvs) : NReps K S (putN ks l b v) (putR kvs l d) := by
  unfold putN putR
  rcases nreps_val l h with ⟨a, b'⟩ | ⟨_, _, a, b', _⟩ <;> rw [a, b']
  · exact nreps_snoc hv hb h
  · exact nreps_map l hv h
theorem nreps_len {K : PySem.W.Frag} {kvs : List (Row × D)} {ks : NKs} (h : NReps K S ks kvs) : ks.length = kvs.length := by
  have := congrArg List.length h.1
  rwa [List.length_map, List.length_map] at this
/-- no dict of rows of ours -/
def noNd (ρ : Rho) : Bool := ρ.all fun s => match s with | .nd _ => false | _ => true
theorem ER.nd (e : ER A n S H σ ρ) {i : Nat} {kvs : List (Row × D)} (h : ρ[i]? = some (.nd kvs)) : ∃ a ks, σ[i]? = some (some (.ref a)) ∧ H a = some (NDx ks a) ∧ NReps A.K S ks kvs ∧ S a = none ∧ A.H0 a = none := by
  obtain ⟨o, h1, a, vs, h2, h3⟩ := e.sl i _ h
  exact ⟨a, vs, by rw [h1, h2], h3⟩
theorem ER.setNd (e : ER A n S H σ ρ) {i : Nat} {a : Addr} {ks : NKs} {kvs : List (Row × D)} (hh : H a = some (NDx ks a)) (r : NReps A.K S ks kvs) (hs : S a = none) (h0 : A.H0 a = none) : ER A n S H (σ.set i (some (.ref a))) (ρ.set i (.nd kvs)) := by
  refine ⟨e.f, by simp [e.len], fun j s h => ?_, fun j k ds es hne h1 h2 => ?_⟩
  · by_cases q : i = j
    · subst q
      have lt : i < ρ.length := by
        have := (List.getElem?_eq_some_iff.mp h).1
        simpa using this
      rw [List.getElem?_set_self (by rw [e.len]; exact lt)]
      rw [List.getElem?_set_self lt] at h
      cases h
      exact ⟨_, rfl, a, ks, rfl, hh, r, hs, h0⟩
    · rw [List.getElem?_set_ne q] at h ⊢
      exact e.sl j s h
  · have f1 : ∀ k ds, (ρ.set i (.nd kvs))[k]? = some (.own ds) → i ≠ k := fun k ds h z => by
      subst z
      have lt : i < ρ.length := by
        have := (List.getElem?_eq_some_iff.mp h).1
        simpa using this
      rw [List.getElem?_set_self lt] at h
      cases h
    have g1 := f1 j ds h1
    have g2 := f1 k es h2
    rw [List.getElem?_set_ne g1] at h1 ⊢
    rw [List.getElem?_set_ne g2] at h2 ⊢
    exact e.ap j k ds es hne h1 h2
theorem ER.putNd (e : ER A n S H σ ρ) {i : Nat} {kvs kvs' : List (Row × D)} {a : Addr} {ks' : NKs} (h : ρ[i]? = some (.nd kvs)) (one : noNd (ρ.set i .un) = true) (ha : σ[i]? = some (some (.ref a))) (r : NReps A.K S ks' kvs') : ER A n S (upd H a (NDx ks' a)) σ (ρ.set i (.nd kvs')) := by
  obtain ⟨a', vs, h1, h2, h3, h4, h5⟩ := e.nd h
  rw [ha] at h1; cases h1
  have li : i < ρ.length := (List.getElem?_eq_some_iff.mp h).1
  refine ⟨e.f.putX h4 h5 h2, by simp [e.len], fun j s hj => ?_, fun j k es es' hne g1 g2 => ?_⟩
  · by_cases q : i = j
    · subst q
      rw [List.getElem?_set_self li] at hj
      cases hj
      exact ⟨_, ha, a, ks', rfl, upd_same, r, h4, h5⟩
    · have hj0 := hj
      rw [List.getElem?_set_ne q] at hj
      obtain ⟨o, x1, x2⟩ := e.sl j s hj
      refine ⟨o, x1, ?_⟩
      cases s with
      | un => trivial
      | val d => exact x2
      | own es =>
        obtain ⟨b, ws, y1, y2, y3, y4, y5⟩ := x2
        have ne : b ≠ a := fun z => by
          subst z
          rw [h2] at y2; cases y2
        exact ⟨b, ws, y1, by rw [upd_ne ne]; exact y2, y3, y4, y5⟩
      | dic es =>
        obtain ⟨b, ws, y1, y2, y3, y4, y5⟩ := x2
        have ne : b ≠ a := fun z => by
          subst z
          rw [h2] at y2; cases y2
        exact ⟨b, ws, y1, by rw [upd_ne ne]; exact y2, y3, y4, y5⟩
      | nd es =>
        have hj2 : (ρ.set i .un)[j]? = some (.nd es) := by rw [List.getElem?_set_ne q]; exact hj
        have := List.all_eq_true.mp one _ (List.mem_of_getElem? hj2)
        cases this
  · have f1 : ∀ (k : Nat) (es : List D), (ρ.set i (.nd kvs'))[k]? = some (.own es) → ρ[k]? = some (.own es) := fun k es h' => by
      by_cases q : i = k
      · subst q; rw [List.getElem?_set_self li] at h'; cases h'
      · rw [List.getElem?_set_ne q] at h'; exact h'
    exact e.ap j k _ _ hne (f1 j es g1) (f1 k es' g2)
end
section
variable {A : Amb} {te ta tb tk tv : TE} {tt : TT} {ts : TS} {ρ : Rho} {n : Nat} {T : DEnds}
theorem row_ref {K : PySem.W.Frag} {S : Hp} {v : V} {l : Row} (r : Rep K S v (rowE l)) : ∃ b, v = .ref b := by
  obtain ⟨b, _, e, _⟩ := (show Rep K S v (.tup (l.map fun p => D.tup [.int p.1, .int p.2])) from r).tup_inv
  exact ⟨b, e⟩
/-- l in d, l not in d -/
theorem de_inN {i : Nat} {neg : Bool} {kvs : List (Row × D)} {P : D → Nat → Prop} (hi : ρ[i]? = some (.nd kvs)) (h : DE A te ρ n fun d m => ∃ l : Row, d = rowE l ∧ P (.bl (neg != (valR kvs l).isSome)) m) : DE A (tOp (rInN A.K neg) te (tVar i)) ρ n P := fun S H σ e Q q =>
  h S H σ e _ fun v d S1 H1 n1 m1 f1 r1 ⟨l, hd, p⟩ => by
    subst hd
    obtain ⟨b, rfl⟩ := row_ref r1
    obtain ⟨a, ks, g1, g2, g3, _⟩ := (e.mv m1 f1).nd hi
    refine ⟨.ref a, g1, S1, l, a, ks, b, rfl, ⟨rfl, f1.sub, g2, r1, g3.2.1⟩, q _ _ S1 H1 n1 m1 f1 ?_ p⟩
    rcases nreps_val l g3 with ⟨a, b⟩ | ⟨v', d', a, b, _⟩ <;> rw [a, b] <;> exact Rep.bl
/-- d[l] -/
theorem de_getN {i : Nat} {kvs : List (Row × D)} {P : D → Nat → Prop} (hi : ρ[i]? = some (.nd kvs)) (h : DE A te ρ n fun d m => ∃ (l : Row) (y : D), d = rowE l ∧ valR kvs l = some y ∧ P y m) : DE A (tNGet A.K (tVar i) te) ρ n P := fun S H σ e Q q => by
  obtain ⟨a, ks, g1, g2, g3, _⟩ := e.nd hi
  refine ⟨.ref a, g1, h S H σ e _ fun v d S1 H1 n1 m1 f1 r1 ⟨l, y, hd, hy, p⟩ => ?_⟩
  subst hd
  obtain ⟨b, rfl⟩ := row_ref r1
  obtain ⟨a', ks', g1', g2', g3', _⟩ := (e.mv m1 f1).nd hi
  rw [g1] at g1'; cases g1'
  rcases nreps_val l g3' with ⟨_, b⟩ | ⟨v', d', va, b, rp⟩
  · rw [b] at hy; cases hy
  · rw [b] at hy; cases hy
    exact ⟨S1, l, a, ks', _, v', rfl, ⟨rfl, f1.sub, g2', r1, g3'.2.1⟩, va, q _ _ S1 H1 n1 m1 f1 rp p⟩
/-- d[l] = e -/
theorem ds_putN {i : Nat} {kvs : List (Row × D)} (hi : ρ[i]? = some (.nd kvs)) (one : noNd (ρ.set i .un) = true) (h : DE A tv ρ n fun d m => DE A tk ρ m fun x m2 => ∃ l : Row, x = rowE l ∧ kvs.length < 100000 ∧ T.nx (ρ.set i (.nd (putR kvs l d))) m2) : DS A (sNPut A.K (tVar i) tk tv) ρ n T := fun S H σ e D k =>
  h S H σ e _ fun v d S1 H1 n1 m1 f1 r1 p1 => by
    have e1 := e.mv m1 f1
    obtain ⟨a, ks, g1, _⟩ := e1.nd hi
    refine ⟨.ref a, g1, p1 S1 H1 σ e1 _ fun y dy S2 H2 n2 m2 f2 r2 ⟨l, hx, hl, p2⟩ => ?_⟩
    subst hx
    obtain ⟨b, rfl⟩ := row_ref r2
    have e2 := e1.mv m2 f2
    obtain ⟨a', ks', g1', g2', g3', _⟩ := e2.nd hi
    rw [g1] at g1'; cases g1'
    have hz : ks'.length < sizeLine := by rw [nreps_len g3', sizeLine_eq]; omega
    exact ⟨S2, l, a, ks', b, rfl, ⟨rfl, f2.sub, g2', r2, g3'.2.1⟩, hz, k.nx _ n2 S2 _ σ (m1.ss.trans m2.ss) (e2.putNd hi one g1 (nreps_put (r1.mono m2.ss) r2 g3')) p2⟩
/-- xs, ys, d = list, e, {l: v} : the first ours, the last ours -/
theorem ds_parFEN {i j l : Nat} (hij : i ≠ j) (hi : i < ρ.length) (h : DF A ta ρ n fun ds m => DE A tb ρ m fun y m2 => DE A tk ρ m2 fun x m3 => ∃ r : Row, x = rowE r ∧ DE A tv ρ m3 fun v m4 => T.nx (((ρ.set i (.own ds)).set j (.val y)).set l (.nd [(r, v)])) m4) : DS A (tPar3 i j l (tCons ta (tCons tb (tCons (tND1 A.K tk tv) tNil)))) ρ n T := fun S H σ e D k => by
  refine h S H σ e _ fun a vs ds S1 H1 n1 m1 f1 hHa hH1 hS1 r1 h2 => ?_
  have e1 := e.mv m1 f1
  refine h2 S1 H1 σ e1 _ fun vy y S2 H2 n2 m2 f2 ry h3 => ?_
  have e2 := e1.mv m2 f2
  intro p hp
  have fp := e2.f.newO (o := NDx [] p) hp
  have ep : ER A n2 S2 (upd H2 p (NDx [] p)) σ ρ := e2.mv (Mv.newO hp) fp
  refine h3 S2 _ σ ep _ fun vk x S3 H3 n3 m3 f3 rk ⟨r, hx, h4⟩ => ?_
  subst hx
  obtain ⟨b, rfl⟩ := row_ref rk
  have e3 := ep.mv m3 f3
  refine h4 S3 H3 σ e3 _ fun vv v S4 H4 n4 m4 f4 rv p4 => ?_
  have e4 := e3.mv m4 f4
  have a0 : A.H0 a = none := e.f.h0 hHa
  have p0 : A.H0 p = none := e2.f.h0 hp
  have nbA : some a ≠ A.b := fun z => (f1.box a z.symm).2.2 a0
  have nbP : some p ≠ A.b := fun z => (e2.f.box p z.symm).2.2 p0
  have a2 : H2 a = some (.lst vs) := m2.fr a _ nbA hH1
  have nap : a ≠ p := fun z => by rw [← z, a2] at hp; cases hp
  have a3 : H3 a = some (.lst vs) := m3.fr a _ nbA (by rw [upd_ne nap]; exact a2)
  have a4 : H4 a = some (.lst vs) := m4.fr a _ nbA a3
  have p3 : H3 p = some (NDx [] p) := m3.fr p _ nbP upd_same nt_ND
  have p4' : H4 p = some (NDx [] p) := m4.fr p _ nbP p3 nt_ND
  have sa2 : S2 a = none := m2.sep a (by rw [hH1]; exact fun z => nomatch z) hS1
  have sa3 : S3 a = none := m3.sep a (by rw [upd_ne nap, a2]; exact fun z => nomatch z) sa2
  have sa4 : S4 a = none := m4.sep a (by rw [a3]; exact fun z => nomatch z) sa3
  have sp2 : S2 p = none := e2.f.s0 hp
  have sp3 : S3 p = none := m3.sep p (by rw [upd_same]; exact fun z => nomatch z) sp2
  have sp4 : S4 p = none := m4.sep p (by rw [p3]; exact fun z => nomatch z) sp3
  have rk4 := rk.mono m4.ss
  refine ⟨S4, r, b, rfl, f4.sub, p4', rk4, ?_⟩
  have f5 := e4.f.putX (o := NDx [(r, b, vv)] p) sp4 p0 p4'
  have e5 : ER A n4 S4 (upd H4 p (NDx [(r, b, vv)] p)) σ ρ := by
    refine ⟨f5, e4.len, fun j s hj => ?_, e4.ap⟩
    obtain ⟨o, x1, x2⟩ := e.sl j s hj
    obtain ⟨o', y1, y2⟩ := e4.sl j s hj
    rw [x1] at y1; cases y1
    refine ⟨o, x1, ?_⟩
    have hpn : H p = none := by
      cases w : H p with
      | none => rfl
      | some u => exact absurd hp ((m1.trans f1.bt m2).there f2.bt (by rw [w]; exact fun z => nomatch z))
    have hne : ∀ c : Addr, H c ≠ none → c ≠ p := fun c hc z => hc (by rw [z]; exact hpn)
    cases s with
    | un => trivial
    | val d => exact y2
    | own es =>
      obtain ⟨c, ws, z1, z2, z3, z4, z5⟩ := y2
      obtain ⟨c', ws', w1, w2, _⟩ := x2
      rw [z1] at w1; cases w1
      exact ⟨c, ws, z1, by rw [upd_ne (hne c (by rw [w2]; exact fun z => nomatch z))]; exact z2, z3, z4, z5⟩
    | dic es =>
      obtain ⟨c, ws, z1, z2, z3, z4, z5⟩ := y2
      obtain ⟨c', ws', w1, w2, _⟩ := x2
      rw [z1] at w1; cases w1
      exact ⟨c, ws, z1, by rw [upd_ne (hne c (by rw [w2]; exact fun z => nomatch z))]; exact z2, z3, z4, z5⟩
    | nd es =>
      obtain ⟨c, ws, z1, z2, z3, z4, z5⟩ := y2
      obtain ⟨c', ws', w1, w2, _⟩ := x2
      rw [z1] at w1; cases w1
      exact ⟨c, ws, z1, by rw [upd_ne (hne c (by rw [w2]; exact fun z => nomatch z))]; exact z2, z3, z4, z5⟩
  have g1 := e5.setOwn (i := i) (fun j es hj z => by
    obtain ⟨c, us, x1, x2, _⟩ := e.own hj
    rw [z] at x1; cases x1
    rw [hHa] at x2; cases x2) (by rw [upd_ne nap]; exact a4) (((r1.mono m2.ss).mono m3.ss).mono m4.ss) sa4 a0
  have g2 := g1.set (i := j) ((ry.mono m3.ss).mono m4.ss)
  have g3 := g2.setNd (i := l) (a := p) (kvs := [(r, v)]) upd_same (nreps_cons rv rk4 nreps_nil) sp4 p0
  exact ⟨_, _, _, rfl, k.nx _ n4 S4 _ _ (((m1.ss.trans m2.ss).trans m3.ss).trans m4.ss) g3 p4⟩
end
end DL
namespace K20
open PySem PySem.Spec PyProof.Rows L2 Evl DL DLZ
def topS (i : Nat) : Stmt := PySem.Challenge.pw_stayswap_k20_whole_which_stays_lead_wher.main.body.getD i (.Pass ⟨0, 0, 0, 0⟩)
abbrev s_l_take : Stmt := topS 25
abbrev s_arrivals_of : Stmt := topS 13
abbrev s_days_of : Stmt := topS 14
abbrev s_check_as_many : Stmt := topS 15
abbrev s_bar : Stmt := topS 17
abbrev s_leads : Stmt := topS 16
abbrev s_as_tuples : Stmt := topS 5
abbrev s_check_guest : Stmt := topS 6
abbrev s_share_day : Stmt := topS 8
abbrev s_exchanges : Stmt := topS 10
abbrev s_exchanged : Stmt := topS 11
abbrev s_guests_on : Stmt := topS 7
abbrev s_mates_of : Stmt := topS 19
abbrev s_options : Stmt := topS 21
abbrev s_lot_many : Stmt := topS 22
abbrev s_l_of : Stmt := topS 27
abbrev s_l_random_line : Stmt := topS 28
abbrev s_l_lot : Stmt := topS 29
abbrev s_l_reached : Stmt := topS 30
abbrev s_l_right : Stmt := topS 31
abbrev s_l_box : Stmt := topS 24
abbrev s_l_cells : Stmt := topS 26
abbrev s_law : Stmt := topS 32
/-- what the top has left -/
structure Tx (K : PySem.W.Frag) (mg : Str → Option Value) where
  a_l_take : Addr
  fd_l_take : FuncData
  F_l_take : Fun K "_law_take" "_law_take" s_l_take a_l_take fd_l_take
  m_l_take : mg "_law_take" = some (.ref a_l_take)
  k_l_take : PySem.W.keepIn K (.ref a_l_take) = true
  b_l_take : Binds K fd_l_take ["_law_box_here", "_law_span"] []
  a_arrivals_of : Addr
  fd_arrivals_of : FuncData
  F_arrivals_of : Fun K "arrivals_of" "arrivals_of" s_arrivals_of a_arrivals_of fd_arrivals_of
  m_arrivals_of : mg "arrivals_of" = some (.ref a_arrivals_of)
  k_arrivals_of : PySem.W.keepIn K (.ref a_arrivals_of) = true
  b_arrivals_of : Binds K fd_arrivals_of ["stays"] []
  a_days_of : Addr
  fd_days_of : FuncData
  F_days_of : Fun K "days_of" "days_of" s_days_of a_days_of fd_days_of
  m_days_of : mg "days_of" = some (.ref a_days_of)
  k_days_of : PySem.W.keepIn K (.ref a_days_of) = true
  b_days_of : Binds K fd_days_of ["stays"] []
  a_check_as_many : Addr
  fd_check_as_many : FuncData
  F_check_as_many : Fun K "check_as_many" "check_as_many" s_check_as_many a_check_as_many fd_check_as_many
  m_check_as_many : mg "check_as_many" = some (.ref a_check_as_many)
  k_check_as_many : PySem.W.keepIn K (.ref a_check_as_many) = true
  b_check_as_many : Binds K fd_check_as_many ["one", "other"] []
  a_bar : Addr
  fd_bar : FuncData
  F_bar : Fun K "bar" "bar" s_bar a_bar fd_bar
  m_bar : mg "bar" = some (.ref a_bar)
  k_bar : PySem.W.keepIn K (.ref a_bar) = true
  b_bar : Binds K fd_bar ["one", "other"] []
  a_leads : Addr
  fd_leads : FuncData
  F_leads : Fun K "leads" "leads" s_leads a_leads fd_leads
  m_leads : mg "leads" = some (.ref a_leads)
  k_leads : PySem.W.keepIn K (.ref a_leads) = true
  b_leads : Binds K fd_leads ["one", "other"] []
  a_as_tuples : Addr
  fd_as_tuples : FuncData
  F_as_tuples : Fun K "as_tuples" "as_tuples" s_as_tuples a_as_tuples fd_as_tuples
  m_as_tuples : mg "as_tuples" = some (.ref a_as_tuples)
  k_as_tuples : PySem.W.keepIn K (.ref a_as_tuples) = true
  b_as_tuples : Binds K fd_as_tuples ["stays"] []
  a_check_guest : Addr
  fd_check_guest : FuncData
  F_check_guest : Fun K "check_guest" "check_guest" s_check_guest a_check_guest fd_check_guest
  m_check_guest : mg "check_guest" = some (.ref a_check_guest)
  k_check_guest : PySem.W.keepIn K (.ref a_check_guest) = true
  b_check_guest : Binds K fd_check_guest ["stays", "guest"] []
  a_share_day : Addr
  fd_share_day : FuncData
  F_share_day : Fun K "share_day" "share_day" s_share_day a_share_day fd_share_day
  m_share_day : mg "share_day" = some (.ref a_share_day)
  k_share_day : PySem.W.keepIn K (.ref a_share_day) = true
  b_share_day : Binds K fd_share_day ["stays", "one", "other"] []
  a_exchanges : Addr
  fd_exchanges : FuncData
  F_exchanges : Fun K "exchanges" "exchanges" s_exchanges a_exchanges fd_exchanges
  m_exchanges : mg "exchanges" = some (.ref a_exchanges)
  k_exchanges : PySem.W.keepIn K (.ref a_exchanges) = true
  b_exchanges : Binds K fd_exchanges ["stays"] []
  a_exchanged : Addr
  fd_exchanged : FuncData
  F_exchanged : Fun K "exchanged" "exchanged" s_exchanged a_exchanged fd_exchanged
  m_exchanged : mg "exchanged" = some (.ref a_exchanged)
  k_exchanged : PySem.W.keepIn K (.ref a_exchanged) = true
  b_exchanged : Binds K fd_exchanged ["stays", "one", "other"] []
  a_guests_on : Addr
  fd_guests_on : FuncData
  F_guests_on : Fun K "guests_on" "guests_on" s_guests_on a_guests_on fd_guests_on
  m_guests_on : mg "guests_on" = some (.ref a_guests_on)
  k_guests_on : PySem.W.keepIn K (.ref a_guests_on) = true
  b_guests_on : Binds K fd_guests_on ["stays", "day"] []
  a_mates_of : Addr
  fd_mates_of : FuncData
  F_mates_of : Fun K "mates_of" "mates_of" s_mates_of a_mates_of fd_mates_of
  m_mates_of : mg "mates_of" = some (.ref a_mates_of)
  k_mates_of : PySem.W.keepIn K (.ref a_mates_of) = true
  b_mates_of : Binds K fd_mates_of ["stays", "guest"] []
  a_options : Addr
  fd_options : FuncData
  F_options : Fun K "options" "options" s_options a_options fd_options
  m_options : mg "options" = some (.ref a_options)
  k_options : PySem.W.keepIn K (.ref a_options) = true
  b_options : Binds K fd_options ["stays"] []
  a_lot_many : Addr
  fd_lot_many : FuncData
  F_lot_many : Fun K "lot_many" "lot_many" s_lot_many a_lot_many fd_lot_many
  m_lot_many : mg "lot_many" = some (.ref a_lot_many)
  k_lot_many : PySem.W.keepIn K (.ref a_lot_many) = true
  b_lot_many : Binds K fd_lot_many ["stays"] []
  a_l_of : Addr
  fd_l_of : FuncData
  F_l_of : Fun K "_law_of" "_law_of" s_l_of a_l_of fd_l_of
  m_l_of : mg "_law_of" = some (.ref a_l_of)
  k_l_of : PySem.W.keepIn K (.ref a_l_of) = true
  b_l_of : Binds K fd_l_of ["_law_box_here", "_law_some"] []
  a_l_random_line : Addr
  fd_l_random_line : FuncData
  F_l_random_line : Fun K "_law_random_line" "_law_random_line" s_l_random_line a_l_random_line fd_l_random_line
  m_l_random_line : mg "_law_random_line" = some (.ref a_l_random_line)
  k_l_random_line : PySem.W.keepIn K (.ref a_l_random_line) = true
  b_l_random_line : Binds K fd_l_random_line ["_law_box_here", "_law_most", "_law_top"] []
  a_l_lot : Addr
  fd_l_lot : FuncData
  F_l_lot : Fun K "_law_lot" "_law_lot" s_l_lot a_l_lot fd_l_lot
  m_l_lot : mg "_law_lot" = some (.ref a_l_lot)
  k_l_lot : PySem.W.keepIn K (.ref a_l_lot) = true
  b_l_lot : Binds K fd_l_lot ["_law_line"] []
  a_l_reached : Addr
  fd_l_reached : FuncData
  F_l_reached : Fun K "_law_reached" "_law_reached" s_l_reached a_l_reached fd_l_reached
  m_l_reached : mg "_law_reached" = some (.ref a_l_reached)
  k_l_reached : PySem.W.keepIn K (.ref a_l_reached) = true
  b_l_reached : Binds K fd_l_reached ["_law_line"] []
  a_l_right : Addr
  fd_l_right : FuncData
  F_l_right : Fun K "_law_right" "_law_right" s_l_right a_l_right fd_l_right
  m_l_right : mg "_law_right" = some (.ref a_l_right)
  k_l_right : PySem.W.keepIn K (.ref a_l_right) = true
  b_l_right : Binds K fd_l_right ["_law_box_here"] []
  a_l_box : Addr
  fd_l_box : FuncData
  F_l_box : Fun K "_law_box" "_law_box" s_l_box a_l_box fd_l_box
  m_l_box : mg "_law_box" = some (.ref a_l_box)
  k_l_box : PySem.W.keepIn K (.ref a_l_box) = true
  b_l_box : Binds K fd_l_box ["_law_script", "_law_k"] []
  a_l_cells : Addr
  fd_l_cells : FuncData
  F_l_cells : Fun K "_law_cells" "_law_cells" s_l_cells a_l_cells fd_l_cells
  m_l_cells : mg "_law_cells" = some (.ref a_l_cells)
  k_l_cells : PySem.W.keepIn K (.ref a_l_cells) = true
  b_l_cells : Binds K fd_l_cells ["_law_script", "_law_most"] []
  a_law : Addr
  fd_law : FuncData
  F_law : Fun K "law" "law" s_law a_law fd_law
  m_law : mg "law" = some (.ref a_law)
  k_law : PySem.W.keepIn K (.ref a_law) = true
  b_law : Binds K fd_law ["_law_script"] []
  n_abs : mg "abs" = none
  n_all : mg "all" = none
  n_enumerate : mg "enumerate" = none
  n_int : mg "int" = none
  n_len : mg "len" = none
  n_list : mg "list" = none
  n_range : mg "range" = none
  n_set : mg "set" = none
  n_sorted : mg "sorted" = none
  n_tuple : mg "tuple" = none
theorem sc_l_take : FnScope ["_law_box_here", "_law_span", "_law_found", "_law_once"] ["_law_box_here", "_law_span"] (defScope s_l_take) := ⟨rfl, rfl, rfl, by decide +kernel, rfl, by decide +kernel, by decide +kernel⟩
theorem sc_arrivals_of : FnScope ["stays", "stay"] ["stays"] (defScope s_arrivals_of) := ⟨rfl, rfl, rfl, by decide +kernel, rfl, by decide +kernel, by decide +kernel⟩
theorem sc_days_of : FnScope ["stays", "stay"] ["stays"] (defScope s_days_of) := ⟨rfl, rfl, rfl, by decide +kernel, rfl, by decide +kernel, by decide +kernel⟩
theorem sc_check_as_many : FnScope ["one", "other"] ["one", "other"] (defScope s_check_as_many) := ⟨rfl, rfl, rfl, by decide +kernel, rfl, by decide +kernel, by decide +kernel⟩
theorem sc_bar : FnScope ["one", "other", "guest", "arrival"] ["one", "other"] (defScope s_bar) := ⟨rfl, rfl, rfl, by decide +kernel, rfl, by decide +kernel, by decide +kernel⟩
theorem sc_leads : FnScope ["one", "other"] ["one", "other"] (defScope s_leads) := ⟨rfl, rfl, rfl, by decide +kernel, rfl, by decide +kernel, by decide +kernel⟩
theorem sc_as_tuples : FnScope ["stays", "arrival", "leaving"] ["stays"] (defScope s_as_tuples) := ⟨rfl, rfl, rfl, by decide +kernel, rfl, by decide +kernel, by decide +kernel⟩
theorem sc_check_guest : FnScope ["stays", "guest"] ["stays", "guest"] (defScope s_check_guest) := ⟨rfl, rfl, rfl, by decide +kernel, rfl, by decide +kernel, by decide +kernel⟩
theorem sc_share_day : FnScope ["stays", "one", "other"] ["stays", "one", "other"] (defScope s_share_day) := ⟨rfl, rfl, rfl, by decide +kernel, rfl, by decide +kernel, by decide +kernel⟩
theorem sc_exchanges : FnScope ["stays", "many", "one", "other"] ["stays"] (defScope s_exchanges) := ⟨rfl, rfl, rfl, by decide +kernel, rfl, by decide +kernel, by decide +kernel⟩
theorem sc_exchanged : FnScope ["stays", "one", "other", "changed"] ["stays", "one", "other"] (defScope s_exchanged) := ⟨rfl, rfl, rfl, by decide +kernel, rfl, by decide +kernel, by decide +kernel⟩
theorem sc_guests_on : FnScope ["stays", "day", "guest", "arrival", "leaving"] ["stays", "day"] (defScope s_guests_on) := ⟨rfl, rfl, rfl, by decide +kernel, rfl, by decide +kernel, by decide +kernel⟩
theorem sc_mates_of : FnScope ["stays", "guest", "arrival", "mate"] ["stays", "guest"] (defScope s_mates_of) := ⟨rfl, rfl, rfl, by decide +kernel, rfl, by decide +kernel, by decide +kernel⟩
theorem sc_options : FnScope ["stays", "guest"] ["stays"] (defScope s_options) := ⟨rfl, rfl, rfl, by decide +kernel, rfl, by decide +kernel, by decide +kernel⟩
theorem sc_lot_many : FnScope ["stays", "many", "option"] ["stays"] (defScope s_lot_many) := ⟨rfl, rfl, rfl, by decide +kernel, rfl, by decide +kernel, by decide +kernel⟩
theorem sc_l_of : FnScope ["_law_box_here", "_law_some"] ["_law_box_here", "_law_some"] (defScope s_l_of) := ⟨rfl, rfl, rfl, by decide +kernel, rfl, by decide +kernel, by decide +kernel⟩
theorem sc_l_random_line : FnScope ["_law_box_here", "_law_most", "_law_top", "_law_found", "_law_taken", "_law_turn", "_law_come_day", "_law_leave"] ["_law_box_here", "_law_most", "_law_top"] (defScope s_l_random_line) := ⟨rfl, rfl, rfl, by decide +kernel, rfl, by decide +kernel, by decide +kernel⟩
theorem sc_l_lot : FnScope ["_law_line", "_law_rows_so", "_law_come_day", "_law_leave", "_law_longer", "_law_begun", "_law_taken", "_law_later", "_law_pair_of", "_law_its"] ["_law_line"] (defScope s_l_lot) := ⟨rfl, rfl, rfl, by decide +kernel, rfl, by decide +kernel, by decide +kernel⟩
theorem sc_l_reached : FnScope ["_law_line", "_law_found", "_law_layer", "_law_met", "_law_further", "_law_here", "_law_at", "_law_spot", "_law_there"] ["_law_line"] (defScope s_l_reached) := ⟨rfl, rfl, rfl, by decide +kernel, rfl, by decide +kernel, by decide +kernel⟩
theorem sc_l_right : FnScope ["_law_box_here", "_law_line", "_law_reached_here", "_law_there", "_law_its"] ["_law_box_here"] (defScope s_l_right) := ⟨rfl, rfl, rfl, by decide +kernel, rfl, by decide +kernel, by decide +kernel⟩
theorem sc_l_box : FnScope ["_law_script", "_law_k", "_law_cell"] ["_law_script", "_law_k"] (defScope s_l_box) := ⟨rfl, rfl, rfl, by decide +kernel, rfl, by decide +kernel, by decide +kernel⟩
theorem sc_l_cells : FnScope ["_law_script", "_law_most", "_law_cells_here", "_law_k", "_law_cell"] ["_law_script", "_law_most"] (defScope s_l_cells) := ⟨rfl, rfl, rfl, by decide +kernel, rfl, by decide +kernel, by decide +kernel⟩
theorem sc_law : FnScope ["_law_script", "_law_cells_here", "_law_k", "_law_box_here", "_law_turn"] ["_law_script"] (defScope s_law) := ⟨rfl, rfl, rfl, by decide +kernel, rfl, by decide +kernel, by decide +kernel⟩
local macro_rules | `(tactic| walk_at "d") => `(tactic| first
  | with_reducible refine ds_seq ?_ | with_reducible refine ds_ret ?_ | with_reducible refine ds_if ?_ | with_reducible refine ds_set ?_ | with_reducible refine ds_asg ?_ | with_reducible refine ds_drop ?_ | with_reducible refine ds_par ?_ | with_reducible refine ds_next ?_ | with_reducible refine ds_retN ?_
  | refine de_var (by rfl) ?_ | refine de_int ?_ | refine de_bl ?_ | refine de_str ?_ | refine de_non ?_
  | with_reducible refine de_isN ?_ | with_reducible refine de_op ?_ | with_reducible refine de_andV ?_ | with_reducible refine de_orV ?_ | with_reducible refine de_if ?_ | with_reducible refine de_tup ?_ | with_reducible refine de_chain ?_
  | with_reducible refine dt_test ?_ | with_reducible refine dt_B ?_ | with_reducible refine dt_and ?_ | with_reducible refine dt_or ?_ | with_reducible refine dt_not ?_ | with_reducible refine dt_yes ?_
  | with_reducible refine da_cons ?_ | with_reducible refine da_nil ?_
  | refine de_len ?_ | refine de_tupOf ?_ | refine de_max2 ?_ | refine de_min2 ?_ | refine de_abs ?_ | refine de_intB ?_ | refine de_all ?_
  | with_reducible refine dg_name ?_ | with_reducible refine dgs_nil ?_ | with_reducible refine dgs_cons ?_ 
  | refine dr_plusI ?_ | refine dr_sub ?_ | refine dr_lt ?_ | refine dr_le ?_ | refine dr_gt ?_ | refine dr_ge ?_ | refine dr_eqAI ?_ | refine dr_neAI ?_ | refine dr_eqAB ?_ | refine dr_neAB ?_
  | refine de_isi2 rfl rfl ?_ | refine de_isi rfl ?_ | refine ⟨(rfl : plainD _ = true), ?_⟩ | refine if2f rfl ?_ | refine if2t rfl ?_ | refine if2t (decide_eq_true rfl) ?_ | refine dr_eqAS ?_ | with_reducible refine de_notV ?_ | refine de_call0 ?_ | refine de_call0F ?_ | refine dr_pow ⟨by decide, by decide, by decide⟩ ?_ | refine de_callK0 _ (by assumption) ?_ | refine dr_mod (by first | decide | assumption | omega) ?_
  | refine dr_ix (by first | exact Or.inl rfl | exact Or.inr rfl | assumption) (by first | decide | omega) (by first | rfl | assumption) ?_
  | refine ⟨_, rfl, ?_⟩ | refine ⟨_, _, rfl, rfl, ?_⟩ | refine ⟨_, by first | exact Or.inl rfl | exact Or.inr rfl, ?_⟩ | refine ⟨_, by assumption, ?_⟩ | fail)
local macro_rules | `(tactic| walk_at "D") => `(tactic| repeat' (first
  | with_reducible refine ds_seq ?_ | with_reducible refine ds_ret ?_ | with_reducible refine ds_if ?_ | with_reducible refine ds_set ?_ | with_reducible refine ds_asg ?_ | with_reducible refine ds_drop ?_ | with_reducible refine ds_par ?_ | with_reducible refine ds_next ?_ | with_reducible refine ds_retN ?_
  | refine de_var (by rfl) ?_ | refine de_int ?_ | refine de_bl ?_ | refine de_str ?_ | refine de_non ?_
  | with_reducible refine de_isN ?_ | with_reducible refine de_op ?_ | with_reducible refine de_andV ?_ | with_reducible refine de_orV ?_ | with_reducible refine de_if ?_ | with_reducible refine de_tup ?_ | with_reducible refine de_chain ?_
  | with_reducible refine dt_test ?_ | with_reducible refine dt_B ?_ | with_reducible refine dt_and ?_ | with_reducible refine dt_or ?_ | with_reducible refine dt_not ?_ | with_reducible refine dt_yes ?_
  | with_reducible refine da_cons ?_ | with_reducible refine da_nil ?_
  | refine de_len ?_ | refine de_tupOf ?_ | refine de_max2 ?_ | refine de_min2 ?_ | refine de_abs ?_ | refine de_intB ?_ | refine de_all ?_
  | with_reducible refine dg_name ?_ | with_reducible refine dgs_nil ?_ | with_reducible refine dgs_cons ?_ 
  | refine dr_plusI ?_ | refine dr_sub ?_ | refine dr_lt ?_ | refine dr_le ?_ | refine dr_gt ?_ | refine dr_ge ?_ | refine dr_eqAI ?_ | refine dr_neAI ?_ | refine dr_eqAB ?_ | refine dr_neAB ?_
  | refine de_isi2 rfl rfl ?_ | refine de_isi rfl ?_ | refine ⟨(rfl : plainD _ = true), ?_⟩ | refine if2f rfl ?_ | refine if2t rfl ?_ | refine if2t (decide_eq_true rfl) ?_ | refine dr_eqAS ?_ | with_reducible refine de_notV ?_ | refine de_call0 ?_ | refine de_call0F ?_ | refine dr_pow ⟨by decide, by decide, by decide⟩ ?_ | refine de_callK0 _ (by assumption) ?_ | refine dr_mod (by first | decide | assumption | omega) ?_
  | refine dr_ix (by first | exact Or.inl rfl | exact Or.inr rfl | assumption) (by first | decide | omega) (by first | rfl | assumption) ?_
  | refine ⟨_, rfl, ?_⟩ | refine ⟨_, _, rfl, rfl, ?_⟩ | refine ⟨_, by first | exact Or.inl rfl | exact Or.inr rfl, ?_⟩ | refine ⟨_, by assumption, ?_⟩ | fail))
local macro_rules | `(tactic| walk_at "E") => `(tactic| repeat' (first
  | with_reducible refine ds_seq ?_ | with_reducible refine ds_ret ?_ | with_reducible refine ds_if ?_ | with_reducible refine ds_set ?_ | with_reducible refine ds_asg ?_ | with_reducible refine ds_drop ?_ | with_reducible refine ds_par ?_ | with_reducible refine ds_next ?_ | with_reducible refine ds_retN ?_
  | refine de_var (by rfl) ?_ | refine de_int ?_ | refine de_bl ?_ | refine de_str ?_ | refine de_non ?_
  | with_reducible refine de_isN ?_ | with_reducible refine de_op ?_ | with_reducible refine de_andV ?_ | with_reducible refine de_orV ?_ | with_reducible refine de_if ?_ | with_reducible refine de_tup ?_ | with_reducible refine de_chain ?_
  | with_reducible refine dt_test ?_ | with_reducible refine dt_B ?_ | with_reducible refine dt_and ?_ | with_reducible refine dt_or ?_ | with_reducible refine dt_not ?_ | with_reducible refine dt_yes ?_
  | with_reducible refine da_cons ?_ | with_reducible refine da_nil ?_
  | refine de_len ?_ | refine de_tupOf ?_ | refine de_max2 ?_ | refine de_min2 ?_ | refine de_abs ?_ | refine de_intB ?_ | refine de_all ?_
  | with_reducible refine dg_name ?_ | with_reducible refine dgs_nil ?_ | with_reducible refine dgs_cons ?_ 
  | refine dr_plusI ?_ | refine dr_sub ?_ | refine dr_lt ?_ | refine dr_le ?_ | refine dr_gt ?_ | refine dr_ge ?_ | refine dr_eqAI ?_ | refine dr_neAI ?_ | refine dr_eqAB ?_ | refine dr_neAB ?_
  | refine de_isi2 rfl rfl ?_ | refine de_isi rfl ?_ | refine ⟨(rfl : plainD _ = true), ?_⟩ | refine if2f rfl ?_ | refine if2t rfl ?_ | refine if2t (decide_eq_true rfl) ?_ | refine dr_eqAS ?_ | with_reducible refine de_notV ?_ | refine de_call0 ?_ | refine de_call0F ?_ | refine dr_pow ⟨by decide, by decide, by decide⟩ ?_ | refine de_callK0 _ (by assumption) ?_ | refine dr_mod (by first | decide | assumption | omega) ?_
  | refine dr_ix (by first | exact Or.inl rfl | exact Or.inr rfl | assumption) (by first | decide | omega) (by first | rfl | assumption) ?_
  | refine ⟨_, rfl, ?_⟩ | refine ⟨_, _, rfl, rfl, ?_⟩ | refine ⟨_, by first | exact Or.inl rfl | exact Or.inr rfl, ?_⟩ | refine DR.of_fresh (drf_timesL (by decide) (by decide) (Nat.le_of_ble_eq_true rfl) ?_) | with_reducible refine DE.of_fresh (df_lst ?_) | refine DE.of_fresh (df_listOf ?_) | refine ⟨Nat.le_of_ble_eq_true rfl, ?_⟩ | refine ⟨_, by assumption, ?_⟩ | fail))
/-! ### the box -/
def C_take (d : Nat) : DCon := fun b ds n P PX => ∃ a span, b = some a ∧ ds = [.raw (.ref a), .int span] ∧ 0 < span ∧ span ≤ 10 ^ (7 * (d + 1)) ∧ d ≤ 6 ∧ n + 2 ^ (d + 1) ≤ 2 ^ 40 ∧ ∀ v m, 0 ≤ v → v < span → n ≤ m → m ≤ n + 2 ^ (d + 1) → P (.int v) m
/-- the i-th of the box in slot 0 -/
theorem bx {K : PySem.W.Frag} {σ : L2.St} {H : Hp} {a : Addr} {xs : List V} {v : V} {Q : VK} (j : Nat) (h0 : σ[0]? = some (some (.ref a))) (hb : H a = some (.lst xs)) (hv : xs[j]? = some v) (q : Q v H) : tOp (rIx K) (tVar 0) (tC (.int (j : Int))) σ H Q :=
  ⟨.ref a, h0, Or.inl ⟨a, xs, (j : Int), v, rfl, rfl, Evl.sq_of hb, atI_nat hv, q⟩⟩
theorem pow_7 : (10 : Int) ^ (7 : Int).toNat = 10000000 := by decide
theorem ten_le {d : Nat} (h : d ≤ 6) : (10 : Int) ^ (7 * (d + 1)) ≤ 10 ^ 49 := by
  have e : (10 : Int) ^ 49 = 10 ^ (7 * (d + 1)) * 10 ^ (49 - 7 * (d + 1)) := by
    rw [← Int.pow_add]
    congr 1
    omega
  have p1 : (0 : Int) < 10 ^ (7 * (d + 1)) := Int.pow_pos (by decide)
  have p2 : (0 : Int) < 10 ^ (49 - 7 * (d + 1)) := Int.pow_pos (by decide)
  rw [e]
  have p3 : (1 : Int) ≤ 10 ^ (49 - 7 * (d + 1)) := p2
  calc (10 : Int) ^ (7 * (d + 1)) = 10 ^ (7 * (d + 1)) * 1 := by omega
    _ ≤ 10 ^ (7 * (d + 1)) * 10 ^ (49 - 7 * (d + 1)) := Int.mul_le_mul_of_nonneg_left p3 (Int.le_of_lt p1)
theorem span_small {span : Int} {d : Nat} (h0 : 0 < span) (h1 : span ≤ 10 ^ (7 * (d + 1))) (h2 : d ≤ 6) : span.natAbs < 2 ^ 170 := by
  have a := ten_le h2
  have b : (10 : Int) ^ 49 < 2 ^ 170 := by decide
  omega
theorem go_call {K : PySem.W.Frag} {k : Nat} {C : DCon} {vs : List V} {S H : Hp} {Q : VK} {E : XK} {a : Addr} {n : Nat} {ds : List D} {P : D → Nat → Prop} (ex : Ex S H ∧ TabK K S H) (bx : BoxOk n H a) (hs : S a = none) (r : Reps K S vs ds) (hl : ds.length = k) (hc : C (some a) ds n P fun _ _ => False)
    (q : ∀ v d S' H' n', Mv (some a) S H S' H' → (Ex S' H' ∧ TabK K S' H') → BoxOk n' H' a → S' a = none → Rep K S' v d → P d n' → Q v H') : spOf K k C vs H Q E :=
  ⟨some a, S, ds, n, P, fun _ _ => False, ex, fun x e => by cases e; exact ⟨bx, hs⟩, r, hl, hc, fun v d S' H' n' m x b rv p => q v d S' H' n' m x (b a rfl).1 (b a rfl).2 rv p, fun _ _ _ _ _ _ _ _ _ _ z => z.elim⟩
theorem mv_box {S H : Hp} {a : Addr} {o : HO} (hs : S a = none) (hb : ∃ xs, H a = some (.lst xs)) : Mv (some a) S H S (upd H a o) := by
  refine ⟨Ex.refl S, fun x u ne e nt => ?_, fun x ps e => ?_, fun x _ h => h⟩
  · have q : x ≠ a := fun z => ne (by rw [z])
    rw [upd_ne q]; exact e
  · obtain ⟨xs, hb⟩ := hb
    refine ⟨ps, ?_⟩
    rw [upd_ne (fun z => by rw [z, hb] at e; cases e)]; exact e
theorem ex_box {K : PySem.W.Frag} {S H : Hp} {a : Addr} {o : HO} (ex : Ex S H ∧ TabK K S H) (hs : S a = none) (hb : ∃ xs, H a = some (.lst xs)) : Ex S (upd H a o) ∧ TabK K S (upd H a o) := ⟨fun x u e => by
  rw [upd_ne (ne_of_none e hs)]; exact ex.1 x u e, ex.2.put hb⟩
theorem cpow_5 {i : Int} (h0 : 0 ≤ i) (h1 : i < 2 ^ 63) : CPow i 5 := ⟨by decide, by decide, by omega⟩
theorem step_span {span : Int} {d : Nat} (h0 : 0 < span) (h1 : span ≤ 10 ^ (7 * (d + 1 + 1))) : 0 < (span - 1) / 10000000 + 1 ∧ (span - 1) / 10000000 + 1 ≤ 10 ^ (7 * (d + 1)) := by
  have e : (10 : Int) ^ (7 * (d + 1 + 1)) = 10 ^ (7 * (d + 1)) * 10000000 := by
    have : 7 * (d + 1 + 1) = 7 * (d + 1) + 7 := by omega
    rw [this, Int.pow_add]
    rfl
  rw [e] at h1
  refine ⟨by omega, ?_⟩
  have : (span - 1) / 10000000 < 10 ^ (7 * (d + 1)) := Int.ediv_lt_of_lt_mul (by decide) (by omega)
  omega
/-- a stay; stays -/
def Pr (d : D) (p : Int × Int) : Prop := d = .lst [.int p.1, .int p.2] ∨ d = .tup [.int p.1, .int p.2]
def LnX (d : D) (xs : List D) (l : List (Int × Int)) : Prop := (d = .lst xs ∨ d = .tup xs) ∧ xs.length = l.length ∧ ∀ (i : Nat) (x : D), xs[i]? = some x → ∃ p, l[i]? = some p ∧ Pr x p
def Ln (d : D) (l : List (Int × Int)) : Prop := ∃ xs, LnX d xs l
theorem LnX.at {d : D} {xs : List D} {l : List (Int × Int)} (h : LnX d xs l) {i : Nat} {p : Int × Int} (e : l[i]? = some p) : ∃ x, xs[i]? = some x ∧ Pr x p := by
  have hi : i < xs.length := by rw [h.2.1]; exact (List.getElem?_eq_some_iff.mp e).1
  obtain ⟨q, h1, h2⟩ := h.2.2 i xs[i] (by simp [hi])
  rw [e] at h1; cases h1
  exact ⟨_, by simp [hi], h2⟩
theorem Ln.tupP (l : List (Int × Int)) : Ln (.tup (l.map pr)) l := ⟨_, Or.inr rfl, by simp, fun i x e => by
  rw [List.getElem?_map] at e
  cases h : l[i]? with
  | none => rw [h] at e; cases e
  | some p => rw [h] at e; cases e; exact ⟨p, rfl, Or.inr rfl⟩⟩
theorem Ln.lstP (l : List (Int × Int)) : Ln (.lst (l.map pr)) l := ⟨_, Or.inl rfl, by simp, fun i x e => by
  rw [List.getElem?_map] at e
  cases h : l[i]? with
  | none => rw [h] at e; cases e
  | some p => rw [h] at e; cases e; exact ⟨p, rfl, Or.inr rfl⟩⟩
theorem Ln.lstL (l : List (Int × Int)) : Ln (.lst (l.map prL)) l := ⟨_, Or.inl rfl, by simp, fun i x e => by
  rw [List.getElem?_map] at e
  cases h : l[i]? with
  | none => rw [h] at e; cases e
  | some p => rw [h] at e; cases e; exact ⟨p, rfl, Or.inl rfl⟩⟩
def meets (p q : Int × Int) : Bool := decide (p.1 ≤ q.2) && decide (q.1 ≤ p.2)
theorem toNat_lt {g : Int} {k : Nat} (h0 : 0 ≤ g) (h : g.toNat < k) : g < (k : Int) := by omega
theorem get_lt {α : Type} {l : List α} {i : Int} {p : α} (h0 : 0 ≤ i) (h : l[i.toNat]? = some p) : i < (l.length : Int) := toNat_lt h0 (List.getElem?_eq_some_iff.mp h).1
/-- the pairs -/
def duos (l : List (Int × Int)) : List (Int × Int) := (List.range l.length).flatMap fun i => ((List.range (l.length - (i + 1))).filter fun k => match l[i]?, l[i + 1 + k]? with | some p, some q => meets p q | _, _ => false).map fun k => ((i : Int), ((i + 1 + k : Nat) : Int))
def swapL (l : List (Int × Int)) (i j : Nat) (p q : Int × Int) : List (Int × Int) := (l.set i (p.1, q.2)).set j (q.1, p.2)
/-! how many are late enough; sorted lists -/
theorem sortedI_one : ∀ (a b : List Int), a.Perm b → a.Pairwise (· ≤ ·) → b.Pairwise (· ≤ ·) → a = b
  | [], b, p, _, _ => (List.nil_perm.mp p).symm
  | x :: a, [], p, _, _ => absurd p.length_eq (by simp)
  | x :: a, y :: b, p, h1, h2 => by
    obtain ⟨g1, g1'⟩ := List.pairwise_cons.mp h1
    obtain ⟨g2, g2'⟩ := List.pairwise_cons.mp h2
    have e : x = y := by
      have hx := p.mem_iff.mp (List.mem_cons_self (a := x) (l := a))
      have hy := p.mem_iff.mpr (List.mem_cons_self (a := y) (l := b))
      rcases List.mem_cons.mp hx with e | hx
      · exact e
      · rcases List.mem_cons.mp hy with e | hy
        · exact e.symm
        · have := g2 x hx
          have := g1 y hy
          omega
    subst e
    rw [sortedI_one a b (List.perm_cons x |>.mp p) g1' g2']
def srt (l : List Int) : List Int := l.mergeSort fun a b => decide (a ≤ b)
theorem srt_perm (l : List Int) : (srt l).Perm l := List.mergeSort_perm l _
theorem srt_asc (l : List Int) : (srt l).Pairwise (· ≤ ·) := by
  have := List.pairwise_mergeSort (le := fun a b : Int => decide (a ≤ b)) (fun a b c h1 h2 => by simp at *; omega) (fun a b => by simp; omega) l
  exact this.imp fun h => by simpa using h
theorem srt_one {l a : List Int} (p : a.Perm l) (h : a.Pairwise (· ≤ ·)) : a = srt l := sortedI_one a (srt l) (p.trans (srt_perm l).symm) h (srt_asc l)
theorem srt_len (l : List Int) : (srt l).length = l.length := (srt_perm l).length_eq
theorem mem_srt {l : List Int} {x : Int} : x ∈ srt l ↔ x ∈ l := (srt_perm l).mem_iff
theorem srt_filter (l : List Int) (p : Int → Bool) : srt (l.filter p) = (srt l).filter p := (srt_one ((srt_perm l).filter p) ((srt_asc l).filter _)).symm
def ge (x : Int) (l : List Int) : Nat := (l.filter fun y => decide (x ≤ y)).length
theorem ge_perm {x : Int} {l l' : List Int} (p : l.Perm l') : ge x l = ge x l' := (p.filter _).length_eq
theorem ge_cons {x a : Int} {l : List Int} : ge x (a :: l) = (if x ≤ a then 1 else 0) + ge x l := by
  unfold ge
  by_cases h : x ≤ a
  · rw [List.filter_cons_of_pos (by simpa using h), if_pos h, List.length_cons]; omega
  · rw [List.filter_cons_of_neg (by simpa using h), if_neg h]; omega
theorem ge_nil {x : Int} : ge x [] = 0 := rfl
theorem ge_le (x : Int) (l : List Int) : ge x l ≤ l.length := List.length_filter_le _ _
theorem ge_anti {x y : Int} (h : x ≤ y) : ∀ l : List Int, ge y l ≤ ge x l
  | [] => Nat.le_refl _
  | a :: l => by
    have := ge_anti h l
    rw [ge_cons, ge_cons]
    by_cases c : y ≤ a
    · rw [if_pos c, if_pos (by omega)]; omega
    · rw [if_neg c]; omega
/-- one is taken away -/
def les (d : Int) (l : List Int) : List Int := l.filter fun y => !decide (y = d)
theorem les_len {d : Int} : ∀ {l : List Int}, l.Nodup → d ∈ l → (les d l).length + 1 = l.length
  | [], _, h => absurd h (by simp)
  | a :: l, nd, h => by
    obtain ⟨n1, n2⟩ := List.nodup_cons.mp nd
    by_cases e : a = d
    · subst e
      have : les a (a :: l) = l := by
        unfold les
        rw [List.filter_cons_of_neg (by simp), List.filter_eq_self]
        intro y hy
        have : y ≠ a := fun z => n1 (z ▸ hy)
        simpa using this
      rw [this]; rfl
    · have h2 : d ∈ l := by
        rcases List.mem_cons.mp h with z | z
        · exact absurd z.symm e
        · exact z
      have : les d (a :: l) = a :: les d l := by
        unfold les
        rw [List.filter_cons_of_pos (by simpa using e)]
      rw [this, List.length_cons, List.length_cons, les_len n2 h2]
theorem ge_les {d x : Int} : ∀ {l : List Int}, l.Nodup → d ∈ l → ge x (les d l) + (if x ≤ d then 1 else 0) = ge x l
  | [], _, h => absurd h (by simp)
  | a :: l, nd, h => by
    obtain ⟨n1, n2⟩ := List.nodup_cons.mp nd
    by_cases e : a = d
    · subst e
      have : les a (a :: l) = l := by
        unfold les
        rw [List.filter_cons_of_neg (by simp), List.filter_eq_self]
        intro y hy
        have : y ≠ a := fun z => n1 (z ▸ hy)
        simpa using this
      rw [this, ge_cons]; omega
    · have h2 : d ∈ l := by
        rcases List.mem_cons.mp h with z | z
        · exact absurd z.symm e
        · exact z
      have : les d (a :: l) = a :: les d l := by
        unfold les
        rw [List.filter_cons_of_pos (by simpa using e)]
      rw [this, ge_cons, ge_cons, ← ge_les (x := x) n2 h2]
      omega
theorem les_nodup {d : Int} {l : List Int} (h : l.Nodup) : (les d l).Nodup := h.filter _
theorem les_perm {d : Int} {l l' : List Int} (p : l.Perm l') : (les d l).Perm (les d l') := p.filter _
theorem les_srt (d : Int) (l : List Int) : srt (les d l) = les d (srt l) := srt_filter l _
/-- no arrival bars -/
def fitsB (A L : List Int) : Bool := A.all fun x => decide (ge x A ≤ ge x L)
theorem fitsB_iff {A L : List Int} : fitsB A L = true ↔ ∀ x ∈ A, ge x A ≤ ge x L := by
  unfold fitsB
  rw [List.all_eq_true]
  exact ⟨fun h x hx => by simpa using h x hx, fun h x hx => by simpa using h x hx⟩
theorem fitsB_perm {A L L' : List Int} (p : L.Perm L') : fitsB A L = fitsB A L' := by
  unfold fitsB
  congr 1
  funext x
  rw [ge_perm p]
/-- the product over a descending list, what the program multiplies -/
def prodA (L : List Int) (S : List Int) : Int := S.zipIdx.foldl (fun m p => m * max 0 ((ge p.1 L : Int) - (p.2 : Int))) 1
theorem prodA_snoc {L S : List Int} {x : Int} : prodA L (S ++ [x]) = prodA L S * max 0 ((ge x L : Int) - (S.length : Int)) := by
  unfold prodA
  rw [List.zipIdx_append, List.foldl_append]
  simp
theorem prodA_take {L S : List Int} {i : Nat} {x : Int} (h : S[i]? = some x) : prodA L (S.take (i + 1)) = prodA L (S.take i) * max 0 ((ge x L : Int) - (i : Int)) := by
  rw [DL.take_one_more h, prodA_snoc, List.length_take, Nat.min_eq_left (Nat.le_of_lt (List.getElem?_eq_some_iff.mp h).1)]
theorem prodA_pos {L S : List Int} : ∀ i, i ≤ S.length → 0 ≤ prodA L (S.take i) ∧ (0 < prodA L (S.take i) ↔ ∀ j x, j < i → S[j]? = some x → j < ge x L)
  | 0, _ => by
    have e : prodA L (S.take 0) = 1 := rfl
    rw [e]
    exact ⟨by omega, ⟨fun _ j x h => absurd h (by omega), fun _ => by omega⟩⟩
  | i + 1, h => by
    obtain ⟨h1, h2⟩ := prodA_pos (L := L) (S := S) i (by omega)
    have hi : i < S.length := by omega
    have hx : S[i]? = some S[i] := by simp [hi]
    rw [prodA_take hx]
    have m0 : (0 : Int) ≤ max 0 ((ge S[i] L : Int) - (i : Int)) := by omega
    refine ⟨Int.mul_nonneg h1 m0, ⟨fun hp j x hj e => ?_, fun hp => ?_⟩⟩
    · have p1 : 0 < prodA L (S.take i) := by
        rcases Int.lt_or_eq_of_le h1 with c | c
        · exact c
        · rw [← c] at hp; simp at hp
      by_cases c : j < i
      · exact h2.mp p1 j x c e
      · have : j = i := by omega
        subst this
        rw [hx] at e; cases e
        have : 0 < max 0 ((ge S[j] L : Int) - (j : Int)) := by
          rcases Int.lt_or_eq_of_le m0 with c | c
          · exact c
          · rw [← c] at hp; simp at hp
        omega
    · have a := h2.mpr fun j x hj e => hp j x (by omega) e
      have b := hp i _ (by omega) hx
      exact Int.mul_pos a (by omega)
theorem prodA_small {L S : List Int} {B : Nat} (hL : L.length < 2 ^ B) : ∀ i, i ≤ S.length → (prodA L (S.take i)).natAbs < 2 ^ (B * i + 1)
  | 0, _ => by
    have e : prodA L (S.take 0) = 1 := rfl
    rw [e]
    simp
  | i + 1, h => by
    have h1 := prodA_small (S := S) hL i (by omega)
    have hi : i < S.length := by omega
    have hx : S[i]? = some S[i] := by simp [hi]
    rw [prodA_take hx, Int.natAbs_mul]
    have hg := ge_le S[i] L
    have h2 : (max 0 ((ge S[i] L : Int) - (i : Int))).natAbs < 2 ^ B := by
      omega
    have e : B * (i + 1) + 1 = (B * i + 1) + B := by rw [Nat.mul_add]; omega
    rw [e, Nat.pow_add]
    exact Nat.mul_lt_mul'' h1 h2
theorem desc_last {x : Int} : ∀ {S : List Int}, S.Pairwise (· ≥ ·) → x ∈ S → ∃ i : Nat, S[i]? = some x ∧ ge x S = i + 1
  | [], _, h => absurd h (by simp)
  | a :: S, hs, h => by
    obtain ⟨g1, g2⟩ := List.pairwise_cons.mp hs
    by_cases hx : x ∈ S
    · obtain ⟨i, h1, h2⟩ := desc_last g2 hx
      refine ⟨i + 1, by simpa using h1, ?_⟩
      have := g1 x hx
      rw [ge_cons, if_pos (by omega), h2]; omega
    · have e : x = a := by
        rcases List.mem_cons.mp h with z | z
        · exact z
        · exact absurd z hx
      subst e
      refine ⟨0, rfl, ?_⟩
      have z : ge x S = 0 := by
        unfold ge
        rw [List.length_eq_zero_iff, List.filter_eq_nil_iff]
        intro y hy
        have := g1 y hy
        have : y ≠ x := fun z => hx (z ▸ hy)
        simp
        omega
      rw [ge_cons, if_pos (Int.le_refl _), z]
theorem desc_many {x : Int} : ∀ {S : List Int} {i : Nat}, S.Pairwise (· ≥ ·) → S[i]? = some x → i + 1 ≤ ge x S
  | [], i, _, h => by simp at h
  | a :: S, 0, hs, h => by
    cases h
    rw [ge_cons, if_pos (Int.le_refl _)]; omega
  | a :: S, i + 1, hs, h => by
    obtain ⟨g1, g2⟩ := List.pairwise_cons.mp hs
    have h' : S[i]? = some x := by simpa using h
    have := desc_many g2 h'
    have := g1 x (List.mem_of_getElem? h')
    rw [ge_cons, if_pos (by omega)]; omega
theorem prodA_fits {A S L : List Int} (hp : S.Perm A) (hs : S.Pairwise (· ≥ ·)) : 0 < prodA L S ↔ fitsB A L = true := by
  have key := (prodA_pos (L := L) (S := S) S.length (Nat.le_refl _)).2
  rw [List.take_length] at key
  rw [key, fitsB_iff]
  constructor
  · intro h x hx
    obtain ⟨i, h1, h2⟩ := desc_last hs (hp.mem_iff.mpr hx)
    have := h i x (List.getElem?_eq_some_iff.mp h1).1 h1
    rw [← ge_perm hp, h2]; omega
  · intro h j x _ e
    have h1 := desc_many hs e
    have h2 := h x (hp.mem_iff.mp (List.mem_of_getElem? e))
    rw [← ge_perm hp] at h2
    omega
/-- the days of the first ones, in ascending order, that leave room for the rest -/
def okDay (a : Int) (A L : List Int) (d : Int) : Bool := decide (a ≤ d) && fitsB A (les d L)
def greedy : List Int → List Int → List (Int × Int)
  | [], _ => []
  | a :: A, L => match (srt L).find? (okDay a A L) with
    | some d => (a, d) :: greedy A (les d L)
    | none => []
theorem first_ok {a : Int} {A L : List Int} (nd : L.Nodup) (h : fitsB (a :: A) L = true) : ∃ d, (srt L).find? (okDay a A L) = some d ∧ d ∈ L ∧ a ≤ d ∧ fitsB A (les d L) = true := by
  have hf := fitsB_iff.mp h
  have ha := hf a List.mem_cons_self
  have g1 : 1 ≤ ge a (a :: A) := by rw [ge_cons, if_pos (Int.le_refl _)]; omega
  -- the least day from a on
  have ex : ∃ d, (srt L).find? (fun d => decide (a ≤ d)) = some d := by
    cases c : (srt L).find? (fun d => decide (a ≤ d)) with
    | some d => exact ⟨d, rfl⟩
    | none =>
      exfalso
      rw [List.find?_eq_none] at c
      have : ge a L = 0 := by
        rw [← ge_perm (srt_perm L)]
        unfold ge
        rw [List.length_eq_zero_iff, List.filter_eq_nil_iff]
        exact c
      omega
  obtain ⟨d0, hd0⟩ := ex
  have hm : d0 ∈ L := mem_srt.mp (List.mem_of_find?_eq_some hd0)
  have hle : a ≤ d0 := by simpa using List.find?_some hd0
  have hmin : ∀ y ∈ L, a ≤ y → d0 ≤ y := by
    obtain ⟨_, as, bs, e, hn⟩ := List.find?_eq_some_iff_append.mp hd0
    intro y hy hay
    have hy' := mem_srt.mpr hy
    have hs := srt_asc L
    rw [e] at hy' hs
    rcases List.mem_append.mp hy' with q | q
    · have := hn y q
      simp at this
      omega
    · rcases List.mem_cons.mp q with q | q
      · omega
      · have := (List.pairwise_cons.mp (List.pairwise_append.mp hs).2.1).1 y q
        exact this
  have ok0 : okDay a A L d0 = true := by
    unfold okDay
    rw [Bool.and_eq_true]
    refine ⟨by simpa using hle, fitsB_iff.mpr fun x hx => ?_⟩
    have e1 := ge_les (x := x) nd hm
    have e2 := hf x (List.mem_cons_of_mem _ hx)
    rw [ge_cons] at e2
    by_cases c : x ≤ a
    · rw [if_pos c] at e2
      rw [if_pos (by omega)] at e1
      omega
    · rw [if_neg c] at e2
      by_cases c2 : x ≤ d0
      · rw [if_pos c2] at e1
        have e3 : ge x L = ge a L := by
          unfold ge
          congr 1
          refine List.filter_congr fun y hy => ?_
          by_cases z : a ≤ y
          · have := hmin y hy z
            rw [decide_eq_true z, decide_eq_true (by omega)]
          · rw [decide_eq_false z, decide_eq_false (by omega)]
        have e4 : ge x A + 1 ≤ ge a (a :: A) := by
          rw [ge_cons, if_pos (Int.le_refl _)]
          have := ge_anti (show a ≤ x by omega) A
          omega
        omega
      · rw [if_neg c2] at e1
        omega
  cases c : (srt L).find? (okDay a A L) with
  | none =>
    rw [List.find?_eq_none] at c
    exact absurd ok0 (c d0 (mem_srt.mpr hm))
  | some d =>
    have h1 := List.find?_some c
    unfold okDay at h1
    rw [Bool.and_eq_true] at h1
    exact ⟨d, rfl, mem_srt.mp (List.mem_of_find?_eq_some c), by simpa using h1.1, h1.2⟩
/-- the greatest arrival that bars -/
def Bars (A L : List Int) (m : Int) : Prop := m ∈ A ∧ ge m L < ge m A ∧ ∀ y ∈ A, ge y L < ge y A → y ≤ m
theorem Bars.one {A L : List Int} {m k : Int} (h : Bars A L m) (g : Bars A L k) : m = k := by
  have h1 := h.2.2 k g.1 g.2.1
  have h2 := g.2.2 m h.1 h.2.1
  omega
theorem bars_no {A L : List Int} {m : Int} (h : Bars A L m) : fitsB A L = false := by
  cases c : fitsB A L with
  | false => rfl
  | true =>
    have := fitsB_iff.mp c m h.1
    have := h.2.1
    omega
theorem not_fits {A L : List Int} (h : fitsB A L = false) : ∃ x ∈ A, ge x L < ge x A := by
  unfold fitsB at h
  rw [List.all_eq_false] at h
  obtain ⟨x, hx, c⟩ := h
  exact ⟨x, hx, by simpa using c⟩
def Is (d : D) (ns : List Int) : Prop := d = .lst (ns.map D.int) ∨ d = .tup (ns.map D.int)
def dsc (l : List Int) : List Int := (srt l).reverse
theorem dsc_one {l a : List Int} (p : a.Perm l) (h : a.Pairwise (· ≥ ·)) : a = dsc l := by
  have h1 : a.reverse = srt l := srt_one ((List.reverse_perm a).trans p) (List.pairwise_reverse.mpr h)
  unfold dsc
  rw [← h1, List.reverse_reverse]
theorem dsc_perm (l : List Int) : (dsc l).Perm l := (List.reverse_perm _).trans (srt_perm l)
theorem dsc_desc (l : List Int) : (dsc l).Pairwise (· ≥ ·) := List.pairwise_reverse.mpr (srt_asc l)
/-- in how many ways the days can be dealt out -/
def waysN (A L : List Int) : Int := prodA L (dsc A)
theorem waysN_fits (A L : List Int) : 0 < waysN A L ↔ fitsB A L = true := prodA_fits (dsc_perm A) (dsc_desc A)
def chsOf (a : Int) (A L S : List Int) : List (Int × Int) := (S.filter (okDay a A L)).map fun d => (d, waysN A (les d L))
/-- the choices of the first one -/
def chs (a : Int) (A L : List Int) : List (Int × Int) := chsOf a A L (srt L)
theorem chs_len {a : Int} {A L : List Int} {B : Nat} (h : L.length ≤ B) : (chs a A L).length ≤ B := by
  unfold chs chsOf
  rw [List.length_map]
  have := List.length_filter_le (okDay a A L) (srt L)
  rw [srt_len] at this
  omega
def pickN : List (Int × Int) → Int → Int × Int
  | [], _ => (0, 0)
  | (d, w) :: cs, k => if w ≤ k then pickN cs (k - w) else (d, k)
theorem pickN_cons (x : Int × Int) (cs : List (Int × Int)) (k : Int) : pickN (x :: cs) k = if x.2 ≤ k then pickN cs (k - x.2) else (x.1, k) := rfl
/-- there is a way with this number -/
def Has : List Int → List Int → Int → Prop
  | [], _, _ => True
  | a :: A, L, k => 0 ≤ k ∧ k < ((chs a A L).map Prod.snd).sum ∧ Has A (les (pickN (chs a A L) k).1 L) (pickN (chs a A L) k).2
def nthL : List Int → List Int → Int → List (Int × Int)
  | [], _, _ => []
  | a :: A, L, k => (a, (pickN (chs a A L) k).1) :: nthL A (les (pickN (chs a A L) k).1 L) (pickN (chs a A L) k).2
def C_fits_many : DCon := fun b ds n P PX => ∃ dA dD A L, ds = [dA, dD] ∧ Is dA A ∧ Is dD L ∧ A.length ≤ 100 ∧ L.length ≤ 100 ∧ P (.int (waysN A L)) n
def C_days_with_ways : DCon := fun b ds n P PX => ∃ dA dD A L g a, ds = [dA, dD, .int ((g : Nat) : Int)] ∧ Is dA A ∧ Is dD L ∧ A.length ≤ 100 ∧ L.length ≤ 100 ∧ A[g]? = some a ∧ P (.lst ((chs a (A.eraseIdx g) L).map pr)) n
def C__day_with_number : DCon := fun b ds n P PX => ∃ cs k, ds = [.lst (cs.map pr), .int k] ∧ 0 ≤ k ∧ k < (cs.map Prod.snd).sum ∧ cs.length ≤ 100 ∧ P (.tup [.int (pickN cs k).1, .int (pickN cs k).2]) n
def C_stays_with_number : DCon := fun b ds n P PX => ∃ dA dD A L k, ds = [dA, dD, .int k] ∧ Is dA A ∧ Is dD L ∧ A.length ≤ 100 ∧ L.length ≤ 100 ∧ Has A L k ∧ P (.tup ((nthL A L k).map pr)) n
theorem de_drop {A : Amb} {ρ : Rho} {n i k : Nat} {te : TE} {d0 : D} {ns : List Int} {P : D → Nat → Prop} (hi : ρ[i]? = some (.val d0)) (hA : Is d0 ns) (h : DE A te ρ n fun d m => d = .int (k : Int) ∧ ∀ d', Is d' (ns.drop k) → P d' m) : DE A (tSl (rSlice A.K) (tVar i) (tPart te) tNoPart) ρ n P := by
  have ee : DL.cutD (ns.map D.int) (some ((k : Nat) : Int)) none = (ns.drop k).map D.int := by rw [DL.cutD_drop, List.map_drop]
  rcases hA with rfl | rfl
  · exact de_slL (de_var hi ⟨_, rfl, dp_some (h.imp fun d m ⟨e, p⟩ => ⟨_, e, dp_none (p _ (Or.inl (congrArg D.lst ee)))⟩)⟩)
  · exact de_slT (de_var hi ⟨_, rfl, dp_some (h.imp fun d m ⟨e, p⟩ => ⟨_, e, dp_none (p _ (Or.inr (congrArg D.tup ee)))⟩)⟩)
/-! in how many ways: counted one by one, and as a product -/
theorem sum_nil : ([] : List Int).sum = 0 := rfl
theorem perm_sum {l l' : List Int} (p : l.Perm l') : l.sum = l'.sum := by
  induction p with
  | nil => rfl
  | cons x _ ih => rw [List.sum_cons, List.sum_cons, ih]
  | swap x y l => rw [List.sum_cons, List.sum_cons, List.sum_cons, List.sum_cons]; omega
  | trans _ _ h1 h2 => exact h1.trans h2
theorem sum_app {l l' : List Int} : (l ++ l').sum = l.sum + l'.sum := by
  induction l with
  | nil => rw [List.nil_append, sum_nil, Int.zero_add]
  | cons x l ih => rw [List.cons_append, List.sum_cons, List.sum_cons, ih]; omega
theorem sum_filter {α : Type} (p : α → Bool) (f : α → Int) : ∀ l : List α, ((l.filter p).map f).sum = (l.map fun x => if p x = true then f x else 0).sum
  | [] => rfl
  | x :: l => by
    have ih := sum_filter p f l
    by_cases c : p x = true
    · rw [List.filter_cons_of_pos c, List.map_cons, List.map_cons, List.sum_cons, List.sum_cons, ih, if_pos c]
    · rw [List.filter_cons_of_neg c, List.map_cons, List.sum_cons, ih, if_neg c]; omega
theorem sum_add {α : Type} (f g : α → Int) : ∀ l : List α, (l.map fun x => f x + g x).sum = (l.map f).sum + (l.map g).sum
  | [] => rfl
  | x :: l => by
    have ih := sum_add f g l
    rw [List.map_cons, List.map_cons, List.map_cons, List.sum_cons, List.sum_cons, List.sum_cons, ih]; omega
theorem sum_zero {α : Type} : ∀ l : List α, (l.map fun _ => (0 : Int)).sum = 0
  | [] => rfl
  | x :: l => by rw [List.map_cons, List.sum_cons, sum_zero l]; rfl
theorem sum_comm {α β : Type} (f : α → β → Int) : ∀ (l : List α) (m : List β), (l.map fun x => (m.map fun y => f x y).sum).sum = (m.map fun y => (l.map fun x => f x y).sum).sum
  | [], m => by rw [List.map_nil]; exact (sum_zero m).symm
  | x :: l, m => by
    rw [List.map_cons, List.sum_cons, sum_comm f l m]
    rw [← sum_add]
    congr 1
theorem sum_congr {α : Type} {f g : α → Int} {l : List α} (h : ∀ x ∈ l, f x = g x) : (l.map f).sum = (l.map g).sum := by
  rw [List.map_congr_left h]
theorem sum_const {α : Type} {f : α → Int} {c : Int} : ∀ {l : List α}, (∀ x ∈ l, f x = c) → (l.map f).sum = l.length * c
  | [], _ => by simp
  | x :: l, h => by
    rw [List.map_cons, List.sum_cons, sum_const fun y hy => h y (List.mem_cons_of_mem _ hy), h x List.mem_cons_self, List.length_cons]
    have : ((l.length + 1 : Nat) : Int) = (l.length : Int) + 1 := by omega
    rw [this, Int.add_mul]; omega
def cntW : List Int → List Int → Int
  | [], _ => 1
  | a :: A, L => ((L.filter fun d => decide (a ≤ d)).map fun d => cntW A (les d L)).sum
theorem cntW_perm : ∀ (A : List Int) {L L' : List Int}, L.Perm L' → cntW A L = cntW A L'
  | [], _, _, _ => rfl
  | a :: A, L, L', p => by
    show (_ : List Int).sum = (_ : List Int).sum
    rw [sum_congr (g := fun d => cntW A (les d L')) fun d _ => cntW_perm A (les_perm p)]
    exact perm_sum ((p.filter _).map _)
theorem les_comm (d e : Int) (L : List Int) : les d (les e L) = les e (les d L) := by
  unfold les
  rw [List.filter_filter, List.filter_filter]
  refine List.filter_congr fun y _ => ?_
  exact Bool.and_comm _ _
theorem mem_les {d y : Int} {L : List Int} : y ∈ les d L ↔ y ∈ L ∧ y ≠ d := by
  unfold les
  rw [List.mem_filter]
  simp
theorem cntW_swap (a b : Int) (A L : List Int) : cntW (a :: b :: A) L = cntW (b :: a :: A) L := by
  have key : ∀ a b : Int, cntW (a :: b :: A) L = (L.map fun d => (L.map fun e => if a ≤ d ∧ b ≤ e ∧ e ≠ d then cntW A (les e (les d L)) else 0).sum).sum := by
    intro a b
    show ((L.filter fun d => decide (a ≤ d)).map fun d => (((les d L).filter fun e => decide (b ≤ e)).map fun e => cntW A (les e (les d L))).sum).sum = _
    rw [sum_filter]
    refine sum_congr fun d _ => ?_
    by_cases c : a ≤ d
    · rw [if_pos (by simpa using c)]
      have : ((les d L).filter fun e => decide (b ≤ e)) = L.filter fun e => decide (b ≤ e) && !decide (e = d) := by
        unfold les
        rw [List.filter_filter]
      rw [this, sum_filter]
      refine sum_congr fun e _ => ?_
      by_cases c2 : b ≤ e ∧ e ≠ d
      · rw [if_pos (by simpa using c2), if_pos ⟨c, c2⟩]
      · rw [if_neg (by simpa using c2), if_neg (fun h => c2 h.2)]
    · rw [if_neg (by simpa using c), sum_congr (g := fun _ => 0) fun e _ => if_neg fun h => c h.1, sum_zero]
  rw [key a b, key b a, sum_comm]
  refine sum_congr fun e _ => sum_congr fun d _ => ?_
  by_cases c : a ≤ d ∧ b ≤ e ∧ e ≠ d
  · rw [if_pos c, if_pos ⟨c.2.1, c.1, fun z => c.2.2 z.symm⟩, les_comm]
  · rw [if_neg c, if_neg fun h => c ⟨h.2.1, h.1, fun z => h.2.2 z.symm⟩]
theorem cntW_permA {A A' : List Int} (p : A.Perm A') : ∀ L, cntW A L = cntW A' L := by
  induction p with
  | nil => intro L; rfl
  | cons x _ ih => intro L; exact sum_congr fun d _ => ih _
  | swap x y l => intro L; exact cntW_swap _ _ _ _
  | trans _ _ h1 h2 => intro L; exact (h1 L).trans (h2 L)
def prodK (L : List Int) : Nat → List Int → Int
  | _, [] => 1
  | k, x :: S => max 0 ((ge x L : Int) - (k : Int)) * prodK L (k + 1) S
theorem prodA_fold {L : List Int} : ∀ (S : List Int) (k : Nat) (m : Int), (S.zipIdx k).foldl (fun m p => m * max 0 ((ge p.1 L : Int) - (p.2 : Int))) m = m * prodK L k S
  | [], k, m => by show m = m * 1; omega
  | x :: S, k, m => by
    rw [List.zipIdx_cons, List.foldl_cons, prodA_fold S]
    show m * _ * _ = m * (_ * _)
    rw [Int.mul_assoc]
theorem prodA_eq (L S : List Int) : prodA L S = prodK L 0 S := by
  unfold prodA
  rw [prodA_fold, Int.one_mul]
theorem prodK_les {d : Int} {L : List Int} (nd : L.Nodup) (hd : d ∈ L) : ∀ (S : List Int) (k : Nat), (∀ x ∈ S, x ≤ d) → prodK (les d L) k S = prodK L (k + 1) S
  | [], k, _ => rfl
  | x :: S, k, h => by
    show _ * _ = _ * _
    rw [prodK_les nd hd S (k + 1) fun y hy => h y (List.mem_cons_of_mem _ hy)]
    congr 1
    have := ge_les (x := x) nd hd
    rw [if_pos (h x List.mem_cons_self)] at this
    omega
theorem cntW_prod : ∀ {S L : List Int}, L.Nodup → S.Pairwise (· ≥ ·) → cntW S L = prodK L 0 S
  | [], L, _, _ => rfl
  | a :: S, L, nd, h => by
    obtain ⟨h1, h2⟩ := List.pairwise_cons.mp h
    show ((L.filter fun d => decide (a ≤ d)).map fun d => cntW S (les d L)).sum = max 0 ((ge a L : Int) - ((0 : Nat) : Int)) * prodK L 1 S
    rw [sum_const (c := prodK L 1 S) fun d hd => ?_]
    · have e : (((L.filter fun d => decide (a ≤ d)).length : Nat) : Int) = max 0 ((ge a L : Int) - ((0 : Nat) : Int)) := by
        unfold ge
        omega
      rw [e]
    · obtain ⟨m, c⟩ := List.mem_filter.mp hd
      have c := of_decide_eq_true c
      rw [cntW_prod (les_nodup nd) h2]
      exact prodK_les nd m S 0 fun x hx => by have := h1 x hx; omega
theorem waysN_cnt {A L : List Int} (nd : L.Nodup) : waysN A L = cntW A L := by
  unfold waysN
  rw [prodA_eq, ← cntW_prod nd (dsc_desc A)]
  exact cntW_permA (dsc_perm A) L
theorem waysN_nn (A L : List Int) : 0 ≤ waysN A L := by
  have := (prodA_pos (L := L) (S := dsc A) (dsc A).length (Nat.le_refl _)).1
  rw [List.take_length] at this
  exact this
theorem waysN_perm {A L L' : List Int} (p : L.Perm L') : waysN A L = waysN A L' := by
  have gp : ∀ x, ge x L = ge x L' := fun x => ge_perm p
  have e : ∀ (S : List Int) (k : Nat), prodK L k S = prodK L' k S := by
    intro S
    induction S with
    | nil => intro k; rfl
    | cons x S ih => intro k; show _ * _ = _ * _; rw [ih, gp]
  unfold waysN
  rw [prodA_eq, prodA_eq, e]
theorem chs_perm {a : Int} {A L L' : List Int} (p : L.Perm L') : chs a A L = chs a A L' := by
  have e : srt L = srt L' := srt_one ((srt_perm L).trans p) (srt_asc L)
  unfold chs chsOf
  rw [e]
  have e2 : (srt L').filter (okDay a A L) = (srt L').filter (okDay a A L') := List.filter_congr fun d _ => by
    unfold okDay
    rw [fitsB_perm (les_perm p)]
  rw [e2]
  exact List.map_congr_left fun d _ => by rw [waysN_perm (les_perm p)]
/-- all ways of the first one's choices are the ways -/
theorem chs_sum {a : Int} {A L : List Int} (nd : L.Nodup) : ((chs a A L).map Prod.snd).sum = waysN (a :: A) L := by
  rw [waysN_cnt nd]
  unfold chs chsOf
  rw [List.map_map]
  show (((srt L).filter (okDay a A L)).map fun d => waysN A (les d L)).sum = ((L.filter fun d => decide (a ≤ d)).map fun d => cntW A (les d L)).sum
  rw [← perm_sum (((srt_perm L).filter fun d => decide (a ≤ d)).map fun d => cntW A (les d L)), sum_filter, sum_filter]
  refine sum_congr fun d hd => ?_
  have w := waysN_fits A (les d L)
  have n := waysN_nn A (les d L)
  have c := waysN_cnt (A := A) (les_nodup (d := d) nd)
  by_cases c1 : a ≤ d
  · rw [if_pos (decide_eq_true c1), ← c]
    by_cases c2 : okDay a A L d = true
    · rw [if_pos c2]
    · rw [if_neg c2]
      have : ¬ 0 < waysN A (les d L) := fun z => c2 (by unfold okDay; rw [decide_eq_true c1, w.mp z]; rfl)
      omega
  · rw [if_neg (fun z => by unfold okDay at z; rw [decide_eq_false c1] at z; cases z), if_neg (by simpa using c1)]
theorem chs_pos {a : Int} {A L : List Int} : ∀ x ∈ chs a A L, 0 < x.2 ∧ x.1 ∈ L ∧ a ≤ x.1 ∧ x.2 = waysN A (les x.1 L) := by
  intro x hx
  unfold chs chsOf at hx
  obtain ⟨d, hd, rfl⟩ := List.mem_map.mp hx
  obtain ⟨m, c⟩ := List.mem_filter.mp hd
  unfold okDay at c
  rw [Bool.and_eq_true] at c
  exact ⟨(waysN_fits _ _).mpr c.2, mem_srt.mp m, of_decide_eq_true c.1, rfl⟩
/-- which choice a number falls into -/
theorem pick_at : ∀ {cs : List (Int × Int)} {k : Int}, 0 ≤ k → k < (cs.map Prod.snd).sum → ∃ pre w post, cs = pre ++ ((pickN cs k).1, w) :: post ∧ k = (pre.map Prod.snd).sum + (pickN cs k).2 ∧ 0 ≤ (pickN cs k).2 ∧ (pickN cs k).2 < w
  | [], k, h0, h1 => by rw [List.map_nil, sum_nil] at h1; omega
  | (d, w) :: cs, k, h0, h1 => by
    rw [List.map_cons, List.sum_cons] at h1
    by_cases c : w ≤ k
    · obtain ⟨pre, w', post, e1, e2, e3, e4⟩ := pick_at (cs := cs) (k := k - w) (by omega) (by
        have h1 : k < w + (cs.map Prod.snd).sum := h1
        omega)
      have e : pickN ((d, w) :: cs) k = pickN cs (k - w) := by rw [pickN_cons, if_pos (show (d, w).2 ≤ k from c)]
      rw [e]
      refine ⟨(d, w) :: pre, w', post, by rw [List.cons_append, ← e1], ?_, e3, e4⟩
      rw [List.map_cons, List.sum_cons]
      show k = w + _ + _
      omega
    · have e : pickN ((d, w) :: cs) k = (d, k) := by rw [pickN_cons, if_neg (show ¬ (d, w).2 ≤ k from c)]
      rw [e]
      exact ⟨[], w, cs, rfl, by rw [List.map_nil, sum_nil]; show k = 0 + k; omega, h0, by show k < w; omega⟩
theorem hasN : ∀ {A L : List Int} {k : Int}, L.Nodup → 0 ≤ k → k < waysN A L → Has A L k
  | [], _, _, _, _, _ => trivial
  | a :: A, L, k, nd, h0, h1 => by
    rw [← chs_sum nd] at h1
    refine ⟨h0, h1, ?_⟩
    obtain ⟨pre, w, post, e1, e2, e3, e4⟩ := pick_at h0 h1
    have hm := chs_pos _ (show ((pickN (chs a A L) k).1, w) ∈ chs a A L from List.mem_iff_append.mpr ⟨pre, post, e1⟩)
    refine hasN (les_nodup nd) e3 ?_
    rw [← hm.2.2.2]
    exact e4
theorem nthL_len : ∀ (A L : List Int) (k : Int), (nthL A L k).length = A.length
  | [], _, _ => rfl
  | a :: A, L, k => by show _ + 1 = _ + 1; rw [nthL_len A]
theorem nthL_fst : ∀ (A L : List Int) (k : Int), (nthL A L k).map Prod.fst = A
  | [], _, _ => rfl
  | a :: A, L, k => by show a :: _ = a :: A; rw [nthL_fst A]
/-- all stays with these arrivals and days, in ascending order -/
def lotL : List Int → List Int → List (List (Int × Int))
  | [], _ => [[]]
  | a :: A, L => ((srt L).filter fun d => decide (a ≤ d)).flatMap fun d => (lotL A (les d L)).map fun r => (a, d) :: r
theorem lotL_len : ∀ (A : List Int) {L : List Int}, L.Nodup → ((lotL A L).length : Int) = cntW A L
  | [], L, _ => rfl
  | a :: A, L, nd => by
    show ((((srt L).filter fun d => decide (a ≤ d)).flatMap fun d => (lotL A (les d L)).map fun r => (a, d) :: r).length : Int) = ((L.filter fun d => decide (a ≤ d)).map fun d => cntW A (les d L)).sum
    rw [← perm_sum (((srt_perm L).filter fun d => decide (a ≤ d)).map fun d => cntW A (les d L))]
    generalize (srt L).filter (fun d => decide (a ≤ d)) = M
    induction M with
    | nil => rfl
    | cons d M ih =>
      rw [List.flatMap_cons, List.length_append, List.map_cons, List.sum_cons, ← ih, List.length_map, ← lotL_len A (les_nodup (d := d) nd)]
      omega
theorem waysN_len {A L : List Int} (nd : L.Nodup) : ((lotL A L).length : Int) = waysN A L := by rw [lotL_len A nd, waysN_cnt nd]
theorem waysN_nil (L : List Int) : waysN [] L = 1 := by simp [waysN, prodA, dsc, srt]
/-- the k-th of them -/
theorem lotL_at : ∀ (A : List Int) {L : List Int} {k : Int}, L.Nodup → 0 ≤ k → k < waysN A L → (lotL A L)[k.toNat]? = some (nthL A L k)
  | [], L, k, _, h0, h1 => by
    have : k = 0 := by
      rw [waysN_nil] at h1; omega
    subst this; rfl
  | a :: A, L, k, nd, h0, h1 => by
    rw [← chs_sum nd] at h1
    -- over any part of the sorted days
    have key : ∀ (M : List Int) (k : Int), 0 ≤ k → k < (((chsOf a A L M)).map Prod.snd).sum → ((M.filter fun d => decide (a ≤ d)).flatMap fun d => (lotL A (les d L)).map fun r => (a, d) :: r)[k.toNat]? = some ((a, (pickN (chsOf a A L M) k).1) :: nthL A (les (pickN (chsOf a A L M) k).1 L) (pickN (chsOf a A L M) k).2) := by
      intro M
      induction M with
      | nil =>
        intro k h0 h1
        have e : ((chsOf a A L []).map Prod.snd).sum = 0 := rfl
        rw [e] at h1; omega
      | cons d M ih =>
        intro k h0 h1
        have wl := waysN_len (A := A) (les_nodup (d := d) nd)
        by_cases c1 : a ≤ d
        · rw [List.filter_cons_of_pos (p := fun d => decide (a ≤ d)) (decide_eq_true c1), List.flatMap_cons]
          by_cases c2 : okDay a A L d = true
          · have ec : chsOf a A L (d :: M) = (d, waysN A (les d L)) :: chsOf a A L M := by
              unfold chsOf
              rw [List.filter_cons_of_pos c2]; rfl
            rw [ec] at h1 ⊢
            rw [List.map_cons, List.sum_cons] at h1
            have h1 : k < waysN A (les d L) + ((chsOf a A L M).map Prod.snd).sum := h1
            rw [pickN_cons]
            by_cases c3 : waysN A (les d L) ≤ k
            · rw [if_pos (show (d, waysN A (les d L)).2 ≤ k from c3)]
              have hk : ((lotL A (les d L)).map fun r => (a, d) :: r).length ≤ k.toNat := by rw [List.length_map]; omega
              rw [List.getElem?_append_right hk]
              have e2 : k.toNat - ((lotL A (les d L)).map fun r => (a, d) :: r).length = (k - waysN A (les d L)).toNat := by rw [List.length_map]; omega
              rw [e2]
              exact ih (k - waysN A (les d L)) (by omega) (by omega)
            · rw [if_neg (show ¬ (d, waysN A (les d L)).2 ≤ k from c3)]
              have hk : k.toNat < ((lotL A (les d L)).map fun r => (a, d) :: r).length := by rw [List.length_map]; omega
              rw [List.getElem?_append_left hk, List.getElem?_map, lotL_at A (les_nodup nd) h0 (by omega)]
              rfl
          · have ec : chsOf a A L (d :: M) = chsOf a A L M := by
              unfold chsOf
              rw [List.filter_cons_of_neg c2]
            rw [ec] at h1 ⊢
            have z : (lotL A (les d L)).length = 0 := by
              have n : ¬ 0 < waysN A (les d L) := fun z => c2 (by unfold okDay; rw [decide_eq_true c1, (waysN_fits _ _).mp z]; rfl)
              omega
            rw [List.length_eq_zero_iff.mp z, List.map_nil, List.nil_append]
            exact ih k h0 h1
        · rw [List.filter_cons_of_neg (p := fun d => decide (a ≤ d)) (by simpa using c1)]
          have ec : chsOf a A L (d :: M) = chsOf a A L M := by
            unfold chsOf
            rw [List.filter_cons_of_neg (fun z => by unfold okDay at z; rw [decide_eq_false c1] at z; cases z)]
          rw [ec] at h1 ⊢
          exact ih k h0 h1
    exact key (srt L) k h0 h1
/-- the number that is told of others -/
def numL : List Int → List Int → Int
  | a :: A, d :: E => (((chs a A (d :: E)).filter fun x => decide (x.1 < d)).map Prod.snd).sum + numL A E
  | _, _ => 0
theorem les_self {d : Int} {E : List Int} (nd : (d :: E).Nodup) : les d (d :: E) = E := by
  unfold les
  rw [List.filter_cons_of_neg (by simp), List.filter_eq_self]
  intro y hy
  have : y ≠ d := fun z => (List.nodup_cons.mp nd).1 (z ▸ hy)
  simpa using this
theorem cons_les {d : Int} {L : List Int} (nd : L.Nodup) (h : d ∈ L) : (d :: les d L).Perm L := by
  have : les d L = L.erase d := by
    rw [nd.erase_eq_filter]
    unfold les
    exact List.filter_congr fun y _ => by
      by_cases c : y = d
      · subst c; simp
      · simp [c]
  rw [this]
  exact (List.perm_cons_erase h).symm
theorem chs_asc {a : Int} {A L : List Int} (nd : L.Nodup) : ((chs a A L).map Prod.fst).Pairwise (· < ·) := by
  unfold chs chsOf
  rw [List.map_map]
  have e : (Prod.fst ∘ fun d => (d, waysN A (les d L))) = (id : Int → Int) := rfl
  rw [e, List.map_id]
  have h1 := (srt_asc L).filter (okDay a A L)
  have h2 : ((srt L).filter (okDay a A L)).Nodup := ((srt_perm L).nodup_iff.mpr nd).filter _
  exact (h1.and h2).imp fun ⟨x, y⟩ => by omega
theorem nth_num : ∀ {A L : List Int} {k : Int}, L.Nodup → A.length = L.length → 0 ≤ k → k < waysN A L → ((nthL A L k).map Prod.snd).Perm L ∧ numL A ((nthL A L k).map Prod.snd) = k
  | [], L, k, nd, hl, h0, h1 => by
    rw [waysN_nil] at h1
    have : L = [] := List.length_eq_zero_iff.mp hl.symm
    subst this
    exact ⟨List.Perm.refl _, by show (0 : Int) = k; omega⟩
  | a :: A, L, k, nd, hl, h0, h1 => by
    rw [← chs_sum nd] at h1
    obtain ⟨pre, w, post, e1, e2, e3, e4⟩ := pick_at h0 h1
    obtain ⟨h2, h3, h4, h5⟩ := chs_pos _ (show ((pickN (chs a A L) k).1, w) ∈ chs a A L from List.mem_iff_append.mpr ⟨pre, post, e1⟩)
    have hn : nthL (a :: A) L k = (a, (pickN (chs a A L) k).1) :: nthL A (les (pickN (chs a A L) k).1 L) (pickN (chs a A L) k).2 := rfl
    rw [hn]
    generalize hd : (pickN (chs a A L) k).1 = d at *
    generalize hk : (pickN (chs a A L) k).2 = k' at *
    have ll := les_len nd h3
    have hl' : A.length + 1 = L.length := hl
    obtain ⟨p1, p2⟩ := nth_num (A := A) (L := les d L) (k := k') (les_nodup nd) (by omega) e3 (by
      have h5 : w = waysN A (les d L) := h5
      omega)
    have pl : (d :: (nthL A (les d L) k').map Prod.snd).Perm L := (p1.cons d).trans (cons_les nd h3)
    refine ⟨pl, ?_⟩
    show (((chs a A (d :: (nthL A (les d L) k').map Prod.snd)).filter fun x => decide (x.1 < d)).map Prod.snd).sum + numL A ((nthL A (les d L) k').map Prod.snd) = k
    rw [p2, chs_perm pl]
    have asc := chs_asc (a := a) (A := A) nd
    rw [e1, List.map_append, List.map_cons] at asc
    obtain ⟨_, a2, a3⟩ := List.pairwise_append.mp asc
    have fl : (chs a A L).filter (fun x => decide (x.1 < d)) = pre := by
      rw [e1, List.filter_append]
      have f1 : pre.filter (fun x => decide (x.1 < d)) = pre := List.filter_eq_self.mpr fun x hx => decide_eq_true (a3 x.1 (List.mem_map.mpr ⟨x, hx, rfl⟩) d (by simp))
      have f2 : ((d, w) :: post).filter (fun x => decide (x.1 < d)) = [] := List.filter_eq_nil_iff.mpr fun x hx => by
        rcases List.mem_cons.mp hx with rfl | hx
        · simp
        · have := (List.pairwise_cons.mp a2).1 x.1 (List.mem_map.mpr ⟨x, hx, rfl⟩)
          simp; omega
      rw [f1, f2, List.append_nil]
    rw [fl]
    omega
/-! all of a lot, found guest by guest -/
def extP (a : Int) (L : List Int) (p : List (Int × Int)) : List (List (Int × Int)) := ((srt L).filter fun d => decide (a ≤ d) && !decide (d ∈ p.map Prod.snd)).map fun d => p ++ [(a, d)]
def bfs : List Int → List Int → List (List (Int × Int)) → List (List (Int × Int))
  | [], _, Ps => Ps
  | a :: A, L, Ps => bfs A L (Ps.flatMap (extP a L))
def lack (L : List Int) (p : List (Int × Int)) : List Int := L.filter fun d => !decide (d ∈ p.map Prod.snd)
theorem bfs_lot : ∀ (A L : List Int) (Ps : List (List (Int × Int))), bfs A L Ps = Ps.flatMap fun p => (lotL A (lack L p)).map fun r => p ++ r
  | [], L, Ps => by
    show Ps = Ps.flatMap fun p => [p ++ []]
    have e : (fun p : List (Int × Int) => [p ++ []]) = fun p => [p] := by funext p; rw [List.append_nil]
    rw [e, List.flatMap_singleton']
  | a :: A, L, Ps => by
    show bfs A L (Ps.flatMap (extP a L)) = _
    rw [bfs_lot A L, List.flatMap_assoc]
    congr 1
    funext p
    show ((((srt L).filter fun d => decide (a ≤ d) && !decide (d ∈ p.map Prod.snd)).map fun d => p ++ [(a, d)]).flatMap fun q => (lotL A (lack L q)).map fun r => q ++ r) = (((srt (lack L p)).filter fun d => decide (a ≤ d)).flatMap fun d => (lotL A (les d (lack L p))).map fun r => (a, d) :: r).map fun r => p ++ r
    have es : (srt (lack L p)).filter (fun d => decide (a ≤ d)) = (srt L).filter fun d => decide (a ≤ d) && !decide (d ∈ p.map Prod.snd) := by
      unfold lack
      rw [srt_filter, List.filter_filter]
    rw [es, List.map_flatMap, List.flatMap_map]
    congr 1
    funext d
    have el : lack L (p ++ [(a, d)]) = les d (lack L p) := by
      unfold lack les
      rw [List.filter_filter]
      refine List.filter_congr fun y _ => ?_
      rw [List.map_append, List.map_cons, List.map_nil]
      by_cases h1 : y = d
      · subst h1; simp
      · by_cases h2 : y ∈ p.map Prod.snd
        · rw [decide_eq_true h2, decide_eq_true (List.mem_append.mpr (Or.inl h2))]; simp
        · rw [decide_eq_false h2, decide_eq_false (fun z => by
            rcases List.mem_append.mp z with z | z
            · exact h2 z
            · exact h1 (List.mem_singleton.mp z)), decide_eq_false h1]; rfl
    rw [el, List.map_map]
    congr 1
    funext r
    show p ++ [(a, d)] ++ r = p ++ ((a, d) :: r)
    rw [List.append_assoc]; rfl
theorem bfs_all (A L : List Int) : bfs A L [[]] = lotL A L := by
  rw [bfs_lot]
  have : lack L [] = L := by unfold lack; exact List.filter_eq_self.mpr fun y _ => by simp
  show (lotL A (lack L [])).map (fun r => [] ++ r) ++ [] = _
  rw [this, List.append_nil]
  exact List.map_id' _
/-! mates, options -/
def ar (l : List (Int × Int)) (m : Nat) : Int := (l.getD m (0, 0)).1
def lv (l : List (Int × Int)) (m : Nat) : Int := (l.getD m (0, 0)).2
theorem ar_at {l : List (Int × Int)} {m : Nat} {p : Int × Int} (h : l[m]? = some p) : ar l m = p.1 := by unfold ar; rw [List.getD_eq_getElem?_getD, h]; rfl
theorem lv_at {l : List (Int × Int)} {m : Nat} {p : Int × Int} (h : l[m]? = some p) : lv l m = p.2 := by unfold lv; rw [List.getD_eq_getElem?_getD, h]; rfl
/-- x comes ahead of y -/
def aheadB (l : List (Int × Int)) (x y : Nat) : Bool := decide (ar l x < ar l y) || (decide (ar l x = ar l y) && decide (x < y))
theorem ahead_iff {l : List (Int × Int)} {x y : Nat} : aheadB l x y = true ↔ ar l x < ar l y ∨ (ar l x = ar l y ∧ x < y) := by
  unfold aheadB
  rw [Bool.or_eq_true, Bool.and_eq_true, decide_eq_true_eq, decide_eq_true_eq, decide_eq_true_eq]
theorem ahead_not {l : List (Int × Int)} {x y : Nat} : aheadB l x y = false ↔ ¬ (ar l x < ar l y ∨ (ar l x = ar l y ∧ x < y)) := by
  rw [← ahead_iff]; cases aheadB l x y <;> simp
def matesL (l : List (Int × Int)) (g : Nat) : List Nat := (List.range l.length).filter fun m => aheadB l m g && decide (ar l g ≤ lv l m)
def optN (l : List (Int × Int)) (g : Nat) : Int := ((matesL l g).length : Int) + 1
/-- the guests in the order of arrival -/
def OrdQ (l : List (Int × Int)) (q : List Nat) : Prop := q.Perm (List.range l.length) ∧ q.Pairwise fun x y => aheadB l x y = true
def prodI : List Int → Int
  | [] => 1
  | x :: l => x * prodI l
theorem prodI_perm {l l' : List Int} (p : l.Perm l') : prodI l = prodI l' := by
  induction p with
  | nil => rfl
  | cons x _ ih => show x * _ = x * _; rw [ih]
  | swap x y l => show _ * (_ * _) = _ * (_ * _); rw [← Int.mul_assoc, ← Int.mul_assoc, Int.mul_comm y x]
  | trans _ _ h1 h2 => exact h1.trans h2
theorem prodI_app : ∀ (l l' : List Int), prodI (l ++ l') = prodI l * prodI l'
  | [], l' => by show prodI l' = 1 * prodI l'; rw [Int.one_mul]
  | x :: l, l' => by show x * prodI (l ++ l') = x * prodI l * prodI l'; rw [prodI_app, Int.mul_assoc]
theorem cut_two {α : Type} (p q : α → Bool) : ∀ l : List α, (l.filter p).length = (l.filter fun x => p x && q x).length + (l.filter fun x => p x && !q x).length
  | [] => rfl
  | x :: l => by
    have ih := cut_two p q l
    cases h1 : p x <;> cases h2 : q x <;> simp [List.filter_cons, h1, h2] <;> omega
theorem len_filter_perm {α : Type} {p : α → Bool} {l l' : List α} (h : l.Perm l') : (l.filter p).length = (l'.filter p).length := (h.filter p).length_eq
theorem ge_days (l : List (Int × Int)) (x : Int) : ge x (l.map Prod.snd) = ((List.range l.length).filter fun m => decide (x ≤ lv l m)).length := by
  have e : l.map Prod.snd = (List.range l.length).map (lv l) := by
    refine List.ext_getElem? fun i => ?_
    rw [List.getElem?_map, List.getElem?_map]
    by_cases c : i < l.length
    · rw [List.getElem?_range c, List.getElem?_eq_getElem c]
      show some (l[i].2) = some (lv l i)
      rw [lv_at (List.getElem?_eq_getElem c)]
    · rw [List.getElem?_eq_none (l := l) (by omega), List.getElem?_eq_none (l := List.range l.length) (by rw [List.length_range]; omega)]; rfl
  unfold ge
  rw [e, List.filter_map, List.length_map]
  rfl
theorem map_ar (l : List (Int × Int)) : (List.range l.length).map (ar l) = l.map Prod.fst := by
  refine List.ext_getElem? fun i => ?_
  rw [List.getElem?_map, List.getElem?_map]
  by_cases c : i < l.length
  · rw [List.getElem?_range c, List.getElem?_eq_getElem c]
    show some (ar l i) = some (l[i].1)
    rw [ar_at (List.getElem?_eq_getElem c)]
  · rw [List.getElem?_eq_none (l := l) (by omega), List.getElem?_eq_none (l := List.range l.length) (by rw [List.length_range]; omega)]; rfl
theorem filter_one {g : Nat} : ∀ {l : List Nat}, l.Nodup → g ∈ l → l.filter (fun m => decide (m = g)) = [g]
  | [], _, h => absurd h (by simp)
  | x :: l, nd, h => by
    obtain ⟨n1, n2⟩ := List.nodup_cons.mp nd
    by_cases c : x = g
    · subst c
      rw [List.filter_cons_of_pos (by simp), List.filter_eq_nil_iff.mpr fun y hy => by
        have : y ≠ x := fun z => n1 (z ▸ hy)
        simpa using this]
    · rw [List.filter_cons_of_neg (by simpa using c)]
      refine filter_one n2 ?_
      rcases List.mem_cons.mp h with z | z
      · exact absurd z.symm c
      · exact z
theorem opt_ge {l : List (Int × Int)} (hl : ∀ p ∈ l, p.1 ≤ p.2) {g : Nat} (hg : g < l.length) : (ge (ar l g) (l.map Prod.snd) : Int) = ((List.range l.length).filter fun m => aheadB l g m).length + optN l g := by
  have lt : ∀ m, m < l.length → ar l m ≤ lv l m := fun m hm => by
    rw [ar_at (List.getElem?_eq_getElem hm), lv_at (List.getElem?_eq_getElem hm)]
    exact hl _ (List.getElem_mem hm)
  rw [ge_days, cut_two (fun m => decide (ar l g ≤ lv l m)) (fun m => aheadB l g m)]
  have e1 : (List.range l.length).filter (fun m => decide (ar l g ≤ lv l m) && aheadB l g m) = (List.range l.length).filter fun m => aheadB l g m := List.filter_congr fun m hm => by
    by_cases c : aheadB l g m = true
    · have h := ahead_iff.mp c
      have h2 := lt m (List.mem_range.mp hm)
      rw [c, decide_eq_true (by omega)]; rfl
    · rw [Bool.not_eq_true] at c
      rw [c, Bool.and_false]
  rw [e1, cut_two (fun m => decide (ar l g ≤ lv l m) && !aheadB l g m) (fun m => decide (m = g)) (List.range l.length)]
  have e2 : (List.range l.length).filter (fun m => (decide (ar l g ≤ lv l m) && !aheadB l g m) && decide (m = g)) = [g] := by
    have e : (List.range l.length).filter (fun m => (decide (ar l g ≤ lv l m) && !aheadB l g m) && decide (m = g)) = (List.range l.length).filter (fun m => decide (m = g)) := List.filter_congr fun m hm => by
      by_cases c : m = g
      · subst c
        have : aheadB l m m = false := ahead_not.mpr (by omega)
        rw [decide_eq_true (lt m hg), this]; simp
      · rw [decide_eq_false c]; simp
    rw [e, filter_one List.nodup_range (List.mem_range.mpr hg)]
  have e3 : (List.range l.length).filter (fun m => (decide (ar l g ≤ lv l m) && !aheadB l g m) && !decide (m = g)) = matesL l g := List.filter_congr fun m hm => by
    by_cases c : aheadB l m g = true
    · have h := ahead_iff.mp c
      have h2 : aheadB l g m = false := ahead_not.mpr (by omega)
      have h3 : m ≠ g := fun z => by subst z; omega
      rw [c, h2, decide_eq_false h3]
      simp
    · rw [Bool.not_eq_true] at c
      have h := ahead_not.mp c
      rw [c, Bool.false_and]
      by_cases c2 : m = g
      · rw [decide_eq_true c2]; simp
      · have h2 : aheadB l g m = true := ahead_iff.mpr (by omega)
        rw [h2]; simp
  rw [e2, e3]
  unfold optN
  show ((_ + (1 + _) : Nat) : Int) = _
  omega
/-- the lot is as large as the product of the options -/
theorem opt_prod {l : List (Int × Int)} (hl : ∀ p ∈ l, p.1 ≤ p.2) {q : List Nat} (hq : OrdQ l q) : prodI ((List.range l.length).map (optN l)) = waysN (l.map Prod.fst) (l.map Prod.snd) := by
  have hr : q.reverse.Perm (List.range l.length) := (List.reverse_perm q).trans hq.1
  have hs : q.reverse.Pairwise fun x y => aheadB l y x = true := List.pairwise_reverse.mpr hq.2
  have key : ∀ (post pre : List Nat), q.reverse = pre ++ post → prodK (l.map Prod.snd) pre.length (post.map (ar l)) = prodI (post.map (optN l)) := by
    intro post
    induction post with
    | nil => intro pre _; rfl
    | cons g post ih =>
      intro pre e
      have gm : g ∈ q.reverse := by rw [e]; simp
      have hg : g < l.length := List.mem_range.mp (hr.mem_iff.mp gm)
      have h1 := ih (pre ++ [g]) (by rw [e, List.append_assoc]; rfl)
      rw [List.length_append, List.length_singleton] at h1
      show max 0 ((ge (ar l g) (l.map Prod.snd) : Int) - (pre.length : Int)) * _ = optN l g * _
      rw [h1]
      congr 1
      rw [opt_ge hl hg]
      have cnt : ((List.range l.length).filter fun m => aheadB l g m).length = pre.length := by
        rw [← len_filter_perm hr, e, List.filter_append, List.length_append]
        rw [e] at hs
        obtain ⟨s1, s2, s3⟩ := List.pairwise_append.mp hs
        have f1 : pre.filter (fun m => aheadB l g m) = pre := List.filter_eq_self.mpr fun x hx => s3 x hx g List.mem_cons_self
        have f2 : (g :: post).filter (fun m => aheadB l g m) = [] := List.filter_eq_nil_iff.mpr fun x hx => by
          rw [Bool.not_eq_true]
          rcases List.mem_cons.mp hx with rfl | hx
          · exact ahead_not.mpr (by omega)
          · have h := ahead_iff.mp ((List.pairwise_cons.mp s2).1 x hx)
            exact ahead_not.mpr (by omega)
        rw [f1, f2]; rfl
      rw [cnt]
      have : 0 ≤ optN l g := by unfold optN; omega
      omega
  have k := key q.reverse [] rfl
  have ed : q.reverse.map (ar l) = dsc (l.map Prod.fst) := by
    refine dsc_one ?_ ?_
    · rw [← map_ar]; exact hr.map _
    · rw [List.pairwise_map]
      exact hs.imp fun {x y} h => by
        have := ahead_iff.mp h
        omega
  rw [ed] at k
  unfold waysN
  rw [prodA_eq]
  rw [show (0 : Nat) = ([] : List Nat).length from rfl, k]
  exact prodI_perm (hr.symm.map _)
theorem ordQ_ex (l : List (Int × Int)) : ∃ q, OrdQ l q := by
  refine ⟨(List.range l.length).mergeSort (fun x y => aheadB l x y || decide (x = y)), List.mergeSort_perm _ _, ?_⟩
  have h1 := List.pairwise_mergeSort (le := fun x y => aheadB l x y || decide (x = y)) (fun a b c h1 h2 => by
    rw [Bool.or_eq_true, ahead_iff, decide_eq_true_eq] at *
    rcases h1 with h1 | rfl
    · rcases h2 with h2 | rfl
      · exact Or.inl (by omega)
      · exact Or.inl h1
    · exact h2) (fun a b => by
    rw [Bool.or_eq_true, Bool.or_eq_true, Bool.or_eq_true, ahead_iff, ahead_iff, decide_eq_true_eq, decide_eq_true_eq]; omega) (List.range l.length)
  have h2 : ((List.range l.length).mergeSort (fun x y => aheadB l x y || decide (x = y))).Nodup := (List.mergeSort_perm _ _).nodup_iff.mpr List.nodup_range
  exact (h1.and h2).imp fun {x y} ⟨a, b⟩ => by
    rw [Bool.or_eq_true, decide_eq_true_eq] at a
    rcases a with a | a
    · exact a
    · exact absurd a b
theorem nthL_perm : ∀ (A : List Int) {L L' : List Int} (k : Int), L.Perm L' → nthL A L k = nthL A L' k
  | [], _, _, _, _ => rfl
  | a :: A, L, L', k, p => by
    show (a, _) :: nthL A _ _ = (a, _) :: nthL A _ _
    rw [chs_perm p, nthL_perm A _ (les_perm p)]
theorem nthL_ord : ∀ {A L : List Int} {k : Int}, L.Nodup → 0 ≤ k → k < waysN A L → ∀ p ∈ nthL A L k, p.1 ≤ p.2
  | [], _, _, _, _, _, p, hp => absurd hp (by show ¬ p ∈ []; simp)
  | a :: A, L, k, nd, h0, h1, p, hp => by
    rw [← chs_sum nd] at h1
    obtain ⟨pre, w, post, e1, e2, e3, e4⟩ := pick_at h0 h1
    obtain ⟨h2, h3, h4, h5⟩ := chs_pos _ (show ((pickN (chs a A L) k).1, w) ∈ chs a A L from List.mem_iff_append.mpr ⟨pre, post, e1⟩)
    have hp : p ∈ (a, (pickN (chs a A L) k).1) :: nthL A (les (pickN (chs a A L) k).1 L) (pickN (chs a A L) k).2 := hp
    rcases List.mem_cons.mp hp with rfl | hp
    · exact h4
    · refine nthL_ord (les_nodup nd) e3 ?_ p hp
      have h5 : w = waysN A (les (pickN (chs a A L) k).1 L) := h5
      omega
theorem ge_line {x : Int} : ∀ {l : List (Int × Int)}, (∀ p ∈ l, p.1 ≤ p.2) → ge x (l.map Prod.fst) ≤ ge x (l.map Prod.snd)
  | [], _ => Nat.le_refl _
  | p :: l, h => by
    have ih := ge_line (x := x) fun q hq => h q (List.mem_cons_of_mem _ hq)
    have hp := h p List.mem_cons_self
    rw [List.map_cons, List.map_cons, ge_cons, ge_cons]
    by_cases c : x ≤ p.1
    · rw [if_pos c, if_pos (by omega)]; omega
    · rw [if_neg c]; omega
theorem ways_pos {l : List (Int × Int)} (h : ∀ p ∈ l, p.1 ≤ p.2) : 0 < waysN (l.map Prod.fst) (l.map Prod.snd) := (waysN_fits _ _).mpr (fitsB_iff.mpr fun x _ => ge_line h)
theorem ways_small {A L : List Int} {B : Nat} (hL : L.length < 2 ^ B) : (waysN A L).natAbs < 2 ^ (B * A.length + 1) := by
  have := prodA_small (S := dsc A) hL (dsc A).length (Nat.le_refl _)
  rw [List.take_length, (dsc_perm A).length_eq] at this
  exact this
theorem gmono_seq {K : PySem.W.Frag} {gs : TGs} {k : Nat} (m2 : ∀ v σ H Q Q', (∀ a b, Q a b → Q' a b) → gs v σ H Q → gs v σ H Q') : ∀ v σ H Q Q', (∀ a b, Q a b → Q' a b) → gSeq K k gs v σ H Q → gSeq K k gs v σ H Q' := fun v σ H Q Q' k h => by
  rcases h with ⟨a, xs, e, h1, h2, q⟩ | ⟨a, xs, e, h1, h2, q⟩
  · exact Or.inl ⟨a, xs, e, h1, h2, m2 _ _ _ _ _ k q⟩
  · exact Or.inr ⟨a, xs, e, h1, h2, m2 _ _ _ _ _ k q⟩
def natD (m : Nat) : D := .int (m : Int)
def C_arrivals_of : DCon := fun b ds n P PX => ∃ d l, ds = [d] ∧ Ln d l ∧ l.length ≤ 1000 ∧ P (.lst ((l.map Prod.fst).map D.int)) n
def C_days_of : DCon := fun b ds n P PX => ∃ d l, ds = [d] ∧ Ln d l ∧ l.length ≤ 1000 ∧ P (.lst ((l.map Prod.snd).map D.int)) n
def C_guests_on : DCon := fun b ds n P PX => ∃ d l x, ds = [d, .int x] ∧ Ln d l ∧ l.length ≤ 1000 ∧ P (.lst (((List.range l.length).filter fun m => decide (ar l m ≤ x) && decide (x ≤ lv l m)).map natD)) n
def C_options : DCon := fun b ds n P PX => ∃ d l, ds = [d] ∧ Ln d l ∧ l.length ≤ 100 ∧ P (.tup ((List.range l.length).map fun g => D.int (optN l g))) n
def C_lot_many : DCon := fun b ds n P PX => ∃ d l, ds = [d] ∧ Ln d l ∧ l.length ≤ 100 ∧ (∀ p ∈ l, p.1 ≤ p.2) ∧ P (.int (waysN (l.map Prod.fst) (l.map Prod.snd))) n
theorem opt_small {l : List (Int × Int)} (hl : l.length ≤ 100) (g : Nat) : (optN l g).natAbs < 2 ^ 7 := by
  unfold optN matesL
  have := List.length_filter_le (fun m => aheadB l m g && decide (ar l g ≤ lv l m)) (List.range l.length)
  rw [List.length_range] at this
  omega
theorem prodI_small {l : List (Int × Int)} (hl : l.length ≤ 100) : ∀ G : List Nat, (prodI (G.map (optN l))).natAbs < 2 ^ (7 * G.length + 1)
  | [] => by show (1 : Int).natAbs < 2 ^ (7 * 0 + 1); decide
  | g :: G => by
    show (optN l g * prodI (G.map (optN l))).natAbs < _
    rw [Int.natAbs_mul]
    have e : 7 * (g :: G).length + 1 = 7 + (7 * G.length + 1) := by rw [List.length_cons]; omega
    rw [e, Nat.pow_add]
    exact Nat.mul_lt_mul'' (opt_small hl g) (prodI_small hl G)
theorem lex_two (a b c d : Int) : HT.lexLt [a, b] [c, d] = (decide (a < c) || (decide (a = c) && decide (b < d))) := by
  rw [HT.lexLt_cons]
  by_cases h : a = c
  · subst h
    rw [if_pos rfl, HT.lexLt_cons]
    by_cases h2 : b = d
    · subst h2
      rw [if_pos rfl]; simp [HT.lexLt_nil_nil]
    · rw [if_neg h2]; simp
  · rw [if_neg h]; simp [h]
def okG (l : List (Int × Int)) (g : Int) : Prop := 0 ≤ g ∧ g < (l.length : Int)
theorem okG.get {l : List (Int × Int)} {g : Int} (h : okG l g) : ∃ p, l[g.toNat]? = some p := by
  have : g.toNat < l.length := by
    obtain ⟨h0, h1⟩ := h
    omega
  exact ⟨l[g.toNat], by simp [this]⟩
def okB (l : List (Int × Int)) (g : Int) : Bool := decide (0 ≤ g) && decide (g < (l.length : Int))
theorem okB_iff {l : List (Int × Int)} {g : Int} : okB l g = true ↔ okG l g := by
  unfold okB okG
  rw [Bool.and_eq_true, decide_eq_true_eq, decide_eq_true_eq]
/-- one exchange, a row of exchanges -/
def stepL (l : List (Int × Int)) (x : Int × Int) : Option (List (Int × Int)) := match l[x.1.toNat]?, l[x.2.toNat]? with
  | some p, some q => if okB l x.1 && okB l x.2 && decide (x.1 ≠ x.2) && meets p q then some (swapL l x.1.toNat x.2.toNat p q) else none
  | _, _ => none
def runL : List (Int × Int) → List (Int × Int) → Option (List (Int × Int))
  | l, [] => some l
  | l, x :: ps => (stepL l x).bind fun l' => runL l' ps
abbrev C_l_take : DCon := C_take 6
def C_l_meet : DCon := fun b ds n P PX => ∃ d e p q, ds = [d, e] ∧ Pr d p ∧ Pr e q ∧ P (.bl (decide (max p.1 q.1 ≤ min p.2 q.2))) n
def C_l_swap : DCon := fun b ds n P PX => ∃ l i j p q, ds = [.tup (l.map pr), .int i, .int j] ∧ l.length ≤ 100000 ∧ 0 ≤ i ∧ 0 ≤ j ∧ l[i.toNat]? = some p ∧ l[j.toNat]? = some q ∧ P (.tup ((swapL l i.toNat j.toNat p q).map pr)) n
def C_l_of : DCon := fun b ds n P PX => ∃ a d xs, b = some a ∧ ds = [.raw (.ref a), d] ∧ (d = .lst xs ∨ d = .tup xs) ∧ 0 < xs.length ∧ xs.length ≤ 100000 ∧ n + 128 ≤ 2 ^ 40 ∧ ∀ (i : Nat) x m, xs[i]? = some x → n ≤ m → m ≤ n + 128 → P x m
mutual
def softD : D → D
  | .lst xs => .lst (softDs xs)
  | .tup xs => .lst (softDs xs)
  | .non => .non
  | .bl b => .bl b
  | .int i => .int i
  | .str s => .str s
  | .raw v => .raw v
  | .exc c f => .exc c f
def softDs : List D → List D
  | [] => []
  | x :: xs => softD x :: softDs xs
end
theorem softDs_eq : ∀ xs : List D, softDs xs = xs.map softD
  | [] => by simp [softDs]
  | x :: xs => by simp [softDs, softDs_eq xs]
theorem softD_seq {d : D} {xs : List D} (h : d = .lst xs ∨ d = .tup xs) : softD d = .lst (xs.map softD) := by
  rcases h with rfl | rfl <;> simp [softD, softDs_eq]
theorem softD_line (l : List (Int × Int)) : softD (.tup (l.map pr)) = .lst (l.map prL) := by
  rw [softD_seq (Or.inr rfl), List.map_map]
  congr 1
def scal (d : D) : Prop := d = .non ∨ (∃ b, d = .bl b) ∨ (∃ i, d = .int i) ∨ ∃ s, d = .str s
def Dep : Nat → D → Prop
  | 0, d => scal d
  | k + 1, d => scal d ∨ ∃ xs, (d = .lst xs ∨ d = .tup xs) ∧ xs.length ≤ 100000 ∧ ∀ (i : Nat) x, xs[i]? = some x → Dep k x
theorem soft_scal {d : D} (h : scal d) : softD d = d := by
  rcases h with rfl | ⟨b, rfl⟩ | ⟨b, rfl⟩ | ⟨b, rfl⟩ <;> simp [softD]
theorem Dep.int {k : Nat} {i : Int} : Dep k (.int i) := by
  cases k with
  | zero => exact Or.inr (Or.inr (Or.inl ⟨i, rfl⟩))
  | succ k => exact Or.inl (Or.inr (Or.inr (Or.inl ⟨i, rfl⟩)))
theorem Dep.lst {k : Nat} {xs : List D} (hl : xs.length ≤ 100000) (h : ∀ x ∈ xs, Dep k x) : Dep (k + 1) (.lst xs) := Or.inr ⟨xs, Or.inl rfl, hl, fun i x e => h x (List.mem_of_getElem? e)⟩
theorem Dep.tup {k : Nat} {xs : List D} (hl : xs.length ≤ 100000) (h : ∀ x ∈ xs, Dep k x) : Dep (k + 1) (.tup xs) := Or.inr ⟨xs, Or.inr rfl, hl, fun i x e => h x (List.mem_of_getElem? e)⟩
theorem Dep.pr {k : Nat} {p : Int × Int} : Dep (k + 1) (pr p) := Dep.tup (Nat.le_of_ble_eq_true rfl) fun x h => by
  rcases List.mem_cons.mp h with rfl | h
  · exact Dep.int
  · rcases List.mem_cons.mp h with rfl | h
    · exact Dep.int
    · simp at h
theorem Dep.prL {k : Nat} {p : Int × Int} : Dep (k + 1) (prL p) := Dep.lst (Nat.le_of_ble_eq_true rfl) fun x h => by
  rcases List.mem_cons.mp h with rfl | h
  · exact Dep.int
  · rcases List.mem_cons.mp h with rfl | h
    · exact Dep.int
    · simp at h
theorem Dep.tupP {k : Nat} {l : List (Int × Int)} (hl : l.length ≤ 100000) : Dep (k + 2) (.tup (l.map DL.pr)) := Dep.tup (by simpa using hl) fun x h => by
  obtain ⟨p, _, rfl⟩ := List.mem_map.mp h
  exact Dep.pr
theorem Dep.lstP {k : Nat} {l : List (Int × Int)} (hl : l.length ≤ 100000) : Dep (k + 2) (.lst (l.map DL.pr)) := Dep.lst (by simpa using hl) fun x h => by
  obtain ⟨p, _, rfl⟩ := List.mem_map.mp h
  exact Dep.pr
theorem Dep.lstL {k : Nat} {l : List (Int × Int)} (hl : l.length ≤ 100000) : Dep (k + 2) (.lst (l.map DL.prL)) := Dep.lst (by simpa using hl) fun x h => by
  obtain ⟨p, _, rfl⟩ := List.mem_map.mp h
  exact Dep.prL
theorem Dep.plain {k : Nat} {d : D} (h : Dep k d) : plainD d = true := by
  have sc : scal d → plainD d = true := fun h => by rcases h with rfl | ⟨b, rfl⟩ | ⟨b, rfl⟩ | ⟨b, rfl⟩ <;> rfl
  cases k with
  | zero => exact sc h
  | succ k =>
    rcases h with h | ⟨xs, rfl | rfl, _, _⟩
    · exact sc h
    · rfl
    · rfl
def C_lists (k : Nat) : DCon := fun b ds n P PX => ∃ d, ds = [d] ∧ Dep k d ∧ P (softD d) n
def C_same (k : Nat) : DCon := fun b ds n P PX => ∃ d, ds = [d, d] ∧ Dep k d ∧ P (.bl true) n
abbrev C_l_lists : DCon := C_lists 3
abbrev C_l_same : DCon := C_same 3
/-- two ascending lists with the same members -/
theorem asc_eq {α : Type} {lt : α → α → Prop} (irr : ∀ x, ¬ lt x x) (asy : ∀ x y, lt x y → ¬ lt y x) : ∀ (l1 l2 : List α), l1.Pairwise lt → l2.Pairwise lt → (∀ x, x ∈ l1 ↔ x ∈ l2) → l1 = l2
  | [], [], _, _, _ => rfl
  | [], b :: t, _, _, h => by have := (h b).mpr List.mem_cons_self; simp at this
  | a :: t, [], _, _, h => by have := (h a).mp List.mem_cons_self; simp at this
  | a :: t, b :: u, h1, h2, h => by
    obtain ⟨g1, g1'⟩ := List.pairwise_cons.mp h1
    obtain ⟨g2, g2'⟩ := List.pairwise_cons.mp h2
    have e : a = b := by
      rcases List.mem_cons.mp ((h a).mp List.mem_cons_self) with e | m
      · exact e
      · rcases List.mem_cons.mp ((h b).mpr List.mem_cons_self) with e | m'
        · exact e.symm
        · exact absurd (g1 b m') (asy _ _ (g2 a m))
    subst e
    rw [asc_eq irr asy t u g1' g2' fun x => ⟨fun m => ?_, fun m => ?_⟩]
    · rcases List.mem_cons.mp ((h x).mp (List.mem_cons_of_mem _ m)) with e | m'
      · subst e; exact absurd (g1 x m) (irr x)
      · exact m'
    · rcases List.mem_cons.mp ((h x).mpr (List.mem_cons_of_mem _ m)) with e | m'
      · subst e; exact absurd (g2 x m) (irr x)
      · exact m'
def meetAt (l : List (Int × Int)) (i j : Nat) : Bool := match l[i]?, l[j]? with | some p, some q => meets p q | _, _ => false
/-- the pairs, in the order in which the law finds them -/
def cols (l : List (Int × Int)) (k : Nat) : List (Int × Int) := (List.range k).flatMap fun s => ((List.range s).filter fun a => meetAt l a s).map fun a : Nat => ((a : Int), (s : Int))
def ltP (x y : Int × Int) : Prop := SrtO.lexB x y = true
theorem ltP_irr (x : Int × Int) : ¬ ltP x x := fun h => by have := SrtO.lexB_iff.mp h; omega
theorem ltP_asy (x y : Int × Int) (h : ltP x y) : ¬ ltP y x := fun g => by
  have := SrtO.lexB_iff.mp h
  have := SrtO.lexB_iff.mp g
  omega
theorem mem_duos {l : List (Int × Int)} {x : Int × Int} : x ∈ duos l ↔ ∃ i j : Nat, i < j ∧ j < l.length ∧ meetAt l i j = true ∧ x = ((i : Int), (j : Int)) := by
  unfold duos
  simp only [List.mem_flatMap, List.mem_map, List.mem_filter, List.mem_range]
  constructor
  · rintro ⟨i, hi, k, ⟨hk, hm⟩, rfl⟩
    exact ⟨i, i + 1 + k, by omega, by omega, hm, rfl⟩
  · rintro ⟨i, j, h1, h2, h3, rfl⟩
    have e : j = i + 1 + (j - (i + 1)) := by omega
    exact ⟨i, by omega, j - (i + 1), ⟨by omega, by rw [← e]; exact h3⟩, by rw [← e]⟩
theorem mem_cols {l : List (Int × Int)} {x : Int × Int} : x ∈ cols l l.length ↔ ∃ i j : Nat, i < j ∧ j < l.length ∧ meetAt l i j = true ∧ x = ((i : Int), (j : Int)) := by
  unfold cols
  simp only [List.mem_flatMap, List.mem_map, List.mem_filter, List.mem_range]
  constructor
  · rintro ⟨j, hj, i, ⟨hk, hm⟩, rfl⟩
    exact ⟨i, j, hk, hj, hm, rfl⟩
  · rintro ⟨i, j, h1, h2, h3, rfl⟩
    exact ⟨j, h2, i, ⟨h1, h3⟩, rfl⟩
theorem cols_succ {l : List (Int × Int)} {k : Nat} : cols l (k + 1) = cols l k ++ ((List.range k).filter fun a => meetAt l a k).map fun a : Nat => ((a : Int), (k : Int)) := by
  unfold cols
  rw [List.range_succ, List.flatMap_append]
  simp
theorem cols_len {l : List (Int × Int)} : ∀ {k : Nat}, k ≤ 300 → (cols l k).length ≤ k * 300
  | 0, _ => by simp [cols]
  | k + 1, h => by
    rw [cols_succ, List.length_append, List.length_map]
    have := cols_len (l := l) (k := k) (by omega)
    have := List.length_filter_le (fun a => meetAt l a k) (List.range k)
    simp at this
    omega
theorem asc_duos (l : List (Int × Int)) : (duos l).Pairwise ltP := by
  unfold duos
  rw [List.pairwise_flatMap]
  refine ⟨fun i _ => ?_, ?_⟩
  · rw [List.pairwise_map]
    refine List.Pairwise.imp ?_ (List.Pairwise.filter _ List.pairwise_lt_range)
    intro a b h
    refine SrtO.lexB_iff.mpr (Or.inr ⟨rfl, ?_⟩)
    show ((i + 1 + a : Nat) : Int) < ((i + 1 + b : Nat) : Int)
    omega
  · refine List.Pairwise.imp ?_ List.pairwise_lt_range
    intro a b h x hx y hy
    obtain ⟨_, _, rfl⟩ := List.mem_map.mp hx
    obtain ⟨_, _, rfl⟩ := List.mem_map.mp hy
    refine SrtO.lexB_iff.mpr (Or.inl ?_)
    show (a : Int) < (b : Int)
    omega
theorem nodup_cols (l : List (Int × Int)) (k : Nat) : (cols l k).Nodup := by
  unfold cols List.Nodup
  rw [List.pairwise_flatMap]
  refine ⟨fun i _ => ?_, ?_⟩
  · rw [List.pairwise_map]
    refine List.Pairwise.imp ?_ (List.Pairwise.filter _ List.pairwise_lt_range)
    intro a b h e
    have : (a : Int) = (b : Int) := congrArg Prod.fst e
    omega
  · refine List.Pairwise.imp ?_ List.pairwise_lt_range
    intro a b h x hx y hy e
    obtain ⟨_, _, rfl⟩ := List.mem_map.mp hx
    obtain ⟨_, _, rfl⟩ := List.mem_map.mp hy
    have : (a : Int) = (b : Int) := congrArg Prod.snd e
    omega
theorem sorted_cols {l l' : List (Int × Int)} (hp : l'.Perm (cols l l.length)) (hs : l'.Pairwise fun x y => SrtO.lexB y x = false) : l' = duos l := by
  have nd : l'.Nodup := hp.nodup_iff.mpr (nodup_cols l _)
  refine asc_eq ltP_irr ltP_asy l' (duos l) ?_ (asc_duos l) fun x => ?_
  · refine List.Pairwise.imp ?_ (hs.and nd)
    rintro x y ⟨h1, h2⟩
    refine SrtO.lexB_iff.mpr ?_
    have h3 : ¬ (y.1 < x.1 ∨ (y.1 = x.1 ∧ y.2 < x.2)) := fun z => by rw [SrtO.lexB_iff.mpr z] at h1; cases h1
    by_cases e1 : x.1 = y.1
    · by_cases e2 : x.2 = y.2
      · exact absurd (Prod.ext e1 e2) h2
      · omega
    · omega
  · rw [hp.mem_iff, mem_cols, mem_duos]
theorem max_min_meets (p q : Int × Int) (h1 : p.1 ≤ p.2) (h2 : q.1 ≤ q.2) : decide (max p.1 q.1 ≤ min p.2 q.2) = meets p q := by
  unfold meets
  by_cases a : p.1 ≤ q.2 <;> by_cases b : q.1 ≤ p.2
  · rw [decide_eq_true a, decide_eq_true b]
    exact decide_eq_true (by omega)
  · rw [decide_eq_true a, decide_eq_false b]
    exact decide_eq_false (by omega)
  · rw [decide_eq_false a, decide_eq_true b]
    exact decide_eq_false (by omega)
  · rw [decide_eq_false a, decide_eq_false b]
    exact decide_eq_false (by omega)
/-- stays: leaving days all different -/
def Days (M : Int) (l : List (Int × Int)) : Prop := (∀ p ∈ l, 0 ≤ p.1 ∧ p.1 ≤ p.2 ∧ p.2 ≤ M) ∧ (l.map Prod.snd).Nodup
def C_l_duos : DCon := fun b ds n P PX => ∃ l, ds = [.tup (l.map pr)] ∧ l.length ≤ 300 ∧ (∀ p ∈ l, p.1 ≤ p.2) ∧ P (.lst ((duos l).map pr)) n
def C_l_random_line : DCon := fun b ds n P PX => ∃ a most top, b = some a ∧ ds = [.raw (.ref a), .int most, .int top] ∧ 0 ≤ most ∧ most ≤ 100 ∧ 0 ≤ top ∧ top ≤ 10 ^ 42 ∧ n + 128 * (1 + 2 * most.toNat) ≤ 2 ^ 40 ∧ ∀ l m, (l.length : Int) ≤ most → Days (2 * top + most) l → n ≤ m → m ≤ n + 128 * (1 + 2 * most.toNat) → P (.tup (l.map pr)) m
theorem tk {a : Addr} {b : Option Addr} {span : Int} {n : Nat} {P : D → Nat → Prop} {PX : Addr → List (Str × V) → Prop} (hb : b = some a) (h0 : 0 < span) (h1 : span ≤ 10 ^ 43) (hn : n + 128 ≤ 2 ^ 40) (h : ∀ v m, 0 ≤ v → v < span → n ≤ m → m ≤ n + 128 → P (.int v) m) : C_take 6 b [.raw (.ref a), .int span] n P PX := by
  have p7 : (10 : Int) ^ (7 * (6 + 1)) = 10 ^ 49 := rfl
  have p8 : (10 : Int) ^ 43 < 10 ^ 49 := by decide
  exact ⟨a, span, hb, rfl, h0, by rw [p7]; omega, by omega, by omega, h⟩
def cnt : List Int → Int → Nat
  | [], _ => 0
  | y :: ns, x => (if x ≤ y then 1 else 0) + cnt ns x
theorem cnt_le {x : Int} : ∀ (ns : List Int), cnt ns (x + 1) ≤ cnt ns x
  | [] => Nat.le_refl _
  | y :: ns => by
    have := cnt_le (x := x) ns
    show (if x + 1 ≤ y then 1 else 0) + cnt ns (x + 1) ≤ (if x ≤ y then 1 else 0) + cnt ns x
    by_cases c : x + 1 ≤ y
    · rw [if_pos c, if_pos (show x ≤ y by omega)]; omega
    · rw [if_neg c]; omega
theorem cnt_lt {x : Int} : ∀ (ns : List Int), x ∈ ns → cnt ns (x + 1) < cnt ns x
  | [], h => by simp at h
  | y :: ns, h => by
    have g := cnt_le (x := x) ns
    show (if x + 1 ≤ y then 1 else 0) + cnt ns (x + 1) < (if x ≤ y then 1 else 0) + cnt ns x
    rcases List.mem_cons.mp h with rfl | h
    · rw [if_neg (by omega), if_pos (Int.le_refl _)]; omega
    · have := cnt_lt ns h
      by_cases c : x + 1 ≤ y
      · rw [if_pos c, if_pos (show x ≤ y by omega)]; omega
      · rw [if_neg c]; omega
theorem cnt_len {x : Int} : ∀ (ns : List Int), cnt ns x ≤ ns.length
  | [] => Nat.le_refl _
  | y :: ns => by
    have := cnt_len (x := x) ns
    show (if x ≤ y then 1 else 0) + cnt ns x ≤ ns.length + 1
    by_cases c : x ≤ y
    · rw [if_pos c]; omega
    · rw [if_neg c]; omega
theorem Days.up {M N : Int} {l : List (Int × Int)} (h : Days M l) (le : M ≤ N) : Days N l := ⟨fun p hp => let ⟨a, b, c⟩ := h.1 p hp; ⟨a, b, by omega⟩, h.2⟩
theorem Days.snoc {M c x : Int} {l : List (Int × Int)} (h : Days M l) (h0 : 0 ≤ c) (h1 : c ≤ x) (h2 : x ≤ M) (h3 : x ∉ l.map Prod.snd) : Days M (l ++ [(c, x)]) := by
  refine ⟨fun p hp => ?_, ?_⟩
  · rcases List.mem_append.mp hp with hp | hp
    · exact h.1 p hp
    · rcases List.mem_cons.mp hp with rfl | hp
      · exact ⟨h0, h1, h2⟩
      · simp at hp
  · rw [List.map_append, List.nodup_append]
    refine ⟨h.2, by simp, fun a ha b hb e => ?_⟩
    simp at hb
    subst hb; subst e
    exact h3 ha
theorem swap_comm {l : List (Int × Int)} {i j : Nat} {p q : Int × Int} (h : i ≠ j) : swapL l j i q p = swapL l i j p q := by
  unfold swapL
  rw [List.set_comm _ _ h]
theorem meets_comm (p q : Int × Int) : meets p q = meets q p := Bool.and_comm _ _
theorem swap_len {l : List (Int × Int)} {i j : Nat} {p q : Int × Int} : (swapL l i j p q).length = l.length := by simp [swapL]
theorem swap_i {l : List (Int × Int)} {i j : Nat} {p q : Int × Int} (h : i ≠ j) (hi : l[i]? = some p) : (swapL l i j p q)[i]? = some (p.1, q.2) := by
  unfold swapL
  rw [List.getElem?_set_ne (fun z => h z.symm), List.getElem?_set_self (List.getElem?_eq_some_iff.mp hi).1]
theorem swap_j {l : List (Int × Int)} {i j : Nat} {p q : Int × Int} (hj : l[j]? = some q) : (swapL l i j p q)[j]? = some (q.1, p.2) := by
  unfold swapL
  rw [List.getElem?_set_self (by simpa using (List.getElem?_eq_some_iff.mp hj).1)]
theorem swap_swap {l : List (Int × Int)} {i j : Nat} {p q : Int × Int} (h : i ≠ j) (hi : l[i]? = some p) (hj : l[j]? = some q) : swapL (swapL l i j p q) i j (p.1, q.2) (q.1, p.2) = l := by
  refine List.ext_getElem? fun k => ?_
  have li : i < (swapL l i j p q).length := by rw [swap_len]; exact (List.getElem?_eq_some_iff.mp hi).1
  have lj : j < ((swapL l i j p q).set i ((p.1, q.2).1, (q.1, p.2).2)).length := by rw [List.length_set, swap_len]; exact (List.getElem?_eq_some_iff.mp hj).1
  show (((swapL l i j p q).set i ((p.1, q.2).1, (q.1, p.2).2)).set j ((q.1, p.2).1, (p.1, q.2).2))[k]? = l[k]?
  by_cases e : j = k
  · subst e
    rw [List.getElem?_set_self lj, hj]
  · rw [List.getElem?_set_ne e]
    by_cases f : i = k
    · subst f
      rw [List.getElem?_set_self li, hi]
    · rw [List.getElem?_set_ne f]
      unfold swapL
      rw [List.getElem?_set_ne e, List.getElem?_set_ne f]
theorem flat_le {α β : Type} {f : α → List β} {B : Nat} : ∀ (l : List α), (∀ x ∈ l, (f x).length ≤ B) → (l.flatMap f).length ≤ l.length * B
  | [], _ => by simp
  | a :: l, h => by
    have x := h a List.mem_cons_self
    have y := flat_le l fun z hz => h z (List.mem_cons_of_mem _ hz)
    rw [List.flatMap_cons, List.length_append, List.length_cons, Nat.succ_mul]
    omega
theorem duos_len (l : List (Int × Int)) : (duos l).length ≤ l.length * l.length := by
  unfold duos
  have := flat_le (B := l.length) (f := fun i => ((List.range (l.length - (i + 1))).filter fun k => match l[i]?, l[i + 1 + k]? with | some p, some q => meets p q | _, _ => false).map fun k => ((i : Int), ((i + 1 + k : Nat) : Int))) (List.range l.length) fun i _ => by
    rw [List.length_map]
    have h := List.length_filter_le (fun k => match l[i]?, l[i + 1 + k]? with | some p, some q => meets p q | _, _ => false) (List.range (l.length - (i + 1)))
    rw [List.length_range] at h
    omega
  rw [List.length_range] at this
  exact this
def rowD (r : List (Int × Int)) : D := .tup (r.map pr)
theorem flat_le2 {α β : Type} {f : α → List β} {B : Nat} : ∀ (l : List α), (∀ x, (f x).length ≤ B) → (l.flatMap f).length ≤ l.length * B
  | [], _ => by simp
  | a :: l, h => by
    have y := flat_le2 l h
    have x := h a
    rw [List.flatMap_cons, List.length_append, List.length_cons, Nat.succ_mul]
    omega
theorem extP_len (a : Int) (L : List Int) (p : List (Int × Int)) : (extP a L p).length ≤ L.length := by
  unfold extP
  rw [List.length_map]
  have := List.length_filter_le (fun d => decide (a ≤ d) && !decide (d ∈ p.map Prod.snd)) (srt L)
  rw [srt_len] at this
  exact this
def C_l_lot : DCon := fun b ds n P PX => ∃ l : List (Int × Int), ds = [.tup (l.map pr)] ∧ l.length ≤ 5 ∧ P (.lst ((lotL (l.map Prod.fst) (l.map Prod.snd)).map rowD)) n
def C_l_order : DCon := fun b ds n P PX => ∃ l : List (Int × Int), ds = [.tup (l.map pr)] ∧ l.length ≤ 100 ∧ ∀ q, OrdQ l q → P (.lst (q.map natD)) n
def C_l_mates : DCon := fun b ds n P PX => ∃ (l : List (Int × Int)) (g : Nat), ds = [.tup (l.map pr), .int ((g : Nat) : Int)] ∧ l.length ≤ 100 ∧ g < l.length ∧ P (.lst ((matesL l g).map natD)) n
theorem les_erase {L : List Int} (nd : L.Nodup) (d : Int) : les d L = L.erase d := by
  unfold les
  rw [nd.erase_eq_filter]
  refine List.filter_congr fun x _ => ?_
  by_cases h : x = d <;> simp [h]
theorem mem_lot : ∀ (A : List Int) {L : List Int} (r : List (Int × Int)), L.Nodup → A.length = L.length → (r ∈ lotL A L ↔ r.map Prod.fst = A ∧ (r.map Prod.snd).Perm L ∧ ∀ p ∈ r, p.1 ≤ p.2)
  | [], L, r, nd, hl => by
    cases L with
    | cons x L => cases hl
    | nil =>
      show r ∈ [[]] ↔ _
      rw [List.mem_singleton]
      constructor
      · rintro rfl
        exact ⟨rfl, List.Perm.nil, fun p hp => nomatch hp⟩
      · rintro ⟨h, _, _⟩
        exact List.map_eq_nil_iff.mp h
  | a :: A, L, r, nd, hl => by
    have ih := fun (d : Int) (hd : d ∈ L) (r : List (Int × Int)) => mem_lot A (L := les d L) r (by rw [les_erase nd]; exact nd.sublist List.erase_sublist) (by
      rw [les_erase nd, List.length_erase_of_mem hd]
      have : A.length + 1 = L.length := hl
      omega)
    show r ∈ (((srt L).filter fun d => decide (a ≤ d)).flatMap fun d => (lotL A (les d L)).map fun r => (a, d) :: r) ↔ _
    simp only [List.mem_flatMap, List.mem_map, List.mem_filter, decide_eq_true_eq]
    constructor
    · rintro ⟨d, ⟨hd, had⟩, r', hr', rfl⟩
      have hdL := mem_srt.mp hd
      obtain ⟨h1, h2, h3⟩ := (ih d hdL r').mp hr'
      rw [les_erase nd] at h2
      refine ⟨by rw [List.map_cons, h1], (h2.cons d).trans (List.perm_cons_erase hdL).symm, fun p hp => ?_⟩
      rcases List.mem_cons.mp hp with rfl | hp
      · exact had
      · exact h3 p hp
    · rintro ⟨h1, h2, h3⟩
      cases r with
      | nil => cases h1
      | cons p r =>
        obtain ⟨pa, d⟩ := p
        have e1 : pa = a := (List.cons.inj h1).1
        subst e1
        have hdL : d ∈ L := h2.mem_iff.mp List.mem_cons_self
        refine ⟨d, ⟨mem_srt.mpr hdL, h3 _ List.mem_cons_self⟩, r, (ih d hdL r).mpr ⟨(List.cons.inj h1).2, ?_, fun q hq => h3 q (List.mem_cons_of_mem _ hq)⟩, rfl⟩
        rw [les_erase nd]
        exact List.Perm.cons_inv (h2.trans (List.perm_cons_erase hdL))
theorem eqv_pr (p q : Int × Int) : PyData.eqv (toP (pr p)) (toP (pr q)) = decide (p = q) := by
  have e : PyData.eqv (toP (pr p)) (toP (pr q)) = (decide (p.1 = q.1) && (decide (p.2 = q.2) && true)) := rfl
  rw [e, Bool.and_true]
  by_cases h1 : p.1 = q.1 <;> by_cases h2 : p.2 = q.2 <;> simp [h1, h2, Prod.ext_iff]
/-! rows of a lot, in order -/
def lexR : List (Int × Int) → List (Int × Int) → Bool
  | p :: r, q :: s => if p = q then lexR r s else decide (p.1 < q.1 ∨ (p.1 = q.1 ∧ p.2 < q.2))
  | [], _ :: _ => true
  | _, [] => false
theorem lexR_irr : ∀ r, lexR r r = false
  | [] => rfl
  | p :: r => by
    show (if p = p then lexR r r else _) = false
    rw [if_pos rfl, lexR_irr r]
theorem lexR_asy : ∀ r s, lexR r s = true → lexR s r = false
  | p :: r, q :: s, h => by
    have h : (if p = q then lexR r s else decide (p.1 < q.1 ∨ (p.1 = q.1 ∧ p.2 < q.2))) = true := h
    show (if q = p then lexR s r else decide (q.1 < p.1 ∨ (q.1 = p.1 ∧ q.2 < p.2))) = false
    by_cases e : p = q
    · rw [if_pos e] at h
      rw [if_pos e.symm]
      exact lexR_asy r s h
    · rw [if_neg e] at h
      rw [if_neg fun z => e z.symm]
      have := of_decide_eq_true h
      exact decide_eq_false (by omega)
  | [], [], h => by cases h
  | [], _ :: _, _ => rfl
  | _ :: _, [], h => by cases h
theorem dataLt_row : ∀ (r s : List (Int × Int)), r.length = s.length → PySem.W.dataLt (toP (.tup (r.map pr))) (toP (.tup (s.map pr))) = lexR r s := by
  have go : ∀ (r s : List (Int × Int)), r.length = s.length → PyProof.Rows.lexLt PyProof.Rows.itemOrd (PySem.W.keyToksAll (toPs (r.map pr))) (PySem.W.keyToksAll (toPs (s.map pr))) = lexR r s := by
    intro r
    induction r with
    | nil =>
      intro s h
      cases s with
      | nil => exact PyProof.Rows.lex_irrefl _
      | cons q s => cases h
    | cons p r ih =>
      intro s h
      cases s with
      | nil => cases h
      | cons q s =>
        show PyProof.Rows.lexLt PyProof.Rows.itemOrd (PySem.W.keyToksAll (toP (pr p) :: toPs (r.map pr))) (PySem.W.keyToksAll (toP (pr q) :: toPs (s.map pr))) = (if p = q then lexR r s else decide (p.1 < q.1 ∨ (p.1 = q.1 ∧ p.2 < q.2)))
        rw [PySem.W.dataLt_cons (show PySem.W.alike (toP (pr p)) (toP (pr q)) = true by rfl), eqv_pr, ih s (by simpa using h)]
        by_cases e : p = q
        · rw [if_pos (decide_eq_true e), if_pos e]
        · rw [if_neg (by simpa using e), if_neg e]
          exact PySem.W.dataLt_ii p.1 p.2 q.1 q.2
  intro r s h
  show PySem.W.dataLt (.tuple (toPs (r.map pr))) (.tuple (toPs (s.map pr))) = _
  rw [PySem.W.dataLt_tuple]
  exact go r s h
theorem alike_row : ∀ r s : List (Int × Int), PySem.W.alike (toP (.tup (r.map pr))) (toP (.tup (s.map pr))) = true := by
  have go : ∀ r s : List (Int × Int), PySem.W.alikeAll (toPs (r.map pr)) (toPs (s.map pr)) = true := by
    intro r
    induction r with
    | nil =>
      intro s
      cases s <;> rfl
    | cons p r ih =>
      intro s
      cases s with
      | nil => rfl
      | cons q s => exact ih s
  exact go
theorem lot_asc : ∀ (A : List Int) {L : List Int}, L.Nodup → (lotL A L).Pairwise fun r s => lexR r s = true
  | [], L, _ => by
    show List.Pairwise _ [[]]
    exact List.pairwise_singleton _ _
  | a :: A, L, nd => by
    show List.Pairwise _ (((srt L).filter fun d => decide (a ≤ d)).flatMap fun d => (lotL A (les d L)).map fun r => (a, d) :: r)
    rw [List.pairwise_flatMap]
    refine ⟨fun d _ => ?_, ?_⟩
    · rw [List.pairwise_map]
      refine (lot_asc A (les_nodup (d := d) nd)).imp fun {r s} h => ?_
      show (if (a, d) = (a, d) then lexR r s else _) = true
      rw [if_pos rfl]
      exact h
    · have ss : (srt L).Pairwise (fun x y => x < y) := by
        have h1 := srt_asc L
        have h2 : (srt L).Nodup := (srt_perm L).nodup_iff.mpr nd
        exact (h1.and h2).imp fun {x y} h => by have := h.1; have := h.2; omega
      refine (ss.filter _).imp fun {d e} h x hx y hy => ?_
      obtain ⟨r, _, rfl⟩ := List.mem_map.mp hx
      obtain ⟨s, _, rfl⟩ := List.mem_map.mp hy
      show (if (a, d) = (a, e) then lexR r s else decide (a < a ∨ (a = a ∧ d < e))) = true
      rw [if_neg (fun z => by have := congrArg Prod.snd z; have : d = e := this; omega)]
      exact decide_eq_true (Or.inr ⟨rfl, h⟩)
theorem nth_asc {A L : List Int} {k j : Int} (nd : L.Nodup) (h0 : 0 ≤ k) (h1 : k < j) (h2 : j < waysN A L) : lexR (nthL A L k) (nthL A L j) = true := by
  have a := lotL_at A (k := k) nd h0 (by omega)
  have b := lotL_at A (k := j) nd (by omega) h2
  obtain ⟨l1, e1⟩ := List.getElem?_eq_some_iff.mp a
  obtain ⟨l2, e2⟩ := List.getElem?_eq_some_iff.mp b
  have := List.pairwise_iff_getElem.mp (lot_asc A nd) k.toNat j.toNat l1 l2 (by omega)
  rw [e1, e2] at this
  exact this
/-- every row has its number -/
theorem num_there {A L : List Int} {r : List (Int × Int)} (nd : L.Nodup) (hl : A.length = L.length) (h : r ∈ lotL A L) : 0 ≤ numL A (r.map Prod.snd) ∧ numL A (r.map Prod.snd) < waysN A L ∧ nthL A L (numL A (r.map Prod.snd)) = r := by
  obtain ⟨k, hk, e⟩ := List.getElem_of_mem h
  have w := waysN_len (A := A) nd
  have a := lotL_at A (k := (k : Int)) nd (by omega) (by omega)
  rw [Int.toNat_natCast, List.getElem?_eq_getElem hk, e] at a
  have e2 := Option.some.inj a
  have n := (nth_num nd hl (show (0 : Int) ≤ (k : Int) by omega) (by omega)).2
  rw [← e2] at n
  rw [n]
  exact ⟨by omega, by omega, e2.symm⟩
theorem stepL_some {l l' : List (Int × Int)} {x : Int × Int} (h : stepL l x = some l') : ∃ p q, okG l x.1 ∧ okG l x.2 ∧ l[x.1.toNat]? = some p ∧ l[x.2.toNat]? = some q ∧ x.1 ≠ x.2 ∧ meets p q = true ∧ l' = swapL l x.1.toNat x.2.toNat p q := by
  unfold stepL at h
  split at h
  · next p q hp hq =>
    split at h
    · next c =>
      simp only [Bool.and_eq_true, decide_eq_true_eq] at c
      obtain ⟨⟨⟨c1, c2⟩, c3⟩, c4⟩ := c
      exact ⟨p, q, okB_iff.mp c1, okB_iff.mp c2, hp, hq, c3, c4, (Option.some.inj h).symm⟩
    · cases h
  · cases h
theorem stepL_of {l : List (Int × Int)} {i j : Int} {p q : Int × Int} (a : okG l i) (b : okG l j) (hp : l[i.toNat]? = some p) (hq : l[j.toNat]? = some q) (ne : i ≠ j) (m : meets p q = true) : stepL l (i, j) = some (swapL l i.toNat j.toNat p q) := by
  unfold stepL
  simp only [hp, hq]
  rw [if_pos (by simp only [Bool.and_eq_true, decide_eq_true_eq]; exact ⟨⟨⟨okB_iff.mpr a, okB_iff.mpr b⟩, ne⟩, m⟩)]
theorem runL_append : ∀ {ps qs : List (Int × Int)} {l : List (Int × Int)}, runL l (ps ++ qs) = (runL l ps).bind fun l' => runL l' qs
  | [], qs, l => rfl
  | x :: ps, qs, l => by
    show ((stepL l x).bind fun l' => runL l' (ps ++ qs)) = ((stepL l x).bind fun l' => runL l' ps).bind fun l' => runL l' qs
    cases stepL l x with
    | none => rfl
    | some l1 => exact runL_append (ps := ps)
theorem runL_one {l : List (Int × Int)} {x : Int × Int} : runL l [x] = stepL l x := by
  show ((stepL l x).bind fun l' => some l') = stepL l x
  cases stepL l x <;> rfl
theorem runL_len : ∀ {ps l l' : List (Int × Int)}, runL l ps = some l' → l'.length = l.length
  | [], l, l', h => by cases h; rfl
  | x :: ps, l, l', h => by
    have h : ((stepL l x).bind fun l' => runL l' ps) = some l' := h
    cases e : stepL l x with
    | none => rw [e] at h; cases h
    | some l1 =>
      rw [e] at h
      obtain ⟨p, q, _, _, _, _, _, _, rfl⟩ := stepL_some e
      rw [runL_len (ps := ps) h, swap_len]
/-- stays within bounds -/
def Ord (M : Int) (l : List (Int × Int)) : Prop := ∀ p ∈ l, 0 ≤ p.1 ∧ p.1 ≤ p.2 ∧ p.2 ≤ M
def Few (l : List (Int × Int)) : Prop := ∀ p ∈ l, 0 ≤ p.1 ∧ p.1 < 100 ∧ 0 ≤ p.2 ∧ p.2 < 100
def C_l_stroll : DCon := fun b ds n P PX => ∃ a l most M, b = some a ∧ ds = [.raw (.ref a), .tup (l.map pr), .int most] ∧ l.length ≤ 12 ∧ Ord M l ∧ 0 ≤ most ∧ most ≤ 100 ∧ n + 256 * (1 + most.toNat) ≤ 2 ^ 40 ∧
  ∀ tape l' m, runL l tape = some l' → (tape.length : Int) ≤ most → Few tape → Ord M l' → n ≤ m → m ≤ n + 256 * (1 + most.toNat) → P (.tup [.lst (tape.map pr), .tup (l'.map pr)]) m
/-- the guests in the order of arrival -/
def ordL (l : List (Int × Int)) : List Nat := orderBy l.length (ar l)
theorem ordL_len (l : List (Int × Int)) : (ordL l).length = l.length := by
  unfold ordL orderBy
  rw [List.length_mergeSort, List.length_range]
theorem ordL_ok (l : List (Int × Int)) : OrdQ l (ordL l) := by
  have pm : (ordL l).Perm (List.range l.length) := List.mergeSort_perm _ _
  refine ⟨pm, ?_⟩
  have st := List.pairwise_mergeSort (le := PySem.W.dataLe false fun g : Nat => PyData.tuple [.int (ar l g), .int (g : Int)]) (fun a b c h1 h2 => by
    rw [PySem.W.dataLe_ii (fun g : Nat => ar l g) (fun g : Nat => (g : Int))] at h1 h2 ⊢
    have h1 := of_decide_eq_true h1
    have h2 := of_decide_eq_true h2
    exact decide_eq_true (by omega)) (fun a b => by
    rw [PySem.W.dataLe_ii (fun g : Nat => ar l g) (fun g : Nat => (g : Int))]
    rw [Bool.or_eq_true, decide_eq_true_eq, decide_eq_true_eq]
    omega) (List.range l.length)
  have nd : (ordL l).Nodup := pm.nodup_iff.mpr List.nodup_range
  refine (List.Pairwise.and st nd).imp ?_
  rintro a b ⟨h1, h2⟩
  rw [PySem.W.dataLe_ii (fun g : Nat => ar l g) (fun g : Nat => (g : Int))] at h1
  have h1 := of_decide_eq_true h1
  exact ahead_iff.mpr (by omega)
theorem ordQ_one {l : List (Int × Int)} {q q' : List Nat} (h : OrdQ l q) (h' : OrdQ l q') : q = q' :=
  asc_eq (lt := fun x y => aheadB l x y = true) (fun x h => by have := ahead_iff.mp h; omega) (fun x y h g => by
    have := ahead_iff.mp h
    have := ahead_iff.mp g
    omega) q q' h.2 h'.2 fun x => by rw [h.1.mem_iff, h'.1.mem_iff]
theorem ordL_nd (l : List (Int × Int)) : (ordL l).Nodup := (ordL_ok l).1.nodup_iff.mpr List.nodup_range
theorem ordL_mem {l : List (Int × Int)} {g : Nat} : g ∈ ordL l ↔ g < l.length := by rw [(ordL_ok l).1.mem_iff, List.mem_range]
/-- the same arrivals, the same order -/
theorem ordL_ar {l l' : List (Int × Int)} (hl : l.length = l'.length) (h : ∀ g < l.length, ar l g = ar l' g) : ordL l = ordL l' := by
  refine ordQ_one (l := l') ?_ (ordL_ok l')
  obtain ⟨p, s⟩ := ordL_ok l
  refine ⟨by rw [← hl]; exact p, s.imp_of_mem fun {a b} ha hb hab => ?_⟩
  have ha := ordL_mem.mp ha
  have hb := ordL_mem.mp hb
  have := ahead_iff.mp hab
  rw [h a ha, h b hb] at this
  exact ahead_iff.mpr this
/-- the days dealt out, the i-th of them to the i-th of w -/
def dealW (l : List (Int × Int)) (w : List Nat) (e : List Int) : List (Int × Int) := (List.range l.length).map fun g => (ar l g, e.getD (w.idxOf g) 0)
theorem dealW_len (l : List (Int × Int)) (w : List Nat) (e : List Int) : (dealW l w e).length = l.length := by
  unfold dealW; rw [List.length_map, List.length_range]
theorem dealW_ar {l : List (Int × Int)} {w : List Nat} {e : List Int} {g : Nat} (h : g < l.length) : ar (dealW l w e) g = ar l g := by
  have : (dealW l w e)[g]? = some (ar l g, e.getD (w.idxOf g) 0) := by
    unfold dealW
    rw [List.getElem?_map, List.getElem?_range h]; rfl
  rw [ar_at this]
theorem dealW_cong {l l' : List (Int × Int)} {w : List Nat} {e : List Int} (hl : l.length = l'.length) (h : ∀ g < l.length, ar l g = ar l' g) : dealW l w e = dealW l' w e := by
  unfold dealW
  rw [← hl]
  refine List.map_congr_left fun g hg => ?_
  rw [h g (List.mem_range.mp hg)]
/-- the days are the days -/
theorem dealW_days {l : List (Int × Int)} {w : List Nat} {e : List Int} (hw : w.Perm (List.range l.length)) (he : e.length = l.length) : ((dealW l w e).map Prod.snd).Perm e := by
  have nd : w.Nodup := hw.nodup_iff.mpr List.nodup_range
  have hl : w.length = l.length := by rw [hw.length_eq, List.length_range]
  have e1 : (dealW l w e).map Prod.snd = (List.range l.length).map fun g => e.getD (w.idxOf g) 0 := by
    unfold dealW; rw [List.map_map]; rfl
  rw [e1]
  refine (hw.symm.map _).trans ?_
  have e2 : w.map (fun g => e.getD (w.idxOf g) 0) = e := by
    refine List.ext_getElem (by rw [List.length_map, hl, he]) fun i h1 h2 => ?_
    rw [List.getElem_map]
    rw [List.length_map] at h1
    rw [nd.idxOf_getElem i h1, List.getD_eq_getElem?_getD, List.getElem?_eq_getElem h2]
    rfl
  rw [e2]
theorem idx_rev {w : List Nat} (nd : w.Nodup) {g : Nat} (hg : g ∈ w) : w.reverse.idxOf g = w.length - 1 - w.idxOf g := by
  have hi : w.idxOf g < w.length := List.idxOf_lt_length_iff.mpr hg
  have hr : w.reverse.Nodup := List.pairwise_reverse.mpr (nd.imp fun h => h.symm)
  have hj : w.length - 1 - w.idxOf g < w.reverse.length := by rw [List.length_reverse]; omega
  have e : w.reverse[w.length - 1 - w.idxOf g] = g := by
    rw [List.getElem_reverse]
    have : w.length - 1 - (w.length - 1 - w.idxOf g) = w.idxOf g := by omega
    simp only [this]
    exact List.getElem_idxOf hi
  have := hr.idxOf_getElem (w.length - 1 - w.idxOf g) hj
  rw [e] at this
  exact this
/-- dealt out from the other end -/
theorem dealW_rev {l : List (Int × Int)} {w : List Nat} {e : List Int} (hw : w.Perm (List.range l.length)) (he : e.length = l.length) : dealW l w.reverse e = dealW l w e.reverse := by
  have nd : w.Nodup := hw.nodup_iff.mpr List.nodup_range
  have hl : w.length = l.length := by rw [hw.length_eq, List.length_range]
  unfold dealW
  refine List.map_congr_left fun g hg => ?_
  have hgw : g ∈ w := hw.mem_iff.mpr hg
  have hi : w.idxOf g < w.length := List.idxOf_lt_length_iff.mpr hgw
  rw [idx_rev nd hgw, List.getD_eq_getElem?_getD, List.getD_eq_getElem?_getD, List.getElem?_reverse (by omega)]
  rw [he, hl]
/-- for each of as the first day left that isn't earlier -/
def lastD : List Int → List Int → List Int
  | [], _ => []
  | a :: as, left => (left.filter fun x => decide (a ≤ x)).headD 0 :: lastD as (left.erase ((left.filter fun x => decide (a ≤ x)).headD 0))
theorem lastD_len : ∀ (as left : List Int), (lastD as left).length = as.length
  | [], _ => rfl
  | a :: as, left => by
    show (lastD as _).length + 1 = as.length + 1
    rw [lastD_len as _]
/-- there are days enough -/
def Hall (as L : List Int) : Prop := ∀ (i : Nat) (a : Int), as[i]? = some a → i < L.countP fun x => decide (a ≤ x)
theorem Hall.head {a : Int} {as L : List Int} (h : Hall (a :: as) L) : ∃ d r, (L.filter fun x => decide (a ≤ x)) = d :: r ∧ d ∈ L ∧ a ≤ d := by
  have h0 := h 0 a rfl
  rw [List.countP_eq_length_filter] at h0
  cases e : L.filter fun x => decide (a ≤ x) with
  | nil => rw [e] at h0; simp at h0
  | cons d r =>
    have hd : d ∈ L.filter fun x => decide (a ≤ x) := by rw [e]; exact List.mem_cons_self
    obtain ⟨h1, h2⟩ := List.mem_filter.mp hd
    exact ⟨d, r, rfl, h1, of_decide_eq_true h2⟩
theorem Hall.tail {a d : Int} {as L : List Int} (h : Hall (a :: as) L) : Hall as (L.erase d) := fun i b hb => by
  have h1 := h (i + 1) b (by simpa using hb)
  have h2 : (L.countP fun x => decide (b ≤ x)) ≤ ((L.erase d).countP fun x => decide (b ≤ x)) + 1 := by
    by_cases hm : d ∈ L
    · have p := List.perm_cons_erase hm
      rw [p.countP_eq, List.countP_cons]
      split <;> omega
    · rw [List.erase_of_not_mem hm]; omega
  omega
theorem Hall.perm {as L L' : List Int} (h : Hall as L) (p : L.Perm L') : Hall as L' := fun i a ha => by
  rw [← p.countP_eq]; exact h i a ha
theorem lastD_perm : ∀ (as L : List Int), as.length = L.length → Hall as L → (lastD as L).Perm L
  | [], L, hl, _ => by
    cases L with
    | nil => exact List.Perm.nil
    | cons x L => cases hl
  | a :: as, L, hl, h => by
    obtain ⟨d, r, e, hd, _⟩ := h.head
    show ((L.filter fun x => decide (a ≤ x)).headD 0 :: lastD as _).Perm L
    rw [e]
    show (d :: lastD as (L.erase d)).Perm L
    have hl' : as.length = (L.erase d).length := by
      rw [List.length_erase_of_mem hd]
      have : as.length + 1 = L.length := hl
      omega
    exact ((lastD_perm as (L.erase d) hl' h.tail).cons d).trans (List.perm_cons_erase hd).symm
theorem snd_lv (l : List (Int × Int)) : l.map Prod.snd = (List.range l.length).map (lv l) := by
  refine List.ext_getElem (by simp) fun i h1 h2 => ?_
  rw [List.length_map] at h1
  rw [List.getElem_map, List.getElem_map, List.getElem_range]
  exact (lv_at (l := l) (m := i) (p := l[i]) (by simp [h1])).symm
/-- where nobody leaves before arriving there are days enough -/
theorem hall_ok {l : List (Int × Int)} (ho : ∀ p ∈ l, p.1 ≤ p.2) : Hall ((ordL l).reverse.map (ar l)) (l.map Prod.snd) := fun i a ha => by
  obtain ⟨pm, st⟩ := ordL_ok l
  rw [List.getElem?_map] at ha
  cases hg : (ordL l).reverse[i]? with
  | none => rw [hg] at ha; cases ha
  | some g =>
    rw [hg] at ha
    cases ha
    have hi : i < (ordL l).reverse.length := (List.getElem?_eq_some_iff.mp hg).1
    have st2 : (ordL l).reverse.Pairwise fun x y => ar l y ≤ ar l x := by
      rw [List.pairwise_reverse]
      exact st.imp fun {a b} h => by have := ahead_iff.mp h; omega
    rw [snd_lv, List.countP_map]
    have c1 : ((List.range l.length).countP ((fun x => decide (ar l g ≤ x)) ∘ lv l)) = (ordL l).reverse.countP ((fun x => decide (ar l g ≤ x)) ∘ lv l) :=
      ((List.reverse_perm (ordL l)).trans pm).symm.countP_eq _
    rw [c1]
    have c2 : ((ordL l).reverse.take (i + 1)).countP ((fun x => decide (ar l g ≤ x)) ∘ lv l) ≤ (ordL l).reverse.countP ((fun x => decide (ar l g ≤ x)) ∘ lv l) := (List.take_sublist _ _).countP_le
    have c3 : ((ordL l).reverse.take (i + 1)).countP ((fun x => decide (ar l g ≤ x)) ∘ lv l) = ((ordL l).reverse.take (i + 1)).length := by
      rw [List.countP_eq_length]
      intro y hy
      have hyl : y < l.length := ordL_mem.mp (List.mem_reverse.mp (List.mem_of_mem_take hy))
      have h1 : ar l y ≤ lv l y := by
        obtain ⟨p, hp⟩ : ∃ p, l[y]? = some p := ⟨l[y], by simp [hyl]⟩
        rw [ar_at hp, lv_at hp]
        exact ho p (List.mem_of_getElem? hp)
      have h2 : ar l g ≤ ar l y := by
        obtain ⟨j, hj⟩ := List.getElem?_of_mem hy
        rw [List.getElem?_take] at hj
        split at hj
        · next hji =>
          by_cases e : j = i
          · subst e
            rw [hg] at hj
            cases hj
            exact Int.le_refl _
          · have hj' := List.getElem?_eq_some_iff.mp hj
            have hg' := List.getElem?_eq_some_iff.mp hg
            obtain ⟨hj1, hj2⟩ := hj'
            obtain ⟨hg1, hg2⟩ := hg'
            have := List.pairwise_iff_getElem.mp st2 j i hj1 hg1 (by omega)
            rw [hj2, hg2] at this
            exact this
        · cases hj
      exact decide_eq_true (Int.le_trans h2 h1)
    rw [List.length_take] at c3
    omega
/-- where f leads from g in k steps -/
def it (f : Nat → Nat) (g : Nat) : Nat → Nat
  | 0 => g
  | k + 1 => f (it f g k)
def Perm0 (f : Nat → Nat) (n : Nat) : Prop := (∀ i, i < n → f i < n) ∧ ∀ i j, i < n → j < n → f i = f j → i = j
/-- p steps lead round for the first time -/
def RingP (f : Nat → Nat) (g p : Nat) : Prop := 0 < p ∧ it f g p = g ∧ ∀ k, 0 < k → k < p → it f g k ≠ g
def ringL (f : Nat → Nat) (g p : Nat) : List Nat := (List.range p).map (it f g)
theorem it_lt {f : Nat → Nat} {n g : Nat} (h : Perm0 f n) (hg : g < n) : ∀ k, it f g k < n
  | 0 => hg
  | k + 1 => h.1 _ (it_lt h hg k)
theorem it_back {f : Nat → Nat} {n g : Nat} (h : Perm0 f n) (hg : g < n) {d : Nat} : ∀ i, it f g (i + d) = it f g i → it f g d = g
  | 0, e => by rw [Nat.zero_add] at e; exact e
  | i + 1, e => it_back h hg i (h.2 _ _ (it_lt h hg _) (it_lt h hg _) (by rw [Nat.add_right_comm] at e; exact e))
theorem ringP_ex {f : Nat → Nat} {n g : Nat} (h : Perm0 f n) (hg : g < n) : ∃ p, RingP f g p ∧ p ≤ n := by
  have some : ∃ d, 0 < d ∧ d ≤ n ∧ it f g d = g := Classical.byContradiction fun no => by
    have nd : ((List.range (n + 1)).map (it f g)).Nodup := by
      refine List.pairwise_map.mpr (List.Pairwise.imp_of_mem (fun {a b} ha hb lt e => ?_) List.pairwise_lt_range)
      have hb := List.mem_range.mp hb
      refine no ⟨b - a, by omega, by omega, it_back h hg a ?_⟩
      rw [show a + (b - a) = b from by omega]
      exact e.symm
    have := nodup_le nd (us := List.range n) fun k hk => by
      obtain ⟨i, _, rfl⟩ := List.mem_map.mp hk
      exact List.mem_range.mpr (it_lt h hg i)
    rw [List.length_map, List.length_range, List.length_range] at this
    omega
  obtain ⟨d, d0, dn, de⟩ := some
  have least : ∀ m, (∃ d, 0 < d ∧ d ≤ m ∧ it f g d = g) → ∃ p, RingP f g p ∧ p ≤ m := by
    intro m
    induction m with
    | zero => rintro ⟨d, a, b, _⟩; omega
    | succ m ih =>
      rintro ⟨d, a, b, c⟩
      by_cases e : ∃ d, 0 < d ∧ d ≤ m ∧ it f g d = g
      · obtain ⟨p, h1, h2⟩ := ih e
        exact ⟨p, h1, by omega⟩
      · have : d = m + 1 := by
          by_cases z : d ≤ m
          · exact absurd ⟨d, a, z, c⟩ e
          · omega
        subst this
        exact ⟨m + 1, ⟨a, c, fun k k0 k1 z => e ⟨k, k0, by omega, z⟩⟩, Nat.le_refl _⟩
  exact least n ⟨d, d0, dn, de⟩
theorem RingP.one {f : Nat → Nat} {g p q : Nat} (h : RingP f g p) (k : RingP f g q) : p = q := by
  by_cases a : p < q
  · exact absurd h.2.1 (k.2.2 p h.1 a)
  · by_cases b : q < p
    · exact absurd k.2.1 (h.2.2 q k.1 b)
    · omega
noncomputable def perOf (f : Nat → Nat) (g : Nat) : Nat := @dite _ (∃ p, RingP f g p) (Classical.propDecidable _) (fun h => Classical.choose h) (fun _ => 0)
theorem perOf_eq {f : Nat → Nat} {g p : Nat} (h : RingP f g p) : perOf f g = p := by
  unfold perOf
  rw [dif_pos ⟨p, h⟩]
  exact (Classical.choose_spec (⟨p, h⟩ : ∃ p, RingP f g p)).one h
noncomputable def ringOf (f : Nat → Nat) (g : Nat) : List Nat := ringL f g (perOf f g)
/-- a ring of two and more that begins with its least -/
def goodR (R : List Nat) : Bool := decide (1 < R.length) && match R with | [] => false | x :: t => t.all fun y => decide (x ≤ y)
noncomputable def ringsL (f : Nat → Nat) (n : Nat) : List (List Nat) := ((List.range n).map (ringOf f)).filter goodR
theorem ringOf_len {f : Nat → Nat} {g p : Nat} (h : RingP f g p) : (ringOf f g).length = p := by
  unfold ringOf ringL
  rw [perOf_eq h, List.length_map, List.length_range]
theorem mem_ringOf {f : Nat → Nat} {g p : Nat} (h : RingP f g p) {y : Nat} : y ∈ ringOf f g ↔ ∃ k, k < p ∧ y = it f g k := by
  unfold ringOf ringL
  rw [perOf_eq h, List.mem_map]
  exact ⟨fun ⟨k, a, b⟩ => ⟨k, List.mem_range.mp a, b.symm⟩, fun ⟨k, a, b⟩ => ⟨k, List.mem_range.mpr a, b.symm⟩⟩
theorem ringOf_head {f : Nat → Nat} {g p : Nat} (h : RingP f g p) : ∃ t, ringOf f g = g :: t := by
  unfold ringOf ringL
  rw [perOf_eq h]
  obtain ⟨q, rfl⟩ : ∃ q, p = q + 1 := ⟨p - 1, by have := h.1; omega⟩
  rw [List.range_succ_eq_map]
  exact ⟨_, rfl⟩
theorem goodR_iff {f : Nat → Nat} {g p : Nat} (h : RingP f g p) : goodR (ringOf f g) = true ↔ 1 < p ∧ ∀ y ∈ ringOf f g, g ≤ y := by
  have hl := ringOf_len h
  obtain ⟨t, ht⟩ := ringOf_head h
  rw [← hl, ht]
  unfold goodR
  simp only [Bool.and_eq_true, decide_eq_true_eq, List.all_eq_true]
  exact ⟨fun ⟨a, b⟩ => ⟨a, fun y hy => by rcases List.mem_cons.mp hy with rfl | hy; exact Nat.le_refl _; exact b y hy⟩, fun ⟨a, b⟩ => ⟨a, fun y hy => b y (List.mem_cons_of_mem _ hy)⟩⟩
theorem it_inj {f : Nat → Nat} {n g p : Nat} (h : Perm0 f n) (hg : g < n) (r : RingP f g p) {i j : Nat} (hi : i < p) (hj : j < p) (e : it f g i = it f g j) : i = j := by
  by_cases a : i < j
  · exact absurd (it_back h hg i (d := j - i) (by rw [show i + (j - i) = j from by omega]; exact e.symm)) (r.2.2 _ (by omega) (by omega))
  · by_cases b : j < i
    · exact absurd (it_back h hg j (d := i - j) (by rw [show j + (i - j) = i from by omega]; exact e)) (r.2.2 _ (by omega) (by omega))
    · omega
/-- f x in the ring, then x too -/
theorem ring_pre {f : Nat → Nat} {n g p x : Nat} (h : Perm0 f n) (hg : g < n) (hx : x < n) (r : RingP f g p) (m : f x ∈ ringOf f g) : x ∈ ringOf f g := by
  rw [mem_ringOf r] at m ⊢
  obtain ⟨k, hk, e⟩ := m
  cases k with
  | zero =>
    have e2 : f x = it f g p := e.trans r.2.1.symm
    obtain ⟨q, rfl⟩ : ∃ q, p = q + 1 := ⟨p - 1, by have := r.1; omega⟩
    exact ⟨q, by omega, h.2 _ _ hx (it_lt h hg q) e2⟩
  | succ k => exact ⟨k, by omega, h.2 _ _ hx (it_lt h hg k) e⟩
/-- the ring from within -/
theorem it_add {f : Nat → Nat} {g : Nat} (a : Nat) : ∀ b, it f (it f g a) b = it f g (a + b)
  | 0 => rfl
  | b + 1 => congrArg f (it_add a b)
theorem it_per {f : Nat → Nat} {g p : Nat} (r : RingP f g p) : ∀ b, it f g (p + b) = it f g b
  | 0 => r.2.1
  | b + 1 => congrArg f (it_per r b)
theorem ring_self {f : Nat → Nat} {n g p y : Nat} (h : Perm0 f n) (hg : g < n) (r : RingP f g p) (hy : y ∈ ringOf f g) : g ∈ ringOf f y := by
  obtain ⟨k, hk, rfl⟩ := (mem_ringOf r).mp hy
  obtain ⟨q, rq, _⟩ := ringP_ex h (it_lt h hg k)
  rw [mem_ringOf rq]
  -- f^(p-k) leads from it k to g; take it modulo q
  have back : it f (it f g k) (p - k) = g := by rw [it_add, show k + (p - k) = p from by omega, r.2.1]
  have red : ∀ m b, b ≤ m → ∃ c, c < q ∧ it f (it f g k) b = it f (it f g k) c := by
    intro m
    induction m with
    | zero => intro b hb; exact ⟨0, rq.1, by rw [show b = 0 from by omega]⟩
    | succ m ih =>
      intro b hb
      by_cases c : b < q
      · exact ⟨b, c, rfl⟩
      · obtain ⟨c', h1, h2⟩ := ih (b - q) (by have := rq.1; omega)
        refine ⟨c', h1, ?_⟩
        have := it_per rq (b - q)
        rw [show q + (b - q) = b from by omega] at this
        rw [this]; exact h2
  obtain ⟨c, c1, c2⟩ := red _ (p - k) (Nat.le_refl _)
  exact ⟨c, c1, by rw [← c2, back]⟩
/-- of a ring's members only its least begins a good ring -/
theorem not_good {f : Nat → Nat} {n g p y : Nat} (h : Perm0 f n) (hg : g < n) (r : RingP f g p) (hy : y ∈ ringOf f g) (lt : g < y) : goodR (ringOf f y) = false := by
  obtain ⟨k, hk, e⟩ := (mem_ringOf r).mp hy
  have hyn : y < n := by rw [e]; exact it_lt h hg k
  obtain ⟨q, rq, _⟩ := ringP_ex h hyn
  refine Bool.eq_false_iff.mpr fun z => ?_
  have := ((goodR_iff rq).mp z).2 g (ring_self h hg r hy)
  omega
theorem filter_erase {f : Nat → Nat} {y : Nat} (hy : goodR (ringOf f y) = false) : ∀ l : List Nat, ((l.erase y).map (ringOf f)).filter goodR = (l.map (ringOf f)).filter goodR
  | [] => rfl
  | x :: l => by
    rw [List.erase_cons]
    by_cases c : x = y
    · subst c
      simp [hy]
    · rw [if_neg (by simpa using c), List.map_cons, List.map_cons, List.filter_cons, List.filter_cons, filter_erase hy l]
/-- the other way round: the same ring, read backwards -/
theorem it_inv {f f' : Nat → Nat} {n g p : Nat} (h : Perm0 f n) (hg : g < n) (inv : ∀ i, i < n → f' (f i) = i) (r : RingP f g p) : ∀ k, k ≤ p → it f' g k = it f g (p - k)
  | 0, _ => r.2.1.symm
  | k + 1, hk => by
    show f' (it f' g k) = _
    rw [it_inv h hg inv r k (by omega), show p - k = (p - (k + 1)) + 1 from by omega]
    exact inv _ (it_lt h hg _)
theorem ringP_inv {f f' : Nat → Nat} {n g p : Nat} (h : Perm0 f n) (hg : g < n) (inv : ∀ i, i < n → f' (f i) = i) (r : RingP f g p) : RingP f' g p := by
  refine ⟨r.1, by rw [it_inv h hg inv r p (Nat.le_refl _), Nat.sub_self]; rfl, fun k k0 k1 => ?_⟩
  rw [it_inv h hg inv r k (by omega)]
  exact r.2.2 _ (by omega) (by omega)
theorem mem_inv {f f' : Nat → Nat} {n g p : Nat} (h : Perm0 f n) (hg : g < n) (inv : ∀ i, i < n → f' (f i) = i) (r : RingP f g p) {y : Nat} (hy : y ∈ ringOf f' g) : y ∈ ringOf f g := by
  have r' := ringP_inv h hg inv r
  obtain ⟨k, hk, rfl⟩ := (mem_ringOf r').mp hy
  rw [it_inv h hg inv r k (by omega), mem_ringOf r]
  by_cases c : k = 0
  · exact ⟨0, r.1, by rw [c, Nat.sub_zero, r.2.1]; rfl⟩
  · exact ⟨p - k, by omega, rfl⟩
def farOf (Rs : List (List Nat)) : Int := (Rs.map fun R => (R.length : Int) - 1).sum
theorem far_inv {f f' : Nat → Nat} {n : Nat} (h : Perm0 f n) (h' : Perm0 f' n) (inv : ∀ i, i < n → f' (f i) = i) (inv' : ∀ i, i < n → f (f' i) = i) : farOf (ringsL f' n) = farOf (ringsL f n) := by
  unfold farOf ringsL
  have go : ∀ l : List Nat, (∀ g ∈ l, g < n) → (((l.map (ringOf f')).filter goodR).map fun R => (R.length : Int) - 1) = (((l.map (ringOf f)).filter goodR).map fun R => (R.length : Int) - 1) := by
    intro l
    induction l with
    | nil => intro _; rfl
    | cons g l ih =>
      intro hl
      have hg := hl g List.mem_cons_self
      obtain ⟨p, r, _⟩ := ringP_ex h hg
      have r' := ringP_inv h hg inv r
      have same : goodR (ringOf f' g) = goodR (ringOf f g) := by
        rw [Bool.eq_iff_iff, goodR_iff r, goodR_iff r']
        exact ⟨fun ⟨a, b⟩ => ⟨a, fun y hy => b y (mem_inv h' hg inv' r' hy)⟩, fun ⟨a, b⟩ => ⟨a, fun y hy => b y (mem_inv h hg inv r hy)⟩⟩
      have ih := ih fun x hx => hl x (List.mem_cons_of_mem _ hx)
      rw [List.map_cons, List.map_cons, List.filter_cons, List.filter_cons, same]
      by_cases c : goodR (ringOf f g) = true
      · rw [if_pos c, if_pos c, List.map_cons, List.map_cons, ih, ringOf_len r, ringOf_len r']
      · rw [if_neg c, if_neg c, ih]
  rw [go _ fun g hg => List.mem_range.mp hg]
def ringD (R : List Nat) : D := .tup (R.map natD)
def Lead (l r : List (Int × Int)) : Prop := l.map Prod.fst = r.map Prod.fst ∧ (l.map Prod.snd).Perm (r.map Prod.snd) ∧ (l.map Prod.snd).Nodup
/-- who holds in l the day that guest i holds in r -/
def fol (l r : List (Int × Int)) (i : Nat) : Nat := (l.map Prod.snd).idxOf (((r.map Prod.snd)[i]?).getD 0)
theorem Lead.len {l r : List (Int × Int)} (h : Lead l r) : l.length = r.length := by
  have := congrArg List.length h.1
  simpa using this
theorem Lead.symm {l r : List (Int × Int)} (h : Lead l r) : Lead r l := ⟨h.1.symm, h.2.1.symm, h.2.1.nodup_iff.mp h.2.2⟩
theorem idx_at {L : List Int} {d : Int} (h : d ∈ L) : L[L.idxOf d]? = some d := by
  rw [List.getElem?_eq_some_iff]
  exact ⟨List.idxOf_lt_length_of_mem h, List.getElem_idxOf _⟩
theorem idx_of {L : List Int} (nd : L.Nodup) {i : Nat} {d : Int} (h : L[i]? = some d) : L.idxOf d = i := nodup_at nd (idx_at (List.mem_of_getElem? h)) h
theorem fol_at {l r : List (Int × Int)} (h : Lead l r) {i : Nat} {d : Int} (hr : (r.map Prod.snd)[i]? = some d) : (l.map Prod.snd)[fol l r i]? = some d := by
  unfold fol
  rw [hr]
  exact idx_at (h.2.1.mem_iff.mpr (List.mem_of_getElem? hr))
theorem day_at {r : List (Int × Int)} {i : Nat} (h : i < r.length) : ∃ d, (r.map Prod.snd)[i]? = some d := ⟨(r.map Prod.snd)[i]'(by rw [List.length_map]; exact h), by rw [List.getElem?_eq_getElem]⟩
theorem fol_lt {l r : List (Int × Int)} (h : Lead l r) {i : Nat} (hi : i < l.length) : fol l r i < l.length := by
  obtain ⟨d, hd⟩ := day_at (r := r) (i := i) (by rw [← h.len]; exact hi)
  have := (List.getElem?_eq_some_iff.mp (fol_at h hd)).1
  rwa [List.length_map] at this
theorem fol_inv {l r : List (Int × Int)} (h : Lead l r) : ∀ i, i < l.length → fol r l (fol l r i) = i := fun i hi => by
  obtain ⟨d, hd⟩ := day_at (r := r) (i := i) (by rw [← h.len]; exact hi)
  exact nodup_at h.symm.2.2 (fol_at h.symm (fol_at h hd)) hd
theorem fol_perm {l r : List (Int × Int)} (h : Lead l r) : Perm0 (fol l r) l.length := ⟨fun i hi => fol_lt h hi, fun i j hi hj e => by rw [← fol_inv h i hi, ← fol_inv h j hj, e]⟩
theorem far_symm {l r : List (Int × Int)} (h : Lead l r) : farOf (ringsL (fol r l) r.length) = farOf (ringsL (fol l r) l.length) := by
  rw [← h.len]
  have p2 := fol_perm h.symm
  rw [← h.len] at p2
  exact far_inv (fol_perm h) p2 (fol_inv h) (by have := fol_inv h.symm; rwa [← h.len] at this)
theorem cnt_set {L : List Int} {i : Nat} {a b x : Int} (h : L[i]? = some a) : (L.set i b).count x + (if a = x then 1 else 0) = L.count x + (if b = x then 1 else 0) := by
  induction L generalizing i with
  | nil => simp at h
  | cons y L ih =>
    cases i with
    | zero =>
      cases h
      rw [List.set_cons_zero, List.count_cons, List.count_cons]
      simp only [beq_iff_eq]
      omega
    | succ i =>
      rw [List.set_cons_succ, List.count_cons, List.count_cons]
      have := ih (i := i) (by simpa using h)
      omega
theorem set_set_perm {L : List Int} {i j : Nat} {a b : Int} (ne : i ≠ j) (hi : L[i]? = some a) (hj : L[j]? = some b) : ((L.set i b).set j a).Perm L := by
  refine List.perm_iff_count.mpr fun x => ?_
  have h1 := cnt_set (x := x) (b := b) hi
  have h2 := cnt_set (L := L.set i b) (x := x) (b := a) (i := j) (a := b) (by rw [List.getElem?_set_ne ne]; exact hj)
  omega
theorem swap_lead {l : List (Int × Int)} {i j : Nat} {p q : Int × Int} (ne : i ≠ j) (hi : l[i]? = some p) (hj : l[j]? = some q) (nd : (l.map Prod.snd).Nodup) : Lead l (swapL l i j p q) := by
  have same : ∀ {L : List Int} {k : Nat} {x : Int}, L[k]? = some x → L.set k x = L := fun {L k x} h => by
    obtain ⟨a, rfl⟩ := List.getElem?_eq_some_iff.mp h
    exact List.set_getElem_self a
  have hi1 : (l.map Prod.fst)[i]? = some p.1 := by rw [List.getElem?_map, hi]; rfl
  have hj1 : (l.map Prod.fst)[j]? = some q.1 := by rw [List.getElem?_map, hj]; rfl
  have hi2 : (l.map Prod.snd)[i]? = some p.2 := by rw [List.getElem?_map, hi]; rfl
  have hj2 : (l.map Prod.snd)[j]? = some q.2 := by rw [List.getElem?_map, hj]; rfl
  refine ⟨?_, ?_, nd⟩
  · unfold swapL
    rw [List.map_set, List.map_set]
    show _ = ((l.map Prod.fst).set i p.1).set j q.1
    rw [same hi1, same hj1]
  · unfold swapL
    rw [List.map_set, List.map_set]
    exact (set_set_perm ne hi2 hj2).symm
theorem Lead.trans {l r t : List (Int × Int)} (h : Lead l r) (k : Lead r t) : Lead l t := ⟨h.1.trans k.1, h.2.1.trans k.2.1, h.2.2⟩
theorem Lead.refl {l : List (Int × Int)} (nd : (l.map Prod.snd).Nodup) : Lead l l := ⟨rfl, List.Perm.refl _, nd⟩
theorem run_lead : ∀ {ps l l' : List (Int × Int)}, (l.map Prod.snd).Nodup → runL l ps = some l' → Lead l l'
  | [], l, l', nd, h => by cases h; exact Lead.refl nd
  | x :: ps, l, l', nd, h => by
    have h : ((stepL l x).bind fun l' => runL l' ps) = some l' := h
    cases e : stepL l x with
    | none => rw [e] at h; cases h
    | some l1 =>
      rw [e] at h
      obtain ⟨p, q, ⟨a0, _⟩, ⟨b0, _⟩, hp, hq, ne, _, rfl⟩ := stepL_some e
      have k := swap_lead (fun z => ne (by omega)) hp hq nd
      exact k.trans (run_lead (ps := ps) k.symm.2.2 h)
theorem ringsL_len (f : Nat → Nat) (n : Nat) : (ringsL f n).length ≤ n := by
  have := List.length_filter_le goodR ((List.range n).map (ringOf f))
  rw [List.length_map, List.length_range] at this
  exact this
/-! two of a ring exchange: the ring falls into two -/
theorem it_mod {f : Nat → Nat} {g p : Nat} (r : RingP f g p) : ∀ (m b : Nat), b ≤ m → ∃ c, c < p ∧ it f g b = it f g c := by
  intro m
  induction m with
  | zero => intro b hb; exact ⟨0, r.1, by rw [show b = 0 from by omega]⟩
  | succ m ih =>
    intro b hb
    by_cases c : b < p
    · exact ⟨b, c, rfl⟩
    · obtain ⟨c', h1, h2⟩ := ih (b - p) (by have := r.1; omega)
      refine ⟨c', h1, ?_⟩
      have := it_per r (b - p)
      rw [show p + (b - p) = b from by omega] at this
      rw [this]; exact h2
theorem mem_ring_it {f : Nat → Nat} {g p y : Nat} (r : RingP f g p) : y ∈ ringOf f g ↔ ∃ b, y = it f g b := by
  rw [mem_ringOf r]
  exact ⟨fun ⟨k, _, h⟩ => ⟨k, h⟩, fun ⟨b, h⟩ => let ⟨c, h1, h2⟩ := it_mod r b b (Nat.le_refl _); ⟨c, h1, h.trans h2⟩⟩
theorem ring_per {f : Nat → Nat} {n g p y : Nat} (h : Perm0 f n) (hg : g < n) (r : RingP f g p) (hy : y ∈ ringOf f g) : RingP f y p := by
  obtain ⟨k, hk, rfl⟩ := (mem_ringOf r).mp hy
  refine ⟨r.1, ?_, fun q q0 q1 z => ?_⟩
  · rw [it_add, Nat.add_comm, it_per r]
  · rw [it_add] at z
    exact r.2.2 q q0 q1 (it_back h hg k z)
theorem ring_mem {f : Nat → Nat} {n g p y z : Nat} (h : Perm0 f n) (hg : g < n) (r : RingP f g p) (hy : y ∈ ringOf f g) : z ∈ ringOf f y ↔ z ∈ ringOf f g := by
  have ry := ring_per h hg r hy
  obtain ⟨k, hk, rfl⟩ := (mem_ringOf r).mp hy
  rw [mem_ring_it ry, mem_ring_it r]
  constructor
  · rintro ⟨b, rfl⟩
    exact ⟨k + b, it_add _ _⟩
  · rintro ⟨b, rfl⟩
    refine ⟨p - k + b, ?_⟩
    rw [it_add, show k + (p - k + b) = p + b from by omega, it_per r]
def leadR (R : List Nat) : Bool := match R with | [] => false | x :: t => t.all fun y => decide (x ≤ y)
theorem leadR_iff {f : Nat → Nat} {g p : Nat} (h : RingP f g p) : leadR (ringOf f g) = true ↔ ∀ y ∈ ringOf f g, g ≤ y := by
  obtain ⟨t, ht⟩ := ringOf_head h
  rw [ht]
  unfold leadR
  simp only [List.all_eq_true, decide_eq_true_eq]
  exact ⟨fun b y hy => by rcases List.mem_cons.mp hy with rfl | hy; exact Nat.le_refl _; exact b y hy, fun b y hy => b y (List.mem_cons_of_mem _ hy)⟩
noncomputable def cOf (f : Nat → Nat) (g : Nat) : Int := if leadR (ringOf f g) = true then ((ringOf f g).length : Int) - 1 else 0
def sumN (u : Nat → Int) (n : Nat) : Int := ((List.range n).map u).sum
theorem sumN_succ (u : Nat → Int) (n : Nat) : sumN u (n + 1) = sumN u n + u n := by
  unfold sumN
  rw [List.range_succ, List.map_append, List.sum_append]
  simp
theorem far_sum {f : Nat → Nat} (n : Nat) : farOf (ringsL f n) = sumN (cOf f) n := by
  unfold farOf ringsL sumN
  generalize List.range n = L
  induction L with
  | nil => rfl
  | cons g L ih =>
    rw [List.map_cons, List.map_cons, List.filter_cons, List.sum_cons]
    have good : goodR (ringOf f g) = (decide (1 < (ringOf f g).length) && leadR (ringOf f g)) := rfl
    by_cases c : leadR (ringOf f g) = true
    · have e : cOf f g = ((ringOf f g).length : Int) - 1 := if_pos c
      rw [e]
      by_cases d : 1 < (ringOf f g).length
      · rw [if_pos (by rw [good, c, decide_eq_true d]; rfl), List.map_cons, List.sum_cons, ih]
      · have : (ringOf f g).length = 1 := by
          cases h : ringOf f g with
          | nil => rw [h] at c; cases c
          | cons x t => rw [h] at d; simp at d ⊢; exact d
        rw [if_neg (by rw [good, decide_eq_false d]; simp), ih, this]
        simp
    · rw [if_neg (by rw [good]; simp [c]), ih]
      have : cOf f g = 0 := if_neg c
      rw [this]
      simp
theorem sum_two {u v : Nat → Int} {a b : Nat} (ne : a ≠ b) : ∀ n, (∀ g, g < n → g ≠ a → g ≠ b → u g = v g) → sumN u n - sumN v n = (if a < n then u a - v a else 0) + (if b < n then u b - v b else 0)
  | 0, _ => rfl
  | n + 1, h => by
    have ih := sum_two ne n fun g hg => h g (by omega)
    rw [sumN_succ, sumN_succ]
    by_cases ca : a = n
    · subst ca
      rw [if_neg (Nat.lt_irrefl _)] at ih
      rw [if_pos (Nat.lt_succ_self _)]
      by_cases cb : b < a
      · rw [if_pos cb] at ih
        rw [if_pos (by omega)]
        omega
      · rw [if_neg cb] at ih
        rw [if_neg (by omega)]
        omega
    · by_cases cb : b = n
      · subst cb
        rw [if_neg (Nat.lt_irrefl b)] at ih
        rw [if_pos (Nat.lt_succ_self b)]
        by_cases ca2 : a < b
        · rw [if_pos ca2] at ih
          rw [if_pos (by omega)]
          omega
        · rw [if_neg ca2] at ih
          rw [if_neg (by omega)]
          omega
      · have e := h n (Nat.lt_succ_self n) (fun z => ca z.symm) (fun z => cb z.symm)
        have i1 : (if a < n + 1 then u a - v a else 0) = (if a < n then u a - v a else 0) := by
          by_cases c : a < n
          · rw [if_pos c, if_pos (by omega)]
          · rw [if_neg c, if_neg (by omega)]
        have i2 : (if b < n + 1 then u b - v b else 0) = (if b < n then u b - v b else 0) := by
          by_cases c : b < n
          · rw [if_pos c, if_pos (by omega)]
          · rw [if_neg c, if_neg (by omega)]
        rw [i1, i2, ← ih, e]
        omega
theorem ex_min : ∀ {L : List Nat}, L ≠ [] → ∃ a ∈ L, ∀ y ∈ L, a ≤ y
  | [], h => absurd rfl h
  | [x], _ => ⟨x, List.mem_cons_self, fun y hy => by rw [List.mem_singleton.mp hy]; exact Nat.le_refl _⟩
  | x :: z :: L, _ => by
    obtain ⟨a, ha, hm⟩ := ex_min (L := z :: L) (by simp)
    by_cases c : x ≤ a
    · exact ⟨x, List.mem_cons_self, fun y hy => by rcases List.mem_cons.mp hy with rfl | hy; exact Nat.le_refl _; exact Nat.le_trans c (hm y hy)⟩
    · exact ⟨a, List.mem_cons_of_mem _ ha, fun y hy => by rcases List.mem_cons.mp hy with rfl | hy; omega; exact hm y hy⟩
/-- what g counts: its ring's length less one if it is the ring's least -/
theorem cOf_at {f : Nat → Nat} {g p : Nat} (r : RingP f g p) (h : ∀ y ∈ ringOf f g, g ≤ y) : cOf f g = (p : Int) - 1 := by
  unfold cOf
  rw [if_pos ((leadR_iff r).mpr h), ringOf_len r]
theorem cOf_no {f : Nat → Nat} {g p y : Nat} (r : RingP f g p) (hy : y ∈ ringOf f g) (lt : y < g) : cOf f g = 0 := by
  unfold cOf
  rw [if_neg fun z => by have := (leadR_iff r).mp z y hy; omega]
def tau (i j x : Nat) : Nat := if x = i then j else if x = j then i else x
theorem split {f f' : Nat → Nat} {n i j : Nat} (h : Perm0 f n) (h' : Perm0 f' n) (hi : i < n) (ne : i ≠ j) (hj : j ∈ ringOf f i) (ht : ∀ x, x < n → f' x = tau i j (f x)) : farOf (ringsL f' n) = farOf (ringsL f n) - 1 := by
  obtain ⟨p, r, _⟩ := ringP_ex h hi
  obtain ⟨k, hk, ek⟩ := (mem_ringOf r).mp hj
  have k0 : 0 < k := by
    cases k with
    | zero => exact absurd ek.symm ne
    | succ k => exact Nat.succ_pos _
  have hjn : j < n := by rw [ek]; exact it_lt h hi k
  -- the way round from i, and from j
  have w1 : ∀ m, m < k → it f' i m = it f i m := by
    intro m
    induction m with
    | zero => intro _; rfl
    | succ m ih =>
      intro hm
      show f' (it f' i m) = f (it f i m)
      rw [ih (by omega), ht _ (it_lt h hi m)]
      unfold tau
      have o1 : f (it f i m) ≠ i := fun z => r.2.2 (m + 1) (by omega) (by omega) z
      have o2 : f (it f i m) ≠ j := fun z => by
        have := it_inj h hi r (show m + 1 < p by omega) hk (show it f i (m + 1) = it f i k from z.trans ek)
        omega
      rw [if_neg o1, if_neg o2]
  have e1 : it f' i k = i := by
    obtain ⟨q, rfl⟩ : ∃ q, k = q + 1 := ⟨k - 1, by omega⟩
    show f' (it f' i q) = i
    rw [w1 q (by omega), ht _ (it_lt h hi q)]
    unfold tau
    have ek' : f (it f i q) = j := ek.symm
    rw [ek', if_neg (fun z => ne z.symm), if_pos rfl]
  have r1 : RingP f' i k := ⟨k0, e1, fun m m0 m1 z => r.2.2 m m0 (by omega) (by rw [← w1 m m1]; exact z)⟩
  have w2 : ∀ m, m < p - k → it f' j m = it f i (k + m) := by
    intro m
    induction m with
    | zero => intro _; exact ek
    | succ m ih =>
      intro hm
      show f' (it f' j m) = f (it f i (k + m))
      rw [ih (by omega), ht _ (it_lt h hi _)]
      unfold tau
      have o1 : f (it f i (k + m)) ≠ i := fun z => r.2.2 (k + m + 1) (by omega) (by omega) z
      have o2 : f (it f i (k + m)) ≠ j := fun z => by
        have := it_inj h hi r (show k + m + 1 < p by omega) hk (show it f i (k + m + 1) = it f i k from z.trans ek)
        omega
      rw [if_neg o1, if_neg o2]
  have e2 : it f' j (p - k) = j := by
    obtain ⟨q, hq⟩ : ∃ q, p - k = q + 1 := ⟨p - k - 1, by omega⟩
    rw [hq]
    show f' (it f' j q) = j
    rw [w2 q (by omega), ht _ (it_lt h hi _)]
    have : f (it f i (k + q)) = i := by
      have := r.2.1
      rw [show p = k + q + 1 from by omega] at this
      exact this
    unfold tau
    rw [this, if_pos rfl]
  have r2 : RingP f' j (p - k) := ⟨by omega, e2, fun m m0 m1 z => by
    rw [w2 m m1] at z
    have := it_inj h hi r (show k + m < p by omega) hk (z.trans ek)
    omega⟩
  have m1 : ∀ y, y ∈ ringOf f' i ↔ ∃ m, m < k ∧ y = it f i m := fun y => by
    rw [mem_ringOf r1]
    exact ⟨fun ⟨m, a, b⟩ => ⟨m, a, by rw [← w1 m a]; exact b⟩, fun ⟨m, a, b⟩ => ⟨m, a, by rw [w1 m a]; exact b⟩⟩
  have m2 : ∀ y, y ∈ ringOf f' j ↔ ∃ m, k ≤ m ∧ m < p ∧ y = it f i m := fun y => by
    rw [mem_ringOf r2]
    exact ⟨fun ⟨m, a, b⟩ => ⟨k + m, by omega, by omega, by rw [← w2 m a]; exact b⟩, fun ⟨m, a, b, c⟩ => ⟨m - k, by omega, by rw [w2 (m - k) (by omega), show k + (m - k) = m from by omega]; exact c⟩⟩
  have all : ∀ y, y ∈ ringOf f i ↔ y ∈ ringOf f' i ∨ y ∈ ringOf f' j := fun y => by
    rw [mem_ringOf r, m1, m2]
    constructor
    · rintro ⟨m, a, b⟩
      by_cases c : m < k
      · exact Or.inl ⟨m, c, b⟩
      · exact Or.inr ⟨m, by omega, a, b⟩
    · rintro (⟨m, a, b⟩ | ⟨m, _, a, b⟩)
      · exact ⟨m, by omega, b⟩
      · exact ⟨m, a, b⟩
  have disj : ∀ y, y ∈ ringOf f' i → y ∈ ringOf f' j → False := fun y a b => by
    obtain ⟨s, s1, s2⟩ := (m1 y).mp a
    obtain ⟨t, t1, t2, t3⟩ := (m2 y).mp b
    have := it_inj h hi r (by omega) t2 (s2.symm.trans t3)
    omega
  have nn1 : ringOf f' i ≠ [] := fun z => by obtain ⟨t, ht⟩ := ringOf_head r1; rw [ht] at z; cases z
  have nn2 : ringOf f' j ≠ [] := fun z => by obtain ⟨t, ht⟩ := ringOf_head r2; rw [ht] at z; cases z
  obtain ⟨a, ha, hma⟩ := ex_min nn1
  obtain ⟨b, hb, hmb⟩ := ex_min nn2
  have hab : a ≠ b := fun z => disj a ha (by rw [z]; exact hb)
  have aR := (all a).mpr (Or.inl ha)
  have bR := (all b).mpr (Or.inr hb)
  have inN : ∀ {y}, y ∈ ringOf f i → y < n := fun {y} hy => by
    obtain ⟨m, _, rfl⟩ := (mem_ringOf r).mp hy
    exact it_lt h hi m
  have ra := ring_per h hi r aR
  have rb := ring_per h hi r bR
  have ra' := ring_per h' hi r1 ha
  have rb' := ring_per h' hjn r2 hb
  have ca' : cOf f' a = (k : Int) - 1 := cOf_at ra' fun y hy => hma y ((ring_mem h' hi r1 ha).mp hy)
  have cb' : cOf f' b = ((p - k : Nat) : Int) - 1 := cOf_at rb' fun y hy => hmb y ((ring_mem h' hjn r2 hb).mp hy)
  have cab : cOf f a + cOf f b = (p : Int) - 1 := by
    by_cases lt : a < b
    · rw [cOf_at ra fun y hy => ?_, cOf_no rb ((ring_mem h hi r bR).mpr aR) lt, Int.add_zero]
      rcases (all y).mp ((ring_mem h hi r aR).mp hy) with w | w
      · exact hma y w
      · have := hmb y w; omega
    · rw [cOf_at rb fun y hy => ?_, cOf_no ra ((ring_mem h hi r aR).mpr bR) (by omega), Int.zero_add]
      rcases (all y).mp ((ring_mem h hi r bR).mp hy) with w | w
      · have := hma y w; omega
      · exact hmb y w
  have others : ∀ g, g < n → g ≠ a → g ≠ b → cOf f g = cOf f' g := fun g hg ga gb => by
    by_cases gR : g ∈ ringOf f i
    · have rg := ring_per h hi r gR
      rcases (all g).mp gR with w | w
      · have := hma g w
        rw [cOf_no rg ((ring_mem h hi r gR).mpr aR) (by omega), cOf_no (ring_per h' hi r1 w) ((ring_mem h' hi r1 w).mpr ha) (by omega)]
      · have := hmb g w
        rw [cOf_no rg ((ring_mem h hi r gR).mpr bR) (by omega), cOf_no (ring_per h' hjn r2 w) ((ring_mem h' hjn r2 w).mpr hb) (by omega)]
    · obtain ⟨q, rq, _⟩ := ringP_ex h hg
      have out : ∀ m, it f g m ∉ ringOf f i := fun m z => by
        have gm : it f g m ∈ ringOf f g := (mem_ring_it rq).mpr ⟨m, rfl⟩
        have := ring_self h hg rq gm
        exact gR ((ring_mem h hi r z).mp this)
      have iR : i ∈ ringOf f i := (mem_ringOf r).mpr ⟨0, r.1, rfl⟩
      have same : ∀ m, it f' g m = it f g m := by
        intro m
        induction m with
        | zero => rfl
        | succ m ih =>
          show f' (it f' g m) = it f g (m + 1)
          rw [ih, ht _ (it_lt h hg m)]
          unfold tau
          have o := out (m + 1)
          rw [if_neg (fun z => o (by show f (it f g m) ∈ _; rw [z]; exact iR)), if_neg (fun z => o (by show f (it f g m) ∈ _; rw [z]; exact hj))]
          rfl
      have rq' : RingP f' g q := ⟨rq.1, by rw [same]; exact rq.2.1, fun m a b => by rw [same]; exact rq.2.2 m a b⟩
      have eR : ringOf f' g = ringOf f g := by
        unfold ringOf ringL
        rw [perOf_eq rq, perOf_eq rq']
        exact List.map_congr_left fun m _ => same m
      unfold cOf
      rw [eR]
  have tot := sum_two (u := cOf f) (v := cOf f') hab n others
  rw [if_pos (inN aR), if_pos (inN bR)] at tot
  rw [far_sum, far_sum]
  omega
def cstL (L : List Nat) : List Int := L.map fun i => ((i : Nat) : Int)
theorem cst_nat (L : List Nat) : (cstL L).map D.int = L.map natD := by unfold cstL; rw [List.map_map]; rfl
theorem cst_erase (x : Nat) : ∀ L : List Nat, (cstL L).erase ((x : Nat) : Int) = cstL (L.erase x)
  | [] => rfl
  | y :: L => by
    show (((y : Nat) : Int) :: cstL L).erase _ = cstL ((y :: L).erase x)
    rw [List.erase_cons, List.erase_cons]
    by_cases c : y = x
    · subst c
      simp
    · rw [if_neg (by simp; omega), if_neg (by simpa using c)]
      show _ = ((y : Nat) : Int) :: cstL (L.erase x)
      rw [cst_erase x L]
theorem cst_mem {x : Nat} {L : List Nat} (h : x ∈ L) : ((x : Nat) : Int) ∈ cstL L := List.mem_map.mpr ⟨x, h, rfl⟩
theorem rng_cst (n : Nat) : rng 0 ((n : Nat) : Int).toNat = (cstL (List.range n)).map D.int := by
  unfold rng cstL
  rw [Int.toNat_natCast, List.map_map]
  exact List.map_congr_left fun i _ => congrArg D.int (Int.zero_add _)
theorem cst_not_nil {x : Nat} {L : List Nat} : (!PyData.eqv (toP (.lst ((cstL (x :: L)).map D.int))) (toP (.lst []))) = true := rfl
theorem ring_head (f : Nat → Nat) (g : Nat) {c : Nat} (h : 0 < c) : (((List.range c).map (it f g)).map natD)[0]? = some (.int ((g : Nat) : Int)) := by
  obtain ⟨e, rfl⟩ : ∃ e, c = e + 1 := ⟨c - 1, by omega⟩
  rw [List.range_succ_eq_map]
  rfl
theorem ring_snoc (f : Nat → Nat) (g c : Nat) : ((List.range c).map (it f g)).map natD ++ [.int ((it f g c : Nat) : Int)] = ((List.range (c + 1)).map (it f g)).map natD := by
  rw [List.range_succ, List.map_append, List.map_append]
  rfl
theorem ring_last (f : Nat → Nat) (g c : Nat) : (((List.range (c + 1)).map (it f g)).map natD).getLast? = some (.int ((it f g c : Nat) : Int)) := by
  rw [← ring_snoc]
  exact List.getLast?_concat
theorem pr_day {l : List (Int × Int)} {i : Nat} {d : Int} (h : (l.map Prod.snd)[i]? = some d) : ∃ p : Int × Int, (l.map pr)[i]? = some (pr p) ∧ p.2 = d := by
  rw [List.getElem?_map] at h ⊢
  cases e : l[i]? with
  | none => rw [e] at h; cases h
  | some p => rw [e] at h; cases h; exact ⟨p, rfl, rfl⟩
theorem fol_swap {l r : List (Int × Int)} {i j : Nat} {p q : Int × Int} (h : Lead l r) (ne : i ≠ j) (hi : l[i]? = some p) (hj : l[j]? = some q) : ∀ x, x < l.length → fol (swapL l i j p q) r x = tau i j (fol l r x) := fun x hx => by
  have k := (swap_lead ne hi hj h.2.2).symm.trans h
  obtain ⟨d, hd⟩ := day_at (r := r) (i := x) (by rw [← h.len]; exact hx)
  have h1 := fol_at h hd
  have h2 := fol_at k hd
  refine nodup_at k.2.2 h2 ?_
  have hi2 : (l.map Prod.snd)[i]? = some p.2 := by rw [List.getElem?_map, hi]; rfl
  have hj2 : (l.map Prod.snd)[j]? = some q.2 := by rw [List.getElem?_map, hj]; rfl
  have lj := (List.getElem?_eq_some_iff.mp hj2).1
  have li := (List.getElem?_eq_some_iff.mp hi2).1
  have e : (swapL l i j p q).map Prod.snd = ((l.map Prod.snd).set i q.2).set j p.2 := by
    unfold swapL
    rw [List.map_set, List.map_set]
  rw [e]
  unfold tau
  by_cases c : fol l r x = i
  · rw [if_pos c, List.getElem?_set_self (by rw [List.length_set]; exact lj)]
    rw [c, hi2] at h1
    exact h1
  · rw [if_neg c]
    by_cases c2 : fol l r x = j
    · rw [if_pos c2, List.getElem?_set_ne (fun z => ne z.symm), List.getElem?_set_self li]
      rw [c2, hj2] at h1
      exact h1
    · rw [if_neg c2, List.getElem?_set_ne (fun z => c2 z.symm), List.getElem?_set_ne (fun z => c z.symm)]
      exact h1
def Fit (l : List (Int × Int)) : Prop := ∀ p ∈ l, p.1 ≤ p.2
def Two (l r : List (Int × Int)) : Prop := Lead l r ∧ Fit l ∧ Fit r ∧ l.length ≤ 100
noncomputable def F (l r : List (Int × Int)) : Int := farOf (ringsL (fol l r) l.length)
noncomputable def nearerL (l r : List (Int × Int)) : Option (Int × Int) := match ringsL (fol l r) l.length with
  | [] => none
  | R :: _ => ((duos l).filter fun x => decide (x.1 ∈ cstL R) && decide (x.2 ∈ cstL R)).head?
def swapAt (l : List (Int × Int)) (x : Int × Int) : List (Int × Int) := match l[x.1.toNat]?, l[x.2.toNat]? with
  | some p, some q => swapL l x.1.toNat x.2.toNat p q
  | _, _ => l
noncomputable def shortL : Nat → List (Int × Int) → List (Int × Int) → List (Int × Int)
  | 0, _, _ => []
  | k + 1, l, r => match nearerL l r with
    | none => []
    | some x => x :: shortL k (swapAt l x) r
theorem mem_cst {x : Nat} {R : List Nat} : ((x : Nat) : Int) ∈ cstL R ↔ x ∈ R := ⟨fun h => by
  obtain ⟨y, hy, e⟩ := List.mem_map.mp h
  have : y = x := by omega
  rw [← this]; exact hy, cst_mem⟩
theorem good_ring {f : Nat → Nat} {n : Nat} {R : List Nat} (h : Perm0 f n) (hR : R ∈ ringsL f n) : ∃ g p, g < n ∧ RingP f g p ∧ 1 < p ∧ R = ringOf f g := by
  obtain ⟨h1, h2⟩ := List.mem_filter.mp hR
  obtain ⟨g, hg, rfl⟩ := List.mem_map.mp h1
  obtain ⟨p, r, _⟩ := ringP_ex h (List.mem_range.mp hg)
  exact ⟨g, p, List.mem_range.mp hg, r, ((goodR_iff r).mp h2).1, rfl⟩
theorem F_nonneg {l r : List (Int × Int)} (h : Lead l r) : 0 ≤ F l r ∧ (F l r = 0 ↔ ringsL (fol l r) l.length = []) := by
  have P := fol_perm h
  have each : ∀ R ∈ ringsL (fol l r) l.length, (1 : Int) ≤ (R.length : Int) - 1 := fun R hR => by
    obtain ⟨g, p, hg, rp, p1, rfl⟩ := good_ring P hR
    rw [ringOf_len rp]; omega
  unfold F farOf
  generalize ringsL (fol l r) l.length = L at each
  have sum : ∀ L : List (List Nat), (∀ R ∈ L, (1 : Int) ≤ (R.length : Int) - 1) → (L.length : Int) ≤ (L.map fun R => (R.length : Int) - 1).sum := by
    intro L
    induction L with
    | nil => intro _; exact Int.le_refl _
    | cons R L ih =>
      intro h
      have a := h R List.mem_cons_self
      have b := ih fun x hx => h x (List.mem_cons_of_mem _ hx)
      rw [List.map_cons, List.sum_cons, List.length_cons]
      omega
  have s := sum L each
  refine ⟨by omega, fun z => ?_, fun z => by rw [z]; rfl⟩
  exact List.length_eq_zero_iff.mp (by omega)
theorem ex_max (u : Nat → Int) : ∀ {L : List Nat}, L ≠ [] → ∃ a ∈ L, ∀ y ∈ L, u y ≤ u a
  | [], h => absurd rfl h
  | [x], _ => ⟨x, List.mem_cons_self, fun y hy => by rw [List.mem_singleton.mp hy]; exact Int.le_refl _⟩
  | x :: z :: L, _ => by
    obtain ⟨a, ha, hm⟩ := ex_max u (L := z :: L) (by simp)
    by_cases c : u a ≤ u x
    · exact ⟨x, List.mem_cons_self, fun y hy => by rcases List.mem_cons.mp hy with rfl | hy; exact Int.le_refl _; exact Int.le_trans (hm y hy) c⟩
    · exact ⟨a, List.mem_cons_of_mem _ ha, fun y hy => by rcases List.mem_cons.mp hy with rfl | hy; omega; exact hm y hy⟩
theorem near_some {l r : List (Int × Int)} (h : Two l r) (ne : ringsL (fol l r) l.length ≠ []) : ∃ x, nearerL l r = some x := by
  obtain ⟨hL, ol, or', _⟩ := h
  have P := fol_perm hL
  cases e : ringsL (fol l r) l.length with
  | nil => exact absurd e ne
  | cons R t =>
    obtain ⟨g0, p, hg0, rp, p1, rfl⟩ := good_ring P (show R ∈ ringsL (fol l r) l.length by rw [e]; exact List.mem_cons_self)
    have nR : ringOf (fol l r) g0 ≠ [] := fun z => by have := ringOf_len rp; rw [z] at this; simp at this; omega
    obtain ⟨g, hgR, hmax⟩ := ex_max (fun k => ((l.map Prod.fst)[k]?).getD 0) nR
    have rg := ring_per P hg0 rp hgR
    have hgn : g < l.length := by obtain ⟨m, _, rfl⟩ := (mem_ringOf rp).mp hgR; exact it_lt P hg0 m
    have hjn := P.1 g hgn
    have hjR : fol l r g ∈ ringOf (fol l r) g0 := (ring_mem P hg0 rp hgR).mp ((mem_ring_it rg).mpr ⟨1, rfl⟩)
    have nej : fol l r g ≠ g := fun z => rg.2.2 1 (by decide) p1 z
    obtain ⟨a, ha⟩ : ∃ a, l[g]? = some a := ⟨l[g], by simp [hgn]⟩
    obtain ⟨b, hb⟩ : ∃ b, l[fol l r g]? = some b := ⟨l[fol l r g], by simp [hjn]⟩
    obtain ⟨c, hc⟩ : ∃ c, r[g]? = some c := ⟨r[g]'(by rw [← hL.len]; exact hgn), by simp [show g < r.length by rw [← hL.len]; exact hgn]⟩
    have h1 := fol_at hL (i := g) (d := c.2) (by rw [List.getElem?_map, hc]; rfl)
    rw [List.getElem?_map, hb] at h1
    have e1 : b.2 = c.2 := Option.some.inj h1
    have e2 : a.1 = c.1 := by
      have x1 : (l.map Prod.fst)[g]? = some a.1 := by rw [List.getElem?_map, ha]; rfl
      have x2 : (r.map Prod.fst)[g]? = some c.1 := by rw [List.getElem?_map, hc]; rfl
      rw [hL.1, x2] at x1
      exact (Option.some.inj x1).symm
    have c1 := or' c (List.mem_of_getElem? hc)
    have a1 := ol a (List.mem_of_getElem? ha)
    have m1 := hmax _ hjR
    simp only [List.getElem?_map, ha, hb, Option.map_some, Option.getD_some] at m1
    have mt : meets a b = true := by
      unfold meets
      rw [Bool.and_eq_true, decide_eq_true_eq, decide_eq_true_eq]
      omega
    have key : ∃ x, x ∈ (duos l).filter fun x => decide (x.1 ∈ cstL (ringOf (fol l r) g0)) && decide (x.2 ∈ cstL (ringOf (fol l r) g0)) := by
      by_cases lt : g < fol l r g
      · refine ⟨((g : Nat), (fol l r g : Nat)), List.mem_filter.mpr ⟨mem_duos.mpr ⟨g, fol l r g, lt, hjn, ?_, rfl⟩, ?_⟩⟩
        · unfold meetAt; rw [ha, hb]; exact mt
        · rw [decide_eq_true (mem_cst.mpr hgR), decide_eq_true (mem_cst.mpr hjR)]; rfl
      · refine ⟨((fol l r g : Nat), (g : Nat)), List.mem_filter.mpr ⟨mem_duos.mpr ⟨fol l r g, g, by omega, hgn, ?_, rfl⟩, ?_⟩⟩
        · unfold meetAt; rw [ha, hb]; show meets b a = true; rw [meets_comm]; exact mt
        · rw [decide_eq_true (mem_cst.mpr hgR), decide_eq_true (mem_cst.mpr hjR)]; rfl
    obtain ⟨x, hx⟩ := key
    unfold nearerL
    rw [e]
    show ∃ x, (List.filter _ (duos l)).head? = some x
    cases w : (duos l).filter fun x => decide (x.1 ∈ cstL (ringOf (fol l r) g0)) && decide (x.2 ∈ cstL (ringOf (fol l r) g0)) with
    | nil => rw [w] at hx; simp at hx
    | cons y s => exact ⟨y, rfl⟩
theorem near_step {l r : List (Int × Int)} {x : Int × Int} (h : Two l r) (e : nearerL l r = some x) : ∃ (i j : Nat) (p q : Int × Int), x = ((i : Int), (j : Int)) ∧ i < j ∧ j < l.length ∧ l[i]? = some p ∧ l[j]? = some q ∧ meets p q = true ∧ swapAt l x = swapL l i j p q ∧ Two (swapL l i j p q) r ∧ F (swapL l i j p q) r = F l r - 1 ∧ x ∈ duos l := by
  obtain ⟨hL, ol, or', hz⟩ := h
  have P := fol_perm hL
  unfold nearerL at e
  cases w : ringsL (fol l r) l.length with
  | nil => rw [w] at e; cases e
  | cons R t =>
    rw [w] at e
    have hx : x ∈ (duos l).filter fun x => decide (x.1 ∈ cstL R) && decide (x.2 ∈ cstL R) := List.mem_of_mem_head? e
    obtain ⟨hd, hm⟩ := List.mem_filter.mp hx
    obtain ⟨i, j, lt, hj, mt, rfl⟩ := mem_duos.mp hd
    rw [Bool.and_eq_true, decide_eq_true_eq, decide_eq_true_eq, mem_cst, mem_cst] at hm
    obtain ⟨p, hp⟩ : ∃ p, l[i]? = some p := ⟨l[i]'(by omega), by simp [show i < l.length by omega]⟩
    obtain ⟨q, hq⟩ : ∃ q, l[j]? = some q := ⟨l[j], by simp [hj]⟩
    unfold meetAt at mt
    rw [hp, hq] at mt
    have mt : meets p q = true := mt
    have sw : swapAt l ((i : Int), (j : Int)) = swapL l i j p q := by
      unfold swapAt
      simp only [Int.toNat_natCast, hp, hq]
    have k := (swap_lead (show i ≠ j by omega) hp hq hL.2.2).symm.trans hL
    obtain ⟨g0, m, hg0, rp, p1, rfl⟩ := good_ring P (show R ∈ ringsL (fol l r) l.length by rw [w]; exact List.mem_cons_self)
    have hij : j ∈ ringOf (fol l r) i := (ring_mem P hg0 rp hm.1).mpr hm.2
    have P' := fol_perm k
    rw [swap_len] at P'
    have s := split P P' (show i < l.length by omega) (show i ≠ j by omega) hij (fol_swap hL (by omega) hp hq)
    refine ⟨i, j, p, q, rfl, lt, hj, hp, hq, mt, sw, ⟨k, fun y hy => ?_, or', by rw [swap_len]; exact hz⟩, by unfold F; rw [swap_len]; exact s, hd⟩
    have mm := mt
    unfold meets at mm
    rw [Bool.and_eq_true, decide_eq_true_eq, decide_eq_true_eq] at mm
    unfold swapL at hy
    rcases List.mem_or_eq_of_mem_set hy with hy | rfl
    · rcases List.mem_or_eq_of_mem_set hy with hy | rfl
      · exact ol y hy
      · exact mm.1
    · exact mm.2
theorem F_zero {l r : List (Int × Int)} (h : Lead l r) (z : F l r = 0) : l = r := by
  have P := fol_perm h
  have e := (F_nonneg h).2.mp z
  have fix : ∀ i, i < l.length → fol l r i = i := fun i hi => by
    obtain ⟨p, rp, _⟩ := ringP_ex P hi
    have nR : ringOf (fol l r) i ≠ [] := fun z => by have h1 := ringOf_len rp; rw [z] at h1; have h2 := rp.1; simp at h1; omega
    obtain ⟨a, ha, hm⟩ := ex_min nR
    have ra := ring_per P hi rp ha
    have han : a < l.length := by obtain ⟨m, _, rfl⟩ := (mem_ringOf rp).mp ha; exact it_lt P hi m
    by_cases c : 1 < p
    · have : ringOf (fol l r) a ∈ ringsL (fol l r) l.length := List.mem_filter.mpr ⟨List.mem_map.mpr ⟨a, List.mem_range.mpr han, rfl⟩, (goodR_iff ra).mpr ⟨c, fun y hy => hm y ((ring_mem P hi rp ha).mp hy)⟩⟩
      rw [e] at this
      cases this
    · have p1 : p = 1 := by have := rp.1; omega
      subst p1
      exact rp.2.1
  refine List.ext_getElem? fun i => ?_
  by_cases c : i < l.length
  · obtain ⟨p, hp⟩ : ∃ p, l[i]? = some p := ⟨l[i], by simp [c]⟩
    obtain ⟨q, hq⟩ : ∃ q, r[i]? = some q := ⟨r[i]'(by rw [← h.len]; exact c), by simp [show i < r.length by rw [← h.len]; exact c]⟩
    have h1 := fol_at h (i := i) (d := q.2) (by rw [List.getElem?_map, hq]; rfl)
    rw [fix i c, List.getElem?_map, hp] at h1
    have e1 : p.2 = q.2 := Option.some.inj h1
    have x1 : (l.map Prod.fst)[i]? = some p.1 := by rw [List.getElem?_map, hp]; rfl
    have x2 : (r.map Prod.fst)[i]? = some q.1 := by rw [List.getElem?_map, hq]; rfl
    rw [h.1, x2] at x1
    have e2 : q.1 = p.1 := Option.some.inj x1
    rw [hp, hq]
    exact congrArg some (Prod.ext e2.symm e1)
  · rw [List.getElem?_eq_none (by omega), List.getElem?_eq_none (by rw [← h.len]; omega)]
def optD : Option (Int × Int) → D
  | none => .non
  | some x => pr x
noncomputable def tapeL (l r : List (Int × Int)) : List (Int × Int) := shortL (F l r).toNat l r
theorem tape_step {l r : List (Int × Int)} {x : Int × Int} (h : Two l r) (e : nearerL l r = some x) : tapeL l r = x :: tapeL (swapAt l x) r := by
  obtain ⟨i, j, p, q, rfl, lt, hj, hp, hq, mt, sw, tw, hF, hd⟩ := near_step h e
  have f0 := (F_nonneg tw.1).1
  unfold tapeL
  rw [sw, hF]
  obtain ⟨k, hk⟩ : ∃ k, (F l r).toNat = k + 1 := ⟨(F l r).toNat - 1, by omega⟩
  rw [hk, show (F l r - 1).toNat = k from by omega]
  show (match nearerL l r with | none => [] | some x => x :: shortL k (swapAt l x) r) = _
  rw [e]
  show _ :: shortL k (swapAt l _) r = _
  rw [sw]
theorem near_none {l r : List (Int × Int)} (h : Two l r) (e : nearerL l r = none) : F l r = 0 := by
  refine (F_nonneg h.1).2.mpr (Classical.byContradiction fun z => ?_)
  obtain ⟨x, hx⟩ := near_some h z
  rw [hx] at e; cases e
theorem tape_none {l r : List (Int × Int)} (h : Two l r) (e : nearerL l r = none) : tapeL l r = [] := by
  unfold tapeL
  rw [near_none h e]
  rfl
theorem near_zero {l r : List (Int × Int)} (h : Two l r) (z : F l r = 0) : nearerL l r = none := by
  unfold nearerL
  rw [(F_nonneg h.1).2.mp z]
theorem tape_len : ∀ (k : Nat) {l r : List (Int × Int)}, Two l r → (F l r).toNat = k → (tapeL l r).length = k
  | 0, l, r, h, e => by
    have := (F_nonneg h.1).1
    rw [tape_none h (near_zero h (by omega))]; rfl
  | k + 1, l, r, h, e => by
    have ne : ringsL (fol l r) l.length ≠ [] := fun z => by have := (F_nonneg h.1).2.mpr z; omega
    obtain ⟨x, hx⟩ := near_some h ne
    obtain ⟨i, j, p, q, rfl, lt, hj, hp, hq, mt, sw, tw, hF, hd⟩ := near_step h hx
    rw [tape_step h hx, sw, List.length_cons, tape_len k tw (by omega)]
def C_nearer : DCon := fun b ds n P PX => ∃ d e l r, ds = [d, e] ∧ Ln d l ∧ Ln e r ∧ Two l r ∧ P (optD (nearerL l r)) n
def C_shortest : DCon := fun b ds n P PX => ∃ d e l r, ds = [d, e] ∧ Ln d l ∧ Ln e r ∧ Two l r ∧ P (.lst ((tapeL l r).map pr)) n
def C_l_apart : DCon := fun b ds n P PX => ∃ l r : List (Int × Int), ds = [.tup (l.map pr), .tup (r.map pr)] ∧ Lead l r ∧ l.length ≤ 100 ∧ P (.int (F l r)) n
def C_l_is_duo : DCon := fun b ds n P PX => ∃ x : Int × Int, ds = [pr x] ∧ P (.bl true) n
def C_l_pair_right : DCon := fun b ds n P PX => ∃ (l r : List (Int × Int)) (M : Int), ds = [.tup (l.map pr), .tup (r.map pr)] ∧ Lead l r ∧ Ord M l ∧ Ord M r ∧ l.length ≤ 12 ∧ P (.bl true) n
theorem F_le {l r : List (Int × Int)} (h : Lead l r) : F l r ≤ (l.length : Int) * (l.length : Int) := by
  have P := fol_perm h
  have each : ∀ R ∈ ringsL (fol l r) l.length, (R.length : Int) - 1 ≤ (l.length : Int) := fun R hR => by
    obtain ⟨h1, _⟩ := List.mem_filter.mp hR
    obtain ⟨g, hg, rfl⟩ := List.mem_map.mp h1
    obtain ⟨p, rp, pn⟩ := ringP_ex P (List.mem_range.mp hg)
    rw [ringOf_len rp]; omega
  have len := ringsL_len (fol l r) l.length
  unfold F farOf
  generalize ringsL (fol l r) l.length = L at each len
  have sum : ∀ L : List (List Nat), (∀ R ∈ L, (R.length : Int) - 1 ≤ (l.length : Int)) → (L.map fun R => (R.length : Int) - 1).sum ≤ (L.length : Int) * (l.length : Int) := by
    intro L
    induction L with
    | nil => intro _; simp
    | cons R L ih =>
      intro h
      have a := h R List.mem_cons_self
      have b := ih fun x hx => h x (List.mem_cons_of_mem _ hx)
      rw [List.map_cons, List.sum_cons, List.length_cons, Int.natCast_add, Int.add_mul]
      omega
  exact Int.le_trans (sum L each) (Int.mul_le_mul_of_nonneg_right (by omega) (by omega))
theorem tape_small {l r : List (Int × Int)} (h : Two l r) : (tapeL l r).length ≤ 10000 := by
  rw [tape_len _ h rfl]
  have h1 := F_le h.1
  have h2 : (l.length : Int) * (l.length : Int) ≤ 100 * 100 := Int.mul_le_mul (by have := h.2.2.2; omega) (by have := h.2.2.2; omega) (by omega) (by decide)
  omega
/-! two of different rings exchange: the rings join -/
theorem join {f f' : Nat → Nat} {n i j : Nat} (h : Perm0 f n) (h' : Perm0 f' n) (hi : i < n) (hjn : j < n) (ne : i ≠ j) (hj : j ∉ ringOf f i) (ht : ∀ x, x < n → f' x = tau i j (f x)) : farOf (ringsL f' n) = farOf (ringsL f n) + 1 := by
  obtain ⟨p, r, _⟩ := ringP_ex h hi
  have notj : ∀ m, it f i m ≠ j := fun m z => hj ((mem_ring_it r).mpr ⟨m, z.symm⟩)
  have w : ∀ m, m < p → it f' i m = it f i m := by
    intro m
    induction m with
    | zero => intro _; rfl
    | succ m ih =>
      intro hm
      show f' (it f' i m) = f (it f i m)
      rw [ih (by omega), ht _ (it_lt h hi m)]
      unfold tau
      have o1 : f (it f i m) ≠ i := fun z => r.2.2 (m + 1) (by omega) hm z
      have o2 : f (it f i m) ≠ j := fun z => notj (m + 1) z
      rw [if_neg o1, if_neg o2]
  have e : it f' i p = j := by
    obtain ⟨q, rfl⟩ : ∃ q, p = q + 1 := ⟨p - 1, by have := r.1; omega⟩
    show f' (it f' i q) = j
    rw [w q (by omega), ht _ (it_lt h hi q)]
    have : f (it f i q) = i := r.2.1
    unfold tau
    rw [this, if_pos rfl]
  obtain ⟨p', r', _⟩ := ringP_ex h' hi
  have hj' : j ∈ ringOf f' i := (mem_ring_it r').mpr ⟨p, e.symm⟩
  have inv : ∀ x, x < n → f x = tau i j (f' x) := fun x hx => by
    rw [ht x hx]
    unfold tau
    by_cases c : f x = i
    · rw [if_pos c, if_neg (fun z => ne z.symm), if_pos rfl, c]
    · by_cases c2 : f x = j
      · rw [if_neg c, if_pos c2, if_pos rfl, c2]
      · rw [if_neg c, if_neg c2, if_neg c, if_neg c2]
  have := split h' h hi ne hj' inv
  omega
/-- an exchange changes the distance by one -/
theorem exch_one {l r : List (Int × Int)} {i j : Nat} {p q : Int × Int} (h : Lead l r) (ne : i ≠ j) (hi : l[i]? = some p) (hj : l[j]? = some q) : F (swapL l i j p q) r = F l r - 1 ∨ F (swapL l i j p q) r = F l r + 1 := by
  have P := fol_perm h
  have k := (swap_lead ne hi hj h.2.2).symm.trans h
  have P' := fol_perm k
  rw [swap_len] at P'
  have li := (List.getElem?_eq_some_iff.mp hi).1
  have lj := (List.getElem?_eq_some_iff.mp hj).1
  unfold F
  rw [swap_len]
  by_cases c : j ∈ ringOf (fol l r) i
  · exact Or.inl (split P P' li ne c (fol_swap h ne hi hj))
  · exact Or.inr (join P P' li lj ne c (fol_swap h ne hi hj))
theorem F_symm {l r : List (Int × Int)} (h : Lead l r) : F r l = F l r := far_symm h
/-- of the rings one only has i in it -/
theorem own_one {f : Nat → Nat} {n i : Nat} {R : List Nat} (h : Perm0 f n) (hR : R ∈ ringsL f n) (hi : i ∈ R) {b : List Nat → Bool} (hb : b R = true) (hn : ∀ R', b R' = true → i ∈ R') : (ringsL f n).filter b = [R] := by
  have same : ∀ g g', g < n → g' < n → goodR (ringOf f g) = true → goodR (ringOf f g') = true → i ∈ ringOf f g → i ∈ ringOf f g' → g = g' := fun g g' hg hg' h1 h2 i1 i2 => by
    obtain ⟨p, r, _⟩ := ringP_ex h hg
    obtain ⟨p', r', _⟩ := ringP_ex h hg'
    have m1 : g' ∈ ringOf f g := (ring_mem h hg r i1).mp (ring_self h hg' r' i2)
    have m2 : g ∈ ringOf f g' := (ring_mem h hg' r' i2).mp (ring_self h hg r i1)
    have a := ((goodR_iff r).mp h1).2 _ m1
    have b := ((goodR_iff r').mp h2).2 _ m2
    omega
  obtain ⟨hm, hgood⟩ := List.mem_filter.mp hR
  obtain ⟨g0, hg0, rfl⟩ := List.mem_map.mp hm
  have hg0 := List.mem_range.mp hg0
  unfold ringsL
  rw [List.filter_filter]
  have go : ∀ L : List Nat, L.Nodup → (∀ g ∈ L, g < n) → ((L.map (ringOf f)).filter fun a => b a && goodR a) = if g0 ∈ L then [ringOf f g0] else [] := by
    intro L
    induction L with
    | nil => intro _ _; rfl
    | cons g L ih =>
      intro nd lt
      have nd' := List.nodup_cons.mp nd
      have hg := lt g List.mem_cons_self
      have ih := ih nd'.2 fun x hx => lt x (List.mem_cons_of_mem _ hx)
      rw [List.map_cons, List.filter_cons, ih]
      by_cases c : g = g0
      · subst c
        rw [if_pos (by rw [hb, hgood]; rfl), if_neg nd'.1, if_pos List.mem_cons_self]
      · have no : (b (ringOf f g) && goodR (ringOf f g)) = false := by
          refine Bool.eq_false_iff.mpr fun z => ?_
          rw [Bool.and_eq_true] at z
          exact c (same g g0 hg hg0 z.2 hgood (hn _ z.1) hi)
        rw [no, if_neg Bool.false_ne_true]
        by_cases c2 : g0 ∈ L
        · rw [if_pos c2, if_pos (List.mem_cons_of_mem _ c2)]
        · rw [if_neg c2, if_neg fun z => by rcases List.mem_cons.mp z with z | z; exact c z.symm; exact c2 z]
  rw [go _ List.nodup_range fun g hg => List.mem_range.mp hg, if_pos (List.mem_range.mpr hg0)]
/-- the rings from the other side: each read backwards from its first -/
def backR (R : List Nat) : List Nat := R.take 1 ++ (R.drop 1).reverse
theorem ring_back {f f' : Nat → Nat} {n g : Nat} (h : Perm0 f n) (hg : g < n) (inv : ∀ i, i < n → f' (f i) = i) : ringOf f' g = backR (ringOf f g) := by
  obtain ⟨p, r, _⟩ := ringP_ex h hg
  have r' := ringP_inv h hg inv r
  refine List.ext_getElem? fun k => ?_
  obtain ⟨q, hq⟩ : ∃ q, p = q + 1 := ⟨p - 1, by have := r.1; omega⟩
  have eR : ringOf f g = g :: (List.range q).map fun m => it f g (m + 1) := by
    unfold ringOf ringL
    rw [perOf_eq r, hq, List.range_succ_eq_map, List.map_cons, List.map_map]
    rfl
  have eR' : ringOf f' g = g :: (List.range q).map fun m => it f' g (m + 1) := by
    unfold ringOf ringL
    rw [perOf_eq r', hq, List.range_succ_eq_map, List.map_cons, List.map_map]
    rfl
  rw [eR, eR']
  show _ = (g :: ((List.range q).map fun m => it f g (m + 1)).reverse)[k]?
  cases k with
  | zero => rfl
  | succ k =>
    rw [List.getElem?_cons_succ, List.getElem?_cons_succ]
    by_cases c : k < q
    · rw [List.getElem?_map, List.getElem?_range c, List.getElem?_reverse (by rw [List.length_map, List.length_range]; exact c), List.length_map, List.length_range, List.getElem?_map, List.getElem?_range (by omega)]
      show some (it f' g (k + 1)) = some (it f g (q - 1 - k + 1))
      rw [it_inv h hg inv r (k + 1) (by omega), show p - (k + 1) = q - 1 - k + 1 from by omega]
    · rw [List.getElem?_eq_none (by rw [List.length_map, List.length_range]; omega), List.getElem?_eq_none (by rw [List.length_reverse, List.length_map, List.length_range]; omega)]
theorem rings_back {l r : List (Int × Int)} (h : Lead l r) : ringsL (fol r l) r.length = (ringsL (fol l r) l.length).map backR := by
  have P := fol_perm h
  have P2 := fol_perm h.symm
  rw [← h.len] at P2 ⊢
  have inv2 := fol_inv h.symm
  rw [← h.len] at inv2
  unfold ringsL
  have go : ∀ L : List Nat, (∀ g ∈ L, g < l.length) → (L.map (ringOf (fol r l))).filter goodR = ((L.map (ringOf (fol l r))).filter goodR).map backR := by
    intro L
    induction L with
    | nil => intro _; rfl
    | cons g L ih =>
      intro lt
      have hg := lt g List.mem_cons_self
      have ih := ih fun x hx => lt x (List.mem_cons_of_mem _ hx)
      obtain ⟨p, rp, _⟩ := ringP_ex P hg
      have rp' := ringP_inv P hg (fol_inv h) rp
      have same : goodR (ringOf (fol r l) g) = goodR (ringOf (fol l r) g) := by
        rw [Bool.eq_iff_iff, goodR_iff rp, goodR_iff rp']
        exact ⟨fun ⟨a, b⟩ => ⟨a, fun y hy => b y (mem_inv P2 hg inv2 rp' hy)⟩, fun ⟨a, b⟩ => ⟨a, fun y hy => b y (mem_inv P hg (fol_inv h) rp hy)⟩⟩
      rw [List.map_cons, List.map_cons, List.filter_cons, List.filter_cons, same, ih]
      by_cases c : goodR (ringOf (fol l r) g) = true
      · rw [if_pos c, if_pos c, List.map_cons, ring_back P hg (fol_inv h)]
      · rw [if_neg c, if_neg c]
  exact go _ fun g hg => List.mem_range.mp hg
/-- a row of exchanges, back again -/
theorem step_back {l l' : List (Int × Int)} {x : Int × Int} (h : stepL l x = some l') (o : Fit l) : stepL l' x = some l ∧ Fit l' := by
  obtain ⟨p, q, a, b, hp, hq, ne, m, rfl⟩ := stepL_some h
  have nn : x.1.toNat ≠ x.2.toNat := fun z => ne (by have := a.1; have := b.1; omega)
  have mm := m
  unfold meets at mm
  rw [Bool.and_eq_true, decide_eq_true_eq, decide_eq_true_eq] at mm
  have fp := o p (List.mem_of_getElem? hp)
  have fq := o q (List.mem_of_getElem? hq)
  have m' : meets (p.1, q.2) (q.1, p.2) = true := by
    unfold meets
    rw [Bool.and_eq_true, decide_eq_true_eq, decide_eq_true_eq]
    exact ⟨fp, fq⟩
  have si := swap_i (q := q) nn hp
  have sj := swap_j (l := l) (i := x.1.toNat) (p := p) hq
  have ga : okG (swapL l x.1.toNat x.2.toNat p q) x.1 := ⟨a.1, by rw [swap_len]; exact a.2⟩
  have gb : okG (swapL l x.1.toNat x.2.toNat p q) x.2 := ⟨b.1, by rw [swap_len]; exact b.2⟩
  have st := stepL_of ga gb si sj ne m'
  refine ⟨?_, fun y hy => ?_⟩
  · have : x = (x.1, x.2) := rfl
    rw [this, st]
    exact congrArg some (swap_swap nn hp hq)
  · unfold swapL at hy
    rcases List.mem_or_eq_of_mem_set hy with hy | rfl
    · rcases List.mem_or_eq_of_mem_set hy with hy | rfl
      · exact o y hy
      · exact mm.1
    · exact mm.2
theorem run_back : ∀ {ps l l' : List (Int × Int)}, runL l ps = some l' → Fit l → runL l' ps.reverse = some l ∧ Fit l'
  | [], l, l', h, o => by cases h; exact ⟨rfl, o⟩
  | x :: ps, l, l', h, o => by
    have h : ((stepL l x).bind fun l' => runL l' ps) = some l' := h
    cases e : stepL l x with
    | none => rw [e] at h; cases h
    | some l1 =>
      rw [e] at h
      obtain ⟨s1, s2⟩ := step_back e o
      obtain ⟨r1, r2⟩ := run_back (ps := ps) h s2
      refine ⟨?_, r2⟩
      rw [List.reverse_cons, runL_append, r1]
      show runL l1 [x] = some l
      rw [runL_one, s1]
/-- the fewest exchanges lead there -/
theorem tape_run : ∀ (k : Nat) {l r : List (Int × Int)}, Two l r → (F l r).toNat = k → runL l (tapeL l r) = some r
  | 0, l, r, h, e => by
    have := (F_nonneg h.1).1
    rw [tape_none h (near_zero h (by omega)), F_zero h.1 (by omega)]
    rfl
  | k + 1, l, r, h, e => by
    have ne : ringsL (fol l r) l.length ≠ [] := fun z => by have := (F_nonneg h.1).2.mpr z; omega
    obtain ⟨x, hx⟩ := near_some h ne
    obtain ⟨i, j, p, q, rfl, lt, hj, hp, hq, mt, sw, tw, hF, hd⟩ := near_step h hx
    have s : stepL l ((i : Int), (j : Int)) = some (swapL l i j p q) := by
      have := stepL_of (l := l) (i := (i : Int)) (j := (j : Int)) (p := p) (q := q) ⟨by omega, by omega⟩ ⟨by omega, by omega⟩ (by rw [Int.toNat_natCast]; exact hp) (by rw [Int.toNat_natCast]; exact hq) (by omega) mt
      rwa [Int.toNat_natCast, Int.toNat_natCast] at this
    rw [tape_step h hx, sw]
    show ((stepL l _).bind fun l' => runL l' (tapeL (swapL l i j p q) r)) = some r
    rw [s]
    exact tape_run k tw (by omega)
/-! histories: undone from the last arrival on -/
/-- two change their days -/
def swapN (l : List (Int × Int)) (i j : Nat) : List (Int × Int) := match l[i]?, l[j]? with
  | some p, some q => swapL l i j p q
  | _, _ => l
theorem swapN_at {l : List (Int × Int)} {i j : Nat} {p q : Int × Int} (hi : l[i]? = some p) (hj : l[j]? = some q) : swapN l i j = swapL l i j p q := by
  unfold swapN
  rw [hi, hj]
/-- what undoes goal until it is l: guest after guest of q -/
def hist : List Nat → List (Int × Int) → List (Int × Int) → List (Nat × Nat)
  | [], _, _ => []
  | x :: q, l, g => if fol g l x = x then hist q l g else (x, fol g l x) :: hist q l (swapN g x (fol g l x))
/-- what is known before x and the rest of q are undone -/
structure Und (l g : List (Int × Int)) (done q : List Nat) : Prop where
  lead : Lead l g
  fl : Fit l
  fg : Fit g
  ord : (ordL l).reverse = done ++ q
  same : ∀ y ∈ done, g[y]? = l[y]?
theorem und_mem {l g : List (Int × Int)} {done q : List Nat} (h : Und l g done q) {y : Nat} (hy : y < l.length) : y ∈ done ∨ y ∈ q := by
  have : y ∈ (ordL l).reverse := List.mem_reverse.mpr (ordL_mem.mpr hy)
  rw [h.ord] at this
  exact List.mem_append.mp this
theorem und_nd {l g : List (Int × Int)} {done q : List Nat} (h : Und l g done q) : (done ++ q).Nodup := by
  rw [← h.ord]
  exact (List.reverse_perm _).nodup_iff.mpr (ordL_nd l)
/-- the mate: himself, or one who arrived before him -/
theorem und_mate {l g : List (Int × Int)} {done q : List Nat} {x : Nat} (h : Und l g done (x :: q)) : x < l.length ∧ fol g l x < l.length ∧ (fol g l x = x ∨ (fol g l x ∈ q ∧ fol g l x ≠ x ∧ aheadB l (fol g l x) x = true)) := by
  have hx : x < l.length := by
    have : x ∈ (ordL l).reverse := by rw [h.ord]; exact List.mem_append_right _ List.mem_cons_self
    exact ordL_mem.mp (List.mem_reverse.mp this)
  have hlen := h.lead.len
  have hm : fol g l x < l.length := by rw [hlen]; exact fol_lt h.lead.symm (by rw [← hlen]; exact hx)
  refine ⟨hx, hm, ?_⟩
  by_cases c : fol g l x = x
  · exact Or.inl c
  · right
    obtain ⟨d, hd⟩ := day_at hx
    have hf := fol_at h.lead.symm hd
    rcases und_mem h hm with w | w
    · exfalso
      have s := h.same _ w
      rw [List.getElem?_map, s, ← List.getElem?_map] at hf
      exact c (nodup_at h.lead.2.2 hf hd)
    · rcases List.mem_cons.mp w with w | w
      · exact absurd w c
      · refine ⟨w, c, ?_⟩
        have pw := (ordL_ok l).2
        have e : ordL l = (done ++ x :: q).reverse := by rw [← h.ord, List.reverse_reverse]
        rw [e, List.pairwise_reverse, List.pairwise_append, List.pairwise_cons] at pw
        exact pw.2.1.1 _ w
theorem und_keep {l g : List (Int × Int)} {done q : List Nat} {x : Nat} (h : Und l g done (x :: q)) (c : fol g l x = x) : Und l g (done ++ [x]) q := by
  refine ⟨h.lead, h.fl, h.fg, by rw [h.ord, List.append_assoc]; rfl, fun y hy => ?_⟩
  rcases List.mem_append.mp hy with hy | hy
  · exact h.same y hy
  · rw [List.mem_singleton.mp hy]
    obtain ⟨hx, _, _⟩ := und_mate h
    obtain ⟨d, hd⟩ := day_at hx
    have hf := fol_at h.lead.symm hd
    rw [c] at hf
    obtain ⟨p, hp⟩ : ∃ p, l[x]? = some p := ⟨l[x], by simp [hx]⟩
    obtain ⟨p2, hp2⟩ : ∃ p, g[x]? = some p := ⟨g[x]'(by rw [← h.lead.len]; exact hx), by simp [show x < g.length by rw [← h.lead.len]; exact hx]⟩
    rw [List.getElem?_map, hp] at hd
    rw [List.getElem?_map, hp2] at hf
    have x1 : (l.map Prod.fst)[x]? = some p.1 := by rw [List.getElem?_map, hp]; rfl
    have x2 : (g.map Prod.fst)[x]? = some p2.1 := by rw [List.getElem?_map, hp2]; rfl
    rw [h.lead.1, x2] at x1
    have e1 : p2.1 = p.1 := Option.some.inj x1
    have e2 : p2.2 = p.2 := (Option.some.inj hf).trans (Option.some.inj hd).symm
    rw [hp, hp2]
    exact congrArg some (Prod.ext e1 e2)
/-- one exchange is undone -/
theorem und_step {l g : List (Int × Int)} {done q : List Nat} {x : Nat} (h : Und l g done (x :: q)) (c : fol g l x ≠ x) : ∃ p pm p0, g[x]? = some p ∧ g[fol g l x]? = some pm ∧ l[x]? = some p0 ∧ p.1 = p0.1 ∧ pm.2 = p0.2 ∧ meets p pm = true ∧ swapN g x (fol g l x) = swapL g x (fol g l x) p pm ∧ Und l (swapL g x (fol g l x) p pm) (done ++ [x]) q := by
  obtain ⟨hx, hm, hc⟩ := und_mate h
  rcases hc with hc | ⟨hq, _, ha⟩
  · exact absurd hc c
  have hlen := h.lead.len
  obtain ⟨p, hp⟩ : ∃ p, g[x]? = some p := ⟨g[x]'(by omega), by simp [show x < g.length by omega]⟩
  obtain ⟨pm, hpm⟩ : ∃ p, g[fol g l x]? = some p := ⟨g[fol g l x]'(by omega), by simp [show fol g l x < g.length by omega]⟩
  obtain ⟨p0, hp0⟩ : ∃ p, l[x]? = some p := ⟨l[x], by simp [hx]⟩
  obtain ⟨m0, hm0⟩ : ∃ p, l[fol g l x]? = some p := ⟨l[fol g l x]'hm, by simp [hm]⟩
  have fst : ∀ {k : Nat} {a b : Int × Int}, l[k]? = some a → g[k]? = some b → b.1 = a.1 := fun {k a b} h1 h2 => by
    have x1 : (l.map Prod.fst)[k]? = some a.1 := by rw [List.getElem?_map, h1]; rfl
    have x2 : (g.map Prod.fst)[k]? = some b.1 := by rw [List.getElem?_map, h2]; rfl
    rw [h.lead.1, x2] at x1
    exact Option.some.inj x1
  have ex := fst hp0 hp
  have em := fst hm0 hpm
  have hf := fol_at h.lead.symm (i := x) (d := p0.2) (by rw [List.getElem?_map, hp0]; rfl)
  rw [List.getElem?_map, hpm] at hf
  have e2 : pm.2 = p0.2 := Option.some.inj hf
  have al := ahead_iff.mp ha
  rw [ar_at hp0, ar_at hm0] at al
  have f0 := h.fl p0 (List.mem_of_getElem? hp0)
  have fp := h.fg p (List.mem_of_getElem? hp)
  have mt : meets p pm = true := by
    unfold meets
    rw [Bool.and_eq_true, decide_eq_true_eq, decide_eq_true_eq]
    omega
  have nn : x ≠ fol g l x := fun z => c z.symm
  have sl := swap_lead nn hp hpm h.lead.symm.2.2
  refine ⟨p, pm, p0, hp, hpm, hp0, ex, e2, mt, swapN_at hp hpm, h.lead.trans sl, h.fl, fun y hy => ?_, by rw [h.ord, List.append_assoc]; rfl, fun y hy => ?_⟩
  · have mm := mt
    unfold meets at mm
    rw [Bool.and_eq_true, decide_eq_true_eq, decide_eq_true_eq] at mm
    unfold swapL at hy
    rcases List.mem_or_eq_of_mem_set hy with hy | rfl
    · rcases List.mem_or_eq_of_mem_set hy with hy | rfl
      · exact h.fg y hy
      · exact mm.1
    · exact mm.2
  · have nd := und_nd h
    rw [List.nodup_append] at nd
    rcases List.mem_append.mp hy with hy | hy
    · have n1 : y ≠ x := fun z => nd.2.2 y hy x List.mem_cons_self z
      have n2 : y ≠ fol g l x := fun z => nd.2.2 y hy _ (List.mem_cons_of_mem _ hq) z
      unfold swapL
      rw [List.getElem?_set_ne (fun z => n2 z.symm), List.getElem?_set_ne (fun z => n1 z.symm)]
      exact h.same y hy
    · rw [List.mem_singleton.mp hy, swap_i nn hp, hp0]
      exact congrArg some (Prod.ext ex e2)
theorem und_start {l g : List (Int × Int)} (h : Lead l g) (fl : Fit l) (fg : Fit g) : Und l g [] (ordL l).reverse := ⟨h, fl, fg, rfl, fun _ hy => absurd hy (by simp)⟩
theorem und_end {l g : List (Int × Int)} {done : List Nat} (h : Und l g done []) : g = l := by
  refine List.ext_getElem? fun i => ?_
  by_cases c : i < l.length
  · rcases und_mem h c with w | w
    · exact h.same i w
    · cases w
  · rw [List.getElem?_eq_none (by rw [← h.lead.len]; omega), List.getElem?_eq_none (by omega)]
/-- a row of changes of days -/
def runN : List (Int × Int) → List (Nat × Nat) → List (Int × Int)
  | l, [] => l
  | l, x :: t => runN (swapN l x.1 x.2) t
theorem runN_append : ∀ (a b : List (Nat × Nat)) (l : List (Int × Int)), runN l (a ++ b) = runN (runN l a) b
  | [], _, _ => rfl
  | x :: a, b, l => runN_append a b (swapN l x.1 x.2)
theorem swapN_back {g : List (Int × Int)} {i j : Nat} {p q : Int × Int} (ne : i ≠ j) (hi : g[i]? = some p) (hj : g[j]? = some q) : swapN (swapL g i j p q) i j = g := by
  rw [swapN_at (swap_i ne hi) (swap_j hj)]
  exact swap_swap ne hi hj
/-- what a history's entry (x, m) is, at the stays here: x is of q, m before him and there on his day -/
def EntOk (l : List (Int × Int)) (q : List Nat) (here : List (Int × Int)) (e : Nat × Nat) : Prop := e.1 ∈ q ∧ e.2 ≠ e.1 ∧ aheadB l e.2 e.1 = true ∧ ∃ p pm, here[e.1]? = some p ∧ here[e.2]? = some pm ∧ p.1 ≤ pm.2
/-- the history forth: it leads from l to g, each entry is right where it stands, and the guests come in order -/
theorem hist_forth : ∀ (q done : List Nat) (l g : List (Int × Int)), Und l g done q → runN l (hist q l g).reverse = g ∧ (∀ a e b, (hist q l g).reverse = a ++ e :: b → EntOk l q (runN l a) e) ∧ (((hist q l g).map Prod.fst).Sublist q)
  | [], done, l, g, h => ⟨(und_end h).symm, fun a e b z => by simp [hist] at z, List.Sublist.refl _⟩
  | x :: q, done, l, g, h => by
    by_cases c : fol g l x = x
    · obtain ⟨h1, h2, h3⟩ := hist_forth q (done ++ [x]) l g (und_keep h c)
      have e : hist (x :: q) l g = hist q l g := by
        show (if fol g l x = x then hist q l g else _) = _
        rw [if_pos c]
      rw [e]
      exact ⟨h1, fun a y b z => let ⟨k1, k2⟩ := h2 a y b z; ⟨List.mem_cons_of_mem _ k1, k2⟩, h3.cons _⟩
    · obtain ⟨p, pm, p0, hp, hpm, hp0, ex, e2, mt, sw, un⟩ := und_step h c
      obtain ⟨h1, h2, h3⟩ := hist_forth q (done ++ [x]) l (swapL g x (fol g l x) p pm) un
      obtain ⟨hx, hm, hc⟩ := und_mate h
      have nn : x ≠ fol g l x := fun z => c z.symm
      have e : hist (x :: q) l g = (x, fol g l x) :: hist q l (swapL g x (fol g l x) p pm) := by
        show (if fol g l x = x then hist q l g else (x, fol g l x) :: hist q l (swapN g x (fol g l x))) = _
        rw [if_neg c, sw]
      rw [e, List.reverse_cons]
      refine ⟨?_, fun a y b z => ?_, ?_⟩
      · rw [runN_append, h1]
        exact swapN_back nn hp hpm
      · rcases List.eq_nil_or_concat b with rfl | ⟨b', w, rfl⟩
        · have z' := List.append_inj' z rfl
          have ey : (x, fol g l x) = y := by have := z'.2; simpa using this
          rw [← z'.1, h1, ← ey]
          rcases hc with hc | ⟨_, _, ha⟩
          · exact absurd hc c
          refine ⟨List.mem_cons_self, c, ha, (p.1, pm.2), (pm.1, p.2), swap_i nn hp, swap_j hpm, ?_⟩
          exact h.fg p (List.mem_of_getElem? hp)
        · have z2 : (hist q l (swapL g x (fol g l x) p pm)).reverse ++ [(x, fol g l x)] = (a ++ y :: b') ++ [w] := by rw [z]; simp
          have z' := List.append_inj' z2 rfl
          obtain ⟨k1, k2⟩ := h2 a y b' z'.1
          exact ⟨List.mem_cons_of_mem _ k1, k2⟩
      · rw [List.map_cons]
        exact h3.cons_cons x
theorem swapN_fst (l : List (Int × Int)) (i j : Nat) : (swapN l i j).map Prod.fst = l.map Prod.fst := by
  have same : ∀ {L : List Int} {k : Nat} {x : Int}, L[k]? = some x → L.set k x = L := fun {L k x} h => by
    obtain ⟨a, rfl⟩ := List.getElem?_eq_some_iff.mp h
    exact List.set_getElem_self a
  cases hi : l[i]? with
  | none => unfold swapN; rw [hi]
  | some p =>
    cases hj : l[j]? with
    | none => unfold swapN; rw [hi, hj]
    | some q =>
      have hi1 : (l.map Prod.fst)[i]? = some p.1 := by rw [List.getElem?_map, hi]; rfl
      have hj1 : (l.map Prod.fst)[j]? = some q.1 := by rw [List.getElem?_map, hj]; rfl
      rw [swapN_at hi hj]
      unfold swapL
      rw [List.map_set, List.map_set]
      show ((l.map Prod.fst).set i p.1).set j q.1 = _
      rw [same hi1, same hj1]
theorem runN_fst : ∀ (t : List (Nat × Nat)) (l : List (Int × Int)), (runN l t).map Prod.fst = l.map Prod.fst
  | [], _ => rfl
  | x :: t, l => (runN_fst t (swapN l x.1 x.2)).trans (swapN_fst l x.1 x.2)
theorem ar_fst {l r : List (Int × Int)} (h : r.map Prod.fst = l.map Prod.fst) (m : Nat) : ar r m = ar l m := by
  have e : ∀ l : List (Int × Int), ar l m = (l.map Prod.fst).getD m 0 := fun l => by
    unfold ar
    rw [List.getD_eq_getElem?_getD, List.getD_eq_getElem?_getD, List.getElem?_map]
    cases l[m]? <;> rfl
  rw [e, e, h]
theorem ahead_fst {l r : List (Int × Int)} (h : r.map Prod.fst = l.map Prod.fst) (x y : Nat) : aheadB r x y = aheadB l x y := by
  unfold aheadB
  rw [ar_fst h, ar_fst h]
def SameAt (l l' : List (Int × Int)) (i : Nat) : Prop := ∀ p q, l[i]? = some p → l'[i]? = some q → p.1 = q.1
def PermD (l l' : List (Int × Int)) : Prop := (l.map Prod.snd).Perm (l'.map Prod.snd)
/-- why l does not lead to l', of as many guests -/
def Why (l l' : List (Int × Int)) (d : D) : Prop := (∃ (k : Nat) (p q : Int × Int), l[k]? = some p ∧ l'[k]? = some q ∧ p.1 ≠ q.1 ∧ (∀ i < k, SameAt l l' i) ∧ d = .int (k : Int)) ∨ ((∀ i, SameAt l l' i) ∧ ((PermD l l' ∧ d = .non) ∨ (¬ PermD l l' ∧ d = .str "days")))
theorem Why.one {l l' : List (Int × Int)} {d e : D} (h : Why l l' d) (g : Why l l' e) : d = e := by
  rcases h with ⟨k, p, q, h1, h2, h3, h4, rfl⟩ | ⟨h1, h2⟩ <;> rcases g with ⟨k', p', q', g1, g2, g3, g4, rfl⟩ | ⟨g1, g2⟩
  · have : k = k' := by
      by_cases a : k < k'
      · exact absurd (g4 k a p q h1 h2) h3
      · by_cases b : k' < k
        · exact absurd (h4 k' b p' q' g1 g2) g3
        · omega
    rw [this]
  · exact absurd (g1 k p q h1 h2) h3
  · exact absurd (h1 k' p' q' g1 g2) g3
  · rcases h2 with ⟨a, rfl⟩ | ⟨a, rfl⟩ <;> rcases g2 with ⟨b, rfl⟩ | ⟨b, rfl⟩
    · rfl
    · exact absurd a b
    · exact absurd b a
    · rfl
def C_as_tuples : DCon := fun b ds n P PX => ∃ d l, ds = [d] ∧ Ln d l ∧ l.length ≤ 100000 ∧ P (.tup (l.map pr)) n
def C_check_guest : DCon := fun b ds n P PX => ∃ d l g, ds = [d, .int g] ∧ Ln d l ∧ 0 ≤ g ∧ g < l.length ∧ P .non n
def C_share_day : DCon := fun b ds n P PX => ∃ d l i j p q, ds = [d, .int i, .int j] ∧ Ln d l ∧ 0 ≤ i ∧ 0 ≤ j ∧ l[i.toNat]? = some p ∧ l[j.toNat]? = some q ∧ P (.bl (meets p q)) n
def C_exchanges : DCon := fun b ds n P PX => ∃ d l, ds = [d] ∧ Ln d l ∧ l.length ≤ 300 ∧ P (.lst ((duos l).map pr)) n
def C_exchanged : DCon := fun b ds n P PX => ∃ d l i j p q, ds = [d, .int i, .int j] ∧ Ln d l ∧ l.length ≤ 100000 ∧ 0 ≤ i ∧ 0 ≤ j ∧ l[i.toNat]? = some p ∧ l[j.toNat]? = some q ∧ i ≠ j ∧ meets p q = true ∧ P (.tup ((swapL l i.toNat j.toNat p q).map pr)) n
def C_order_of : DCon := fun b ds n P PX => ∃ d l, ds = [d] ∧ Ln d l ∧ l.length ≤ 1000 ∧ P (.lst ((ordL l).map natD)) n
def C_mates_of : DCon := fun b ds n P PX => ∃ d l g p, ds = [d, .int ((g : Nat) : Int)] ∧ Ln d l ∧ l.length ≤ 1000 ∧ l[g]? = some p ∧ P (.lst ((matesL l g).map natD)) n
def C_check_as_many : DCon := fun b ds n P PX => ∃ d e l l', ds = [d, e] ∧ Ln d l ∧ Ln e l' ∧ l.length = l'.length ∧ P .non n
def C_bar : DCon := fun b ds n P PX => ∃ d e l l', ds = [d, e] ∧ Ln d l ∧ Ln e l' ∧ l.length ≤ 1000 ∧ l.length = l'.length ∧ ∀ x, Why l l' x → P x n
def C_check_leads : DCon := fun b ds n P PX => ∃ d e l l', ds = [d, e] ∧ Ln d l ∧ Ln e l' ∧ l.length ≤ 1000 ∧ l.map Prod.fst = l'.map Prod.fst ∧ (l.map Prod.snd).Perm (l'.map Prod.snd) ∧ P .non n
def Leads25 (l l' : List (Int × Int)) : Prop := l.map Prod.fst = l'.map Prod.fst ∧ (l.map Prod.snd).Perm (l'.map Prod.snd)
def C_leads : DCon := fun b ds n P PX => ∃ d e l l', ds = [d, e] ∧ Ln d l ∧ Ln e l' ∧ l.length ≤ 1000 ∧ l.length = l'.length ∧ ∀ b : Bool, (b = true ↔ Leads25 l l') → P (.bl b) n
theorem why_none {l l' : List (Int × Int)} (h1 : l.map Prod.fst = l'.map Prod.fst) (h2 : (l.map Prod.snd).Perm (l'.map Prod.snd)) : Why l l' .non := by
  refine Or.inr ⟨fun i p q hp hq => ?_, Or.inl ⟨h2, rfl⟩⟩
  have a : (l.map Prod.fst)[i]? = some p.1 := by rw [List.getElem?_map, hp]; rfl
  have b : (l'.map Prod.fst)[i]? = some q.1 := by rw [List.getElem?_map, hq]; rfl
  rw [h1, b] at a
  exact (Option.some.inj a).symm
def C__ring : DCon := fun b ds n P PX => ∃ (f : Nat → Nat) (N g : Nat), ds = [.lst ((List.range N).map fun i => natD (f i)), .int (g : Int)] ∧ Perm0 f N ∧ g < N ∧ N ≤ 1000 ∧ P (ringD (ringOf f g)) n
def C_rings : DCon := fun b ds n P PX => ∃ d e l r, ds = [d, e] ∧ Ln d l ∧ Ln e r ∧ Lead l r ∧ l.length ≤ 100 ∧ P (.lst ((ringsL (fol l r) l.length).map ringD)) n
def C_distance : DCon := fun b ds n P PX => ∃ d e l r, ds = [d, e] ∧ Ln d l ∧ Ln e r ∧ Lead l r ∧ l.length ≤ 100 ∧ P (.int (farOf (ringsL (fol l r) l.length))) n
/-- a history's entries as the program tells them, forth -/
def entD (l : List (Int × Int)) (e : Nat × Nat) : D := .tup [.int (ar l e.1), natD e.1, natD e.2]
def taleL (l g : List (Int × Int)) : List (Nat × Nat) := (hist (ordL l).reverse l g).reverse
def C_history : DCon := fun b ds n P PX => ∃ d e l r, ds = [d, e] ∧ Ln d l ∧ Ln e r ∧ Lead l r ∧ Fit l ∧ Fit r ∧ l.length ≤ 100 ∧ P (.tup ((taleL l r).map (entD l))) n
theorem okIn_nat (R : List Nat) : pureDs (R.map natD) = true ∧ PyData.canLayAll0 (toPs (R.map natD)) = true ∧ PyData.depthAll (toPs (R.map natD)) ≤ 0 := by
  induction R with
  | nil => exact ⟨rfl, rfl, Nat.le_refl _⟩
  | cons p R ih =>
    obtain ⟨a, b, c⟩ := ih
    refine ⟨a, b, ?_⟩
    show max 0 (PyData.depthAll (toPs (R.map natD))) ≤ 0
    omega
theorem ok_rings (G : List (List Nat)) : okD (.lst (G.map ringD)) = true := by
  have all : pureDs (G.map ringD) = true ∧ PyData.canLayAll0 (toPs (G.map ringD)) = true ∧ PyData.depthAll (toPs (G.map ringD)) ≤ 1 := by
    induction G with
    | nil => exact ⟨rfl, rfl, Nat.zero_le _⟩
    | cons r G ih =>
      obtain ⟨a, b, c⟩ := ih
      obtain ⟨a', b', c'⟩ := okIn_nat r
      refine ⟨?_, ?_, ?_⟩
      · show (pureDs (r.map natD) && pureDs (G.map ringD)) = true
        rw [a, a']; rfl
      · show (PyData.canLayAll0 (toPs (r.map natD)) && PyData.canLayAll0 (toPs (G.map ringD))) = true
        rw [b, b']; rfl
      · show max (PyData.depthAll (toPs (r.map natD)) + 1) (PyData.depthAll (toPs (G.map ringD))) ≤ 1
        omega
  obtain ⟨a, b, c⟩ := all
  show (pureDs (G.map ringD) && (PyData.canLayAll0 (toPs (G.map ringD)) && decide (PyData.depthAll (toPs (G.map ringD)) + 1 ≤ 64))) = true
  rw [a, b, decide_eq_true (show PyData.depthAll (toPs (G.map ringD)) + 1 ≤ 64 by omega)]
  rfl
theorem ok_lineT7 (l : List (Int × Int)) : okD (.tup (l.map pr)) = true := by
  obtain ⟨a, b, c⟩ := okIn_line l
  unfold DL.okD
  rw [show pureD (.tup (l.map pr)) = true from a, Bool.true_and]
  show (PyData.canLayAll0 (toPs (l.map pr)) && decide (PyData.depthAll (toPs (l.map pr)) + 1 ≤ 64)) = true
  rw [b, decide_eq_true (by omega)]
  rfl
theorem far_len : ∀ L : List (List Nat), farOf L = (L.map fun R => (R.length : Int)).sum - (L.length : Int)
  | [] => rfl
  | R :: L => by
    have ih := far_len L
    unfold farOf at ih ⊢
    rw [List.map_cons, List.sum_cons, List.map_cons, List.sum_cons, List.length_cons, ih]
    omega
theorem near_ring {l r : List (Int × Int)} {x : Int × Int} (h : Two l r) (e : nearerL l r = some x) : ∃ R ∈ ringsL (fol l r) l.length, x.1 ∈ cstL R ∧ x.2 ∈ cstL R := by
  unfold nearerL at e
  cases w : ringsL (fol l r) l.length with
  | nil => rw [w] at e; cases e
  | cons R t =>
    rw [w] at e
    have hx : x ∈ (duos l).filter fun x => decide (x.1 ∈ cstL R) && decide (x.2 ∈ cstL R) := List.mem_of_mem_head? e
    obtain ⟨hd, hm⟩ := List.mem_filter.mp hx
    rw [Bool.and_eq_true, decide_eq_true_eq, decide_eq_true_eq] at hm
    exact ⟨R, List.mem_cons_self, hm.1, hm.2⟩
def C_run : DCon := fun b ds n P PX => ∃ d l l' ps, ds = [d, .lst (ps.map pr)] ∧ Ln d l ∧ runL l ps = some l' ∧ l.length ≤ 1000 ∧ ps.length ≤ 1000 ∧ P (.tup (l'.map pr)) n
def C_is_integers : DCon := fun b ds n P PX => ∃ xs : List Int, ds = [.tup (xs.map D.int), .int (xs.length : Int)] ∧ xs.length ≤ 3 ∧ P (.bl true) n
def C_is_way : DCon := fun b ds n P PX => ∃ d e l r ps, ds = [d, e, .lst (ps.map pr)] ∧ Ln d l ∧ Ln e r ∧ runL l ps = some r ∧ l.length ≤ 1000 ∧ ps.length ≤ 1000 ∧ P (.bl true) n
theorem cmw {x y : Int} (hx : x.natAbs < 2 ^ 400) (hy : y.natAbs < 2 ^ 400) : CMulW x y := by
  have key : ∀ n : Nat, n < 2 ^ 400 → n.log2 < 1000 := fun n h => by
    by_cases z : n = 0
    · rw [z]; decide
    · exact (Nat.log2_lt z).mpr (Nat.lt_of_lt_of_le h (Nat.pow_le_pow_right (by decide) (by decide)))
  have h1 := key _ hx
  have h2 := key _ hy
  show x.natAbs.log2 + y.natAbs.log2 < 1000000
  omega
/-! sorted -/
theorem lexR_tri : ∀ r s : List (Int × Int), lexR r s = true ∨ r = s ∨ lexR s r = true
  | [], [] => Or.inr (Or.inl rfl)
  | [], _ :: _ => Or.inl rfl
  | _ :: _, [] => Or.inr (Or.inr rfl)
  | p :: r, q :: s => by
    by_cases e : p = q
    · subst e
      have e1 : ∀ a b, lexR (p :: a) (p :: b) = lexR a b := fun a b => by show (if p = p then lexR a b else _) = _; rw [if_pos rfl]
      rw [e1, e1]
      rcases lexR_tri r s with h | h | h
      · exact Or.inl h
      · exact Or.inr (Or.inl (by rw [h]))
      · exact Or.inr (Or.inr h)
    · have e1 : lexR (p :: r) (q :: s) = decide (p.1 < q.1 ∨ (p.1 = q.1 ∧ p.2 < q.2)) := by show (if p = q then _ else _) = _; rw [if_neg e]
      have e2 : lexR (q :: s) (p :: r) = decide (q.1 < p.1 ∨ (q.1 = p.1 ∧ q.2 < p.2)) := by show (if q = p then _ else _) = _; rw [if_neg fun z => e z.symm]
      rw [e1, e2, decide_eq_true_eq, decide_eq_true_eq]
      have : p.1 ≠ q.1 ∨ p.2 ≠ q.2 := by
        by_cases c : p.1 = q.1
        · exact Or.inr fun z => e (Prod.ext c z)
        · exact Or.inl c
      omega
theorem lexR_trans : ∀ r s t : List (Int × Int), lexR r s = true → lexR s t = true → lexR r t = true
  | [], [], _, h, _ => by cases h
  | [], _ :: _, [], _, h => by cases h
  | [], _ :: _, _ :: _, _, _ => rfl
  | _ :: _, [], _, h, _ => by cases h
  | _ :: _, _ :: _, [], _, h => by cases h
  | p :: r, q :: s, u :: t, h1, h2 => by
    have h1 : (if p = q then lexR r s else decide (p.1 < q.1 ∨ (p.1 = q.1 ∧ p.2 < q.2))) = true := h1
    have h2 : (if q = u then lexR s t else decide (q.1 < u.1 ∨ (q.1 = u.1 ∧ q.2 < u.2))) = true := h2
    show (if p = u then lexR r t else decide (p.1 < u.1 ∨ (p.1 = u.1 ∧ p.2 < u.2))) = true
    by_cases a : p = q
    · subst a
      rw [if_pos rfl] at h1
      by_cases b : p = u
      · rw [if_pos b] at h2 ⊢
        exact lexR_trans r s t h1 h2
      · rw [if_neg b] at h2 ⊢
        exact h2
    · rw [if_neg a, decide_eq_true_eq] at h1
      by_cases b : q = u
      · subst b
        rw [if_neg a]
        exact decide_eq_true h1
      · rw [if_neg b, decide_eq_true_eq] at h2
        by_cases c : p = u
        · exfalso
          subst c
          omega
        · rw [if_neg c, decide_eq_true_eq]
          omega
theorem sorted_rows {H L : List (List (Int × Int))} (p : H.Perm L) (asc : L.Pairwise fun r s => lexR r s = true) : H.mergeSort (fun r s => !lexR s r) = L := by
  have le_tr : ∀ a b c : List (Int × Int), (!lexR b a) = true → (!lexR c b) = true → (!lexR c a) = true := fun a b c h1 h2 => by
    rw [Bool.not_eq_true'] at h1 h2 ⊢
    refine Bool.eq_false_iff.mpr fun h3 => ?_
    rcases lexR_tri a b with w | w | w
    · have := lexR_trans c a b h3 w
      rw [this] at h2; cases h2
    · subst w
      rw [h3] at h2; cases h2
    · rw [w] at h1; cases h1
  have le_tot : ∀ a b : List (Int × Int), ((!lexR b a) || (!lexR a b)) = true := fun a b => by
    cases h : lexR b a with
    | false => rfl
    | true => rw [lexR_asy _ _ h]; rfl
  have srt := List.pairwise_mergeSort (le := fun r s => !lexR s r) le_tr le_tot H
  have pm := (List.mergeSort_perm H (fun r s => !lexR s r)).trans p
  have go : ∀ {A B : List (List (Int × Int))}, A.Perm B → A.Pairwise (fun r s => (!lexR s r) = true) → B.Pairwise (fun r s => lexR r s = true) → A = B := by
    intro A
    induction A with
    | nil => intro B p _ _; exact (p.symm.eq_nil).symm
    | cons a A ih =>
      intro B p hA hB
      cases B with
      | nil => exact absurd p.eq_nil (by simp)
      | cons b B =>
        have hA := List.pairwise_cons.mp hA
        have hB := List.pairwise_cons.mp hB
        have e : a = b := by
          rcases List.mem_cons.mp (p.mem_iff.mp List.mem_cons_self) with z | z
          · exact z
          · rcases List.mem_cons.mp (p.mem_iff.mpr List.mem_cons_self : b ∈ a :: A) with y | y
            · exact y.symm
            · have h1 := hA.1 b y
              rw [hB.1 a z] at h1; cases h1
        subst e
        rw [ih (List.Perm.cons_inv p) hA.2 hB.2]
  exact go pm srt asc
theorem sorted_rowsD {n : Nat} {H L : List (List (Int × Int))} (p : H.Perm L) (asc : L.Pairwise fun r s => lexR r s = true) (hl : ∀ r ∈ H, r.length = n) : (H.map rowD).mergeSort (PySem.W.dataLe false toP) = L.map rowD := by
  rw [← List.map_mergeSort (r := fun r s => !lexR s r) (s := PySem.W.dataLe false toP) (f := rowD) (fun a ha b hb => ?_), sorted_rows p asc]
  rw [PySem.W.dataLe_eq]
  show (!lexR b a) = !PySem.W.dataLt (toP (.tup (b.map pr))) (toP (.tup (a.map pr)))
  rw [dataLt_row _ _ (by rw [hl a ha, hl b hb])]
theorem df_sortRows {A : Amb} {te : TE} {ρ : Rho} {n : Nat} {P : List D → Nat → Prop} (h : DE A te ρ n fun d m => ∃ (N : Nat) (H L : List (List (Int × Int))), d = .lst (H.map rowD) ∧ H.Perm L ∧ L.Pairwise (fun r s => lexR r s = true) ∧ (∀ r ∈ H, r.length = N) ∧ (N = 0 → H.length ≤ 1) ∧ P (L.map rowD) m) : DF A (tCB (rSortDD A.K) (tCons te tNil)) ρ n P :=
  df_sortAll (h.imp fun d m ⟨N, H, L, hd, hp, ha, hl, h0, p⟩ => ⟨_, hd, by
    by_cases c : N = 0
    · left
      have h1 := h0 c
      refine ⟨by rw [List.length_map]; exact h1, ?_⟩
      have e : H = L := by
        match H, h1, hp with
        | [], _, hp => exact hp.symm.eq_nil.symm
        | [a], _, hp => exact (List.perm_singleton.mp hp.symm).symm
        | a :: b :: H, h1, _ => simp at h1
      rw [e]; exact p
    · right
      refine ⟨fun x hx => ?_, fun x hx y hy => ?_, Or.inl fun x hx => ?_, ?_⟩
      · obtain ⟨r, _, rfl⟩ := List.mem_map.mp hx
        exact ⟨pure_line r, depth_line r⟩
      · obtain ⟨x', hx', rfl⟩ := List.mem_map.mp hx
        obtain ⟨y', hy', rfl⟩ := List.mem_map.mp hy
        obtain ⟨r, _, rfl⟩ := List.mem_map.mp hx'
        obtain ⟨s, _, rfl⟩ := List.mem_map.mp hy'
        exact alike_row r s
      · obtain ⟨x', hx', rfl⟩ := List.mem_map.mp hx
        obtain ⟨r, hr, rfl⟩ := List.mem_map.mp hx'
        have := hl r hr
        cases r with
        | nil => exact absurd this.symm c
        | cons q r => exact ⟨toP (pr q), toPs (r.map pr), rfl⟩
      · rw [sorted_rowsD hp ha hl]
        exact p⟩)
/-- so many ways to deal out k of n days that nobody's arrival forbids -/
def descI : Nat → Nat → Int
  | _, 0 => 1
  | n, k + 1 => (n : Int) * descI (n - 1) k
theorem les_len1 {d : Int} {L : List Int} (nd : L.Nodup) (h : d ∈ L) : (les d L).length = L.length - 1 := by
  have e : les d L = L.erase d := by
    unfold les
    rw [nd.erase_eq_filter]
    refine List.filter_congr fun y _ => ?_
    by_cases c : y = d <;> simp [c]
  rw [e, List.length_erase_of_mem h]
theorem cntW_free : ∀ (A : List Int) {L : List Int}, L.Nodup → (∀ a ∈ A, ∀ d ∈ L, a ≤ d) → cntW A L = descI L.length A.length
  | [], L, _, _ => rfl
  | a :: A, L, nd, h => by
    show ((L.filter fun d => decide (a ≤ d)).map fun d => cntW A (les d L)).sum = (L.length : Int) * descI (L.length - 1) A.length
    rw [List.filter_eq_self.mpr fun d hd => decide_eq_true (h a List.mem_cons_self d hd)]
    rw [sum_congr (g := fun _ => descI (L.length - 1) A.length) fun d hd => by
      rw [cntW_free A (les_nodup nd) fun b hb e he => h b (List.mem_cons_of_mem _ hb) e (List.mem_filter.mp he).1, les_len1 nd hd]]
    have e : ∀ q : List Int, (q.map fun _ => descI (L.length - 1) A.length).sum = (q.length : Int) * descI (L.length - 1) A.length := by
      intro q
      induction q with
      | nil => simp
      | cons r q ih =>
        rw [List.map_cons, List.sum_cons, ih, List.length_cons, show ((q.length + 1 : Nat) : Int) = (q.length : Int) + 1 by omega, Int.add_mul]
        omega
    exact e L
theorem descI_nn : ∀ (n k : Nat), 0 ≤ descI n k
  | _, 0 => by show (0 : Int) ≤ 1; decide
  | n, k + 1 => by
    show 0 ≤ (n : Int) * descI (n - 1) k
    exact Int.mul_nonneg (by omega) (descI_nn (n - 1) k)
theorem sum_most {α : Type} {f : α → Int} {c : Int} : ∀ {q : List α}, (∀ x ∈ q, f x ≤ c) → (q.map f).sum ≤ (q.length : Int) * c
  | [], _ => by simp
  | x :: q, h => by
    have a := h x List.mem_cons_self
    have b := sum_most (q := q) fun y hy => h y (List.mem_cons_of_mem _ hy)
    rw [List.map_cons, List.sum_cons, List.length_cons, Int.natCast_add, Int.add_mul]
    have : ((1 : Nat) : Int) = 1 := rfl
    rw [this, Int.one_mul]
    omega
theorem cntW_most : ∀ (A : List Int) {L : List Int}, L.Nodup → cntW A L ≤ descI L.length A.length
  | [], L, _ => by show (1 : Int) ≤ 1; decide
  | a :: A, L, nd => by
    show ((L.filter fun d => decide (a ≤ d)).map fun d => cntW A (les d L)).sum ≤ (L.length : Int) * descI (L.length - 1) A.length
    have h : ∀ d ∈ L.filter fun d => decide (a ≤ d), cntW A (les d L) ≤ descI (L.length - 1) A.length := fun d hd => by
      have hd := (List.mem_filter.mp hd).1
      have := cntW_most A (L := les d L) (les_nodup nd)
      rwa [les_len1 nd hd] at this
    have s := sum_most h
    have n1 := descI_nn (L.length - 1) A.length
    have l1 := List.length_filter_le (fun d => decide (a ≤ d)) L
    exact Int.le_trans s (Int.mul_le_mul_of_nonneg_right (by omega) n1)
theorem ways5 {l : List (Int × Int)} (nd : (l.map Prod.snd).Nodup) (h : l.length ≤ 5) : waysN (l.map Prod.fst) (l.map Prod.snd) ≤ 120 := by
  rw [waysN_cnt nd]
  refine Int.le_trans (cntW_most _ nd) ?_
  rw [List.length_map, List.length_map]
  generalize l.length = n at h
  match n, h with
  | 0, _ => decide
  | 1, _ => decide
  | 2, _ => decide
  | 3, _ => decide
  | 4, _ => decide
  | 5, _ => decide
  | k + 6, h => omega
theorem eqv_line : ∀ (l l' : List (Int × Int)), PyData.eqv (toP (.tup (l.map pr))) (toP (.tup (l'.map pr))) = decide (l = l') := by
  have go : ∀ l l' : List (Int × Int), PyData.eqvAll (toPs (l.map pr)) (toPs (l'.map pr)) = decide (l = l') := by
    intro l
    induction l with
    | nil => intro l'; cases l' <;> rfl
    | cons p l ih =>
      intro l'
      cases l' with
      | nil => rfl
      | cons q l' =>
        show (PyData.eqv (toP (pr p)) (toP (pr q)) && PyData.eqvAll (toPs (l.map pr)) (toPs (l'.map pr))) = _
        rw [eqv_pr, ih l']
        by_cases h1 : p = q <;> by_cases h2 : l = l' <;> simp [h1, h2]
  exact go
def C_l_reached : DCon := fun b ds n P PX => ∃ l : List (Int × Int), ds = [.tup (l.map pr)] ∧ l.length ≤ 5 ∧ Fit l ∧ (l.map Prod.snd).Nodup ∧ ∀ rs : List (List (Int × Int)), rs.Perm (lotL (l.map Prod.fst) (l.map Prod.snd)) → P (.lst (rs.map rowD)) n
def C_l_right : DCon := fun b ds n P PX => ∃ a, b = some a ∧ ds = [.raw (.ref a)] ∧ n + 60000 ≤ 2 ^ 40 ∧ ∀ m, n ≤ m → m ≤ n + 60000 → P (.bl true) m
/-- a row and those one exchange further -/
def Closed (r : List (Int × Int)) (F : List (List (Int × Int))) : Prop := ∀ x ∈ duos r, swapAt r x ∈ F
/-- where each exchange stays within, all of the lot is -/
theorem closed_all {F : List (List (Int × Int))} {e : List (Int × Int)} (h : ∀ r ∈ F, Closed r F) : ∀ (k : Nat) {r : List (Int × Int)}, Two r e → (K20.F r e).toNat = k → r ∈ F → e ∈ F
  | 0, r, hT, hk, hr => by
    have f0 := (F_nonneg hT.1).1
    have := F_zero hT.1 (by omega)
    rw [← this]; exact hr
  | k + 1, r, hT, hk, hr => by
    have f0 := (F_nonneg hT.1).1
    cases w : nearerL r e with
    | none =>
      have := near_none hT w
      omega
    | some x =>
      obtain ⟨i, j, p, q, rfl, lt, hj, hpp, hq, mt, sw, tw, hFF, hd⟩ := near_step hT w
      have hm := h r hr _ hd
      rw [sw] at hm
      exact closed_all h k tw (by omega) hm
theorem lot_irr {A L : List Int} (nd : L.Nodup) : (lotL A L).Nodup := (lot_asc A nd).imp fun {a b} h e => by rw [e, lexR_irr] at h; cases h
theorem lot_mem {l r : List (Int × Int)} (nd : (l.map Prod.snd).Nodup) : r ∈ lotL (l.map Prod.fst) (l.map Prod.snd) ↔ Lead l r ∧ Fit r := by
  rw [mem_lot _ _ nd (by rw [List.length_map, List.length_map])]
  constructor
  · rintro ⟨h1, h2, h3⟩
    exact ⟨⟨h1.symm, h2.symm, nd⟩, h3⟩
  · rintro ⟨h1, h3⟩
    exact ⟨h1.1.symm, h1.2.1.symm, h3⟩
/-- one exchange further, as the program does it -/
theorem duo_step {r : List (Int × Int)} {x : Int × Int} (h : x ∈ duos r) : ∃ (i j : Nat) (p q : Int × Int), x = ((i : Int), (j : Int)) ∧ i < j ∧ j < r.length ∧ r[i]? = some p ∧ r[j]? = some q ∧ meets p q = true ∧ swapAt r x = swapL r i j p q := by
  obtain ⟨i, j, lt, hj, mt, rfl⟩ := mem_duos.mp h
  obtain ⟨p, hp⟩ : ∃ p, r[i]? = some p := ⟨r[i]'(by omega), by simp [show i < r.length by omega]⟩
  obtain ⟨q, hq⟩ : ∃ q, r[j]? = some q := ⟨r[j], by simp [hj]⟩
  unfold meetAt at mt
  rw [hp, hq] at mt
  refine ⟨i, j, p, q, rfl, lt, hj, hp, hq, mt, ?_⟩
  unfold swapAt
  rw [Int.toNat_natCast, Int.toNat_natCast, hp, hq]
theorem fit_swap {l : List (Int × Int)} {g m : Nat} {p pm : Int × Int} (fl : Fit l) (mt : meets p pm = true) : Fit (swapL l g m p pm) := fun x hx => by
  unfold meets at mt
  rw [Bool.and_eq_true, decide_eq_true_eq, decide_eq_true_eq] at mt
  unfold swapL at hx
  rcases List.mem_or_eq_of_mem_set hx with z | rfl
  · rcases List.mem_or_eq_of_mem_set z with z | rfl
    · exact fl x z
    · exact mt.1
  · exact mt.2
def rowsT (F : List (List (Int × Int))) : List (List (Int × Int) × D) := F.map fun r => (r, D.bl true)
theorem rows_val {F : List (List (Int × Int))} {r : List (Int × Int)} : (DL.valR (rowsT F) r).isSome = decide (r ∈ F) := by
  unfold DL.valR rowsT
  rw [Option.isSome_map, Bool.eq_iff_iff, List.find?_isSome, decide_eq_true_iff]
  constructor
  · rintro ⟨y, hy, e⟩
    obtain ⟨z, hz, rfl⟩ := List.mem_map.mp hy
    have e := of_decide_eq_true e
    have e : z = r := e
    rw [← e]; exact hz
  · intro h
    exact ⟨(r, .bl true), List.mem_map.mpr ⟨r, h, rfl⟩, decide_eq_true rfl⟩
theorem rows_put {F : List (List (Int × Int))} {r : List (Int × Int)} (h : r ∉ F) : DL.putR (rowsT F) r (.bl true) = rowsT (F ++ [r]) := by
  unfold DL.putR
  rw [rows_val, decide_eq_false h, if_neg Bool.false_ne_true]
  unfold rowsT
  rw [List.map_append]
  rfl
theorem row_e (r : List (Int × Int)) : rowE r = .tup (r.map pr) := rfl
theorem ok_rows (F : List (List (Int × Int))) : okD (.lst (F.map rowD)) = true := by
  have all : pureDs (F.map rowD) = true ∧ PyData.canLayAll0 (toPs (F.map rowD)) = true ∧ PyData.depthAll (toPs (F.map rowD)) ≤ 2 := by
    induction F with
    | nil => exact ⟨rfl, rfl, Nat.zero_le _⟩
    | cons r F ih =>
      obtain ⟨a, b, c⟩ := ih
      obtain ⟨a', b', c'⟩ := okIn_line r
      refine ⟨?_, ?_, ?_⟩
      · show (pureDs (r.map pr) && pureDs (F.map rowD)) = true
        rw [a, a']; rfl
      · show (PyData.canLayAll0 (toPs (r.map pr)) && PyData.canLayAll0 (toPs (F.map rowD))) = true
        rw [b, b']; rfl
      · show max (PyData.depthAll (toPs (r.map pr)) + 1) (PyData.depthAll (toPs (F.map rowD))) ≤ 2
        omega
  obtain ⟨a, b, c⟩ := all
  show (pureDs (F.map rowD) && (PyData.canLayAll0 (toPs (F.map rowD)) && decide (PyData.depthAll (toPs (F.map rowD)) + 1 ≤ 64))) = true
  rw [a, b, decide_eq_true (show PyData.depthAll (toPs (F.map rowD)) + 1 ≤ 64 by omega)]
  rfl
def spCells2 (K : PySem.W.Frag) : Sp := fun vs H Q _ => ∃ (a : Addr) (ns : List Int) (S : Hp), (Ex S H ∧ TabK K S H) ∧ vs = [.ref a, .int 2] ∧ SqL K H a (ns.map V.int) ∧ ns.length ≤ 63 ∧
  ∀ v S' H' (cs : List Int), Mv none S H S' H' → (Ex S' H' ∧ TabK K S' H') → Rep K S' v (.lst (cs.map D.int)) → 0 < cs.length → cs.length ≤ 2 → Q v H'
theorem spCells2_len {K : PySem.W.Frag} {vs : List V} {H : Hp} {Q : VK} {E : XK} (h : spCells2 K vs H Q E) : vs.length = 2 := by
  obtain ⟨a, ns, S, _, rfl, _⟩ := h
  rfl
theorem ds_cells2 {A : Amb} {ρ : Rho} {n : Nat} {T : DEnds} {i : Nat} {a : Addr} {ns : List Int} {E : XK} (hb : A.b = none) (hS : SqL A.K A.H0 a (ns.map V.int)) (hz : ns.length ≤ 63) (h0 : ρ[0]? = some (.val (.raw (.ref a))))
    (h : ∀ cs : List Int, 0 < cs.length → cs.length ≤ 2 → T.nx (ρ.set i (.val (.lst (cs.map D.int)))) n) :
    DS A (tAsg (tCall (spCells2 A.K) [] E (tCons (tVar 0) (tCons (tC (.int 2)) tNil))) (gName i)) ρ n T := fun S H σ e D k' => by
  obtain ⟨v, h1, h2⟩ := e.val h0
  cases h2.raw_inv
  refine ⟨_, h1, a, ns, S, ⟨e.f.sub, e.f.tab⟩, rfl, sq_keep e.f hb hS, hz, fun v S' H' cs m ex r c0 c1 => ?_⟩
  have m' : Mv A.b S H S' H' := by rw [hb]; exact m
  have f' : Fr A n S' H' := ⟨ex.1, e.f.mv.trans e.f.bt m', (fun z q => by rw [hb] at q; cases q), ex.2⟩
  exact k'.nx _ n S' H' _ m'.ss ((e.mv m' f').set r) (h cs c0 c1)
section
variable {P : Program} {w : World} {K : PySem.W.Frag} {mg : Str → Option Value} {base : Heap}
theorem g_l_take (B : Tx K mg) {d:Nat} {kk : Nat} (hkk : 1 ≤ kk + 1) {ks : Nat} {Cs : DCon} (hks : ks ≤ kk) (G_l_take : FnG P w K mg base ks B.a_l_take B.fd_l_take ["_law_box_here", "_law_span"] (spOf K 2 Cs)) (hCs:(∃ e, d=e+1∧Cs=C_take e)∨d=0) : FnG P w K mg base (kk + 1) B.a_l_take B.fd_l_take ["_law_box_here", "_law_span"] (spOf K 2 (C_take d)) := by
  refine FnG.of B.F_l_take sc_l_take (fun _ _ _ _ h => spOf_len h) (fun cdv Ar outer s H vs Q E hg hr h => ?_)
  have gd : (Ar.deeper (envOfC "_law_take" (defScope s_l_take) s.heap.objs.size B.a_l_take cdv)).guards = some [] := (deeper_guards Ar _).trans hg
  have hu : (Ar.deeper (envOfC "_law_take" (defScope s_l_take) s.heap.objs.size B.a_l_take cdv)).units + 64 < cLine := by have := hr.un; omega
  have hu2 : (Ar.deeper (envOfC "_law_take" (defScope s_l_take) s.heap.objs.size B.a_l_take cdv)).units + 65 < cLine := by have := hr.un; omega
  have hr_l_take := hr.mono hks
  refine ⟨_, (pss_cons (ps_if (pt_cmpR op_gt (pe_ix (kx_ix K) (pv 0) pe_int (fun _ _ => rfl)) pe_int (nomark _)) (pss_cons (ps_set (i := 2) sc_l_take.nd rfl (by first | exact Or.inl rfl | exact Or.inr rfl) (pe_op op_mod (pe_ix (kx_ix K) (pv 0) pe_int (fun _ _ => rfl)) (pv 1)))
    (pss_cons (ps_asg (pe_op op_fdivW (pe_ix (kx_ix K) (pv 0) pe_int (fun _ _ => rfl)) (pv 1)) (pg_sub (pv 0) pe_int set_list))
    (pss_one (ps_ret (pv 2))))) pss_nil)
    (pss_cons (ps_if (pt_cmpR op_gt (pv 1) (pe_op op_pow pe_int pe_int) (nomark _)) (pss_one (ps_ret (pe_op op_mod (pe_op (kx_plus K) (pe_g G_l_take gd hr_l_take B.m_l_take B.k_l_take B.b_l_take passL (pa_cons (pv 0) (pa_cons (pe_op op_pow pe_int pe_int) pa_nil))) (pe_op op_times (pe_op op_pow pe_int pe_int) (pe_g G_l_take gd hr_l_take B.m_l_take B.k_l_take B.b_l_take passL (pa_cons (pv 0) (pa_cons (pe_op (kx_plus K) (pe_op op_fdivW (pe_op op_sub (pv 1) pe_int) (pe_op op_pow pe_int pe_int)) pe_int) pa_nil))))) (pv 1)))) pss_nil)
    (pss_cons (ps_asg (pe_op (kx_plus K) (pe_ix (kx_ix K) (pv 0) pe_int (fun _ _ => rfl)) pe_int) (pg_sub (pv 0) pe_int set_list))
    (pss_cons (ps_set (i := 3) sc_l_take.nd rfl (by first | exact Or.inl rfl | exact Or.inr rfl) (pe_op op_mod (pe_op op_pow (pe_op (kx_plus K) (pe_ix (kx_ix K) (pv 0) pe_int (fun _ _ => rfl)) (pe_op op_times pe_int (pe_ix (kx_ix K) (pv 0) pe_int (fun _ _ => rfl)))) pe_int) pe_int))
    (pss_one (ps_ret (pe_op op_mod (pe_op op_fdivW (pe_op op_mod (pe_op (kx_plus K) (pe_op op_times (pv 3) (pe_op (kx_plus K) (pe_op op_mod (pv 3) pe_int) pe_int)) (pe_op op_times (pe_ix (kx_ix K) (pv 0) pe_int (fun _ _ => rfl)) pe_int)) pe_int) pe_int) (pv 1)))))))), ?_⟩
  clear gd hu hr hg hu2
  obtain ⟨b, S, ds, n, Pp, PX, ex, hbx, rp, hl, ⟨a, span, rfl, rfl, h0, hsp, hd, hn, hp⟩, hq, hx⟩ := h
  obtain ⟨v0, r0, rfl, q0, q1⟩ := rp.uncons
  obtain ⟨v1, r1, rfl, q2, q3⟩ := q1.uncons
  have e1 : r1 = [] := by unfold Reps at q3; exact q3
  subst e1
  cases q0.raw_inv
  cases q2.int_inv
  obtain ⟨⟨x, y, z, hb, hx0, hy0, hy1, hz0, hz1⟩, hSa⟩ := hbx a rfl
  have hss := span_small h0 hsp hd
  have p2 : (2 : Nat) ^ (d + 1) ≤ 2 ^ 7 := Nat.pow_le_pow_right (by decide) (by omega)
  have p3 : 1 ≤ (2 : Nat) ^ (d + 1) := Nat.one_le_two_pow
  have hn' : n ≤ 2 ^ 40 := by omega
  refine bx 0 rfl hb rfl ⟨_, _, rfl, rfl, _, rfl, ?_⟩
  refine ite2 (fun c => ?_) (fun c => ?_)
  · refine bx 0 rfl hb rfl ⟨_, rfl, _, _, rfl, rfl, h0, ?_⟩
    refine bx 0 rfl hb rfl ⟨_, rfl, _, _, rfl, rfl, wide_div h0 hss (by decide) (by decide), _, rfl, a, _, 0, 0, rfl, rfl, hb, rfl, ?_⟩
    refine ⟨_, rfl, ?_⟩
    refine hq _ (.int (x % span)) S _ n (mv_box hSa ⟨_, hb⟩) (ex_box ex hSa ⟨_, hb⟩) (fun e he => ?_) Rep.int (hp _ n (Int.emod_nonneg _ (by omega)) (Int.emod_lt_of_pos _ h0) (Nat.le_refl _) (by omega))
    cases he
    exact ⟨⟨x / span, y, z, upd_same, Int.ediv_nonneg hx0 (by omega), hy0, hy1, hz0, hz1⟩, hSa⟩
  · have hxz : x = 0 := by
      have c' : ¬ (0 : Int) < x := fun q => c (decide_eq_true q)
      omega
    subst hxz
    show tSeq _ _ _ _ _
    refine ⟨_, rfl, _, _, rfl, rfl, ⟨by decide, by decide, by decide⟩, _, _, rfl, rfl, _, rfl, ?_⟩
    refine ite2 (fun c2 => ?_) (fun c2 => ?_)
    · have c3 : (10000000 : Int) < span := by
        have := of_decide_eq_true c2
        rw [pow_7] at this
        exact this
      rcases hCs with ⟨e, rfl, rfl⟩ | rfl
      · obtain ⟨s1, s2⟩ := step_span h0 hsp
        have pe : (2 : Nat) ^ (e + 1 + 1) = 2 * 2 ^ (e + 1) := by rw [Nat.pow_succ]; omega
        have b7 : (10 : Int) ^ (7 : Int).toNat ≤ 10 ^ (7 * (e + 1)) := by
          rw [pow_7]
          have : (10 : Int) ^ (7 * (e + 1)) = 10 ^ (7 * e) * 10000000 := by
            rw [show 7 * (e + 1) = 7 * e + 7 by omega, Int.pow_add]; rfl
          have p : (0 : Int) < 10 ^ (7 * e) := Int.pow_pos (by decide)
          omega
        refine ⟨_, rfl, _, _, rfl, rfl, ⟨by decide, by decide, by decide⟩, ?_⟩
        refine go_call (n := n) (ds := [.raw (.ref a), .int ((10 : Int) ^ (7 : Int).toNat)]) (P := fun d m => ∃ v, d = .int v ∧ 0 ≤ v ∧ v < 10 ^ (7 : Int).toNat ∧ n ≤ m ∧ m ≤ n + 2 ^ (e + 1)) ex ⟨0, y, z, hb, hx0, hy0, hy1, hz0, hz1⟩ hSa (Reps.cons Rep.raw (Reps.one Rep.int)) rfl ⟨a, _, rfl, rfl, by decide, b7, by omega, by omega, fun v m g1 g2 g3 g4 => ⟨v, rfl, g1, g2, g3, g4⟩⟩ ?_
        rintro v1 _ S1 H1 n1 m1 ex1 bx1 hs1 rv1 ⟨w1, rfl, w10, w11, l1, l2⟩
        cases rv1.int_inv
        have cm : CMul ((10 : Int) ^ (7 : Int).toNat) ((10 : Int) ^ (7 : Int).toNat) := Or.inl (by decide)
        have cd : CDivW (span - 1) ((10 : Int) ^ (7 : Int).toNat) := ⟨by decide, by decide⟩
        refine ⟨_, _, rfl, rfl, ⟨by decide, by decide, by decide⟩, _, rfl, _, rfl, _, _, rfl, rfl, _, _, rfl, rfl, ⟨by decide, by decide, by decide⟩, _, _, rfl, rfl, cd, Or.inl ⟨_, _, rfl, rfl, ?_⟩⟩
        refine go_call (n := n1) (ds := [.raw (.ref a), .int ((span - 1) / 10 ^ (7 : Int).toNat + 1)]) (P := fun d m => ∃ v, d = .int v ∧ 0 ≤ v ∧ n1 ≤ m ∧ m ≤ n1 + 2 ^ (e + 1)) ex1 bx1 hs1 (Reps.cons Rep.raw (Reps.one Rep.int)) rfl ⟨a, _, rfl, rfl, by rw [pow_7]; exact s1, by rw [pow_7]; exact s2, by omega, by omega, fun v m g1 g2 g3 g4 => ⟨v, rfl, g1, g3, g4⟩⟩ ?_
        rintro v2 _ S2 H2 n2 m2 ex2 bx2 hs2 rv2 ⟨w2, rfl, w20, l3, l4⟩
        cases rv2.int_inv
        refine Or.inl ⟨_, _, rfl, rfl, Or.inl (by decide), Or.inl ⟨_, _, rfl, rfl, _, rfl, _, _, rfl, rfl, h0, ?_⟩⟩
        have bt : Bt (some a) H1 := fun x e => by cases e; exact bx1.ne
        refine hq _ (.int _) S2 H2 n2 (m1.trans bt m2) ex2 (fun e he => by cases he; exact ⟨bx2, hs2⟩) Rep.int (hp _ n2 (Int.emod_nonneg _ (by omega)) (Int.emod_lt_of_pos _ h0) (by omega) (by omega))
      · exfalso
        have : span ≤ 10000000 := hsp
        omega
    · show tSeq _ _ _ _ _
      refine bx 2 rfl hb rfl (Or.inl ⟨_, _, rfl, rfl, _, rfl, a, _, 2, 2, rfl, rfl, hb, rfl, ?_⟩)
      have hb2 : (upd H a (.lst ([V.int 0, V.int y, V.int z].set 2 (V.int (z + 1))))) a = some (.lst [V.int 0, V.int y, V.int (z + 1)]) := upd_same
      refine bx 1 rfl hb2 rfl ?_
      refine bx 2 rfl hb2 rfl (Or.inl ⟨_, _, rfl, rfl, Or.inl (by decide), Or.inl ⟨_, _, rfl, rfl, _, _, rfl, rfl, cpow_5 (by omega) (by omega), _, _, rfl, rfl, (show (0 : Int) < 2147483647 by decide), ?_⟩⟩)
      have o0 := Int.emod_nonneg ((y + 39373 * (z + 1)) ^ (5 : Int).toNat) (show (2147483647 : Int) ≠ 0 by decide)
      have o1 := Int.emod_lt_of_pos ((y + 39373 * (z + 1)) ^ (5 : Int).toNat) (show (0 : Int) < 2147483647 by decide)
      refine ⟨_, rfl, _, rfl, _, _, rfl, rfl, (show (0 : Int) < 40009 by decide), Or.inl ⟨_, _, rfl, rfl, Or.inl ⟨_, _, rfl, rfl, Or.inl (by omega), ?_⟩⟩⟩
      refine bx 2 rfl hb2 rfl (Or.inl ⟨_, _, rfl, rfl, Or.inr (by decide), Or.inl ⟨_, _, rfl, rfl, _, _, rfl, rfl, (show (0 : Int) < 2147483629 by decide), _, _, rfl, rfl, ⟨by decide, by decide⟩, _, rfl, _, _, rfl, rfl, h0, ?_⟩⟩)
      refine hq _ (.int _) S _ (n + 1) (mv_box hSa ⟨_, hb⟩) (ex_box ex hSa ⟨_, hb⟩) (fun e he => ?_) Rep.int (hp _ (n + 1) (Int.emod_nonneg _ (by omega)) (Int.emod_lt_of_pos _ h0) (by omega) (by omega))
      cases he
      exact ⟨⟨0, y, z + 1, upd_same, by omega, hy0, hy1, by omega, by omega⟩, hSa⟩
theorem take_all (B : Tx K mg) : ∀ d : Nat, FnG P w K mg base (d + 1) B.a_l_take B.fd_l_take ["_law_box_here", "_law_span"] (spOf K 2 (C_take d))
  | 0 => g_l_take (kk := 0) (ks := 0) (Cs := fun _ _ _ _ _ => False) B (by decide) (by decide) ⟨fun _ _ _ _ ⟨_, _, _, _, _, _, _, _, _, _, z, _⟩ => z.elim, fun _ _ _ _ _ _ _ _ _ _ _ _ _ _ ⟨_, _, _, _, _, _, _, _, _, _, z, _⟩ => z.elim⟩ (Or.inr rfl)
  | d + 1 => g_l_take (kk := d + 1) (ks := d + 1) (Cs := C_take d) B (by omega) (by omega) (take_all B d) (Or.inl ⟨d, rfl, rfl⟩)
--@@split
theorem same_fst {l l' : List (Int × Int)} (h : l.length = l'.length) (s : ∀ i, SameAt l l' i) : l.map Prod.fst = l'.map Prod.fst := by
  refine List.ext_getElem? fun i => ?_
  rw [List.getElem?_map, List.getElem?_map]
  by_cases c : i < l.length
  · rw [List.getElem?_eq_getElem c, List.getElem?_eq_getElem (show i < l'.length by omega)]
    exact congrArg some (s i _ _ (List.getElem?_eq_getElem c) (List.getElem?_eq_getElem (by omega)))
  · rw [List.getElem?_eq_none (by omega), List.getElem?_eq_none (by omega)]
theorem fst_same {l l' : List (Int × Int)} (h : l.map Prod.fst = l'.map Prod.fst) (i : Nat) : SameAt l l' i := fun p q hp hq => by
  have e := congrArg (fun L : List Int => L[i]?) h
  simp only [List.getElem?_map, hp, hq] at e
  exact Option.some.inj e
theorem g_arrivals_of (B : Tx K mg) : FnG P w K mg base 1 B.a_arrivals_of B.fd_arrivals_of ["stays"] (spOf K 1 C_arrivals_of) := by
  refine FnG.of B.F_arrivals_of sc_arrivals_of (fun _ _ _ _ h => spOf_len h) (fun cdv Ar outer s H vs Q E hg hr h => ?_)
  have gd : (Ar.deeper (envOfC "arrivals_of" (defScope s_arrivals_of) s.heap.objs.size B.a_arrivals_of cdv)).guards = some [] := (deeper_guards Ar _).trans hg
  have hu : (Ar.deeper (envOfC "arrivals_of" (defScope s_arrivals_of) s.heap.objs.size B.a_arrivals_of cdv)).units + 64 < cLine := by have := hr.un; omega
  have hu2 : (Ar.deeper (envOfC "arrivals_of" (defScope s_arrivals_of) s.heap.objs.size B.a_arrivals_of cdv)).units + 65 < cLine := by have := hr.un; omega
  refine ⟨_, (pss_one (ps_ret (pe_lc (own := [("stay", 1)]) rfl sc_arrivals_of.nd (kp_seq K (pv 0)) (blkOk_by (N := ["stays", "stay"]) (sc := defScope s_arrivals_of) (by decide +kernel)) (fun _ _ _ _ _ => (pg_name (i := 1) sc_arrivals_of.nd rfl (by first | exact Or.inl rfl | exact Or.inr rfl))) (fun _ _ _ _ _ => pts_nil) (fun _ _ _ _ _ => (pe_ix (kx_ix K) (pv 1) pe_int (fun _ _ => rfl)))))), body_of h ?_⟩
  clear h gd hu hr hg hu2
  intro A ds n Pp eK eE hX hl hc
  subst eK eE
  obtain ⟨d, l, rfl, ⟨xs, hd, hl, hx⟩, hz, hp⟩ := hc
  refine ds_ret (DE.of_fresh (df_map (l.map Prod.fst) D.int (gw_name (by decide)) (by rw [List.length_map]; omega) (di_seq (de_var rfl ⟨xs, hd, by rw [List.length_map]; exact hl, fun i x p hx' hp' => ?_, hp⟩))))
  obtain ⟨q, h1, h2⟩ := hx i x hx'
  rw [List.getElem?_map, h1] at hp'; cases hp'
  rcases h2 with rfl | rfl <;> (refine dg_name ?_; walk_at "D"; exact ⟨rfl, rfl⟩)
theorem g_days_of (B : Tx K mg) : FnG P w K mg base 1 B.a_days_of B.fd_days_of ["stays"] (spOf K 1 C_days_of) := by
  refine FnG.of B.F_days_of sc_days_of (fun _ _ _ _ h => spOf_len h) (fun cdv Ar outer s H vs Q E hg hr h => ?_)
  have gd : (Ar.deeper (envOfC "days_of" (defScope s_days_of) s.heap.objs.size B.a_days_of cdv)).guards = some [] := (deeper_guards Ar _).trans hg
  have hu : (Ar.deeper (envOfC "days_of" (defScope s_days_of) s.heap.objs.size B.a_days_of cdv)).units + 64 < cLine := by have := hr.un; omega
  have hu2 : (Ar.deeper (envOfC "days_of" (defScope s_days_of) s.heap.objs.size B.a_days_of cdv)).units + 65 < cLine := by have := hr.un; omega
  refine ⟨_, (pss_one (ps_ret (pe_lc (own := [("stay", 1)]) rfl sc_days_of.nd (kp_seq K (pv 0)) (blkOk_by (N := ["stays", "stay"]) (sc := defScope s_days_of) (by decide +kernel)) (fun _ _ _ _ _ => (pg_name (i := 1) sc_days_of.nd rfl (by first | exact Or.inl rfl | exact Or.inr rfl))) (fun _ _ _ _ _ => pts_nil) (fun _ _ _ _ _ => (pe_ix (kx_ix K) (pv 1) pe_int (fun _ _ => rfl)))))), body_of h ?_⟩
  clear h gd hu hr hg hu2
  intro A ds n Pp eK eE hX hl hc
  subst eK eE
  obtain ⟨d, l, rfl, ⟨xs, hd, hl, hx⟩, hz, hp⟩ := hc
  refine ds_ret (DE.of_fresh (df_map (l.map Prod.snd) D.int (gw_name (by decide)) (by rw [List.length_map]; omega) (di_seq (de_var rfl ⟨xs, hd, by rw [List.length_map]; exact hl, fun i x p hx' hp' => ?_, hp⟩))))
  obtain ⟨q, h1, h2⟩ := hx i x hx'
  rw [List.getElem?_map, h1] at hp'; cases hp'
  rcases h2 with rfl | rfl <;> (refine dg_name ?_; walk_at "D"; exact ⟨rfl, rfl⟩)
theorem g_check_as_many (B : Tx K mg) : FnG P w K mg base 1 B.a_check_as_many B.fd_check_as_many ["one", "other"] (spOf K 2 C_check_as_many) := by
  refine FnG.of B.F_check_as_many sc_check_as_many (fun _ _ _ _ h => spOf_len h) (fun cdv Ar outer s H vs Q E hg hr h => ?_)
  have gd : (Ar.deeper (envOfC "check_as_many" (defScope s_check_as_many) s.heap.objs.size B.a_check_as_many cdv)).guards = some [] := (deeper_guards Ar _).trans hg
  have hu : (Ar.deeper (envOfC "check_as_many" (defScope s_check_as_many) s.heap.objs.size B.a_check_as_many cdv)).units + 64 < cLine := by have := hr.un; omega
  have hu2 : (Ar.deeper (envOfC "check_as_many" (defScope s_check_as_many) s.heap.objs.size B.a_check_as_many cdv)).units + 65 < cLine := by have := hr.un; omega
  refine ⟨_, (pss_one (ps_if (pt_cmpR (kx_ne K hu) (pe_callB (kx_len K) rfl B.n_len PySem.boot_len (pa_cons (pv 0) pa_nil)) (pe_callB (kx_len K) rfl B.n_len PySem.boot_len (pa_cons (pv 1) pa_nil)) (nomark _)) (pss_one ps_never) pss_nil)), body_of h ?_⟩
  clear h gd hu hr hg hu2
  intro A ds n Pp eK eE hX hl hc
  subst eK eE
  obtain ⟨d, e, l, l', rfl, ⟨xs, hd, hl, hx⟩, ⟨ys, he, hl', hy⟩, heq, hp⟩ := hc
  refine ds_if (dt_test (de_op (de_len (de_var rfl ⟨xs, hd, de_len (de_var rfl ⟨ys, he, dr_neAI ⟨_, rfl, ?_⟩⟩)⟩))))
  exact if2f (by simp; omega) (ds_next hp)
theorem g_bar (B : Tx K mg) (G_check_as_many : FnG P w K mg base 1 B.a_check_as_many B.fd_check_as_many ["one", "other"] (spOf K 2 C_check_as_many)) (G_arrivals_of : FnG P w K mg base 1 B.a_arrivals_of B.fd_arrivals_of ["stays"] (spOf K 1 C_arrivals_of)) (G_days_of : FnG P w K mg base 1 B.a_days_of B.fd_days_of ["stays"] (spOf K 1 C_days_of)) : FnG P w K mg base 2 B.a_bar B.fd_bar ["one", "other"] (spOf K 2 C_bar) := by
  refine FnG.of B.F_bar sc_bar (fun _ _ _ _ h => spOf_len h) (fun cdv Ar outer s H vs Q E hg hr h => ?_)
  have gd : (Ar.deeper (envOfC "bar" (defScope s_bar) s.heap.objs.size B.a_bar cdv)).guards = some [] := (deeper_guards Ar _).trans hg
  have hu : (Ar.deeper (envOfC "bar" (defScope s_bar) s.heap.objs.size B.a_bar cdv)).units + 64 < cLine := by have := hr.un; omega
  have hu2 : (Ar.deeper (envOfC "bar" (defScope s_bar) s.heap.objs.size B.a_bar cdv)).units + 65 < cLine := by have := hr.un; omega
  have hr_check_as_many := hr.mono (show 1 ≤ _ by decide)
  have hr_arrivals_of := hr.mono (show 1 ≤ _ by decide)
  have hr_days_of := hr.mono (show 1 ≤ _ by decide)
  refine ⟨_, (pss_cons (ps_expr (pe_g G_check_as_many gd hr_check_as_many B.m_check_as_many B.k_check_as_many B.b_check_as_many passL (pa_cons (pv 0) (pa_cons (pv 1) pa_nil))))
    (pss_cons (ps_for (passes_of rfl) rfl (kp_enum K B.n_enumerate (pa_cons (pe_g G_arrivals_of gd hr_arrivals_of B.m_arrivals_of B.k_arrivals_of B.b_arrivals_of passL (pa_cons (pv 0) pa_nil)) pa_nil)) (kg_seq (n := 2) K rfl (pgs_cons (pg_name (i := 2) sc_bar.nd rfl (by first | exact Or.inl rfl | exact Or.inr rfl)) (pgs_cons (pg_name (i := 3) sc_bar.nd rfl (by first | exact Or.inl rfl | exact Or.inr rfl)) pgs_nil))) (pss_one (ps_if (pt_cmpR (kx_ne K hu) (pv 3) (pe_ix (kx_ix K) (pe_ix (kx_ix K) (pv 1) (pv 2) (fun _ _ => rfl)) pe_int (fun _ _ => rfl)) (nomark _)) (pss_one (ps_ret (pv 2))) pss_nil)))
    (pss_cons (ps_if (pt_cmpR (kx_ne K hu) (pe_callB (kx_sortA K) rfl B.n_sorted (by decide +kernel) (pa_cons (pe_g G_days_of gd hr_days_of B.m_days_of B.k_days_of B.b_days_of passL (pa_cons (pv 0) pa_nil)) pa_nil)) (pe_callB (kx_sortA K) rfl B.n_sorted (by decide +kernel) (pa_cons (pe_g G_days_of gd hr_days_of B.m_days_of B.k_days_of B.b_days_of passL (pa_cons (pv 1) pa_nil)) pa_nil)) (nomark _)) (pss_one (ps_ret pe_str)) pss_nil)
    (pss_one (ps_ret pe_non))))), body_of h ?_⟩
  clear h gd hu hr hg hu2
  intro A ds n Pp eK eE hX hl hc
  subst eK eE
  obtain ⟨d, e, l, l', rfl, hld, hle, hz, heq, hp⟩ := hc
  have hz' : l'.length ≤ 1000 := by omega
  refine ds_seq (ds_drop (de_call0 (da_cons (de_var rfl (da_cons (de_var rfl (da_nil ⟨rfl, d, e, l, l', rfl, hld, hle, heq, ?_⟩)))))))
  obtain ⟨ys, hh⟩ := hle
  have he := hh.1
  refine ds_seq (ds_for (di_enum (de_call0 ?_)))
  walk_at "D"
  refine ⟨rfl, d, l, rfl, hld, hz, _, rfl, fun i ρ' m => ∃ s2 s3, ρ' = [.val d, .val e, s2, s3] ∧ (∀ j < i, SameAt l l' j) ∧ m = n, ⟨_, _, rfl, fun j h => absurd h (Nat.not_lt_zero j), rfl⟩, ?_, ?_⟩
  · rintro i x ρ' m hx ⟨s2, s3, rfl, hs, rfl⟩
    have hi : i < l.length := by
      have := (List.getElem?_eq_some_iff.mp hx).1
      rw [enumD_len, List.length_map, List.length_map] at this
      exact this
    obtain ⟨p, hp1⟩ : ∃ p, l[i]? = some p := ⟨l[i], by simp [hi]⟩
    obtain ⟨q, hq1⟩ : ∃ q, l'[i]? = some q := ⟨l'[i], by simp [show i < l'.length by omega]⟩
    have ex : ((l.map Prod.fst).map D.int)[i]? = some (.int p.1) := by rw [List.getElem?_map, List.getElem?_map, hp1]; rfl
    rw [enumD_get ex] at hx
    cases hx
    obtain ⟨y, hy1, hy2⟩ := hh.at hq1
    refine dg_seq (Or.inr rfl) rfl (dgs_cons (dg_name (dgs_cons (dg_name (dgs_nil ?_)))))
    have hyn : ys[((i : Nat) : Int).toNat]? = some y := by rw [Int.toNat_natCast]; exact hy1
    have h0 : (0 : Int) ≤ ((i : Nat) : Int) := by omega
    rcases hy2 with rfl | rfl <;>
     (refine ds_if (dt_test ?_)
      walk_at "D"
      refine if2 (fun c => ?_) (fun c => ?_)
      · walk_at "D"
        exact hp _ (Or.inl ⟨i, p, q, hp1, hq1, by simpa using c, hs, rfl⟩)
      · refine ds_next ⟨_, _, rfl, fun j hj => ?_, rfl⟩
        by_cases h : j = i
        · subst h
          intro p' q' g1 g2
          rw [hp1] at g1; cases g1
          rw [hq1] at g2; cases g2
          simpa using c
        · exact hs j (by omega))
  · rintro ρ' m ⟨s2, s3, rfl, hs, rfl⟩
    rw [enumD_len, List.length_map, List.length_map] at hs
    have same : ∀ i, SameAt l l' i := fun i p q h1 h2 => hs i (List.getElem?_eq_some_iff.mp h1).1 p q h1 h2
    refine ds_seq (ds_if (dt_test (de_op (DE.of_fresh (df_sortA (de_call0 ?_))))))
    walk_at "D"
    refine ⟨rfl, d, l, rfl, hld, hz, _, Or.inl rfl, fun s1 p1 o1 => ?_⟩
    refine DE.of_fresh (df_sortA (de_call0 ?_))
    walk_at "D"
    refine ⟨rfl, e, l', rfl, ⟨ys, hh⟩, hz', _, Or.inl rfl, fun s2' p2 o2 => ?_⟩
    refine dr_neAD (ok_ints s1) (ok_ints s2') ⟨_, rfl, ?_⟩
    rw [eqv_lst_ints]
    by_cases es : s1 = s2'
    · subst es
      refine if2f (by simp) (ds_next ?_)
      walk_at "D"
      exact hp _ (Or.inr ⟨same, Or.inl ⟨p1.symm.trans p2, rfl⟩⟩)
    · refine if2t (by simpa using es) ?_
      walk_at "D"
      exact hp _ (Or.inr ⟨same, Or.inr ⟨fun h => es (sorted_one _ _ ((p1.trans h).trans p2.symm) o1 o2), rfl⟩⟩)
theorem g_leads (B : Tx K mg) (G_bar : FnG P w K mg base 2 B.a_bar B.fd_bar ["one", "other"] (spOf K 2 C_bar)) : FnG P w K mg base 3 B.a_leads B.fd_leads ["one", "other"] (spOf K 2 C_leads) := by
  refine FnG.of B.F_leads sc_leads (fun _ _ _ _ h => spOf_len h) (fun cdv Ar outer s H vs Q E hg hr h => ?_)
  have gd : (Ar.deeper (envOfC "leads" (defScope s_leads) s.heap.objs.size B.a_leads cdv)).guards = some [] := (deeper_guards Ar _).trans hg
  have hu : (Ar.deeper (envOfC "leads" (defScope s_leads) s.heap.objs.size B.a_leads cdv)).units + 64 < cLine := by have := hr.un; omega
  have hu2 : (Ar.deeper (envOfC "leads" (defScope s_leads) s.heap.objs.size B.a_leads cdv)).units + 65 < cLine := by have := hr.un; omega
  have hr_bar := hr.mono (show 2 ≤ _ by decide)
  refine ⟨_, (pss_one (ps_ret (pe_cmpR op_isN (pe_g G_bar gd hr_bar B.m_bar B.k_bar B.b_bar passL (pa_cons (pv 0) (pa_cons (pv 1) pa_nil))) pe_non (nomark _)))), body_of h ?_⟩
  clear h gd hu hr hg hu2
  intro A ds n Pp eK eE hX hl hc
  subst eK eE
  obtain ⟨d, e, l, l', rfl, hld, hle, hz, heq, hp⟩ := hc
  refine ds_ret (de_isN (de_call0 (da_cons (de_var rfl (da_cons (de_var rfl (da_nil ⟨rfl, d, e, l, l', rfl, hld, hle, hz, heq, fun x hx => ?_⟩)))))))
  rcases hx with ⟨k, p, q, h1, h2, h3, _, rfl⟩ | ⟨h1, ⟨h2, rfl⟩ | ⟨h2, rfl⟩⟩
  · exact hp _ ⟨fun z => absurd (show false = true from z) (by decide), fun z => absurd (fst_same z.1 k p q h1 h2) h3⟩
  · exact hp _ ⟨fun _ => ⟨same_fst heq h1, h2⟩, fun _ => rfl⟩
  · exact hp _ ⟨fun z => absurd (show false = true from z) (by decide), fun z => absurd z.2 h2⟩
--@@split
theorem g_as_tuples (B : Tx K mg) : FnG P w K mg base 1 B.a_as_tuples B.fd_as_tuples ["stays"] (spOf K 1 C_as_tuples) := by
  refine FnG.of B.F_as_tuples sc_as_tuples (fun _ _ _ _ h => spOf_len h) (fun cdv Ar outer s H vs Q E hg hr h => ?_)
  have gd : (Ar.deeper (envOfC "as_tuples" (defScope s_as_tuples) s.heap.objs.size B.a_as_tuples cdv)).guards = some [] := (deeper_guards Ar _).trans hg
  have hu : (Ar.deeper (envOfC "as_tuples" (defScope s_as_tuples) s.heap.objs.size B.a_as_tuples cdv)).units + 64 < cLine := by have := hr.un; omega
  have hu2 : (Ar.deeper (envOfC "as_tuples" (defScope s_as_tuples) s.heap.objs.size B.a_as_tuples cdv)).units + 65 < cLine := by have := hr.un; omega
  refine ⟨_, (pss_one (ps_ret (pe_callTy (kx_tuple K) rfl B.n_tuple (by decide +kernel) (pa_cons (pe_lc (own := [("arrival", 1), ("leaving", 2)]) rfl sc_as_tuples.nd (kp_seq K (pv 0)) (blkOk_by (N := ["stays", "arrival", "leaving"]) (sc := defScope s_as_tuples) (by decide +kernel)) (fun _ _ _ _ _ => (kg_seq (n := 2) K rfl (pgs_cons (pg_name (i := 1) sc_as_tuples.nd rfl (by first | exact Or.inl rfl | exact Or.inr rfl)) (pgs_cons (pg_name (i := 2) sc_as_tuples.nd rfl (by first | exact Or.inl rfl | exact Or.inr rfl)) pgs_nil)))) (fun _ _ _ _ _ => pts_nil) (fun _ _ _ _ _ => (pe_tup (pa_cons (pv 1) (pa_cons (pv 2) pa_nil))))) pa_nil)))), body_of h ?_⟩
  clear h gd hu hr hg hu2
  intro A ds n Pp eK eE hX hl hc
  subst eK eE
  obtain ⟨d, l, rfl, ⟨xs, hd, hl, hx⟩, hz, hp⟩ := hc
  refine ds_ret (de_tupOf (DE.of_fresh (df_map l pr (gw_seq (gws_cons gmono_name (gw_name (by decide)) (gws_cons gmono_name (gw_name (by decide)) gws_nil))) hz (di_seq (de_var rfl ⟨xs, hd, hl, fun i x p hx' hp' => ?_, ?_⟩)))))
  · obtain ⟨q, h1, h2⟩ := hx i x hx'
    rw [h1] at hp'; cases hp'
    rcases h2 with rfl | rfl
    · refine dg_seq (Or.inl rfl) rfl ?_
      walk_at "D"
      exact ⟨Nat.le_of_ble_eq_true rfl, rfl, rfl⟩
    · refine dg_seq (Or.inr rfl) rfl ?_
      walk_at "D"
      exact ⟨Nat.le_of_ble_eq_true rfl, rfl, rfl⟩
  · exact ⟨_, Or.inl rfl, hp⟩
theorem g_check_guest (B : Tx K mg) : FnG P w K mg base 1 B.a_check_guest B.fd_check_guest ["stays", "guest"] (spOf K 2 C_check_guest) := by
  refine FnG.of B.F_check_guest sc_check_guest (fun _ _ _ _ h => spOf_len h) (fun cdv Ar outer s H vs Q E hg hr h => ?_)
  have gd : (Ar.deeper (envOfC "check_guest" (defScope s_check_guest) s.heap.objs.size B.a_check_guest cdv)).guards = some [] := (deeper_guards Ar _).trans hg
  have hu : (Ar.deeper (envOfC "check_guest" (defScope s_check_guest) s.heap.objs.size B.a_check_guest cdv)).units + 64 < cLine := by have := hr.un; omega
  have hu2 : (Ar.deeper (envOfC "check_guest" (defScope s_check_guest) s.heap.objs.size B.a_check_guest cdv)).units + 65 < cLine := by have := hr.un; omega
  refine ⟨_, (pss_one (ps_if (pt_not (pt_chain op_le op_lt pe_int (pv 1) (pe_callB (kx_len K) rfl B.n_len PySem.boot_len (pa_cons (pv 0) pa_nil)))) (pss_one ps_never) pss_nil)), body_of h ?_⟩
  clear h gd hu hr hg hu2
  intro A ds n Pp eK eE hX hl hc
  subst eK eE
  obtain ⟨d, l, g, rfl, ⟨xs, hd, hl, hx⟩, h0, h1, hp⟩ := hc
  have h2 : g < (xs.length : Int) := by omega
  walk_at "D"
  rw [if_pos (decide_eq_true h0)]
  walk_at "D"
  rw [if_neg (by rw [decide_eq_true h2]; decide)]
  exact ds_next hp
theorem g_share_day (B : Tx K mg) (G_check_guest : FnG P w K mg base 1 B.a_check_guest B.fd_check_guest ["stays", "guest"] (spOf K 2 C_check_guest)) : FnG P w K mg base 2 B.a_share_day B.fd_share_day ["stays", "one", "other"] (spOf K 3 C_share_day) := by
  refine FnG.of B.F_share_day sc_share_day (fun _ _ _ _ h => spOf_len h) (fun cdv Ar outer s H vs Q E hg hr h => ?_)
  have gd : (Ar.deeper (envOfC "share_day" (defScope s_share_day) s.heap.objs.size B.a_share_day cdv)).guards = some [] := (deeper_guards Ar _).trans hg
  have hu : (Ar.deeper (envOfC "share_day" (defScope s_share_day) s.heap.objs.size B.a_share_day cdv)).units + 64 < cLine := by have := hr.un; omega
  have hu2 : (Ar.deeper (envOfC "share_day" (defScope s_share_day) s.heap.objs.size B.a_share_day cdv)).units + 65 < cLine := by have := hr.un; omega
  have hr_check_guest := hr.mono (show 1 ≤ _ by decide)
  refine ⟨_, (pss_cons (ps_expr (pe_g G_check_guest gd hr_check_guest B.m_check_guest B.k_check_guest B.b_check_guest passL (pa_cons (pv 0) (pa_cons (pv 1) pa_nil))))
    (pss_cons (ps_expr (pe_g G_check_guest gd hr_check_guest B.m_check_guest B.k_check_guest B.b_check_guest passL (pa_cons (pv 0) (pa_cons (pv 2) pa_nil))))
    (pss_one (ps_ret (pe_and (pe_cmpR op_le (pe_ix (kx_ix K) (pe_ix (kx_ix K) (pv 0) (pv 1) (fun _ _ => rfl)) pe_int (fun _ _ => rfl)) (pe_ix (kx_ix K) (pe_ix (kx_ix K) (pv 0) (pv 2) (fun _ _ => rfl)) pe_int (fun _ _ => rfl)) (nomark _)) (pe_one (pe_cmpR op_le (pe_ix (kx_ix K) (pe_ix (kx_ix K) (pv 0) (pv 2) (fun _ _ => rfl)) pe_int (fun _ _ => rfl)) (pe_ix (kx_ix K) (pe_ix (kx_ix K) (pv 0) (pv 1) (fun _ _ => rfl)) pe_int (fun _ _ => rfl)) (nomark _)))))))), body_of h ?_⟩
  clear h gd hu hr hg hu2
  intro A ds n Pp eK eE hX hl hc
  subst eK eE
  obtain ⟨d, l, i, j, p, q, rfl, hln, h0, h1, hi, hj, hp⟩ := hc
  obtain ⟨xs, hh⟩ := hln
  obtain ⟨x, hxi, hpx⟩ := hh.at hi
  obtain ⟨y, hyj, hpy⟩ := hh.at hj
  have hd := hh.1
  walk_at "D"
  refine ⟨rfl, d, l, i, rfl, ⟨xs, hh⟩, h0, get_lt h0 hi, ?_⟩
  walk_at "D"
  refine ⟨rfl, d, l, j, rfl, ⟨xs, hh⟩, h1, get_lt h1 hj, ?_⟩
  have key : ∀ b c, b = decide (p.1 ≤ q.2) → c = decide (q.1 ≤ p.2) → (b && c) = meets p q := by rintro b c rfl rfl; rfl
  rcases hpx with rfl | rfl <;> rcases hpy with rfl | rfl <;> (walk_at "D" <;> refine if2 (fun c => ?_) (fun c => ?_) <;> (try walk_at "D") <;> (rw [← key _ _ rfl rfl, c] at hp; exact hp))
theorem g_exchanges (B : Tx K mg) (G_share_day : FnG P w K mg base 2 B.a_share_day B.fd_share_day ["stays", "one", "other"] (spOf K 3 C_share_day)) : FnG P w K mg base 3 B.a_exchanges B.fd_exchanges ["stays"] (spOfF K 1 C_exchanges) := by
  refine FnG.of B.F_exchanges sc_exchanges (fun _ _ _ _ h => spOfF_len h) (fun cdv Ar outer s H vs Q E hg hr h => ?_)
  have gd : (Ar.deeper (envOfC "exchanges" (defScope s_exchanges) s.heap.objs.size B.a_exchanges cdv)).guards = some [] := (deeper_guards Ar _).trans hg
  have hu : (Ar.deeper (envOfC "exchanges" (defScope s_exchanges) s.heap.objs.size B.a_exchanges cdv)).units + 64 < cLine := by have := hr.un; omega
  have hu2 : (Ar.deeper (envOfC "exchanges" (defScope s_exchanges) s.heap.objs.size B.a_exchanges cdv)).units + 65 < cLine := by have := hr.un; omega
  have hr_share_day := hr.mono (show 2 ≤ _ by decide)
  refine ⟨_, (pss_cons (ps_set (i := 1) sc_exchanges.nd rfl (by first | exact Or.inl rfl | exact Or.inr rfl) (pe_callB (kx_len K) rfl B.n_len PySem.boot_len (pa_cons (pv 0) pa_nil)))
    (pss_one (ps_ret (pe_lc2 (own := [("one", 2), ("other", 3)]) (vs1 := [3]) rfl sc_exchanges.nd (pi_range1 rfl B.n_range (pa_cons (pv 1) pa_nil)) (blkOk_by (N := ["stays", "many", "one", "other"]) (sc := defScope s_exchanges) (by decide +kernel)) (by decide) (fun _ _ _ _ _ => (pg_name (i := 2) sc_exchanges.nd rfl (by first | exact Or.inl rfl | exact Or.inr rfl))) (fun _ _ _ _ _ => pts_nil) (fun _ _ _ _ _ => (pi_range2 rfl B.n_range (pa_cons (pe_op (kx_plus K) (pv 2) pe_int) (pa_cons (pv 1) pa_nil)))) (fun _ _ _ _ _ => (pg_name (i := 3) sc_exchanges.nd rfl (by first | exact Or.inl rfl | exact Or.inr rfl))) (fun _ _ _ _ _ => (pts_one (pt_val (pe_g G_share_day gd hr_share_day B.m_share_day B.k_share_day B.b_share_day passL (pa_cons (pv 0) (pa_cons (pv 2) (pa_cons (pv 3) pa_nil))))))) (fun _ _ _ _ _ => (pe_tup (pa_cons (pv 2) (pa_cons (pv 3) pa_nil)))))))), bodyF_of h ?_⟩
  clear h gd hu hr hg hu2
  intro A ds n Pp eK eE hX hl hc σ er D hq
  subst eK eE
  obtain ⟨d, l, rfl, hln, hz, hp⟩ := hc
  obtain ⟨xs, hh⟩ := hln
  have hd := hh.1
  have hlen : DE A (tCB (DL.rLen A.K) (tCons (tVar 0) tNil)) (rho0 [d] 4) n (fun d m => d = .int (xs.length : Int) ∧ m = n) := de_len (de_var rfl ⟨xs, hd, rfl, rfl⟩)
  refine hlen _ _ _ er _ fun v d1 S1 H1 n1 m1 f1 r1 e1 => ?_
  obtain ⟨rfl, rfl⟩ := e1
  have er1 := (er.mv m1 f1).set (i := 1) r1
  have hxl := hh.2.1
  delta gName
  try dsimp only
  delta tRet
  try dsimp only
  refine DF.go (P := fun ds m => ds = (duos l).map pr ∧ m = n1) ?_ er1 fun a ws es S2 H2 n2 m2 f2 hn hh hS re p => ?_
  rotate_left
  · obtain ⟨rfl, rfl⟩ := p
    exact hq a ws _ S2 H2 _ (m1.trans f1.bt m2) f2 (none_back er.f m1 f1 hn) hh hS re hp
  refine df_fm2 (List.range l.length) (fun i => List.range (l.length - (i + 1))) (fun i k => match l[i]?, l[i + 1 + k]? with | some p, some q => meets p q | _, _ => false) (fun i k => pr ((i : Int), ((i + 1 + k : Nat) : Int))) (gw_name (by decide)) (gw_name (by decide)) (by simpa using hz) (fun i => by simp; omega) (di_rng1 (de_var rfl ⟨_, rfl, ⟨by omega, by omega⟩, ?_, ?_, ?_⟩))
  · rw [rng_len]; simp; omega
  · intro i e i' he hi'
    have hi : i < l.length := by
      have := (List.getElem?_eq_some_iff.mp hi').1
      simpa using this
    have e1 : i' = i := by
      rw [List.getElem?_range hi] at hi'
      cases hi'; rfl
    subst e1
    rw [rng_get (by omega)] at he
    cases he
    refine dg_name (di_rng2 ?_)
    walk_at "D"
    refine ⟨⟨by omega, by omega, by omega, by omega⟩, rfl, ?_, ?_⟩
    · rw [rng_len]; simp; omega
    · intro k e k' he hk'
      have hk : k < l.length - (i' + 1) := by
        have := (List.getElem?_eq_some_iff.mp hk').1
        simpa using this
      have e1 : k' = k := by
        rw [List.getElem?_range hk] at hk'
        cases hk'; rfl
      subst e1
      rw [rng_get (by omega)] at he
      cases he
      have g1 : l[i']? = some l[i'] := by simp [hi]
      have hk2 : i' + 1 + k' < l.length := by omega
      have g2 : l[i' + 1 + k']? = some l[i' + 1 + k'] := by simp [hk2]
      have t1 : ((0 : Int) + (i' : Int)).toNat = i' := by omega
      have t2 : ((0 : Int) + (i' : Int) + 1 + (k' : Int)).toNat = i' + 1 + k' := by omega
      refine dg_name (dt_B ?_)
      walk_at "D"
      refine ⟨rfl, d, l, _, _, l[i'], l[i' + 1 + k'], rfl, ⟨xs, hh⟩, by omega, by omega, by rw [t1]; exact g1, by rw [t2]; exact g2, ?_⟩
      refine ⟨_, rfl, rfl, by rw [g1, g2], fun _ => ?_⟩
      walk_at "D"
      refine ⟨Nat.le_of_ble_eq_true rfl, rfl, ?_⟩
      unfold pr
      have t3 : ((0 : Int) + (i' : Int)) = (i' : Int) := by omega
      have t4 : ((0 : Int) + (i' : Int) + 1 + (k' : Int)) = ((i' + 1 + k' : Nat) : Int) := by omega
      rw [t4, t3]
  · refine ⟨?_, rfl⟩
    unfold duos
    rw [List.map_flatMap]
    congr 1
    funext i
    rw [List.map_map]
    rfl
theorem g_exchanged (B : Tx K mg) (G_share_day : FnG P w K mg base 2 B.a_share_day B.fd_share_day ["stays", "one", "other"] (spOf K 3 C_share_day)) (G_as_tuples : FnG P w K mg base 1 B.a_as_tuples B.fd_as_tuples ["stays"] (spOf K 1 C_as_tuples)) : FnG P w K mg base 3 B.a_exchanged B.fd_exchanged ["stays", "one", "other"] (spOf K 3 C_exchanged) := by
  refine FnG.of B.F_exchanged sc_exchanged (fun _ _ _ _ h => spOf_len h) (fun cdv Ar outer s H vs Q E hg hr h => ?_)
  have gd : (Ar.deeper (envOfC "exchanged" (defScope s_exchanged) s.heap.objs.size B.a_exchanged cdv)).guards = some [] := (deeper_guards Ar _).trans hg
  have hu : (Ar.deeper (envOfC "exchanged" (defScope s_exchanged) s.heap.objs.size B.a_exchanged cdv)).units + 64 < cLine := by have := hr.un; omega
  have hu2 : (Ar.deeper (envOfC "exchanged" (defScope s_exchanged) s.heap.objs.size B.a_exchanged cdv)).units + 65 < cLine := by have := hr.un; omega
  have hr_share_day := hr.mono (show 2 ≤ _ by decide)
  have hr_as_tuples := hr.mono (show 1 ≤ _ by decide)
  refine ⟨_, (pss_cons (ps_if (PW.pt (pw_or (pt_not (pt_val (pe_g G_share_day gd hr_share_day B.m_share_day B.k_share_day B.b_share_day passL (pa_cons (pv 0) (pa_cons (pv 1) (pa_cons (pv 2) pa_nil)))))) (pw_or1 (pt_cmpR (kx_eq K hu) (pv 1) (pv 2) (nomark _))))) (pss_one ps_never) pss_nil)
    (pss_cons (ps_set (i := 3) sc_exchanged.nd rfl (by first | exact Or.inl rfl | exact Or.inr rfl) (pe_callTy (kx_list K) rfl B.n_list (by decide +kernel) (pa_cons (pe_g G_as_tuples gd hr_as_tuples B.m_as_tuples B.k_as_tuples B.b_as_tuples passL (pa_cons (pv 0) pa_nil)) pa_nil)))
    (pss_cons (ps_asg (pe_tup (pa_cons (pe_ix (kx_ix K) (pe_ix (kx_ix K) (pv 0) (pv 1) (fun _ _ => rfl)) pe_int (fun _ _ => rfl)) (pa_cons (pe_ix (kx_ix K) (pe_ix (kx_ix K) (pv 0) (pv 2) (fun _ _ => rfl)) pe_int (fun _ _ => rfl)) pa_nil))) (pg_sub (pv 3) (pv 1) set_list))
    (pss_cons (ps_asg (pe_tup (pa_cons (pe_ix (kx_ix K) (pe_ix (kx_ix K) (pv 0) (pv 2) (fun _ _ => rfl)) pe_int (fun _ _ => rfl)) (pa_cons (pe_ix (kx_ix K) (pe_ix (kx_ix K) (pv 0) (pv 1) (fun _ _ => rfl)) pe_int (fun _ _ => rfl)) pa_nil))) (pg_sub (pv 3) (pv 2) set_list))
    (pss_one (ps_ret (pe_callTy (kx_tuple K) rfl B.n_tuple (by decide +kernel) (pa_cons (pv 3) pa_nil)))))))), body_of h ?_⟩
  clear h gd hu hr hg hu2
  intro A ds n Pp eK eE hX hl hc
  subst eK eE
  obtain ⟨d, l, i, j, p, q, rfl, hln, hz, h0, h1, hi, hj, hne, hm, hp⟩ := hc
  obtain ⟨xs, hh⟩ := hln
  have hd := hh.1
  obtain ⟨x, hxi, hpx⟩ := hh.at hi
  obtain ⟨y, hyj, hpy⟩ := hh.at hj
  walk_at "D"
  refine ⟨rfl, d, l, i, j, p, q, rfl, ⟨xs, hh⟩, h0, h1, hi, hj, ?_⟩
  rw [hm]
  refine ⟨_, rfl, ?_⟩
  rw [if_neg (by decide)]
  walk_at "D"
  rw [if_neg (by simpa using hne)]
  refine ds_next (ds_seq (ds_setOwn (df_listOf (de_call0 ?_))))
  walk_at "D"
  refine ⟨rfl, d, l, rfl, ⟨xs, hh⟩, hz, ⟨_, Or.inr rfl, ?_⟩⟩
  have hi2 : i.toNat < (l.map pr).length := by simpa using (List.getElem?_eq_some_iff.mp hi).1
  have hj2 : j.toNat < (l.map pr).length := by simpa using (List.getElem?_eq_some_iff.mp hj).1
  have e : ((l.map pr).set i.toNat (pr (p.1, q.2))).set j.toNat (pr (q.1, p.2)) = (swapL l i.toNat j.toNat p q).map pr := by
    unfold swapL
    rw [List.map_set, List.map_set]
  rw [← e] at hp
  have ti : (i.toNat : Int) = i := Int.toNat_of_nonneg h0
  have tj : (j.toNat : Int) = j := Int.toNat_of_nonneg h1
  rcases hpx with rfl | rfl <;> rcases hpy with rfl | rfl <;>
   (refine ds_seq (ds_put (by rfl) ?_)
    walk_at "D"
    refine ⟨Nat.le_of_ble_eq_true rfl, ?_⟩
    refine de_var (by rfl) ⟨i.toNat, by rw [ti], hi2, ?_⟩
    refine ds_seq (ds_put (by rfl) ?_)
    walk_at "D"
    refine ⟨Nat.le_of_ble_eq_true rfl, ?_⟩
    refine de_var (by rfl) ⟨j.toNat, by rw [tj], by rw [List.length_set]; exact hj2, ?_⟩
    exact ds_ret (de_tupOwn (by rfl) hp))
--@@split
theorem g_guests_on (B : Tx K mg) : FnG P w K mg base 1 B.a_guests_on B.fd_guests_on ["stays", "day"] (spOf K 2 C_guests_on) := by
  refine FnG.of B.F_guests_on sc_guests_on (fun _ _ _ _ h => spOf_len h) (fun cdv Ar outer s H vs Q E hg hr h => ?_)
  have gd : (Ar.deeper (envOfC "guests_on" (defScope s_guests_on) s.heap.objs.size B.a_guests_on cdv)).guards = some [] := (deeper_guards Ar _).trans hg
  have hu : (Ar.deeper (envOfC "guests_on" (defScope s_guests_on) s.heap.objs.size B.a_guests_on cdv)).units + 64 < cLine := by have := hr.un; omega
  have hu2 : (Ar.deeper (envOfC "guests_on" (defScope s_guests_on) s.heap.objs.size B.a_guests_on cdv)).units + 65 < cLine := by have := hr.un; omega
  refine ⟨_, (pss_one (ps_ret (pe_lc (own := [("guest", 2), ("arrival", 3), ("leaving", 4)]) rfl sc_guests_on.nd (kp_enumS K B.n_enumerate (pa_cons (pv 0) pa_nil)) (blkOk_by (N := ["stays", "day", "guest", "arrival", "leaving"]) (sc := defScope s_guests_on) (by decide +kernel)) (fun _ _ _ _ _ => (kg_seq (n := 2) K rfl (pgs_cons (pg_name (i := 2) sc_guests_on.nd rfl (by first | exact Or.inl rfl | exact Or.inr rfl)) (pgs_cons (kg_seq (n := 2) K rfl (pgs_cons (pg_name (i := 3) sc_guests_on.nd rfl (by first | exact Or.inl rfl | exact Or.inr rfl)) (pgs_cons (pg_name (i := 4) sc_guests_on.nd rfl (by first | exact Or.inl rfl | exact Or.inr rfl)) pgs_nil))) pgs_nil)))) (fun _ _ _ _ _ => (pts_one (pt_chain op_le op_le (pv 3) (pv 1) (pv 4)))) (fun _ _ _ _ _ => (pv 2))))), body_of h ?_⟩
  clear h gd hu hr hg hu2
  intro A ds n Pp eK eE hX hl hc
  subst eK eE
  obtain ⟨d, l, x, rfl, ⟨xs, hh⟩, hz, hp⟩ := hc
  refine ds_ret (DE.of_fresh (df_fm (List.range l.length) (fun m => decide (ar l m ≤ x) && decide (x ≤ lv l m)) natD (gw_seq (gws_cons gmono_name (gw_name (by decide)) (gws_cons (gmono_seq (gmonos_cons gmono_name (gmonos_cons gmono_name gmonos_nil))) (gw_seq (gws_cons gmono_name (gw_name (by decide)) (gws_cons gmono_name (gw_name (by decide)) gws_nil))) gws_nil))) (by rw [List.length_range]; omega) (di_enumS (de_var rfl ⟨xs, hh.1, by rw [enumD_len, List.length_range]; exact hh.2.1, fun i e m h1 h2 => ?_, hp⟩))))
  have hi : i < l.length := by
    have := (List.getElem?_eq_some_iff.mp h2).1
    rw [List.length_range] at this
    exact this
  have em : m = i := by
    rw [List.getElem?_range hi] at h2
    cases h2; rfl
  subst em
  obtain ⟨p, hpm⟩ : ∃ p, l[m]? = some p := ⟨l[m], by simp [hi]⟩
  obtain ⟨y, hy1, hy2⟩ := hh.at hpm
  rw [enumD_get hy1] at h1
  cases h1
  rw [ar_at hpm, lv_at hpm]
  have fin : ∀ {ρ' : Rho}, ρ'[1]? = some (.val (.int x)) → ρ'[2]? = some (.val (.int (m : Int))) → ρ'[3]? = some (.val (.int p.1)) → ρ'[4]? = some (.val (.int p.2)) → DT A (tTest (tChain (rI0 fun i j => .bl (decide (i ≤ j))) (rI0 fun i j => .bl (decide (i ≤ j))) (tVar 3) (tVar 1) (tVar 4))) ρ' n fun c m' => m' = n ∧ c = (decide (p.1 ≤ x) && decide (x ≤ p.2)) ∧ ((decide (p.1 ≤ x) && decide (x ≤ p.2)) = true → DE A (tVar 2) ρ' n fun y m2 => m2 = n ∧ y = natD m) := by
    intro ρ' h1 h2 h3 h4
    refine dt_test (de_chain (de_var h3 (de_var h1 (dr_le ⟨_, rfl, ?_⟩))))
    refine if2 (fun c => ?_) (fun c => ?_)
    · refine de_var h4 (dr_le ⟨_, rfl, rfl, by rw [c]; rfl, fun _ => de_var h2 ⟨rfl, rfl⟩⟩)
    · exact ⟨_, rfl, rfl, by rw [c]; rfl, fun z => by rw [c] at z; cases z⟩
  rcases hy2 with rfl | rfl
  · refine dg_seq (Or.inr rfl) rfl (dgs_cons (dg_name (dgs_cons (dg_seq (Or.inl rfl) rfl (dgs_cons (dg_name (dgs_cons (dg_name (dgs_nil (dgs_nil ?_))))))))))
    exact fin (by rfl) (by rfl) (by rfl) (by rfl)
  · refine dg_seq (Or.inr rfl) rfl (dgs_cons (dg_name (dgs_cons (dg_seq (Or.inr rfl) rfl (dgs_cons (dg_name (dgs_cons (dg_name (dgs_nil (dgs_nil ?_))))))))))
    exact fin (by rfl) (by rfl) (by rfl) (by rfl)
theorem g_mates_of (B : Tx K mg) (G_check_guest : FnG P w K mg base 1 B.a_check_guest B.fd_check_guest ["stays", "guest"] (spOf K 2 C_check_guest)) (G_guests_on : FnG P w K mg base 1 B.a_guests_on B.fd_guests_on ["stays", "day"] (spOf K 2 C_guests_on)) : FnG P w K mg base 3 B.a_mates_of B.fd_mates_of ["stays", "guest"] (spOf K 2 C_mates_of) := by
  refine FnG.of B.F_mates_of sc_mates_of (fun _ _ _ _ h => spOf_len h) (fun cdv Ar outer s H vs Q E hg hr h => ?_)
  have gd : (Ar.deeper (envOfC "mates_of" (defScope s_mates_of) s.heap.objs.size B.a_mates_of cdv)).guards = some [] := (deeper_guards Ar _).trans hg
  have hu : (Ar.deeper (envOfC "mates_of" (defScope s_mates_of) s.heap.objs.size B.a_mates_of cdv)).units + 64 < cLine := by have := hr.un; omega
  have hu2 : (Ar.deeper (envOfC "mates_of" (defScope s_mates_of) s.heap.objs.size B.a_mates_of cdv)).units + 65 < cLine := by have := hr.un; omega
  have hr_check_guest := hr.mono (show 1 ≤ _ by decide)
  have hr_guests_on := hr.mono (show 1 ≤ _ by decide)
  refine ⟨_, (pss_cons (ps_expr (pe_g G_check_guest gd hr_check_guest B.m_check_guest B.k_check_guest B.b_check_guest passL (pa_cons (pv 0) (pa_cons (pv 1) pa_nil))))
    (pss_cons (ps_set (i := 2) sc_mates_of.nd rfl (by first | exact Or.inl rfl | exact Or.inr rfl) (pe_ix (kx_ix K) (pe_ix (kx_ix K) (pv 0) (pv 1) (fun _ _ => rfl)) pe_int (fun _ _ => rfl)))
    (pss_one (ps_ret (pe_lc (own := [("mate", 3)]) rfl sc_mates_of.nd (kp_seq K (pe_g G_guests_on gd hr_guests_on B.m_guests_on B.k_guests_on B.b_guests_on passL (pa_cons (pv 0) (pa_cons (pv 2) pa_nil)))) (blkOk_by (N := ["stays", "guest", "arrival", "mate"]) (sc := defScope s_mates_of) (by decide +kernel)) (fun _ _ _ _ _ => (pg_name (i := 3) sc_mates_of.nd rfl (by first | exact Or.inl rfl | exact Or.inr rfl))) (fun _ _ _ _ _ => (pts_one (pt_cmpR (kx_lt K hu) (pe_tup (pa_cons (pe_ix (kx_ix K) (pe_ix (kx_ix K) (pv 0) (pv 3) (fun _ _ => rfl)) pe_int (fun _ _ => rfl)) (pa_cons (pv 3) pa_nil))) (pe_tup (pa_cons (pv 2) (pa_cons (pv 1) pa_nil))) (nomark _)))) (fun _ _ _ _ _ => (pv 3))))))), body_of h ?_⟩
  clear h gd hu hr hg hu2
  intro A ds n Pp eK eE hX hl hc
  subst eK eE
  obtain ⟨d, l, g, p, rfl, ⟨xs, hh⟩, hz, hg, hp⟩ := hc
  have hi : g < l.length := (List.getElem?_eq_some_iff.mp hg).1
  have hd := hh.1
  have h0 : (0 : Int) ≤ ((g : Nat) : Int) := by omega
  refine ds_seq (ds_drop (de_call0 (da_cons (de_var rfl (da_cons (de_var rfl (da_nil ⟨rfl, d, l, ((g : Nat) : Int), rfl, ⟨xs, hh⟩, by omega, by omega, ?_⟩)))))))
  obtain ⟨y, hy1, hy2⟩ := hh.at hg
  have hyn : xs[((g : Nat) : Int).toNat]? = some y := by rw [Int.toNat_natCast]; exact hy1
  have arr : DE A (tOp (rIx A.K) (tOp (rIx A.K) (tVar 0) (tVar 1)) (tC (.int 0))) (rho0 [d, .int (g : Int)] 4) n fun d m => d = .int p.1 ∧ m = n := by
    rcases hy2 with rfl | rfl
    · exact de_op (de_op (de_var rfl (de_var rfl (dr_ix hd h0 hyn (de_int (dr_ix (Or.inl rfl) (by decide) rfl ⟨rfl, rfl⟩))))))
    · exact de_op (de_op (de_var rfl (de_var rfl (dr_ix hd h0 hyn (de_int (dr_ix (Or.inr rfl) (by decide) rfl ⟨rfl, rfl⟩))))))
  refine ds_seq (ds_set (arr.imp ?_))
  rintro _ m ⟨rfl, rfl⟩
  obtain ⟨M, hM⟩ : ∃ M, M = (List.range l.length).filter fun k => decide (ar l k ≤ p.1) && decide (p.1 ≤ lv l k) := ⟨_, rfl⟩
  have lM : M.length ≤ 1000 := by
    rw [hM]
    have := List.length_filter_le (fun k => decide (ar l k ≤ p.1) && decide (p.1 ≤ lv l k)) (List.range l.length)
    rw [List.length_range] at this
    omega
  refine ds_ret (DE.of_fresh (df_fm M (fun k => aheadB l k g) natD (gw_name (by decide)) (by omega) ?_))
  refine di_seq <| de_call0 <| da_cons <| de_var (by rfl) <| da_cons <| de_var (by rfl) <| da_nil ⟨rfl, d, l, p.1, rfl, ⟨xs, hh⟩, hz, _, Or.inl rfl, ?_, fun i e k h1 h2 => ?_, ?_⟩
  · rw [← hM, List.length_map]
  · rw [← hM, List.getElem?_map, h2] at h1
    cases h1
    have hk : k < l.length := by
      have := List.mem_of_getElem? h2
      rw [hM] at this
      exact List.mem_range.mp (List.mem_filter.mp this).1
    obtain ⟨q, hq⟩ : ∃ q, l[k]? = some q := ⟨l[k], by simp [hk]⟩
    obtain ⟨z, hz1, hz2⟩ := hh.at hq
    have hzn : xs[((k : Nat) : Int).toNat]? = some z := by rw [Int.toNat_natCast]; exact hz1
    have hk0 : (0 : Int) ≤ ((k : Nat) : Int) := by omega
    have lx : HT.lexLt [q.1, (k : Int)] [p.1, (g : Int)] = aheadB l k g := by
      rw [lex_two]
      unfold aheadB
      rw [ar_at hq, ar_at hg]
      congr 2
      by_cases c : k < g
      · rw [decide_eq_true c, decide_eq_true (by omega)]
      · rw [decide_eq_false c, decide_eq_false (by omega)]
    refine dg_name <| dt_test <| de_op <| de_tup <| da_cons <| de_op <| de_op <| de_var (by rfl) <| de_var (by rfl) <| dr_ix hd hk0 hzn <| de_int ?_
    have fin : ∀ {ρ' : Rho}, ρ'[1]? = some (.val (.int (g : Int))) → ρ'[2]? = some (.val (.int p.1)) → ρ'[3]? = some (.val (natD k)) → DR A (rIx A.K) z (.int 0) m fun d2 m2 => DA A (tCons (tVar 3) tNil) ρ' m2 fun ds m3 => (d2 :: ds).length ≤ 100000 ∧ DE A (tTup (tCons (tVar 2) (tCons (tVar 1) tNil))) ρ' m3 fun y m4 => DR A (rLtA A.K) (.tup (d2 :: ds)) y m4 fun d5 m5 => ∃ b, d5 = .bl b ∧ m5 = m ∧ b = aheadB l k g ∧ (aheadB l k g = true → DE A (tVar 3) ρ' m fun y m2 => m2 = m ∧ y = natD k) := by
      intro ρ' e1 e2 e3
      have step : DA A (tCons (tVar 3) tNil) ρ' m fun ds m3 => (D.int q.1 :: ds).length ≤ 100000 ∧ DE A (tTup (tCons (tVar 2) (tCons (tVar 1) tNil))) ρ' m3 fun y m4 => DR A (rLtA A.K) (.tup (D.int q.1 :: ds)) y m4 fun d5 m5 => ∃ b, d5 = .bl b ∧ m5 = m ∧ b = aheadB l k g ∧ (aheadB l k g = true → DE A (tVar 3) ρ' m fun y m2 => m2 = m ∧ y = natD k) := by
        refine da_cons (de_var e3 (da_nil ⟨Nat.le_of_ble_eq_true rfl, de_tup (da_cons (de_var e2 (da_cons (de_var e1 (da_nil ⟨Nat.le_of_ble_eq_true rfl, ?_⟩)))))⟩))
        refine dr_ltT (ns := [q.1, (k : Int)]) (ms := [p.1, (g : Int)]) ⟨_, rfl, rfl, lx, fun _ => de_var e3 ⟨rfl, rfl⟩⟩
      rcases hz2 with rfl | rfl
      · exact dr_ix (Or.inl rfl) (by decide) rfl step
      · exact dr_ix (Or.inr rfl) (by decide) rfl step
    exact fin (by rfl) (by rfl) (by rfl)
  · have e : M.filter (fun k => aheadB l k g) = matesL l g := by
      rw [hM]
      unfold matesL
      rw [List.filter_filter]
      refine List.filter_congr fun k hk => ?_
      by_cases c : aheadB l k g = true
      · have h := ahead_iff.mp c
        rw [ar_at hg] at h
        rw [c, ar_at hg, decide_eq_true (show ar l k ≤ p.1 by omega)]; rfl
      · rw [Bool.not_eq_true] at c
        rw [c]; rfl
    rw [e]
    exact hp
theorem g_options (B : Tx K mg) (G_mates_of : FnG P w K mg base 3 B.a_mates_of B.fd_mates_of ["stays", "guest"] (spOf K 2 C_mates_of)) : FnG P w K mg base 4 B.a_options B.fd_options ["stays"] (spOf K 1 C_options) := by
  refine FnG.of B.F_options sc_options (fun _ _ _ _ h => spOf_len h) (fun cdv Ar outer s H vs Q E hg hr h => ?_)
  have gd : (Ar.deeper (envOfC "options" (defScope s_options) s.heap.objs.size B.a_options cdv)).guards = some [] := (deeper_guards Ar _).trans hg
  have hu : (Ar.deeper (envOfC "options" (defScope s_options) s.heap.objs.size B.a_options cdv)).units + 64 < cLine := by have := hr.un; omega
  have hu2 : (Ar.deeper (envOfC "options" (defScope s_options) s.heap.objs.size B.a_options cdv)).units + 65 < cLine := by have := hr.un; omega
  have hr_mates_of := hr.mono (show 3 ≤ _ by decide)
  refine ⟨_, (pss_one (ps_ret (pe_callTy (kx_tuple K) rfl B.n_tuple (by decide +kernel) (pa_cons (pe_lc (own := [("guest", 1)]) rfl sc_options.nd (pi_range1 rfl B.n_range (pa_cons (pe_callB (kx_len K) rfl B.n_len PySem.boot_len (pa_cons (pv 0) pa_nil)) pa_nil)) (blkOk_by (N := ["stays", "guest"]) (sc := defScope s_options) (by decide +kernel)) (fun _ _ _ _ _ => (pg_name (i := 1) sc_options.nd rfl (by first | exact Or.inl rfl | exact Or.inr rfl))) (fun _ _ _ _ _ => pts_nil) (fun _ _ _ _ _ => (pe_op (kx_plus K) (pe_callB (kx_len K) rfl B.n_len PySem.boot_len (pa_cons (pe_g G_mates_of gd hr_mates_of B.m_mates_of B.k_mates_of B.b_mates_of passL (pa_cons (pv 0) (pa_cons (pv 1) pa_nil))) pa_nil)) pe_int))) pa_nil)))), body_of h ?_⟩
  clear h gd hu hr hg hu2
  intro A ds n Pp eK eE hX hl hc
  subst eK eE
  obtain ⟨d, l, rfl, ⟨xs, hh⟩, hz, hp⟩ := hc
  refine ds_ret <| de_tupOf <| DE.of_fresh <| df_map (List.range l.length) (fun g => D.int (optN l g)) (gw_name (by decide)) (by rw [List.length_range]; omega) <| di_rng1 <| de_len <| de_var rfl ⟨xs, hh.1, _, rfl, ⟨by omega, by rw [hh.2.1]; omega⟩, by rw [rng_len, hh.2.1, List.length_range]; simp, fun i e g h1 h2 => ?_, ⟨_, Or.inl rfl, hp⟩⟩
  have hi : i < l.length := by
    have := (List.getElem?_eq_some_iff.mp h2).1
    rw [List.length_range] at this
    exact this
  have eg : g = i := by
    rw [List.getElem?_range hi] at h2
    cases h2; rfl
  subst eg
  rw [rng_get (by rw [hh.2.1]; simpa using hi)] at h1
  cases h1
  have e0 : (0 : Int) + (g : Int) = (g : Int) := by omega
  rw [e0]
  refine dg_name <| de_op <| de_len <| de_call0 <| da_cons <| de_var (by rfl) <| da_cons <| de_var (by rfl) <| da_nil ⟨rfl, d, l, g, l[g], rfl, ⟨xs, hh⟩, by omega, by simp [hi], ⟨_, Or.inl rfl, ?_⟩⟩
  refine de_int (dr_plusI ⟨rfl, ?_⟩)
  rw [List.length_map]
  rfl
theorem g_lot_many (B : Tx K mg) (G_options : FnG P w K mg base 4 B.a_options B.fd_options ["stays"] (spOf K 1 C_options)) : FnG P w K mg base 5 B.a_lot_many B.fd_lot_many ["stays"] (spOf K 1 C_lot_many) := by
  refine FnG.of B.F_lot_many sc_lot_many (fun _ _ _ _ h => spOf_len h) (fun cdv Ar outer s H vs Q E hg hr h => ?_)
  have gd : (Ar.deeper (envOfC "lot_many" (defScope s_lot_many) s.heap.objs.size B.a_lot_many cdv)).guards = some [] := (deeper_guards Ar _).trans hg
  have hu : (Ar.deeper (envOfC "lot_many" (defScope s_lot_many) s.heap.objs.size B.a_lot_many cdv)).units + 64 < cLine := by have := hr.un; omega
  have hu2 : (Ar.deeper (envOfC "lot_many" (defScope s_lot_many) s.heap.objs.size B.a_lot_many cdv)).units + 65 < cLine := by have := hr.un; omega
  have hr_options := hr.mono (show 4 ≤ _ by decide)
  refine ⟨_, (pss_cons (ps_set (i := 1) sc_lot_many.nd rfl (by first | exact Or.inl rfl | exact Or.inr rfl) pe_int)
    (pss_cons (ps_for (passes_of rfl) rfl (kp_seq K (pe_g G_options gd hr_options B.m_options B.k_options B.b_options passL (pa_cons (pv 0) pa_nil))) (pg_name (i := 2) sc_lot_many.nd rfl (by first | exact Or.inl rfl | exact Or.inr rfl)) (pss_one (ps_aug (i := 1) sc_lot_many.nd rfl (by first | exact Or.inl rfl | exact Or.inr rfl) (pv 2) ip_mulW)))
    (pss_one (ps_ret (pv 1))))), body_of h ?_⟩
  clear h gd hu hr hg hu2
  intro A ds n Pp eK eE hX hl hc
  subst eK eE
  obtain ⟨d, l, rfl, hln, hz, ho, hp⟩ := hc
  refine ds_seq (ds_set (de_int ?_))
  refine ds_seq <| ds_for <| di_seq <| de_call0 <| da_cons <| de_var (by rfl) <| da_nil ⟨rfl, d, l, rfl, hln, hz, ⟨_, Or.inr rfl, fun i ρ' m => ∃ s2, ρ' = [.val d, .val (.int (prodI (((List.range l.length).take i).map (optN l)))), s2] ∧ m = n, ⟨_, rfl, rfl⟩, ?_, ?_⟩⟩
  · rintro i e ρ' m he ⟨s2, rfl, rfl⟩
    have hi : i < l.length := by
      have := (List.getElem?_eq_some_iff.mp he).1
      rw [List.length_map, List.length_range] at this
      exact this
    have hx : (List.range l.length)[i]? = some i := List.getElem?_range hi
    rw [List.getElem?_map, hx] at he
    cases he
    refine dg_name (ds_augC (by rfl) (de_var (by rfl) ⟨_, rfl, ?_, .val (.int (optN l i)), ?_, rfl⟩))
    · have h1 := prodI_small hz ((List.range l.length).take i)
      have h2 := opt_small hz i
      rw [List.length_take, List.length_range] at h1
      refine wide_mul h1 h2 (by omega) (by omega) ?_
      have : min i l.length ≤ 100 := by omega
      omega
    · rw [take_one_more hx, List.map_append, prodI_app]
      show _ = [_, Slot.val (D.int (_ * (optN l i * 1))), _]
      rw [Int.mul_one]
      rfl
  · rintro ρ' m ⟨s2, rfl, rfl⟩
    rw [List.length_map, List.take_length]
    walk_at "D"
    obtain ⟨q, hq⟩ := ordQ_ex l
    rw [opt_prod ho hq]
    exact hp
--@@split
theorem g_l_of (B : Tx K mg) (G_l_take : FnG P w K mg base 7 B.a_l_take B.fd_l_take ["_law_box_here", "_law_span"] (spOf K 2 C_l_take)) : FnG P w K mg base 8 B.a_l_of B.fd_l_of ["_law_box_here", "_law_some"] (spOf K 2 C_l_of) := by
  refine FnG.of B.F_l_of sc_l_of (fun _ _ _ _ h => spOf_len h) (fun cdv Ar outer s H vs Q E hg hr h => ?_)
  have gd : (Ar.deeper (envOfC "_law_of" (defScope s_l_of) s.heap.objs.size B.a_l_of cdv)).guards = some [] := (deeper_guards Ar _).trans hg
  have hu : (Ar.deeper (envOfC "_law_of" (defScope s_l_of) s.heap.objs.size B.a_l_of cdv)).units + 64 < cLine := by have := hr.un; omega
  have hu2 : (Ar.deeper (envOfC "_law_of" (defScope s_l_of) s.heap.objs.size B.a_l_of cdv)).units + 65 < cLine := by have := hr.un; omega
  have hr_l_take := hr.mono (show 7 ≤ _ by decide)
  refine ⟨_, (pss_one (ps_ret (pe_ix (kx_ix K) (pv 1) (pe_g G_l_take gd hr_l_take B.m_l_take B.k_l_take B.b_l_take passL (pa_cons (pv 0) (pa_cons (pe_callB (kx_len K) rfl B.n_len PySem.boot_len (pa_cons (pv 1) pa_nil)) pa_nil))) (fun _ _ => rfl)))), body_of h ?_⟩
  clear h gd hu hr hg hu2
  intro A ds n Pp eK eE hX hl hc
  subst eK eE
  obtain ⟨a, d, xs, hb, rfl, hd, h0, hz, hn, hp⟩ := hc
  have p7 : (10 : Int) ^ (7 * (6 + 1)) = 10 ^ 49 := rfl
  walk_at "D"
  refine ⟨rfl, a, _, hb, rfl, by omega, by rw [p7]; have : (100000 : Int) < 10 ^ 49 := by decide
                                           omega, by omega, by omega, fun v m h1 h2 h3 h4 => ?_⟩
  have hv : v.toNat < xs.length := by omega
  have hx : xs[v.toNat]? = some xs[v.toNat] := by simp [hv]
  exact dr_ix hd h1 hx (hp _ _ _ hx h3 h4)
theorem g_l_random_line (B : Tx K mg) (G_l_take : FnG P w K mg base 7 B.a_l_take B.fd_l_take ["_law_box_here", "_law_span"] (spOf K 2 C_l_take)) : FnG P w K mg base 8 B.a_l_random_line B.fd_l_random_line ["_law_box_here", "_law_most", "_law_top"] (spOf K 3 C_l_random_line) := by
  refine FnG.of B.F_l_random_line sc_l_random_line (fun _ _ _ _ h => spOf_len h) (fun cdv Ar outer s H vs Q E hg hr h => ?_)
  have gd : (Ar.deeper (envOfC "_law_random_line" (defScope s_l_random_line) s.heap.objs.size B.a_l_random_line cdv)).guards = some [] := (deeper_guards Ar _).trans hg
  have hu : (Ar.deeper (envOfC "_law_random_line" (defScope s_l_random_line) s.heap.objs.size B.a_l_random_line cdv)).units + 64 < cLine := by have := hr.un; omega
  have hu2 : (Ar.deeper (envOfC "_law_random_line" (defScope s_l_random_line) s.heap.objs.size B.a_l_random_line cdv)).units + 65 < cLine := by have := hr.un; omega
  have hr_l_take := hr.mono (show 7 ≤ _ by decide)
  refine ⟨_, (pss_cons (ps_par (i := 3) (j := 4) rfl sc_l_random_line.nd rfl rfl (by decide) rfl rfl (pa_cons (pe_lst pa_nil) (pa_cons (pe_lst pa_nil) pa_nil)) rfl)
    (pss_cons (ps_for (passes_of rfl) rfl (pi_range1 rfl B.n_range (pa_cons (pe_g G_l_take gd hr_l_take B.m_l_take B.k_l_take B.b_l_take passL (pa_cons (pv 0) (pa_cons (pe_op (kx_plus K) (pv 1) pe_int) pa_nil))) pa_nil)) (pg_name (i := 5) sc_l_random_line.nd rfl (by first | exact Or.inl rfl | exact Or.inr rfl)) (pss_cons (ps_set (i := 6) sc_l_random_line.nd rfl (by first | exact Or.inl rfl | exact Or.inr rfl) (pe_g G_l_take gd hr_l_take B.m_l_take B.k_l_take B.b_l_take passL (pa_cons (pv 0) (pa_cons (pe_op (kx_plus K) (pv 2) pe_int) pa_nil))))
    (pss_cons (ps_set (i := 7) sc_l_random_line.nd rfl (by first | exact Or.inl rfl | exact Or.inr rfl) (pe_op (kx_plus K) (pv 6) (pe_g G_l_take gd hr_l_take B.m_l_take B.k_l_take B.b_l_take passL (pa_cons (pv 0) (pa_cons (pe_op (kx_plus K) (pv 2) pe_int) pa_nil)))))
    (pss_cons (ps_while (passes_of rfl) (pt_cmpR (kx_in K) (pv 7) (pv 4) rfl) (pss_one (ps_set (i := 7) sc_l_random_line.nd rfl (by first | exact Or.inl rfl | exact Or.inr rfl) (pe_op (kx_plus K) (pv 7) pe_int))))
    (pss_cons (ps_expr (pe_bm PySem.F.plainAttrs_list PySem.F.slot_list_append PySem.F.type_list_append mt_append (pv 4) (pa_cons (pv 7) pa_nil)))
    (pss_one (ps_expr (pe_bm PySem.F.plainAttrs_list PySem.F.slot_list_append PySem.F.type_list_append mt_append (pv 3) (pa_cons (pe_tup (pa_cons (pv 6) (pa_cons (pv 7) pa_nil))) pa_nil)))))))))
    (pss_one (ps_ret (pe_callTy (kx_tuple K) rfl B.n_tuple (by decide +kernel) (pa_cons (pv 3) pa_nil)))))), body_of h ?_⟩
  clear h gd hu hr hg hu2
  intro A ds n Pp eK eE hX hl hc
  subst eK eE
  obtain ⟨a, most, top, hb, rfl, h0, h1, h2, h3, hn, hp⟩ := hc
  have p43 : (10 : Int) ^ 42 + 1 ≤ 10 ^ 43 := by decide
  have p44 : (101 : Int) ≤ 10 ^ 43 := by decide
  refine ds_seq (ds_parNil (by decide) (Nat.le_of_ble_eq_true rfl) (Nat.le_of_ble_eq_true rfl) ?_)
  refine ds_seq (ds_for (di_rng1 (de_call0 ?_)))
  walk_at "D"
  refine ⟨rfl, tk hb (by omega) (by omega) (by omega) fun v n1 v0 v1 l1 l2 => ?_⟩
  refine ⟨v, rfl, ⟨by omega, by omega⟩, fun i ρ' m => ∃ l s5 s6 s7, ρ' = [.val (.raw (.ref a)), .val (.int most), .val (.int top), .own (l.map pr), .own ((l.map Prod.snd).map D.int), s5, s6, s7] ∧ l.length = i ∧ Days (2 * top + i) l ∧ n1 ≤ m ∧ m ≤ n1 + 256 * i, ⟨[], _, _, _, rfl, rfl, ⟨fun p hp => by simp at hp, by simp⟩, Nat.le_refl _, by omega⟩, ?_, ?_⟩
  · rintro i d ρ' m hd ⟨l, s5, s6, s7, rfl, hl, hD, hm1, hm2⟩
    have hi : i < v.toNat := by
      have := (List.getElem?_eq_some_iff.mp hd).1
      rw [rng_len] at this
      exact this
    rw [rng_get hi] at hd
    cases hd
    refine dg_name (ds_seq (ds_set (de_call0 ?_)))
    walk_at "D"
    refine ⟨rfl, tk hb (by omega) (by omega) (by omega) fun c n2 c0 c1 l3 l4 => ?_⟩
    refine ds_seq (ds_set (de_op (de_var rfl (de_call0 ?_))))
    walk_at "D"
    refine ⟨rfl, tk hb (by omega) (by omega) (by omega) fun t n3 t0 t1 l5 l6 => ?_⟩
    refine dr_plusI ?_
    refine ds_seq (ds_while ⟨fun k ρ2 m' => ∃ x, ρ2 = [.val (.raw (.ref a)), .val (.int most), .val (.int top), .own (l.map pr), .own ((l.map Prod.snd).map D.int), .val (.int (0 + (i : Int))), .val (.int c), .val (.int x)] ∧ c ≤ x ∧ x + (cnt (l.map Prod.snd) x : Nat) ≤ c + t + (i : Int) ∧ k = cnt (l.map Prod.snd) x ∧ m' = n3, ⟨_, c + t, rfl, by omega, ?_, rfl, rfl⟩, ?_⟩)
    · have := cnt_len (x := c + t) (l.map Prod.snd)
      rw [List.length_map, hl] at this
      omega
    · rintro k ρ2 m' ⟨x, rfl, x0, x1, rfl, rfl⟩
      refine dt_test (de_inOwn (by rfl) (de_var rfl ⟨x, rfl, _, rfl, ?_⟩))
      rw [if_neg Bool.false_ne_true]
      refine if2 (fun hin => ?_) (fun hin => ?_)
      · have hin := of_decide_eq_true hin
        have g := cnt_lt _ hin
        walk_at "D"
        exact ⟨by omega, by omega, rfl, rfl⟩
      · have hin := of_decide_eq_false hin
        refine ds_seq (ds_app (by rfl) (de_var rfl ⟨?_, ?_⟩))
        · rw [List.length_map, List.length_map]; omega
        refine ds_app (by rfl) ?_
        walk_at "D"
        refine ⟨Nat.le_of_ble_eq_true rfl, ?_, l ++ [(c, x)], .val (.int (0 + (i : Int))), .val (.int c), .val (.int x), ?_, ?_, (hD.up ?_).snoc c0 x0 ?_ hin, ?_, ?_⟩
        · rw [List.length_map]; omega
        · show _ = [_, _, _, _, _, _, _, _]
          rw [List.map_append, List.map_append, List.map_append]
          rfl
        · rw [List.length_append, hl]; rfl
        · omega
        · omega
        · omega
        · omega
  · rintro ρ' m ⟨l, s5, s6, s7, rfl, hl, hD, hm1, hm2⟩
    rw [rng_len] at hl hD hm2
    refine ds_ret (de_tupOwn (by rfl) (hp l m (by omega) (hD.up (by omega)) (by omega) (by omega)))
--@@split
theorem g_l_lot (B : Tx K mg) : FnG P w K mg base 1 B.a_l_lot B.fd_l_lot ["_law_line"] (spOf K 1 C_l_lot) := by
  refine FnG.of B.F_l_lot sc_l_lot (fun _ _ _ _ h => spOf_len h) (fun cdv Ar outer s H vs Q E hg hr h => ?_)
  have gd : (Ar.deeper (envOfC "_law_lot" (defScope s_l_lot) s.heap.objs.size B.a_l_lot cdv)).guards = some [] := (deeper_guards Ar _).trans hg
  have hu : (Ar.deeper (envOfC "_law_lot" (defScope s_l_lot) s.heap.objs.size B.a_l_lot cdv)).units + 64 < cLine := by have := hr.un; omega
  have hu2 : (Ar.deeper (envOfC "_law_lot" (defScope s_l_lot) s.heap.objs.size B.a_l_lot cdv)).units + 65 < cLine := by have := hr.un; omega
  refine ⟨_, (pss_cons (ps_set (i := 1) sc_l_lot.nd rfl (by first | exact Or.inl rfl | exact Or.inr rfl) (pe_lst (pa_cons (pe_tup pa_nil) pa_nil)))
    (pss_cons (ps_for (passes_of rfl) rfl (kp_seq K (pv 0)) (kg_seq (n := 2) K rfl (pgs_cons (pg_name (i := 2) sc_l_lot.nd rfl (by first | exact Or.inl rfl | exact Or.inr rfl)) (pgs_cons (pg_name (i := 3) sc_l_lot.nd rfl (by first | exact Or.inl rfl | exact Or.inr rfl)) pgs_nil))) (pss_cons (ps_set (i := 4) sc_l_lot.nd rfl (by first | exact Or.inl rfl | exact Or.inr rfl) (pe_lst pa_nil))
    (pss_cons (ps_for (passes_of rfl) rfl (kp_seq K (pv 1)) (pg_name (i := 5) sc_l_lot.nd rfl (by first | exact Or.inl rfl | exact Or.inr rfl)) (pss_cons (by first | exact ps_setLc (i := 6) (own := [("_law_pair_of", 8)]) rfl sc_l_lot.nd rfl rfl (sw_true rfl rfl rfl (by decide +kernel)) (kp_seq K (pv 5)) (blkOk_by (N := ["_law_line", "_law_rows_so", "_law_come_day", "_law_leave", "_law_longer", "_law_begun", "_law_taken", "_law_later", "_law_pair_of", "_law_its"]) (sc := defScope s_l_lot) (by decide +kernel)) (fun _ _ _ _ _ => (pg_name (i := 8) sc_l_lot.nd rfl (by first | exact Or.inl rfl | exact Or.inr rfl))) (fun _ _ _ _ _ => pts_nil) (fun _ _ _ _ _ => (pe_ix (kx_ix K) (pv 8) pe_int (fun _ _ => rfl))) | exact ps_set (i := 6) sc_l_lot.nd rfl (by first | exact Or.inl rfl | exact Or.inr rfl) (pe_lc (own := [("_law_pair_of", 8)]) rfl sc_l_lot.nd (kp_seq K (pv 5)) (blkOk_by (N := ["_law_line", "_law_rows_so", "_law_come_day", "_law_leave", "_law_longer", "_law_begun", "_law_taken", "_law_later", "_law_pair_of", "_law_its"]) (sc := defScope s_l_lot) (by decide +kernel)) (fun _ _ _ _ _ => (pg_name (i := 8) sc_l_lot.nd rfl (by first | exact Or.inl rfl | exact Or.inr rfl))) (fun _ _ _ _ _ => pts_nil) (fun _ _ _ _ _ => (pe_ix (kx_ix K) (pv 8) pe_int (fun _ _ => rfl)))))
    (pss_one (ps_for (passes_of rfl) rfl (kp_seq K (pe_callB (kx_sortA K) rfl B.n_sorted (by decide +kernel) (pa_cons (pe_lc (own := [("_law_its", 9)]) rfl sc_l_lot.nd (kp_seq K (pv 0)) (blkOk_by (N := ["_law_line", "_law_rows_so", "_law_come_day", "_law_leave", "_law_longer", "_law_begun", "_law_taken", "_law_later", "_law_pair_of", "_law_its"]) (sc := defScope s_l_lot) (by decide +kernel)) (fun _ _ _ _ _ => (pg_name (i := 9) sc_l_lot.nd rfl (by first | exact Or.inl rfl | exact Or.inr rfl))) (fun _ _ _ _ _ => pts_nil) (fun _ _ _ _ _ => (pe_ix (kx_ix K) (pv 9) pe_int (fun _ _ => rfl)))) pa_nil))) (pg_name (i := 7) sc_l_lot.nd rfl (by first | exact Or.inl rfl | exact Or.inr rfl)) (pss_one (ps_if (PW.pt (pw_and (pt_cmpR op_ge (pv 7) (pv 2) (nomark _)) (pw_and1 (pt_cmpR (kx_notin K) (pv 7) (pv 6) rfl)))) (pss_one (ps_expr (pe_bm PySem.F.plainAttrs_list PySem.F.slot_list_append PySem.F.type_list_append mt_append (pv 4) (pa_cons (pe_op (kx_plus K) (pv 5) (pe_tup (pa_cons (pe_tup (pa_cons (pv 2) (pa_cons (pv 7) pa_nil))) pa_nil))) pa_nil)))) pss_nil))))))
    (pss_one (ps_set (i := 1) sc_l_lot.nd rfl (by first | exact Or.inl rfl | exact Or.inr rfl) (pv 4))))))
    (pss_one (ps_ret (pv 1))))), body_of h ?_⟩
  clear h gd hu hr hg hu2
  intro A ds n Pp eK eE hX hl hc
  subst eK eE
  obtain ⟨l, rfl, hz, hp⟩ := hc
  obtain ⟨L, hL⟩ : ∃ L, L = l.map Prod.snd := ⟨_, rfl⟩
  have ll : L.length ≤ 5 := by rw [hL, List.length_map]; exact hz
  have item : ∀ {i : Nat} {d : D} {p : Int × Int}, (l.map pr)[i]? = some d → l[i]? = some p → d = pr p := fun {i d p} h1 h2 => by
    rw [List.getElem?_map, h2] at h1
    cases h1; rfl
  refine ds_seq <| ds_set <| DE.of_fresh <| df_lst <| da_cons <| de_tup <| da_nil ⟨Nat.zero_le _, da_nil ⟨Nat.le_of_ble_eq_true rfl, ?_⟩⟩
  refine ds_seq <| ds_for <| di_seq <| de_var rfl ⟨_, Or.inr rfl, fun i ρ' m => ∃ (Ps : List (List (Int × Int))) (s2 s3 s4 s5 s6 s7 : DL.Slot), ρ' = [.val (.tup (l.map pr)), .val (.lst (Ps.map rowD)), s2, s3, s4, s5, s6, s7, .un, .un] ∧ Ps.length ≤ 5 ^ i ∧ (∀ q ∈ Ps, q.length = i) ∧ bfs ((l.map Prod.fst).drop i) L Ps = lotL (l.map Prod.fst) L ∧ m = n, ⟨[[]], _, _, _, _, _, _, rfl, Nat.le_refl _, fun q hq => by cases List.mem_singleton.mp hq; rfl, bfs_all _ _, rfl⟩, ?_, ?_⟩
  · rintro i d ρ' m hd ⟨Ps, s2, s3, s4, s5, s6, s7, rfl, hPl, hrl', hb, rfl⟩
    have hi : i < l.length := by
      have := (List.getElem?_eq_some_iff.mp hd).1
      rw [List.length_map] at this
      exact this
    obtain ⟨p, hpi⟩ : ∃ p, l[i]? = some p := ⟨l[i], by simp [hi]⟩
    rw [item hd hpi]
    have hdr : (l.map Prod.fst).drop i = p.1 :: (l.map Prod.fst).drop (i + 1) := by
      have hi' : i < (l.map Prod.fst).length := by rw [List.length_map]; exact hi
      rw [List.drop_eq_getElem_cons hi']
      congr 1
      rw [List.getElem_map, (List.getElem?_eq_some_iff.mp hpi).2]
    rw [hdr] at hb
    have p5 : 5 ^ i ≤ 5 ^ 4 := Nat.pow_le_pow_right (by decide) (by omega)
    refine dg_seq (Or.inr rfl) rfl (dgs_cons (dg_name (dgs_cons (dg_name (dgs_nil ?_)))))
    refine ds_seq (ds_setOwn (df_lst (da_nil ⟨Nat.zero_le _, ?_⟩)))
    have hrl : ∀ q ∈ Ps, q.length ≤ 1000 := fun q hq => by rw [hrl' q hq]; omega
    have step : ∀ (X Y : List (List (Int × Int))), X ++ Y = X ++ Y := fun _ _ => rfl
    have lb : ∀ j, ((Ps.take j).flatMap (extP p.1 L)).length ≤ 3125 := fun j => by
      have h1 := flat_le2 (f := extP p.1 L) (B := 5) (Ps.take j) fun x => Nat.le_trans (extP_len _ _ _) ll
      have h2 : (Ps.take j).length ≤ 625 := by
        rw [List.length_take]
        have : (5 : Nat) ^ 4 = 625 := rfl
        omega
      omega
    refine ds_seq <| ds_for <| di_seq <| de_var (by rfl) ⟨_, Or.inl rfl, fun j ρ' m' => ∃ s5 s6 s7 : DL.Slot, ρ' = [.val (.tup (l.map pr)), .val (.lst (Ps.map rowD)), .val (.int p.1), .val (.int p.2), .own (((Ps.take j).flatMap (extP p.1 L)).map rowD), s5, s6, s7, .un, .un] ∧ m' = m, ⟨_, _, _, rfl, rfl⟩, ?_, ?_⟩
    · rintro j d ρ' m' hd ⟨s5, s6, s7, rfl, rfl⟩
      have hj : j < Ps.length := by
        have := (List.getElem?_eq_some_iff.mp hd).1
        rw [List.length_map] at this
        exact this
      obtain ⟨r, hr⟩ : ∃ r, Ps[j]? = some r := ⟨Ps[j], by simp [hj]⟩
      rw [List.getElem?_map, hr] at hd
      cases hd
      have nxt : (Ps.take (j + 1)).flatMap (extP p.1 L) = (Ps.take j).flatMap (extP p.1 L) ++ extP p.1 L r := by
        rw [take_one_more hr, List.flatMap_append, List.flatMap_cons, List.flatMap_nil, List.append_nil]
      refine dg_name <| ds_seq <| ds_set <| DE.of_fresh <| df_map (r.map Prod.snd) D.int (gw_name (by decide)) ?_ <| di_seq <| de_var (by rfl) ⟨_, Or.inr rfl, by rw [List.length_map, List.length_map], fun k e x h1 h2 => ?_, ?_⟩
      · rw [List.length_map]; exact Nat.le_trans (hrl r (List.mem_of_getElem? hr)) (by decide)
      · rw [List.getElem?_map] at h1 h2
        cases h : r[k]? with
        | none => rw [h] at h1; cases h1
        | some q =>
          rw [h] at h1 h2
          cases h1; cases h2
          refine dg_name ?_
          walk_at "D"
          exact ⟨rfl, rfl⟩
      refine ds_for <| di_seq <| DE.of_fresh <| df_sortA <| DE.of_fresh <| df_map L D.int (gw_name (by decide)) (by omega) <| di_seq <| de_var (by rfl) ⟨_, Or.inr rfl, by rw [hL, List.length_map, List.length_map], fun k e x h1 h2 => ?_, L, Or.inl rfl, fun S hS1 hS2 => ?_⟩
      · rw [hL, List.getElem?_map] at h2
        cases h : l[k]? with
        | none => rw [h] at h2; cases h2
        | some q =>
          rw [item h1 h]
          rw [h] at h2
          cases h2
          refine dg_name ?_
          walk_at "D"
          exact ⟨rfl, rfl⟩
      have eS := srt_one hS1 hS2
      refine ⟨_, Or.inl rfl, fun k ρ' m2 => ∃ s7 : DL.Slot, ρ' = [.val (.tup (l.map pr)), .val (.lst (Ps.map rowD)), .val (.int p.1), .val (.int p.2), .own (((Ps.take j).flatMap (extP p.1 L) ++ ((S.take k).filter fun d => decide (p.1 ≤ d) && !decide (d ∈ r.map Prod.snd)).map fun d => r ++ [(p.1, d)]).map rowD), .val (rowD r), .val (.lst ((r.map Prod.snd).map D.int)), s7, .un, .un] ∧ m2 = m', ⟨s7, ?_, rfl⟩, ?_, ?_⟩
      · show _ = [_, _, _, _, Slot.own ((_ ++ []).map rowD), _, _, _, _, _]
        rw [List.append_nil]
        rfl
      · rintro k e ρ' m2 he ⟨s7, rfl, rfl⟩
        have hk : k < S.length := by
          have := (List.getElem?_eq_some_iff.mp he).1
          rw [List.length_map] at this
          exact this
        obtain ⟨x, hx⟩ : ∃ x, S[k]? = some x := ⟨S[k], by simp [hk]⟩
        rw [List.getElem?_map, hx] at he
        cases he
        have nx2 : ((S.take (k + 1)).filter fun d => decide (p.1 ≤ d) && !decide (d ∈ r.map Prod.snd)) = ((S.take k).filter fun d => decide (p.1 ≤ d) && !decide (d ∈ r.map Prod.snd)) ++ (if (decide (p.1 ≤ x) && !decide (x ∈ r.map Prod.snd)) = true then [x] else []) := by
          rw [take_one_more hx, List.filter_append]
          congr 1
          by_cases c : (decide (p.1 ≤ x) && !decide (x ∈ r.map Prod.snd)) = true
          · rw [if_pos c, List.filter_cons_of_pos (p := fun d => decide (p.1 ≤ d) && !decide (d ∈ r.map Prod.snd)) c]; rfl
          · rw [if_neg c, List.filter_cons_of_neg (p := fun d => decide (p.1 ≤ d) && !decide (d ∈ r.map Prod.snd)) c]; rfl
        have no : (decide (p.1 ≤ x) && !decide (x ∈ r.map Prod.snd)) = false → ((S.take (k + 1)).filter fun d => decide (p.1 ≤ d) && !decide (d ∈ r.map Prod.snd)) = ((S.take k).filter fun d => decide (p.1 ≤ d) && !decide (d ∈ r.map Prod.snd)) := fun h => by
          rw [nx2, if_neg (by rw [h]; decide), List.append_nil]
        refine dg_name <| ds_if <| dt_and <| dt_test <| de_op <| de_var (by rfl) <| de_var (by rfl) <| dr_ge ⟨_, rfl, ?_⟩
        refine if2 (fun c => ?_) (fun c => ?_)
        · refine dt_test <| de_op <| de_var (by rfl) <| de_var (by rfl) <| dr_in (Or.inl rfl) ⟨_, rfl, ?_⟩
          rw [if_pos rfl]
          refine if2 (fun c2 => ?_) (fun c2 => ?_)
          · refine ds_app (by rfl) ?_
            refine de_op <| de_var (by rfl) <| de_tup <| da_cons <| de_tup <| da_cons <| de_var (by rfl) <| da_cons <| de_var (by rfl) <| da_nil ⟨Nat.le_of_ble_eq_true rfl, da_nil ⟨Nat.le_of_ble_eq_true rfl, ?_⟩⟩
            refine dr_plusT (by rw [List.length_map, List.length_singleton]; have := hrl r (List.mem_of_getElem? hr); omega) ⟨?_, ?_⟩
            · rw [List.length_map, List.length_append, List.length_map]
              have h1 := lb j
              have h2 := List.length_filter_le (fun d => decide (p.1 ≤ d) && !decide (d ∈ r.map Prod.snd)) (S.take k)
              have h3 := hS1.length_eq
              rw [List.length_take] at h2
              omega
            · refine ⟨.val (.int x), ?_, rfl⟩
              have eo : ((Ps.take j).flatMap (extP p.1 L) ++ ((S.take (k + 1)).filter fun d => decide (p.1 ≤ d) && !decide (d ∈ r.map Prod.snd)).map fun d => r ++ [(p.1, d)]).map rowD = ((Ps.take j).flatMap (extP p.1 L) ++ ((S.take k).filter fun d => decide (p.1 ≤ d) && !decide (d ∈ r.map Prod.snd)).map fun d => r ++ [(p.1, d)]).map rowD ++ [.tup (r.map pr ++ [.tup [.int p.1, .int x]])] := by
                rw [nx2, if_pos (by rw [c, c2]; rfl), List.map_append (f := fun d => r ++ [(p.1, d)]), ← List.append_assoc, List.map_append (f := rowD) (l₂ := [x].map fun d => r ++ [(p.1, d)])]
                congr 1
                show [rowD (r ++ [(p.1, x)])] = _
                unfold rowD
                rw [List.map_append]
                rfl
              rw [eo]
              rfl
          · refine ds_next ⟨.val (.int x), ?_, rfl⟩
            rw [no (by rw [c2, Bool.and_false])]
            rfl
        · refine ds_next ⟨.val (.int x), ?_, rfl⟩
          rw [no (by rw [c]; rfl)]
          rfl
      · rintro ρ' m2 ⟨s7, rfl, rfl⟩
        refine ⟨.val (rowD r), .val (.lst ((r.map Prod.snd).map D.int)), s7, ?_, rfl⟩
        rw [List.length_map, List.take_length, nxt, eS]
        rfl
    · rintro ρ' m' ⟨s5, s6, s7, rfl, rfl⟩
      rw [List.length_map, List.take_length]
      refine ds_frz (i := 4) (by rfl) ?_
      refine ds_set <| de_var (by rfl) ⟨Ps.flatMap (extP p.1 L), _, _, _, s5, s6, s7, rfl, ?_, fun q hq => ?_, hb, rfl⟩
      · have h1 := flat_le2 (f := extP p.1 L) (B := 5) Ps fun x => Nat.le_trans (extP_len _ _ _) ll
        rw [Nat.pow_succ]
        omega
      · obtain ⟨r, hr, hq⟩ := List.mem_flatMap.mp hq
        unfold extP at hq
        obtain ⟨d, _, rfl⟩ := List.mem_map.mp hq
        rw [List.length_append, hrl' r hr]; rfl
  · rintro ρ' m ⟨Ps, s2, s3, s4, s5, s6, s7, rfl, hPl, hrl', hb, rfl⟩
    rw [List.length_map, List.drop_of_length_le (by rw [List.length_map]; exact Nat.le_refl _)] at hb
    refine ds_ret (de_var (by rfl) ?_)
    have e : Ps = lotL (l.map Prod.fst) L := hb
    rw [e, hL]
    exact hp
--@@split
theorem g_l_reached (B : Tx K mg) (G_exchanges : FnG P w K mg base 3 B.a_exchanges B.fd_exchanges ["stays"] (spOfF K 1 C_exchanges)) (G_exchanged : FnG P w K mg base 3 B.a_exchanged B.fd_exchanged ["stays", "one", "other"] (spOf K 3 C_exchanged)) : FnG P w K mg base 5 B.a_l_reached B.fd_l_reached ["_law_line"] (spOf K 1 C_l_reached) := by
  refine FnG.of B.F_l_reached sc_l_reached (fun _ _ _ _ h => spOf_len h) (fun cdv Ar outer s H vs Q E hg hr h => ?_)
  have gd : (Ar.deeper (envOfC "_law_reached" (defScope s_l_reached) s.heap.objs.size B.a_l_reached cdv)).guards = some [] := (deeper_guards Ar _).trans hg
  have hu : (Ar.deeper (envOfC "_law_reached" (defScope s_l_reached) s.heap.objs.size B.a_l_reached cdv)).units + 64 < cLine := by have := hr.un; omega
  have hu2 : (Ar.deeper (envOfC "_law_reached" (defScope s_l_reached) s.heap.objs.size B.a_l_reached cdv)).units + 65 < cLine := by have := hr.un; omega
  have hr_exchanges := hr.mono (show 3 ≤ _ by decide)
  have hr_exchanged := hr.mono (show 3 ≤ _ by decide)
  refine ⟨_, (pss_cons (ps_par3 (i := 1) (j := 2) (l := 3) rfl sc_l_reached.nd rfl rfl rfl (by decide) (by decide) (by decide) rfl rfl rfl (pa_cons (pe_lst (pa_cons (pv 0) pa_nil)) (pa_cons (pe_lst (pa_cons (pv 0) pa_nil)) (pa_cons (pe_nd1 K hu (pv 0) pe_bl) pa_nil))) rfl)
    (pss_cons (ps_while (passes_of rfl) (pt_cmpR (kx_ne K hu) (pv 2) (pe_lst pa_nil) (nomark _)) (pss_cons (ps_set (i := 4) sc_l_reached.nd rfl (by first | exact Or.inl rfl | exact Or.inr rfl) (pe_lst pa_nil))
    (pss_cons (ps_for (passes_of rfl) rfl (kp_seq K (pv 2)) (pg_name (i := 5) sc_l_reached.nd rfl (by first | exact Or.inl rfl | exact Or.inr rfl)) (pss_one (ps_for (passes_of rfl) rfl (kp_seq K (pe_g G_exchanges gd hr_exchanges B.m_exchanges B.k_exchanges B.b_exchanges passL (pa_cons (pv 5) pa_nil))) (kg_seq (n := 2) K rfl (pgs_cons (pg_name (i := 6) sc_l_reached.nd rfl (by first | exact Or.inl rfl | exact Or.inr rfl)) (pgs_cons (pg_name (i := 7) sc_l_reached.nd rfl (by first | exact Or.inl rfl | exact Or.inr rfl)) pgs_nil))) (pss_cons (ps_set (i := 8) sc_l_reached.nd rfl (by first | exact Or.inl rfl | exact Or.inr rfl) (pe_g G_exchanged gd hr_exchanged B.m_exchanged B.k_exchanged B.b_exchanged passL (pa_cons (pv 5) (pa_cons (pv 6) (pa_cons (pv 7) pa_nil)))))
    (pss_cons (ps_if (pt_cmpR (kx_ne K hu) (pe_g G_exchanged gd hr_exchanged B.m_exchanged B.k_exchanged B.b_exchanged passL (pa_cons (pv 8) (pa_cons (pv 7) (pa_cons (pv 6) pa_nil)))) (pv 5) (nomark _)) (pss_one (ps_ret (pe_lst pa_nil))) pss_nil)
    (pss_one (ps_if (pt_cmpR (kx_ninN K hu) (pv 8) (pv 3) rfl) (pss_cons (ps_nput K hu (pv 3) (pv 8) pe_bl rfl)
    (pss_cons (ps_expr (pe_bm PySem.F.plainAttrs_list PySem.F.slot_list_append PySem.F.type_list_append mt_append (pv 1) (pa_cons (pv 8) pa_nil)))
    (pss_one (ps_expr (pe_bm PySem.F.plainAttrs_list PySem.F.slot_list_append PySem.F.type_list_append mt_append (pv 4) (pa_cons (pv 8) pa_nil)))))) pss_nil)))))))
    (pss_one (ps_set (i := 2) sc_l_reached.nd rfl (by first | exact Or.inl rfl | exact Or.inr rfl) (pv 4))))))
    (pss_one (ps_ret (pv 1))))), body_of h ?_⟩
  clear h gd hu hr hg hu2
  intro A ds n Pp eK eE hX hl hc
  subst eK eE
  obtain ⟨l, rfl, hz, fl, nd, hp⟩ := hc
  obtain ⟨LT, hLT⟩ : ∃ LT, LT = lotL (l.map Prod.fst) (l.map Prod.snd) := ⟨_, rfl⟩
  have mem : ∀ r, r ∈ LT ↔ Lead l r ∧ Fit r := fun r => by rw [hLT]; exact lot_mem nd
  have lz : LT.length ≤ 120 := by
    have h1 := waysN_len (A := l.map Prod.fst) nd
    have h2 := ways5 nd hz
    rw [hLT]
    omega
  have hl0 : l ∈ LT := (mem l).mpr ⟨Lead.refl nd, fl⟩
  rw [← hLT] at hp
  -- found, layer, met
  refine ds_seq (ds_parFEN (by decide) (Nat.le_of_ble_eq_true rfl) (df_lst (da_cons (de_var (by rfl) (da_nil ⟨Nat.le_of_ble_eq_true rfl, DE.of_fresh (df_lst (da_cons (de_var (by rfl) (da_nil ⟨Nat.le_of_ble_eq_true rfl, de_var (by rfl) ⟨l, rfl, de_bl ?_⟩⟩))))⟩)))))
  refine ds_seq (ds_while ⟨fun k ρ' m => ∃ (F Ly : List (List (Int × Int))) (s4 s5 s6 s7 s8 : DL.Slot), ρ' = [.val (.tup (l.map pr)), .own (F.map rowD), .val (.lst (Ly.map rowD)), .nd (rowsT F), s4, s5, s6, s7, s8] ∧ m = n ∧ F.Nodup ∧ (∀ r ∈ F, r ∈ LT) ∧ l ∈ F ∧ (∀ r ∈ Ly, r ∈ F) ∧ (∀ r ∈ F, r ∉ Ly → Closed r F) ∧ k = (LT.length - F.length) + (if Ly = [] then 0 else 1), ⟨_, [l], [l], _, _, _, _, _, rfl, rfl, by simp, fun r hr => by rw [List.mem_singleton.mp hr]; exact hl0, List.mem_singleton_self _, fun r hr => hr, fun r h1 h2 => absurd h1 h2, rfl⟩, ?_⟩)
  rintro k ρ' m ⟨F, Ly, s4, s5, s6, s7, s8, rfl, rfl, ndF, subF, lF, subL, clo, hk⟩
  refine dt_test (de_op (de_var (by rfl) (DE.of_fresh (df_lst (da_nil ⟨Nat.zero_le _, dr_neAD (ok_rows Ly) rfl ?_⟩)))))
  have fz : F.length ≤ 120 := Nat.le_trans (nodup_le ndF subF) lz
  have eL : (!PyData.eqv (toP (.lst (Ly.map rowD))) (toP (.lst []))) = !decide (Ly = []) := by
    cases Ly with
    | nil => rfl
    | cons a b => rw [decide_eq_false (fun z => nomatch z)]; rfl
  rw [eL]
  by_cases hLy : Ly = []
  · refine ⟨_, rfl, if2f (by rw [decide_eq_true hLy]; rfl) ?_⟩
    refine ds_retOwn (i := 1) (by rfl) (hp F ((List.perm_ext_iff_of_nodup ndF (by rw [hLT]; exact lot_irr nd)).mpr fun r => ⟨subF r, fun h => ?_⟩))
    obtain ⟨hLr, fr⟩ := (mem r).mp h
    exact closed_all (fun s hs => clo s hs (by rw [hLy]; exact fun z => nomatch z)) _ ⟨hLr, fl, fr, by omega⟩ rfl lF
  refine ⟨_, rfl, if2t (by rw [decide_eq_false hLy]; rfl) ?_⟩
  refine ds_seq (ds_setOwn (df_lst (da_nil ⟨Nat.zero_le _, ?_⟩)))
  refine ds_seq (ds_for (di_seq (de_var (by rfl) ⟨_, Or.inl rfl, fun i ρ' m1 => ∃ (W : List (List (Int × Int))) (s5 s6 s7 s8 : DL.Slot), ρ' = [.val (.tup (l.map pr)), .own ((F ++ W).map rowD), .val (.lst (Ly.map rowD)), .nd (rowsT (F ++ W)), .own (W.map rowD), s5, s6, s7, s8] ∧ m1 = m ∧ (F ++ W).Nodup ∧ (∀ r ∈ W, r ∈ LT) ∧ (∀ (j : Nat) (r : List (Int × Int)), j < i → Ly[j]? = some r → Closed r (F ++ W)), ⟨[], _, _, _, _, by rw [List.append_nil]; rfl, rfl, by rw [List.append_nil]; exact ndF, (fun r hr => nomatch hr), fun j r h => absurd h (Nat.not_lt_zero j)⟩, ?_, ?_⟩)))
  · rintro i d ρ' m hd ⟨W, s5, s6, s7, s8, rfl, rfl, ndW, subW, cloW⟩
    obtain ⟨r, hr, rfl⟩ : ∃ r, Ly[i]? = some r ∧ rowD r = d := by
      rw [List.getElem?_map] at hd
      cases w : Ly[i]? with
      | none => rw [w] at hd; cases hd
      | some r => rw [w] at hd; exact ⟨r, rfl, Option.some.inj hd⟩
    have rF : r ∈ F := subL r (List.mem_of_getElem? hr)
    obtain ⟨hLr, fr⟩ := (mem r).mp (subF r rF)
    have rl := hLr.len
    refine dg_name (ds_for (di_seq (de_call0F (da_cons (de_var (by rfl) (da_nil ⟨rfl, _, r, rfl, Ln.tupP r, by omega, _, rfl, _, Or.inl rfl, fun j ρ' m' => ∃ (V : List (List (Int × Int))) (s6 s7 s8 : DL.Slot), ρ' = [.val (.tup (l.map pr)), .own ((F ++ V).map rowD), .val (.lst (Ly.map rowD)), .nd (rowsT (F ++ V)), .own (V.map rowD), .val (rowD r), s6, s7, s8] ∧ m' = m ∧ (∃ V', V = W ++ V') ∧ (F ++ V).Nodup ∧ (∀ r ∈ V, r ∈ LT) ∧ (∀ x ∈ (duos r).take j, swapAt r x ∈ F ++ V), ⟨W, _, _, _, rfl, rfl, ⟨[], by rw [List.append_nil]⟩, ndW, subW, (fun x hx => by simp at hx)⟩, ?_, ?_⟩))))))
    · rintro j d ρ' m' hd ⟨V, s6, s7, s8, rfl, rfl, ⟨V', hV⟩, ndV, subV, done⟩
      obtain ⟨x, hx, rfl⟩ : ∃ x, (duos r)[j]? = some x ∧ pr x = d := by
        rw [List.getElem?_map] at hd
        cases w : (duos r)[j]? with
        | none => rw [w] at hd; cases hd
        | some x => rw [w] at hd; exact ⟨x, rfl, Option.some.inj hd⟩
      have more : ∀ {G : List (List (Int × Int))}, (∀ y ∈ F ++ V, y ∈ G) → swapAt r x ∈ G → ∀ y ∈ (duos r).take (j + 1), swapAt r y ∈ G := fun {G} hG h1 y hy => by
        rw [take_one_more hx] at hy
        rcases List.mem_append.mp hy with h | h
        · exact hG _ (done y h)
        · rw [List.mem_singleton.mp h]; exact h1
      obtain ⟨i1, j1, p, q, rfl, lt, hj, hpp, hq, mt, sw⟩ := duo_step (List.mem_of_getElem? hx)
      rw [sw] at more
      obtain ⟨t, ht⟩ : ∃ t, t = swapL r i1 j1 p q := ⟨_, rfl⟩
      have nn : i1 ≠ j1 := by omega
      have ti : t[i1]? = some (p.1, q.2) := by rw [ht]; exact swap_i nn hpp
      have tj : t[j1]? = some (q.1, p.2) := by rw [ht]; exact swap_j hq
      have back : swapL t j1 i1 (q.1, p.2) (p.1, q.2) = r := by
        rw [swap_comm nn, ht]
        exact swap_swap nn hpp hq
      have tl : t.length = r.length := by rw [ht, swap_len]
      have fp := fr p (List.mem_of_getElem? hpp)
      have fq := fr q (List.mem_of_getElem? hq)
      have mt2 : meets (q.1, p.2) (p.1, q.2) = true := by
        unfold meets
        rw [Bool.and_eq_true, decide_eq_true_eq, decide_eq_true_eq]
        exact ⟨fq, fp⟩
      have tT : t ∈ LT := (mem t).mpr ⟨hLr.trans (by rw [ht]; exact swap_lead nn hpp hq hLr.symm.2.2), by rw [ht]; exact fit_swap fr mt⟩
      rw [← ht] at more
      refine dg_seq (Or.inr rfl) rfl (dgs_cons (dg_name (dgs_cons (dg_name (dgs_nil ?_)))))
      refine ds_seq (ds_set (de_call0 (da_cons (de_var (by rfl) (da_cons (de_var (by rfl) (da_cons (de_var (by rfl) (da_nil ⟨rfl, _, r, (i1 : Int), (j1 : Int), p, q, rfl, Ln.tupP r, by omega, by omega, by omega, by rw [Int.toNat_natCast]; exact hpp, by rw [Int.toNat_natCast]; exact hq, by omega, mt, ?_⟩)))))))))
      rw [Int.toNat_natCast, Int.toNat_natCast, ← ht]
      refine ds_seq (ds_if (dt_test (de_op (de_call0 (da_cons (de_var (by rfl) (da_cons (de_var (by rfl) (da_cons (de_var (by rfl) (da_nil ⟨rfl, _, t, (j1 : Int), (i1 : Int), (q.1, p.2), (p.1, q.2), rfl, Ln.tupP t, by omega, by omega, by omega, by rw [Int.toNat_natCast]; exact tj, by rw [Int.toNat_natCast]; exact ti, by omega, mt2, ?_⟩)))))))))))
      rw [Int.toNat_natCast, Int.toNat_natCast, back]
      refine de_var (by rfl) (dr_neSame (ok_lineT7 r) ⟨_, rfl, if2f rfl (ds_next ?_)⟩)
      refine ds_if (dt_test (de_inN (by rfl) (de_var (by rfl) ⟨t, rfl, _, rfl, ?_⟩)))
      rw [rows_val]
      by_cases hin : t ∈ F ++ V
      · refine if2f (by rw [decide_eq_true hin]; rfl) (ds_next ?_)
        exact ⟨V, _, _, _, rfl, rfl, ⟨V', hV⟩, ndV, subV, more (fun y hy => hy) hin⟩
      · refine if2t (by rw [decide_eq_false hin]; rfl) ?_
        have subFV : ∀ y ∈ F ++ V, y ∈ LT := fun y hy => (List.mem_append.mp hy).elim (subF y) (subV y)
        have vz := Nat.le_trans (nodup_le ndV subFV) lz
        rw [List.length_append] at vz
        refine ds_seq (ds_putN (by rfl) rfl (de_bl (de_var (by rfl) ⟨t, rfl, by unfold rowsT; rw [List.length_map, List.length_append]; omega, ?_⟩)))
        rw [rows_put hin]
        refine ds_seq (ds_app (i := 1) (by rfl) (de_var (by rfl) ⟨by rw [List.length_map, List.length_append]; omega, ?_⟩))
        refine ds_app (i := 4) (by rfl) (de_var (by rfl) ⟨by rw [List.length_map]; omega, ?_⟩)
        refine ⟨V ++ [t], .val (.int (i1 : Int)), .val (.int (j1 : Int)), .val (.tup (t.map pr)), ?_, rfl, ⟨V' ++ [t], by rw [hV, List.append_assoc]⟩, ?_, ?_, ?_⟩
        · rw [← List.append_assoc, List.map_append (l₁ := F ++ V), List.map_append (l₁ := V)]
          rfl
        · rw [← List.append_assoc, List.nodup_append]
          exact ⟨ndV, by simp, fun x hx y hy e => hin (by rw [List.mem_singleton] at hy; rw [← hy, ← e]; exact hx)⟩
        · intro y hy
          rcases List.mem_append.mp hy with h | h
          · exact subV y h
          · rw [List.mem_singleton.mp h]; exact tT
        · rw [← List.append_assoc]
          exact more (fun y hy => List.mem_append_left _ hy) (List.mem_append_right _ (List.mem_singleton_self _))
    · rintro ρ' m' ⟨V, s6, s7, s8, rfl, rfl, ⟨V', hV⟩, ndV, subV, done⟩
      refine ⟨V, _, _, _, _, rfl, rfl, ndV, subV, fun j r' hj hr' => ?_⟩
      by_cases c : j < i
      · intro x hx
        have := cloW j r' c hr' x hx
        rw [hV, ← List.append_assoc]
        exact List.mem_append_left _ this
      · have : j = i := by omega
        subst this
        rw [hr] at hr'; cases hr'
        intro x hx
        refine done x ?_
        rw [List.length_map, List.take_length]
        exact hx
  · rintro ρ' m ⟨W, s5, s6, s7, s8, rfl, rfl, ndW, subW, cloW⟩
    rw [List.length_map] at cloW
    refine ds_frz (i := 4) (by rfl) (ds_set (de_var (by rfl) ?_))
    have subFW : ∀ y ∈ F ++ W, y ∈ LT := fun y hy => (List.mem_append.mp hy).elim (subF y) (subW y)
    have vz := nodup_le ndW subFW
    rw [List.length_append] at vz
    rw [if_neg hLy] at hk
    refine ⟨_, ?_, F ++ W, W, _, _, _, _, _, rfl, rfl, ndW, subFW, List.mem_append_left _ lF, fun r hr => List.mem_append_right _ hr, fun r h1 h2 => ?_, rfl⟩
    · rw [List.length_append]
      cases W with
      | nil => rw [if_pos rfl]; simp; omega
      | cons a b =>
        rw [if_neg (fun z => nomatch z)]
        rw [List.length_cons] at vz ⊢
        omega
    · rcases List.mem_append.mp h1 with h | h
      · by_cases c : r ∈ Ly
        · obtain ⟨j, hj⟩ := List.getElem?_of_mem c
          exact cloW j r (List.getElem?_eq_some_iff.mp hj).1 hj
        · intro x hx
          exact List.mem_append_left _ (clo r h c x hx)
      · exact absurd h h2
--@@split
theorem g_l_right (B : Tx K mg) (G_l_random_line : FnG P w K mg base 8 B.a_l_random_line B.fd_l_random_line ["_law_box_here", "_law_most", "_law_top"] (spOf K 3 C_l_random_line)) (G_l_of : FnG P w K mg base 8 B.a_l_of B.fd_l_of ["_law_box_here", "_law_some"] (spOf K 2 C_l_of)) (G_l_reached : FnG P w K mg base 5 B.a_l_reached B.fd_l_reached ["_law_line"] (spOf K 1 C_l_reached)) (G_l_lot : FnG P w K mg base 1 B.a_l_lot B.fd_l_lot ["_law_line"] (spOf K 1 C_l_lot)) (G_lot_many : FnG P w K mg base 5 B.a_lot_many B.fd_lot_many ["stays"] (spOf K 1 C_lot_many)) (G_leads : FnG P w K mg base 3 B.a_leads B.fd_leads ["one", "other"] (spOf K 2 C_leads)) (G_bar : FnG P w K mg base 2 B.a_bar B.fd_bar ["one", "other"] (spOf K 2 C_bar)) : FnG P w K mg base 10 B.a_l_right B.fd_l_right ["_law_box_here"] (spOf K 1 C_l_right) := by
  refine FnG.of B.F_l_right sc_l_right (fun _ _ _ _ h => spOf_len h) (fun cdv Ar outer s H vs Q E hg hr h => ?_)
  have gd : (Ar.deeper (envOfC "_law_right" (defScope s_l_right) s.heap.objs.size B.a_l_right cdv)).guards = some [] := (deeper_guards Ar _).trans hg
  have hu : (Ar.deeper (envOfC "_law_right" (defScope s_l_right) s.heap.objs.size B.a_l_right cdv)).units + 64 < cLine := by have := hr.un; omega
  have hu2 : (Ar.deeper (envOfC "_law_right" (defScope s_l_right) s.heap.objs.size B.a_l_right cdv)).units + 65 < cLine := by have := hr.un; omega
  have hr_l_random_line := hr.mono (show 8 ≤ _ by decide)
  have hr_l_of := hr.mono (show 8 ≤ _ by decide)
  have hr_l_reached := hr.mono (show 5 ≤ _ by decide)
  have hr_l_lot := hr.mono (show 1 ≤ _ by decide)
  have hr_lot_many := hr.mono (show 5 ≤ _ by decide)
  have hr_leads := hr.mono (show 3 ≤ _ by decide)
  have hr_bar := hr.mono (show 2 ≤ _ by decide)
  refine ⟨_, (pss_cons (ps_set (i := 1) sc_l_right.nd rfl (by first | exact Or.inl rfl | exact Or.inr rfl) (pe_g G_l_random_line gd hr_l_random_line B.m_l_random_line B.k_l_random_line B.b_l_random_line passL (pa_cons (pv 0) (pa_cons pe_int (pa_cons (pe_g G_l_of gd hr_l_of B.m_l_of B.k_l_of B.b_l_of passL (pa_cons (pv 0) (pa_cons (pe_lst (pa_cons pe_int (pa_cons pe_int (pa_cons pe_int pa_nil)))) pa_nil))) pa_nil)))))
    (pss_cons (ps_set (i := 2) sc_l_right.nd rfl (by first | exact Or.inl rfl | exact Or.inr rfl) (pe_g G_l_reached gd hr_l_reached B.m_l_reached B.k_l_reached B.b_l_reached passL (pa_cons (pv 1) pa_nil)))
    (pss_cons (ps_if (PW.pt (pw_or (pt_cmpR (kx_ne K hu) (pe_callB (kx_sortDD K hu) rfl B.n_sorted (by decide +kernel) (pa_cons (pv 2) pa_nil)) (pe_g G_l_lot gd hr_l_lot B.m_l_lot B.k_l_lot B.b_l_lot passL (pa_cons (pv 1) pa_nil)) (nomark _)) (pw_or1 (pt_cmpR (kx_ne K hu) (pe_g G_lot_many gd hr_lot_many B.m_lot_many B.k_lot_many B.b_lot_many passL (pa_cons (pv 1) pa_nil)) (pe_callB (kx_len K) rfl B.n_len PySem.boot_len (pa_cons (pv 2) pa_nil)) (nomark _))))) (pss_one (ps_ret pe_bl)) pss_nil)
    (pss_cons (ps_if (pt_not (pt_val (pe_callB (kx_all K) rfl B.n_all (by decide +kernel) (pa_cons (pe_lc (own := [("_law_there", 3)]) rfl sc_l_right.nd (kp_seq K (pv 2)) (blkOk_by (N := ["_law_box_here", "_law_line", "_law_reached_here", "_law_there", "_law_its"]) (sc := defScope s_l_right) (by decide +kernel)) (fun _ _ _ _ _ => (pg_name (i := 3) sc_l_right.nd rfl (by first | exact Or.inl rfl | exact Or.inr rfl))) (fun _ _ _ _ _ => pts_nil) (fun _ _ _ _ _ => (pe_and (pe_g G_leads gd hr_leads B.m_leads B.k_leads B.b_leads passL (pa_cons (pv 1) (pa_cons (pv 3) pa_nil))) (pe_one (pe_g G_leads gd hr_leads B.m_leads B.k_leads B.b_leads passL (pa_cons (pv 3) (pa_cons (pv 1) pa_nil))))))) pa_nil)))) (pss_one (ps_ret pe_bl)) pss_nil)
    (pss_cons (ps_for (passes_of rfl) rfl (kp_seq K (pe_tup (pa_cons (pe_op (kx_plus K) (pe_slice (kx_sl K) (pv 1) po_none (po_some pe_int)) (pe_slice (kx_sl K) (pe_g G_l_random_line gd hr_l_random_line B.m_l_random_line B.k_l_random_line B.b_l_random_line passL (pa_cons (pv 0) (pa_cons pe_int (pa_cons pe_int pa_nil)))) (po_some pe_int) po_none)) (pa_cons (pe_g G_l_random_line gd hr_l_random_line B.m_l_random_line B.k_l_random_line B.b_l_random_line passL (pa_cons (pv 0) (pa_cons pe_int (pa_cons pe_int pa_nil)))) (pa_cons (kx_rev K (pv 1)) pa_nil))))) (pg_name (i := 3) sc_l_right.nd rfl (by first | exact Or.inl rfl | exact Or.inr rfl)) (pss_one (ps_if (PW.pt (pw_and (pt_cmpR (kx_eq K hu) (pe_callB (kx_len K) rfl B.n_len PySem.boot_len (pa_cons (pv 3) pa_nil)) (pe_callB (kx_len K) rfl B.n_len PySem.boot_len (pa_cons (pv 1) pa_nil)) (nomark _)) (pw_and1 (pt_cmpR (kx_eq K hu) (pe_lenSetG K B.n_len B.n_set (pe_lc (own := [("_law_its", 4)]) rfl sc_l_right.nd (kp_seq K (pv 3)) (blkOk_by (N := ["_law_box_here", "_law_line", "_law_reached_here", "_law_there", "_law_its"]) (sc := defScope s_l_right) (by decide +kernel)) (fun _ _ _ _ _ => (pg_name (i := 4) sc_l_right.nd rfl (by first | exact Or.inl rfl | exact Or.inr rfl))) (fun _ _ _ _ _ => pts_nil) (fun _ _ _ _ _ => (pe_ix (kx_ix K) (pv 4) pe_int (fun _ _ => rfl))))) (pe_callB (kx_len K) rfl B.n_len PySem.boot_len (pa_cons (pv 3) pa_nil)) (nomark _))))) (pss_one (ps_if (PW.pt (pw_or (pt_cmpR (kx_ne K hu) (pe_g G_leads gd hr_leads B.m_leads B.k_leads B.b_leads passL (pa_cons (pv 1) (pa_cons (pv 3) pa_nil))) (pe_cmpR (kx_inD K hu2) (pv 3) (pv 2) rfl) (nomark _)) (pw_or1 (pt_cmpR (kx_ne K hu) (pe_cmpR op_isN (pe_g G_bar gd hr_bar B.m_bar B.k_bar B.b_bar passL (pa_cons (pv 3) (pa_cons (pv 1) pa_nil))) pe_non (nomark _)) (pe_cmpR (kx_inD K hu2) (pv 3) (pv 2) rfl) (nomark _))))) (pss_one (ps_ret pe_bl)) pss_nil)) pss_nil)))
    (pss_one (ps_ret pe_bl))))))), body_of h ?_⟩
  clear h gd hu hr hg hu2
  intro A ds n Pp eK eE hX hl hc
  subst eK eE
  obtain ⟨a, hb, rfl, hn, hp⟩ := hc
  have p43 : (1000 : Int) ≤ 10 ^ 43 := by decide
  refine ds_seq (ds_set (de_call0 ?_))
  walk_at "E"
  refine ⟨rfl, a, _, _, hb, rfl, Or.inl rfl, Nat.lt_of_lt_of_eq (Nat.succ_pos 2) rfl, Nat.le_of_ble_eq_true rfl, by omega, fun i x m1 hx l1 l2 => ?_⟩
  have ht : ∃ t : Int, x = .int t ∧ 0 ≤ t ∧ t ≤ 10 ^ 39 := by
    match i, hx with
    | 0, hx => cases hx; exact ⟨2, rfl, by decide, by decide⟩
    | 1, hx => cases hx; exact ⟨5, rfl, by decide, by decide⟩
    | 2, hx => cases hx; exact ⟨9, rfl, by decide, by decide⟩
    | k + 3, hx => simp at hx
  obtain ⟨t, rfl, t0, t1⟩ := ht
  have p39 : (10 : Int) ^ 39 < 10 ^ 42 := by decide
  walk_at "E"
  refine ⟨rfl, a, 5, t, hb, rfl, by decide, by decide, t0, by omega, (show m1 + 128 * (1 + 2 * 5) ≤ 2 ^ 40 by omega), fun l m2 hl hD l3 l4 => ?_⟩
  have hl2 : l.length ≤ 5 := by omega
  have l4' : m2 ≤ m1 + 128 * (1 + 2 * 5) := l4
  clear l4
  have hord : Ord (2 * t + 5) l := hD.1
  have nd : (l.map Prod.snd).Nodup := hD.2
  have fitl : Fit l := fun p hp => (hord p hp).2.1
  have fl : Fit l := fun p hp => (hord p hp).2.1
  obtain ⟨LT, hLT⟩ : ∃ LT, LT = lotL (l.map Prod.fst) (l.map Prod.snd) := ⟨_, rfl⟩
  have mem : ∀ r, r ∈ LT ↔ Lead l r ∧ Fit r := fun r => by rw [hLT]; exact lot_mem nd
  have wl : (LT.length : Int) = waysN (l.map Prod.fst) (l.map Prod.snd) := by rw [hLT]; exact waysN_len (A := l.map Prod.fst) nd
  have lz : LT.length ≤ 120 := by
    have h2 := ways5 nd hl2
    omega
  refine ds_seq (ds_set (de_call0 (da_cons (de_var (by rfl) (da_nil ⟨rfl, l, rfl, hl2, fl, nd, fun rs hrs => ?_⟩)))))
  rw [← hLT] at hrs
  have rz := hrs.length_eq
  have memR : ∀ r, r ∈ rs ↔ Lead l r ∧ Fit r := fun r => hrs.mem_iff.trans (mem r)
  have hall : ∀ r ∈ rs, r.length = l.length := fun r hr => ((memR r).mp hr).1.len.symm
  refine ds_seq (ds_if (dt_or (dt_test (de_op (DE.of_fresh (df_sortRows (de_var (by rfl) ⟨l.length, rs, LT, rfl, hrs, by rw [hLT]; exact lot_asc _ nd, hall, fun h0 => ?_, ?_⟩)))))))
  · have e0 : l = [] := List.length_eq_zero_iff.mp h0
    subst e0
    have w0 := waysN_nil []
    rw [rz]
    have : (LT.length : Int) = 1 := by rw [wl]; exact w0
    omega
  refine de_call0 (da_cons (de_var (by rfl) (da_nil ⟨rfl, l, rfl, hl2, ?_⟩)))
  rw [← hLT]
  refine dr_neSame (ok_rows LT) ⟨_, rfl, if2f rfl ?_⟩
  refine dt_test (de_op (de_call0 (da_cons (de_var (by rfl) (da_nil ⟨rfl, _, l, rfl, Ln.tupP l, by omega, fl, de_len (de_var (by rfl) ⟨_, Or.inl rfl, dr_neAI ⟨_, rfl, if2f (by rw [← wl, List.length_map, rz]; simp) (ds_next ?_)⟩⟩)⟩)))))
  refine ds_seq (ds_if (dt_not (dt_B (de_all (DE.of_fresh (df_map rs (fun _ => D.bl true) (gw_name (by decide)) (by omega) (di_seq (de_var (by rfl) ⟨_, Or.inl rfl, by rw [List.length_map], fun i z r h1 h2 => ?_, rs.map fun _ => true, by rw [List.map_map]; rfl, ⟨_, rfl, if2f (by simp) (ds_next ?_)⟩⟩))))))))
  · rw [List.getElem?_map, h2] at h1
    cases h1
    obtain ⟨hLr, fr⟩ := (memR r).mp (List.mem_of_getElem? h2)
    have rl := hLr.len
    refine dg_name (de_andV (de_call0 (da_cons (de_var (by rfl) (da_cons (de_var (by rfl) (da_nil ⟨rfl, _, _, l, r, rfl, Ln.tupP l, Ln.tupP r, by omega, rl, fun b hb2 => ?_⟩)))))))
    have eb : b = true := hb2.mpr ⟨hLr.1, hLr.2.1⟩
    subst eb
    refine ⟨true, rfl, if2t rfl ?_⟩
    refine de_call0 (da_cons (de_var (by rfl) (da_cons (de_var (by rfl) (da_nil ⟨rfl, _, _, r, l, rfl, Ln.tupP r, Ln.tupP l, by omega, rl.symm, fun b hb2 => ?_⟩)))))
    have eb : b = true := hb2.mpr ⟨hLr.1.symm, hLr.2.1.symm⟩
    subst eb
    exact ⟨rfl, rfl⟩
  -- three others
  have c1 : ∀ q : List (Int × Int), DL.cutD (q.map pr) none (some 1) = (q.take 1).map pr := fun q => by
    rw [show (1 : Int) = ((1 : Nat) : Int) from rfl, DL.cutD_take, List.map_take]
  have c2 : ∀ q : List (Int × Int), DL.cutD (q.map pr) (some 1) none = (q.drop 1).map pr := fun q => by
    rw [show (1 : Int) = ((1 : Nat) : Int) from rfl, DL.cutD_drop, List.map_drop]
  refine ds_seq (ds_for (di_seq (de_tup (da_cons (de_op (de_slT (de_var (by rfl) ⟨_, rfl, dp_none (dp_some (de_int ⟨_, rfl, ?_⟩))⟩)))))))
  rw [c1]
  refine de_slT (de_call0 ?_)
  walk_at "E"
  refine ⟨rfl, a, 5, 4, hb, rfl, by decide, by decide, by decide, by decide, (show m2 + 128 * (1 + 2 * 5) ≤ 2 ^ 40 by omega), fun q m3 hq hQ l5 l6 => ⟨_, rfl, dp_some (de_int ⟨_, rfl, dp_none ?_⟩)⟩⟩
  have l6' : m3 ≤ m2 + 128 * (1 + 2 * 5) := l6
  clear l6
  have hq2 : q.length ≤ 5 := by omega
  rw [c2]
  refine dr_plusT (by rw [List.length_map, List.length_map, List.length_take, List.length_drop]; omega) (da_cons (de_call0 ?_))
  rw [← List.map_append]
  walk_at "E"
  refine ⟨rfl, a, 5, 2, hb, rfl, by decide, by decide, by decide, by decide, (show m3 + 128 * (1 + 2 * 5) ≤ 2 ^ 40 by omega), fun q2 m4 hq' hQ' l7 l8 => ?_⟩
  have l8' : m4 ≤ m3 + 128 * (1 + 2 * 5) := l8
  clear l8
  refine da_cons (de_revT (de_var (by rfl) ⟨_, rfl, da_nil ⟨Nat.le_of_ble_eq_true rfl, _, Or.inr rfl, fun i ρ' m' => ∃ s3 s4 : DL.Slot, ρ' = [.val (.raw (.ref a)), .val (.tup (l.map pr)), .val (.lst (rs.map rowD)), s3, s4] ∧ m' = m4, ⟨_, _, rfl, rfl⟩, ?_, ?_⟩⟩))
  · rintro i z ρ' m' hz ⟨s3, s4, rfl, rfl⟩
    obtain ⟨t, rfl, ft, tz⟩ : ∃ t : List (Int × Int), z = .tup (t.map pr) ∧ Fit t ∧ t.length ≤ 10 := by
      match i, hz with
      | 0, hz =>
        cases hz
        refine ⟨_, rfl, fun p hp => ?_, ?_⟩
        · rcases List.mem_append.mp hp with h | h
          · exact fl p (List.mem_of_mem_take h)
          · exact ((hQ.1 p (List.mem_of_mem_drop h)).2.1)
        · rw [List.length_append, List.length_take, List.length_drop]; omega
      | 1, hz => cases hz; exact ⟨q2, rfl, fun p hp => (hQ'.1 p hp).2.1, by omega⟩
      | 2, hz =>
        have hz : some (D.tup (l.map pr).reverse) = some z := hz
        cases hz
        exact ⟨l.reverse, by rw [List.map_reverse], fun p hp => fl p (List.mem_reverse.mp hp), by rw [List.length_reverse]; omega⟩
      | k + 3, hz => simp at hz
    refine dg_name (ds_if (dt_and (dt_test (de_op (de_len (de_var (by rfl) ⟨_, Or.inr rfl, de_len (de_var (by rfl) ⟨_, Or.inr rfl, dr_eqAI ⟨_, rfl, ?_⟩⟩)⟩))))))
    rw [List.length_map, List.length_map]
    by_cases c : t.length = l.length
    · refine if2t (by rw [c]; simp) ?_
      refine dt_test (de_op (de_lenSetG (DE.of_fresh (df_map t (fun p => D.int p.2) (gw_name (by decide)) (by omega) (di_seq (de_var (by rfl) ⟨_, Or.inr rfl, by rw [List.length_map], fun i z p h1 h2 => ?_, t.map Prod.snd, by rw [List.map_map]; rfl, by rw [List.length_map]; omega, fun cc h1 h2 => ?_⟩))))))
      · rw [List.getElem?_map, h2] at h1
        cases h1
        exact dg_name (de_op (de_var (by rfl) (de_int (dr_ix (x := .int p.2) (Or.inr rfl) (by decide) rfl ⟨rfl, rfl⟩))))
      refine de_len (de_var (by rfl) ⟨_, Or.inr rfl, dr_eqAI ⟨_, rfl, ?_⟩⟩)
      rw [List.length_map]
      by_cases cn : ((cc : Nat) : Int) = ((t.length : Nat) : Int)
      · refine if2t (decide_eq_true cn) ?_
        have inR : ((toPs (rs.map rowD)).any fun z => PyData.eqv z (toP (.tup (t.map pr)))) = decide (t ∈ rs) := by
          have go : ∀ L : List (List (Int × Int)), ((toPs (L.map rowD)).any fun z => PyData.eqv z (toP (.tup (t.map pr)))) = decide (t ∈ L) := by
            intro L
            induction L with
            | nil => simp [toPs]
            | cons r L ih =>
              show (PyData.eqv (toP (.tup (r.map pr))) (toP (.tup (t.map pr))) || (toPs (L.map rowD)).any fun z => PyData.eqv z (toP (.tup (t.map pr)))) = _
              rw [ih, eqv_line, Bool.eq_iff_iff]
              simp only [Bool.or_eq_true, decide_eq_true_eq, List.mem_cons]
              exact ⟨fun h => h.imp (fun e => e.symm) id, fun h => h.imp (fun e => e.symm) id⟩
          exact go rs
        have key : t ∈ rs ↔ Leads25 l t := by
          rw [memR]
          exact ⟨fun h => ⟨h.1.1, h.1.2.1⟩, fun h => ⟨⟨h.1, h.2, nd⟩, ft⟩⟩
        refine ds_if (dt_or (dt_test (de_op (de_call0 (da_cons (de_var (by rfl) (da_cons (de_var (by rfl) (da_nil ⟨rfl, _, _, l, t, rfl, Ln.tupP l, Ln.tupP t, by omega, c.symm, fun b hb2 => ?_⟩)))))))))
        refine de_op (de_var (by rfl) (de_var (by rfl) (dr_inD (ok_lineT7 t) (ok_rows rs) ?_)))
        rw [inR]
        have eb : b = decide (t ∈ rs) := by
          rw [Bool.eq_iff_iff, decide_eq_true_iff, key]
          exact hb2
        refine dr_neAB ⟨_, rfl, if2f (by rw [eb]; simp) ?_⟩
        refine dt_test (de_op (de_isN (de_call0 (da_cons (de_var (by rfl) (da_cons (de_var (by rfl) (da_nil ⟨rfl, _, _, t, l, rfl, Ln.tupP t, Ln.tupP l, by omega, c, fun x hx => ?_⟩))))))))
        have fin : ∀ bb : Bool, (bb = true ↔ Leads25 l t) → (bb != decide (t ∈ rs)) = false := fun bb h => by
          have : bb = decide (t ∈ rs) := by
            rw [Bool.eq_iff_iff, decide_eq_true_iff, key]
            exact h
          rw [this]; simp
        rcases hx with ⟨k, p, q, h1, h2, h3, _, rfl⟩ | ⟨h1, ⟨h2, rfl⟩ | ⟨h2, rfl⟩⟩
        · refine de_op (de_var (by rfl) (de_var (by rfl) (dr_inD (ok_lineT7 t) (ok_rows rs) ?_)))
          rw [inR]
          exact dr_neAB ⟨_, rfl, if2f (fin false ⟨fun z => absurd z (by decide), fun z => absurd (fst_same z.1 k q p h2 h1).symm h3⟩) (ds_next ⟨_, _, rfl, rfl⟩)⟩
        · refine de_op (de_var (by rfl) (de_var (by rfl) (dr_inD (ok_lineT7 t) (ok_rows rs) ?_)))
          rw [inR]
          exact dr_neAB ⟨_, rfl, if2f (fin true ⟨fun _ => ⟨(same_fst c h1).symm, h2.symm⟩, fun _ => rfl⟩) (ds_next ⟨_, _, rfl, rfl⟩)⟩
        · refine de_op (de_var (by rfl) (de_var (by rfl) (dr_inD (ok_lineT7 t) (ok_rows rs) ?_)))
          rw [inR]
          exact dr_neAB ⟨_, rfl, if2f (fin false ⟨fun z => absurd z (by decide), fun z => absurd z.2.symm h2⟩) (ds_next ⟨_, _, rfl, rfl⟩)⟩
      · refine if2f (decide_eq_false cn) (ds_next ⟨_, _, rfl, rfl⟩)
    · refine if2f (by simp; omega) (ds_next ⟨_, _, rfl, rfl⟩)
  rintro ρ' m' ⟨s3, s4, rfl, rfl⟩
  walk_at "E"
  exact hp _ (by omega) (by omega)
--@@split
theorem g_l_box (B : Tx K mg) : FnG P w K mg base 1 B.a_l_box B.fd_l_box ["_law_script", "_law_k"] (spBox K) := by
  refine FnG.of B.F_l_box sc_l_box (fun _ _ _ _ h => spBox_len h) (fun cdv Ar outer s H vs Q E hg hr h => ?_)
  have gd : (Ar.deeper (envOfC "_law_box" (defScope s_l_box) s.heap.objs.size B.a_l_box cdv)).guards = some [] := (deeper_guards Ar _).trans hg
  have hu : (Ar.deeper (envOfC "_law_box" (defScope s_l_box) s.heap.objs.size B.a_l_box cdv)).units + 64 < cLine := by have := hr.un; omega
  have hu2 : (Ar.deeper (envOfC "_law_box" (defScope s_l_box) s.heap.objs.size B.a_l_box cdv)).units + 65 < cLine := by have := hr.un; omega
  refine ⟨_, (pss_cons (ps_set (i := 2) sc_l_box.nd rfl (by first | exact Or.inl rfl | exact Or.inr rfl) (pe_ifExp (pt_cmpR op_lt (pv 1) (pe_callB (kx_len K) rfl B.n_len PySem.boot_len (pa_cons (pv 0) pa_nil)) (nomark _)) (pe_ix (kx_ix K) (pv 0) (pv 1) (fun _ _ => rfl)) pe_int))
    (pss_one (ps_ret (pe_lst (pa_cons (pe_op op_times (pe_callB call_abs rfl B.n_abs (by decide +kernel) (pa_cons (pv 2) pa_nil)) (pe_callTy call_int1 rfl B.n_int (by decide +kernel) (pa_cons (pe_cmpR op_ge (pe_callB call_abs rfl B.n_abs (by decide +kernel) (pa_cons (pv 2) pa_nil)) (pe_op op_pow pe_int pe_int) (nomark _)) pa_nil))) (pa_cons (pe_op (kx_plus K) (pe_op (kx_plus K) (pe_op op_mod (pv 2) pe_int) (pe_op op_times pe_int (pv 1))) pe_int) (pa_cons pe_int pa_nil))))))), ?_⟩
  clear gd hu hr hg hu2
  obtain ⟨a, cs, i, rfl, hH, hi, hl, hq⟩ := h
  have hv : (cs.map V.int)[i]? = some (.int cs[i]) := by rw [List.getElem?_map]; simp [hi]
  refine ⟨.int i, rfl, .ref a, rfl, a, _, rfl, Or.inl (Evl.sq_of hH), _, _, rfl, rfl, _, rfl, ?_⟩
  refine ite2 (fun c => ?_) (fun c => absurd (decide_eq_true (by rw [List.length_map]; omega)) c)
  refine ⟨_, rfl, _, rfl, Or.inl ⟨a, _, (i : Int), _, rfl, rfl, Evl.sq_of hH, atI_nat hv, ?_⟩⟩
  have o0 := Int.emod_nonneg cs[i] (show (2305843009213693951 : Int) ≠ 0 by decide)
  have o1 := Int.emod_lt_of_pos cs[i] (show (0 : Int) < 2305843009213693951 by decide)
  have cm : ∀ (x : Int) (k : Bool), CMul x (if k = true then 1 else 0) := fun x k => Or.inr (by cases k <;> decide)
  have x0 : ∀ (x : Int) (k : Bool), 0 ≤ (if x < 0 then -x else x) * (if k = true then 1 else 0) := fun x k => by
    cases k
    · simp
    · by_cases h : x < 0
      · rw [if_pos h]; simp; omega
      · rw [if_neg h]; simp; omega
  refine ⟨_, rfl, _, rfl, _, rfl, _, rfl, _, _, rfl, rfl, ⟨by decide, by decide, by decide⟩, _, _, rfl, rfl, Or.inr ⟨_, rfl, Or.inl ⟨_, _, rfl, rfl, cm _ _, ?_⟩⟩⟩
  refine ⟨_, rfl, _, _, rfl, rfl, (show (0 : Int) < 2305843009213693951 by decide), _, rfl, Or.inl ⟨_, _, rfl, rfl, Or.inl (by decide), Or.inl ⟨_, _, rfl, rfl, Or.inl ⟨_, _, rfl, rfl, ?_⟩⟩⟩⟩
  exact ⟨Evl.sz_of (Nat.le_of_ble_eq_true rfl), fun t ht => hq t _ _ ht (x0 _ _) (by omega) (by omega)⟩
theorem g_l_cells (B : Tx K mg) : FnG P w K mg base 1 B.a_l_cells B.fd_l_cells ["_law_script", "_law_most"] (spCells2 K) := by
  refine FnG.of B.F_l_cells sc_l_cells (fun _ _ _ _ h => spCells2_len h) (fun cdv Ar outer s H vs Q E hg hr h => ?_)
  have gd : (Ar.deeper (envOfC "_law_cells" (defScope s_l_cells) s.heap.objs.size B.a_l_cells cdv)).guards = some [] := (deeper_guards Ar _).trans hg
  have hu : (Ar.deeper (envOfC "_law_cells" (defScope s_l_cells) s.heap.objs.size B.a_l_cells cdv)).units + 64 < cLine := by have := hr.un; omega
  have hu2 : (Ar.deeper (envOfC "_law_cells" (defScope s_l_cells) s.heap.objs.size B.a_l_cells cdv)).units + 65 < cLine := by have := hr.un; omega
  refine ⟨_, (pss_cons (ps_set (i := 2) sc_l_cells.nd rfl (by first | exact Or.inl rfl | exact Or.inr rfl) (pe_callTy (kx_list K) rfl B.n_list (by decide +kernel) (pa_cons (pe_slice (kx_sl K) (pv 0) po_none (po_some (pv 1))) pa_nil)))
    (pss_cons (ps_for (passes_of rfl) rfl (kp_enum K B.n_enumerate (pa_cons (pe_slice (kx_sl K) (pv 0) (po_some (pv 1)) (po_some pe_int)) pa_nil)) (kg_seq (n := 2) K rfl (pgs_cons (pg_name (i := 3) sc_l_cells.nd rfl (by first | exact Or.inl rfl | exact Or.inr rfl)) (pgs_cons (pg_name (i := 4) sc_l_cells.nd rfl (by first | exact Or.inl rfl | exact Or.inr rfl)) pgs_nil))) (pss_one (ps_asg (pe_op (kx_plus K) (pe_ix (kx_ix K) (pv 2) (pe_op op_mod (pv 3) (pv 1)) (fun _ _ => rfl)) (pe_op op_times (pv 4) (pe_op (kx_plus K) (pv 3) pe_int))) (pg_sub (pv 2) (pe_op op_mod (pv 3) (pv 1)) set_list))))
    (pss_one (ps_ret (pe_ifExp (pt_cmpR (kx_ne K hu) (pv 2) (pe_lst pa_nil) (nomark _)) (pv 2) (pe_lst (pa_cons pe_int pa_nil))))))), ?_⟩
  clear gd hu hr hg hu2
  obtain ⟨a, ns, S, ex, rfl, hS, hz, hq⟩ := h
  refine raw_body (E := E) (ds := [.raw (.ref a), .int 2]) ex.1 ex.2 (Reps.cons Rep.raw (Reps.one Rep.int)) (P := fun d _ => ∃ cs : List Int, d = .lst (cs.map D.int) ∧ 0 < cs.length ∧ cs.length ≤ 2) ?_ (fun v d S' H' m mv e' r ⟨cs, h1, h2, h3⟩ => by subst h1; exact hq v S' H' cs mv e' r h2 h3)
  have l1 : ((ns.drop (HT.sIx ns.length 0 none)).take (HT.sIx ns.length ns.length (some 2) - HT.sIx ns.length 0 none)).length = min 2 ns.length := by
    show ((ns.drop 0).take (min 2 ns.length - 0)).length = _
    simp
  have l2 : ((ns.drop (HT.sIx ns.length 0 (some 2))).take (HT.sIx ns.length ns.length (some 63) - HT.sIx ns.length 0 (some 2))).length ≤ ns.length - 2 := by
    show ((ns.drop (min 2 ns.length)).take (min 63 ns.length - min 2 ns.length)).length ≤ _
    simp
    omega
  refine ds_seq (ds_setOwn (df_listOf (de_slRaw rfl rfl hS (po_none_d rfl) (po_var_d rfl) ⟨_, Or.inl rfl, ?_⟩)))
  revert l1 l2
  generalize ((ns.drop (HT.sIx ns.length 0 none)).take (HT.sIx ns.length ns.length (some 2) - HT.sIx ns.length 0 none)) = ms
  intro l1 l2
  refine ds_seq (ds_for (di_enum (de_slRaw rfl rfl hS (po_var_d rfl) po_int_d ⟨_, rfl, fun i ρ' m => ∃ (us : List Int) (s3 s4 : DL.Slot), ρ' = [.val (.raw (.ref a)), .val (.int 2), .own (us.map D.int), s3, s4] ∧ us.length = min 2 ns.length, ⟨ms, _, _, rfl, l1⟩, ?_, ?_⟩)))
  · rintro i d ρ' m hd ⟨us, s3, s4, rfl, hu⟩
    have hi := (List.getElem?_eq_some_iff.mp hd).1
    rw [enumD_len, List.length_map] at hi
    have h3 : us.length = 2 := by omega
    obtain ⟨c, hc⟩ : ∃ c : Int, (((ns.drop (HT.sIx ns.length 0 (some 2))).take (HT.sIx ns.length ns.length (some 63) - HT.sIx ns.length 0 (some 2))).map D.int)[i]? = some (.int c) := by
      rw [List.getElem?_map]
      exact ⟨_, by rw [List.getElem?_eq_getElem hi]; rfl⟩
    rw [enumD_get hc] at hd
    cases hd
    have i63 : i < 63 := by omega
    have k3 : (i % 2) < us.length := by omega
    have ek : ((i : Int) % 2) = ((i % 2 : Nat) : Int) := by omega
    have hg : (us.map D.int)[i % 2]? = some (.int us[i % 2]) := by rw [List.getElem?_map]; simp [k3]
    have cm : CMul c ((i : Int) + 2) := Or.inr ⟨by omega, by omega⟩
    refine dg_seq (Or.inr rfl) rfl (dgs_cons (dg_name (dgs_cons (dg_name (dgs_nil ?_)))))
    refine ds_put (i := 2) (by rfl) (de_op (de_ixOwn (by rfl) (de_op (de_var (by rfl) (de_var (by rfl) (dr_mod (by decide) ⟨i % 2, _, by rw [ek], hg, ?_⟩))))))
    refine de_op (de_var (by rfl) (de_op (de_var (by rfl) (de_int (dr_plusI (dr_timesI cm (dr_plusI ?_)))))))
    refine de_op (de_var (by rfl) (de_var (by rfl) (dr_mod (by decide) ⟨i % 2, by rw [ek], by rw [List.length_map]; exact k3, ?_⟩)))
    exact ⟨us.set (i % 2) (us[i % 2] + c * ((i : Int) + 2)), _, _, by rw [List.map_set]; rfl, by rw [List.length_set]; exact hu⟩
  · rintro ρ' m ⟨us, s3, s4, rfl, hu⟩
    refine ds_frz (i := 2) (by rfl) ?_
    refine ds_ret (de_if (dt_test (de_op (de_var (by rfl) (DE.of_fresh (df_lst (da_nil ⟨Nat.le_of_ble_eq_true rfl, dr_neAD (ok_ints us) rfl ⟨_, rfl, ?_⟩⟩)))))))
    cases us with
    | nil =>
      refine if2f rfl ?_
      walk_at "E"
      exact ⟨[0], rfl, by decide, by decide⟩
    | cons u us =>
      refine if2t rfl ?_
      refine de_var (by rfl) ⟨u :: us, rfl, Nat.succ_pos _, by omega⟩
theorem g_law (B : Tx K mg) (G_l_cells : FnG P w K mg base 1 B.a_l_cells B.fd_l_cells ["_law_script", "_law_most"] (spCells2 K)) (G_l_box : FnG P w K mg base 1 B.a_l_box B.fd_l_box ["_law_script", "_law_k"] (spBox K)) (G_l_right : FnG P w K mg base 10 B.a_l_right B.fd_l_right ["_law_box_here"] (spOf K 1 C_l_right)) : FnG P w K mg base 11 B.a_law B.fd_law ["_law_script"] (spLaw K) := by
  refine FnG.of B.F_law sc_law (fun _ _ _ _ h => spLaw_len h) (fun cdv Ar outer s H vs Q E hg hr h => ?_)
  have gd : (Ar.deeper (envOfC "law" (defScope s_law) s.heap.objs.size B.a_law cdv)).guards = some [] := (deeper_guards Ar _).trans hg
  have hu : (Ar.deeper (envOfC "law" (defScope s_law) s.heap.objs.size B.a_law cdv)).units + 64 < cLine := by have := hr.un; omega
  have hu2 : (Ar.deeper (envOfC "law" (defScope s_law) s.heap.objs.size B.a_law cdv)).units + 65 < cLine := by have := hr.un; omega
  have hr_l_cells := hr.mono (show 1 ≤ _ by decide)
  have hr_l_box := hr.mono (show 1 ≤ _ by decide)
  have hr_l_right := hr.mono (show 10 ≤ _ by decide)
  refine ⟨_, (pss_cons (ps_set (i := 1) sc_law.nd rfl (by first | exact Or.inl rfl | exact Or.inr rfl) (pe_g G_l_cells gd hr_l_cells B.m_l_cells B.k_l_cells B.b_l_cells passL (pa_cons (pv 0) (pa_cons pe_int pa_nil))))
    (pss_cons (ps_for (passes_of rfl) rfl (pi_range1 rfl B.n_range (pa_cons (pe_callB (kx_len K) rfl B.n_len PySem.boot_len (pa_cons (pv 1) pa_nil)) pa_nil)) (pg_name (i := 2) sc_law.nd rfl (by first | exact Or.inl rfl | exact Or.inr rfl)) (pss_cons (ps_set (i := 3) sc_law.nd rfl (by first | exact Or.inl rfl | exact Or.inr rfl) (pe_g G_l_box gd hr_l_box B.m_l_box B.k_l_box B.b_l_box passL (pa_cons (pv 1) (pa_cons (pv 2) pa_nil))))
    (pss_one (ps_if (pt_not (pt_val (pe_callB (kx_all K) rfl B.n_all (by decide +kernel) (pa_cons (pe_lc (own := [("_law_turn", 4)]) rfl sc_law.nd (pi_range1 rfl B.n_range (pa_cons pe_int pa_nil)) (blkOk_by (N := ["_law_script", "_law_cells_here", "_law_k", "_law_box_here", "_law_turn"]) (sc := defScope s_law) (by decide +kernel)) (fun _ _ _ _ _ => (pg_name (i := 4) sc_law.nd rfl (by first | exact Or.inl rfl | exact Or.inr rfl))) (fun _ _ _ _ _ => pts_nil) (fun _ _ _ _ _ => (pe_g G_l_right gd hr_l_right B.m_l_right B.k_l_right B.b_l_right passL (pa_cons (pv 3) pa_nil)))) pa_nil)))) (pss_one (ps_ret pe_bl)) pss_nil))))
    (pss_one (ps_ret pe_bl)))), ?_⟩
  clear gd hu hr hg hu2
  obtain ⟨a, ns, ⟨rfl, tab⟩, hS, hz, hq⟩ := h
  refine raw_body (K := K) (E := E) (S := fun _ => none) (ds := [.raw (.ref a)]) (fun _ _ z => nomatch z) tab (Reps.one Rep.raw) (P := fun d _ => d = .bl true) ?_ (fun v d S' H' m mv e' r h1 => by subst h1; rw [r.bl_inv]; exact hq H')
  refine ds_seq (ds_cells2 rfl hS hz rfl fun cs c0 c1 => ?_)
  refine ds_seq (ds_for (di_rng1 (de_len (de_var rfl ⟨_, Or.inl rfl, _, rfl, ⟨by omega, by rw [List.length_map]; omega⟩, fun i ρ' m => ∃ s2, ρ' = [.val (.raw (.ref a)), .val (.lst (cs.map D.int)), s2, .un, .un] ∧ noOwn [s2] = true ∧ m = 0, ⟨_, rfl, rfl, rfl⟩, ?_, ?_⟩))))
  · rintro i d ρ' m hd ⟨s2, rfl, hs, rfl⟩
    have hi : i < cs.length := by
      have := (List.getElem?_eq_some_iff.mp hd).1
      rw [rng_len, List.length_map] at this
      omega
    rw [rng_get (by rw [List.length_map]; omega)] at hd
    cases hd
    have e0 : (0 : Int) + (i : Int) = (i : Int) := by omega
    rw [e0]
    refine dg_name (ds_box rfl rfl rfl rfl hi (by omega) (fun A' eK a' hb => ?_) ⟨_, rfl, rfl, rfl⟩)
    have eK : A'.K = K := eK
    subst eK
    refine dt_B (de_all (DE.of_fresh (df_lc (gw_name (by decide)) (di_rng1 (de_int ⟨2, rfl, ⟨by decide, by decide⟩, fun i acc m => acc = List.replicate i (.bl true) ∧ m ≤ 60000 * i, ⟨rfl, Nat.zero_le _⟩, Nat.le_of_ble_eq_true rfl, ?_, ?_⟩)))))
    · rintro j d acc m hd hl ⟨rfl, hm⟩
      have hj : j < 2 := by
        have := (List.getElem?_eq_some_iff.mp hd).1
        rw [rng_len] at this
        exact this
      refine dg_name (dt_yes (if2t rfl ?_))
      exact de_call0 (da_cons (de_var (by rfl) (da_nil ⟨rfl, a', hb, rfl, by omega, fun m' h1 h2 => ⟨List.replicate_succ'.symm, by omega⟩⟩)))
    · rintro acc m ⟨rfl, hm⟩
      exact ⟨List.replicate 2 true, rfl, true, rfl, rfl⟩
  · rintro ρ' m ⟨s2, rfl, hs, rfl⟩
    walk_at "E"
    rfl
theorem law_all (B : Tx K mg) : FnG P w K mg base 11 B.a_law B.fd_law ["_law_script"] (spLaw K) := by
  have take := take_all (P := P) (w := w) (base := base) B 6
  have h_arrivals_of : FnG P w K mg base 1 B.a_arrivals_of B.fd_arrivals_of ["stays"] (spOf K 1 C_arrivals_of) := by apply g_arrivals_of B <;> assumption
  have h_days_of : FnG P w K mg base 1 B.a_days_of B.fd_days_of ["stays"] (spOf K 1 C_days_of) := by apply g_days_of B <;> assumption
  have h_check_as_many : FnG P w K mg base 1 B.a_check_as_many B.fd_check_as_many ["one", "other"] (spOf K 2 C_check_as_many) := by apply g_check_as_many B <;> assumption
  have h_bar : FnG P w K mg base 2 B.a_bar B.fd_bar ["one", "other"] (spOf K 2 C_bar) := by apply g_bar B <;> assumption
  have h_leads : FnG P w K mg base 3 B.a_leads B.fd_leads ["one", "other"] (spOf K 2 C_leads) := by apply g_leads B <;> assumption
  have h_as_tuples : FnG P w K mg base 1 B.a_as_tuples B.fd_as_tuples ["stays"] (spOf K 1 C_as_tuples) := by apply g_as_tuples B <;> assumption
  have h_check_guest : FnG P w K mg base 1 B.a_check_guest B.fd_check_guest ["stays", "guest"] (spOf K 2 C_check_guest) := by apply g_check_guest B <;> assumption
  have h_share_day : FnG P w K mg base 2 B.a_share_day B.fd_share_day ["stays", "one", "other"] (spOf K 3 C_share_day) := by apply g_share_day B <;> assumption
  have h_exchanges : FnG P w K mg base 3 B.a_exchanges B.fd_exchanges ["stays"] (spOfF K 1 C_exchanges) := by apply g_exchanges B <;> assumption
  have h_exchanged : FnG P w K mg base 3 B.a_exchanged B.fd_exchanged ["stays", "one", "other"] (spOf K 3 C_exchanged) := by apply g_exchanged B <;> assumption
  have h_guests_on : FnG P w K mg base 1 B.a_guests_on B.fd_guests_on ["stays", "day"] (spOf K 2 C_guests_on) := by apply g_guests_on B <;> assumption
  have h_mates_of : FnG P w K mg base 3 B.a_mates_of B.fd_mates_of ["stays", "guest"] (spOf K 2 C_mates_of) := by apply g_mates_of B <;> assumption
  have h_options : FnG P w K mg base 4 B.a_options B.fd_options ["stays"] (spOf K 1 C_options) := by apply g_options B <;> assumption
  have h_lot_many : FnG P w K mg base 5 B.a_lot_many B.fd_lot_many ["stays"] (spOf K 1 C_lot_many) := by apply g_lot_many B <;> assumption
  have h_l_of : FnG P w K mg base 8 B.a_l_of B.fd_l_of ["_law_box_here", "_law_some"] (spOf K 2 C_l_of) := by apply g_l_of B <;> assumption
  have h_l_random_line : FnG P w K mg base 8 B.a_l_random_line B.fd_l_random_line ["_law_box_here", "_law_most", "_law_top"] (spOf K 3 C_l_random_line) := by apply g_l_random_line B <;> assumption
  have h_l_lot : FnG P w K mg base 1 B.a_l_lot B.fd_l_lot ["_law_line"] (spOf K 1 C_l_lot) := by apply g_l_lot B <;> assumption
  have h_l_reached : FnG P w K mg base 5 B.a_l_reached B.fd_l_reached ["_law_line"] (spOf K 1 C_l_reached) := by apply g_l_reached B <;> assumption
  have h_l_right : FnG P w K mg base 10 B.a_l_right B.fd_l_right ["_law_box_here"] (spOf K 1 C_l_right) := by apply g_l_right B <;> assumption
  have h_l_box : FnG P w K mg base 1 B.a_l_box B.fd_l_box ["_law_script", "_law_k"] (spBox K) := by apply g_l_box B <;> assumption
  have h_l_cells : FnG P w K mg base 1 B.a_l_cells B.fd_l_cells ["_law_script", "_law_most"] (spCells2 K) := by apply g_l_cells B <;> assumption
  apply g_law B <;> assumption
end
end K20
namespace K20
open PySem PySem.Spec PyProof.Rows L2 Evl DL
theorem all_mk {l : PySem.W.OpenLaw} {w : World} {K : PySem.W.Frag} {h : Heap} {mg : Str → Option Value} {fa : Addr} (X : K.In h) (G : h.Ns mainGlobals mg) (hfa : mg "law" = some (.ref fa))
    {f0 : Addr} {od0 an0 : Option Addr} {sl0 : Array (Option Value)} {oc0 kV0 dc0 pm0 cd0 ct0 : Value}
    (a0 : PySem.W.nsIn K mainGlobals "_law_take" = some (some (.ref f0)))
    (l0 : K.lookup f0 = some ⟨oc0, od0, .func (PySem.W.fnOf "_law_take" "_law_take" (defArgs s_l_take) (defBody s_l_take) (defScope s_l_take) .none kV0 dc0 pm0 an0 cd0 ct0), sl0⟩)
    (c0 : PySem.W.codeIn K cd0 "_law_take" = true)
    (k0 : PySem.W.keepIn K (.ref f0) = true)
    {f1 : Addr} {od1 an1 : Option Addr} {sl1 : Array (Option Value)} {oc1 kV1 dc1 pm1 cd1 ct1 : Value}
    (a1 : PySem.W.nsIn K mainGlobals "arrivals_of" = some (some (.ref f1)))
    (l1 : K.lookup f1 = some ⟨oc1, od1, .func (PySem.W.fnOf "arrivals_of" "arrivals_of" (defArgs s_arrivals_of) (defBody s_arrivals_of) (defScope s_arrivals_of) .none kV1 dc1 pm1 an1 cd1 ct1), sl1⟩)
    (c1 : PySem.W.codeIn K cd1 "arrivals_of" = true)
    (k1 : PySem.W.keepIn K (.ref f1) = true)
    {f2 : Addr} {od2 an2 : Option Addr} {sl2 : Array (Option Value)} {oc2 kV2 dc2 pm2 cd2 ct2 : Value}
    (a2 : PySem.W.nsIn K mainGlobals "days_of" = some (some (.ref f2)))
    (l2 : K.lookup f2 = some ⟨oc2, od2, .func (PySem.W.fnOf "days_of" "days_of" (defArgs s_days_of) (defBody s_days_of) (defScope s_days_of) .none kV2 dc2 pm2 an2 cd2 ct2), sl2⟩)
    (c2 : PySem.W.codeIn K cd2 "days_of" = true)
    (k2 : PySem.W.keepIn K (.ref f2) = true)
    {f3 : Addr} {od3 an3 : Option Addr} {sl3 : Array (Option Value)} {oc3 kV3 dc3 pm3 cd3 ct3 : Value}
    (a3 : PySem.W.nsIn K mainGlobals "check_as_many" = some (some (.ref f3)))
    (l3 : K.lookup f3 = some ⟨oc3, od3, .func (PySem.W.fnOf "check_as_many" "check_as_many" (defArgs s_check_as_many) (defBody s_check_as_many) (defScope s_check_as_many) .none kV3 dc3 pm3 an3 cd3 ct3), sl3⟩)
    (c3 : PySem.W.codeIn K cd3 "check_as_many" = true)
    (k3 : PySem.W.keepIn K (.ref f3) = true)
    {f4 : Addr} {od4 an4 : Option Addr} {sl4 : Array (Option Value)} {oc4 kV4 dc4 pm4 cd4 ct4 : Value}
    (a4 : PySem.W.nsIn K mainGlobals "bar" = some (some (.ref f4)))
    (l4 : K.lookup f4 = some ⟨oc4, od4, .func (PySem.W.fnOf "bar" "bar" (defArgs s_bar) (defBody s_bar) (defScope s_bar) .none kV4 dc4 pm4 an4 cd4 ct4), sl4⟩)
    (c4 : PySem.W.codeIn K cd4 "bar" = true)
    (k4 : PySem.W.keepIn K (.ref f4) = true)
    {f5 : Addr} {od5 an5 : Option Addr} {sl5 : Array (Option Value)} {oc5 kV5 dc5 pm5 cd5 ct5 : Value}
    (a5 : PySem.W.nsIn K mainGlobals "leads" = some (some (.ref f5)))
    (l5 : K.lookup f5 = some ⟨oc5, od5, .func (PySem.W.fnOf "leads" "leads" (defArgs s_leads) (defBody s_leads) (defScope s_leads) .none kV5 dc5 pm5 an5 cd5 ct5), sl5⟩)
    (c5 : PySem.W.codeIn K cd5 "leads" = true)
    (k5 : PySem.W.keepIn K (.ref f5) = true)
    {f6 : Addr} {od6 an6 : Option Addr} {sl6 : Array (Option Value)} {oc6 kV6 dc6 pm6 cd6 ct6 : Value}
    (a6 : PySem.W.nsIn K mainGlobals "as_tuples" = some (some (.ref f6)))
    (l6 : K.lookup f6 = some ⟨oc6, od6, .func (PySem.W.fnOf "as_tuples" "as_tuples" (defArgs s_as_tuples) (defBody s_as_tuples) (defScope s_as_tuples) .none kV6 dc6 pm6 an6 cd6 ct6), sl6⟩)
    (c6 : PySem.W.codeIn K cd6 "as_tuples" = true)
    (k6 : PySem.W.keepIn K (.ref f6) = true)
    {f7 : Addr} {od7 an7 : Option Addr} {sl7 : Array (Option Value)} {oc7 kV7 dc7 pm7 cd7 ct7 : Value}
    (a7 : PySem.W.nsIn K mainGlobals "check_guest" = some (some (.ref f7)))
    (l7 : K.lookup f7 = some ⟨oc7, od7, .func (PySem.W.fnOf "check_guest" "check_guest" (defArgs s_check_guest) (defBody s_check_guest) (defScope s_check_guest) .none kV7 dc7 pm7 an7 cd7 ct7), sl7⟩)
    (c7 : PySem.W.codeIn K cd7 "check_guest" = true)
    (k7 : PySem.W.keepIn K (.ref f7) = true)
    {f8 : Addr} {od8 an8 : Option Addr} {sl8 : Array (Option Value)} {oc8 kV8 dc8 pm8 cd8 ct8 : Value}
    (a8 : PySem.W.nsIn K mainGlobals "share_day" = some (some (.ref f8)))
    (l8 : K.lookup f8 = some ⟨oc8, od8, .func (PySem.W.fnOf "share_day" "share_day" (defArgs s_share_day) (defBody s_share_day) (defScope s_share_day) .none kV8 dc8 pm8 an8 cd8 ct8), sl8⟩)
    (c8 : PySem.W.codeIn K cd8 "share_day" = true)
    (k8 : PySem.W.keepIn K (.ref f8) = true)
    {f9 : Addr} {od9 an9 : Option Addr} {sl9 : Array (Option Value)} {oc9 kV9 dc9 pm9 cd9 ct9 : Value}
    (a9 : PySem.W.nsIn K mainGlobals "exchanges" = some (some (.ref f9)))
    (l9 : K.lookup f9 = some ⟨oc9, od9, .func (PySem.W.fnOf "exchanges" "exchanges" (defArgs s_exchanges) (defBody s_exchanges) (defScope s_exchanges) .none kV9 dc9 pm9 an9 cd9 ct9), sl9⟩)
    (c9 : PySem.W.codeIn K cd9 "exchanges" = true)
    (k9 : PySem.W.keepIn K (.ref f9) = true)
    {f10 : Addr} {od10 an10 : Option Addr} {sl10 : Array (Option Value)} {oc10 kV10 dc10 pm10 cd10 ct10 : Value}
    (a10 : PySem.W.nsIn K mainGlobals "exchanged" = some (some (.ref f10)))
    (l10 : K.lookup f10 = some ⟨oc10, od10, .func (PySem.W.fnOf "exchanged" "exchanged" (defArgs s_exchanged) (defBody s_exchanged) (defScope s_exchanged) .none kV10 dc10 pm10 an10 cd10 ct10), sl10⟩)
    (c10 : PySem.W.codeIn K cd10 "exchanged" = true)
    (k10 : PySem.W.keepIn K (.ref f10) = true)
    {f11 : Addr} {od11 an11 : Option Addr} {sl11 : Array (Option Value)} {oc11 kV11 dc11 pm11 cd11 ct11 : Value}
    (a11 : PySem.W.nsIn K mainGlobals "guests_on" = some (some (.ref f11)))
    (l11 : K.lookup f11 = some ⟨oc11, od11, .func (PySem.W.fnOf "guests_on" "guests_on" (defArgs s_guests_on) (defBody s_guests_on) (defScope s_guests_on) .none kV11 dc11 pm11 an11 cd11 ct11), sl11⟩)
    (c11 : PySem.W.codeIn K cd11 "guests_on" = true)
    (k11 : PySem.W.keepIn K (.ref f11) = true)
    {f12 : Addr} {od12 an12 : Option Addr} {sl12 : Array (Option Value)} {oc12 kV12 dc12 pm12 cd12 ct12 : Value}
    (a12 : PySem.W.nsIn K mainGlobals "mates_of" = some (some (.ref f12)))
    (l12 : K.lookup f12 = some ⟨oc12, od12, .func (PySem.W.fnOf "mates_of" "mates_of" (defArgs s_mates_of) (defBody s_mates_of) (defScope s_mates_of) .none kV12 dc12 pm12 an12 cd12 ct12), sl12⟩)
    (c12 : PySem.W.codeIn K cd12 "mates_of" = true)
    (k12 : PySem.W.keepIn K (.ref f12) = true)
    {f13 : Addr} {od13 an13 : Option Addr} {sl13 : Array (Option Value)} {oc13 kV13 dc13 pm13 cd13 ct13 : Value}
    (a13 : PySem.W.nsIn K mainGlobals "options" = some (some (.ref f13)))
    (l13 : K.lookup f13 = some ⟨oc13, od13, .func (PySem.W.fnOf "options" "options" (defArgs s_options) (defBody s_options) (defScope s_options) .none kV13 dc13 pm13 an13 cd13 ct13), sl13⟩)
    (c13 : PySem.W.codeIn K cd13 "options" = true)
    (k13 : PySem.W.keepIn K (.ref f13) = true)
    {f14 : Addr} {od14 an14 : Option Addr} {sl14 : Array (Option Value)} {oc14 kV14 dc14 pm14 cd14 ct14 : Value}
    (a14 : PySem.W.nsIn K mainGlobals "lot_many" = some (some (.ref f14)))
    (l14 : K.lookup f14 = some ⟨oc14, od14, .func (PySem.W.fnOf "lot_many" "lot_many" (defArgs s_lot_many) (defBody s_lot_many) (defScope s_lot_many) .none kV14 dc14 pm14 an14 cd14 ct14), sl14⟩)
    (c14 : PySem.W.codeIn K cd14 "lot_many" = true)
    (k14 : PySem.W.keepIn K (.ref f14) = true)
    {f15 : Addr} {od15 an15 : Option Addr} {sl15 : Array (Option Value)} {oc15 kV15 dc15 pm15 cd15 ct15 : Value}
    (a15 : PySem.W.nsIn K mainGlobals "_law_of" = some (some (.ref f15)))
    (l15 : K.lookup f15 = some ⟨oc15, od15, .func (PySem.W.fnOf "_law_of" "_law_of" (defArgs s_l_of) (defBody s_l_of) (defScope s_l_of) .none kV15 dc15 pm15 an15 cd15 ct15), sl15⟩)
    (c15 : PySem.W.codeIn K cd15 "_law_of" = true)
    (k15 : PySem.W.keepIn K (.ref f15) = true)
    {f16 : Addr} {od16 an16 : Option Addr} {sl16 : Array (Option Value)} {oc16 kV16 dc16 pm16 cd16 ct16 : Value}
    (a16 : PySem.W.nsIn K mainGlobals "_law_random_line" = some (some (.ref f16)))
    (l16 : K.lookup f16 = some ⟨oc16, od16, .func (PySem.W.fnOf "_law_random_line" "_law_random_line" (defArgs s_l_random_line) (defBody s_l_random_line) (defScope s_l_random_line) .none kV16 dc16 pm16 an16 cd16 ct16), sl16⟩)
    (c16 : PySem.W.codeIn K cd16 "_law_random_line" = true)
    (k16 : PySem.W.keepIn K (.ref f16) = true)
    {f17 : Addr} {od17 an17 : Option Addr} {sl17 : Array (Option Value)} {oc17 kV17 dc17 pm17 cd17 ct17 : Value}
    (a17 : PySem.W.nsIn K mainGlobals "_law_lot" = some (some (.ref f17)))
    (l17 : K.lookup f17 = some ⟨oc17, od17, .func (PySem.W.fnOf "_law_lot" "_law_lot" (defArgs s_l_lot) (defBody s_l_lot) (defScope s_l_lot) .none kV17 dc17 pm17 an17 cd17 ct17), sl17⟩)
    (c17 : PySem.W.codeIn K cd17 "_law_lot" = true)
    (k17 : PySem.W.keepIn K (.ref f17) = true)
    {f18 : Addr} {od18 an18 : Option Addr} {sl18 : Array (Option Value)} {oc18 kV18 dc18 pm18 cd18 ct18 : Value}
    (a18 : PySem.W.nsIn K mainGlobals "_law_reached" = some (some (.ref f18)))
    (l18 : K.lookup f18 = some ⟨oc18, od18, .func (PySem.W.fnOf "_law_reached" "_law_reached" (defArgs s_l_reached) (defBody s_l_reached) (defScope s_l_reached) .none kV18 dc18 pm18 an18 cd18 ct18), sl18⟩)
    (c18 : PySem.W.codeIn K cd18 "_law_reached" = true)
    (k18 : PySem.W.keepIn K (.ref f18) = true)
    {f19 : Addr} {od19 an19 : Option Addr} {sl19 : Array (Option Value)} {oc19 kV19 dc19 pm19 cd19 ct19 : Value}
    (a19 : PySem.W.nsIn K mainGlobals "_law_right" = some (some (.ref f19)))
    (l19 : K.lookup f19 = some ⟨oc19, od19, .func (PySem.W.fnOf "_law_right" "_law_right" (defArgs s_l_right) (defBody s_l_right) (defScope s_l_right) .none kV19 dc19 pm19 an19 cd19 ct19), sl19⟩)
    (c19 : PySem.W.codeIn K cd19 "_law_right" = true)
    (k19 : PySem.W.keepIn K (.ref f19) = true)
    {f20 : Addr} {od20 an20 : Option Addr} {sl20 : Array (Option Value)} {oc20 kV20 dc20 pm20 cd20 ct20 : Value}
    (a20 : PySem.W.nsIn K mainGlobals "_law_box" = some (some (.ref f20)))
    (l20 : K.lookup f20 = some ⟨oc20, od20, .func (PySem.W.fnOf "_law_box" "_law_box" (defArgs s_l_box) (defBody s_l_box) (defScope s_l_box) .none kV20 dc20 pm20 an20 cd20 ct20), sl20⟩)
    (c20 : PySem.W.codeIn K cd20 "_law_box" = true)
    (k20 : PySem.W.keepIn K (.ref f20) = true)
    {f21 : Addr} {od21 an21 : Option Addr} {sl21 : Array (Option Value)} {oc21 kV21 dc21 pm21 cd21 ct21 : Value}
    (a21 : PySem.W.nsIn K mainGlobals "_law_cells" = some (some (.ref f21)))
    (l21 : K.lookup f21 = some ⟨oc21, od21, .func (PySem.W.fnOf "_law_cells" "_law_cells" (defArgs s_l_cells) (defBody s_l_cells) (defScope s_l_cells) .none kV21 dc21 pm21 an21 cd21 ct21), sl21⟩)
    (c21 : PySem.W.codeIn K cd21 "_law_cells" = true)
    (k21 : PySem.W.keepIn K (.ref f21) = true)
    {f22 : Addr} {od22 an22 : Option Addr} {sl22 : Array (Option Value)} {oc22 kV22 dc22 pm22 cd22 ct22 : Value}
    (a22 : PySem.W.nsIn K mainGlobals "law" = some (some (.ref f22)))
    (l22 : K.lookup f22 = some ⟨oc22, od22, .func (PySem.W.fnOf "law" "law" (defArgs s_law) (defBody s_law) (defScope s_law) .none kV22 dc22 pm22 an22 cd22 ct22), sl22⟩)
    (c22 : PySem.W.codeIn K cd22 "law" = true)
    (k22 : PySem.W.keepIn K (.ref f22) = true)
    (z_abs : PySem.W.nsIn K mainGlobals "abs" = some none)
    (z_all : PySem.W.nsIn K mainGlobals "all" = some none)
    (z_enumerate : PySem.W.nsIn K mainGlobals "enumerate" = some none)
    (z_int : PySem.W.nsIn K mainGlobals "int" = some none)
    (z_len : PySem.W.nsIn K mainGlobals "len" = some none)
    (z_list : PySem.W.nsIn K mainGlobals "list" = some none)
    (z_range : PySem.W.nsIn K mainGlobals "range" = some none)
    (z_set : PySem.W.nsIn K mainGlobals "set" = some none)
    (z_sorted : PySem.W.nsIn K mainGlobals "sorted" = some none)
    (z_tuple : PySem.W.nsIn K mainGlobals "tuple" = some none) :
    ∃ fd : FuncData, (∀ (s : Shared) (v : Value), BindsTo s fd ⟨[v], []⟩ [("_law_script", v)]) ∧ ∀ base : Heap, K.In base → base.Ns mainGlobals mg → (∀ p ∈ ([] : List (Addr × Addr)), LamX.TabB base mg p.1 p.2) → FnG l.prog w K mg base 11 fa fd ["_law_script"] (spLaw K) := by
  have e := hfa.symm.trans (PySem.W.mg_of X G a22)
  cases e
  have F0 := fun_mk (st := s_l_take) l0 c0 k0
  have b0 := F0.binds (ps := ["_law_box_here", "_law_span"]) fun _ _ _ _ _ _ us hl => match us, hl with | [_, _], _ => rfl
  have F1 := fun_mk (st := s_arrivals_of) l1 c1 k1
  have b1 := F1.binds (ps := ["stays"]) fun _ _ _ _ _ _ us hl => match us, hl with | [_], _ => rfl
  have F2 := fun_mk (st := s_days_of) l2 c2 k2
  have b2 := F2.binds (ps := ["stays"]) fun _ _ _ _ _ _ us hl => match us, hl with | [_], _ => rfl
  have F3 := fun_mk (st := s_check_as_many) l3 c3 k3
  have b3 := F3.binds (ps := ["one", "other"]) fun _ _ _ _ _ _ us hl => match us, hl with | [_, _], _ => rfl
  have F4 := fun_mk (st := s_bar) l4 c4 k4
  have b4 := F4.binds (ps := ["one", "other"]) fun _ _ _ _ _ _ us hl => match us, hl with | [_, _], _ => rfl
  have F5 := fun_mk (st := s_leads) l5 c5 k5
  have b5 := F5.binds (ps := ["one", "other"]) fun _ _ _ _ _ _ us hl => match us, hl with | [_, _], _ => rfl
  have F6 := fun_mk (st := s_as_tuples) l6 c6 k6
  have b6 := F6.binds (ps := ["stays"]) fun _ _ _ _ _ _ us hl => match us, hl with | [_], _ => rfl
  have F7 := fun_mk (st := s_check_guest) l7 c7 k7
  have b7 := F7.binds (ps := ["stays", "guest"]) fun _ _ _ _ _ _ us hl => match us, hl with | [_, _], _ => rfl
  have F8 := fun_mk (st := s_share_day) l8 c8 k8
  have b8 := F8.binds (ps := ["stays", "one", "other"]) fun _ _ _ _ _ _ us hl => match us, hl with | [_, _, _], _ => rfl
  have F9 := fun_mk (st := s_exchanges) l9 c9 k9
  have b9 := F9.binds (ps := ["stays"]) fun _ _ _ _ _ _ us hl => match us, hl with | [_], _ => rfl
  have F10 := fun_mk (st := s_exchanged) l10 c10 k10
  have b10 := F10.binds (ps := ["stays", "one", "other"]) fun _ _ _ _ _ _ us hl => match us, hl with | [_, _, _], _ => rfl
  have F11 := fun_mk (st := s_guests_on) l11 c11 k11
  have b11 := F11.binds (ps := ["stays", "day"]) fun _ _ _ _ _ _ us hl => match us, hl with | [_, _], _ => rfl
  have F12 := fun_mk (st := s_mates_of) l12 c12 k12
  have b12 := F12.binds (ps := ["stays", "guest"]) fun _ _ _ _ _ _ us hl => match us, hl with | [_, _], _ => rfl
  have F13 := fun_mk (st := s_options) l13 c13 k13
  have b13 := F13.binds (ps := ["stays"]) fun _ _ _ _ _ _ us hl => match us, hl with | [_], _ => rfl
  have F14 := fun_mk (st := s_lot_many) l14 c14 k14
  have b14 := F14.binds (ps := ["stays"]) fun _ _ _ _ _ _ us hl => match us, hl with | [_], _ => rfl
  have F15 := fun_mk (st := s_l_of) l15 c15 k15
  have b15 := F15.binds (ps := ["_law_box_here", "_law_some"]) fun _ _ _ _ _ _ us hl => match us, hl with | [_, _], _ => rfl
  have F16 := fun_mk (st := s_l_random_line) l16 c16 k16
  have b16 := F16.binds (ps := ["_law_box_here", "_law_most", "_law_top"]) fun _ _ _ _ _ _ us hl => match us, hl with | [_, _, _], _ => rfl
  have F17 := fun_mk (st := s_l_lot) l17 c17 k17
  have b17 := F17.binds (ps := ["_law_line"]) fun _ _ _ _ _ _ us hl => match us, hl with | [_], _ => rfl
  have F18 := fun_mk (st := s_l_reached) l18 c18 k18
  have b18 := F18.binds (ps := ["_law_line"]) fun _ _ _ _ _ _ us hl => match us, hl with | [_], _ => rfl
  have F19 := fun_mk (st := s_l_right) l19 c19 k19
  have b19 := F19.binds (ps := ["_law_box_here"]) fun _ _ _ _ _ _ us hl => match us, hl with | [_], _ => rfl
  have F20 := fun_mk (st := s_l_box) l20 c20 k20
  have b20 := F20.binds (ps := ["_law_script", "_law_k"]) fun _ _ _ _ _ _ us hl => match us, hl with | [_, _], _ => rfl
  have F21 := fun_mk (st := s_l_cells) l21 c21 k21
  have b21 := F21.binds (ps := ["_law_script", "_law_most"]) fun _ _ _ _ _ _ us hl => match us, hl with | [_, _], _ => rfl
  have F22 := fun_mk (st := s_law) l22 c22 k22
  have b22 := F22.binds (ps := ["_law_script"]) fun _ _ _ _ _ _ us hl => match us, hl with | [_], _ => rfl
  refine ⟨PySem.W.fnOf "law" "law" (defArgs s_law) (defBody s_law) (defScope s_law) .none kV22 dc22 pm22 an22 cd22 ct22, fun s v => .of_eq rfl, fun base _ _ tb => ?_⟩
  have Y := law_all (P := l.prog) (w := w) (base := base) ({ a_l_take := f0, fd_l_take := _, F_l_take := F0, m_l_take := PySem.W.mg_of X G a0, k_l_take := k0, b_l_take := b0, a_arrivals_of := f1, fd_arrivals_of := _, F_arrivals_of := F1, m_arrivals_of := PySem.W.mg_of X G a1, k_arrivals_of := k1, b_arrivals_of := b1, a_days_of := f2, fd_days_of := _, F_days_of := F2, m_days_of := PySem.W.mg_of X G a2, k_days_of := k2, b_days_of := b2, a_check_as_many := f3, fd_check_as_many := _, F_check_as_many := F3, m_check_as_many := PySem.W.mg_of X G a3, k_check_as_many := k3, b_check_as_many := b3, a_bar := f4, fd_bar := _, F_bar := F4, m_bar := PySem.W.mg_of X G a4, k_bar := k4, b_bar := b4, a_leads := f5, fd_leads := _, F_leads := F5, m_leads := PySem.W.mg_of X G a5, k_leads := k5, b_leads := b5, a_as_tuples := f6, fd_as_tuples := _, F_as_tuples := F6, m_as_tuples := PySem.W.mg_of X G a6, k_as_tuples := k6, b_as_tuples := b6, a_check_guest := f7, fd_check_guest := _, F_check_guest := F7, m_check_guest := PySem.W.mg_of X G a7, k_check_guest := k7, b_check_guest := b7, a_share_day := f8, fd_share_day := _, F_share_day := F8, m_share_day := PySem.W.mg_of X G a8, k_share_day := k8, b_share_day := b8, a_exchanges := f9, fd_exchanges := _, F_exchanges := F9, m_exchanges := PySem.W.mg_of X G a9, k_exchanges := k9, b_exchanges := b9, a_exchanged := f10, fd_exchanged := _, F_exchanged := F10, m_exchanged := PySem.W.mg_of X G a10, k_exchanged := k10, b_exchanged := b10, a_guests_on := f11, fd_guests_on := _, F_guests_on := F11, m_guests_on := PySem.W.mg_of X G a11, k_guests_on := k11, b_guests_on := b11, a_mates_of := f12, fd_mates_of := _, F_mates_of := F12, m_mates_of := PySem.W.mg_of X G a12, k_mates_of := k12, b_mates_of := b12, a_options := f13, fd_options := _, F_options := F13, m_options := PySem.W.mg_of X G a13, k_options := k13, b_options := b13, a_lot_many := f14, fd_lot_many := _, F_lot_many := F14, m_lot_many := PySem.W.mg_of X G a14, k_lot_many := k14, b_lot_many := b14, a_l_of := f15, fd_l_of := _, F_l_of := F15, m_l_of := PySem.W.mg_of X G a15, k_l_of := k15, b_l_of := b15, a_l_random_line := f16, fd_l_random_line := _, F_l_random_line := F16, m_l_random_line := PySem.W.mg_of X G a16, k_l_random_line := k16, b_l_random_line := b16, a_l_lot := f17, fd_l_lot := _, F_l_lot := F17, m_l_lot := PySem.W.mg_of X G a17, k_l_lot := k17, b_l_lot := b17, a_l_reached := f18, fd_l_reached := _, F_l_reached := F18, m_l_reached := PySem.W.mg_of X G a18, k_l_reached := k18, b_l_reached := b18, a_l_right := f19, fd_l_right := _, F_l_right := F19, m_l_right := PySem.W.mg_of X G a19, k_l_right := k19, b_l_right := b19, a_l_box := f20, fd_l_box := _, F_l_box := F20, m_l_box := PySem.W.mg_of X G a20, k_l_box := k20, b_l_box := b20, a_l_cells := f21, fd_l_cells := _, F_l_cells := F21, m_l_cells := PySem.W.mg_of X G a21, k_l_cells := k21, b_l_cells := b21, a_law := fa, fd_law := _, F_law := F22, m_law := PySem.W.mg_of X G a22, k_law := k22, b_law := b22, n_abs := PySem.W.mg_none_of X G z_abs, n_all := PySem.W.mg_none_of X G z_all, n_enumerate := PySem.W.mg_none_of X G z_enumerate, n_int := PySem.W.mg_none_of X G z_int, n_len := PySem.W.mg_none_of X G z_len, n_list := PySem.W.mg_none_of X G z_list, n_range := PySem.W.mg_none_of X G z_range, n_set := PySem.W.mg_none_of X G z_set, n_sorted := PySem.W.mg_none_of X G z_sorted, n_tuple := PySem.W.mg_none_of X G z_tuple } : Tx K mg)
  exact Y
end K20
open PySem PySem.W PyProof.Rows
set_option maxRecDepth 100000 in
set_option maxHeartbeats 0 in
theorem PySem.Challenge.cw_stayswap_k20_whole_which_stays_lead_wher_holds : PySem.Challenge.rw_stayswap_k20_whole_which_stays_lead_wher.Holds := by
  w_on; o_law; k_head; (case hw => w_witness2)
  k_fill
  refine DL.walkGT (l := PySem.Challenge.rw_stayswap_k20_whole_which_stays_lead_wher) (k := 11) (x := "_law_script") (cs := ([] : List (Addr × Addr))) rfl rfl ⟨rfl, by decide, by decide⟩ (fun w h Y => by first | exact PySem.W.kIn_of Y | exact PySem.W.km_in_of Y) ?tab0 ?tabN ?hd ?mine ?F
  case tab0 => (intro w h Y p hp; cases hp)
  case tabN => (intro w p hp; cases hp)
  case hd => (intro w h Y p hp; cases hp)
  case mine => (intro w q hq; have e : ∀ K : PySem.W.Frag, PySem.W.tabIn K "order_of" = none → DL.tabsOf K = [] := (fun K a => by unfold DL.tabsOf; rw [a]); rw [e _ (by kernel_rfl)] at hq; cases hq)
  case F =>
    intro w mg fa h KX G hmg
    refine' K20.all_mk KX G hmg ?a0 ?l0 ?c0 ?k0 ?a1 ?l1 ?c1 ?k1 ?a2 ?l2 ?c2 ?k2 ?a3 ?l3 ?c3 ?k3 ?a4 ?l4 ?c4 ?k4 ?a5 ?l5 ?c5 ?k5 ?a6 ?l6 ?c6 ?k6 ?a7 ?l7 ?c7 ?k7 ?a8 ?l8 ?c8 ?k8 ?a9 ?l9 ?c9 ?k9 ?a10 ?l10 ?c10 ?k10 ?a11 ?l11 ?c11 ?k11 ?a12 ?l12 ?c12 ?k12 ?a13 ?l13 ?c13 ?k13 ?a14 ?l14 ?c14 ?k14 ?a15 ?l15 ?c15 ?k15 ?a16 ?l16 ?c16 ?k16 ?a17 ?l17 ?c17 ?k17 ?a18 ?l18 ?c18 ?k18 ?a19 ?l19 ?c19 ?k19 ?a20 ?l20 ?c20 ?k20 ?a21 ?l21 ?c21 ?k21 ?a22 ?l22 ?c22 ?k22 ?z_abs ?z_all ?z_enumerate ?z_int ?z_len ?z_list ?z_range ?z_set ?z_sorted ?z_tuple
    (case a0 => k_is)
    (case l0 => k_is)
    (case c0 => k_is)
    (case k0 => k_is)
    (case a1 => k_is)
    (case l1 => k_is)
    (case c1 => k_is)
    (case k1 => k_is)
    (case a2 => k_is)
    (case l2 => k_is)
    (case c2 => k_is)
    (case k2 => k_is)
    (case a3 => k_is)
    (case l3 => k_is)
    (case c3 => k_is)
    (case k3 => k_is)
    (case a4 => k_is)
    (case l4 => k_is)
    (case c4 => k_is)
    (case k4 => k_is)
    (case a5 => k_is)
    (case l5 => k_is)
    (case c5 => k_is)
    (case k5 => k_is)
    (case a6 => k_is)
    (case l6 => k_is)
    (case c6 => k_is)
    (case k6 => k_is)
    (case a7 => k_is)
    (case l7 => k_is)
    (case c7 => k_is)
    (case k7 => k_is)
    (case a8 => k_is)
    (case l8 => k_is)
    (case c8 => k_is)
    (case k8 => k_is)
    (case a9 => k_is)
    (case l9 => k_is)
    (case c9 => k_is)
    (case k9 => k_is)
    (case a10 => k_is)
    (case l10 => k_is)
    (case c10 => k_is)
    (case k10 => k_is)
    (case a11 => k_is)
    (case l11 => k_is)
    (case c11 => k_is)
    (case k11 => k_is)
    (case a12 => k_is)
    (case l12 => k_is)
    (case c12 => k_is)
    (case k12 => k_is)
    (case a13 => k_is)
    (case l13 => k_is)
    (case c13 => k_is)
    (case k13 => k_is)
    (case a14 => k_is)
    (case l14 => k_is)
    (case c14 => k_is)
    (case k14 => k_is)
    (case a15 => k_is)
    (case l15 => k_is)
    (case c15 => k_is)
    (case k15 => k_is)
    (case a16 => k_is)
    (case l16 => k_is)
    (case c16 => k_is)
    (case k16 => k_is)
    (case a17 => k_is)
    (case l17 => k_is)
    (case c17 => k_is)
    (case k17 => k_is)
    (case a18 => k_is)
    (case l18 => k_is)
    (case c18 => k_is)
    (case k18 => k_is)
    (case a19 => k_is)
    (case l19 => k_is)
    (case c19 => k_is)
    (case k19 => k_is)
    (case a20 => k_is)
    (case l20 => k_is)
    (case c20 => k_is)
    (case k20 => k_is)
    (case a21 => k_is)
    (case l21 => k_is)
    (case c21 => k_is)
    (case k21 => k_is)
    (case a22 => k_is)
    (case l22 => k_is)
    (case c22 => k_is)
    (case k22 => k_is)
    (case z_abs => k_is)
    (case z_all => k_is)
    (case z_enumerate => k_is)
    (case z_int => k_is)
    (case z_len => k_is)
    (case z_list => k_is)
    (case z_range => k_is)
    (case z_set => k_is)
    (case z_sorted => k_is)
    (case z_tuple => k_is)
