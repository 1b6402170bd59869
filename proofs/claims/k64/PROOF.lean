import PyProof.Rows.All
import Wide.All
import OpenK.AllK
import Wide.FinOn
import HandS.ForMost
import HandS.Evl
import HandS.Wide
import HandS.Walk
import HandS.Lambda
import KE.KNest
import KE.KDictKeyed
import KE.KDictDisplayH
import HandS.Exc
import HandS.ExcOwn
import HandS.WordsExc
import HandS.EndBits
import HandS.IsInst
import HandS.TupAny
import HandS.NoneIn
import HandS.SortRule
import HandS.Style
import HandS.Zip
import HandS.Conv
import PyProof.P3Eq
import PyProof.ReprRoads
import HandS.Ends
import HandS.ExcInit
import HandS.ExcField
import HandS.ExcIs
import HandS.ExcValue
import KE.KExcIs
import KE.KTryMore
import KE.KExcInit
import KE.DataFind
import HandS.SortInts
import HandS.SortKw
import HandS.SetFor
import PyProof.TupleOps
import KE.DataMinMax
import KE.GoesMore
import KE.GoesEnum
import HandS.Strs
import HandS.Gcd
import HandS.Set
import HandS.TupMul
import HandS.EndTab
import KE.KNestM
import HandS.NestedK
import KE.SortKeyHeap
import KE.KLam
import KE.SortCalls
import HandS.Nested
import HandS.Dict
import KE.KDictZip
import HandS.Rev
import HandS.DictComp
import KE.SortData
import HandS.Deep
import HandS.TupSets
import HandS.SetBool
import KE.DataCmp
import PyProof.FitsInt
import PyProof.StrLawsRepr
import HandS.TupLe
import HandS.Flow
import PyProof.Rows.TupTab
import KE.KDictSum
import KE.KDictCopyH
import HandS.Sort
import KE.KDictWalk
import KE.DataMinKey
import KE.KDictPairs
import KE.KTupSum
import HandS.MapObj
import PyProof.TupleOfGen
import PyProof.Rows.TupAdd
import KE.KSortAsk
import HandS.Text
import HandS.FStr
import PyProof.ListStr
import PyProof.StrOps2
import HandS.Replace
import HandS.ReplaceDef
import HandS.ReplaceLit
import PySem.Challenge.RW_stayswap_k64_texts_and_back
set_option Elab.async false
set_option linter.all false
set_option maxRecDepth 100000
set_option maxHeartbeats 4000000
set_option exponentiation.threshold 1100
namespace DL
open PySem PySem.Spec PyProof.Rows L2 Evl
/-- a row as a key -/
def keyR (l : List (Int × Int)) : NestedKey := .tup (l.map fun p => .tup [.num p.1, .num p.2])
/-- a dict whose keys are rows: the row, where it stands, the value -/
def NDx (ks : List (List (Int × Int) × Addr × V)) (a : Addr) (o : Obj) : HO := .ext fun h => (a == sysModules) = false ∧ ks.length ≤ sizeLine ∧ (ks.map (·.1)).Nodup ∧
  ∃ xs : List (NestedKey × Addr × Value), Paired (fun (p : List (Int × Int) × Addr × V) (q : NestedKey × Addr × Value) => q.1 = keyR p.1 ∧ q.2.1 = p.2.1 ∧ RelV p.2.2 q.2.2) ks xs ∧
    ∃ es ep, h.get? a = some o ∧ o.ExactDict ∧ o.data = .dict es ep ∧ ∀ (P : Program) (w : World), es.toList = xs.map (entryOfKey (nestedKind P w))
/-- the row l stands at b -/
def RowAt (S : Hp) (b : Addr) (l : List (Int × Int)) : Prop := ∃ vs, S b = some (.tup vs) ∧ Paired (fun (v : V) (p : Int × Int) => ∃ c, v = V.ref c ∧ S c = some (.tup [.int p.1, .int p.2])) vs l
/-- a dict that stands at a: its keys and values in order -/
def DctAt (S : Hp) (a : Addr) (ks : List (Key ⊕ List (Int × Int))) (ws : List V) : Prop :=
  (∃ kk : List (Key × V), S a = some (.dK kk) ∧ ks = kk.map (fun x => Sum.inl x.1) ∧ ws = kk.map (·.2)) ∨
  (∃ (nn : List (List (Int × Int) × Addr × V)) (o : Obj), S a = some (NDx nn a o) ∧ ks = nn.map (fun x => Sum.inr x.1) ∧ ws = nn.map (fun x => x.2.2) ∧ ∀ x ∈ nn, RowAt S x.2.1 x.1)
theorem RowAt.mono {S S' : Hp} (e : ∀ a o, S a = some o → S' a = some o) {b : Addr} {l : List (Int × Int)} (h : RowAt S b l) : RowAt S' b l := by
  obtain ⟨vs, h1, h2⟩ := h
  exact ⟨vs, e _ _ h1, Paired.mapP h2 fun v p ⟨c, x, y⟩ => ⟨c, x, e _ _ y⟩⟩
theorem DctAt.mono {S S' : Hp} (e : ∀ a o, S a = some o → S' a = some o) {a : Addr} {ks : List (Key ⊕ List (Int × Int))} {ws : List V} (h : DctAt S a ks ws) : DctAt S' a ks ws := by
  rcases h with ⟨kk, h1, h2⟩ | ⟨nn, o, h1, h2, h3, h4⟩
  · exact Or.inl ⟨kk, e _ _ h1, h2⟩
  · exact Or.inr ⟨nn, o, e _ _ h1, h2, h3, fun x hx => (h4 x hx).mono e⟩
/-- plain data -/
inductive D where
  | non | bl (b : Bool) | int (i : Int) | str (s : Str) | lst (xs : List D) | tup (xs : List D) | raw (v : V) | exc (C : Addr) (fs : List (Str × V)) | dct (ks : List (Key ⊕ List (Int × Int))) (ds : List D)
/-- a held exception's object -/
def ExH (C d a : Addr) : HO := .ext fun h => ∃ (oe : Obj) (vs : Array Value), h.get? a = some oe ∧ oe.cls = .ref C ∧ oe.dict = some d ∧ oe.data = .fields vs
mutual
def Rep (K : PySem.W.Frag) (S : Hp) (v : V) : D → Prop
  | .non => v = .non
  | .bl b => v = .bl b
  | .int i => v = .int i
  | .str s => v = .str s
  | .lst ds => ∃ a vs, v = .ref a ∧ S a = some (.lst vs) ∧ Reps K S vs ds
  | .tup ds => ∃ a vs, v = .ref a ∧ S a = some (.tup vs) ∧ Reps K S vs ds
  | .raw u => v = u
  | .exc C fs => ∃ a d, v = .ref a ∧ S a = some (ExH C d a) ∧ S d = some (.xd fs)
  | .dct ks ds => ∃ a ws, v = .ref a ∧ DctAt S a ks ws ∧ Reps K S ws ds
def Reps (K : PySem.W.Frag) (S : Hp) (vs : List V) : List D → Prop
  | [] => vs = []
  | d :: ds => ∃ v r, vs = v :: r ∧ Rep K S v d ∧ Reps K S r ds
end
mutual
theorem Rep.mono {K : PySem.W.Frag} {S S' : Hp} (e : Ex S S') : ∀ {d : D} {v : V}, Rep K S v d → Rep K S' v d
  | .non, _, h => h
  | .bl _, _, h => h
  | .int _, _, h => h
  | .str _, _, h => h
  | .lst _, _, h => by
    unfold Rep at h ⊢
    obtain ⟨a, vs, h1, h2, h3⟩ := h
    exact ⟨a, vs, h1, e _ _ h2, Reps.mono e h3⟩
  | .tup _, _, h => by
    unfold Rep at h ⊢
    obtain ⟨a, vs, h1, h2, h3⟩ := h
    exact ⟨a, vs, h1, e _ _ h2, Reps.mono e h3⟩
  | .raw _, _, h => h
  | .exc _ _, _, h => by
    unfold Rep at h ⊢
    obtain ⟨a, d, h1, h2, h3⟩ := h
    exact ⟨a, d, h1, e _ _ h2, e _ _ h3⟩
  | .dct _ _, _, h => by
    unfold Rep at h ⊢
    obtain ⟨a, ws, h1, h2, h3⟩ := h
    exact ⟨a, ws, h1, h2.mono e, Reps.mono e h3⟩
theorem Reps.mono {K : PySem.W.Frag} {S S' : Hp} (e : Ex S S') : ∀ {ds : List D} {vs : List V}, Reps K S vs ds → Reps K S' vs ds
  | [], _, h => h
  | _ :: _, _, h => by
    unfold Reps at h ⊢
    obtain ⟨v, r, h1, h2, h3⟩ := h
    exact ⟨v, r, h1, Rep.mono e h2, Reps.mono e h3⟩
end
section
variable {K : PySem.W.Frag} {S S' : Hp}
theorem Reps.nil : Reps K S [] [] := by unfold Reps; rfl
theorem Reps.cons {v : V} {vs : List V} {d : D} {ds : List D} (h : Rep K S v d) (r : Reps K S vs ds) : Reps K S (v :: vs) (d :: ds) := by
  unfold Reps
  exact ⟨v, vs, rfl, h, r⟩
theorem Reps.uncons {vs : List V} {d : D} {ds : List D} (h : Reps K S vs (d :: ds)) : ∃ v r, vs = v :: r ∧ Rep K S v d ∧ Reps K S r ds := by
  unfold Reps at h
  exact h
theorem Reps.length : ∀ {ds : List D} {vs : List V}, Reps K S vs ds → vs.length = ds.length
  | [], _, h => by unfold Reps at h; subst h; rfl
  | d :: ds, _, h => by
    obtain ⟨v, r, rfl, h1, h2⟩ := h.uncons
    simp [Reps.length h2]
theorem Reps.get : ∀ {ds : List D} {vs : List V} {i : Nat} {d : D}, Reps K S vs ds → ds[i]? = some d → ∃ v, vs[i]? = some v ∧ Rep K S v d
  | [], _, _, _, _, e => by simp at e
  | d :: ds, _, 0, _, h, e => by
    obtain ⟨v, r, rfl, h1, h2⟩ := h.uncons
    simp at e; subst e
    exact ⟨v, rfl, h1⟩
  | d :: ds, _, i + 1, _, h, e => by
    obtain ⟨v, r, rfl, h1, h2⟩ := h.uncons
    obtain ⟨w, h3, h4⟩ := Reps.get (i := i) h2 (by simpa using e)
    exact ⟨w, by simpa using h3, h4⟩
theorem Reps.getV : ∀ {ds : List D} {vs : List V} {i : Nat} {v : V}, Reps K S vs ds → vs[i]? = some v → ∃ d, ds[i]? = some d ∧ Rep K S v d
  | [], _, _, _, h, e => by unfold Reps at h; subst h; simp at e
  | d :: ds, _, 0, _, h, e => by
    obtain ⟨v, r, rfl, h1, h2⟩ := h.uncons
    simp at e; subst e
    exact ⟨d, rfl, h1⟩
  | d :: ds, _, i + 1, _, h, e => by
    obtain ⟨v, r, rfl, h1, h2⟩ := h.uncons
    obtain ⟨w, h3, h4⟩ := Reps.getV (i := i) h2 (by simpa using e)
    exact ⟨w, by simpa using h3, h4⟩
theorem Reps.append : ∀ {ds es : List D} {vs ws : List V}, Reps K S vs ds → Reps K S ws es → Reps K S (vs ++ ws) (ds ++ es)
  | [], _, _, _, h, g => by unfold Reps at h; subst h; exact g
  | d :: ds, _, _, _, h, g => by
    obtain ⟨v, r, rfl, h1, h2⟩ := h.uncons
    exact Reps.cons h1 (Reps.append h2 g)
theorem Reps.one {v : V} {d : D} (h : Rep K S v d) : Reps K S [v] [d] := Reps.cons h Reps.nil
theorem Reps.set : ∀ {ds : List D} {vs : List V} {v : V} {d : D} (i : Nat), Reps K S vs ds → Rep K S v d → Reps K S (vs.set i v) (ds.set i d)
  | [], _, _, _, _, h, _ => by unfold Reps at h; subst h; exact Reps.nil
  | _ :: _, _, _, _, 0, h, g => by
    obtain ⟨v, r, rfl, h1, h2⟩ := h.uncons
    exact Reps.cons g h2
  | _ :: _, _, _, _, i + 1, h, g => by
    obtain ⟨v, r, rfl, h1, h2⟩ := h.uncons
    exact Reps.cons h1 (Reps.set i h2 g)
theorem Reps.take : ∀ {ds : List D} {vs : List V} (i : Nat), Reps K S vs ds → Reps K S (vs.take i) (ds.take i)
  | [], _, i, h => by unfold Reps at h; subst h; simp [Reps.nil]
  | _ :: _, _, 0, h => by simp [Reps.nil]
  | _ :: _, _, i + 1, h => by
    obtain ⟨v, r, rfl, h1, h2⟩ := h.uncons
    exact Reps.cons h1 (Reps.take i h2)
theorem Reps.drop : ∀ {ds : List D} {vs : List V} (i : Nat), Reps K S vs ds → Reps K S (vs.drop i) (ds.drop i)
  | [], _, i, h => by unfold Reps at h; subst h; simp [Reps.nil]
  | _ :: _, _, 0, h => h
  | _ :: _, _, i + 1, h => by
    obtain ⟨v, r, rfl, h1, h2⟩ := h.uncons
    exact Reps.drop i h2
theorem Rep.int_inv {v : V} {i : Int} (h : Rep K S v (.int i)) : v = .int i := by unfold Rep at h; exact h
theorem Rep.bl_inv {v : V} {i : Bool} (h : Rep K S v (.bl i)) : v = .bl i := by unfold Rep at h; exact h
theorem Rep.str_inv {v : V} {i : Str} (h : Rep K S v (.str i)) : v = .str i := by unfold Rep at h; exact h
theorem Rep.non_inv {v : V} (h : Rep K S v .non) : v = .non := by unfold Rep at h; exact h
theorem Rep.raw_inv {v u : V} (h : Rep K S v (.raw u)) : v = u := by unfold Rep at h; exact h
theorem Rep.lst_inv {v : V} {ds : List D} (h : Rep K S v (.lst ds)) : ∃ a vs, v = .ref a ∧ S a = some (.lst vs) ∧ Reps K S vs ds := by unfold Rep at h; exact h
theorem Rep.tup_inv {v : V} {ds : List D} (h : Rep K S v (.tup ds)) : ∃ a vs, v = .ref a ∧ S a = some (.tup vs) ∧ Reps K S vs ds := by unfold Rep at h; exact h
theorem Rep.int {i : Int} : Rep K S (.int i) (.int i) := by unfold Rep; rfl
theorem Rep.bl {i : Bool} : Rep K S (.bl i) (.bl i) := by unfold Rep; rfl
theorem Rep.str {i : Str} : Rep K S (.str i) (.str i) := by unfold Rep; rfl
theorem Rep.non : Rep K S .non .non := by unfold Rep; rfl
theorem Rep.raw {u : V} : Rep K S u (.raw u) := by unfold Rep; rfl
theorem Rep.lst {a : Addr} {vs : List V} {ds : List D} (h : S a = some (.lst vs)) (r : Reps K S vs ds) : Rep K S (.ref a) (.lst ds) := by
  unfold Rep
  exact ⟨a, vs, rfl, h, r⟩
theorem Rep.tup {a : Addr} {vs : List V} {ds : List D} (h : S a = some (.tup vs)) (r : Reps K S vs ds) : Rep K S (.ref a) (.tup ds) := by
  unfold Rep
  exact ⟨a, vs, rfl, h, r⟩
theorem Reps.intsV : ∀ {ns : List Int} {vs : List V}, Reps K S vs (ns.map D.int) → vs = ns.map V.int
  | [], _, h => by unfold Reps at h; exact h
  | n :: ns, _, h => by
    obtain ⟨v, r, rfl, h1, h2⟩ := (show Reps K S _ (D.int n :: ns.map D.int) from h).uncons
    rw [Rep.int_inv h1, Reps.intsV h2]
    rfl
theorem Reps.of_ints : ∀ {ns : List Int}, Reps K S (ns.map V.int) (ns.map D.int)
  | [] => Reps.nil
  | n :: ns => Reps.cons Rep.int Reps.of_ints
theorem Reps.bls : ∀ {ns : List Bool} {vs : List V}, Reps K S vs (ns.map D.bl) → vs = ns.map V.bl
  | [], _, h => by unfold Reps at h; exact h
  | n :: ns, _, h => by
    obtain ⟨v, r, rfl, h1, h2⟩ := (show Reps K S _ (D.bl n :: ns.map D.bl) from h).uncons
    rw [Rep.bl_inv h1, Reps.bls h2]
    rfl
end
/-! ### the box, the state since the entry -/
/-- the box at a: three ints, the last at most n -/
def BoxOk (n : Nat) (H : Hp) (a : Addr) : Prop := ∃ x y z : Int, H a = some (.lst [.int x, .int y, .int z]) ∧ 0 ≤ x ∧ 0 ≤ y ∧ y < 2 ^ 62 ∧ 0 ≤ z ∧ z ≤ n
theorem BoxOk.mono {n m : Nat} {H : Hp} {a : Addr} (h : BoxOk n H a) (l : n ≤ m) : BoxOk m H a := by
  obtain ⟨x, y, z, h1, h2, h3, h4, h5, h6⟩ := h
  exact ⟨x, y, z, h1, h2, h3, h4, h5, by omega⟩
theorem BoxOk.ne {n : Nat} {H : Hp} {a : Addr} (h : BoxOk n H a) : H a ≠ none := by
  obtain ⟨x, y, z, h1, _⟩ := h
  rw [h1]
  exact fun q => nomatch q
/-! ### tables of code objects -/
/-- the tables that the defs with a lambda fill -/
def tabOf (K : PySem.W.Frag) (x q : String) : List (Addr × Str) := match PySem.W.tabIn K (Str.ofString x) with
  | some (_, P) => [(P, Str.ofString q)]
  | none => []
def tabsOf (K : PySem.W.Frag) : List (Addr × Str) := tabOf K "order_of" "order_of.<locals>.<lambda>" ++ tabOf K "nearest_meeting" "nearest_meeting.<locals>.<lambda>"
def TabK (K : PySem.W.Frag) (S H : Hp) : Prop := LamX.Tabs (tabsOf K) H ∧ ∀ q ∈ tabsOf K, S q.1 = none
def NT (o : HO) : Prop := ∀ ps, o ≠ .tbl ps
theorem nt_lst {vs : List V} : NT (.lst vs) := fun _ z => nomatch z
theorem nt_tup {vs : List V} : NT (.tup vs) := fun _ z => nomatch z
theorem nt_xd {vs : List (Str × V)} : NT (.xd vs) := fun _ z => nomatch z
theorem nt_dK {kvs : List (Key × V)} : NT (.dK kvs) := fun _ z => nomatch z
theorem nt_frz {o : Obj} {u : HO} : NT (.frz o u) := fun _ z => nomatch z
theorem TabK.new {K : PySem.W.Frag} {S H : Hp} {p : Addr} {o : HO} (t : TabK K S H) (hp : H p = none) : TabK K S (upd H p o) := ⟨LamX.Tabs.ext t.1 fun b u e => by
  rw [upd_ne (ne_of_none e hp)]
  exact e, t.2⟩
theorem TabK.upS {K : PySem.W.Frag} {S H : Hp} {p : Addr} {o : HO} (t : TabK K S H) (hp : ∀ ps, H p ≠ some (.tbl ps)) : TabK K (upd S p o) H := ⟨t.1, fun q hq => by
  obtain ⟨ps, h1, _⟩ := t.1 q hq
  rw [upd_ne (fun z => hp ps (by rw [← z]; exact h1))]
  exact t.2 q hq⟩
theorem TabK.put {K : PySem.W.Frag} {S H : Hp} {p : Addr} {o : HO} (t : TabK K S H) (hp : ∃ xs, H p = some (.lst xs)) : TabK K S (upd H p o) := ⟨fun q hq => by
  obtain ⟨xs, hp⟩ := hp
  obtain ⟨ps, h1, h2, h3⟩ := t.1 q hq
  have n1 : q.1 ≠ p := fun z => by rw [z, hp] at h1; cases h1
  refine ⟨ps, by rw [upd_ne n1]; exact h1, h2, fun pos cv hc => ?_⟩
  obtain ⟨c, e1, e2⟩ := h3 pos cv hc
  refine ⟨c, e1, ?_⟩
  have n2 : c ≠ p := fun z => by
    rw [z, hp] at e2
    have e2 := Option.some.inj e2
    unfold LamX.CodeO at e2
    cases e2
  rw [upd_ne n2]
  exact e2, t.2⟩
/-- from (S, H) to (S', H') -/
structure Mv (b : Option Addr) (S H S' H' : Hp) : Prop where
  ss : Ex S S'
  fr : ∀ a o, some a ≠ b → H a = some o → (nt : NT o := by first | exact nt_lst | exact nt_tup | exact nt_xd | exact nt_frz | assumption) → H' a = some o
  tb : ∀ a ps, H a = some (.tbl ps) → ∃ qs, H' a = some (.tbl qs)
  sep : ∀ a, H a ≠ none → S a = none → S' a = none
theorem Mv.refl {b : Option Addr} {S H : Hp} : Mv b S H S H := ⟨Ex.refl _, fun _ _ _ h _ => h, fun _ ps h => ⟨ps, h⟩, fun _ _ h => h⟩
structure Amb where
  K : PySem.W.Frag
  b : Option Addr
  S0 : Hp
  H0 : Hp
  E : XK
  PX : Addr → List (Str × V) → Prop
/-- the state since the entry -/
structure Fr (A : Amb) (n : Nat) (S H : Hp) : Prop where
  sub : Ex S H
  mv : Mv A.b A.S0 A.H0 S H
  box : ∀ a, A.b = some a → BoxOk n H a ∧ S a = none ∧ A.H0 a ≠ none
  tab : TabK A.K S H
section
variable {b : Option Addr} {S H S1 H1 S2 H2 : Hp}
/-- b stays there -/
def Bt (b : Option Addr) (H : Hp) : Prop := ∀ a, b = some a → H a ≠ none
theorem Mv.there (m : Mv b S H S1 H1) (hb : Bt b H1) {a : Addr} (h : H a ≠ none) : H1 a ≠ none := by
  by_cases e : some a = b
  · exact hb a e.symm
  · cases q : H a with
    | none => exact absurd q h
    | some o =>
      by_cases nt : NT o
      · rw [m.fr a o e q nt]
        exact fun z => nomatch z
      · obtain ⟨ps, rfl⟩ : ∃ ps, o = .tbl ps := Classical.byContradiction fun z => nt fun ps y => z ⟨ps, y⟩
        obtain ⟨qs, h'⟩ := m.tb a ps q
        rw [h']
        exact fun z => nomatch z
theorem Mv.trans (m : Mv b S H S1 H1) (hb : Bt b H1) (m' : Mv b S1 H1 S2 H2) : Mv b S H S2 H2 :=
  ⟨m.ss.trans m'.ss, fun a o e h nt => m'.fr a o e (m.fr a o e h nt) nt, fun a ps h => let ⟨qs, h'⟩ := m.tb a ps h; m'.tb a qs h', fun a h h' => m'.sep a (m.there hb h) (m.sep a h h')⟩
/-- a new object is laid, frozen at once -/
theorem Mv.new {p : Addr} {o : HO} (hs : Ex S H) (hp : H p = none) : Mv b S H (upd S p o) (upd H p o) := by
  refine ⟨fun a u e => ?_, fun a u _ e _ => ?_, fun a ps e => ⟨ps, ?_⟩, fun a h h' => ?_⟩
  · rw [upd_ne (ne_of_none (hs a u e) hp)]; exact e
  · rw [upd_ne (ne_of_none e hp)]; exact e
  · rw [upd_ne (ne_of_none e hp)]; exact e
  · have q : a ≠ p := fun z => h (by rw [z]; exact hp)
    rw [upd_ne q]; exact h'
/-- a new object is laid, not frozen -/
theorem Mv.newO {p : Addr} {o : HO} (hp : H p = none) : Mv b S H S (upd H p o) := by
  refine ⟨Ex.refl _, fun a u _ e _ => ?_, fun a ps e => ⟨ps, ?_⟩, fun a h h' => h'⟩
  · rw [upd_ne (ne_of_none e hp)]; exact e
  · rw [upd_ne (ne_of_none e hp)]; exact e
theorem ex_upd2 {p : Addr} {o : HO} (hs : Ex S H) : Ex (upd S p o) (upd H p o) := fun a u e => by
  by_cases q : a = p
  · subst q
    rw [upd_same] at e ⊢
    exact e
  · rw [upd_ne q] at e ⊢
    exact hs a u e
end
section
variable {A : Amb} {n n' m : Nat} {S H S1 H1 S2 H2 : Hp}
theorem Fr.bt (f : Fr A n S H) : Bt A.b H := fun a e => (f.box a e).1.ne
/-- a new object, frozen -/
theorem Fr.new {p : Addr} {o : HO} (f : Fr A n S H) (hp : H p = none) : Fr A n (upd S p o) (upd H p o) := by
  have bt : Bt A.b (upd H p o) := fun a e => by
    have q := f.bt a e
    have ne : a ≠ p := fun z => q (by rw [z]; exact hp)
    rw [upd_ne ne]; exact q
  refine ⟨ex_upd2 f.sub, f.mv.trans f.bt (Mv.new f.sub hp), fun a e => ?_, (f.tab.upS fun ps z => by rw [hp] at z; cases z).new hp⟩
  obtain ⟨⟨x, y, z, h1, h2⟩, h3, h4⟩ := f.box a e
  have ne : a ≠ p := ne_of_none h1 hp
  exact ⟨⟨x, y, z, by rw [upd_ne ne]; exact h1, h2⟩, by rw [upd_ne ne]; exact h3, h4⟩
theorem Fr.newO {p : Addr} {o : HO} (f : Fr A n S H) (hp : H p = none) : Fr A n S (upd H p o) := by
  refine ⟨fun a u e => ?_, f.mv.trans f.bt (Mv.newO hp), fun a e => ?_, f.tab.new hp⟩
  · rw [upd_ne (ne_of_none (f.sub a u e) hp)]; exact f.sub a u e
  · obtain ⟨⟨x, y, z, h1, h2⟩, h3, h4⟩ := f.box a e
    have ne : a ≠ p := ne_of_none h1 hp
    exact ⟨⟨x, y, z, by rw [upd_ne ne]; exact h1, h2⟩, h3, h4⟩
/-- an object of ours that is not frozen is written -/
theorem Fr.put {p : Addr} {o : HO} (f : Fr A n S H) (hs : S p = none) (h0 : A.H0 p = none) (hl : ∃ xs, H p = some (.lst xs)) : Fr A n S (upd H p o) := by
  have np : ∀ a u, A.H0 a = some u → a ≠ p := fun a u e => ne_of_none e h0
  refine ⟨fun a u e => ?_, ⟨f.mv.ss, fun a u e h nt => ?_, fun a ps h => ?_, f.mv.sep⟩, fun a e => ?_, f.tab.put hl⟩
  · rw [upd_ne (ne_of_none e hs)]; exact f.sub a u e
  · rw [upd_ne (np a u h)]; exact f.mv.fr a u e h
  · rw [upd_ne (np a _ h)]; exact f.mv.tb a ps h
  · obtain ⟨⟨x, y, z, h1, h2⟩, h3, h4⟩ := f.box a e
    have ne : a ≠ p := fun q => h4 (by rw [q]; exact h0)
    exact ⟨⟨x, y, z, by rw [upd_ne ne]; exact h1, h2⟩, h3, h4⟩
/-- an object of ours is frozen -/
theorem Fr.freeze {p : Addr} {o : HO} (f : Fr A n S H) (hh : H p = some o) (hs : S p = none) (h0 : A.H0 p = none) (nt : NT o := by first | exact nt_lst | exact nt_tup | exact nt_xd | exact nt_frz | assumption) : Fr A n (upd S p o) H := by
  refine ⟨fun a u e => ?_, ⟨fun a u e => ?_, (fun a o x y nt => f.mv.fr a o x y nt), f.mv.tb, fun a h h' => ?_⟩, fun a e => ?_, f.tab.upS fun ps z => nt ps (Option.some.inj (hh.symm.trans z))⟩
  · by_cases q : a = p
    · subst q; rw [upd_same] at e; cases e; exact hh
    · rw [upd_ne q] at e; exact f.sub a u e
  · have z := f.mv.ss a u e
    rw [upd_ne (ne_of_none z hs)]; exact z
  · have ne : a ≠ p := fun q => h (by rw [q]; exact h0)
    rw [upd_ne ne]; exact f.mv.sep a h h'
  · obtain ⟨h1, h3, h4⟩ := f.box a e
    have ne : a ≠ p := fun q => h4 (by rw [q]; exact h0)
    exact ⟨h1, by rw [upd_ne ne]; exact h3, h4⟩
/-- what is not there now was not there at the entry -/
theorem Fr.h0 (f : Fr A n S H) {p : Addr} (hp : H p = none) : A.H0 p = none := by
  cases q : A.H0 p with
  | none => rfl
  | some o =>
    exact absurd hp (f.mv.there f.bt (by rw [q]; exact fun z => nomatch z))
theorem Fr.s0 (f : Fr A n S H) {p : Addr} (hp : H p = none) : S p = none := by
  cases q : S p with
  | none => rfl
  | some o =>
    have := f.sub p o q
    rw [hp] at this; cases this
end
/-! ### slots -/
inductive Slot where
  | un | val (d : D) | own (ds : List D) | dic (kvs : List (Key × D)) | nd (kvs : List (List (Int × Int) × D))
def rowE (l : List (Int × Int)) : D := .tup (l.map fun p => .tup [.int p.1, .int p.2])
theorem nt_ND {ks : List (List (Int × Int) × Addr × V)} {a : Addr} {o : Obj} : NT (NDx ks a o) := fun _ z => by unfold NDx at z; cases z
def NReps (K : PySem.W.Frag) (S : Hp) (ks : List (List (Int × Int) × Addr × V)) (kvs : List (List (Int × Int) × D)) : Prop := ks.map (·.1) = kvs.map (·.1) ∧ (∀ x ∈ ks, Rep K S (.ref x.2.1) (rowE x.1)) ∧ Reps K S (ks.map fun x => x.2.2) (kvs.map Prod.snd)
theorem NReps.mono {K : PySem.W.Frag} {S S' : Hp} {ks : List (List (Int × Int) × Addr × V)} {kvs : List (List (Int × Int) × D)} (h : NReps K S ks kvs) (e : Ex S S') : NReps K S' ks kvs := ⟨h.1, fun x hx => (h.2.1 x hx).mono e, h.2.2.mono e⟩
/-- a dict's entries -/
def KReps (K : PySem.W.Frag) (S : Hp) (ks : List (Key × V)) (kvs : List (Key × D)) : Prop := ks.map Prod.fst = kvs.map Prod.fst ∧ Reps K S (ks.map Prod.snd) (kvs.map Prod.snd)
def SlotOk (A : Amb) (S H : Hp) (o : Option V) : Slot → Prop
  | .un => True
  | .val d => ∃ v, o = some v ∧ Rep A.K S v d
  | .own ds => ∃ a vs, o = some (.ref a) ∧ H a = some (.lst vs) ∧ Reps A.K S vs ds ∧ S a = none ∧ A.H0 a = none
  | .dic kvs => ∃ a ks, o = some (.ref a) ∧ H a = some (.dK ks) ∧ KReps A.K S ks kvs ∧ S a = none ∧ A.H0 a = none
  | .nd kvs => ∃ (a : Addr) (ks : List (List (Int × Int) × Addr × V) × Obj), o = some (.ref a) ∧ H a = some (NDx ks.1 a ks.2) ∧ NReps A.K S ks.1 kvs ∧ S a = none ∧ A.H0 a = none
abbrev Rho := List Slot
structure ER (A : Amb) (n : Nat) (S H : Hp) (σ : L2.St) (ρ : Rho) : Prop where
  f : Fr A n S H
  len : σ.length = ρ.length
  sl : ∀ (i : Nat) (s : Slot), ρ[i]? = some s → ∃ o, σ[i]? = some o ∧ SlotOk A S H o s
  ap : ∀ (i j : Nat) (ds es : List D), i ≠ j → ρ[i]? = some (.own ds) → ρ[j]? = some (.own es) → σ[i]? ≠ σ[j]?
section
variable {A : Amb} {n n' m : Nat} {S H S' H' S1 H1 S2 H2 : Hp} {σ : L2.St} {ρ : Rho}
theorem SlotOk.mv {o : Option V} {s : Slot} (h : SlotOk A S H o s) (m : Mv A.b S H S' H') (f : Fr A n S H) : SlotOk A S' H' o s := by
  cases s with
  | un => trivial
  | val d =>
    obtain ⟨v, h1, h2⟩ := h
    exact ⟨v, h1, h2.mono m.ss⟩
  | own ds =>
    obtain ⟨a, vs, h1, h2, h3, h4, h5⟩ := h
    have nb : some a ≠ A.b := fun e => (f.box a e.symm).2.2 h5
    exact ⟨a, vs, h1, m.fr a _ nb h2, h3.mono m.ss, m.sep a (by rw [h2]; exact fun z => nomatch z) h4, h5⟩
  | dic kvs =>
    obtain ⟨a, ks, h1, h2, h3, h4, h5⟩ := h
    have nb : some a ≠ A.b := fun e => (f.box a e.symm).2.2 h5
    exact ⟨a, ks, h1, m.fr a _ nb h2 nt_dK, ⟨h3.1, h3.2.mono m.ss⟩, m.sep a (by rw [h2]; exact fun z => nomatch z) h4, h5⟩
  | nd kvs =>
    obtain ⟨a, ks, h1, h2, h3, h4, h5⟩ := h
    have nb : some a ≠ A.b := fun e => (f.box a e.symm).2.2 h5
    exact ⟨a, ks, h1, m.fr a _ nb h2 nt_ND, h3.mono m.ss, m.sep a (by rw [h2]; exact fun z => nomatch z) h4, h5⟩
theorem ER.mv (e : ER A n S H σ ρ) (m : Mv A.b S H S' H') (f : Fr A n' S' H') : ER A n' S' H' σ ρ :=
  ⟨f, e.len, fun i s h => let ⟨o, h1, h2⟩ := e.sl i s h; ⟨o, h1, h2.mv m e.f⟩, e.ap⟩
theorem ER.val (e : ER A n S H σ ρ) {i : Nat} {d : D} (h : ρ[i]? = some (.val d)) : ∃ v, σ[i]? = some (some v) ∧ Rep A.K S v d := by
  obtain ⟨o, h1, v, h2, h3⟩ := e.sl i _ h
  exact ⟨v, by rw [h1, h2], h3⟩
theorem ER.own (e : ER A n S H σ ρ) {i : Nat} {ds : List D} (h : ρ[i]? = some (.own ds)) : ∃ a vs, σ[i]? = some (some (.ref a)) ∧ H a = some (.lst vs) ∧ Reps A.K S vs ds ∧ S a = none ∧ A.H0 a = none := by
  obtain ⟨o, h1, a, vs, h2, h3⟩ := e.sl i _ h
  exact ⟨a, vs, by rw [h1, h2], h3⟩
/-- a value is stored -/
theorem ER.set (e : ER A n S H σ ρ) {i : Nat} {v : V} {d : D} (r : Rep A.K S v d) : ER A n S H (σ.set i (some v)) (ρ.set i (.val d)) := by
  refine ⟨e.f, by simp [e.len], fun j s h => ?_, fun j k ds es hne h1 h2 => ?_⟩
  · by_cases q : i = j
    · subst q
      have lt : i < ρ.length := by
        have := (List.getElem?_eq_some_iff.mp h).1
        simpa using this
      rw [List.getElem?_set_self (by rw [e.len]; exact lt)]
      rw [List.getElem?_set_self lt] at h
      cases h
      exact ⟨_, rfl, v, rfl, r⟩
    · rw [List.getElem?_set_ne q] at h ⊢
      exact e.sl j s h
  · have f1 : ∀ k ds, (ρ.set i (.val d))[k]? = some (.own ds) → i ≠ k := fun k ds h z => by
      subst z
      have lt : i < ρ.length := by
        have := (List.getElem?_eq_some_iff.mp h).1
        simpa using this
      rw [List.getElem?_set_self lt] at h
      cases h
    have g1 := f1 j ds h1
    have g2 := f1 k es h2
    rw [List.getElem?_set_ne g1] at h1 ⊢
    rw [List.getElem?_set_ne g2] at h2 ⊢
    exact e.ap j k ds es hne h1 h2
/-- forgotten -/
theorem ER.setUn (e : ER A n S H σ ρ) {i : Nat} {o : Option V} : ER A n S H (σ.set i o) (ρ.set i .un) := by
  refine ⟨e.f, by simp [e.len], fun j s h => ?_, fun j k ds es hne h1 h2 => ?_⟩
  · by_cases q : i = j
    · subst q
      have lt : i < ρ.length := by
        have := (List.getElem?_eq_some_iff.mp h).1
        simpa using this
      rw [List.getElem?_set_self (by rw [e.len]; exact lt)]
      rw [List.getElem?_set_self lt] at h
      cases h
      exact ⟨_, rfl, trivial⟩
    · rw [List.getElem?_set_ne q] at h ⊢
      exact e.sl j s h
  · have f1 : ∀ k ds, (ρ.set i .un)[k]? = some (.own ds) → i ≠ k := fun k ds h z => by
      subst z
      have lt : i < ρ.length := by
        have := (List.getElem?_eq_some_iff.mp h).1
        simpa using this
      rw [List.getElem?_set_self lt] at h
      cases h
    have g1 := f1 j ds h1
    have g2 := f1 k es h2
    rw [List.getElem?_set_ne g1] at h1 ⊢
    rw [List.getElem?_set_ne g2] at h2 ⊢
    exact e.ap j k ds es hne h1 h2
/-- a new list is stored, ours -/
theorem ER.setOwn (e : ER A n S H σ ρ) {i : Nat} {a : Addr} {vs : List V} {ds : List D} (hl : ∀ (j : Nat) (es : List D), ρ[j]? = some (.own es) → σ[j]? ≠ some (some (.ref a))) (hh : H a = some (.lst vs)) (r : Reps A.K S vs ds) (hs : S a = none) (h0 : A.H0 a = none) : ER A n S H (σ.set i (some (.ref a))) (ρ.set i (.own ds)) := by
  refine ⟨e.f, by simp [e.len], fun j s h => ?_, fun j k es es' hne h1 h2 => ?_⟩
  · by_cases q : i = j
    · subst q
      have lt : i < ρ.length := by
        have := (List.getElem?_eq_some_iff.mp h).1
        simpa using this
      rw [List.getElem?_set_self (by rw [e.len]; exact lt)]
      rw [List.getElem?_set_self lt] at h
      cases h
      exact ⟨_, rfl, a, vs, rfl, hh, r, hs, h0⟩
    · rw [List.getElem?_set_ne q] at h ⊢
      exact e.sl j s h
  · have lt : ∀ k s, (ρ.set i (.own ds))[k]? = some s → k < σ.length := fun k s h => by
      have := (List.getElem?_eq_some_iff.mp h).1
      rw [e.len]
      simpa using this
    by_cases q1 : i = j
    · subst q1
      rw [List.getElem?_set_self (lt i _ h1), List.getElem?_set_ne hne]
      rw [List.getElem?_set_ne hne] at h2
      exact fun z => hl k _ h2 z.symm
    · by_cases q2 : i = k
      · subst q2
        rw [List.getElem?_set_self (lt i _ h2), List.getElem?_set_ne q1]
        rw [List.getElem?_set_ne q1] at h1
        exact fun z => hl j _ h1 z
      · rw [List.getElem?_set_ne q1] at h1 ⊢
        rw [List.getElem?_set_ne q2] at h2 ⊢
        exact e.ap j k es es' hne h1 h2
end
/-! ### judgements over data -/
def DE (A : Amb) (te : TE) (ρ : Rho) (n : Nat) (P : D → Nat → Prop) : Prop := ∀ S H σ, ER A n S H σ ρ → ∀ Q : VK, (∀ v d S' H' n', Mv A.b S H S' H' → Fr A n' S' H' → Rep A.K S' v d → P d n' → Q v H') → te σ H Q
/-- a new list, ours -/
def DF (A : Amb) (te : TE) (ρ : Rho) (n : Nat) (P : List D → Nat → Prop) : Prop := ∀ S H σ, ER A n S H σ ρ → ∀ Q : VK,
  (∀ a vs ds S' H' n', Mv A.b S H S' H' → Fr A n' S' H' → H a = none → H' a = some (.lst vs) → S' a = none → Reps A.K S' vs ds → P ds n' → Q (.ref a) H') → te σ H Q
def DT (A : Amb) (tt : TT) (ρ : Rho) (n : Nat) (P : Bool → Nat → Prop) : Prop := ∀ S H σ, ER A n S H σ ρ → ∀ Q : Bool → Hp → Prop, (∀ b S' H' n', Mv A.b S H S' H' → Fr A n' S' H' → P b n' → Q b H') → tt σ H Q
def DA (A : Amb) (ta : TA) (ρ : Rho) (n : Nat) (P : List D → Nat → Prop) : Prop := ∀ S H σ, ER A n S H σ ρ → ∀ Q : List V → Hp → Prop, (∀ vs ds S' H' n', Mv A.b S H S' H' → Fr A n' S' H' → Reps A.K S' vs ds → P ds n' → Q vs H') → ta σ H Q
/-- our lists are where they were -/
def OwnIn (σ : L2.St) (ρ : Rho) (σ' : L2.St) (ρ' : Rho) : Prop := ∀ (j : Nat) (es : List D), ρ'[j]? = some (.own es) → ρ[j]? = some (.own es) ∧ σ'[j]? = σ[j]?
theorem OwnIn.refl {σ : L2.St} {ρ : Rho} : OwnIn σ ρ σ ρ := fun _ _ h => ⟨h, rfl⟩
theorem OwnIn.trans {σ σ1 σ2 : L2.St} {ρ ρ1 ρ2 : Rho} (a : OwnIn σ ρ σ1 ρ1) (b : OwnIn σ1 ρ1 σ2 ρ2) : OwnIn σ ρ σ2 ρ2 := fun j es h => by
  obtain ⟨h1, h2⟩ := b j es h
  obtain ⟨h3, h4⟩ := a j es h1
  exact ⟨h3, h2.trans h4⟩
theorem OwnIn.set {σ : L2.St} {ρ : Rho} {i : Nat} {o : Option V} {s : Slot} (hs : ∀ es, s ≠ .own es) : OwnIn σ ρ (σ.set i o) (ρ.set i s) := fun j es h => by
  by_cases q : i = j
  · subst q
    have lt : i < ρ.length := by
      have := (List.getElem?_eq_some_iff.mp h).1
      simpa using this
    rw [List.getElem?_set_self lt] at h
    exact absurd (Option.some.inj h) (hs es)
  · rw [List.getElem?_set_ne q] at h ⊢
    exact ⟨h, rfl⟩
def DG (A : Amb) (g : TG) (d : D) (ρ : Rho) (n : Nat) (P : Rho → Prop) : Prop := ∀ S H σ v, ER A n S H σ ρ → Rep A.K S v d → ∀ Q : L2.St → Hp → Prop, (∀ σ' ρ', ER A n S H σ' ρ' → OwnIn σ ρ σ' ρ' → P ρ' → Q σ' H) → g v σ H Q
def DGs (A : Amb) (g : TGs) (ds : List D) (ρ : Rho) (n : Nat) (P : Rho → Prop) : Prop := ∀ S H σ vs, ER A n S H σ ρ → Reps A.K S vs ds → ∀ Q : L2.St → Hp → Prop, (∀ σ' ρ', ER A n S H σ' ρ' → OwnIn σ ρ σ' ρ' → P ρ' → Q σ' H) → g vs σ H Q
structure DEnds where
  nx : Rho → Nat → Prop
  rt : D → Nat → Prop
  bk : Rho → Nat → Prop := fun _ _ => False
  ct : Rho → Nat → Prop := fun _ _ => False
structure EndsOk (A : Amb) (S : Hp) (T : DEnds) (D : Ends) : Prop where
  nx : ∀ ρ' n' S' H' σ', Ex S S' → ER A n' S' H' σ' ρ' → T.nx ρ' n' → D.nx σ' H'
  rt : ∀ v d n' S' H', Ex S S' → Fr A n' S' H' → Rep A.K S' v d → T.rt d n' → D.rt v H'
  bk : ∀ ρ' n' S' H' σ', Ex S S' → ER A n' S' H' σ' ρ' → T.bk ρ' n' → D.bk σ' H'
  ct : ∀ ρ' n' S' H' σ', Ex S S' → ER A n' S' H' σ' ρ' → T.ct ρ' n' → D.ct σ' H'
def DS (A : Amb) (ts : TS) (ρ : Rho) (n : Nat) (T : DEnds) : Prop := ∀ S H σ, ER A n S H σ ρ → ∀ D : Ends, EndsOk A S T D → ts D σ H
theorem EndsOk.on {A : Amb} {S S' : Hp} {T : DEnds} {D : Ends} (k : EndsOk A S T D) (e : Ex S S') : EndsOk A S' T D :=
  ⟨fun ρ' n' S2 H' σ' e2 => k.nx ρ' n' S2 H' σ' (e.trans e2), fun v d n' S2 H' e2 => k.rt v d n' S2 H' (e.trans e2), fun ρ' n' S2 H' σ' e2 => k.bk ρ' n' S2 H' σ' (e.trans e2), fun ρ' n' S2 H' σ' e2 => k.ct ρ' n' S2 H' σ' (e.trans e2)⟩
section
variable {A : Amb} {te ta tb : TE} {tt tu : TT} {tr : TA} {ρ : Rho} {n : Nat}
theorem DE.imp {P P' : D → Nat → Prop} (h : DE A te ρ n P) (k : ∀ d m, P d m → P' d m) : DE A te ρ n P' := fun S H σ e Q q => h S H σ e Q fun v d S' H' n' m f r p => q v d S' H' n' m f r (k d n' p)
theorem DT.imp {P P' : Bool → Nat → Prop} (h : DT A tt ρ n P) (k : ∀ d m, P d m → P' d m) : DT A tt ρ n P' := fun S H σ e Q q => h S H σ e Q fun b S' H' n' m f p => q b S' H' n' m f (k b n' p)
theorem DF.imp {P P' : List D → Nat → Prop} (h : DF A te ρ n P) (k : ∀ d m, P d m → P' d m) : DF A te ρ n P' := fun S H σ e Q q => h S H σ e Q fun a vs d S' H' n' m f h1 h2 h3 r p => q a vs d S' H' n' m f h1 h2 h3 r (k d n' p)
theorem DE.of_fresh {P : D → Nat → Prop} (h : DF A te ρ n fun ds m => P (.lst ds) m) : DE A te ρ n P := fun S H σ e Q q => h S H σ e Q fun a vs ds S' H' n' m f hn hh hs r p => by
  have h0 : A.H0 a = none := e.f.h0 hn
  have m' : Mv A.b S H (upd S' a (.lst vs)) H' := by
    refine ⟨fun x u y => ?_, fun a o x y nt => m.fr a o x y nt, m.tb, fun x y z => ?_⟩
    · have w := m.ss x u y
      rw [upd_ne (ne_of_none w hs)]; exact w
    · have ne : x ≠ a := fun w => y (by rw [w]; exact hn)
      rw [upd_ne ne]; exact m.sep x y z
  have ex : Ex S' (upd S' a (.lst vs)) := fun x u y => by rw [upd_ne (ne_of_none y hs)]; exact y
  exact q (.ref a) (.lst ds) _ H' n' m' (f.freeze hh hs h0) (Rep.lst upd_same (r.mono ex)) p
theorem de_var {i : Nat} {d : D} {P : D → Nat → Prop} (h : ρ[i]? = some (.val d)) (p : P d n) : DE A (tVar i) ρ n P := fun S H σ e Q q => by
  obtain ⟨v, h1, h2⟩ := e.val h
  exact ⟨v, h1, q v d S H n Mv.refl e.f h2 p⟩
theorem de_int {i : Int} {P : D → Nat → Prop} (p : P (.int i) n) : DE A (tC (.int i)) ρ n P := fun S H σ e Q q => q _ _ S H n Mv.refl e.f Rep.int p
theorem de_bl {i : Bool} {P : D → Nat → Prop} (p : P (.bl i) n) : DE A (tC (.bl i)) ρ n P := fun S H σ e Q q => q _ _ S H n Mv.refl e.f Rep.bl p
theorem de_str {i : Str} {P : D → Nat → Prop} (p : P (.str i) n) : DE A (tC (.str i)) ρ n P := fun S H σ e Q q => q _ _ S H n Mv.refl e.f Rep.str p
theorem de_non {P : D → Nat → Prop} (p : P .non n) : DE A (tC .non) ρ n P := fun S H σ e Q q => q _ _ S H n Mv.refl e.f Rep.non p
/-- two operands, then an operation on values -/
def DR (A : Amb) (r : R2) (x y : D) (n : Nat) (P : D → Nat → Prop) : Prop := ∀ S H v w, Fr A n S H → Rep A.K S v x → Rep A.K S w y → ∀ Q : VK, (∀ u d S' H' n', Mv A.b S H S' H' → Fr A n' S' H' → Rep A.K S' u d → P d n' → Q u H') → r v w H Q
def DRF (A : Amb) (r : R2) (x y : D) (n : Nat) (P : List D → Nat → Prop) : Prop := ∀ S H v w, Fr A n S H → Rep A.K S v x → Rep A.K S w y → ∀ Q : VK,
  (∀ a vs ds S' H' n', Mv A.b S H S' H' → Fr A n' S' H' → H a = none → H' a = some (.lst vs) → S' a = none → Reps A.K S' vs ds → P ds n' → Q (.ref a) H') → r v w H Q
theorem de_op {r : R2} {P : D → Nat → Prop} (h : DE A ta ρ n fun x n1 => DE A tb ρ n1 fun y n2 => DR A r x y n2 P) : DE A (tOp r ta tb) ρ n P := fun S H σ e Q q =>
  h S H σ e _ fun v x S1 H1 n1 m1 f1 r1 h1 => h1 S1 H1 σ (e.mv m1 f1) _ fun w y S2 H2 n2 m2 f2 r2 h2 =>
    h2 S2 H2 v w f2 (r1.mono m2.ss) r2 Q fun u d S3 H3 n3 m3 f3 r3 p => q u d S3 H3 n3 ((m1.trans f1.bt m2).trans f2.bt m3) f3 r3 p
theorem dr_I0 {g : Int → Int → V} {i j : Int} {d : D} {P : D → Nat → Prop} (hd : ∀ K S, Rep K S (g i j) d) (p : P d n) : DR A (rI0 g) (.int i) (.int j) n P := fun S H v w f r1 r2 Q q => by
  cases r1.int_inv; cases r2.int_inv
  exact ⟨i, j, rfl, rfl, q _ d S H n Mv.refl f (hd _ _) p⟩
theorem dr_I {C : Int → Int → Prop} {g : Int → Int → V} {i j : Int} {d : D} {P : D → Nat → Prop} (hd : ∀ K S, Rep K S (g i j) d) (hc : C i j) (p : P d n) : DR A (rI C g) (.int i) (.int j) n P := fun S H v w f r1 r2 Q q => by
  cases r1.int_inv; cases r2.int_inv
  exact ⟨i, j, rfl, rfl, hc, q _ d S H n Mv.refl f (hd _ _) p⟩
theorem dr_add {i j : Int} {P : D → Nat → Prop} (p : P (.int (i + j)) n) : DR A (rI0 fun i j => .int (i + j)) (.int i) (.int j) n P := dr_I0 (fun _ _ => Rep.int) p
theorem dr_sub {i j : Int} {P : D → Nat → Prop} (p : P (.int (i - j)) n) : DR A (rI0 fun i j => .int (i - j)) (.int i) (.int j) n P := dr_I0 (fun _ _ => Rep.int) p
theorem dr_lt {i j : Int} {P : D → Nat → Prop} (p : P (.bl (decide (i < j))) n) : DR A (rI0 fun i j => .bl (decide (i < j))) (.int i) (.int j) n P := dr_I0 (fun _ _ => Rep.bl) p
theorem dr_le {i j : Int} {P : D → Nat → Prop} (p : P (.bl (decide (i ≤ j))) n) : DR A (rI0 fun i j => .bl (decide (i ≤ j))) (.int i) (.int j) n P := dr_I0 (fun _ _ => Rep.bl) p
theorem dr_gt {i j : Int} {P : D → Nat → Prop} (p : P (.bl (decide (j < i))) n) : DR A (rI0 fun i j => .bl (decide (j < i))) (.int i) (.int j) n P := dr_I0 (fun _ _ => Rep.bl) p
theorem dr_ge {i j : Int} {P : D → Nat → Prop} (p : P (.bl (decide (j ≤ i))) n) : DR A (rI0 fun i j => .bl (decide (j ≤ i))) (.int i) (.int j) n P := dr_I0 (fun _ _ => Rep.bl) p
theorem dr_mul {i j : Int} {P : D → Nat → Prop} (hc : CMul i j) (p : P (.int (i * j)) n) : DR A (rI CMul fun i j => .int (i * j)) (.int i) (.int j) n P := dr_I (fun _ _ => Rep.int) hc p
theorem dr_mod {i j : Int} {P : D → Nat → Prop} (hc : 0 < j) (p : P (.int (i % j)) n) : DR A (rI (fun _ j => 0 < j) fun i j => .int (i % j)) (.int i) (.int j) n P := dr_I (C := fun _ j => 0 < j) (fun _ _ => Rep.int) hc p
/-- == of scalars -/
theorem dr_eqI {i j : Int} {P : D → Nat → Prop} (p : P (.bl (decide (i = j))) n) : DR A rEq (.int i) (.int j) n P := fun S H v w f r1 r2 Q q => by
  cases r1.int_inv; cases r2.int_inv
  refine ⟨rfl, q _ _ S H n Mv.refl f ?_ p⟩
  have e : decide ((V.int i) = V.int j) = decide (i = j) := by
    by_cases h : i = j
    · subst h; simp
    · have : ¬ (V.int i) = V.int j := fun z => h (V.int.inj z)
      rw [decide_eq_false h, decide_eq_false this]
  rw [e]; exact Rep.bl
theorem dr_neI {i j : Int} {P : D → Nat → Prop} (p : P (.bl (!decide (i = j))) n) : DR A rNe (.int i) (.int j) n P := fun S H v w f r1 r2 Q q => by
  cases r1.int_inv; cases r2.int_inv
  refine ⟨rfl, q _ _ S H n Mv.refl f ?_ p⟩
  have e : decide ((V.int i) = V.int j) = decide (i = j) := by
    by_cases h : i = j
    · subst h; simp
    · have : ¬ (V.int i) = V.int j := fun z => h (V.int.inj z)
      rw [decide_eq_false h, decide_eq_false this]
  rw [e]; exact Rep.bl
theorem dr_eqB {i j : Bool} {P : D → Nat → Prop} (p : P (.bl (i == j)) n) : DR A rEq (.bl i) (.bl j) n P := fun S H v w f r1 r2 Q q => by
  cases r1.bl_inv; cases r2.bl_inv
  refine ⟨rfl, q _ _ S H n Mv.refl f ?_ p⟩
  have e : decide ((V.bl i) = V.bl j) = (i == j) := by cases i <;> cases j <;> decide
  rw [e]; exact Rep.bl
theorem dr_neB {i j : Bool} {P : D → Nat → Prop} (p : P (.bl (i != j)) n) : DR A rNe (.bl i) (.bl j) n P := fun S H v w f r1 r2 Q q => by
  cases r1.bl_inv; cases r2.bl_inv
  refine ⟨rfl, q _ _ S H n Mv.refl f ?_ p⟩
  have e : (!decide ((V.bl i) = V.bl j)) = (i != j) := by cases i <;> cases j <;> decide
  rw [e]; exact Rep.bl
/-- args -/
theorem da_nil {P : List D → Nat → Prop} (p : P [] n) : DA A tNil ρ n P := fun S H σ e Q q => q [] [] S H n Mv.refl e.f Reps.nil p
theorem da_cons {P : List D → Nat → Prop} (h : DE A te ρ n fun d n1 => DA A tr ρ n1 fun ds n2 => P (d :: ds) n2) : DA A (tCons te tr) ρ n P := fun S H σ e Q q =>
  h S H σ e _ fun v x S1 H1 n1 m1 f1 r1 h1 => h1 S1 H1 σ (e.mv m1 f1) _ fun vs ds S2 H2 n2 m2 f2 r2 p =>
    q (v :: vs) (x :: ds) S2 H2 n2 (m1.trans f1.bt m2) f2 (Reps.cons (r1.mono m2.ss) r2) p
theorem de_tup {P : D → Nat → Prop} (h : DA A tr ρ n fun ds n1 => ds.length ≤ 100000 ∧ P (.tup ds) n1) : DE A (tTup tr) ρ n P := fun S H σ e Q q =>
  h S H σ e _ fun vs ds S1 H1 n1 m1 f1 r1 ⟨hl, p⟩ => ⟨Evl.sz_of (by rw [r1.length]; exact hl), fun t ht =>
    q (.ref t) (.tup ds) _ _ n1 (m1.trans f1.bt (Mv.new f1.sub ht)) (f1.new ht) (Rep.tup upd_same (r1.mono (Mv.new (b := A.b) f1.sub ht).ss)) p⟩
theorem df_lst {P : List D → Nat → Prop} (h : DA A tr ρ n fun ds n1 => ds.length ≤ 100000 ∧ P ds n1) : DF A (tLst tr) ρ n P := fun S H σ e Q q =>
  h S H σ e _ fun vs ds S1 H1 n1 m1 f1 r1 ⟨hl, p⟩ => ⟨Evl.sz_of (by rw [r1.length]; exact hl), fun t ht => by
    have hn0 : H t = none := by
      cases z : H t with
      | none => rfl
      | some o => exact absurd ht (m1.there f1.bt (by rw [z]; exact fun y => nomatch y))
    exact q t vs ds S1 _ n1 (m1.trans f1.bt (Mv.newO ht)) (f1.newO ht) hn0 upd_same (f1.s0 ht) r1 p⟩
/-- tests -/
theorem dt_test {P : Bool → Nat → Prop} (h : DE A te ρ n fun d m => ∃ b, d = .bl b ∧ P b m) : DT A (tTest te) ρ n P := fun S H σ e Q q =>
  h S H σ e _ fun v d S1 H1 n1 m1 f1 r1 ⟨b, hd, p⟩ => by
    subst hd
    exact ⟨b, r1.bl_inv, q b S1 H1 n1 m1 f1 p⟩
theorem dt_B {P : Bool → Nat → Prop} (h : DE A te ρ n fun d m => ∃ b, d = .bl b ∧ P b m) : DT A (tB te) ρ n P := fun S H σ e Q q =>
  h S H σ e _ fun v d S1 H1 n1 m1 f1 r1 ⟨b, hd, p⟩ => by
    subst hd
    exact ⟨b, r1.bl_inv, q b S1 H1 n1 m1 f1 p⟩
theorem dt_and {P : Bool → Nat → Prop} (h : DT A tt ρ n fun b m => if b = true then DT A tu ρ m P else P false m) : DT A (tAnd tt tu) ρ n P := fun S H σ e Q q =>
  h S H σ e _ fun b S1 H1 n1 m1 f1 p => by
    cases b with
    | true =>
      rw [if_pos rfl] at p ⊢
      exact p S1 H1 σ (e.mv m1 f1) Q fun c S2 H2 n2 m2 f2 p2 => q c S2 H2 n2 (m1.trans f1.bt m2) f2 p2
    | false =>
      rw [if_neg Bool.false_ne_true] at p ⊢
      exact q false S1 H1 n1 m1 f1 p
theorem dt_or {P : Bool → Nat → Prop} (h : DT A tt ρ n fun b m => if b = true then P true m else DT A tu ρ m P) : DT A (tOr tt tu) ρ n P := fun S H σ e Q q =>
  h S H σ e _ fun b S1 H1 n1 m1 f1 p => by
    cases b with
    | true =>
      rw [if_pos rfl] at p ⊢
      exact q true S1 H1 n1 m1 f1 p
    | false =>
      rw [if_neg Bool.false_ne_true] at p ⊢
      exact p S1 H1 σ (e.mv m1 f1) Q fun c S2 H2 n2 m2 f2 p2 => q c S2 H2 n2 (m1.trans f1.bt m2) f2 p2
theorem dt_not {P : Bool → Nat → Prop} (h : DT A tt ρ n fun b m => P (!b) m) : DT A (tNot tt) ρ n P := fun S H σ e Q q => h S H σ e _ fun b S1 H1 n1 m1 f1 p => q (!b) S1 H1 n1 m1 f1 p
theorem de_andV {P : D → Nat → Prop} (h : DE A ta ρ n fun d m => ∃ b, d = .bl b ∧ if b = true then DE A tb ρ m P else P (.bl false) m) : DE A (tAndV ta tb) ρ n P := fun S H σ e Q q =>
  h S H σ e _ fun v d S1 H1 n1 m1 f1 r1 ⟨b, hd, p⟩ => by
    subst hd
    refine ⟨b, r1.bl_inv, ?_⟩
    cases b with
    | true =>
      rw [if_pos rfl] at p ⊢
      exact p S1 H1 σ (e.mv m1 f1) Q fun v2 d2 S2 H2 n2 m2 f2 r2 p2 => q v2 d2 S2 H2 n2 (m1.trans f1.bt m2) f2 r2 p2
    | false =>
      rw [if_neg Bool.false_ne_true] at p ⊢
      exact q _ _ S1 H1 n1 m1 f1 Rep.bl p
theorem de_orV {P : D → Nat → Prop} (h : DE A ta ρ n fun d m => ∃ b, d = .bl b ∧ if b = true then P (.bl true) m else DE A tb ρ m P) : DE A (tOrV ta tb) ρ n P := fun S H σ e Q q =>
  h S H σ e _ fun v d S1 H1 n1 m1 f1 r1 ⟨b, hd, p⟩ => by
    subst hd
    refine ⟨b, r1.bl_inv, ?_⟩
    cases b with
    | true =>
      rw [if_pos rfl] at p ⊢
      exact q _ _ S1 H1 n1 m1 f1 Rep.bl p
    | false =>
      rw [if_neg Bool.false_ne_true] at p ⊢
      exact p S1 H1 σ (e.mv m1 f1) Q fun v2 d2 S2 H2 n2 m2 f2 r2 p2 => q v2 d2 S2 H2 n2 (m1.trans f1.bt m2) f2 r2 p2
theorem de_notV {P : D → Nat → Prop} (h : DE A ta ρ n fun d m => ∃ b, d = .bl b ∧ P (.bl (!b)) m) : DE A (tNotV ta) ρ n P := fun S H σ e Q q =>
  h S H σ e _ fun v d S1 H1 n1 m1 f1 r1 ⟨b, hd, p⟩ => by
    subst hd
    exact ⟨b, r1.bl_inv, q _ _ S1 H1 n1 m1 f1 Rep.bl p⟩
theorem de_if {P : D → Nat → Prop} (h : DT A tt ρ n fun b m => if b = true then DE A ta ρ m P else DE A tb ρ m P) : DE A (tIf tt ta tb) ρ n P := fun S H σ e Q q =>
  h S H σ e _ fun b S1 H1 n1 m1 f1 p => by
    cases b with
    | true =>
      rw [if_pos rfl] at p ⊢
      exact p S1 H1 σ (e.mv m1 f1) Q fun v2 d2 S2 H2 n2 m2 f2 r2 p2 => q v2 d2 S2 H2 n2 (m1.trans f1.bt m2) f2 r2 p2
    | false =>
      rw [if_neg Bool.false_ne_true] at p ⊢
      exact p S1 H1 σ (e.mv m1 f1) Q fun v2 d2 S2 H2 n2 m2 f2 r2 p2 => q v2 d2 S2 H2 n2 (m1.trans f1.bt m2) f2 r2 p2
/-- targets -/
theorem dg_name {i : Nat} {d : D} {P : Rho → Prop} (p : P (ρ.set i (.val d))) : DG A (gName i) d ρ n P := fun S H σ v e r Q q => q _ _ (e.set r) (OwnIn.set fun _ z => nomatch z) p
theorem dgs_nil {P : Rho → Prop} (p : P ρ) : DGs A gNil [] ρ n P := fun S H σ vs e r Q q => by
  unfold Reps at r
  exact ⟨r, q σ ρ e OwnIn.refl p⟩
theorem dgs_cons {g : TG} {gs : TGs} {d : D} {ds : List D} {P : Rho → Prop} (h : DG A g d ρ n fun ρ1 => DGs A gs ds ρ1 n P) : DGs A (gCons g gs) (d :: ds) ρ n P := fun S H σ vs e r Q q => by
  obtain ⟨v, r', rfl, r1, r2⟩ := r.uncons
  exact ⟨v, r', rfl, h S H σ v e r1 _ fun σ' ρ1 e1 o1 p1 => p1 S H σ' r' e1 r2 Q fun σ2 ρ2 e2 o2 p2 => q σ2 ρ2 e2 (o1.trans o2) p2⟩
end
/-! ### statements -/
section
variable {A : Amb} {te ta tb : TE} {tt tu : TT} {tr : TA} {ts us : TS} {ρ : Rho} {n : Nat} {T : DEnds}
theorem ds_next (h : T.nx ρ n) : DS A tNext ρ n T := fun S H σ e D k => k.nx ρ n S H σ (Ex.refl S) e h
theorem ds_seq (h : DS A ts ρ n { T with nx := fun ρ' m => DS A us ρ' m T }) : DS A (tSeq ts us) ρ n T := fun S H σ e D k =>
  h S H σ e _ ⟨fun ρ' n' S' H' σ' x e' p => p S' H' σ' e' D (k.on x), k.rt, k.bk, k.ct⟩
theorem ds_asg {g : TG} (h : DE A te ρ n fun d m => DG A g d ρ m fun ρ' => T.nx ρ' m) : DS A (tAsg te g) ρ n T := fun S H σ e D k =>
  h S H σ e _ fun v d S' H' n' m f r p => p S' H' σ v (e.mv m f) r _ fun σ' ρ' e' _ q => k.nx ρ' n' S' H' σ' m.ss e' q
theorem ds_set {i : Nat} (h : DE A te ρ n fun d m => T.nx (ρ.set i (.val d)) m) : DS A (tAsg te (gName i)) ρ n T := ds_asg (h.imp fun _ _ p => dg_name p)
theorem ds_setOwn {i : Nat} (h : DF A te ρ n fun ds m => T.nx (ρ.set i (.own ds)) m) : DS A (tAsg te (gName i)) ρ n T := fun S H σ e D k =>
  h S H σ e _ fun a vs ds S' H' n' m f hn hh hs r p => by
    refine k.nx _ n' S' H' _ m.ss ((e.mv m f).setOwn (fun j es hj z => ?_) hh r hs (e.f.h0 hn)) p
    obtain ⟨b, ws, h1, h2, _⟩ := e.own hj
    rw [z] at h1
    cases h1
    rw [hn] at h2; cases h2
theorem ds_ret (h : DE A te ρ n T.rt) : DS A (tRet te) ρ n T := fun S H σ e D k => h S H σ e _ fun v d S' H' n' m f r p => k.rt v d n' S' H' m.ss f r p
theorem ds_retN (h : T.rt .non n) : DS A tRetN ρ n T := fun S H σ e D k => k.rt .non .non n S H (Ex.refl S) e.f Rep.non h
/-- our list at i, frozen -/
theorem ER.frz {S H : Hp} {σ : L2.St} (e : ER A n S H σ ρ) {i : Nat} {ds : List D} (h : ρ[i]? = some (.own ds)) : ∃ a vs S', σ[i]? = some (some (.ref a)) ∧ Ex S S' ∧ Fr A n S' H ∧ Rep A.K S' (.ref a) (.lst ds) ∧ ER A n S' H σ (ρ.set i (.val (.lst ds))) ∧ S' = upd S a (.lst vs) ∧ S a = none ∧ H a = some (.lst vs) ∧ Reps A.K S vs ds ∧ A.H0 a = none := by
  obtain ⟨a, vs, h1, h2, h3, h4, h5⟩ := e.own h
  have ex : Ex S (upd S a (.lst vs)) := fun x u y => by rw [upd_ne (ne_of_none y h4)]; exact y
  have f' := e.f.freeze h2 h4 h5
  have rp : Rep A.K (upd S a (.lst vs)) (.ref a) (.lst ds) := Rep.lst upd_same (h3.mono ex)
  have li : i < ρ.length := (List.getElem?_eq_some_iff.mp h).1
  refine ⟨a, vs, _, h1, ex, f', rp, ⟨f', by simp [e.len], fun j s hj => ?_, fun j k es es' hne g1 g2 => ?_⟩, rfl, h4, h2, h3, h5⟩
  · by_cases q : i = j
    · subst q
      rw [List.getElem?_set_self li] at hj
      cases hj
      exact ⟨_, h1, _, rfl, rp⟩
    · rw [List.getElem?_set_ne q] at hj
      obtain ⟨o, x1, x2⟩ := e.sl j s hj
      refine ⟨o, x1, ?_⟩
      cases s with
      | un => trivial
      | val d => obtain ⟨v, y1, y2⟩ := x2; exact ⟨v, y1, y2.mono ex⟩
      | own es =>
        obtain ⟨b, ws, y1, y2, y3, y4, y5⟩ := x2
        refine ⟨b, ws, y1, y2, y3.mono ex, ?_, y5⟩
        have ne : b ≠ a := fun z => by
          subst z
          exact e.ap i j ds es q h hj (by rw [h1, x1, y1])
        rw [upd_ne ne]; exact y4
      | dic kvs =>
        obtain ⟨b, ks, y1, y2, y3, y4, y5⟩ := x2
        have ne : b ≠ a := fun z => by
          subst z
          rw [h2] at y2
          cases y2
        exact ⟨b, ks, y1, y2, ⟨y3.1, y3.2.mono ex⟩, by rw [upd_ne ne]; exact y4, y5⟩
      | nd kvs =>
        obtain ⟨b, ks, y1, y2, y3, y4, y5⟩ := x2
        have ne : b ≠ a := fun z => by
          subst z
          rw [h2] at y2
          cases y2
        exact ⟨b, ks, y1, y2, y3.mono ex, by rw [upd_ne ne]; exact y4, y5⟩
  · have f1 : ∀ (k : Nat) (ds' : List D), (ρ.set i (.val (.lst ds)))[k]? = some (.own ds') → i ≠ k := fun k ds' h z => by
      subst z
      rw [List.getElem?_set_self li] at h
      cases h
    have z1 := f1 j es g1
    have z2 := f1 k es' g2
    rw [List.getElem?_set_ne z1] at g1
    rw [List.getElem?_set_ne z2] at g2
    exact e.ap j k es es' hne g1 g2
/-- our list becomes a value -/
theorem ds_frz {i : Nat} {ds : List D} (hi : ρ[i]? = some (.own ds)) (h : DS A ts (ρ.set i (.val (.lst ds))) n T) : DS A ts ρ n T := fun S H σ e D k => by
  obtain ⟨a, vs, S', h1, ex, f', rp, e', _⟩ := e.frz hi
  exact h S' H σ e' D (k.on ex)
theorem ds_if (h : DT A tt ρ n fun b m => if b = true then DS A ts ρ m T else DS A us ρ m T) : DS A (tIfS tt ts us) ρ n T := fun S H σ e D k =>
  h S H σ e _ fun b S1 H1 n1 m1 f1 p => by
    cases b with
    | true =>
      rw [if_pos rfl] at p ⊢
      exact p S1 H1 σ (e.mv m1 f1) D (k.on m1.ss)
    | false =>
      rw [if_neg Bool.false_ne_true] at p ⊢
      exact p S1 H1 σ (e.mv m1 f1) D (k.on m1.ss)
theorem ds_drop (h : DE A te ρ n fun _ m => T.nx ρ m) : DS A (tDrop te) ρ n T := fun S H σ e D k => h S H σ e _ fun v d S' H' n' m f r p => k.nx ρ n' S' H' σ m.ss (e.mv m f) p
/-- a, b = x, y -/
theorem ds_par {i j : Nat} (h : DA A tr ρ n fun ds m => ∃ x y, ds = [x, y] ∧ T.nx ((ρ.set i (.val x)).set j (.val y)) m) : DS A (tPar i j tr) ρ n T := fun S H σ e D k =>
  h S H σ e _ fun vs ds S' H' n' m f r ⟨x, y, hd, p⟩ => by
    subst hd
    obtain ⟨v, r', rfl, r1, r2⟩ := r.uncons
    obtain ⟨w, r'', rfl, r3, r4⟩ := r2.uncons
    unfold Reps at r4
    subst r4
    exact ⟨v, w, rfl, k.nx _ n' S' H' _ m.ss (((e.mv m f).set r1).set r3) p⟩
/-- our list at i is written -/
theorem ER.putOwn {S H : Hp} {σ : L2.St} (e : ER A n S H σ ρ) {i : Nat} {ds ds' : List D} {a : Addr} {vs' : List V} (h : ρ[i]? = some (.own ds)) (ha : σ[i]? = some (some (.ref a))) (r : Reps A.K S vs' ds') : ER A n S (upd H a (.lst vs')) σ (ρ.set i (.own ds')) := by
  obtain ⟨a', vs, h1, h2, h3, h4, h5⟩ := e.own h
  rw [ha] at h1; cases h1
  have li : i < ρ.length := (List.getElem?_eq_some_iff.mp h).1
  refine ⟨e.f.put h4 h5 ⟨_, h2⟩, by simp [e.len], fun j s hj => ?_, fun j k es es' hne g1 g2 => ?_⟩
  · by_cases q : i = j
    · subst q
      rw [List.getElem?_set_self li] at hj
      cases hj
      exact ⟨_, ha, a, vs', rfl, upd_same, r, h4, h5⟩
    · rw [List.getElem?_set_ne q] at hj
      obtain ⟨o, x1, x2⟩ := e.sl j s hj
      refine ⟨o, x1, ?_⟩
      cases s with
      | un => trivial
      | val d => exact x2
      | own es =>
        obtain ⟨b, ws, y1, y2, y3, y4, y5⟩ := x2
        have ne : b ≠ a := fun z => by
          subst z
          exact e.ap i j ds es q h hj (by rw [ha, x1, y1])
        exact ⟨b, ws, y1, by rw [upd_ne ne]; exact y2, y3, y4, y5⟩
      | dic kvs =>
        obtain ⟨b, ks, y1, y2, y3, y4, y5⟩ := x2
        have ne : b ≠ a := fun z => by
          subst z
          rw [h2] at y2
          cases y2
        exact ⟨b, ks, y1, by rw [upd_ne ne]; exact y2, y3, y4, y5⟩
      | nd kvs =>
        obtain ⟨b, ks, y1, y2, y3, y4, y5⟩ := x2
        have ne : b ≠ a := fun z => by
          subst z
          rw [h2] at y2
          cases y2
        exact ⟨b, ks, y1, by rw [upd_ne ne]; exact y2, y3, y4, y5⟩
  · have f1 : ∀ (k : Nat) (es : List D), (ρ.set i (.own ds'))[k]? = some (.own es) → ∃ es0, ρ[k]? = some (.own es0) := fun k es h' => by
      by_cases q : i = k
      · subst q; exact ⟨ds, h⟩
      · rw [List.getElem?_set_ne q] at h'; exact ⟨es, h'⟩
    obtain ⟨x, gx⟩ := f1 j es g1
    obtain ⟨y, gy⟩ := f1 k es' g2
    exact e.ap j k x y hne gx gy
/-- xs.append(e), xs ours -/
theorem ds_app {i : Nat} {ds : List D} (hi : ρ[i]? = some (.own ds)) (h : DE A te ρ n fun d m => ds.length < 100000 ∧ T.nx (ρ.set i (.own (ds ++ [d]))) m) : DS A (tDrop (tBM A.K "list" rAppend (tVar i) (tCons te tNil))) ρ n T := fun S H σ e D k => by
  obtain ⟨a, vs, h1, h2, h3, h4, h5⟩ := e.own hi
  refine ⟨.ref a, h1, Or.inl ⟨rfl, vs, Evl.sq_of h2⟩, h S H σ e _ fun v d S' H' n' m f r ⟨hl, p⟩ => ?_⟩
  have e' := e.mv m f
  obtain ⟨a', vs', g1, g2, g3, g4, g5⟩ := e'.own hi
  rw [h1] at g1; cases g1
  refine ⟨a, vs', v, rfl, rfl, g2, Evl.sz_lt (by rw [g3.length]; exact hl), ?_⟩
  exact k.nx _ n' S' _ σ m.ss (e'.putOwn hi h1 (g3.append (Reps.one r))) p
/-- xs[j] = e, xs ours -/
theorem ds_put {i : Nat} {ds : List D} {ti : TE} (hi : ρ[i]? = some (.own ds)) (h : DE A te ρ n fun d m => DE A ti ρ m fun x m2 => ∃ j : Nat, x = .int (j : Int) ∧ j < ds.length ∧ T.nx (ρ.set i (.own (ds.set j d))) m2) : DS A (tAsg te (gSub (tVar i) ti rSetL)) ρ n T := fun S H σ e D k =>
  h S H σ e _ fun v d S' H' n' m f r h' => by
    have e' := e.mv m f
    obtain ⟨a, vs, h1, h2, h3, h4, h5⟩ := e'.own hi
    refine ⟨.ref a, h1, h' S' H' σ e' _ fun w x S2 H2 n2 m2 f2 r2 ⟨j, hx, hj, p⟩ => ?_⟩
    subst hx
    have e2 := e'.mv m2 f2
    obtain ⟨a', vs', g1, g2, g3, g4, g5⟩ := e2.own hi
    rw [h1] at g1; cases g1
    refine ⟨a, vs', (j : Int), j, rfl, r2.int_inv, g2, Evl.ixN_nat (by rw [g3.length]; exact hj), ?_⟩
    exact k.nx _ n2 S2 _ σ (m.ss.trans m2.ss) (e2.putOwn hi h1 (g3.set j (r.mono m2.ss))) p
/-- tuple(xs), xs ours -/
theorem de_tupOwn {i : Nat} {ds : List D} {P : D → Nat → Prop} (hi : ρ[i]? = some (.own ds)) (p : P (.tup ds) n) :
    DE A (tCB (fun xs H Q => ∃ p ys, xs = [.ref p] ∧ ((SqL A.K H p ys ∧ ∀ l, H l = none → Q (.ref l) (upd H l (.tup ys))) ∨ (SqT A.K H p ys ∧ Q (.ref p) H))) (tCons (tVar i) tNil)) ρ n P := fun S H σ e Q q => by
  obtain ⟨a, vs, h1, h2, h3, h4, h5⟩ := e.own hi
  refine ⟨.ref a, h1, a, vs, rfl, Or.inl ⟨Evl.sq_of h2, fun l hl => ?_⟩⟩
  exact q _ _ _ _ n (Mv.new e.f.sub hl) (e.f.new hl) (Rep.tup upd_same (h3.mono (Mv.new (b := A.b) e.f.sub hl).ss)) p
/-- tuple(e) -/
theorem de_tupOf {P : D → Nat → Prop} (h : DE A te ρ n fun d m => ∃ ds, (d = .lst ds ∨ d = .tup ds) ∧ P (.tup ds) m) :
    DE A (tCB (fun xs H Q => ∃ p ys, xs = [.ref p] ∧ ((SqL A.K H p ys ∧ ∀ l, H l = none → Q (.ref l) (upd H l (.tup ys))) ∨ (SqT A.K H p ys ∧ Q (.ref p) H))) (tCons te tNil)) ρ n P := fun S H σ e Q q =>
  h S H σ e _ fun v d S1 H1 n1 m1 f1 r1 ⟨ds, hd, p⟩ => by
    rcases hd with hd | hd
    · subst hd
      obtain ⟨a, vs, rfl, h1, h2⟩ := r1.lst_inv
      refine ⟨a, vs, rfl, Or.inl ⟨Evl.sq_of (f1.sub _ _ h1), fun l hl => ?_⟩⟩
      exact q _ _ _ _ n1 (m1.trans f1.bt (Mv.new f1.sub hl)) (f1.new hl) (Rep.tup upd_same (h2.mono (Mv.new (b := A.b) f1.sub hl).ss)) p
    · subst hd
      obtain ⟨a, vs, rfl, h1, h2⟩ := r1.tup_inv
      exact ⟨a, vs, rfl, Or.inr ⟨Evl.st_of (f1.sub _ _ h1), q _ _ S1 H1 n1 m1 f1 (Rep.tup h1 h2) p⟩⟩
/-- list(e) -/
theorem df_listOf {P : List D → Nat → Prop} (h : DE A te ρ n fun d m => ∃ ds, (d = .lst ds ∨ d = .tup ds) ∧ P ds m) :
    DF A (tCB (fun xs H Q => ∃ p ys, xs = [.ref p] ∧ (SqL A.K H p ys ∨ SqT A.K H p ys) ∧ ∀ l, H l = none → Q (.ref l) (upd H l (.lst ys))) (tCons te tNil)) ρ n P := fun S H σ e Q q =>
  h S H σ e _ fun v d S1 H1 n1 m1 f1 r1 ⟨ds, hd, p⟩ => by
    have hz : ∀ l, H1 l = none → H l = none := fun l hl => by
      cases z : H l with
      | none => rfl
      | some o => exact absurd hl (m1.there f1.bt (by rw [z]; exact fun y => nomatch y))
    rcases hd with hd | hd
    · subst hd
      obtain ⟨a, vs, rfl, h1, h2⟩ := r1.lst_inv
      refine ⟨a, vs, rfl, Or.inl (Evl.sq_of (f1.sub _ _ h1)), fun l hl => ?_⟩
      exact q l vs ds S1 _ n1 (m1.trans f1.bt (Mv.newO hl)) (f1.newO hl) (hz l hl) upd_same (f1.s0 hl) h2 p
    · subst hd
      obtain ⟨a, vs, rfl, h1, h2⟩ := r1.tup_inv
      refine ⟨a, vs, rfl, Or.inr (Evl.st_of (f1.sub _ _ h1)), fun l hl => ?_⟩
      exact q l vs ds S1 _ n1 (m1.trans f1.bt (Mv.newO hl)) (f1.newO hl) (hz l hl) upd_same (f1.s0 hl) h2 p
/-- len(e) -/
theorem de_len {P : D → Nat → Prop} (h : DE A te ρ n fun d m => ∃ ds, (d = .lst ds ∨ d = .tup ds) ∧ P (.int (ds.length : Int)) m) :
    DE A (tCB (fun xs H Q => ∃ p ys, xs = [.ref p] ∧ (SqL A.K H p ys ∨ SqT A.K H p ys) ∧ Q (.int ys.length) H) (tCons te tNil)) ρ n P := fun S H σ e Q q =>
  h S H σ e _ fun v d S1 H1 n1 m1 f1 r1 ⟨ds, hd, p⟩ => by
    rcases hd with hd | hd
    · subst hd
      obtain ⟨a, vs, rfl, h1, h2⟩ := r1.lst_inv
      refine ⟨a, vs, rfl, Or.inl (Evl.sq_of (f1.sub _ _ h1)), q _ _ S1 H1 n1 m1 f1 ?_ p⟩
      rw [h2.length]; exact Rep.int
    · subst hd
      obtain ⟨a, vs, rfl, h1, h2⟩ := r1.tup_inv
      refine ⟨a, vs, rfl, Or.inr (Evl.st_of (f1.sub _ _ h1)), q _ _ S1 H1 n1 m1 f1 ?_ p⟩
      rw [h2.length]; exact Rep.int
end
/-! ### what is walked -/
def DI (A : Amb) (wi : TI) (ρ : Rho) (n : Nat) (P : List D → Nat → Prop) : Prop := ∀ S H σ, ER A n S H σ ρ → ∀ R : It → Hp → Prop,
  (∀ (J : It) (ds : List D) (S' H' : Hp) (n' : Nat) (G : Hp → Prop) (Y : Nat → Hp → V → Hp → Prop), Mv A.b S H S' H' → Fr A n' S' H' → Walk J ds.length G Y → (∀ S2 H2 m, Ex S' S2 → Fr A m S2 H2 → G H2) →
    (∀ i S2 H2 x H3 m, i < ds.length → Ex S' S2 → Fr A m S2 H2 → Y i H2 x H3 → ∃ S3 d, ds[i]? = some d ∧ Mv A.b S2 H2 S3 H3 ∧ Fr A m S3 H3 ∧ Rep A.K S3 x d) → P ds n' → R J H') → wi σ H R
section
variable {A : Amb} {te ta tb : TE} {tt tu : TT} {tr : TA} {ts us : TS} {wi : TI} {g : TG} {ρ : Rho} {n : Nat} {T : DEnds}
theorem DI.imp {P P' : List D → Nat → Prop} (h : DI A wi ρ n P) (k : ∀ d m, P d m → P' d m) : DI A wi ρ n P' := fun S H σ e R q => h S H σ e R fun J ds S' H' n' G Y m f w a b p => q J ds S' H' n' G Y m f w a b (k ds n' p)
/-- range's ints -/
def rng (lo : Int) (k : Nat) : List D := (List.range k).map fun i : Nat => D.int (lo + (i : Int))
theorem rng_len {lo : Int} {k : Nat} : (rng lo k).length = k := by simp [rng]
theorem rng_get {lo : Int} {k i : Nat} (h : i < k) : (rng lo k)[i]? = some (.int (lo + (i : Int))) := by simp [rng, h]
theorem di_rng1 {P : List D → Nat → Prop} (h : DE A te ρ n fun d m => ∃ j : Int, d = .int j ∧ (-(2 ^ 62) ≤ j ∧ j < 2 ^ 62) ∧ P (rng 0 j.toNat) m) : DI A (iRng1 (tCons te tNil)) ρ n P := fun S H σ e R q =>
  h S H σ e _ fun v d S1 H1 n1 m1 f1 r1 ⟨j, hd, hj, p⟩ => by
    subst hd
    refine ⟨j, by rw [r1.int_inv], hj.1, hj.2, ?_⟩
    exact q _ (rng 0 j.toNat) S1 H1 n1 _ _ m1 f1 (by rw [rng_len]; exact walk_range) (fun _ _ _ _ _ => trivial) (fun i S2 H2 x H3 m hi ex f y => by
      obtain ⟨rfl, rfl⟩ := y
      rw [rng_len] at hi
      exact ⟨S2, _, rng_get hi, Mv.refl, f, Rep.int⟩) p
/-- for -/
theorem ds_for (h : DI A wi ρ n fun ds n1 => ∃ I : Nat → Rho → Nat → Prop, I 0 ρ n1 ∧ (∀ i d ρ' n', ds[i]? = some d → I i ρ' n' → DG A g d ρ' n' fun ρ2 => DS A ts ρ2 n' { T with nx := I (i + 1), ct := I (i + 1), bk := T.nx }) ∧ ∀ ρ' n', I ds.length ρ' n' → T.nx ρ' n') :
    DS A (tFor wi g ts) ρ n T := fun S H σ e D k =>
  h S H σ e _ fun J ds S1 H1 n1 G Y m1 f1 w hG hY ⟨I, i0, istep, iend⟩ =>
    for_it w (fun i σ' H' => ∃ S' ρ' n', Ex S1 S' ∧ ER A n' S' H' σ' ρ' ∧ I i ρ' n') ⟨S1, ρ, n1, Ex.refl _, e.mv m1 f1, i0⟩
      (fun i σ' H' _ ⟨S', ρ', n', ex, e', _⟩ => hG S' H' n' ex e'.f)
      (fun i x σ' H' H3 hi ⟨S', ρ', n', ex, e', p⟩ y => by
        obtain ⟨S3, d, hd, m3, f3, r3⟩ := hY i S' H' x H3 n' hi ex e'.f y
        have e3 := e'.mv m3 f3
        have st := istep i d ρ' n' hd p S3 H3 σ' x e3 r3
        refine st _ fun σ2 ρ2 e2 _ q => q S3 H3 σ2 e2 _ ⟨?_, ?_, ?_, ?_⟩
        · exact fun ρ4 n4 S4 H4 σ4 x4 e4 p4 => ⟨S4, ρ4, n4, ex.trans (m3.ss.trans x4), e4, p4⟩
        · exact fun v d4 n4 S4 H4 x4 f4 r4 p4 => k.rt v d4 n4 S4 H4 (m1.ss.trans (ex.trans (m3.ss.trans x4))) f4 r4 p4
        · exact fun ρ4 n4 S4 H4 σ4 x4 e4 p4 => k.nx ρ4 n4 S4 H4 σ4 (m1.ss.trans (ex.trans (m3.ss.trans x4))) e4 p4
        · exact fun ρ4 n4 S4 H4 σ4 x4 e4 p4 => ⟨S4, ρ4, n4, ex.trans (m3.ss.trans x4), e4, p4⟩)
      (fun σ' H' ⟨S', ρ', n', ex, e', p⟩ => k.nx ρ' n' S' H' σ' (m1.ss.trans ex) e' (iend ρ' n' p))
end
/-! ### comprehensions -/
def wipeR (ρ : Rho) : List Nat → Rho
  | [] => ρ
  | v :: vs => (wipeR ρ vs).set v .un
section
variable {A : Amb} {n : Nat} {S H : Hp} {σ : L2.St} {ρ : Rho}
theorem ER.wipe (e : ER A n S H σ ρ) : ∀ vs : List Nat, ER A n S H (wipe σ vs) (wipeR ρ vs)
  | [] => e
  | v :: vs => (ER.wipe e vs).setUn
theorem OwnIn.wipe : ∀ vs : List Nat, OwnIn σ ρ (L2.wipe σ vs) (wipeR ρ vs)
  | [] => OwnIn.refl
  | v :: vs => (OwnIn.wipe vs).trans (OwnIn.set fun _ z => nomatch z)
end
theorem wipe_set {σ : L2.St} {i : Nat} {o : Option V} : ∀ {vs : List Nat}, i ∈ vs → wipe (σ.set i o) vs = wipe σ vs
  | [], h => by simp at h
  | v :: vs, h => by
    show (wipe (σ.set i o) vs).set v none = (wipe σ vs).set v none
    by_cases e : i ∈ vs
    · rw [wipe_set e]
    · have q : i = v := (List.mem_cons.mp h).resolve_right e
      subst q
      have : ∀ (ws : List Nat), i ∉ ws → wipe (σ.set i o) ws = (wipe σ ws).set i o := by
        intro ws
        induction ws with
        | nil => intro _; rfl
        | cons w ws ih =>
          intro hn
          show (wipe (σ.set i o) ws).set w none = ((wipe σ ws).set w none).set i o
          rw [ih (fun z => hn (List.mem_cons_of_mem _ z)), List.set_comm _ _ (fun z => hn (by rw [z]; exact List.mem_cons_self))]
      rw [this vs e, List.set_set]
theorem wipe_wipe {σ : L2.St} (vs : List Nat) : wipe (wipe σ vs) vs = wipe σ vs := by
  have : ∀ (us : List Nat), (∀ u ∈ us, u ∈ vs) → wipe (wipe σ us) vs = wipe σ vs := by
    intro us
    induction us with
    | nil => intro _; rfl
    | cons u us ih =>
      intro h
      show wipe ((wipe σ us).set u none) vs = wipe σ vs
      rw [wipe_set (h u List.mem_cons_self)]
      exact ih fun x hx => h x (List.mem_cons_of_mem _ hx)
  exact this vs fun _ h => h
/-- a target that stores into vs alone -/
def GW (g : TG) (vs : List Nat) : Prop := ∀ v σ H (Q : L2.St → Hp → Prop), g v σ H Q → g v σ H fun σ' H' => wipe σ' vs = wipe σ vs ∧ Q σ' H'
def GWs (g : TGs) (vs : List Nat) : Prop := ∀ xs σ H (Q : L2.St → Hp → Prop), g xs σ H Q → g xs σ H fun σ' H' => wipe σ' vs = wipe σ vs ∧ Q σ' H'
theorem gw_name {i : Nat} {vs : List Nat} (h : i ∈ vs) : GW (gName i) vs := fun v σ H Q q => ⟨wipe_set h, q⟩
theorem gws_nil {vs : List Nat} : GWs gNil vs := fun xs σ H Q q => ⟨q.1, rfl, q.2⟩
theorem gws_cons {g : TG} {gs : TGs} {vs : List Nat} (mono : ∀ v σ H Q Q', (∀ a b, Q a b → Q' a b) → g v σ H Q → g v σ H Q') (h : GW g vs) (hs : GWs gs vs) : GWs (gCons g gs) vs := fun xs σ H Q q => by
  obtain ⟨v, r, rfl, q⟩ := q
  refine ⟨v, r, rfl, mono _ _ _ _ _ ?_ (h v σ H _ q)⟩
  rintro σ' H' ⟨q2, q1⟩
  have q3 := hs r σ' H' _ q1
  rw [q2] at q3
  exact q3
theorem gmono_name {i : Nat} : ∀ v σ H Q Q', (∀ a b, Q a b → Q' a b) → (gName i) v σ H Q → (gName i) v σ H Q' := fun v σ H Q Q' k q => k _ _ q
section
variable {A : Amb} {te ta tb : TE} {tt tu : TT} {tr : TA} {ts us : TS} {wi : TI} {g : TG} {ρ : Rho} {n : Nat} {T : DEnds}
theorem dt_yes {P : Bool → Nat → Prop} (p : P true n) : DT A tYes ρ n P := fun S H σ e Q q => q true S H n Mv.refl e.f p
/-- [e for x in xs if t] -/
theorem df_lc {vs : List Nat} {P : List D → Nat → Prop} (gw : GW g vs)
    (h : DI A wi ρ n fun ds n1 => ∃ I : Nat → List D → Nat → Prop, I 0 [] n1 ∧ ds.length ≤ 100000 ∧ (∀ i d acc n', ds[i]? = some d → acc.length ≤ i → I i acc n' →
      DG A g d (wipeR ρ vs) n' fun ρ2 => DT A tt ρ2 n' fun b n2 => if b = true then DE A te ρ2 n2 fun y n3 => I (i + 1) (acc ++ [y]) n3 else I (i + 1) acc n2) ∧ ∀ acc n', I ds.length acc n' → P acc n') :
    DF A (tLc wi g tt te vs) ρ n P := fun S H σ e Q q =>
  h S H σ e _ fun J ds S1 H1 n1 G Y m1 f1 w hG hY ⟨I, i0, hlen, istep, iend⟩ => fun L hL => by
    have hL0 : H L = none := by
      cases z : H L with
      | none => rfl
      | some o => exact absurd hL (m1.there f1.bt (by rw [z]; exact fun y => nomatch y))
    have hS1 : S1 L = none := f1.s0 hL
    have h0L : A.H0 L = none := f1.h0 hL
    have nb : some L ≠ A.b := fun z => (f1.box L z.symm).2.2 h0L
    have key : ∀ (Qd : Hp → Prop), (∀ (H' : Hp), (∃ S' n' vacc acc, Ex S1 S' ∧ Mv A.b S1 H1 S' H' ∧ Fr A n' S' H' ∧ H' L = some (.lst vacc) ∧ S' L = none ∧ Reps A.K S' vacc acc ∧ acc.length ≤ ds.length ∧ I ds.length acc n') → Qd H') →
        ∃ W : Nat → Nat → Hp → Prop, (∃ m, W 0 m (upd H1 L (.lst []))) ∧ ∀ i m H, W i m H →
      (J.stop i H ∧ Qd H) ∨ (J.go i H ∧ ∃ Nx : Hp → Prop, (∀ H', Nx H' → ∃ m', m' < m ∧ W (i + 1) m' H') ∧ ∀ x H', J.yld i H x H' → g x (wipe σ vs) H' fun σ2 H2 => wipe σ2 vs = wipe σ vs ∧ tt σ2 H2 fun b H3 =>
        if b = true then te σ2 H3 fun y H4 => ∃ acc, H4 L = some (.lst acc) ∧ acc.length < sizeLine ∧ Nx (upd H4 L (.lst (acc ++ [y]))) else Nx H3) := by
      intro Qd hd
      refine lc_it w (fun i H' => ∃ S' n' vacc acc, Ex S1 S' ∧ Mv A.b S1 H1 S' H' ∧ Fr A n' S' H' ∧ H' L = some (.lst vacc) ∧ S' L = none ∧ Reps A.K S' vacc acc ∧ acc.length ≤ i ∧ I i acc n')
        ⟨S1, n1, [], [], Ex.refl _, Mv.newO hL, f1.newO hL, upd_same, hS1, Reps.nil, Nat.le_refl _, i0⟩ (fun i H' _ ⟨S', n', _, _, ex, _, f', _⟩ => hG S' H' n' ex f') ?_ hd
      rintro i x H' H3 hi ⟨S', n', vacc, acc, ex, mv, f', hH, hS, ra, hl, p⟩ y
      obtain ⟨S3, d, hdd, m3, f3, r3⟩ := hY i S' H' x H3 n' hi ex f' y
      have e3 : ER A n' S3 H3 σ ρ := (e.mv m1 f1).mv (mv.trans f'.bt m3) f3
      have z := gw x (wipe σ vs) H3 (fun σ2 H2 => tt σ2 H2 fun b H3 =>
        if b = true then te σ2 H3 fun y H4 => ∃ acc, H4 L = some (.lst acc) ∧ acc.length < sizeLine ∧ (∃ S' n' vacc acc', Ex S1 S' ∧ Mv A.b S1 H1 S' (upd H4 L (.lst (acc ++ [y]))) ∧ Fr A n' S' (upd H4 L (.lst (acc ++ [y]))) ∧ (upd H4 L (.lst (acc ++ [y]))) L = some (.lst vacc) ∧ S' L = none ∧ Reps A.K S' vacc acc' ∧ acc'.length ≤ i + 1 ∧ I (i + 1) acc' n')
        else (∃ S' n' vacc acc', Ex S1 S' ∧ Mv A.b S1 H1 S' H3 ∧ Fr A n' S' H3 ∧ H3 L = some (.lst vacc) ∧ S' L = none ∧ Reps A.K S' vacc acc' ∧ acc'.length ≤ i + 1 ∧ I (i + 1) acc' n')) ?_
      · rw [wipe_wipe] at z
        exact z
      refine istep i d acc n' hdd hl p S3 H3 _ x (e3.wipe vs) r3 _ fun σ2 ρ2 e2 _ p2 => ?_
      refine p2 S3 H3 σ2 e2 _ fun b S4 H4 n4 m4 f4 p4 => ?_
      have nH : ∀ {S' H' S'' H'' : Hp} {v : List V}, Mv A.b S' H' S'' H'' → H' L = some (.lst v) → S' L = none → H'' L = some (.lst v) ∧ S'' L = none := fun m a b => ⟨m.fr L _ nb a, m.sep L (by rw [a]; exact fun z => nomatch z) b⟩
      have x3 := nH m3 hH hS
      have x4 := nH m4 x3.1 x3.2
      have mv3 := mv.trans f'.bt m3
      have mv4 := mv3.trans f3.bt m4
      cases b with
      | false =>
        rw [if_neg Bool.false_ne_true] at p4 ⊢
        exact ⟨S4, n4, vacc, acc, ex.trans (m3.ss.trans m4.ss), mv4, f4, x4.1, x4.2, ra.mono (m3.ss.trans m4.ss), by omega, p4⟩
      | true =>
        rw [if_pos rfl] at p4 ⊢
        refine p4 S4 H4 σ2 (e2.mv m4 f4) _ fun y dy S5 H5 n5 m5 f5 r5 p5 => ?_
        have x5 := nH m5 x4.1 x4.2
        have mv5 := mv4.trans f4.bt m5
        have exx : Ex S' S5 := m3.ss.trans (m4.ss.trans m5.ss)
        refine ⟨vacc, x5.1, Evl.sz_lt (by rw [ra.length]; omega), S5, n5, vacc ++ [y], acc ++ [dy], ex.trans exx, ?_, f5.put x5.2 h0L ⟨_, x5.1⟩, upd_same, x5.2, (ra.mono exx).append (Reps.one r5), by simp; omega, p5⟩
        refine ⟨mv5.ss, fun a o hb ha nt => ?_, fun a ps ha => ?_, mv5.sep⟩
        · rw [upd_ne (ne_of_none ha hL)]
          exact mv5.fr a o hb ha
        · rw [upd_ne (ne_of_none ha hL)]
          exact mv5.tb a ps ha
    refine key _ fun H' ⟨S', n', vacc, acc, ex, mv, f', hH, hS, ra, hl, p⟩ => ?_
    exact q L vacc acc S' H' n' (m1.trans f1.bt mv) f' hL0 hH hS ra (iend acc n' p)
end
end DL
namespace DL
open PySem PySem.Spec PyProof.Rows L2 Evl
/-! ### defs that are called where no repr runs -/
structure FnG (P : Program) (w : World) (K : PySem.W.Frag) (mg : Str → Option Value) (base : Heap) (k : Nat) (f : Addr) (fd : FuncData) (ps : List Str) (sp : Sp) : Prop where
  arity : ∀ vs H Q E, sp vs H Q E → vs.length = ps.length
  go : ∀ (A : Around), A.guards = some [] → Room k A → ∀ (outer : List Env) (s : Shared) (H : Hp), Env0 P w K mg base A outer s H →
    ∀ (args : Args) (us : List Value) (vs : List V), BindsTo s fd args (ps.zip us) → Vals vs us → ∀ (Q : VK) (E : XK), sp vs H Q E → codeAny (model P w) A (.call (.ref f) args) (CR (L2.CX P w) outer P w H s Q E) s
section
variable {P : Program} {w : World} {K : PySem.W.Frag} {mg : Str → Option Value} {base : Heap}
theorem FnG.weak {i : Nat} {f : Addr} {fd : FuncData} {ps : List Str} {sp sp' : Sp} (G : FnG P w K mg base i f fd ps sp) (h : ∀ vs H Q E, sp' vs H Q E → sp vs H Q E) : FnG P w K mg base i f fd ps sp' :=
  ⟨fun vs H Q E q => G.arity vs H Q E (h _ _ _ _ q), fun A g r o s H e0 a us vs b v Q E q => G.go A g r o s H e0 a us vs b v Q E (h _ _ _ _ q)⟩
theorem deeper_guards (A : Around) (env : Env) : (A.deeper env).guards = A.guards := by
  first
    | rfl
    | (cases A; rfl)
    | (obtain ⟨a, b, c, d, e⟩ := A; cases d <;> rfl)
/-- a def by its body -/
theorem FnG.of {x qual : Str} {st : Stmt} {f : Addr} {fd : FuncData} {N ps : List Str} {k : Nat} {sp : Sp} (F : Fun K x qual st f fd) (S : FnScope N ps (defScope st)) (ar : ∀ vs H Q E, sp vs H Q E → vs.length = ps.length)
    (body : ∀ (cdv : Value) (A : Around) (outer : List Env) (s : Shared) (H : Hp) (vs : List V) (Q : VK) (E : XK), A.guards = some [] → Room k (A.deeper (envOfC qual (defScope st) s.heap.objs.size f cdv)) → sp vs H Q E →
      ∃ t, PSs (cxOf (L2.CX P w) P w K mg base N qual (defScope st) f cdv A outer s H E) (defBody st) t ∧ t { nx := fun _ H' => Q .non H', rt := Q } (start N vs) H) : FnG P w K mg base (k + 1) f fd ps sp := by
  refine ⟨ar, fun A hg hr outer s H e0 args us vs hb r Q E hsp => ?_⟩
  -- the rule for such defs, told of this very call: any other surrounding is left aside
  obtain ⟨oc, od, kV, doc, pm, an, cdv, ct, osl, efd, lk, hcd⟩ := F.ex
  subst efd
  let sp2 : Sp := fun vs' H' Q' E' => vs' = vs ∧ H' = H ∧ Q' = Q ∧ E' = E
  have KX : K.In s.heap := e0.mod.kin.keeps fun b o e => (e0.bs b o e).1
  have lim : s.heap.NoLimit := e0.mod.nolimit.keeps fun b o e => (e0.bs b o e).1
  have hl := ar _ _ _ _ hsp
  have kinds : ∀ y ∈ ps.zip us, (defScope st).names.lookup y.1 = some .local ∨ ((defScope st).names.lookup y.1 = some .cell ∧ ((cellsFrom (s.heap.objs.size + 1) (defScope st).names []).lookup y.1).isSome = true) := by
    rintro ⟨n, v⟩ hy
    rcases S.par n (List.of_mem_zip hy).1 with q | q
    · exact Or.inl q
    · exact Or.inr ⟨q, PySem.W.cellsFrom_some _ _ _ (Or.inl q)⟩
  refine codeAny_call_function hr.depth (KX _ _ lk) rfl S.co S.gen rfl (PySem.W.codeRec_of KX hcd) ?_
  refine hb _ _ _ _ ?_
  refine wpAny_newFunctionEnv_cells S.kind kinds ?_
  intro env he s1 x
  subst he
  refine ⟨lim.keeps x.toInCall.keep, codeAny_func ?_⟩
  obtain ⟨t, ht, hq⟩ := body cdv A outer s H vs Q E hg (hr.deeper _) hsp
  have I := inv_start (CX := L2.CX P w) (E := E) (base := base) (mg := mg) S hr.hd e0 hl r x
  refine wpAny_mono (ht.run [] s1 (start N vs) H _ I hq) ?_ (fun e s' hs => hs)
  intro fl s' hs
  cases fl with
  | ret u =>
    obtain ⟨v, σ', H', J, rv, q⟩ := hs
    exact ⟨v, H', J.os, J.bare, J.base, J.hok, rv, q⟩
  | next =>
    obtain ⟨σ', H', J, q⟩ := hs
    exact ⟨V.non, H', J.os, J.bare, J.base, J.hok, rfl, q⟩
  | brk => exact (hs.elim fun _ h => h.elim fun _ h => h.2).elim
  | cont => exact (hs.elim fun _ h => h.elim fun _ h => h.2).elim
end
section
variable {X : Cx} {k n : Nat} {f : Addr} {fd : FuncData} {ps ks : List Str} {sp : Sp} {E : XK} {x : Str} {p pos : Pos} {e : Expr} {es : List Expr} {kws : List Keyword} {t tk : TA} {g : List Value → List Value → List Value} {gV : List V → List V → List V}
theorem FnG.at {pins : List (Addr × Obj)} {σ : L2.St} {H : Hp} {s : Shared} {Q : VK} {us : List Value} {vs : List V} (G : FnG X.prog X.w X.K X.mg X.base k f fd ps sp) (hg : X.A.guards = some []) (hr : Room k X.A) {args : Args} (hb : BindsTo s fd args (ps.zip us)) (hx : Passes (L2.CX X.prog X.w) X E)
    (I : Inv X pins σ H s) (r : Vals vs us) (h : sp vs H Q E) : codeAny (model X.prog X.w) X.A (.call (.ref f) args) (fun r s' => match r with | .ok (.ret u) => EP X pins σ Q u s' | .ok _ => False | .error e => X.xe e s') s := by
  refine codeAny_mono (G.go X.A hg hr X.stack s H I.env0 args us vs hb r Q E h) ?_
  rintro (e | fl) s' hq
  · exact hx pins σ H s e s' I hq
  · cases fl with
    | ret u => exact I.after hq
    | next => exact hq
    | brk => exact hq
    | cont => exact hq
/-- f(e, ..) -/
theorem pe_g (G : FnG X.prog X.w X.K X.mg X.base k f fd ps sp) (hgd : X.A.guards = some []) (hr : Room k X.A) (hm : X.mg x = some (.ref f)) (hk : PySem.W.keepIn X.K (.ref f) = true) (hb : Binds X.K fd ps []) (hx : Passes (L2.CX X.prog X.w) X E) (ha : PA X (e :: es) t) (hg : Gl X x := by rfl)
    (hdb : (x == ("__debug__" : Str)) = false := by decide) (he : starEach (e :: es) X.env = (false, eval e X.env) :: starEach es X.env := by rfl) (hpl : (backTo pos (starEach es X.env)).any (·.1) = false := by rfl) :
    PE X (.Call (.Name x p) (e :: es) [] pos) (tCall sp [] E t) := by
  constructor
  intro pins s σ H Q I h
  refine wpAny_Call_Name_kw (ld_glob I hg hm ?_ hdb)
  refine PySem.W.callWith_K (h₀ := X.base) I.ok.mod.kin hk (thn (ha.run pos pins s σ H _ I h) ?_) he hpl
  rintro us s1 ⟨vs, H1, I1, r, q⟩
  rw [List.append_nil] at q
  refine ⟨I1.kIn, wpAny_call (codeAny_mono (G.at hgd hr (us := us) ?_ hx I1 r q) ?_)⟩
  · have hl : us.length = ps.length := by rw [← r.length]; exact G.arity _ _ _ _ q
    have z := hb s1 us I1.kIn (by rw [List.append_nil]; exact hl)
    rw [List.append_nil] at z
    exact z
  · rintro (e | fl) s' hq
    · exact hq
    · cases fl <;> exact hq
/-- f(k = v, ..) -/
theorem pe_gK0 (G : FnG X.prog X.w X.K X.mg X.base k f fd ps sp) (hgd : X.A.guards = some []) (hr : Room k X.A) (hm : X.mg x = some (.ref f)) (hk : PySem.W.keepIn X.K (.ref f) = true) (hb : KBinds X.K fd ps ks g gV) (hx : Passes (L2.CX X.prog X.w) X E)
    (hkw : PK X kws tk) (hg : Gl X x := by rfl) (hall : (backToKw pos (keywordEach kws X.env)).all (·.1.isSome) = true := by rfl) (hks : (backToKw pos (keywordEach kws X.env)).filterMap (·.1) = ks := by rfl)
    (hdb : (x == ("__debug__" : Str)) = false := by decide)
    (hpl : ((backTo pos (starEach [] X.env)).any (·.1) || (backToKw pos (keywordEach kws X.env)).any (·.1.isNone)) = false := by rfl) :
    PE X (.Call (.Name x p) [] kws pos) (tCallK sp gV E tNil tk) := by
  constructor
  intro pins s σ H Q I h
  refine wpAny_Call_Name_kw (ld_glob I hg hm ?_ hdb)
  refine PySem.W.callWith_KW0 (h₀ := X.base) I.ok.mod.kin hk hall ?_ hpl
  refine thn (hkw.run pos pins s σ H _ I h) ?_
  rintro ws s2 ⟨zs, H2, I2, rz, q2⟩
  refine ⟨I2.kIn, ?_⟩
  rw [hks]
  have r2 := hb.rel .nil rz
  have hl : (g [] ws).length = ps.length := by rw [← r2.length]; exact G.arity _ _ _ _ q2
  refine wpAny_call (codeAny_mono (G.at hgd hr (us := g [] ws) (hb.to s2 [] ws I2.kIn hl) hx I2 r2 q2) ?_)
  rintro (e | fl) s' hq
  · exact hq
  · cases fl <;> exact hq
end
end DL
namespace DL
open PySem PySem.Spec PyProof.Rows L2 Evl
/-! ### promises over data -/
/-- box, arguments, budget, what is wanted of the result, of what is raised -/
abbrev DCon := Option Addr → List D → Nat → (D → Nat → Prop) → (Addr → List (Str × V) → Prop) → Prop
def BoxAt (b : Option Addr) (n : Nat) (S H : Hp) : Prop := ∀ a, b = some a → BoxOk n H a ∧ S a = none
def spOf (K : PySem.W.Frag) (k : Nat) (C : DCon) : Sp := fun vs H Q E => ∃ (b : Option Addr) (S : Hp) (ds : List D) (n : Nat) (P : D → Nat → Prop) (PX : Addr → List (Str × V) → Prop),
  (Ex S H ∧ TabK K S H) ∧ BoxAt b n S H ∧ Reps K S vs ds ∧ ds.length = k ∧ C b ds n P PX ∧
  (∀ v d S' H' n', Mv b S H S' H' → (Ex S' H' ∧ TabK K S' H') → BoxAt b n' S' H' → Rep K S' v d → P d n' → Q v H') ∧
  (∀ c fs dd S' H' n', Mv b S H S' H' → (Ex S' H' ∧ TabK K S' H') → BoxAt b n' S' H' → S' dd = some (.xd fs) → PX c fs → E (.ref c) (some dd) H')
theorem spOf_len {K : PySem.W.Frag} {k : Nat} {C : DCon} {vs : List V} {H : Hp} {Q : VK} {E : XK} (h : spOf K k C vs H Q E) : vs.length = k := by
  obtain ⟨b, S, ds, n, P, PX, _, _, r, hl, _⟩ := h
  rw [r.length, hl]
/-- what the surroundings of a body take -/
def XOk (A : Amb) : Prop := ∀ c fs dd S' H' n', Fr A n' S' H' → S' dd = some (.xd fs) → A.PX c fs → A.E (.ref c) (some dd) H'
def rho0 (ds : List D) (m : Nat) : Rho := ds.map Slot.val ++ List.replicate (m - ds.length) Slot.un
theorem er_start {A : Amb} {n : Nat} {vs : List V} {ds : List D} {N : List Str} (f : Fr A n A.S0 A.H0) (r : Reps A.K A.S0 vs ds) : ER A n A.S0 A.H0 (L2.start N vs) (rho0 ds N.length) := by
  have hl := r.length
  have noOwn : ∀ (i : Nat) (es : List D), (rho0 ds N.length)[i]? = some (.own es) → False := fun i es h => by
    unfold rho0 at h
    by_cases q : i < ds.length
    · rw [List.getElem?_append_left (by simpa using q), List.getElem?_map] at h
      cases e : ds[i]? with
      | none => rw [e] at h; cases h
      | some d => rw [e] at h; cases h
    · rw [List.getElem?_append_right (by simpa using q), List.getElem?_replicate] at h
      split at h <;> cases h
  refine ⟨f, by simp [L2.start, rho0, hl], fun i s h => ?_, fun i j es _ _ h => (noOwn i es h).elim⟩
  unfold rho0 at h
  unfold L2.start
  by_cases q : i < ds.length
  · rw [List.getElem?_append_left (by simpa using q), List.getElem?_map] at h
    cases e : ds[i]? with
    | none => rw [e] at h; cases h
    | some d =>
      rw [e] at h; cases h
      obtain ⟨v, hv, rv⟩ := r.get e
      refine ⟨some v, ?_, v, rfl, rv⟩
      rw [List.getElem?_append_left (by simp [hl]; exact q), List.getElem?_map, hv]; rfl
  · rw [List.getElem?_append_right (by simpa using q), List.getElem?_replicate] at h
    split at h
    · cases h
      refine ⟨none, ?_, trivial⟩
      rw [List.getElem?_append_right (by simp [hl]; omega), List.getElem?_replicate]
      rw [if_pos (by simp [hl] at *; omega)]
    · cases h
/-- a body keeps its promise -/
theorem body_of {K : PySem.W.Frag} {k : Nat} {C : DCon} {N : List Str} {t : TS} {vs : List V} {H : Hp} {Q : VK} {E : XK} (h : spOf K k C vs H Q E)
    (hb : ∀ (A : Amb) (ds : List D) (n : Nat) (P : D → Nat → Prop), A.K = K → A.E = E → XOk A → ds.length = k → C A.b ds n P A.PX → DS A t (rho0 ds N.length) n { nx := fun _ m => P .non m, rt := P }) :
    t { nx := fun _ H' => Q .non H', rt := Q } (L2.start N vs) H := by
  obtain ⟨b, S, ds, n, P, PX, hs, hbx, r, hl, hc, hq, hx⟩ := h
  have f : Fr ⟨K, b, S, H, E, PX⟩ n S H := ⟨hs.1, Mv.refl, fun a e => ⟨(hbx a e).1, (hbx a e).2, (hbx a e).1.ne⟩, hs.2⟩
  have toBx : ∀ {n' S' H'}, Fr ⟨K, b, S, H, E, PX⟩ n' S' H' → BoxAt b n' S' H' := fun f a e => ⟨(f.box a e).1, (f.box a e).2.1⟩
  refine hb ⟨K, b, S, H, E, PX⟩ ds n P rfl rfl (fun c fs dd S' H' n' f' e p => hx c fs dd S' H' n' f'.mv ⟨f'.sub, f'.tab⟩ (toBx f') e p) hl hc S H _ (er_start (A := ⟨K, b, S, H, E, PX⟩) f r) _ ⟨?_, ?_, ?_, ?_⟩
  · exact fun ρ' n' S' H' σ' _ e p => hq .non .non S' H' n' e.f.mv ⟨e.f.sub, e.f.tab⟩ (toBx e.f) Rep.non p
  · exact fun v d n' S' H' _ f' rv p => hq v d S' H' n' f'.mv ⟨f'.sub, f'.tab⟩ (toBx f') rv p
  · exact fun _ _ _ _ _ _ _ p => p.elim
  · exact fun _ _ _ _ _ _ _ p => p.elim
section
variable {A : Amb} {te ta tb : TE} {tt tu : TT} {tr tk : TA} {ρ : Rho} {n k : Nat} {C : DCon}
theorem call_at {S H : Hp} {vs : List V} {ds : List D} {P : D → Nat → Prop} {Q : VK} {E : XK} (f : Fr A n S H) (r : Reps A.K S vs ds) (hl : ds.length = k) {PX : Addr → List (Str × V) → Prop} (hc : C A.b ds n P PX)
    (q : ∀ v d S' H' n', Mv A.b S H S' H' → Fr A n' S' H' → Rep A.K S' v d → P d n' → Q v H')
    (hx : ∀ c fs dd S' H' n', Fr A n' S' H' → S' dd = some (.xd fs) → PX c fs → E (.ref c) (some dd) H') : spOf A.K k C vs H Q E := by
  have mk : ∀ {n' S' H'}, Mv A.b S H S' H' → (Ex S' H' ∧ TabK A.K S' H') → BoxAt A.b n' S' H' → Fr A n' S' H' := fun {n' S' H'} m ex bx =>
    ⟨ex.1, f.mv.trans f.bt m, fun a e => ⟨(bx a e).1, (bx a e).2, (f.box a e).2.2⟩, ex.2⟩
  exact ⟨A.b, S, ds, n, P, PX, ⟨f.sub, f.tab⟩, fun a e => ⟨(f.box a e).1, (f.box a e).2.1⟩, r, hl, hc,
    fun v d S' H' n' m ex bx rv p => q v d S' H' n' m (mk m ex bx) rv p, fun c fs dd S' H' n' m ex bx e p => hx c fs dd S' H' n' (mk m ex bx) e p⟩
/-- f(..), it raises nothing -/
theorem de_call0 {P : D → Nat → Prop} {E : XK} (h : DA A tr ρ n fun ds m => ds.length = k ∧ C A.b ds m P fun _ _ => False) : DE A (tCall (spOf A.K k C) [] E tr) ρ n P := fun S H σ e Q q =>
  h S H σ e _ fun vs ds S1 H1 n1 m1 f1 r1 ⟨hl, hc⟩ => by
    rw [List.append_nil]
    exact call_at f1 r1 hl hc (fun v d S' H' n' m f rv p => q v d S' H' n' (m1.trans f1.bt m) f rv p) fun _ _ _ _ _ _ _ _ z => z.elim
/-- how keywords put values in order, on data -/
def Puts (gV : List V → List V → List V) (gD : List D → List D → List D) : Prop := ∀ K S vs ds ws es, Reps K S vs ds → Reps K S ws es → Reps K S (gV vs ws) (gD ds es)
theorem de_callK0 {P : D → Nat → Prop} {gV : List V → List V → List V} {E : XK} (gD : List D → List D → List D) (pg : Puts gV gD) (h : DA A tr ρ n fun ds m => DA A tk ρ m fun es m2 => (gD ds es).length = k ∧ C A.b (gD ds es) m2 P fun _ _ => False) :
    DE A (tCallK (spOf A.K k C) gV E tr tk) ρ n P := fun S H σ e Q q =>
  h S H σ e _ fun vs ds S1 H1 n1 m1 f1 r1 h1 => h1 S1 H1 σ (e.mv m1 f1) _ fun ws es S2 H2 n2 m2 f2 r2 ⟨hl, hc⟩ =>
    call_at f2 (pg _ _ _ _ _ _ (r1.mono m2.ss) r2) hl hc (fun v d S' H' n' m f rv p => q v d S' H' n' ((m1.trans f1.bt m2).trans f2.bt m) f rv p) fun _ _ _ _ _ _ _ _ z => z.elim
/-! ### more operations on values -/
theorem dr_ixN {d : D} {ds : List D} {j : Nat} {x : D} {P : D → Nat → Prop} (hd : d = .lst ds ∨ d = .tup ds) (hj : ds[j]? = some x) (p : P x n) : DR A (rIx A.K) d (.int (j : Int)) n P := fun S H v w f r1 r2 Q q => by
  cases r2.int_inv
  rcases hd with hd | hd
  · subst hd
    obtain ⟨a, vs, rfl, h1, h2⟩ := r1.lst_inv
    obtain ⟨u, hu, ru⟩ := h2.get hj
    exact Or.inl ⟨a, vs, (j : Int), u, rfl, rfl, Evl.sq_of (f.sub _ _ h1), atI_nat hu, q u x S H n Mv.refl f ru p⟩
  · subst hd
    obtain ⟨a, vs, rfl, h1, h2⟩ := r1.tup_inv
    obtain ⟨u, hu, ru⟩ := h2.get hj
    exact Or.inr (Or.inl ⟨a, vs, (j : Int), u, rfl, rfl, Evl.st_of (f.sub _ _ h1), atI_nat hu, q u x S H n Mv.refl f ru p⟩)
/-- at the index i, in bounds -/
theorem dr_ix {d : D} {ds : List D} {i : Int} {x : D} {P : D → Nat → Prop} (hd : d = .lst ds ∨ d = .tup ds) (h0 : 0 ≤ i) (hj : ds[i.toNat]? = some x) (p : P x n) : DR A (rIx A.K) d (.int i) n P := by
  have e : i = (i.toNat : Int) := by omega
  rw [e]
  exact dr_ixN hd hj p
/-- our list at a place -/
theorem de_ixOwn {i : Nat} {ds : List D} {P : D → Nat → Prop} (hi : ρ[i]? = some (.own ds)) (h : DE A tb ρ n fun d m => ∃ (j : Nat) (x : D), d = .int (j : Int) ∧ ds[j]? = some x ∧ P x m) : DE A (tOp (rIx A.K) (tVar i) tb) ρ n P := fun S H σ e Q q => by
  obtain ⟨a, vs, h1, h2, h3, h4, h5⟩ := e.own hi
  refine ⟨.ref a, h1, h S H σ e _ fun w d S1 H1 n1 m1 f1 r1 ⟨j, x, hd, hj, p⟩ => ?_⟩
  subst hd
  cases r1.int_inv
  obtain ⟨a', vs', g1, g2, g3, _⟩ := (e.mv m1 f1).own hi
  rw [h1] at g1; cases g1
  obtain ⟨u, hu, ru⟩ := g3.get hj
  exact Or.inl ⟨a, vs', (j : Int), u, rfl, rfl, Evl.sq_of g2, atI_nat hu, q u x S1 H1 n1 m1 f1 ru p⟩
/-- xs + ys, lists -/
theorem drf_cat {xs ys : List D} {P : List D → Nat → Prop} (hl : xs.length + ys.length ≤ 100000) (p : P (xs ++ ys) n) : DRF A rCat (.lst xs) (.lst ys) n P := fun S H v w f r1 r2 Q q => by
  obtain ⟨a, vs, rfl, h1, h2⟩ := r1.lst_inv
  obtain ⟨b, ws, rfl, h3, h4⟩ := r2.lst_inv
  refine ⟨a, b, vs, ws, rfl, rfl, f.sub _ _ h1, f.sub _ _ h3, Evl.sz_of (by rw [h2.length, h4.length]; exact hl), fun l hl => ?_⟩
  exact q l _ _ S _ n (Mv.newO hl) (f.newO hl) hl upd_same (f.s0 hl) (h2.append h4) p
theorem de_chain {r r' : R2} {tc : TE} {P : D → Nat → Prop} (h : DE A ta ρ n fun x n1 => DE A tb ρ n1 fun y n2 => DR A r x y n2 fun z n3 => ∃ b, z = .bl b ∧ if b = true then DE A tc ρ n3 (fun z2 n4 => DR A r' y z2 n4 P) else P (.bl false) n3) :
    DE A (tChain r r' ta tb tc) ρ n P := fun S H σ e Q q =>
  h S H σ e _ fun v x S1 H1 n1 m1 f1 r1 h1 => h1 S1 H1 σ (e.mv m1 f1) _ fun w y S2 H2 n2 m2 f2 r2 h2 =>
    h2 S2 H2 v w f2 (r1.mono m2.ss) r2 _ fun u z S3 H3 n3 m3 f3 r3 ⟨b, hz, p⟩ => by
      subst hz
      have m12 := (m1.trans f1.bt m2).trans f2.bt m3
      refine ⟨b, r3.bl_inv, ?_⟩
      cases b with
      | true =>
        rw [if_pos rfl] at p ⊢
        exact p S3 H3 σ (e.mv m12 f3) _ fun w4 z2 S4 H4 n4 m4 f4 r4 p4 => p4 S4 H4 w w4 f4 (r2.mono (m3.ss.trans m4.ss)) r4 Q fun u5 d5 S5 H5 n5 m5 f5 r5 p5 => q u5 d5 S5 H5 n5 ((m12.trans f3.bt m4).trans f4.bt m5) f5 r5 p5
      | false =>
        rw [if_neg Bool.false_ne_true] at p ⊢
        exact q _ _ S3 H3 n3 m12 f3 Rep.bl p
end
end DL
namespace DL
open PySem PySem.Spec PyProof.Rows L2 Evl
/-! ### rules for lists and tuples alike -/
section
variable {X : Cx} {pos : Pos} {tg : Expr}
def gSeq (K : PySem.W.Frag) (n : Nat) (t : TGs) : TG := fun v σ H Q => gTup K n t v σ H Q ∨ gUnl K n t v σ H Q
theorem pg_seq {es : List Expr} {k : Nat} {t : TGs} {n : Nat} (hc : X.calm = true) (h : PGs X es t) (hn : (assignEach es X.env).length = n := by rfl) (hst : (assignEach es X.env).findIdx? (·.1) = none := by rfl) : PG X (.Tuple es k pos) (gSeq X.K n t) := by
  constructor
  intro pins s σ H v u Q I r hw
  rcases hw with hw | hw
  · exact (pg_tup hc h hn hst).run pins s σ H v u Q I r hw
  · exact (pg_unl hc h hn hst).run pins s σ H v u Q I r hw
def iSeq (K : PySem.W.Frag) (tl : TE) : TI := fun σ H R => tl σ H fun x H1 => ∃ a, x = .ref a ∧ ((∃ xs, SqL K H1 a xs) ∧ R (Itl K a) H1 ∨ (∃ xs, SqT K H1 a xs) ∧ R (Itt K a) H1)
theorem pi_seq {l : Expr} {tl : TE} (hl : PE X l tl) : PI X tg l (iSeq X.K tl) := by
  constructor
  intro pins s σ H R I h
  refine thn (hl.run pins s σ H _ I h) ?_
  rintro v s1 ⟨x, H1, I1, r1, a, rfl, hq⟩
  cases r1
  have fp : ∀ b ∈ [s1.heap.objs.size], FpOk X pins H1 b := fun b hb => by
    obtain rfl : b = s1.heap.objs.size := by simpa using hb
    exact I1.fpOk (Nat.le_refl _) (I1.hok.fresh (Nat.le_refl _))
  rcases hq with ⟨⟨xs, hq⟩, q⟩ | ⟨⟨xs, hq⟩, q⟩
  · obtain ⟨its, rv, p, hz⟩ := I1.list hq
    refine wpAny_pyIter_list p.isList ⟨s1.heap.objs.size, [s1.heap.objs.size], _, _, H1, rfl, ?_, turn_list a _, ⟨_, Heap.get?_push_size _ rfl, rfl, rfl⟩, fp, q⟩
    exact I1.kept (t' := s1.toks) fun b o e => Heap.get?_push_of_some _ e
  · obtain ⟨its, rv, p, hz⟩ := I1.tuple hq
    refine wpAny_pyIter_tuple (show s1.heap.IsTuple a its.toArray from p) ⟨s1.heap.objs.size, [s1.heap.objs.size], _, _, H1, rfl, ?_, turn_tuple a _, ⟨_, Heap.get?_push_size _ rfl, rfl, rfl⟩, fp, q⟩
    exact I1.kept (t' := s1.toks) fun b o e => Heap.get?_push_of_some _ e
/-- + of ints, lists, tuples, texts -/
def rPlus (K : PySem.W.Frag) : R2 := fun x y H Q => rI0 (fun i j => .int (i + j)) x y H Q ∨ rCat x y H Q ∨ rCatA K x y H Q ∨ (∃ i j, x = .str i ∧ y = .str j ∧ i.length + j.length ≤ sizeLine ∧ Q (.str (i ++ j)) H)
theorem op_plus : OpR X (binaryOp .Add) (rPlus X.K) := op_add.or (op_cat.or (op_catA.or op_add_str))
/-- * of ints; a list repeated -/
def rTimes : R2 := fun x y H Q => rI CMul (fun i j => .int (i * j)) x y H Q ∨ rI CMulW (fun i j => .int (i * j)) x y H Q ∨ rRep x y H Q
theorem op_times : OpR X (binaryOp .Mult) rTimes := op_mul.or (op_mulW.or op_rep)
/-- a[lo:hi] -/
def rSlice (K : PySem.W.Frag) : V → Option Int → Option Int → Hp → VK → Prop := fun x lo hi H Q => rSlL K x lo hi H Q ∨ rSlA K x lo hi H Q
theorem sl_or {r r' : V → Option Int → Option Int → Hp → VK → Prop} (h : SlR X r) (h' : SlR X r') : SlR X (fun x lo hi H Q => r x lo hi H Q ∨ r' x lo hi H Q) := by
  intro pins s σ H x v vl vu lo hi sl Q I rx hs pl pu q
  rcases q with q | q
  · exact h pins s σ H x v vl vu lo hi sl Q I rx hs pl pu q
  · exact h' pins s σ H x v vl vu lo hi sl Q I rx hs pl pu q
theorem sl_seq : SlR X (rSlice X.K) := sl_or sl_list sl_tupA
end
/-! ### the same on data -/
section
variable {A : Amb} {te ta tb : TE} {tt tu : TT} {tr tk : TA} {ts : TS} {wi : TI} {g : TG} {ρ : Rho} {n k : Nat} {T : DEnds}
theorem dg_seq {gs : TGs} {d : D} {ds : List D} {k : Nat} {P : Rho → Prop} (hd : d = .lst ds ∨ d = .tup ds) (hk : ds.length = k) (h : DGs A gs ds ρ n P) : DG A (gSeq A.K k gs) d ρ n P := fun S H σ v e r Q q => by
  rcases hd with hd | hd
  · subst hd
    obtain ⟨a, vs, rfl, h1, h2⟩ := r.lst_inv
    exact Or.inr ⟨a, vs, rfl, Evl.sq_of (e.f.sub _ _ h1), by rw [h2.length]; exact hk, h S H σ vs e h2 Q q⟩
  · subst hd
    obtain ⟨a, vs, rfl, h1, h2⟩ := r.tup_inv
    exact Or.inl ⟨a, vs, rfl, Evl.st_of (e.f.sub _ _ h1), by rw [h2.length]; exact hk, h S H σ vs e h2 Q q⟩
theorem gw_seq {K : PySem.W.Frag} {gs : TGs} {vs : List Nat} {k : Nat} (hs : GWs gs vs) : GW (gSeq K k gs) vs := fun v σ H Q q => by
  rcases q with ⟨a, xs, e, h1, h2, q⟩ | ⟨a, xs, e, h1, h2, q⟩
  · exact Or.inl ⟨a, xs, e, h1, h2, hs xs σ H Q q⟩
  · exact Or.inr ⟨a, xs, e, h1, h2, hs xs σ H Q q⟩
theorem di_seq {P : List D → Nat → Prop} (h : DE A te ρ n fun d m => ∃ ds, (d = .lst ds ∨ d = .tup ds) ∧ P ds m) : DI A (iSeq A.K te) ρ n P := fun S H σ e R q =>
  h S H σ e _ fun v d S1 H1 n1 m1 f1 r1 ⟨ds, hd, p⟩ => by
    rcases hd with hd | hd
    · subst hd
      obtain ⟨a, vs, rfl, h1, h2⟩ := r1.lst_inv
      refine ⟨a, rfl, Or.inl ⟨⟨vs, Evl.sq_of (f1.sub _ _ h1)⟩, q _ ds S1 H1 n1 _ _ m1 f1 (by rw [← h2.length]; exact walk_list) (fun S2 H2 m x f => Evl.sq_of ((x.trans f.sub) _ _ h1)) (fun i S2 H2 x H3 m hi ex f y => ?_) p⟩⟩
      obtain ⟨rfl, hx⟩ := y
      obtain ⟨d, g1, g2⟩ := h2.getV hx
      exact ⟨S2, d, g1, Mv.refl, f, g2.mono ex⟩
    · subst hd
      obtain ⟨a, vs, rfl, h1, h2⟩ := r1.tup_inv
      refine ⟨a, rfl, Or.inr ⟨⟨vs, Evl.st_of (f1.sub _ _ h1)⟩, q _ ds S1 H1 n1 _ _ m1 f1 (by rw [← h2.length]; exact walk_tup) (fun S2 H2 m x f => Evl.st_of ((x.trans f.sub) _ _ h1)) (fun i S2 H2 x H3 m hi ex f y => ?_) p⟩⟩
      obtain ⟨rfl, hx⟩ := y
      obtain ⟨d, g1, g2⟩ := h2.getV hx
      exact ⟨S2, d, g1, Mv.refl, f, g2.mono ex⟩
theorem DR.of_fresh {r : R2} {x y : D} {P : D → Nat → Prop} (h : DRF A r x y n fun ds m => P (.lst ds) m) : DR A r x y n P := fun S H v w f r1 r2 Q q =>
  h S H v w f r1 r2 Q fun a vs ds S' H' n' m f' hn hh hs r p => by
    have h0 : A.H0 a = none := f.h0 hn
    have ex : Ex S' (upd S' a (.lst vs)) := fun x u y => by rw [upd_ne (ne_of_none y hs)]; exact y
    have m' : Mv A.b S H (upd S' a (.lst vs)) H' := by
      refine ⟨m.ss.trans ex, fun a o x y nt => m.fr a o x y nt, m.tb, fun x y z => ?_⟩
      have ne : x ≠ a := fun w => y (by rw [w]; exact hn)
      rw [upd_ne ne]; exact m.sep x y z
    exact q (.ref a) (.lst ds) _ H' n' m' (f'.freeze hh hs h0) (Rep.lst upd_same (r.mono ex)) p
theorem dr_plusI {i j : Int} {P : D → Nat → Prop} (p : P (.int (i + j)) n) : DR A (rPlus A.K) (.int i) (.int j) n P := fun S H v w f r1 r2 Q q => Or.inl (dr_add p S H v w f r1 r2 Q q)
theorem dr_plusL {xs ys : List D} {P : D → Nat → Prop} (hl : xs.length + ys.length ≤ 100000) (p : P (.lst (xs ++ ys)) n) : DR A (rPlus A.K) (.lst xs) (.lst ys) n P := fun S H v w f r1 r2 Q q =>
  Or.inr (Or.inl (DR.of_fresh (drf_cat (P := fun ds m => P (.lst ds) m) hl p) S H v w f r1 r2 Q q))
theorem dr_plusS {i j : Str} {P : D → Nat → Prop} (hl : i.length + j.length ≤ 100000) (p : P (.str (i ++ j)) n) : DR A (rPlus A.K) (.str i) (.str j) n P := fun S H v w f r1 r2 Q q => by
  cases r1.str_inv; cases r2.str_inv
  exact Or.inr (Or.inr (Or.inr ⟨i, j, rfl, rfl, Evl.sz_of hl, q _ _ S H n Mv.refl f Rep.str p⟩))
theorem dr_timesI {i j : Int} {P : D → Nat → Prop} (hc : CMul i j) (p : P (.int (i * j)) n) : DR A rTimes (.int i) (.int j) n P := fun S H v w f r1 r2 Q q => Or.inl (dr_mul hc p S H v w f r1 r2 Q q)
theorem Reps.rep {K : PySem.W.Frag} {S : Hp} {vs : List V} {ds : List D} (r : Reps K S vs ds) : ∀ m : Nat, Reps K S (List.replicate m vs).flatten (List.replicate m ds).flatten
  | 0 => by simpa using Reps.nil
  | m + 1 => by
    rw [List.replicate_succ, List.replicate_succ, List.flatten_cons, List.flatten_cons]
    exact r.append (Reps.rep r m)
end
end DL
namespace DL
open PySem PySem.Spec PyProof.Rows L2 Evl
end DL
namespace DL
open PySem PySem.Spec PyProof.Rows L2 Evl
/-! ### the rules with the written part named -/
section
variable {X : Cx} {pos : Pos} {tg : Expr}
theorem kx_ix (K : PySem.W.Frag) (h : X.K = K := by rfl) : IxR X (rIx K) := h ▸ ix_seq
theorem kx_plus (K : PySem.W.Frag) (h : X.K = K := by rfl) : OpR X (binaryOp .Add) (rPlus K) := h ▸ op_plus
theorem kx_sl (K : PySem.W.Frag) (h : X.K = K := by rfl) : SlR X (rSlice K) := h ▸ sl_seq
def rLen (K : PySem.W.Frag) : List V → Hp → VK → Prop := fun xs H Q => ∃ p ys, xs = [.ref p] ∧ (SqL K H p ys ∨ SqT K H p ys) ∧ Q (.int ys.length) H
theorem kx_len (K : PySem.W.Frag) (h : X.K = K := by rfl) : CallR X (.builtin "len") (rLen K) := h ▸ call_len_seq
def rList (K : PySem.W.Frag) : List V → Hp → VK → Prop := fun xs H Q => ∃ p ys, xs = [.ref p] ∧ (SqL K H p ys ∨ SqT K H p ys) ∧ ∀ l, H l = none → Q (.ref l) (upd H l (.lst ys))
theorem kx_list (K : PySem.W.Frag) (h : X.K = K := by rfl) : CallR X (.type "list") (rList K) := h ▸ call_list_of
def rTuple (K : PySem.W.Frag) : List V → Hp → VK → Prop := fun xs H Q => ∃ p ys, xs = [.ref p] ∧ ((SqL K H p ys ∧ ∀ l, H l = none → Q (.ref l) (upd H l (.tup ys))) ∨ (SqT K H p ys ∧ Q (.ref p) H))
theorem kx_tuple (K : PySem.W.Frag) (h : X.K = K := by rfl) : CallR X (.type "tuple") (rTuple K) := h ▸ call_tuple_of
theorem kx_all (K : PySem.W.Frag) (hc : X.calm = true := by rfl) (h : X.K = K := by rfl) : CallR X (.builtin "all") (rAll K) := h ▸ cr_all hc
theorem kx_isi (K : PySem.W.Frag) (h : X.K = K := by rfl) : CallR X (.builtin "isinstance") (rIsi K) := h ▸ call_isi
theorem kx_isiT (K : PySem.W.Frag) (h : X.K = K := by rfl) : CallR X (.builtin "isinstance") (rIsiT K) := h ▸ call_isiT
theorem kp_seq (K : PySem.W.Frag) {l : Expr} {tl : TE} (hl : PE X l tl) (h : X.K = K := by rfl) : PI X tg l (iSeq K tl) := h ▸ pi_seq hl
theorem kg_seq (K : PySem.W.Frag) {es : List Expr} {k : Nat} {t : TGs} {n : Nat} (hc : X.calm = true) (h : PGs X es t) (hK : X.K = K := by rfl) (hn : (assignEach es X.env).length = n := by rfl) (hst : (assignEach es X.env).findIdx? (·.1) = none := by rfl) : PG X (.Tuple es k pos) (gSeq K n t) := hK ▸ pg_seq hc h hn hst
theorem kp_zip (K : PySem.W.Frag) {e e2 : Expr} {ta : TA} {p tpos : Pos} {elts : List Expr} {kk : Nat} (hm : X.mg "zip" = none) (ha : PA X [e, e2] ta) (hg : Gl X "zip" := by rfl) (h : X.K = K := by rfl) (hs : starEach [e, e2] X.env = (false, eval e X.env) :: starEach [e2] X.env := by rfl) (hpl : (backTo pos (starEach [e2] X.env)).any (·.1) = false := by rfl) :
    PI X (.Tuple elts kk tpos) (.Call (.Name "zip" p) [e, e2] [] pos) (RZ.iZipA K ta) := h ▸ RZ.pi_zipA hg hm ha hs hpl
/-- == and != of scalars or of data -/
def rEqA (K : PySem.W.Frag) : R2 := fun x y H Q => rEq x y H Q ∨ rEqD K x y H Q
def rNeA (K : PySem.W.Frag) : R2 := fun x y H Q => rNe x y H Q ∨ rNeD K x y H Q
theorem kx_eq (K : PySem.W.Frag) (hu : X.A.units + 64 < cLine) (h : X.K = K := by rfl) : OpR X (compareOp .Eq) (rEqA K) := h ▸ op_eq.or (op_eqD hu)
theorem kx_ne (K : PySem.W.Frag) (hu : X.A.units + 64 < cLine) (h : X.K = K := by rfl) : OpR X (compareOp .NotEq) (rNeA K) := h ▸ op_ne.or (op_neD hu)
end
mutual
def toP : D → PyData
  | .non => .none
  | .bl b => .bool b
  | .int i => .int i
  | .str s => .str s
  | .lst xs => .list (toPs xs)
  | .tup xs => .tuple (toPs xs)
  | .raw _ => .none
  | .exc _ _ => .none
  | .dct _ _ => .none
def toPs : List D → List PyData
  | [] => []
  | d :: ds => toP d :: toPs ds
end
mutual
/-- data all through -/
def pureD : D → Bool
  | .raw _ => false
  | .exc _ _ => false
  | .dct _ _ => false
  | .lst xs => pureDs xs
  | .tup xs => pureDs xs
  | _ => true
def pureDs : List D → Bool
  | [] => true
  | d :: ds => pureD d && pureDs ds
end
mutual
theorem rep_dp {K : PySem.W.Frag} {S H : Hp} (ex : Ex S H) : ∀ (d : D) (v : V), pureD d = true → Rep K S v d → Dp K H v (toP d)
  | .non, _, _, r => by rw [r.non_inv]; exact Dp.non
  | .bl b, _, _, r => by rw [r.bl_inv]; exact Dp.bl b
  | .int b, _, _, r => by rw [r.int_inv]; exact Dp.int b
  | .str b, _, _, r => by rw [r.str_inv]; exact Dp.str b
  | .lst xs, _, h, r => by
    obtain ⟨a, vs, rfl, h1, h2⟩ := r.lst_inv
    exact Dp.lst (Evl.sq_of (ex _ _ h1)) (reps_dp ex xs vs h h2)
  | .tup xs, _, h, r => by
    obtain ⟨a, vs, rfl, h1, h2⟩ := r.tup_inv
    exact Dp.tup (Evl.st_of (ex _ _ h1)) (reps_dp ex xs vs h h2)
  | .raw _, _, h, _ => nomatch h
  | .exc _ _, _, h, _ => nomatch h
  | .dct _ _, _, h, _ => nomatch h
theorem reps_dp {K : PySem.W.Frag} {S H : Hp} (ex : Ex S H) : ∀ (ds : List D) (vs : List V), pureDs ds = true → Reps K S vs ds → DpAll K H vs (toPs ds)
  | [], _, _, r => by
    unfold Reps at r
    subst r
    exact DpAll.nil
  | d :: ds, _, h, r => by
    obtain ⟨v, r', rfl, r1, r2⟩ := r.uncons
    have hh : pureD d = true ∧ pureDs ds = true := Bool.and_eq_true_iff.mp h
    exact DpAll.cons (rep_dp ex d v hh.1 r1) (reps_dp ex ds r' hh.2 r2)
end
/-- may be compared, and shown -/
def okD (d : D) : Bool := pureD d && SeqAt.shaped (toP d)
section
variable {A : Amb} {te ta tb : TE} {tt tu : TT} {tr tk : TA} {ts : TS} {wi : TI} {g : TG} {ρ : Rho} {n k : Nat} {T : DEnds}
theorem dr_eqAI {i j : Int} {P : D → Nat → Prop} (p : P (.bl (decide (i = j))) n) : DR A (rEqA A.K) (.int i) (.int j) n P := fun S H v w f r1 r2 Q q => Or.inl (dr_eqI p S H v w f r1 r2 Q q)
theorem dr_neAI {i j : Int} {P : D → Nat → Prop} (p : P (.bl (!decide (i = j))) n) : DR A (rNeA A.K) (.int i) (.int j) n P := fun S H v w f r1 r2 Q q => Or.inl (dr_neI p S H v w f r1 r2 Q q)
theorem dr_eqAB {i j : Bool} {P : D → Nat → Prop} (p : P (.bl (i == j)) n) : DR A (rEqA A.K) (.bl i) (.bl j) n P := fun S H v w f r1 r2 Q q => Or.inl (dr_eqB p S H v w f r1 r2 Q q)
theorem dr_neAB {i j : Bool} {P : D → Nat → Prop} (p : P (.bl (i != j)) n) : DR A (rNeA A.K) (.bl i) (.bl j) n P := fun S H v w f r1 r2 Q q => Or.inl (dr_neB p S H v w f r1 r2 Q q)
theorem dr_eqAD {x y : D} {P : D → Nat → Prop} (hx : okD x = true) (hy : okD y = true) (p : P (.bl (PyData.eqv (toP x) (toP y))) n) : DR A (rEqA A.K) x y n P := fun S H v w f r1 r2 Q q => by
  have a := Bool.and_eq_true_iff.mp hx
  have b := Bool.and_eq_true_iff.mp hy
  exact Or.inr ⟨toP x, toP y, rep_dp f.sub x v a.1 r1, rep_dp f.sub y w b.1 r2, a.2, b.2, q _ _ S H n Mv.refl f Rep.bl p⟩
theorem dr_neAD {x y : D} {P : D → Nat → Prop} (hx : okD x = true) (hy : okD y = true) (p : P (.bl (!PyData.eqv (toP x) (toP y))) n) : DR A (rNeA A.K) x y n P := fun S H v w f r1 r2 Q q => by
  have a := Bool.and_eq_true_iff.mp hx
  have b := Bool.and_eq_true_iff.mp hy
  exact Or.inr ⟨toP x, toP y, rep_dp f.sub x v a.1 r1, rep_dp f.sub y w b.1 r2, a.2, b.2, q _ _ S H n Mv.refl f Rep.bl p⟩
/-- the same data -/
theorem dr_eqSame {x : D} {P : D → Nat → Prop} (hx : okD x = true) (p : P (.bl true) n) : DR A (rEqA A.K) x x n P := dr_eqAD hx hx (by
  have a := (Bool.and_eq_true_iff.mp hx).2
  rw [SeqAt.eqv_refl _ (SeqAt.canLay_of_shaped a)]
  exact p)
theorem dr_eqAS {i j : Str} {P : D → Nat → Prop} (p : P (.bl (decide (i = j))) n) : DR A (rEqA A.K) (.str i) (.str j) n P := fun S H v w f r1 r2 Q q => by
  cases r1.str_inv; cases r2.str_inv
  refine Or.inl ⟨rfl, q _ _ S H n Mv.refl f ?_ p⟩
  have e : decide ((V.str i) = V.str j) = decide (i = j) := by
    by_cases h : i = j
    · subst h; simp
    · have : ¬ (V.str i) = V.str j := fun z => h (V.str.inj z)
      rw [decide_eq_false h, decide_eq_false this]
  rw [e]; exact Rep.bl
theorem dr_neAS {i j : Str} {P : D → Nat → Prop} (p : P (.bl (!decide (i = j))) n) : DR A (rNeA A.K) (.str i) (.str j) n P := fun S H v w f r1 r2 Q q => by
  cases r1.str_inv; cases r2.str_inv
  refine Or.inl ⟨rfl, q _ _ S H n Mv.refl f ?_ p⟩
  have e : decide ((V.str i) = V.str j) = decide (i = j) := by
    by_cases h : i = j
    · subst h; simp
    · have : ¬ (V.str i) = V.str j := fun z => h (V.str.inj z)
      rw [decide_eq_false h, decide_eq_false this]
  rw [e]; exact Rep.bl
/-- all(e), of bools -/
theorem de_all {P : D → Nat → Prop} (h : DE A te ρ n fun d m => ∃ bs : List Bool, d = .lst (bs.map D.bl) ∧ P (.bl (bs.all id)) m) : DE A (tCB (rAll A.K) (tCons te tNil)) ρ n P := fun S H σ e Q q =>
  h S H σ e _ fun v d S1 H1 n1 m1 f1 r1 ⟨bs, hd, p⟩ => by
    subst hd
    obtain ⟨a, vs, rfl, h1, h2⟩ := r1.lst_inv
    rw [h2.bls] at h1
    exact ⟨a, bs, rfl, Evl.sq_of (f1.sub _ _ h1), q _ _ S1 H1 n1 m1 f1 Rep.bl p⟩
/-- abs, max, min, int -/
theorem de_abs {P : D → Nat → Prop} (h : DE A te ρ n fun d m => ∃ i, d = .int i ∧ P (.int (if i < 0 then -i else i)) m) : DE A (tCB (fun xs H Q => ∃ i, xs = [.int i] ∧ Q (.int (if i < 0 then -i else i)) H) (tCons te tNil)) ρ n P := fun S H σ e Q q =>
  h S H σ e _ fun v d S1 H1 n1 m1 f1 r1 ⟨i, hd, p⟩ => by
    subst hd
    exact ⟨i, by rw [r1.int_inv], q _ _ S1 H1 n1 m1 f1 Rep.int p⟩
theorem de_max2 {P : D → Nat → Prop} (h : DE A ta ρ n fun d m => DE A tb ρ m fun d2 m2 => ∃ i j, d = .int i ∧ d2 = .int j ∧ P (.int (max i j)) m2) : DE A (tCB (fun xs H Q => ∃ i j, xs = [.int i, .int j] ∧ Q (.int (if j > i then j else i)) H) (tCons ta (tCons tb tNil))) ρ n P := fun S H σ e Q q =>
  h S H σ e _ fun v d S1 H1 n1 m1 f1 r1 h1 => h1 S1 H1 σ (e.mv m1 f1) _ fun w d2 S2 H2 n2 m2 f2 r2 ⟨i, j, hd, hd2, p⟩ => by
    subst hd hd2
    refine ⟨i, j, by rw [r1.int_inv, r2.int_inv], q _ _ S2 H2 n2 (m1.trans f1.bt m2) f2 ?_ p⟩
    have e1 : (if j > i then j else i) = max i j := by
      by_cases c : j > i
      · rw [if_pos c]; omega
      · rw [if_neg c]; omega
    rw [e1]
    exact Rep.int
theorem de_min2 {P : D → Nat → Prop} (h : DE A ta ρ n fun d m => DE A tb ρ m fun d2 m2 => ∃ i j, d = .int i ∧ d2 = .int j ∧ P (.int (min i j)) m2) : DE A (tCB (fun xs H Q => ∃ i j, xs = [.int i, .int j] ∧ Q (.int (if j < i then j else i)) H) (tCons ta (tCons tb tNil))) ρ n P := fun S H σ e Q q =>
  h S H σ e _ fun v d S1 H1 n1 m1 f1 r1 h1 => h1 S1 H1 σ (e.mv m1 f1) _ fun w d2 S2 H2 n2 m2 f2 r2 ⟨i, j, hd, hd2, p⟩ => by
    subst hd hd2
    refine ⟨i, j, by rw [r1.int_inv, r2.int_inv], q _ _ S2 H2 n2 (m1.trans f1.bt m2) f2 ?_ p⟩
    have e1 : (if j < i then j else i) = min i j := by
      by_cases c : j < i
      · rw [if_pos c]; omega
      · rw [if_neg c]; omega
    rw [e1]
    exact Rep.int
theorem de_intB {P : D → Nat → Prop} (h : DE A te ρ n fun d m => ∃ k, d = .bl k ∧ P (.int (if k then 1 else 0)) m) : DE A (tCB (fun xs H Q => (∃ i, xs = [.int i] ∧ Q (.int i) H) ∨ ∃ k, xs = [.bl k] ∧ Q (.int (if k then 1 else 0)) H) (tCons te tNil)) ρ n P := fun S H σ e Q q =>
  h S H σ e _ fun v d S1 H1 n1 m1 f1 r1 ⟨i, hd, p⟩ => by
    subst hd
    exact Or.inr ⟨i, by rw [r1.bl_inv], q _ _ S1 H1 n1 m1 f1 Rep.int p⟩
theorem de_isN {P : D → Nat → Prop} (h : DE A ta ρ n fun d m => P (.bl (match d with | .non => true | .raw v => decide (v = .non) | _ => false)) m) : DE A (tOp (fun x y H Q => y = .non ∧ Q (.bl (decide (x = .non))) H) ta (tC .non)) ρ n P := fun S H σ e Q q =>
  h S H σ e _ fun v d S1 H1 n1 m1 f1 r1 p => by
    refine ⟨rfl, q _ _ S1 H1 n1 m1 f1 ?_ p⟩
    cases d with
    | non => rw [r1.non_inv]; exact Rep.bl
    | bl b => rw [r1.bl_inv]; exact Rep.bl
    | int b => rw [r1.int_inv]; exact Rep.bl
    | str b => rw [r1.str_inv]; exact Rep.bl
    | lst b => obtain ⟨a, vs, rfl, _⟩ := r1.lst_inv; exact Rep.bl
    | tup b => obtain ⟨a, vs, rfl, _⟩ := r1.tup_inv; exact Rep.bl
    | raw u => rw [r1.raw_inv]; exact Rep.bl
    | exc C fs =>
      have r := r1
      unfold Rep at r
      obtain ⟨a, d, rfl, _⟩ := r
      exact Rep.bl
    | dct ks ds =>
      have r := r1
      unfold Rep at r
      obtain ⟨a, d, rfl, _⟩ := r
      exact Rep.bl
end
end DL
namespace DL
open PySem PySem.Spec PyProof.Rows L2 Evl
theorem take_one_more {α : Type} : ∀ {l : List α} {i : Nat} {x : α}, l[i]? = some x → l.take (i + 1) = l.take i ++ [x]
  | [], i, x, h => by simp at h
  | a :: l, 0, x, h => by simp at h; subst h; rfl
  | a :: l, i + 1, x, h => by
    rw [List.take_succ_cons, List.take_succ_cons, take_one_more (l := l) (i := i) (x := x) (by simpa using h)]
    rfl
section
variable {A : Amb} {te ta tb : TE} {tt tt1 : TT} {wi wi1 : TI} {g g1 : TG} {ρ : Rho} {n : Nat} {ts : TS} {T : DEnds}
/-- [F x for x in xs if b x] -/
theorem df_fm {vs : List Nat} {P : List D → Nat → Prop} {α : Type} (xs : List α) (b : α → Bool) (F : α → D) (gw : GW g vs) (hx : xs.length ≤ 100000)
    (h : DI A wi ρ n fun ds n1 => ds.length = xs.length ∧ (∀ (i : Nat) (d : D) (x : α), ds[i]? = some d → xs[i]? = some x →
      DG A g d (wipeR ρ vs) n1 fun ρ2 => DT A tt ρ2 n1 fun c m => m = n1 ∧ c = b x ∧ (b x = true → DE A te ρ2 n1 fun y m2 => m2 = n1 ∧ y = F x)) ∧ P ((xs.filter b).map F) n1) :
    DF A (tLc wi g tt te vs) ρ n P := df_lc gw (h.imp fun ds n1 ⟨hl, hs, hp⟩ => ⟨fun i acc m => acc = ((xs.take i).filter b).map F ∧ m = n1, ⟨rfl, rfl⟩, by omega, by
      rintro i d acc m hd hle ⟨rfl, rfl⟩
      have hi : i < xs.length := by rw [← hl]; exact (List.getElem?_eq_some_iff.mp hd).1
      have ex : xs[i]? = some xs[i] := by simp [hi]
      have st := hs i d xs[i] hd ex
      intro S H σ v e r Q q
      refine st S H σ v e r Q fun σ' ρ' e' o p => q σ' ρ' e' o (p.imp ?_)
      rintro c m ⟨rfl, rfl, hy⟩
      have tk := take_one_more ex
      cases hb : b xs[i] with
      | true =>
        rw [if_pos rfl]
        refine (hy hb).imp ?_
        rintro y m2 ⟨rfl, rfl⟩
        exact ⟨by rw [tk, List.filter_append]; simp [hb], rfl⟩
      | false =>
        rw [if_neg Bool.false_ne_true]
        exact ⟨by rw [tk, List.filter_append]; simp [hb], rfl⟩, by
      rintro acc m ⟨rfl, rfl⟩
      rw [hl, List.take_length]
      exact hp⟩)
/-- [F x for x in xs] -/
theorem df_map {vs : List Nat} {P : List D → Nat → Prop} {α : Type} (xs : List α) (F : α → D) (gw : GW g vs) (hx : xs.length ≤ 100000)
    (h : DI A wi ρ n fun ds n1 => ds.length = xs.length ∧ (∀ (i : Nat) (d : D) (x : α), ds[i]? = some d → xs[i]? = some x →
      DG A g d (wipeR ρ vs) n1 fun ρ2 => DE A te ρ2 n1 fun y m2 => m2 = n1 ∧ y = F x) ∧ P (xs.map F) n1) :
    DF A (tLc wi g tYes te vs) ρ n P := df_fm xs (fun _ => true) F gw hx (h.imp fun ds n1 ⟨hl, hs, hp⟩ => ⟨hl, fun i d x hd hx => by
      intro S H σ v e r Q q
      exact hs i d x hd hx S H σ v e r Q fun σ' ρ' e' o p => q σ' ρ' e' o (dt_yes ⟨rfl, rfl, fun _ => p⟩), by
      have : xs.filter (fun _ => true) = xs := by simp
      rw [this]
      exact hp⟩)
theorem flat_len {α : Type} {f : α → List D} (hf : ∀ x, (f x).length ≤ 300) : ∀ (l : List α), (l.flatMap f).length ≤ l.length * 300
  | [] => by simp
  | a :: l => by
    have := flat_len hf l
    have := hf a
    simp only [List.flatMap_cons, List.length_append, List.length_cons]
    omega
end
end DL
namespace DL
open PySem PySem.Spec PyProof.Rows L2 Evl
section
variable {A : Amb} {te ta tb tc : TE} {tt tt1 : TT} {wi wi1 : TI} {g g1 : TG} {tr : TA} {ρ : Rho} {n : Nat} {ts : TS} {T : DEnds}
/-- x, y = [], [] : both ours -/
theorem ds_parNil {i j : Nat} (hij : i ≠ j) (hi : i < ρ.length) (hj : j < ρ.length) (h : T.nx ((ρ.set i (.own [])).set j (.own [])) n) : DS A (tPar i j (tCons (tLst tNil) (tCons (tLst tNil) tNil))) ρ n T := fun S H σ e D k => by
  refine ⟨Nat.zero_le _, fun a ha => ⟨Nat.zero_le _, fun b hb => ⟨.ref a, .ref b, rfl, ?_⟩⟩⟩
  have fa := e.f.newO (o := .lst []) ha
  have ea : ER A n S (upd H a (.lst [])) σ ρ := e.mv (Mv.newO ha) fa
  have e1 := ea.setOwn (i := i) (vs := []) (ds := []) (fun j es hj z => by
    obtain ⟨b, ws, h1, h2, _⟩ := e.own hj
    rw [z] at h1; cases h1
    rw [ha] at h2; cases h2) upd_same Reps.nil (e.f.s0 ha) (e.f.h0 ha)
  have fb := fa.newO (o := .lst []) hb
  have e2 : ER A n S (upd (upd H a (.lst [])) b (.lst [])) (σ.set i (some (.ref a))) (ρ.set i (.own [])) := e1.mv (Mv.newO hb) fb
  have nab : b ≠ a := fun z => by rw [z, upd_same] at hb; cases hb
  have e3 := e2.setOwn (i := j) (vs := []) (ds := []) (fun j' es hj' z => by
    obtain ⟨b', ws, h1, h2, _⟩ := e1.own hj'
    rw [z] at h1; cases h1
    rw [hb] at h2; cases h2) upd_same Reps.nil (fa.s0 hb) (fa.h0 hb)
  exact k.nx _ n S _ _ (Ex.refl S) e3 h
/-- a pair of ints, a tuple -/
def pr (p : Int × Int) : D := .tup [.int p.1, .int p.2]
def prL (p : Int × Int) : D := .lst [.int p.1, .int p.2]
/-! ### isinstance -/
def tyN : D → String
  | .non => "NoneType"
  | .bl _ => "bool"
  | .int _ => "int"
  | .str _ => "str"
  | .lst _ => "list"
  | .tup _ => "tuple"
  | _ => ""
def isiB (d : D) (t : String) : Bool := tyN d == t || (tyN d == "bool" && t == "int")
/-- a value whose class is told -/
def plainD : D → Bool
  | .raw _ => false
  | .exc _ _ => false
  | .dct _ _ => false
  | _ => true
theorem tyx_of {K : PySem.W.Frag} {S H : Hp} {v : V} {d : D} (ex : Ex S H) (h : plainD d = true) (r : Rep K S v d) : TyX K H v (.type (tyN d)) := by
  cases d with
  | non => rw [r.non_inv]; exact .base .non
  | bl b => rw [r.bl_inv]; exact .base (.bl b)
  | int b => rw [r.int_inv]; exact .base (.int b)
  | str b => rw [r.str_inv]; exact .base (.str b)
  | lst b => obtain ⟨a, vs, rfl, h1, _⟩ := r.lst_inv; exact .base (.lst (ex _ _ h1))
  | tup b => obtain ⟨a, vs, rfl, h1, _⟩ := r.tup_inv; exact .base (.tup (ex _ _ h1))
  | raw u => cases h
  | exc C fs => cases h
  | dct ks ds => cases h
def knownT (t : String) : Bool := t == "list" || t == "tuple" || t == "int" || t == "str" || t == "bool"
def tyNames : List String := ["NoneType", "bool", "int", "str", "list", "tuple"]
def askNames : List String := ["list", "tuple", "int", "str", "bool"]
theorem kit_table : (tyNames.all fun a => askNames.all fun t => kitB a t == some (a == t || (a == "bool" && t == "int"))) = true := by decide +kernel
theorem tyN_in {d : D} (h : plainD d = true) : tyN d ∈ tyNames := by
  cases d <;> first
    | (simp [tyN, tyNames]; done)
    | cases h
theorem kit_known {K : PySem.W.Frag} {d : D} {t : String} (h : plainD d = true) (ht : knownT t = true) : PySem.W.kitOne K (.type (tyN d)) (.type t) = some (isiB d t) := by
  have hm : t ∈ askNames := by
    unfold knownT at ht
    simp only [Bool.or_eq_true, beq_iff_eq] at ht
    rcases ht with (((h | h) | h) | h) | h <;> subst h <;> simp [askNames]
  have q := List.all_eq_true.mp (List.all_eq_true.mp kit_table (tyN d) (tyN_in h)) t hm
  exact kit_ty (eq_of_beq q)
theorem de_isi {t : String} {P : D → Nat → Prop} (ht : knownT t = true) (h : DE A te ρ n fun d m => plainD d = true ∧ P (.bl (isiB d t)) m) : DE A (tCB (rIsi A.K) (tCons te (tCons (tC (.ty t)) tNil))) ρ n P := fun S H σ e Q q =>
  h S H σ e _ fun v d S1 H1 n1 m1 f1 r1 ⟨hd, p⟩ => ⟨v, .ty t, .type (tyN d), .type t, isiB d t, rfl, .ty t, tyx_of f1.sub hd r1, kit_known hd ht, q _ _ S1 H1 n1 m1 f1 Rep.bl p⟩
theorem de_isi2 {t u : String} {P : D → Nat → Prop} (ht : knownT t = true) (hu : knownT u = true) (h : DE A te ρ n fun d m => plainD d = true ∧ P (.bl (isiB d t || isiB d u)) m) :
    DE A (tCB (rIsiT A.K) (tCons te (tCons (tTup (tCons (tC (.ty t)) (tCons (tC (.ty u)) tNil))) tNil))) ρ n P := fun S H σ e Q q =>
  h S H σ e _ fun v d S1 H1 n1 m1 f1 r1 ⟨hd, p⟩ => ⟨by show 2 ≤ sizeLine; decide, fun tp htp => by
    have ex : Ex S1 (upd H1 tp (.tup [V.ty t, V.ty u])) := fun a o z => by rw [upd_ne (ne_of_none (f1.sub a o z) htp)]; exact f1.sub a o z
    refine ⟨v, tp, [V.ty t, V.ty u], .type (tyN d), [.type t, .type u], isiB d t || isiB d u, rfl, upd_same, .cons (.ty t) (.cons (.ty u) .nil), tyx_of ex hd r1, ?_, ?_⟩
    · refine kitAny_cons (kit_known hd ht) (fun e1 => ?_) fun e1 => by rw [e1]; rfl
      refine kitAny_cons (kit_known hd hu) (fun e2 => ?_) fun e2 => by rw [e2]; simp
      rw [e1, e2]
      exact kitAny_nil
    · exact q _ _ S1 _ n1 (m1.trans f1.bt (Mv.newO htp)) (f1.newO htp) Rep.bl p⟩
/-! ### zip -/
theorem di_zip {P : List D → Nat → Prop} (h : DE A ta ρ n fun d m => DE A tb ρ m fun d2 m2 => ∃ xs ys, ((d = .lst xs ∧ d2 = .lst ys) ∨ (d = .tup xs ∧ d2 = .tup ys)) ∧ P ((xs.zip ys).map fun p => D.tup [p.1, p.2]) m2) : DI A (RZ.iZipA A.K (tCons ta (tCons tb tNil))) ρ n P := fun S H σ e R q =>
  h S H σ e _ fun v d S1 H1 n1 m1 f1 r1 h1 => h1 S1 H1 σ (e.mv m1 f1) _ fun w d2 S2 H2 n2 m2 f2 r2 ⟨xs, ys, hd, p⟩ => by
    have r1' := r1.mono m2.ss
    have fin : ∀ (vs ws : List V), Reps A.K S2 vs xs → Reps A.K S2 ws ys → ∀ i S3 H3 x H4 m, i < ((xs.zip ys).map fun p => D.tup [p.1, p.2]).length → Ex S2 S3 → Fr A m S3 H3 → YPair (fun i => vs[i]?) (fun i => ws[i]?) i H3 x H4 →
        ∃ S4 d, ((xs.zip ys).map fun p => D.tup [p.1, p.2])[i]? = some d ∧ Mv A.b S3 H3 S4 H4 ∧ Fr A m S4 H4 ∧ Rep A.K S4 x d := by
      rintro vs ws rv rw' i S3 H3 x H4 m hi ex f3 ⟨t, x1, x2, rfl, ht, rfl, e1, e2⟩
      obtain ⟨d1, hd1, rd1⟩ := rv.getV e1
      obtain ⟨d2, hd2, rd2⟩ := rw'.getV e2
      refine ⟨_, .tup [d1, d2], ?_, Mv.new f3.sub ht, f3.new ht, Rep.tup upd_same (Reps.cons (rd1.mono (ex.trans (Mv.new (b := A.b) f3.sub ht).ss)) (Reps.one (rd2.mono (ex.trans (Mv.new (b := A.b) f3.sub ht).ss))))⟩
      rw [List.getElem?_map, show (xs.zip ys)[i]? = some (d1, d2) from List.getElem?_zip_eq_some.mpr ⟨hd1, hd2⟩]
      rfl
    rcases hd with ⟨hd, hd2⟩ | ⟨hd, hd2⟩
    · subst hd hd2
      obtain ⟨a, vs, rfl, a1, a2⟩ := r1'.lst_inv
      obtain ⟨b, ws, rfl, b1, b2⟩ := r2.lst_inv
      refine ⟨a, b, vs, ws, rfl, Or.inl ⟨Evl.sq_of (f2.sub _ _ a1), Evl.sq_of (f2.sub _ _ b1), q _ _ S2 H2 n2 _ _ (m1.trans f1.bt m2) f2 (walk_zip (by simp [a2.length, b2.length])) (fun S3 H3 m ex f => ⟨Evl.sq_of ((ex.trans f.sub) _ _ a1), Evl.sq_of ((ex.trans f.sub) _ _ b1)⟩) (fin vs ws a2 b2) p⟩⟩
    · subst hd hd2
      obtain ⟨a, vs, rfl, a1, a2⟩ := r1'.tup_inv
      obtain ⟨b, ws, rfl, b1, b2⟩ := r2.tup_inv
      refine ⟨a, b, vs, ws, rfl, Or.inr ⟨Evl.st_of (f2.sub _ _ a1), Evl.st_of (f2.sub _ _ b1), q _ _ S2 H2 n2 (fun H => SqT A.K H a vs ∧ SqT A.K H b ws) _ (m1.trans f1.bt m2) f2 ?_ (fun S3 H3 m ex f => ⟨Evl.st_of ((ex.trans f.sub) _ _ a1), Evl.st_of ((ex.trans f.sub) _ _ b1)⟩) (fin vs ws a2 b2) p⟩⟩
      have hl : ((xs.zip ys).map fun p => D.tup [p.1, p.2]).length = min vs.length ws.length := by simp [a2.length, b2.length]
      rw [hl]
      refine ⟨fun i H hi q => ?_, fun H q => ⟨vs, ws, q.1, q.2, by omega⟩, fun i H x H' hi q y => ?_⟩
      · have h1 : i < vs.length := by omega
        have h2 : i < ws.length := by omega
        exact ⟨vs, ws, vs[i], ws[i], q.1, q.2, by simp [h1], by simp [h2]⟩
      · obtain ⟨t, x1, y1, e1, e2, e3, e4, e5⟩ := y
        exact ⟨t, x1, y1, e1, e2, e3, e4 vs q.1, e5 ws q.2⟩
end
end DL
namespace DL
open PySem PySem.Spec PyProof.Rows L2 Evl
theorem if2t {b : Bool} {X Y : Prop} (h : b = true) (x : X) : if b = true then X else Y := by rw [if_pos h]; exact x
theorem if2f {b : Bool} {X Y : Prop} (h : b = false) (y : Y) : if b = true then X else Y := by rw [h, if_neg Bool.false_ne_true]; exact y
theorem if2 {b : Bool} {X Y : Prop} (h : b = true → X) (g : b = false → Y) : if b = true then X else Y := by
  cases b with
  | true => exact h rfl
  | false => exact g rfl
section
variable {A : Amb} {te ta tb : TE} {tt tu : TT} {tr : TA} {ts us : TS} {wi : TI} {g : TG} {ρ : Rho} {n : Nat} {T : DEnds}
/-- back to the earlier tracked state -/
theorem ER.back {S H H' : Hp} {σ : L2.St} {m : Nat} (e : ER A n S H σ ρ) (bb : ∀ a, A.b = some a → BoxOk m H' a) (mv : ∀ a o, some a ≠ A.b → H a = some o → NT o → H' a = some o) (tb : ∀ a ps, H a = some (.tbl ps) → ∃ qs, H' a = some (.tbl qs)) (ex : Ex S H') {S2 : Hp} (tab : TabK A.K S2 H') : ER A m S H' σ ρ := by
  refine ⟨⟨ex, ⟨e.f.mv.ss, fun a o hne h nt => mv a o hne (e.f.mv.fr a o hne h nt) nt, fun a ps h => let ⟨qs, h'⟩ := e.f.mv.tb a ps h; tb a qs h', e.f.mv.sep⟩, fun a ha => ⟨bb a ha, (e.f.box a ha).2⟩, ⟨tab.1, e.f.tab.2⟩⟩, e.len, fun i s hs => ?_, e.ap⟩
  obtain ⟨o, h1, h2⟩ := e.sl i s hs
  refine ⟨o, h1, ?_⟩
  cases s with
  | un => trivial
  | val d => exact h2
  | own ds =>
    obtain ⟨a, vs, g1, g2, g3, g4, g5⟩ := h2
    have nb : some a ≠ A.b := fun z => (e.f.box a z.symm).2.2 g5
    exact ⟨a, vs, g1, mv a _ nb g2 nt_lst, g3, g4, g5⟩
  | dic kvs =>
    obtain ⟨a, ks, g1, g2, g3, g4, g5⟩ := h2
    have nb : some a ≠ A.b := fun z => (e.f.box a z.symm).2.2 g5
    exact ⟨a, ks, g1, mv a _ nb g2 nt_dK, g3, g4, g5⟩
  | nd kvs =>
    obtain ⟨a, ks, g1, g2, g3, g4, g5⟩ := h2
    have nb : some a ≠ A.b := fun z => (e.f.box a z.symm).2.2 g5
    exact ⟨a, ks, g1, mv a _ nb g2 nt_ND, g3, g4, g5⟩
end
end DL
namespace DL
open PySem PySem.Spec PyProof.Rows L2 Evl
/-! ### how long a shown value is -/
theorem join_le {B : Nat} : ∀ ts : List Str, (∀ t ∈ ts, t.length ≤ B) → (Str.join ", " ts).length ≤ ts.length * (B + 2)
  | [], _ => by show (0 : Nat) ≤ _; omega
  | [x], h => by
    have := h x List.mem_cons_self
    show x.length ≤ 1 * (B + 2)
    omega
  | x :: y :: r, h => by
    have a := h x List.mem_cons_self
    have b := join_le (y :: r) fun t ht => h t (List.mem_cons_of_mem _ ht)
    show (x ++ ", " ++ Str.join ", " (y :: r)).length ≤ _
    rw [Str.length_append, Str.length_append]
    have c : (Str.ofString ", ").length = 2 := by decide
    have d : (x :: y :: r).length = (y :: r).length + 1 := rfl
    have e : ((", " : Str)).length = 2 := c
    rw [e, d, Nat.succ_mul]
    omega
theorem tup_le {B : Nat} {ts : List Str} (h : ∀ t ∈ ts, t.length ≤ B) : (tupleText ts).length ≤ ts.length * (B + 2) + 3 := by
  have a := join_le ts h
  unfold tupleText
  rw [Str.length_append, Str.length_append]
  have e : (("(" : Str)).length = 1 := by decide
  have f : (Str.ofString (if ts.length == 1 then ",)" else ")" : String)).length ≤ 2 := by
    split <;> decide
  have f' : ((if ts.length == 1 then ",)" else ")" : String) : Str).length ≤ 2 := f
  omega
theorem log_small {i : Int} (h0 : 0 ≤ i) (h1 : i < 10 ^ 100) : i.natAbs.log2 < 1920 := by
  by_cases z : i.natAbs = 0
  · rw [z]; decide
  · rw [Nat.log2_lt z]
    have : (10 : Nat) ^ 100 < 2 ^ 1920 := by decide
    omega
section
variable {A : Amb} {te ta tb : TE} {tt tu : TT} {tr : TA} {ts us : TS} {wi : TI} {g : TG} {ρ : Rho} {n : Nat} {T : DEnds}
/-- list * int -/
theorem drf_timesL {xs : List D} {k : Int} {P : List D → Nat → Prop} (h0 : 0 ≤ k) (h1 : k < 2 ^ 63) (hl : xs.length * k.toNat ≤ 100000) (p : P (List.replicate k.toNat xs).flatten n) : DRF A rTimes (.lst xs) (.int k) n P := fun S H v w f r1 r2 Q q => by
  obtain ⟨a, vs, rfl, e1, e2⟩ := r1.lst_inv
  cases r2.int_inv
  refine Or.inr (Or.inr ⟨a, k, vs, rfl, rfl, f.sub _ _ e1, by omega, h1, Evl.sz_of (by rw [e2.length]; exact hl), fun l hl => ?_⟩)
  exact q l _ _ S _ n (Mv.newO hl) (f.newO hl) hl upd_same (f.s0 hl) (e2.rep _) p
/-- a list of the outside, as it stood at the entry -/
theorem sq_keep {S H : Hp} {a : Addr} {xs : List V} (f : Fr A n S H) (hb : A.b = none) (h : SqL A.K A.H0 a xs) : SqL A.K H a xs := by
  have ne : some a ≠ A.b := by rw [hb]; exact fun z => nomatch z
  rcases h with (h | ⟨o, h⟩) | h
  · exact Or.inl (Or.inl (f.mv.fr a _ ne h))
  · exact Or.inl (Or.inr ⟨o, f.mv.fr a _ ne h⟩)
  · exact Or.inr h
theorem de_slRaw {i : Nat} {a : Addr} {ns : List Int} {lo hi : Option Int} {tl th : TO} {P : D → Nat → Prop} (hi' : ρ[i]? = some (.val (.raw (.ref a)))) (hb : A.b = none) (hS : SqL A.K A.H0 a (ns.map V.int))
    (hl : ∀ S H σ, ER A n S H σ ρ → ∀ Q : Option Int → Hp → Prop, Q lo H → tl σ H Q) (hh : ∀ S H σ, ER A n S H σ ρ → ∀ Q : Option Int → Hp → Prop, Q hi H → th σ H Q) (p : P (.lst (((ns.drop (HT.sIx ns.length 0 lo)).take (HT.sIx ns.length ns.length hi - HT.sIx ns.length 0 lo)).map D.int)) n) : DE A (tSl (rSlice A.K) (tVar i) tl th) ρ n P := fun S H σ e Q q => by
  obtain ⟨v, h1, h2⟩ := e.val hi'
  cases h2.raw_inv
  have hq := sq_keep e.f hb hS
  refine ⟨_, h1, hl _ _ _ e _ (hh _ _ _ e _ (Or.inl ⟨a, _, rfl, hq, fun p' hp' => ?_⟩))⟩
  have ec : cutV (ns.map V.int) lo hi = ((ns.drop (HT.sIx ns.length 0 lo)).take (HT.sIx ns.length ns.length hi - HT.sIx ns.length 0 lo)).map V.int := by
    unfold cutV
    rw [List.length_map, ← List.map_drop, ← List.map_take]
  rw [ec]
  exact q _ _ _ _ n (Mv.new e.f.sub hp') (e.f.new hp') (Rep.lst upd_same Reps.of_ints) p
theorem kp_enum (K : PySem.W.Frag) {X : Cx} {e : Expr} {ta : TA} {p pos tpos : Pos} {elts : List Expr} {kk : Nat} (hm : X.mg "enumerate" = none) (ha : PA X [e] ta) (hg : Gl X "enumerate" := by rfl) (h : X.K = K := by rfl) (hs : starEach [e] X.env = [(false, eval e X.env)] := by rfl) :
    PI X (.Tuple elts kk tpos) (.Call (.Name "enumerate" p) [e] [] pos) (iEnum K ta) := h ▸ pi_enum hg hm ha hs
def enumD (ds : List D) : List D := ds.zipIdx.map fun p => D.tup [.int (p.2 : Int), p.1]
theorem enumD_len {ds : List D} : (enumD ds).length = ds.length := by simp [enumD]
theorem enumD_get {ds : List D} {i : Nat} {d : D} (h : ds[i]? = some d) : (enumD ds)[i]? = some (.tup [.int (i : Int), d]) := by
  unfold enumD
  rw [List.getElem?_map, List.getElem?_zipIdx, h]
  simp
theorem di_enum {P : List D → Nat → Prop} (h : DE A te ρ n fun d m => ∃ ds, d = .lst ds ∧ P (enumD ds) m) : DI A (iEnum A.K (tCons te tNil)) ρ n P := fun S H σ e R q =>
  h S H σ e _ fun v d S1 H1 n1 m1 f1 r1 ⟨ds, hd, p⟩ => by
    subst hd
    obtain ⟨a, vs, rfl, h1, h2⟩ := r1.lst_inv
    refine ⟨a, vs, rfl, Evl.sq_of (f1.sub _ _ h1), q _ (enumD ds) S1 H1 n1 _ _ m1 f1 (by rw [enumD_len, ← h2.length]; exact walk_enum) (fun S2 H2 m x f => Evl.sq_of ((x.trans f.sub) _ _ h1)) (fun i S2 H2 x H3 m hi ex f y => ?_) p⟩
    obtain ⟨t, x1, x2, rfl, ht, rfl, e1, e2⟩ := y
    obtain ⟨d2, hd2, rd2⟩ := h2.getV e2
    cases e1
    exact ⟨_, _, enumD_get hd2, Mv.new f.sub ht, f.new ht, Rep.tup upd_same (Reps.cons Rep.int (Reps.one (rd2.mono (ex.trans (Mv.new (b := A.b) f.sub ht).ss))))⟩
end
end DL
namespace DL
open PySem PySem.Spec PyProof.Rows L2 Evl
/-- a promise whose result is a new list -/
def spOfF (K : PySem.W.Frag) (k : Nat) (C : DCon) : Sp := fun vs H Q E => ∃ (b : Option Addr) (S : Hp) (ds : List D) (n : Nat) (P : D → Nat → Prop),
  (Ex S H ∧ TabK K S H) ∧ BoxAt b n S H ∧ Reps K S vs ds ∧ ds.length = k ∧ C b ds n P (fun _ _ => False) ∧
  (∀ a ws es S' H' n', Mv b S H S' H' → (Ex S' H' ∧ TabK K S' H') → BoxAt b n' S' H' → H a = none → H' a = some (.lst ws) → S' a = none → Reps K S' ws es → P (.lst es) n' → Q (.ref a) H')
theorem spOfF_len {K : PySem.W.Frag} {k : Nat} {C : DCon} {vs : List V} {H : Hp} {Q : VK} {E : XK} (h : spOfF K k C vs H Q E) : vs.length = k := by
  obtain ⟨b, S, ds, n, P, _, _, r, hl, _⟩ := h
  rw [r.length, hl]
/-- a body that ends with return e, e a new list -/
theorem bodyF_of {K : PySem.W.Frag} {k : Nat} {C : DCon} {N : List Str} {t : TS} {vs : List V} {H : Hp} {Q : VK} {E : XK} (h : spOfF K k C vs H Q E)
    (hb : ∀ (A : Amb) (ds : List D) (n : Nat) (P : D → Nat → Prop), A.K = K → A.E = E → XOk A → ds.length = k → C A.b ds n P (fun _ _ => False) → ∀ σ, ER A n A.S0 A.H0 σ (rho0 ds N.length) → ∀ D : Ends,
      (∀ a ws es S' H' n', Mv A.b A.S0 A.H0 S' H' → Fr A n' S' H' → A.H0 a = none → H' a = some (.lst ws) → S' a = none → Reps A.K S' ws es → P (.lst es) n' → D.rt (.ref a) H') → t D σ A.H0) :
    t { nx := fun _ H' => Q .non H', rt := Q } (L2.start N vs) H := by
  obtain ⟨b, S, ds, n, P, hs, hbx, r, hl, hc, hq⟩ := h
  have f : Fr ⟨K, b, S, H, E, fun _ _ => False⟩ n S H := ⟨hs.1, Mv.refl, fun a e => ⟨(hbx a e).1, (hbx a e).2, (hbx a e).1.ne⟩, hs.2⟩
  exact hb ⟨K, b, S, H, E, fun _ _ => False⟩ ds n P rfl rfl (fun _ _ _ _ _ _ _ _ z => z.elim) hl hc _ (er_start (A := ⟨K, b, S, H, E, fun _ _ => False⟩) f r) _ fun a ws es S' H' n' m f' hn hh hS re p =>
    hq a ws es S' H' n' m ⟨f'.sub, f'.tab⟩ (fun a e => ⟨(f'.box a e).1, (f'.box a e).2.1⟩) hn hh hS re p
section
variable {A : Amb} {te ta tb : TE} {tt tu : TT} {tr tk : TA} {ts us : TS} {wi : TI} {g : TG} {ρ : Rho} {n k : Nat} {T : DEnds} {C : DCon}
theorem DF.go {P : List DL.D → Nat → Prop} {S H : Hp} {σ : L2.St} {Q : VK} (h : DF A te ρ n P) (e : ER A n S H σ ρ) (q : ∀ a vs ds S' H' n', Mv A.b S H S' H' → Fr A n' S' H' → H a = none → H' a = some (.lst vs) → S' a = none → Reps A.K S' vs ds → P ds n' → Q (.ref a) H') : te σ H Q := h S H σ e Q q
theorem dr_pow {i j : Int} {P : DL.D → Nat → Prop} (hc : CPow i j) (p : P (.int (i ^ j.toNat)) n) : DR A (rI CPow fun i j => .int (i ^ j.toNat)) (.int i) (.int j) n P := dr_I (fun _ _ => Rep.int) hc p
theorem none_back {S H S' H' : Hp} (f : Fr A n S H) (m : Mv A.b S H S' H') {m' : Nat} (f' : Fr A m' S' H') {a : Addr} (h : H' a = none) : H a = none := by
  cases z : H a with
  | none => rfl
  | some o => exact absurd h (m.there f'.bt (by rw [z]; exact fun y => nomatch y))
theorem callF_at {S H : Hp} {vs : List V} {ds : List D} {P : D → Nat → Prop} {Q : VK} {E : XK} (f : Fr A n S H) (r : Reps A.K S vs ds) (hl : ds.length = k) (hc : C A.b ds n P fun _ _ => False)
    (q : ∀ a ws es S' H' n', Mv A.b S H S' H' → Fr A n' S' H' → H a = none → H' a = some (.lst ws) → S' a = none → Reps A.K S' ws es → P (.lst es) n' → Q (.ref a) H') : spOfF A.K k C vs H Q E := by
  exact ⟨A.b, S, ds, n, P, ⟨f.sub, f.tab⟩, fun a e => ⟨(f.box a e).1, (f.box a e).2.1⟩, r, hl, hc,
    fun a ws es S' H' n' m ex bx hn hh hS re p => q a ws es S' H' n' m ⟨ex.1, f.mv.trans f.bt m, fun a e => ⟨(bx a e).1, (bx a e).2, (f.box a e).2.2⟩, ex.2⟩ hn hh hS re p⟩
theorem df_call0F {P : List D → Nat → Prop} {E : XK} (h : DA A tr ρ n fun ds m => ds.length = k ∧ C A.b ds m (fun d m => ∃ es, d = .lst es ∧ P es m) fun _ _ => False) : DF A (tCall (spOfF A.K k C) [] E tr) ρ n P := fun S H σ e Q q =>
  h S H σ e _ fun vs ds S1 H1 n1 m1 f1 r1 ⟨hl, hc⟩ => by
    rw [List.append_nil]
    refine callF_at f1 r1 hl hc fun a ws es S' H' n' m f hn hh hS re p => ?_
    obtain ⟨es', e1, p⟩ := p
    cases e1
    exact q a ws es S' H' n' (m1.trans f1.bt m) f (none_back e.f m1 f1 hn) hh hS re p
theorem df_callK0F {P : List D → Nat → Prop} {gV : List V → List V → List V} {E : XK} (gD : List D → List D → List D) (pg : Puts gV gD) (h : DA A tr ρ n fun ds m => DA A tk ρ m fun es m2 => (gD ds es).length = k ∧ C A.b (gD ds es) m2 (fun d m => ∃ es, d = .lst es ∧ P es m) fun _ _ => False) :
    DF A (tCallK (spOfF A.K k C) gV E tr tk) ρ n P := fun S H σ e Q q =>
  h S H σ e _ fun vs ds S1 H1 n1 m1 f1 r1 h1 => h1 S1 H1 σ (e.mv m1 f1) _ fun ws es S2 H2 n2 m2 f2 r2 ⟨hl, hc⟩ => by
    refine callF_at f2 (pg _ _ _ _ _ _ (r1.mono m2.ss) r2) hl hc fun a ws es S' H' n' m f hn hh hS re p => ?_
    obtain ⟨es', e1, p⟩ := p
    cases e1
    exact q a ws es S' H' n' ((m1.trans f1.bt m2).trans f2.bt m) f (none_back e.f m1 f1 (none_back f1 m2 f2 hn)) hh hS re p
theorem de_call0F {P : D → Nat → Prop} {E : XK} (h : DA A tr ρ n fun ds m => ds.length = k ∧ C A.b ds m (fun d m => ∃ es, d = .lst es ∧ P (.lst es) m) fun _ _ => False) : DE A (tCall (spOfF A.K k C) [] E tr) ρ n P := DE.of_fresh (df_call0F h)
theorem de_callK0F {P : D → Nat → Prop} {gV : List V → List V → List V} {E : XK} (gD : List D → List D → List D) (pg : Puts gV gD) (h : DA A tr ρ n fun ds m => DA A tk ρ m fun es m2 => (gD ds es).length = k ∧ C A.b (gD ds es) m2 (fun d m => ∃ es, d = .lst es ∧ P (.lst es) m) fun _ _ => False) :
    DE A (tCallK (spOfF A.K k C) gV E tr tk) ρ n P := DE.of_fresh (df_callK0F gD pg h)
/-- a list of three ints, new, for a box -/
def spBox (K : PySem.W.Frag) : Sp := fun vs H Q _ => ∃ (a : Addr) (cs : List Int) (i : Nat), vs = [.ref a, .int i] ∧ H a = some (.lst (cs.map V.int)) ∧ i < cs.length ∧ cs.length ≤ 100 ∧
  ∀ p x y, H p = none → 0 ≤ x → 0 ≤ y → y < 2 ^ 62 → Q (.ref p) (upd H p (.lst [.int x, .int y, .int 0]))
theorem spBox_len {K : PySem.W.Frag} {vs : List V} {H : Hp} {Q : VK} {E : XK} (h : spBox K vs H Q E) : vs.length = 2 := by
  obtain ⟨a, cs, i, rfl, _⟩ := h
  rfl
theorem raw_body {K : PySem.W.Frag} {N : List Str} {t : TS} {vs : List V} {ds : List DL.D} {S H : Hp} {Q : VK} {E : XK} {P : DL.D → Nat → Prop} (ex : Ex S H) (tab : TabK K S H) (r : Reps K S vs ds)
    (h : DS ⟨K, none, S, H, E, fun _ _ => False⟩ t (rho0 ds N.length) 0 { nx := fun _ _ => False, rt := P })
    (q : ∀ v d S' H' m, Mv none S H S' H' → (Ex S' H' ∧ TabK K S' H') → Rep K S' v d → P d m → Q v H') : t { nx := fun _ H' => Q .non H', rt := Q } (L2.start N vs) H := by
  have f : Fr ⟨K, none, S, H, E, fun _ _ => False⟩ 0 S H := ⟨ex, Mv.refl, fun a e => (nomatch e), tab⟩
  refine h S H _ (er_start (A := ⟨K, none, S, H, E, fun _ _ => False⟩) f r) _ ⟨?_, ?_, ?_, ?_⟩
  · exact fun _ _ _ _ _ _ _ p => p.elim
  · exact fun v d n' S' H' _ f' rv p => q v d S' H' n' f'.mv ⟨f'.sub, f'.tab⟩ rv p
  · exact fun _ _ _ _ _ _ _ p => p.elim
  · exact fun _ _ _ _ _ _ _ p => p.elim
theorem po_none_d {lo : Option Int} (h : lo = none) : ∀ S H σ, ER A n S H σ ρ → ∀ Q : Option Int → Hp → Prop, Q lo H → tNoPart σ H Q := by
  subst h
  exact fun S H σ e Q q => q
theorem po_var_d {i : Nat} {j : Int} (h : ρ[i]? = some (.val (.int j))) : ∀ S H σ, ER A n S H σ ρ → ∀ Q : Option Int → Hp → Prop, Q (some j) H → tPart (tVar i) σ H Q := fun S H σ e Q q => by
  obtain ⟨v, h1, h2⟩ := e.val h
  cases h2.int_inv
  exact ⟨_, h1, j, rfl, q⟩
theorem po_int_d {j : Int} : ∀ S H σ, ER A n S H σ ρ → ∀ Q : Option Int → Hp → Prop, Q (some j) H → tPart (tC (.int j)) σ H Q := fun S H σ e Q q => ⟨j, rfl, q⟩
def spLaw (K : PySem.W.Frag) : Sp := fun vs H Q _ => ∃ (a : Addr) (ns : List Int), (vs = [.ref a] ∧ TabK K (fun _ => none) H) ∧ SqL K H a (ns.map V.int) ∧ ns.length ≤ 63 ∧ ∀ H', Q (.bl true) H'
theorem spLaw_len {K : PySem.W.Frag} {vs : List V} {H : Hp} {Q : VK} {E : XK} (h : spLaw K vs H Q E) : vs.length = 1 := by
  obtain ⟨a, ns, ⟨rfl, _⟩, _⟩ := h
  rfl
def noOwn (ρ : Rho) : Bool := ρ.all fun s => match s with | .own _ => false | .dic _ => false | .nd _ => false | _ => true
/-- box = _law_box(cells, k), then a test under the box -/
theorem ds_box {i j c : Nat} {cs : List Int} {k : Nat} {E : XK} (hb : A.b = none) (ho : noOwn ρ = true) (hc : ρ[c]? = some (.val (.lst (cs.map D.int)))) (hj : ρ[j]? = some (.val (.int (k : Int)))) (hk : k < cs.length) (hl : cs.length ≤ 100)
    (h : ∀ A' : Amb, A'.K = A.K → ∀ a, A'.b = some a → DT A' tt (ρ.set i (.val (.raw (.ref a)))) 0 fun b _ => b = true) (hn : T.nx (ρ.set i .un) n) :
    DS A (tSeq (tAsg (tCall (spBox A.K) [] E (tCons (tVar c) (tCons (tVar j) tNil))) (gName i)) (tIfS (tNot tt) ts tNext)) ρ n T := fun S H σ e D k' => by
  obtain ⟨vc, c1, c2⟩ := e.val hc
  obtain ⟨a, vs, rfl, c3, c4⟩ := c2.lst_inv
  obtain rfl := c4.intsV
  obtain ⟨vj, j1, j2⟩ := e.val hj
  cases j2.int_inv
  refine ⟨_, c1, _, j1, a, cs, k, rfl, e.f.sub _ _ c3, hk, hl, fun p x y hp x0 y0 y1 => ?_⟩
  have hSp : S p = none := e.f.s0 hp
  have ex1 : Ex S (upd H p (.lst [.int x, .int y, .int 0])) := fun z u q => by
    rw [upd_ne (ne_of_none q hSp)]
    exact e.f.sub z u q
  let A' : Amb := ⟨A.K, some p, S, upd H p (.lst [.int x, .int y, .int 0]), A.E, fun _ _ => False⟩
  have f' : Fr A' 0 S (upd H p (.lst [.int x, .int y, .int 0])) := ⟨ex1, Mv.refl, fun z q => by
    cases q
    exact ⟨⟨x, y, 0, upd_same, x0, y0, y1, by omega, by omega⟩, hSp, by show upd H p _ p ≠ none; rw [upd_same]; exact fun w => nomatch w⟩, e.f.tab.new hp⟩
  have noO : ∀ (j : Nat) (es : List DL.D), ρ[j]? ≠ some (.own es) := fun j es q => by
    have := List.all_eq_true.mp ho _ (List.mem_of_getElem? q)
    cases this
  have noD : ∀ (j : Nat) (es : List (Key × DL.D)), ρ[j]? ≠ some (.dic es) := fun j es q => by
    have := List.all_eq_true.mp ho _ (List.mem_of_getElem? q)
    cases this
  have noN : ∀ (j : Nat) (es : List (List (Int × Int) × DL.D)), ρ[j]? ≠ some (.nd es) := fun j es q => by
    have := List.all_eq_true.mp ho _ (List.mem_of_getElem? q)
    cases this
  have e' : ER A' 0 S (upd H p (.lst [.int x, .int y, .int 0])) σ ρ := ⟨f', e.len, fun m s hs => by
    obtain ⟨o, o1, o2⟩ := e.sl m s hs
    refine ⟨o, o1, ?_⟩
    cases s with
    | un => trivial
    | val d => exact o2
    | own es => exact absurd hs (noO m es)
    | dic es => exact absurd hs (noD m es)
    | nd es => exact absurd hs (noN m es), fun m q ds es _ q1 _ => absurd q1 (noO m ds)⟩
  refine h A' rfl p rfl S _ _ (e'.set Rep.raw) _ fun b S2 H2 n2 m2 f2 hb2 => ?_
  subst hb2
  have er : ER A n S H2 σ ρ := e.back (fun z q => by rw [hb] at q; cases q) (fun z o _ q nt => m2.fr z o (fun w => by
    cases w
    rw [hp] at q; cases q) (by show upd H p _ z = _; rw [upd_ne (ne_of_none q hp)]; exact q) nt) (fun z ps q => m2.tb z ps (by show upd H p _ z = _; rw [upd_ne (ne_of_none q hp)]; exact q)) (fun z u q => f2.sub _ _ (m2.ss _ _ q)) f2.tab
  exact k'.nx _ n S H2 _ (Ex.refl S) er.setUn hn
/-- the cells: a list of ints, new -/
def spCells (K : PySem.W.Frag) : Sp := fun vs H Q _ => ∃ (a : Addr) (ns : List Int) (S : Hp), (Ex S H ∧ TabK K S H) ∧ vs = [.ref a, .int 3] ∧ SqL K H a (ns.map V.int) ∧ ns.length ≤ 63 ∧
  ∀ v S' H' (cs : List Int), Mv none S H S' H' → (Ex S' H' ∧ TabK K S' H') → Rep K S' v (.lst (cs.map D.int)) → 0 < cs.length → cs.length ≤ 3 → Q v H'
theorem spCells_len {K : PySem.W.Frag} {vs : List V} {H : Hp} {Q : VK} {E : XK} (h : spCells K vs H Q E) : vs.length = 2 := by
  obtain ⟨a, ns, S, _, rfl, _⟩ := h
  rfl
theorem ds_cells {i : Nat} {a : Addr} {ns : List Int} {E : XK} (hb : A.b = none) (hS : SqL A.K A.H0 a (ns.map V.int)) (hz : ns.length ≤ 63) (h0 : ρ[0]? = some (.val (.raw (.ref a))))
    (h : ∀ cs : List Int, 0 < cs.length → cs.length ≤ 3 → T.nx (ρ.set i (.val (.lst (cs.map D.int)))) n) :
    DS A (tAsg (tCall (spCells A.K) [] E (tCons (tVar 0) (tCons (tC (.int 3)) tNil))) (gName i)) ρ n T := fun S H σ e D k' => by
  obtain ⟨v, h1, h2⟩ := e.val h0
  cases h2.raw_inv
  refine ⟨_, h1, a, ns, S, ⟨e.f.sub, e.f.tab⟩, rfl, sq_keep e.f hb hS, hz, fun v S' H' cs m ex r c0 c1 => ?_⟩
  have m' : Mv A.b S H S' H' := by rw [hb]; exact m
  have f' : Fr A n S' H' := ⟨ex.1, e.f.mv.trans e.f.bt m', (fun z q => by rw [hb] at q; cases q), ex.2⟩
  exact k'.nx _ n S' H' _ m'.ss ((e.mv m' f').set r) (h cs c0 c1)
end
end DL
namespace DL
open PySem PySem.Spec PyProof.Rows L2 Evl
/-- what is tracked at the law's call: the script, if the module does not know it -/
def scriptH (K : PySem.W.Frag) (a : Addr) (ob : Obj) (ws : List V) : Hp := fun b => if b = a ∧ (K.lookup a).isNone = true then some (.frz ob (.lst ws)) else none
section
variable {P : Program} {w : World} {K : PySem.W.Frag} {mg mb : Str → Option Value} {a : Addr} {ob : Obj} {ws : List V}
theorem scriptH_at {b : Addr} {u : HO} (h : scriptH K a ob ws b = some u) : b = a ∧ K.lookup a = none ∧ u = .frz ob (.lst ws) := by
  unfold scriptH at h
  split at h
  · next c =>
    cases h
    exact ⟨c.1, Option.isNone_iff_eq_none.mp c.2, rfl⟩
  · cases h
end
theorem FnG.void {P : Program} {w : World} {K : PySem.W.Frag} {mg : Str → Option Value} {base : Heap} {k m : Nat} {f : Addr} {fd : FuncData} {ps : List Str} : FnG P w K mg base k f fd ps (spOf K m fun _ _ _ _ _ => False) :=
  ⟨fun _ _ _ _ ⟨_, _, _, _, _, _, _, _, _, _, z, _⟩ => z.elim, fun _ _ _ _ _ _ _ _ _ _ _ _ _ _ ⟨_, _, _, _, _, _, _, _, _, _, z, _⟩ => z.elim⟩
end DL
namespace DL
open PySem PySem.Spec PyProof.Rows L2 Evl
/-! ### own error classes that keep what they are made of -/
end DL
namespace DL
open PySem PySem.Spec PyProof.Rows L2 Evl
/-! ### except (A, B, ..) as e -/
end DL
namespace DL
open PySem PySem.Spec PyProof.Rows L2 Evl
/-! ### what a held error is asked -/
end DL
namespace DL
open PySem PySem.Spec PyProof.Rows L2 Evl
theorem Rep.exc {K : PySem.W.Frag} {S : Hp} {a C d : Addr} {fs : List (Str × V)} (h1 : S a = some (ExH C d a)) (h2 : S d = some (.xd fs)) : Rep K S (.ref a) (.exc C fs) := by
  unfold Rep
  exact ⟨a, d, rfl, h1, h2⟩
/-! ### classes and isinstance -/
end DL
namespace DL
open PySem PySem.Spec PyProof.Rows L2 Evl
end DL
namespace DL
open PySem PySem.Spec PyProof.Rows L2 Evl
end DL
namespace DL
open PySem PySem.Spec PyProof.Rows L2 Evl
/-! ### slices of data -/
section
variable {A : Amb} {te ta tb : TE} {tl th : TO} {tr : TA} {ts us : TS} {ρ : Rho} {n k : Nat} {T : DEnds} {C : DCon}
/-- a state between two statements -/
theorem ds_cut (I : Rho → Nat → Prop) (h : DS A ts ρ n { T with nx := I }) (g : ∀ ρ' m, I ρ' m → DS A us ρ' m T) : DS A (tSeq ts us) ρ n T := fun S H σ e D k =>
  h S H σ e _ ⟨fun ρ' n' S' H' σ' x e' p => g ρ' n' p S' H' σ' e' D (k.on x), k.rt, k.bk, k.ct⟩
end
end DL
namespace DL
open PySem PySem.Spec PyProof.Rows L2 Evl
/-! ### values that may be shown -/
theorem from_le {B : Nat} : ∀ (ts : List Str) (k : Nat) (acc : Str), (∀ t ∈ ts, t.length ≤ B) → (textFrom k acc ts).length ≤ acc.length + ts.length * (B + 2)
  | [], k, acc, _ => by
    show acc.length ≤ acc.length + 0 * (B + 2)
    omega
  | t :: ts, k, acc, h => by
    have a := h t List.mem_cons_self
    have b := from_le ts (k + 1) (acc ++ ((if k > 0 then ", " else "" : String) : Str) ++ t) fun u hu => h u (List.mem_cons_of_mem _ hu)
    have e : (((if k > 0 then ", " else "" : String) : Str)).length ≤ 2 := by
      split <;> decide
    rw [Str.length_append, Str.length_append] at b
    show (textFrom (k + 1) (acc ++ ((if k > 0 then ", " else "" : String) : Str) ++ t) ts).length ≤ acc.length + (ts.length + 1) * (B + 2)
    rw [Nat.succ_mul]
    omega
theorem lst_le {B : Nat} {ts : List Str} (h : ∀ t ∈ ts, t.length ≤ B) : (listText ts).length ≤ ts.length * (B + 2) + 3 := by
  have a := from_le ts 0 "[" h
  unfold listText
  rw [Str.length_append]
  have e : (("[" : Str)).length = 1 := by decide
  have f : (("]" : Str)).length = 1 := by decide
  omega
structure Sh (d : D) (dep len : Nat) : Prop where
  pure : pureD d = true
  sh : (toP d).showable = true
  nd : (toP d).hasDict = false
  dep : (toP d).depth ≤ dep
  len : (toP d).shown.length ≤ len
theorem Sh.int {i : Int} {k : Nat} (hk : 0 < k) (h0 : 0 ≤ i) (h1 : i < 10 ^ k) (h2 : k ≤ 100) : Sh (.int i) 0 k := by
  have p : (10 : Int) ^ k ≤ 10 ^ 100 := by
    have q : (10 : Nat) ^ k ≤ 10 ^ 100 := Nat.pow_le_pow_right (by decide) h2
    exact_mod_cast q
  exact ⟨rfl, decide_eq_true (log_small h0 (by omega)), rfl, Nat.le_refl _, by
    show (Str.ofString (toString i)).length ≤ k
    exact toString_length_le h0 hk h1⟩
theorem sh_all {dep len : Nat} : ∀ {xs : List D}, (∀ x ∈ xs, Sh x dep len) → pureDs xs = true ∧ PyData.showableAll (toPs xs) = true ∧ PyData.hasDictAll (toPs xs) = false ∧ PyData.depthAll (toPs xs) ≤ dep ∧ (∀ t ∈ PyData.shownAll (toPs xs), t.length ≤ len) ∧ (PyData.shownAll (toPs xs)).length = xs.length
  | [], _ => by
    simp [pureDs, toPs, PyData.showableAll, PyData.hasDictAll, PyData.depthAll, PyData.shownAll]
  | x :: xs, h => by
    obtain ⟨a, b, c, d, e, f⟩ := sh_all fun y hy => h y (List.mem_cons_of_mem _ hy)
    have g := h x List.mem_cons_self
    refine ⟨?_, ?_, ?_, ?_, fun t ht => ?_, ?_⟩
    · show (pureD x && pureDs xs) = true
      rw [g.pure, a]
      rfl
    · show (PyData.showable (toP x) && PyData.showableAll (toPs xs)) = true
      rw [g.sh, b]
      rfl
    · show (PyData.hasDict (toP x) || PyData.hasDictAll (toPs xs)) = false
      rw [g.nd, c]
      rfl
    · show max (toP x).depth (PyData.depthAll (toPs xs)) ≤ dep
      have := g.dep
      omega
    · have ht : t ∈ (toP x).shown :: PyData.shownAll (toPs xs) := ht
      rcases List.mem_cons.mp ht with rfl | ht
      · exact g.len
      · exact e t ht
    · show (PyData.shownAll (toPs xs)).length + 1 = xs.length + 1
      rw [f]
theorem Sh.lst {xs : List D} {dep len : Nat} (h : ∀ x ∈ xs, Sh x dep len) : Sh (.lst xs) (dep + 1) (xs.length * (len + 2) + 3) := by
  obtain ⟨a, b, c, d, e, f⟩ := sh_all h
  refine ⟨a, b, c, ?_, ?_⟩
  · show PyData.depthAll (toPs xs) + 1 ≤ dep + 1
    omega
  · show (listText (PyData.shownAll (toPs xs))).length ≤ _
    rw [← f]
    exact lst_le e
theorem Sh.tup {xs : List D} {dep len : Nat} (h : ∀ x ∈ xs, Sh x dep len) : Sh (.tup xs) (dep + 1) (xs.length * (len + 2) + 3) := by
  obtain ⟨a, b, c, d, e, f⟩ := sh_all h
  refine ⟨a, b, c, ?_, ?_⟩
  · show PyData.depthAll (toPs xs) + 1 ≤ dep + 1
    omega
  · show (tupleText (PyData.shownAll (toPs xs))).length ≤ _
    rw [← f]
    exact tup_le e
end DL
namespace DL
open PySem PySem.Spec PyProof.Rows L2 Evl
end DL
namespace DL
open PySem PySem.Spec PyProof.Rows L2 Evl
end DL
namespace DL
open PySem PySem.Spec PyProof.Rows Srt SrtO
end DL
namespace DL
open PySem PySem.Spec PyProof.Rows L2 Evl
end DL
namespace DL
open PySem PySem.Spec PyProof.Rows L2 Evl
section
variable {A : Amb} {te : TE} {ρ : Rho} {n : Nat}
theorem Reps.reverse {K : PySem.W.Frag} {S : Hp} : ∀ {ds : List D} {vs : List V}, Reps K S vs ds → Reps K S vs.reverse ds.reverse
  | [], vs, h => by unfold Reps at h; subst h; exact Reps.nil
  | d :: ds, vs, h => by
    obtain ⟨v, r, rfl, h1, h2⟩ := h.uncons
    rw [List.reverse_cons, List.reverse_cons]
    exact h2.reverse.append (Reps.one h1)
end
end DL
namespace DL
open PySem PySem.Spec PyProof.Rows L2 Evl
end DL
namespace DL
open PySem PySem.Spec PyProof.Rows L2 Evl
structure Pin (A : Amb) (a : Addr) (ds : List D) : Prop where
  ex : ∃ vs, A.H0 a = some (.lst vs) ∧ Reps A.K A.S0 vs ds
  nb : some a ≠ A.b
section
variable {A : Amb} {te ta tb : TE} {tt tu : TT} {tr tk : TA} {ts us : TS} {wi : TI} {g : TG} {ρ : Rho} {n : Nat} {T : DEnds}
theorem Pin.at {A : Amb} {a : Addr} {ds : List D} {n : Nat} {S H : Hp} (p : Pin A a ds) (f : Fr A n S H) : ∃ vs, H a = some (.lst vs) ∧ Reps A.K S vs ds := by
  obtain ⟨vs, h1, h2⟩ := p.ex
  exact ⟨vs, f.mv.fr a _ p.nb h1, h2.mono f.mv.ss⟩
end
end DL
namespace DL
open PySem PySem.Spec PyProof.Rows L2 Evl
end DL
namespace DL
open PySem PySem.Spec PyProof.Rows L2 Evl
open Sem (wp)
/-! enumerate(tuple) -/
end DL
namespace DL
open PySem PySem.Spec PyProof.Rows L2 Evl
/-! set(list of ints), then sorted of it -/
end DL
namespace DL
open PySem PySem.Spec PyProof.Rows L2 Evl
end DL
namespace DL
open PySem PySem.Spec PyProof.Rows L2 Evl
section
variable {A : Amb} {te ta tb : TE} {tt tu : TT} {tr tk : TA} {ts us : TS} {wi : TI} {g : TG} {ρ : Rho} {n : Nat} {T : DEnds}
/-! a list of new lists, shown to a test, then changed -/
inductive FreshL (K : PySem.W.Frag) (H S' H' : Hp) : List Addr → List (List D) → Prop
  | nil : FreshL K H S' H' [] []
  | cons {a : Addr} {as : List Addr} {vs : List V} {ds : List D} {dss : List (List D)} (h0 : H a = none) (h1 : H' a = some (.lst vs)) (h2 : S' a = none) (r : Reps K S' vs ds) (nin : a ∉ as) (t : FreshL K H S' H' as dss) : FreshL K H S' H' (a :: as) (ds :: dss)
theorem FreshL.at {K : PySem.W.Frag} {H S' H' : Hp} : ∀ {as : List Addr} {dss : List (List D)}, FreshL K H S' H' as dss → ∀ a ∈ as, H a = none ∧ (∃ vs, H' a = some (.lst vs)) ∧ S' a = none
  | _, _, .nil, a, h => absurd h (by simp)
  | _, _, .cons h0 h1 h2 _ _ t, a, h => by
    rcases List.mem_cons.mp h with rfl | h
    · exact ⟨h0, ⟨_, h1⟩, h2⟩
    · exact t.at a h
theorem FreshL.on {b : Option Addr} {K : PySem.W.Frag} {H0 H S H1 S1 : Hp} (back : ∀ a, H a = none → H0 a = none) : ∀ {as : List Addr} {dss : List (List D)}, FreshL K H S1 H1 as dss → FreshL K H0 S1 H1 as dss
  | _, _, .nil => .nil
  | _, _, .cons h0 h1 h2 r nin t => .cons (back _ h0) h1 h2 r nin (FreshL.on (b := b) (S := S) back t)
theorem TabK.same {K : PySem.W.Frag} {S H H' : Hp} (t : TabK K S H) (h : ∀ x, (∀ vs, H x ≠ some (.lst vs)) → H' x = H x) : TabK K S H' := ⟨fun q hq => by
  obtain ⟨ps, h1, h2, h3⟩ := t.1 q hq
  refine ⟨ps, (h _ fun vs z => by rw [h1] at z; cases z).trans h1, h2, fun pos cv hc => ?_⟩
  obtain ⟨c, e1, e2⟩ := h3 pos cv hc
  refine ⟨c, e1, (h c fun vs z => ?_).trans e2⟩
  rw [z] at e2
  have e2 := Option.some.inj e2
  unfold LamX.CodeO at e2
  exact HO.noConfusion e2, t.2⟩
theorem FreshL.vals {K : PySem.W.Frag} {H S1 H1 S2 : Hp} (ex : Ex S1 S2) : ∀ {as : List Addr} {dss : List (List D)}, FreshL K H S1 H1 as dss → (∀ a ∈ as, S2 a = H1 a) → Reps K S2 (as.map V.ref) (dss.map D.lst)
  | _, _, .nil, _ => Reps.nil
  | _, _, .cons h0 h1 h2 r nin t, h => Reps.cons (Rep.lst ((h _ List.mem_cons_self).trans h1) (r.mono ex)) (t.vals ex fun a ha => h a (List.mem_cons_of_mem _ ha))
theorem FreshL.small {K : PySem.W.Frag} {H S1 H1 : Hp} {B : Nat} : ∀ {as : List Addr} {dss : List (List D)}, FreshL K H S1 H1 as dss → (∀ ds ∈ dss, ds.length ≤ B) → ∀ a ∈ as, ∃ vs, H1 a = some (.lst vs) ∧ vs.length ≤ B
  | _, _, .nil, _, a, ha => absurd ha (by simp)
  | _, _, .cons h0 h1 h2 r nin t, h, a, ha => by
    rcases List.mem_cons.mp ha with rfl | ha
    · exact ⟨_, h1, by rw [r.length]; exact h _ List.mem_cons_self⟩
    · exact t.small (fun ds hd => h ds (List.mem_cons_of_mem _ hd)) a ha
end
end DL
namespace DL
open PySem PySem.Spec PyProof.Rows L2 Evl
end DL
namespace DL
open PySem PySem.Spec PyProof.Rows L2 Evl
end DL
namespace DL
open PySem PySem.Spec PyProof.Rows L2 Evl
theorem nodup_le {α : Type} [DecidableEq α] : ∀ {l us : List α}, l.Nodup → (∀ k ∈ l, k ∈ us) → l.length ≤ us.length
  | [], _, _, _ => Nat.zero_le _
  | x :: l, us, nd, h => by
    obtain ⟨a, b⟩ := List.nodup_cons.mp nd
    have hx := h x List.mem_cons_self
    have ih := nodup_le (us := us.erase x) b fun k hk => (List.mem_erase_of_ne (show k ≠ x by intro e; subst e; exact a hk)).mpr (h k (List.mem_cons_of_mem _ hk))
    have := List.length_erase_of_mem hx
    have := List.length_pos_of_mem hx
    rw [List.length_cons]; omega
end DL
/-! zip of lists and tuples in any mixture -/
namespace DLZ
open PySem PySem.Spec PyProof.Rows L2
/-- what is walked: a list (true) or a tuple -/
def IterK (κ : Bool) (g : Heap) (it l : Addr) (k : Nat) : Prop := match κ with | true => g.IsListIter it l k | false => g.IsTupleIter it l k
def ItemsK (κ : Bool) (g : Heap) (l : Addr) (us : Array Value) : Prop := match κ with | true => g.IsList l us | false => g.IsTuple l us
theorem IterK.ext {κ : Bool} {g g' : Heap} {it l c : Addr} {k : Nat} (x : IterK κ g it l k) (e : Heap.ExtBut c g g') (n : it ≠ c) : IterK κ g' it l k := by
  cases κ
  · exact Heap.IsTupleIter.extBut x e n
  · exact Heap.IsListIter.extBut x e n
theorem ItemsK.ext {κ : Bool} {g g' : Heap} {l c : Addr} {us : Array Value} (x : ItemsK κ g l us) (e : Heap.ExtBut c g g') (n : l ≠ c) : ItemsK κ g' l us := by
  cases κ
  · exact Heap.IsTuple.extBut x e n
  · exact Heap.IsList.extBut x e n
theorem IterK.to {κ : Bool} {g g' : Heap} {it l : Addr} {k : Nat} (x : IterK κ g it l k) (e : ∀ o, g.get? it = some o → g'.get? it = some o) : IterK κ g' it l k := by
  cases κ
  · exact Heap.IsTupleIter.at x e
  · exact Heap.IsListIter.at x e
theorem IterK.some {κ : Bool} {g : Heap} {it l : Addr} {k : Nat} (x : IterK κ g it l k) : ∃ o, g.get? it = .some o ∧ ∀ v, o.data ≠ .cell v := by
  cases κ
  · obtain ⟨o, a, _, d⟩ := x
    exact ⟨o, a, fun v z => by rw [d] at z; cases z⟩
  · obtain ⟨o, a, _, d⟩ := x
    exact ⟨o, a, fun v z => by rw [d] at z; cases z⟩
/-! ### zip(a, b) made -/
/-! ### a loop over it -/
def SqK (κ : Bool) (K : PySem.W.Frag) (H : Hp) (a : Addr) (xs : List V) : Prop := match κ with | true => SqL K H a xs | false => SqT K H a xs
theorem SqK.inj {X : Cx} {pins : List (Addr × Obj)} {σ : L2.St} {H : Hp} {s : Shared} {κ : Bool} {a : Addr} {xs ys : List V} (I : Inv X pins σ H s) (q : SqK κ X.K H a xs) (r : SqK κ X.K H a ys) : xs = ys := by
  cases κ
  · exact I.tuple_inj q r
  · exact I.list_inj q r
end DLZ
namespace DL
open PySem PySem.Spec PyProof.Rows L2 Evl DLZ
end DL
/-! a tuple repeated any number of times -/
namespace DLZ
open PySem PySem.Spec PyProof.Rows L2
end DLZ
namespace DL
open PySem PySem.Spec PyProof.Rows L2 Evl DLZ
end DL
namespace DL
open PySem PySem.Spec PyProof.Rows L2 Evl
/-! ### numbers and None -/
def optD : Option Int → D
  | none => .non
  | some i => .int i
end DL
namespace DL
open PySem PySem.Spec PyProof.Rows L2 Evl
end DL
namespace DL
open PySem PySem.Spec PyProof.Rows L2 Evl
/-! ### a call of one of several defs -/
end DL
namespace DL
open PySem PySem.Spec PyProof.Rows L2 Evl
theorem pe_globC {X : Cx} {x : Str} {i : Int} {pos : Pos} (hm : ∃ t, X.mg x = some (.int i t)) (hg : Gl X x := by rfl) (hd : (x == ("__debug__" : Str)) = false := by decide) : PE X (.Name x pos) (tC (.int i)) := by
  obtain ⟨t, h⟩ := hm
  exact pe_glob hg h ⟨t, rfl⟩ hd
end DL
namespace DL
open PySem PySem.Spec PyProof.Rows L2 Evl
end DL
namespace DL
open PySem PySem.Spec PyProof.Rows L2 Evl
end DL
namespace DL
open PySem PySem.Spec PyProof.Rows L2 Evl
/-! the law's end where tables of code are made -/
def tblH (ts : List Addr) (H0 : Hp) : Hp := fun b => if b ∈ ts then some (.tbl #[]) else H0 b
theorem tblH_at {ts : List Addr} {H0 : Hp} {b : Addr} {u : HO} (h : tblH ts H0 b = some u) : (b ∈ ts ∧ u = .tbl #[]) ∨ (b ∉ ts ∧ H0 b = some u) := by
  unfold tblH at h
  split at h
  · next c => cases h; exact .inl ⟨c, rfl⟩
  · next c => exact .inr ⟨c, h⟩
section
variable {P : Program} {w : World} {K : PySem.W.Frag} {mg mb : Str → Option Value} {a : Addr} {ob : Obj} {ws : List V}
theorem law_endT {k : Nat} {fa : Addr} {fd : FuncData} {x : Str} {s : Shared} {vs : List Value} {ns : List Int} {cs : List (Addr × Addr)}
    (inK : K.In s.heap) (main : s.heap.Ns mainGlobals mg) (blt : s.heap.Ns builtinsNs mb) (boot : ∀ y : Str, y ≠ "__name__" → mb y = bootBuiltins y) (lim : s.heap.NoLimit) (gens : s.gens = #[])
    (tab0 : ∀ p ∈ cs, s.heap.get? p.2 = some { cls := .none, data := .fields #[] }) (tabN : ∀ p ∈ cs, K.lookup p.2 = none) (hd : ∀ p ∈ cs, PySem.W.CodeHd s.heap p.1 p.2) (mine : ∀ q ∈ tabsOf K, ∃ p ∈ cs, p.2 = q.1)
    (bm : ∃ (bm : Addr) (ob : Obj), mg "__builtins__" = some (.ref bm) ∧ bm ≠ builtinsNs ∧ s.heap.get? bm = some ob ∧ ob.cls = .type "module" ∧ ob.dict = some builtinsNs ∧ ob.data = .plain)
    (obj : s.heap.get? a = some { cls := .type "list", data := .seq vs.toArray }) (isInts : IntsAre vs ns) (most : ns.length ≤ 63) (room : Room k callerA)
    (G : ∀ base : Heap, K.In base → base.Ns mainGlobals mg → (∀ p ∈ cs, LamX.TabB base mg p.1 p.2) → FnG P w K mg base k fa fd [x] (spLaw K)) (bind : ∀ (t : Shared) (u : Value), BindsTo t fd ⟨[u], []⟩ [(x, u)]) :
    codeAny (model P w) callerA (.call (.ref fa) ⟨[.ref a], []⟩) (fun r t => r = .ok (.ret (.bool true)) ∧ OldK s.heap t.heap ∧ t.os = s.os ∧ AllBare t.gens) s := by
  have lenV : vs.length = ns.length := isInts.length
  have rv : Vals (ns.map V.int) vs := vals_ints isInts
  have z63 : (63 : Nat) ≤ sizeLine := by decide
  let ts : List Addr := cs.map (·.2)
  have tabT : ∀ b ∈ ts, s.heap.get? b = some { cls := .none, data := .fields #[] } := fun b hb => by
    obtain ⟨p, hp, rfl⟩ := List.mem_map.mp hb
    exact tab0 p hp
  have inT : ∀ p ∈ cs, p.2 ∈ ts := fun p hp => List.mem_map.mpr ⟨p, hp, rfl⟩
  have aNo : a ∉ ts := fun z => by
    have q := tabT a z
    rw [obj] at q
    exact Data.noConfusion (congrArg Obj.data (Option.some.inj q))
  let H : Hp := tblH ts (scriptH K a { cls := .type "list", data := .seq vs.toArray } (ns.map V.int))
  have atH : ∀ {b : Addr} {u : HO}, H b = some u → (b ∈ ts ∧ u = .tbl #[]) ∨ (b = a ∧ K.lookup a = none ∧ u = .frz { cls := .type "list", data := .seq vs.toArray } (.lst (ns.map V.int))) := fun {b u} h => by
    rcases tblH_at h with z | ⟨_, z⟩
    · exact .inl z
    · exact .inr (scriptH_at z)
  have okH : HOk P w H s.heap := fun b u h => by
    rcases atH h with ⟨z, rfl⟩ | ⟨rfl, _, rfl⟩
    · exact tabT b z
    · exact ⟨obj, by rw [List.length_map]; omega, vs, _, rv, obj⟩
  have seen : SqL K H a (ns.map V.int) := by
    cases hk : K.lookup a with
    | some o =>
      have e := inK a o hk
      rw [obj] at e
      cases e
      exact .inr ⟨_, vs.toArray, _, hk, rfl, rfl, rfl, by rw [List.size_toArray, lenV]; omega, by simpa using rv⟩
    | none => exact .inl (.inr ⟨{ cls := .type "list", data := .seq vs.toArray }, by
        show tblH ts (scriptH K a _ _) a = _
        unfold tblH
        rw [if_neg aNo]
        unfold scriptH
        rw [if_pos ⟨rfl, by rw [hk]; rfl⟩]⟩)
  have hidden : ∀ {b : Addr} {o : Obj}, s.heap.get? b = some o → (∀ us n, o.data ≠ .seq us n) → o.data ≠ .fields #[] → (hidT s.heap H).get? b = some o := fun {b o} e d1 d2 => hidT_get e (by
    cases q : H b with
    | none => rfl
    | some u =>
      rcases atH q with ⟨z, rfl⟩ | ⟨rfl, _, rfl⟩
      · rw [tabT b z] at e; cases e
        exact (d2 rfl).elim
      · rw [obj] at e; cases e
        exact (d1 _ _ rfl).elim)
  have nsH : ∀ {b : Addr} {m : Str → Option Value}, s.heap.Ns b m → (hidT s.heap H).Ns b m := fun ⟨o, es, ep, e, d, r⟩ => ⟨o, es, ep, hidden e (fun us n z => by rw [d] at z; cases z) (fun z => by rw [d] at z; cases z), d, r⟩
  have inH : K.In (hidT s.heap H) := fun b o e => hidT_get (inK b o e) (by
    cases q : H b with
    | none => rfl
    | some u =>
      rcases atH q with ⟨z, rfl⟩ | ⟨rfl, n, _⟩
      · obtain ⟨p, hp, rfl⟩ := List.mem_map.mp z
        rw [tabN p hp] at e; cases e
      · rw [n] at e; cases e)
  have md : Mod K mg (hidT s.heap H) := ⟨inH, nsH main, ⟨mb, nsH blt, boot⟩, let ⟨mc, p, q⟩ := lim; ⟨mc, nsH p, q⟩⟩
  have tb : ∀ p ∈ cs, LamX.TabB (hidT s.heap H) mg p.1 p.2 := fun p hp => by
    have t0 := tab0 p hp
    refine ⟨?_, ?_, fun z => ?_⟩
    · obtain ⟨o, us, file, tf, flags, tg, inF, text, tt, e1, r1, r2, r3, rest⟩ := hd p hp
      refine ⟨o, us, file, tf, flags, tg, inF, text, tt, hidden e1 (fun _ _ z => by rw [r2] at z; cases z) (fun z => ?_), r1, r2, r3, rest⟩
      rw [r2] at z; cases z
      simp at r3
    · obtain ⟨bm, ob, b1, b2, b3, b4, b5, b6⟩ := bm
      refine ⟨bm, ob, b1, b2, fun q => ?_, fun q => ?_, hidden b3 (fun _ _ z => by rw [b6] at z; cases z) (fun z => by rw [b6] at z; cases z), b4, b5, b6⟩
      · obtain ⟨o, es, ep, e, d, _⟩ := main
        rw [q, e] at b3; cases b3
        rw [d] at b6; cases b6
      · rw [q, t0] at b3; cases b3
        cases b6
    · obtain ⟨o, es, ep, e, d, _⟩ := main
      rw [z, t0] at e; cases e
      cases d
  have env : Env0 P w K mg (hidT s.heap H) callerA [] s H := ⟨rfl, md, fun b o e => of_hidT e, Nat.le_of_eq (hidT_size _ _), trivial, fun b hb => absurd (show b ∈ ([] : List Addr) from hb) (by simp), okH, .of_eq gens⟩
  have tk : TabK K (fun _ => none) H := ⟨fun q hq => by
    obtain ⟨p, hp, e⟩ := mine q hq
    refine LamX.TabS.nil ?_
    show tblH ts _ q.1 = _
    unfold tblH
    rw [if_pos (by rw [← e]; exact inT p hp)], fun _ _ => rfl⟩
  refine codeAny_mono ((G _ inH (nsH main) tb).go callerA rfl room [] s H env ⟨[.ref a], []⟩ [.ref a] [.ref a] (bind s (.ref a)) (.cons rfl .nil) (fun v _ => v = .bl true) (fun _ _ _ => False) ⟨a, ns, ⟨rfl, tk⟩, seen, most, fun _ => rfl⟩) fun r t h => ?_
  match r, h with
  | .error e, h =>
    obtain ⟨_, _, _, _, _, _, _, _, _, _, _, _, z⟩ := (show L2.CX P w [] H s (fun _ _ _ => False) e t from h)
    exact z.elim
  | .ok .next, h => exact False.elim h
  | .ok .brk, h => exact False.elim h
  | .ok .cont, h => exact False.elim h
  | .ok (.ret u), ⟨v, H', os, bare, un, ok', r', q⟩ =>
    have q : v = .bl true := q
    subst q
    obtain rfl : u = Value.bool true := r'
    have tbH : ∀ p ∈ cs, H p.2 = some (.tbl #[]) := fun p hp => by
      show tblH ts _ p.2 = _
      unfold tblH
      rw [if_pos (inT p hp)]
    have more : ∀ p ∈ cs, ∃ xs : Array Value, t.heap.get? p.2 = some { cls := .none, data := .fields xs } := fun p hp => by
      obtain ⟨xs, z⟩ := un.tbls p.2 #[] (tbH p hp)
      exact ⟨_, ok' p.2 _ z⟩
    have rest : ∀ b o, b ∉ ts → s.heap.get? b = some o → t.heap.get? b = some o := fun b o nb e => by
      cases q : H b with
      | none => exact un.keep b o e q (by intro z; exact absurd (show b ∈ ([] : List Addr) from z) (by simp)) (by simp)
      | some u =>
        rcases atH q with ⟨z, _⟩ | ⟨rfl, _, rfl⟩
        · exact absurd z nb
        · obtain ⟨e1, _⟩ := okH _ _ q
          obtain ⟨e2, _⟩ := ok' _ _ (un.frzs _ _ _ q)
          rw [e] at e1; cases e1
          exact e2
    refine ⟨rfl, ⟨fun b o e => ?_, fun b o e => ?_⟩, os, bare⟩
    · by_cases hb : b ∈ ts
      · obtain ⟨p, hp, rfl⟩ := List.mem_map.mp hb
        obtain ⟨xs, hx⟩ := more p hp
        rw [tab0 p hp] at e; cases e
        exact .inr (.inl ⟨((hd p hp).tab (tab0 p hp)).isCodeTable, rfl, #[], xs, rfl, by rw [Array.empty_append]; exact hx⟩)
      · exact .inl (rest b o hb e)
    · by_cases hb : b ∈ ts
      · obtain ⟨p, hp, rfl⟩ := List.mem_map.mp hb
        obtain ⟨xs, hx⟩ := more p hp
        exact ⟨_, hx⟩
      · exact ⟨o, rest b o hb e⟩
end
/-- the goal that k_head leaves, from the law's promise, tables of code and all -/
theorem walkGT {l : PySem.W.OpenLaw} {k : Nat} {q : Program} {loose : List Str} {XP : (Str → Option Value) → Heap → Prop} {YP : World → Heap → Prop} {d : DefRec} {K : Params → PySem.W.Frag} {x : Str} {cs : List (Addr × Addr)}
    (most : l.most = some 63) (plain : d.params.defaults = []) (room : Room k callerA) (inK : ∀ (w : World) (h : Heap), YP w h → (K w.params).In h)
    (tab0 : ∀ (w : World) (h : Heap), YP w h → ∀ p ∈ cs, h.get? p.2 = some { cls := .none, data := .fields #[] }) (tabN : ∀ (w : World), ∀ p ∈ cs, (K w.params).lookup p.2 = none) (hd : ∀ (w : World) (h : Heap), YP w h → ∀ p ∈ cs, PySem.W.CodeHd h p.1 p.2)
    (mine : ∀ (w : World), ∀ q ∈ tabsOf (K w.params), ∃ p ∈ cs, p.2 = q.1)
    (F : ∀ (w : World) (mg : Str → Option Value) (fa : Addr) (h : Heap), (K w.params).In h → h.Ns mainGlobals mg → mg d.name = some (.ref fa) →
      ∃ fd : FuncData, (∀ (t : Shared) (u : Value), BindsTo t fd ⟨[u], []⟩ [(x, u)]) ∧ ∀ base : Heap, (K w.params).In base → base.Ns mainGlobals mg → (∀ p ∈ cs, LamX.TabB base mg p.1 p.2) → FnG l.prog w (K w.params) mg base k fa fd [x] (spLaw (K w.params))) :
    PySem.W.WalkO q loose XP YP l.row.toRowW d [] (fun f us => PySem.call f us) := by
  refine Att.attach_callB most plain fun w s₀ s mg mb fa o pm cd doc a vs ns G Y ho hdf hcd hmg hobj hints hlen hbits hg => ?_
  obtain ⟨fd, hb, hF⟩ := F w mg fa _ (inK w _ Y) G.T.g hmg
  exact law_endT (inK w _ Y) G.T.g G.T.b G.T.builtins G.T.nolimit hg (tab0 w _ Y) (tabN w) (hd w _ Y) (mine w) G.T.bmain hobj hints hlen room hF hb
end DL
namespace DL
open PySem PySem.Spec PyProof.Rows L2 Evl
/-! the key of a sort, worked out beside all else -/
def ItemAt (h : Heap) (u : Value) (i : Nat) (x : Value) : Prop := ∃ (l : Addr) (items : Array Value), u = .ref l ∧ (h.IsList l items ∨ IsTup h l items) ∧ items[i]? = some x ∧ (i : Int) < 2 ^ 63
theorem ItemAt.keeps {h h' : Heap} {u x : Value} {i : Nat} (k : ∀ b o, h.get? b = some o → h'.get? b = some o) (q : ItemAt h u i x) : ItemAt h' u i x := by
  obtain ⟨l, items, e, q, r⟩ := q
  refine ⟨l, items, e, ?_, r⟩
  rcases q with ⟨o, q1, q2⟩ | ⟨o, q1, q2⟩
  · exact .inl ⟨o, k _ _ q1, q2⟩
  · exact .inr ⟨o, k _ _ q1, q2⟩
end DL
namespace DL
open PySem PySem.Spec PyProof.Rows L2 Evl
end DL
namespace DL
open PySem PySem.Spec PyProof.Rows L2 Evl
end DL
namespace DL
open PySem PySem.Spec PyProof.Rows L2 Evl
end DL
namespace DL
open PySem PySem.Spec PyProof.Rows L2 Evl
end DL
namespace DL
open PySem PySem.Spec PyProof.Rows L2 Evl
/-! a dict out of two lists -/
end DL
namespace DL
open PySem PySem.Spec PyProof.Rows L2 Evl
end DL
namespace DL
open PySem PySem.Spec PyProof.Rows L2 Evl RT
end DL
namespace DL
open PySem PySem.Spec PyProof.Rows L2 Evl
end DL
namespace DL
open PySem PySem.Spec PyProof.Rows L2 Evl
/-! ### xs[i] += e, xs ours -/
end DL
namespace DL
open PySem PySem.Spec PyProof.Rows L2 Evl
/-! ### a def whose own list is its result -/
section
variable {A : Amb} {ρ : Rho} {n : Nat} {S H : Hp} {σ : L2.St} {D : Ends}
theorem seqR {ts us : TS} {N : Rho → Nat → Prop} (h : DS A ts ρ n { nx := N, rt := fun _ _ => False }) (e : ER A n S H σ ρ)
    (k : ∀ S' H' σ' n' ρ', ER A n' S' H' σ' ρ' → N ρ' n' → us D σ' H') : tSeq ts us D σ H :=
  h S H σ e _ ⟨fun ρ' n' S' H' σ' _ e' p => k S' H' σ' n' ρ' e' p, fun _ _ _ _ _ _ _ _ z => z.elim, fun _ _ _ _ _ _ _ z => z.elim, fun _ _ _ _ _ _ _ z => z.elim⟩
end
end DL
namespace DL
open PySem PySem.Spec PyProof.Rows L2 Evl
theorem TabK.putN {K : PySem.W.Frag} {S H : Hp} {p : Addr} {o : HO} (t : TabK K S H) (hp : ∃ xs, H p = some (.dK xs)) : TabK K S (upd H p o) := ⟨fun q hq => by
  obtain ⟨xs, hp⟩ := hp
  obtain ⟨ps, h1, h2, h3⟩ := t.1 q hq
  have n1 : q.1 ≠ p := fun z => by rw [z, hp] at h1; cases h1
  refine ⟨ps, by rw [upd_ne n1]; exact h1, h2, fun pos cv hc => ?_⟩
  obtain ⟨c, e1, e2⟩ := h3 pos cv hc
  refine ⟨c, e1, ?_⟩
  have n2 : c ≠ p := fun z => by
    rw [z, hp] at e2
    have e2 := Option.some.inj e2
    unfold LamX.CodeO at e2
    cases e2
  rw [upd_ne n2]
  exact e2, t.2⟩
theorem Fr.putN {A : Amb} {n : Nat} {S H : Hp} {p : Addr} {o : HO} (f : Fr A n S H) (hs : S p = none) (h0 : A.H0 p = none) (hl : ∃ xs, H p = some (.dK xs)) : Fr A n S (upd H p o) := by
  have np : ∀ a u, A.H0 a = some u → a ≠ p := fun a u e => ne_of_none e h0
  refine ⟨fun a u e => ?_, ⟨f.mv.ss, fun a u e h nt => ?_, fun a ps h => ?_, f.mv.sep⟩, fun a e => ?_, f.tab.putN hl⟩
  · rw [upd_ne (ne_of_none e hs)]; exact f.sub a u e
  · rw [upd_ne (np a u h)]; exact f.mv.fr a u e h
  · rw [upd_ne (np a _ h)]; exact f.mv.tb a ps h
  · obtain ⟨⟨x, y, z, h1, h2⟩, h3, h4⟩ := f.box a e
    have ne : a ≠ p := fun q => h4 (by rw [q]; exact h0)
    exact ⟨⟨x, y, z, by rw [upd_ne ne]; exact h1, h2⟩, h3, h4⟩
/-! d = {k: v for .. in ..}, from then on only read -/
/-! what is done to lists in a list, one deed after another -/
/-! a list of ours is lent: for a while it is read as any value, then it is ours again -/
/-- data that no list stands for -/
def Loose (d : D) : Prop := ∀ (K : PySem.W.Frag) (S S' : Hp) (a : Addr) (v : V) (vs : List V), S a = some (.lst vs) → (∀ x o, x ≠ a → S x = some o → S' x = some o) → Rep K S v d → Rep K S' v d
theorem Loose.int {i : Int} : Loose (.int i) := fun K S S' a v vs h1 h2 r => by cases r.int_inv; exact Rep.int
theorem Loose.str {i : Str} : Loose (.str i) := fun K S S' a v vs h1 h2 r => by cases r.str_inv; exact Rep.str
theorem Loose.raw {u : V} : Loose (.raw u) := fun K S S' a v vs h1 h2 r => by cases r.raw_inv; exact Rep.raw
theorem loose_all : ∀ {ds : List D}, (∀ d ∈ ds, Loose d) → ∀ {K : PySem.W.Frag} {S S' : Hp} {a : Addr} {vs us : List V}, S a = some (.lst vs) → (∀ x o, x ≠ a → S x = some o → S' x = some o) → Reps K S us ds → Reps K S' us ds
  | [], _, K, S, S', a, vs, us, h1, h2, r => by
    unfold Reps at r
    subst r
    exact Reps.nil
  | d :: ds, h, K, S, S', a, vs, us, h1, h2, r => by
    obtain ⟨v, w, rfl, r1, r2⟩ := r.uncons
    exact Reps.cons (h d List.mem_cons_self K S S' a v vs h1 h2 r1) (loose_all (fun x hx => h x (List.mem_cons_of_mem _ hx)) h1 h2 r2)
theorem Loose.tup {ds : List D} (h : ∀ d ∈ ds, Loose d) : Loose (.tup ds) := fun K S S' a v vs h1 h2 r => by
  obtain ⟨b, ws, rfl, x1, x2⟩ := r.tup_inv
  have ne : b ≠ a := fun z => by
    subst z
    rw [h1] at x1; cases x1
  exact Rep.tup (h2 b _ ne x1) (loose_all h h1 h2 x2)
theorem Loose.pr {p : Int × Int} : Loose (DL.pr p) := Loose.tup fun d hd => by
  simp only [List.mem_cons, List.not_mem_nil, or_false] at hd
  rcases hd with rfl | rfl <;> exact Loose.int
theorem Loose.line {l : List (Int × Int)} : Loose (.tup (l.map DL.pr)) := Loose.tup fun d hd => by
  obtain ⟨p, _, rfl⟩ := List.mem_map.mp hd
  exact Loose.pr
end DL
namespace DL
open PySem PySem.Spec PyProof.Rows L2 Evl
/-! e[:0:-1], a tuple -/
end DL
namespace DL
open PySem PySem.Spec PyProof.Rows L2 Evl
section
variable {A : Amb} {ρ : Rho} {n : Nat} {S H : Hp} {σ : L2.St} {D : Ends}
theorem retF {te : TE} {P : DL.D → Nat → Prop} (h : DF A te ρ n fun es m => P (.lst es) m) (e : ER A n S H σ ρ)
    (hq : ∀ a ws es S' H' n', Mv A.b A.S0 A.H0 S' H' → Fr A n' S' H' → A.H0 a = none → H' a = some (.lst ws) → S' a = none → Reps A.K S' ws es → P (.lst es) n' → D.rt (.ref a) H') : tRet te D σ H :=
  h S H σ e _ fun a vs ds S' H' n' m f hn hh hs r p => hq a vs ds S' H' n' (e.f.mv.trans e.f.bt m) f (e.f.h0 hn) hh hs r p
end
end DL
namespace DL
open PySem PySem.Spec PyProof.Rows L2 Evl
/-! sorted(xs), xs a list of data of one shape -/
/-! sorted(xs) of at most one item; is True; appends -/
end DL
namespace DL
open PySem PySem.Spec PyProof.Rows L2 Evl
/-! data in a tuple of data -/
end DL
namespace DL
open PySem PySem.Spec PyProof.Rows L2 Evl
/-! d = dict(ps), ps a list of pairs -/
/-! data in a list of data -/
/-! len(set(ns)), ns a list of ints -/
theorem as_many : ∀ (ns us : List Int), us.Nodup → (∀ k ∈ us, k ∈ ns) → us.length = ns.length → ns.Nodup
  | [], _, _, _, _ => List.nodup_nil
  | x :: ns, us, nd, h, e => by
    rw [List.length_cons] at e
    have out : ¬ ∀ k ∈ us, k ∈ ns := fun z => by
      have := nodup_le nd z
      omega
    have hx : x ∈ us := Classical.byContradiction fun c => out fun k hk => by
      rcases List.mem_cons.mp (h k hk) with z | z
      · exact absurd (z ▸ hk) c
      · exact z
    have hn : x ∉ ns := fun c => out fun k hk => by
      rcases List.mem_cons.mp (h k hk) with z | z
      · rw [z]; exact c
      · exact z
    refine List.nodup_cons.mpr ⟨hn, as_many ns (us.erase x) (nd.sublist List.erase_sublist) (fun k hk => ?_) ?_⟩
    · rcases List.mem_cons.mp (h k (List.mem_of_mem_erase hk)) with z | z
      · rw [z] at hk
        exact absurd hk (fun q => (List.Nodup.mem_erase_iff nd).mp q |>.1 rfl)
      · exact z
    · have := List.length_erase_of_mem hx
      have := List.length_pos_of_mem hx
      omega
theorem dup_less {ns us : List Int} (nd : us.Nodup) (h : ∀ k, k ∈ us ↔ k ∈ ns) : us.length ≤ ns.length ∧ (us.length = ns.length ↔ ns.Nodup) := by
  have le := nodup_le nd fun k hk => (h k).mp hk
  refine ⟨le, fun e => as_many ns us nd (fun k hk => (h k).mp hk) e, fun nd2 => ?_⟩
  have := nodup_le nd2 fun k hk => (h k).mpr hk
  omega
end DL
namespace DL
open PySem PySem.Spec PyProof.Rows L2 Evl
/-! sets by a comprehension, whatever is put into them -/
section
variable {X : Cx}
/-- the new set as an object -/
abbrev emptyS (w : World) : Obj := { cls := .type "set", dict := none, data := .set #[] 0 (.fresh 0 0 (!w.params.followText "set-order")) }
/-- {e for x in xs if t}: o0 stands for the empty set, Ad for what an item does to it -/
def tScG (o0 : Addr → HO) (Ad : Addr → V → HO → HO → Prop) (wi : TI) (g : TG) (tt : TT) (te : TE) (vs : List Nat) : TE := fun σ H Q =>
  wi σ H fun J H1 => ∀ L, H1 L = none → ∃ W : Nat → Nat → Hp → Prop, (∃ m, W 0 m (upd H1 L (o0 L))) ∧
    ∀ i m H', W i m H' → (J.stop i H' ∧ Q (.ref L) H') ∨ (J.go i H' ∧ ∃ Nx : Hp → Prop, (∀ H2, Nx H2 → ∃ k, k < m ∧ W (i + 1) k H2) ∧
      ∀ x H2, J.yld i H' x H2 → g x (wipe σ vs) H2 fun σ3 H3 => wipe σ3 vs = wipe σ vs ∧ tt σ3 H3 fun b H4 =>
        if b = true then te σ3 H4 fun y H5 => ∃ o o', H5 L = some o ∧ Ad L y o o' ∧ Nx (upd H5 L o') else Nx H4)
def AddsTo (X : Cx) (Ad : Addr → V → HO → HO → Prop) : Prop := ∀ Y : Cx, Y.w = X.w → ∀ {qs : List (Addr × Obj)} {τ : L2.St} {G : Hp} {r : Shared} {E Q : Value → Shared → Prop} {L : Addr} {y : V} {u : Value} {o o' : HO},
  Inv Y qs τ G r → G L = some o → RelV y u → Ad L y o o' → (∀ r', Inv Y qs τ (upd G L o') r' → Q .none r') → wpAny (model Y.prog Y.w) Y.A (call (.builtin "set.add") [.ref L, u]) Q E r
/-- the block's loop, from a state in the block -/
theorem scG_loop {Y : Cx} {τ : L2.St} {elt tg iter : Expr} {ifs : List Expr} {scope : Scope} {pos : Pos} {g : TG} {tt : TT} {te : TE} {vs : List Nat} {Ad : Addr → V → HO → HO → Prop} {J : It} {fp : List Addr} {it L : Addr} {tn : Nat → Heap → Prop} {R : Result → Shared → Prop} {Qs : Hp → Prop}
    (calm : Y.calm = true) (T : Turn Y.prog Y.w Y.K tg J fp it tn) (pg : PG Y tg g) (pt : PTs Y ifs tt) (pe : PE Y elt te) (ad : AddsTo Y Ad) (he : Y.xe = fun _ _ => False)
    (hfp : ∀ {σ' : L2.St} {G : Hp} {r : Shared}, Inv Y [] σ' G r → (∀ b ∈ fp, G b = none) → ∀ b ∈ fp, FpOk Y [] G b) (W : Nat → Nat → Hp → Prop)
    (turn : ∀ i m G, W i m G → (J.stop i G ∧ Qs G) ∨ (J.go i G ∧ ∃ Nx : Hp → Prop, (∀ H2, Nx H2 → ∃ k, k < m ∧ W (i + 1) k H2) ∧
      ∀ x H2, J.yld i G x H2 → g x (wipe τ vs) H2 fun σ3 H3 => wipe σ3 vs = wipe τ vs ∧ tt σ3 H3 fun b H4 =>
        if b = true then te σ3 H4 fun y H5 => ∃ o o', H5 L = some o ∧ Ad L y o o' ∧ Nx (upd H5 L o') else Nx H4))
    (fin : ∀ G r, Inv Y [] (wipe τ vs) G r → Qs G → R (.ok .next) r) {m0 : Nat} {G0 : Hp} {r0 : Shared} (J0 : Inv Y [] (wipe τ vs) G0 r0) (t0 : tn 0 r0.heap) (f0 : ∀ b ∈ fp, G0 b = none) (w0 : W 0 m0 G0) :
    codeAny (model Y.prog Y.w) Y.A (.compLoop (.SetComp elt [⟨tg, iter, ifs, 0⟩] scope pos) 0 (.ref it) (.ref L) Y.env) R r0 := by
  refine PpSet.compLoopS_any (fun m r => ∃ i G, Inv Y [] (wipe τ vs) G r ∧ tn i r.heap ∧ (∀ b ∈ fp, G b = none) ∧ W i m G) (fun m r ⟨i, G, JG, tG, fG, wG⟩ => ?_) m0 ⟨0, G0, J0, t0, f0, w0⟩
  rcases turn i m G wG with ⟨stp, qs⟩ | ⟨goes, Nx, nx, each⟩
  · refine thnF (T.done Y rfl rfl rfl calm i [] r _ G (fun _ _ => False) JG (hfp JG fG) tG stp) fun v r1 hv => ?_
    rw [hv.1]
    exact fin G r1 hv.2 qs
  · refine thnF (T.item Y rfl rfl rfl calm i [] r _ G (fun _ _ => False) JG (hfp JG fG) tG goes) fun v r1 hv => ?_
    obtain ⟨u, hu, h1⟩ := hv
    rw [hu]
    refine thnF h1 fun _ r2 h2 => ?_
    obtain ⟨x, G2, J2, ru, yl, t2, f2⟩ := h2
    have JP := J2.pinned (hfp J2 f2) (T.obj _ _ t2)
    -- a turn's end, in the block again
    have over : ∀ {σ' : L2.St} {G' : Hp} {r' : Shared}, wipe σ' vs = wipe τ vs → Inv Y ([] ++ pinsAt fp r2.heap) σ' G' r' → Nx G' → ∃ k, k < m ∧ ∃ j G'', Inv Y [] (wipe τ vs) G'' r' ∧ tn j r'.heap ∧ (∀ b ∈ fp, G'' b = none) ∧ W j k G'' := fun {σ' G' r'} hw JJ hn => by
      obtain ⟨k, hk, wk⟩ := nx G' hn
      have pins2 : ∀ b ∈ fp, ∀ o, r2.heap.get? b = some o → r'.heap.get? b = some o ∧ G' b = none := fun b hb o e => by
        have z := JJ.pin (b, o) (List.mem_append_right _ (List.mem_append_right _ (mem_pinsAt hb e)))
        exact ⟨z.1, z.2.1⟩
      have hlen : (wipe τ vs).length = σ'.length := by rw [← hw, wipe_length]
      refine ⟨k, hk, i + 1, G', (JJ.unpinned (pins := [])).weak hlen (fun j v e => ?_), T.keep _ _ _ t2 fun b hb o e => (pins2 b hb o e).1, fun b hb => ?_, wk⟩
      · rw [← hw] at e; exact (wipe_some e).1
      · obtain ⟨o, e, _⟩ := T.obj _ _ t2 b hb
        exact (pins2 b hb o e).2
    refine thnF (by rw [← he]; exact pg.run _ r2 _ G2 x u _ JP ru (each x G2 yl)) fun _ r3 h3 => ?_
    obtain ⟨σ3, G3, J3, hw3, q3⟩ := h3
    refine thnF (by rw [← he]; exact pt.run _ r3 σ3 G3 _ J3 q3) fun b r4 h4 => ?_
    obtain ⟨G4, J4, q4⟩ := h4
    cases b with
    | false =>
      rw [if_neg Bool.false_ne_true] at q4 ⊢
      exact over hw3 J4 q4
    | true =>
      rw [if_pos rfl] at q4 ⊢
      refine thnF (by rw [← he]; exact pe.run _ r4 σ3 G4 _ J4 q4) fun z r5 h5 => ?_
      obtain ⟨y, G5, J5, ry, o, o', hL, hA, nx5⟩ := h5
      exact ad Y rfl J5 hL ry hA fun r6 J6 => over hw3 J6 nx5
/-- what the block's end leaves -/
theorem compPost_none {M : Model} {A : Around} {E : Value → Shared → Prop} {Q : Value → Shared → Prop} {acc : Value} {C : Addr} {r : Shared} {m : Str → Option Value} (hn : r.heap.Ns C m) (h : ∀ h', Heap.SameBut C r.heap h' → Q acc { r with heap := h' }) : compPost M A E none Q acc C (.ok .next) r := ⟨m, hn, h⟩
theorem pe_scG {elt tg iter : Expr} {ifs : List Expr} {scope : Scope} {own : List (Str × Nat)} {pos : Pos} {wi : TI} {g : TG} {tt : TT} {te : TE} {o0 : Addr → HO} {Ad : Addr → V → HO → HO → Prop}
    (new0 : ∀ (h : Heap) (G : Hp), ObjOk X.prog X.w G (h.push (emptyS X.w)) h.objs.size (o0 h.objs.size)) (ad : AddsTo X Ad)
    (calm : X.calm = true) (nd : X.N.Nodup) (hi : PI X tg iter wi) (bo : BlkOk X.N X.env.scope scope own)
    (pg : ∀ (r : Shared) (G : Hp) (C : Addr) (cl : List (Str × Addr)) (fp : List Addr), PG (X.blk r G scope (compEnvC scope cl C X.env) fp) tg g)
    (pt : ∀ (r : Shared) (G : Hp) (C : Addr) (cl : List (Str × Addr)) (fp : List Addr), PTs (X.blk r G scope (compEnvC scope cl C X.env) fp) ifs tt)
    (pe : ∀ (r : Shared) (G : Hp) (C : Addr) (cl : List (Str × Addr)) (fp : List Addr), PE (X.blk r G scope (compEnvC scope cl C X.env) fp) elt te) (fs : ∀ x, foldedSetIterable iter X.env x = pure x := by intro _; rfl) :
    PE X (.SetComp elt [⟨tg, iter, ifs, 0⟩] scope pos) (tScG o0 Ad wi g tt te (own.map (·.2))) := by
  refine ⟨fun pins r τ G Q I0 h => ?_⟩
  rw [PpSet.eval_SetComp]
  have frees : ∀ y ∈ scope.names, y.2 = .free → ∃ c, X.env.cells.lookup y.1 = some c := fun y hy hf => (bo.free y hy hf).elim (fun k => I0.ok.has _ (Or.inl k)) (fun k => I0.ok.has _ (Or.inr k))
  refine wpAny_comprehension_free (use := none) rfl fs (closure_ok frees) bo.kind (fun y hy hf => by rw [bo.uniq y hy, hf]) (thn (hi.run pins r τ G _ I0 h) fun v1 r1 hv1 => thn hv1 fun v2 r2 hv2 => ?_)
  obtain ⟨it, fp, tn, J, G2, rfl, I2, T, t2, f2, q⟩ := hv2
  refine PpSet.newSet_ok (newEnv_comp ?_)
  have free2 : G2 r2.heap.objs.size = none := I2.hok.fresh (Nat.le_refl _)
  obtain ⟨W, ⟨m0, w0⟩, turn⟩ := q r2.heap.objs.size free2
  have I3 : Inv X pins τ (upd G2 r2.heap.objs.size (o0 r2.heap.objs.size)) { r2 with heap := r2.heap.push (emptyS X.w) } :=
    I2.laid (t' := r2.toks) (fun b o e => Heap.get?_push_of_some _ e) (Nat.le_refl _) (new0 r2.heap _)
  have small : ∀ b ∈ fp, b < r2.heap.objs.size := fun b hb => (T.obj _ _ t2 b hb).elim fun o e => Heap.lt_size e.1
  have f3 : ∀ b ∈ fp, FpOk X pins (upd G2 r2.heap.objs.size (o0 r2.heap.objs.size)) b ∧ b < (r2.heap.push (emptyS X.w)).objs.size := fun b hb => by
    refine ⟨⟨?_, (f2 b hb).2⟩, Nat.lt_of_lt_of_le (small b hb) (by rw [Heap.size_push]; exact Nat.le_succ _)⟩
    rw [upd_ne (Nat.ne_of_lt (small b hb))]
    exact (f2 b hb).1
  have t3 : tn 0 (r2.heap.push (emptyS X.w)) := T.keep _ _ _ t2 fun b _ o e => Heap.get?_push_of_some _ e
  have I4 := block_start I3 bo nd f3
  obtain ⟨L, hL⟩ : ∃ L, L = r2.heap.objs.size := ⟨_, rfl⟩
  rw [← hL] at I3 I4 f3 w0 turn free2
  obtain ⟨r3, hr3⟩ : ∃ x : Shared, x = { r2 with heap := r2.heap.push (emptyS X.w) } := ⟨_, rfl⟩
  have eh3 : r2.heap.push (emptyS X.w) = r3.heap := by rw [hr3]
  rw [← hr3] at I3 I4
  rw [eh3] at f3 t3
  show codeAny _ _ (.compStart (.SetComp elt [⟨tg, iter, ifs, 0⟩] scope pos) 0 (.ref it) (.ref r2.heap.objs.size) (compEnvC scope (cellsFrom ((r2.heap.push (emptyS X.w)).objs.size + 1) scope.names (cloFrom X.env.cells scope.names [])) (r2.heap.push (emptyS X.w)).objs.size X.env)) (compPost (model X.prog X.w) X.A X.xe none (EP X pins τ Q) (.ref r2.heap.objs.size) (r2.heap.push (emptyS X.w)).objs.size) { r2 with heap := pushCells ((r2.heap.push (emptyS X.w)).push { cls := .type "dict", data := .dict #[] }) scope.names }
  rw [← hL, eh3]
  have noFp : ∀ b ∈ fp, upd G2 L (o0 L) b = none := fun b hb => (f3 b hb).1.1
  obtain ⟨G3, hG3⟩ : ∃ x, x = upd G2 L (o0 L) := ⟨_, rfl⟩
  rw [← hG3] at I3 I4 f3 w0 noFp
  obtain ⟨r4, hr4⟩ : ∃ x : Shared, x = { r2 with heap := pushCells (r3.heap.push { cls := .type "dict", data := .dict #[] }) scope.names } := ⟨_, rfl⟩
  have er4 : ({ r3 with heap := pushCells (r3.heap.push { cls := .type "dict", data := .dict #[] }) scope.names } : Shared) = r4 := by rw [hr4, hr3]
  rw [er4] at I4
  rw [← hr4]
  have t4 : tn 0 r4.heap := T.keep _ _ _ t3 fun b _ o e => by rw [hr4]; exact pushCells_keeps _ _ _ _ (Heap.get?_push_of_some _ e)
  obtain ⟨cl, hcl⟩ : ∃ x, x = cellsFrom (r3.heap.objs.size + 1) scope.names (cloFrom X.env.cells scope.names []) := ⟨_, rfl⟩
  rw [← hcl] at I4 ⊢
  refine PpSet.codeAny_compStart_set ?_ (T.self X.A 0 _ _ _ t4 ?_)
  all_goals
    refine scG_loop (Y := X.blk r3 G3 scope (compEnvC scope cl r3.heap.objs.size X.env) fp) (τ := τ) (vs := own.map (·.2)) (Qs := fun G' => Q (.ref L) G') calm T (pg r3 G3 _ cl fp) (pt r3 G3 _ cl fp) (pe r3 G3 _ cl fp) (fun Y hw => ad Y hw) rfl (fun I' hn b hb => ?_) W turn ?_ I4 t4 noFp w0
    · exact ⟨hn b hb, (I'.ok.exf b hb).1, I'.ok.exfs b hb, Or.inl hb, fun x c e => (I'.ok.exf b hb).2 x c e, fun p hp => absurd (show p ∈ ([] : List (Addr × Obj)) ++ [] from hp) (by simp)⟩
    · intro G' r' I6 qq
      have I7 : Inv X pins τ G' r' := I3.call' (ch := fp) I6.os I6.base I6.hok I6.bare fun b hb => by
        have z := (f3 b hb).1.2
        exact ⟨z.2.2.1, z.1, z.2.2.2.1, z.2.2.2.2⟩
      have nC : G' r3.heap.objs.size = none := I6.free
      obtain ⟨m, hm, _⟩ := I6.loc
      obtain ⟨c0, c1, c2, c3, c4, c5⟩ := I3.fpOk (Nat.le_refl _) nC
      exact compPost_none hm fun h' sb => ⟨.ref L, G', I7.turned (t' := r'.toks) (fun b o hb e => (sb.2 b hb).trans e) c0 c1 c3 c4 c5, rfl, qq⟩
end
/-! sets of ints -/
def AdI (w : World) (L : Addr) (y : V) (o o' : HO) : Prop := ∃ (k : Int) (S : Int → Bool) (n : Nat), y = .int k ∧ o = SetO w L S n ∧ n + 1 < scanBound ∧ o' = SetO w L (fun j => S j || decide (j = k)) (if S k = true then n else n + 1)
theorem adI_ok {X : Cx} : AddsTo X (AdI X.w) := by
  intro Y hw qs τ G r E Q L y u o o' I hL ry ⟨k, S, n, ey, eo, room, eo'⟩ fin
  subst ey eo eo'
  obtain ⟨t, rfl⟩ := ry
  rw [← hw] at hL
  refine setR_add (setO_get I hL) room fun h' sb new => fin _ ?_
  have he : ∃ u, h'.get? L = some u := by
    have ⟨o, _, _, _, ho, _⟩ := new
    exact ⟨o, ho⟩
  rw [← hw]
  exact I.write (e := L) (t' := r.toks + 1) (by rw [hL]; trivial) (.inl rfl) (fun b u hb hu => (sb.2 b hb).trans hu) he (setO_new new)
theorem newI_ok {P : Program} {w : World} (h : Heap) (G : Hp) : ObjOk P w G (h.push (emptyS w)) h.objs.size (SetO w h.objs.size (fun _ => false) 0) := setO_new (setR_fresh w)
/-- a heap with one object of fields -/
theorem code_ne {w : World} {c : Addr} {q : Str} {S : Int → Bool} {n : Nat} : LamX.CodeO c q ≠ SetO w c S n := fun e => by
  unfold LamX.CodeO SetO at e
  have e2 := HO.ext.inj e
  have hg : (⟨Array.replicate (c + 1) { cls := .none, data := .fields #[.none, .str q 0] }, {}⟩ : Heap).get? c = some { cls := .none, data := .fields #[.none, .str q 0] } := by
    unfold Heap.get?
    simp
  have := (congrFun e2 ⟨Array.replicate (c + 1) { cls := .none, data := .fields #[.none, .str q 0] }, {}⟩).mp ⟨_, _, _, hg, rfl, rfl⟩
  obtain ⟨o, es, ep, t, ho, _, hd, _⟩ := this
  rw [hg] at ho
  cases ho
  cases hd
theorem TabK.putS {w : World} {K : PySem.W.Frag} {S H : Hp} {p : Addr} {o : HO} {Z : Int → Bool} {n : Nat} (t : TabK K S H) (hp : H p = some (SetO w p Z n)) : TabK K S (upd H p o) := ⟨fun q hq => by
  obtain ⟨ps, h1, h2, h3⟩ := t.1 q hq
  have n1 : q.1 ≠ p := fun z => by rw [z, hp] at h1; cases h1
  refine ⟨ps, by rw [upd_ne n1]; exact h1, h2, fun pos cv hc => ?_⟩
  obtain ⟨c, e1, e2⟩ := h3 pos cv hc
  refine ⟨c, e1, ?_⟩
  have n2 : c ≠ p := fun z => by
    rw [z, hp] at e2
    exact code_ne (Option.some.inj e2).symm
  rw [upd_ne n2]
  exact e2, t.2⟩
theorem Fr.putS {w : World} {A : Amb} {n : Nat} {S H : Hp} {p : Addr} {o : HO} {Z : Int → Bool} {m : Nat} (f : Fr A n S H) (hs : S p = none) (h0 : A.H0 p = none) (hl : H p = some (SetO w p Z m)) : Fr A n S (upd H p o) := by
  have np : ∀ a u, A.H0 a = some u → a ≠ p := fun a u e => ne_of_none e h0
  refine ⟨fun a u e => ?_, ⟨f.mv.ss, fun a u e h nt => ?_, fun a ps h => ?_, f.mv.sep⟩, fun a e => ?_, f.tab.putS hl⟩
  · rw [upd_ne (ne_of_none e hs)]; exact f.sub a u e
  · rw [upd_ne (np a u h)]; exact f.mv.fr a u e h nt
  · rw [upd_ne (np a _ h)]; exact f.mv.tb a ps h
  · obtain ⟨⟨x, y, z, h1, h2⟩, h3, h4⟩ := f.box a e
    have ne : a ≠ p := fun q => h4 (by rw [q]; exact h0)
    exact ⟨⟨x, y, z, by rw [upd_ne ne]; exact h1, h2⟩, h3, h4⟩
theorem nt_set {w : World} {a : Addr} {Z : Int → Bool} {n : Nat} : NT (SetO w a Z n) := fun _ z => nomatch z
/-- len of a set of ints -/
def rLenSet (w : World) : List V → Hp → VK → Prop := fun vs H Q => ∃ (a : Addr) (Z : Int → Bool) (n : Nat), vs = [V.ref a] ∧ H a = some (SetO w a Z n) ∧ Q (.int (n : Int)) H
theorem cr_lenSet {X : Cx} : CallR X (.builtin "len") (rLenSet X.w) := by
  intro pins s σ H vs us Q I r h
  obtain ⟨a, Z, n, rfl, ha, q⟩ := h
  rw [Vals.ref1 r]
  obtain ⟨o, es, ep, t, ho, hex, hd, g, nd, hm, hb, hf, hn, _⟩ := setO_get I ha
  refine call_len_set ho hex hd hf (by unfold scanBound at hb; omega) ⟨.int n, H, I.tok _, ⟨_, by rw [hn]⟩, q⟩
theorem kx_lenSet {X : Cx} (w : World) (h : X.w = w := by rfl) : CallR X (.builtin "len") (rLenSet w) := by subst h; exact cr_lenSet
/-- the walk behind such a comprehension -/
theorem scG_it {J : It} {n : Nat} {G : Hp → Prop} {Y : Nat → Hp → V → Hp → Prop} (wk : Walk J n G Y) {o0 : Addr → HO} {Ad : Addr → V → HO → HO → Prop} {g : TG} {tt : TT} {te : TE} {vs : List Nat} {σ : L2.St} {H1 : Hp} {L : Addr} {Qd : Hp → Prop} (Pv : Nat → Hp → Prop) (h0 : Pv 0 (upd H1 L (o0 L))) (hG : ∀ i H, i ≤ n → Pv i H → G H)
    (hs : ∀ i x H H', i < n → Pv i H → Y i H x H' → g x (wipe σ vs) H' fun σ3 H3 => wipe σ3 vs = wipe σ vs ∧ tt σ3 H3 fun b H4 =>
      if b = true then te σ3 H4 fun y H5 => ∃ o o', H5 L = some o ∧ Ad L y o o' ∧ Pv (i + 1) (upd H5 L o') else Pv (i + 1) H4) (hd : ∀ H, Pv n H → Qd H) :
    ∃ W : Nat → Nat → Hp → Prop, (∃ m, W 0 m (upd H1 L (o0 L))) ∧ ∀ i m H', W i m H' →
      (J.stop i H' ∧ Qd H') ∨ (J.go i H' ∧ ∃ Nx : Hp → Prop, (∀ H2, Nx H2 → ∃ k, k < m ∧ W (i + 1) k H2) ∧ ∀ x H2, J.yld i H' x H2 → g x (wipe σ vs) H2 fun σ3 H3 => wipe σ3 vs = wipe σ vs ∧ tt σ3 H3 fun b H4 =>
        if b = true then te σ3 H4 fun y H5 => ∃ o o', H5 L = some o ∧ Ad L y o o' ∧ Nx (upd H5 L o') else Nx H4) := by
  refine ⟨fun i m H => m = n - i ∧ i ≤ n ∧ Pv i H, ⟨n, by simp, Nat.zero_le _, h0⟩, ?_⟩
  rintro i m H ⟨rfl, hi, p⟩
  have q := hG i H hi p
  by_cases hlt : i < n
  · exact Or.inr ⟨wk.goes i H hlt q, Pv (i + 1), fun H' p' => ⟨n - (i + 1), by omega, rfl, hlt, p'⟩, fun x H' y => hs i x H H' hlt p (wk.yields i H x H' hlt q y)⟩
  · have e : i = n := by omega
    subst e
    exact Or.inl ⟨wk.stops H q, hd H p⟩
section
variable {A : Amb} {te : TE} {tt : TT} {wi : TI} {g : TG} {ρ : Rho} {n : Nat}
/-- len({e for x in xs}), ints: how many, and whether all are different -/
theorem de_lenSc {w : World} {vs : List Nat} {P : D → Nat → Prop} (gw : GW g vs)
    (h : DI A wi ρ n fun ds n1 => ∃ ns : List Int, ns.length = ds.length ∧ ds.length ≤ 1000 ∧ (∀ (i : Nat) (d : D) (k : Int), ds[i]? = some d → ns[i]? = some k →
      DG A g d (wipeR ρ vs) n1 fun ρ2 => DT A tt ρ2 n1 fun b n2 => b = true ∧ DE A te ρ2 n2 fun y n3 => n3 = n1 ∧ y = .int k) ∧ ∀ c : Nat, c ≤ ns.length → (c = ns.length ↔ ns.Nodup) → P (.int (c : Int)) n1) :
    DE A (tCB (rLenSet w) (tCons (tScG (fun a => SetO w a (fun _ => false) 0) (AdI w) wi g tt te vs) tNil)) ρ n P := fun S H σ e Q q =>
  h S H σ e _ fun J ds S1 H1 n1 G Y m1 f1 wk hG hY ⟨ns, hns, hsm, istep, iend⟩ => fun L hL => by
    have hL0 : H L = none := by
      cases z : H L with
      | none => rfl
      | some o => exact absurd hL (m1.there f1.bt (by rw [z]; exact fun y => nomatch y))
    have hS1 : S1 L = none := f1.s0 hL
    have h0L : A.H0 L = none := f1.h0 hL
    have nb : some L ≠ A.b := fun z => (f1.box L z.symm).2.2 h0L
    refine scG_it wk (fun i H' => ∃ (S' : Hp) (us : List Int), Ex S1 S' ∧ Mv A.b S1 H1 S' H' ∧ Fr A n1 S' H' ∧ H' L = some (SetO w L (fun j => decide (j ∈ us)) us.length) ∧ S' L = none ∧ us.Nodup ∧ us.length ≤ i ∧ ∀ k, k ∈ us ↔ k ∈ ns.take i)
      ⟨S1, [], Ex.refl _, Mv.newO hL, f1.newO hL, by rw [upd_same], hS1, List.nodup_nil, Nat.le_refl _, fun k => by simp⟩ (fun i H' _ ⟨S', _, ex, _, f', _⟩ => hG S' H' n1 ex f') ?_ ?_
    · rintro i x H' H3 hi ⟨S', us, ex, mv, f', hH, hS, nd, hl, hm⟩ y
      obtain ⟨S3, d, hdd, m3, f3, r3⟩ := hY i S' H' x H3 n1 hi ex f' y
      obtain ⟨k, hk⟩ : ∃ k, ns[i]? = some k := ⟨ns[i]'(by omega), by simp [show i < ns.length by omega]⟩
      have e3 : ER A n1 S3 H3 σ ρ := (e.mv m1 f1).mv (mv.trans f'.bt m3) f3
      have z := gw x (wipe σ vs) H3 (fun σ3 H3 => tt σ3 H3 fun b H4 => if b = true then te σ3 H4 fun y H5 => ∃ o o', H5 L = some o ∧ AdI w L y o o' ∧ (∃ (S' : Hp) (us : List Int), Ex S1 S' ∧ Mv A.b S1 H1 S' (upd H5 L o') ∧ Fr A n1 S' (upd H5 L o') ∧ (upd H5 L o') L = some (SetO w L (fun j => decide (j ∈ us)) us.length) ∧ S' L = none ∧ us.Nodup ∧ us.length ≤ i + 1 ∧ ∀ k, k ∈ us ↔ k ∈ ns.take (i + 1))
        else (∃ (S' : Hp) (us : List Int), Ex S1 S' ∧ Mv A.b S1 H1 S' H4 ∧ Fr A n1 S' H4 ∧ H4 L = some (SetO w L (fun j => decide (j ∈ us)) us.length) ∧ S' L = none ∧ us.Nodup ∧ us.length ≤ i + 1 ∧ ∀ k, k ∈ us ↔ k ∈ ns.take (i + 1))) ?_
      · rw [wipe_wipe] at z
        exact z
      refine istep i d k hdd hk S3 H3 _ x (e3.wipe vs) r3 _ fun σ2 ρ2 e2 _ p2 => ?_
      refine p2 S3 H3 σ2 e2 _ fun b S4 H4 n4 m4 f4 ⟨hb, p4⟩ => ?_
      subst hb
      have nH : ∀ {S' H' S'' H'' : Hp} {v : HO}, NT v → Mv A.b S' H' S'' H'' → H' L = some v → S' L = none → H'' L = some v ∧ S'' L = none := fun nt m a b => ⟨m.fr L _ nb a nt, m.sep L (by rw [a]; exact fun z => nomatch z) b⟩
      have x3 := nH nt_set m3 hH hS
      have x4 := nH nt_set m4 x3.1 x3.2
      have mv3 := mv.trans f'.bt m3
      have mv4 := mv3.trans f3.bt m4
      rw [if_pos rfl]
      refine p4 S4 H4 σ2 (e2.mv m4 f4) _ fun u1 d1 S5 H5 n5 m5 f5 r5 ⟨hn5, hd1⟩ => ?_
      subst hn5 hd1
      cases r5.int_inv
      have x5 := nH nt_set m5 x4.1 x4.2
      have mv5 := mv4.trans f4.bt m5
      have exx : Ex S' S5 := m3.ss.trans (m4.ss.trans m5.ss)
      have tk := take_one_more hk
      refine ⟨_, _, x5.1, ⟨k, _, _, rfl, rfl, by unfold scanBound; omega, rfl⟩, S5, if k ∈ us then us else k :: us, ex.trans exx, ?_, f5.putS x5.2 h0L x5.1, ?_, x5.2, ?_, ?_, ?_⟩
      · refine ⟨mv5.ss, fun a o hb ha nt => ?_, fun a ps ha => ?_, mv5.sep⟩
        · rw [upd_ne (ne_of_none ha hL)]
          exact mv5.fr a o hb ha nt
        · rw [upd_ne (ne_of_none ha hL)]
          exact mv5.tb a ps ha
      · rw [upd_same]
        by_cases c : k ∈ us
        · rw [if_pos c, if_pos (decide_eq_true c)]
          congr 2
          funext j
          by_cases cj : j = k
          · subst cj; simp [c]
          · simp [cj]
        · rw [if_neg c, if_neg (by simp [c])]
          congr 2
          funext j
          by_cases cj : j = k
          · subst cj; simp
          · simp [cj]
      · by_cases c : k ∈ us
        · rw [if_pos c]; exact nd
        · rw [if_neg c]; exact List.nodup_cons.mpr ⟨c, nd⟩
      · by_cases c : k ∈ us
        · rw [if_pos c]; omega
        · rw [if_neg c, List.length_cons]; omega
      · intro j
        rw [tk, List.mem_append, List.mem_singleton, ← hm j]
        by_cases c : k ∈ us
        · rw [if_pos c]
          exact ⟨Or.inl, fun z => z.elim id fun z => by rw [z]; exact c⟩
        · rw [if_neg c, List.mem_cons]
          exact Or.comm
    · rintro H' ⟨S', us, ex, mv, f', hH, hS, nd, hl, hm⟩
      rw [List.take_of_length_le (by omega)] at hm
      have dl := dup_less nd hm
      exact ⟨L, _, _, rfl, hH, q _ _ S' H' n1 (m1.trans f1.bt mv) f' Rep.int (iend us.length dl.1 dl.2)⟩
end
end DL
namespace DL
open PySem PySem.Spec PyProof.Rows L2 Evl
/-! > of data -/
end DL
namespace DL
open PySem PySem.Spec PyProof.Rows L2 Evl
/-! dicts of one's own -/
def putD (kvs : List (Key × D)) (k : Key) (v : D) : List (Key × D) := if kvs.any (fun kv => decide (kv.1 = k)) then kvs.map (fun kv => if kv.1 = k then (kv.1, v) else kv) else kvs ++ [(k, v)]
def valD (kvs : List (Key × D)) (k : Key) : Option D := (kvs.find? fun kv => decide (kv.1 = k)).map (·.2)
theorem kreps_nil {K : PySem.W.Frag} {S : Hp} : KReps K S [] [] := ⟨rfl, Reps.nil⟩
theorem kreps_uncons {K : PySem.W.Frag} {S : Hp} {ks : List (Key × V)} {k : Key} {d : D} {r : List (Key × D)} (h : KReps K S ks ((k, d) :: r)) : ∃ v ks', ks = (k, v) :: ks' ∧ Rep K S v d ∧ KReps K S ks' r := by
  obtain ⟨h1, h2⟩ := h
  match ks, h1 with
  | [], h1 => cases h1
  | x :: ks, h1 =>
    simp only [List.map_cons, List.cons.injEq] at h1
    obtain ⟨v, r', e, q, q'⟩ := h2.uncons
    simp only [List.map_cons, List.cons.injEq] at e
    refine ⟨x.2, ks, ?_, by rw [e.1]; exact q, h1.2, by rw [e.2]; exact q'⟩
    rw [← h1.1]
theorem kreps_cons {K : PySem.W.Frag} {S : Hp} {ks : List (Key × V)} {k : Key} {v : V} {d : D} {r : List (Key × D)} (h : Rep K S v d) (t : KReps K S ks r) : KReps K S ((k, v) :: ks) ((k, d) :: r) :=
  ⟨by simp only [List.map_cons, t.1], Reps.cons h t.2⟩
theorem kreps_any {K : PySem.W.Frag} {S : Hp} (k : Key) : ∀ {kvs : List (Key × D)} {ks : List (Key × V)}, KReps K S ks kvs → (ks.any fun kv => decide (kv.1 = k)) = kvs.any fun kv => decide (kv.1 = k)
  | [], ks, h => by
    have : ks = [] := List.map_eq_nil_iff.mp h.1
    rw [this]; rfl
  | (j, d) :: r, ks, h => by
    obtain ⟨v, ks', rfl, _, t⟩ := kreps_uncons h
    rw [List.any_cons, List.any_cons, kreps_any k t]
theorem kreps_val {K : PySem.W.Frag} {S : Hp} (k : Key) : ∀ {kvs : List (Key × D)} {ks : List (Key × V)}, KReps K S ks kvs → (valV ks k = none ∧ valD kvs k = none) ∨ ∃ v d, valV ks k = some v ∧ valD kvs k = some d ∧ Rep K S v d
  | [], ks, h => by
    have : ks = [] := List.map_eq_nil_iff.mp h.1
    rw [this]; exact Or.inl ⟨rfl, rfl⟩
  | (j, d) :: r, ks, h => by
    obtain ⟨v, ks', rfl, q, t⟩ := kreps_uncons h
    by_cases c : j = k
    · exact Or.inr ⟨v, d, by simp [valV, List.find?_cons, c], by simp [valD, List.find?_cons, c], q⟩
    · rcases kreps_val k t with ⟨a, b⟩ | ⟨v', d', a, b, e⟩
      · exact Or.inl ⟨by simpa [valV, List.find?_cons, c] using a, by simpa [valD, List.find?_cons, c] using b⟩
      · exact Or.inr ⟨v', d', by simpa [valV, List.find?_cons, c] using a, by simpa [valD, List.find?_cons, c] using b, e⟩
theorem kreps_map {K : PySem.W.Frag} {S : Hp} (k : Key) {v : V} {d : D} (hv : Rep K S v d) : ∀ {kvs : List (Key × D)} {ks : List (Key × V)}, KReps K S ks kvs → KReps K S (ks.map fun kv => if kv.1 = k then (kv.1, v) else kv) (kvs.map fun kv => if kv.1 = k then (kv.1, d) else kv)
  | [], ks, h => by
    have : ks = [] := List.map_eq_nil_iff.mp h.1
    rw [this]; exact kreps_nil
  | (j, x) :: r, ks, h => by
    obtain ⟨u, ks', rfl, q, t⟩ := kreps_uncons h
    rw [List.map_cons, List.map_cons]
    by_cases c : j = k
    · rw [if_pos c, if_pos c]; exact kreps_cons hv (kreps_map k hv t)
    · rw [if_neg c, if_neg c]; exact kreps_cons q (kreps_map k hv t)
theorem kreps_snoc {K : PySem.W.Frag} {S : Hp} {k : Key} {v : V} {d : D} (hv : Rep K S v d) : ∀ {kvs : List (Key × D)} {ks : List (Key × V)}, KReps K S ks kvs → KReps K S (ks ++ [(k, v)]) (kvs ++ [(k, d)])
  | [], ks, h => by
    have : ks = [] := List.map_eq_nil_iff.mp h.1
    rw [this]; exact kreps_cons hv kreps_nil
  | (j, x) :: r, ks, h => by
    obtain ⟨u, ks', rfl, q, t⟩ := kreps_uncons h
    exact kreps_cons q (kreps_snoc hv t)
theorem kreps_put {K : PySem.W.Frag} {S : Hp} {k : Key} {v : V} {d : D} (hv : Rep K S v d) {kvs : List (Key × D)} {ks : List (Key × V)} (h : KReps K S ks kvs) : KReps K S (putK ks k v) (putD kvs k d) := by
  unfold putK putD
  rw [kreps_any k h]
  split
  · exact kreps_map k hv h
  · exact kreps_snoc hv h
theorem kreps_len {K : PySem.W.Frag} {S : Hp} {kvs : List (Key × D)} {ks : List (Key × V)} (h : KReps K S ks kvs) : ks.length = kvs.length := by
  have := congrArg List.length h.1
  rwa [List.length_map, List.length_map] at this
/-- no dict of ours -/
def noDic (ρ : Rho) : Bool := ρ.all fun s => match s with | .dic _ => false | _ => true
section
variable {A : Amb} {n : Nat} {S H : Hp} {σ : L2.St} {ρ : Rho}
theorem ER.dic (e : ER A n S H σ ρ) {i : Nat} {kvs : List (Key × D)} (h : ρ[i]? = some (.dic kvs)) : ∃ a ks, σ[i]? = some (some (.ref a)) ∧ H a = some (.dK ks) ∧ KReps A.K S ks kvs ∧ S a = none ∧ A.H0 a = none := by
  obtain ⟨o, h1, a, vs, h2, h3⟩ := e.sl i _ h
  exact ⟨a, vs, by rw [h1, h2], h3⟩
/-- a dict is stored at i, the only one -/
theorem ER.setDic (e : ER A n S H σ ρ) {i : Nat} {a : Addr} {ks : List (Key × V)} {kvs : List (Key × D)} (hh : H a = some (.dK ks)) (r : KReps A.K S ks kvs) (hs : S a = none) (h0 : A.H0 a = none) : ER A n S H (σ.set i (some (.ref a))) (ρ.set i (.dic kvs)) := by
  refine ⟨e.f, by simp [e.len], fun j s h => ?_, fun j k ds es hne h1 h2 => ?_⟩
  · by_cases q : i = j
    · subst q
      have lt : i < ρ.length := by
        have := (List.getElem?_eq_some_iff.mp h).1
        simpa using this
      rw [List.getElem?_set_self (by rw [e.len]; exact lt)]
      rw [List.getElem?_set_self lt] at h
      cases h
      exact ⟨_, rfl, a, ks, rfl, hh, r, hs, h0⟩
    · rw [List.getElem?_set_ne q] at h ⊢
      exact e.sl j s h
  · have f1 : ∀ k ds, (ρ.set i (.dic kvs))[k]? = some (.own ds) → i ≠ k := fun k ds h z => by
      subst z
      have lt : i < ρ.length := by
        have := (List.getElem?_eq_some_iff.mp h).1
        simpa using this
      rw [List.getElem?_set_self lt] at h
      cases h
    have g1 := f1 j ds h1
    have g2 := f1 k es h2
    rw [List.getElem?_set_ne g1] at h1 ⊢
    rw [List.getElem?_set_ne g2] at h2 ⊢
    exact e.ap j k ds es hne h1 h2
/-- the dict at i is written; there is no other one -/
theorem ER.putDic (e : ER A n S H σ ρ) {i : Nat} {kvs kvs' : List (Key × D)} {a : Addr} {ks' : List (Key × V)} (h : ρ[i]? = some (.dic kvs)) (one : noDic (ρ.set i .un) = true) (ha : σ[i]? = some (some (.ref a))) (r : KReps A.K S ks' kvs') : ER A n S (upd H a (.dK ks')) σ (ρ.set i (.dic kvs')) := by
  obtain ⟨a', vs, h1, h2, h3, h4, h5⟩ := e.dic h
  rw [ha] at h1; cases h1
  have li : i < ρ.length := (List.getElem?_eq_some_iff.mp h).1
  refine ⟨e.f.putN h4 h5 ⟨_, h2⟩, by simp [e.len], fun j s hj => ?_, fun j k es es' hne g1 g2 => ?_⟩
  · by_cases q : i = j
    · subst q
      rw [List.getElem?_set_self li] at hj
      cases hj
      exact ⟨_, ha, a, ks', rfl, upd_same, r, h4, h5⟩
    · have hj0 := hj
      rw [List.getElem?_set_ne q] at hj
      obtain ⟨o, x1, x2⟩ := e.sl j s hj
      refine ⟨o, x1, ?_⟩
      cases s with
      | un => trivial
      | val d => exact x2
      | own es =>
        obtain ⟨b, ws, y1, y2, y3, y4, y5⟩ := x2
        have ne : b ≠ a := fun z => by
          subst z
          rw [h2] at y2; cases y2
        exact ⟨b, ws, y1, by rw [upd_ne ne]; exact y2, y3, y4, y5⟩
      | dic es =>
        have hj2 : (ρ.set i .un)[j]? = some (.dic es) := by rw [List.getElem?_set_ne q]; exact hj
        have := List.all_eq_true.mp one _ (List.mem_of_getElem? hj2)
        cases this
      | nd es =>
        obtain ⟨b, ws, y1, y2, y3, y4, y5⟩ := x2
        have ne : b ≠ a := fun z => by
          subst z
          rw [h2] at y2; cases y2
        exact ⟨b, ws, y1, by rw [upd_ne ne]; exact y2, y3, y4, y5⟩
  · have f1 : ∀ (k : Nat) (es : List D), (ρ.set i (.dic kvs'))[k]? = some (.own es) → ρ[k]? = some (.own es) := fun k es h' => by
      by_cases q : i = k
      · subst q; rw [List.getElem?_set_self li] at h'; cases h'
      · rw [List.getElem?_set_ne q] at h'; exact h'
    exact e.ap j k _ _ hne (f1 j es g1) (f1 k es' g2)
end
section
variable {A : Amb} {te tk tv : TE} {tt : TT} {ts : TS} {ρ : Rho} {n : Nat} {T : DEnds}
/-- xs, d = [], {} -/
theorem ds_parOD {i j : Nat} (h : T.nx ((ρ.set i (.own [])).set j (.dic [])) n) : DS A (tPar i j (tCons (tLst tNil) (tCons tDNewK tNil))) ρ n T := fun S H σ e D k => by
  refine ⟨Nat.zero_le _, fun a ha => ?_⟩
  have fa := e.f.newO (o := .lst []) ha
  have ea : ER A n S (upd H a (.lst [])) σ ρ := e.mv (Mv.newO ha) fa
  intro p hp
  have npa : a ≠ p := fun z => by rw [← z, upd_same] at hp; cases hp
  have fp := ea.f.newO (o := .dK []) hp
  have ep := ea.mv (Mv.newO hp) fp
  have e1 := ep.setOwn (i := i) (a := a) (vs := []) (ds := []) (fun j es hj z => by
    obtain ⟨c, ws, h1, h2, _⟩ := e.own hj
    rw [z] at h1; cases h1
    rw [ha] at h2; cases h2) (by rw [upd_ne npa, upd_same]) Reps.nil (e.f.s0 ha) (e.f.h0 ha)
  have e2 := e1.setDic (i := j) (a := p) (ks := []) (kvs := []) upd_same kreps_nil (ea.f.s0 hp) (ea.f.h0 hp)
  exact ⟨_, _, rfl, k.nx _ n S _ _ (Ex.refl S) e2 h⟩
theorem de_ninDic {i : Nat} {kvs : List (Key × D)} {P : D → Nat → Prop} (hi : ρ[i]? = some (.dic kvs)) (h : DE A te ρ n fun d m => ∃ x : Int, d = .int x ∧ P (.bl (!(valD kvs (Sum.inl x)).isSome)) m) : DE A (tDNotIn te (tVar i)) ρ n P := fun S H σ e Q q =>
  h S H σ e _ fun v d S1 H1 n1 m1 f1 r1 ⟨x, hd, p⟩ => by
    subst hd
    cases r1.int_inv
    obtain ⟨a, ks, g1, g2, g3, _⟩ := (e.mv m1 f1).dic hi
    refine ⟨.ref a, g1, a, valV ks (Sum.inl x : Key), rfl, Or.inl ⟨ks, Sum.inl x, Or.inl g2, rfl, rfl⟩, q _ _ S1 H1 n1 m1 f1 ?_ p⟩
    rcases kreps_val (Sum.inl x : Key) g3 with ⟨a, b⟩ | ⟨v', d', a, b, _⟩ <;> rw [a, b] <;> exact Rep.bl
/-- d[k] = e -/
theorem ds_putDic {i : Nat} {kvs : List (Key × D)} (hi : ρ[i]? = some (.dic kvs)) (one : noDic (ρ.set i .un) = true) (h : DE A tv ρ n fun d m => DE A tk ρ m fun x m2 => ∃ k : Int, x = .int k ∧ kvs.length < 100000 ∧ T.nx (ρ.set i (.dic (putD kvs (Sum.inl k) d))) m2) : DS A (sDPut (tVar i) tk tv) ρ n T := fun S H σ e D k =>
  h S H σ e _ fun v d S1 H1 n1 m1 f1 r1 p1 => by
    have e1 := e.mv m1 f1
    obtain ⟨a, ks, g1, _⟩ := e1.dic hi
    refine ⟨.ref a, g1, p1 S1 H1 σ e1 _ fun y dy S2 H2 n2 m2 f2 r2 ⟨x, hx, hl, p2⟩ => ?_⟩
    subst hx
    cases r2.int_inv
    have e2 := e1.mv m2 f2
    obtain ⟨a', ks', g1', g2', g3', _⟩ := e2.dic hi
    rw [g1] at g1'; cases g1'
    refine ⟨a, _, rfl, Or.inl ⟨ks', Sum.inl x, g2', rfl, Evl.sz_lt (by rw [kreps_len g3']; exact hl), rfl⟩, ?_⟩
    exact k.nx _ n2 S2 _ σ (m1.ss.trans m2.ss) (e2.putDic hi one g1 (kreps_put (r1.mono m2.ss) g3')) p2
end
end DL
namespace DL
open PySem PySem.Spec PyProof.Rows L2 Evl
/-! data of any kind, weighed: how long its text is -/
mutual
def wt : D → Nat
  | .non => 5
  | .bl _ => 5
  | .int _ => 70
  | .str s => 10 * s.length + 2
  | .lst xs => wts xs + 3
  | .tup xs => wts xs + 3
  | .raw _ => 0
  | .exc _ _ => 0
  | .dct _ _ => 0
def wts : List D → Nat
  | [] => 0
  | d :: ds => wt d + 2 + wts ds
end
theorem join_sum : ∀ ts : List Str, (Str.join ", " ts).length ≤ (ts.map Str.length).sum + 2 * ts.length
  | [] => by show (0 : Nat) ≤ _; omega
  | [x] => by
    show x.length ≤ (x.length + 0) + 2 * 1
    omega
  | x :: y :: r => by
    have b := join_sum (y :: r)
    show (x ++ ", " ++ Str.join ", " (y :: r)).length ≤ _
    rw [Str.length_append, Str.length_append]
    have e : ((", " : Str)).length = 2 := by decide
    rw [e, List.map_cons, List.sum_cons, List.length_cons]
    omega
theorem len_ofS (s : String) : (Str.ofString s).length = s.length := by
  rw [Str.ofString_eq_toList]
  show (s.toList.map Char.toNat).toArray.size = _
  rw [List.size_toArray, List.length_map]
  exact String.length_toList
section
variable {A : Amb} {te : TE} {ρ : Rho} {n : Nat}
/-- str(e), an int -/
def rStrI : List V → Hp → VK → Prop := fun xs H Q => ∃ i : Int, xs = [.int i] ∧ i.natAbs.log2 < 1920 ∧ Q (.str (toString i)) H
theorem kx_strI {X : Cx} : CallR X (.type "str") rStrI := call_str_int
theorem de_strI {P : D → Nat → Prop} (h : DE A te ρ n fun d m => ∃ i : Int, d = .int i ∧ i.natAbs < 10 ^ 68 ∧ P (.str (toString i)) m) : DE A (tCB rStrI (tCons te tNil)) ρ n P := fun S H σ e Q q =>
  h S H σ e _ fun v d S1 H1 n1 m1 f1 r1 ⟨i, hd, hi, p⟩ => by
    subst hd
    cases r1.int_inv
    refine ⟨i, rfl, ?_, q _ _ S1 H1 n1 m1 f1 Rep.str p⟩
    by_cases z : i.natAbs = 0
    · rw [z]; decide
    · rw [Nat.log2_lt z]
      exact Nat.lt_of_lt_of_le hi (by
        have : (10 : Nat) ^ 68 ≤ 2 ^ 250 := by decide
        exact Nat.le_trans this (Nat.pow_le_pow_right (by decide) (by decide)))
theorem wt_str (s : String) : wt (.str (Str.ofString s)) = 10 * s.length + 2 := by
  show 10 * (Str.ofString s).length + 2 = _
  rw [len_ofS]
theorem wt_strI {i : Int} (h : i.natAbs < 10 ^ 68) : wt (.str (toString i)) ≤ 700 := by
  have h2 := int_text_length_le10 (a := i) (k := 68) (by decide) h
  show wt (.str (Str.ofString (toString i))) ≤ 700
  rw [wt_str]; omega
end
end DL
namespace DL
open PySem PySem.Spec PyProof.Rows L2 Evl
end DL
namespace DL
open PySem PySem.Spec PyProof.Rows L2 Evl
/-! xs or ys, by truth -/
theorem kx_orT {X : Cx} {a b : Expr} {ta tb : TE} {rest : List Expr} {pos : Pos} (K : PySem.W.Frag) (ha : PE X a ta) (hb : PE X (.BoolOp .Or (b :: rest) pos) tb) (h : X.K = K := by rfl) : PE X (.BoolOp .Or (a :: b :: rest) pos) (tOrT K ta tb) := h ▸ pe_orT ha hb
section
variable {A : Amb} {ta tb : TE} {ρ : Rho} {n : Nat}
theorem df_orT {P : List D → Nat → Prop} (h : DF A ta ρ n fun ds m => (ds ≠ [] → P ds m) ∧ (ds = [] → DF A tb ρ m P)) : DF A (tOrT A.K ta tb) ρ n P := fun S H σ e Q q =>
  h S H σ e _ fun a vs ds S1 H1 n1 m1 f1 hn hh hs r ⟨p1, p2⟩ => by
    refine ⟨!vs.isEmpty, Or.inl ⟨vs, Evl.sq_of hh, rfl⟩, ?_⟩
    have ie : vs.isEmpty = ds.isEmpty := by
      have := r.length
      cases vs <;> cases ds <;> first | rfl | simp at this
    rw [ie]
    cases ds with
    | nil =>
      rw [if_neg (by simp)]
      exact p2 rfl S1 H1 σ (e.mv m1 f1) Q fun a2 vs2 ds2 S2 H2 n2 m2 f2 hn2 hh2 hs2 r2 p => q a2 vs2 ds2 S2 H2 n2 (m1.trans f1.bt m2) f2 (none_back e.f m1 f1 hn2) hh2 hs2 r2 p
    | cons d ds =>
      rw [if_pos (by simp)]
      exact q a vs (d :: ds) S1 H1 n1 m1 f1 hn hh hs r (p1 (fun z => nomatch z))
end
end DL
namespace DL
open PySem PySem.Spec PySem.HandSPX Builtin Builtin.ObjectAttr
/-! own error classes called with keywords -/
end DL
namespace DL
open PySem PySem.Spec PyProof.Rows L2 Evl
/-! own errors as values -/
end DL
namespace DL
open PySem PySem.Spec PyProof.Rows L2 Evl
/-! dicts whose keys are rows of pairs of integers -/
abbrev Row := List (Int × Int)
abbrev NKs := List (Row × Addr × V)
section
variable {P : Program} {w : World} {K : PySem.W.Frag} {S H : Hp} {h : Heap}
def valN (ks : NKs) (l : Row) : Option V := (ks.find? fun x => decide (x.1 = l)).map fun x => x.2.2
def putN (ks : NKs) (l : Row) (b : Addr) (v : V) : NKs := if (valN ks l).isSome then ks.map fun x => if x.1 = l then (x.1, x.2.1, v) else x else ks ++ [(l, b, v)]
end
/-! ### the rules over values -/
/-! ### an object of one's own -/
section
variable {A : Amb} {n : Nat} {S H : Hp} {σ : L2.St} {ρ : Rho}
theorem ER.nd (e : ER A n S H σ ρ) {i : Nat} {kvs : List (Row × D)} (h : ρ[i]? = some (.nd kvs)) : ∃ a ks ob, σ[i]? = some (some (.ref a)) ∧ H a = some (NDx ks a ob) ∧ NReps A.K S ks kvs ∧ S a = none ∧ A.H0 a = none := by
  obtain ⟨o, h1, a, vs, h2, h3⟩ := e.sl i _ h
  exact ⟨a, vs.1, vs.2, by rw [h1, h2], h3⟩
end
end DL
namespace DL
open PySem PySem.Spec PyProof.Rows L2 Evl
/-! dicts as values: from the time on when they are only read -/
/-! ### sorted(d.values()), sorted(d) -/
end DL
namespace DL
open PySem PySem.Spec PyProof.Rows L2 Evl
end DL
namespace DL
open PySem PySem.Spec PyProof.Rows L2 Evl
/-! ### over the rows of a dict -/
end DL
namespace DL
open PySem PySem.Spec PyProof.Rows L2 Evl
/-! d.get(k, x), {} and {k: v} for rows -/
end DL
namespace DL
open PySem PySem.Spec PyProof.Rows L2 Evl
/-! max(d.values()), sorted(d) -/
/-! ### sorted(d) -/
/-! a row as it is read -/
end DL
namespace DL
open PySem PySem.Spec PyProof.Rows L2 Evl
/-! min(list, key=lambda ..), the lambda reading a name of its def -/
/-! ### the tables of a law's program -/
section
variable {K : PySem.W.Frag} {c P c2 P2 : Addr}
theorem tabs0 (a : PySem.W.tabIn K "order_of" = none) (b : PySem.W.tabIn K "nearest_meeting" = none) : tabsOf K = [] := by unfold tabsOf tabOf; rw [a, b]; rfl
theorem tabs0_mine (a : PySem.W.tabIn K "order_of" = none) (b : PySem.W.tabIn K "nearest_meeting" = none) : ∀ q ∈ tabsOf K, ∃ p ∈ ([] : List (Addr × Addr)), p.2 = q.1 := by
  rw [tabs0 a b]; intro q hq; cases hq
end
end DL
namespace DL
open PySem PySem.Spec PyProof.Rows L2 Evl
/-! < of data -/
end DL
namespace DL
open PySem PySem.Spec PyProof.Rows L2 Evl
/-! appending what is popped from another list of ours, or something else -/
end DL
namespace DL
open PySem PySem.Spec PyProof.Rows L2 Evl
/-! min of a list of data -/
end DL
namespace DL
open PySem PySem.Spec PyProof.Rows L2 Evl
/-! dicts whose keys are pairs of ints: made of a list at once, then only read -/
end DL
namespace DL
open PySem PySem.Spec PyProof.Rows L2 Evl
/-! sum(xs) of a tuple of ints -/
/-! tuple(range(a, b)) -/
end DL
namespace DL
open PySem PySem.Spec PyProof.Rows L2 Evl
end DL
/-! sum(xs, []): a list of lists, one after another -/
namespace PySem
open Sem (wp)
namespace F
theorem args_sum2 (a b : Value) : argsOk "sum" ⟨[a, b], []⟩ := by unfold argsOk; kernel_rfl
end F
end PySem
namespace L2
open PySem PySem.Spec PyProof.Rows
theorem vals_refs79 : ∀ {ps : List Addr} {its : List Value}, Vals (ps.map V.ref) its → its = ps.map Value.ref
  | [], its, r => by cases r; rfl
  | p :: ps, its, r => by
    cases r with
    | cons h t => cases h; rw [vals_refs79 t]; rfl
theorem vals_flat {xs : List (List V)} {w : Nat → List Value} (h : ∀ i, i < xs.length → Vals (xs.getD i []) (w i)) : ∀ i, i ≤ xs.length → Vals (xs.take i).flatten ((List.range i).map w).flatten
  | 0, _ => by rw [List.take_zero]; exact .nil
  | i + 1, hi => by
    have e : xs.take (i + 1) = xs.take i ++ [xs.getD i []] := by
      rw [List.take_add_one, List.getD_eq_getElem?_getD, List.getElem?_eq_getElem (by omega)]
      rfl
    rw [e, List.range_succ, List.map_append, List.flatten_append, List.flatten_append]
    refine (vals_flat h i (by omega)).append ?_
    simpa using h i (by omega)
end L2
namespace DL
open PySem PySem.Spec PyProof.Rows L2 Evl
end DL
namespace DL
open PySem PySem.Spec PyProof.Rows L2 Evl
end DL
/-! tuple(zip(a, b)): the pairs of two tuples are kept, each in a tuple of its own -/
namespace PySem
open Sem (wp)
section
variable {prog : Program} {w : World} {A : Around} {E : Value → Shared → Prop} {s : Shared}
/-- a zip of two tuples of one length, i pairs out, which lie at ps -/
structure ZAt (z TI TO i1 i2 l1 l2 : Addr) (xs ys : Array Value) (i : Nat) (ps : List Addr) (h : Heap) : Prop where
  ti : IsPair h TI (.ref i1) (.ref i2)
  a1 : h.IsTupleIter i1 l1 i
  a2 : h.IsTupleIter i2 l2 i
  b1 : h.IsTuple l1 xs
  b2 : h.IsTuple l2 ys
  zz : (IsZip h z TI TO .none ∧ ps = [] ∧ ∃ a b, IsPair h TO a b) ∨ ∃ T f, IsZipHeld h z TI TO T f ∧ T ∈ ps
  len : ps.length = i
  prs : ∀ (j : Nat) p, ps[j]? = some p → ∃ x y, xs[j]? = some x ∧ ys[j]? = some y ∧ IsPair h p x y
  far : ∀ p ∈ ps, p ≠ z ∧ p ≠ i1 ∧ p ≠ i2 ∧ p ≠ TO
  nd : ps.Nodup
  to : ∃ o, h.get? TO = some o
theorem ZAt.there {z TI TO i1 i2 l1 l2 : Addr} {xs ys : Array Value} {i : Nat} {ps : List Addr} {h : Heap} (Z : ZAt z TI TO i1 i2 l1 l2 xs ys i ps h) {p : Addr} (hp : p ∈ ps) : p < h.objs.size := by
  obtain ⟨j, e⟩ := List.mem_iff_getElem?.mp hp
  obtain ⟨x, y, _, _, e3⟩ := Z.prs j p e
  exact Heap.lt_size e3
end
end PySem
namespace L2
open PySem PySem.Spec PyProof.Rows
end L2
namespace DL
open PySem PySem.Spec PyProof.Rows L2 Evl
end DL
/-! try: x = f(a, b) if t else g(k = ..) except .. as e: c = e -/
namespace DL
open PySem PySem.Spec PyProof.Rows L2 Evl
end DL
/-! sum(xs, ()): tuples one after another; a set made of a tuple -/
namespace PySem
open Sem (wp)
open PyProof.Rows (IsTup)
section
variable {prog : Program} {w : World} {A : Around} {E : Value → Shared → Prop} {s : Shared}
/-- t + b of two tuples: the empty one gives way -/
theorem add_tupG {t b : Addr} {its its2 : Array Value} {Q : Value → Shared → Prop} (ht : IsTup s.heap t its) (hb : IsTup s.heap b its2)
    (h0 : its.isEmpty = true → Q (.ref b) s) (h2 : ¬ its.isEmpty = true → Q (.ref s.heap.objs.size) { s with heap := s.heap.push { cls := .type "tuple", data := .seq (its ++ its2) } })
    (ne : ¬ its2.isEmpty = true) (hsz : its.size + its2.size ≤ sizeLine) : wpAny (model prog w) A (binaryOp .Add (.ref t) (.ref b)) Q E s := by
  obtain ⟨⟨cls, dd, data, sl⟩, ho, hc, n, hd⟩ := id ht
  obtain ⟨⟨cls2, dd2, data2, sl2⟩, ho2, hc2, n2, hd2⟩ := id hb
  simp only at hc hd hc2 hd2
  subst hc hd hc2 hd2
  by_cases hv : its.isEmpty = true
  · exact concat_meets ⟨_, ho, rfl⟩ ⟨_, ho2, rfl⟩ noFill_tuple_add seq_tuple_add F.slot_tuple_add F.entry_tuple_add (F.args_tuple_add_2 _ _)
      (PyProof.Rows.tuple_addW0 t b its its2 n n2 dd dd2 sl sl2 hv) ⟨ho, ho2, h0 hv⟩
  · exact concat_meets ⟨_, ho, rfl⟩ ⟨_, ho2, rfl⟩ noFill_tuple_add seq_tuple_add F.slot_tuple_add F.entry_tuple_add (F.args_tuple_add_2 _ _)
      (PyProof.Rows.tuple_addW2 t b its its2 n n2 dd dd2 sl sl2 hv ne hsz) ⟨ho, ho2, h2 hv⟩
end
section
variable {prog : Program} {w : World} {A : Around} {R : Result → Shared → Prop} {I : Addr} {fp wr : List Addr} {n : Nat} {P : Nat → Value → Prop} {St : Nat → Heap → Prop}
theorem tupAt_same {h h' : Heap} {a : Addr} {its : Array Value} (x : IsTup h a its) (e : ∀ o, h.get? a = some o → h'.get? a = some o) : IsTup h' a its := by
  obtain ⟨o, k, z⟩ := x
  exact ⟨o, e _ k, z⟩
/-- where the sum lies after i of them -/
def SumAt (part : Nat → Addr) (b0 S : Addr) (i : Nat) (a : Addr) : Prop := (i = 0 ∧ a = b0) ∨ (i = 1 ∧ a = part 0) ∨ (2 ≤ i ∧ S < a)
theorem sumT_loop (W : Walks prog w A.in1 I fp wr n P St) (part : Nat → Addr) (its acc : Nat → Array Value) (b0 : Addr) (hacc : ∀ i, i < n → acc (i + 1) = acc i ++ its i) (hne : ∀ i, i < n → ¬ (its i).isEmpty = true) (h00 : acc 0 = #[]) (hz : ∀ i, i < n → (acc i).size + (its i).size ≤ sizeLine) (hval : ∀ i v, P i v → v = .ref (part i)) (S : Addr) (hSf : S ∉ fp) (hfS : ∀ b ∈ fp, b < S) :
    ∀ (k i : Nat) (s : Shared) (a : Addr) (c : Nat), n - i = k → i ≤ n → St i s.heap → s.heap.get? S = some { cls := .type "list", dict := none, data := .seq #[.ref a] c, slots := #[] } →
    IsTup s.heap a (acc i) → SumAt part b0 S i a → a ∉ wr → a ≠ S → (∀ j, j < n → IsTup s.heap (part j) (its j) ∧ part j ∉ wr ∧ part j ≠ S) →
    (∀ h' tk a', (∀ b o, b ∉ wr → b ≠ S → s.heap.get? b = some o → h'.get? b = some o) → IsTup h' a' (acc n) → SumAt part b0 S n a' → R (.ok (.ret (.ref a'))) { s with heap := h', toks := tk }) →
    codeAny (model prog w) A (.builtin "sum.loop" ⟨[.ref I, .ref S, rawInt 2, rawInt 0], []⟩) R s := by
  have hSw : S ∉ wr := fun h => hSf (W.sub _ h)
  intro k
  induction k with
  | zero =>
    intro i s a c hk hi hst hS ha hat haw haS hp hR
    have hin : i = n := by omega
    subst hin
    refine codeAny_builtin F.entry_sum_loop ?_
    rw [Around.under_plainId F.plain_sum_loop _]
    show wpAny _ A.in1 (seqItems? (.ref S) >>= _) _ _ s
    refine wpAny_bind (wpAny_seqItems hS rfl ?_)
    show wpAny _ A.in1 (tryCatch (pyNext (.ref I)) _ >>= _) _ _ s
    refine wpAny_bind (wpAny_tryCatch (W.done s _ _ hst fun h' tk hk' => ?_))
    exact wpAny_pure (hR h' tk a (fun b o hbw _ e => hk' b o hbw e) (tupAt_same ha fun o e => hk' a o haw e) hat)
  | succ k ih =>
    intro i s a c hk hi hst hS ha hat haw haS hp hR
    have hlt : i < n := by omega
    refine codeAny_builtin F.entry_sum_loop ?_
    rw [Around.under_plainId F.plain_sum_loop _]
    show wpAny _ A.in1 (seqItems? (.ref S) >>= _) _ _ s
    refine wpAny_bind (wpAny_seqItems hS rfl ?_)
    show wpAny _ A.in1 (tryCatch (pyNext (.ref I)) _ >>= _) _ _ s
    refine wpAny_bind (wpAny_tryCatch (W.item i s _ _ hlt hst fun v h' tk hP hst' hk' => ?_))
    obtain rfl := hval i v hP
    have hS' := hk' S _ hSw hS
    have za := tupAt_same (h' := h') ha fun o e => hk' a o haw e
    obtain ⟨hp1, hp2, hp3⟩ := hp i hlt
    have zb := tupAt_same (h' := h') hp1 fun o e => hk' _ o hp2 e
    have hSl : S < h'.objs.size := Heap.lt_size hS'
    show wpAny _ A.in1 ((holding [Value.ref (part i)] (binaryOp .Add (.ref a) (.ref (part i)))).attempt >>= _) _ _ _
    refine wpAny_bind (wpAny_attempt (wpAny_holding (add_tupG za zb (fun h0 => ?_) (fun h0 => ?_) (hne i hlt) (hz i hlt))))
    · -- the first of them
      have i0 : i = 0 := by
        rcases Nat.eq_zero_or_pos i with h | h
        · exact h
        · exfalso
          obtain ⟨j, rfl⟩ : ∃ j, i = j + 1 := ⟨i - 1, by omega⟩
          rw [hacc j (by omega)] at h0
          have := hne j (by omega)
          simp at h0 this
          exact this h0.2
      subst i0
      show wpAny _ A.in1 (updateSeq S (fun _ => #[.ref (part 0)]) >>= _) _ _ _
      refine wpAny_bind (wpAny_updateSeq hS' rfl ?_)
      have hS2 := Heap.get?_update_self (Obj.mapSeq fun _ => #[Value.ref (part 0)]) hS' rfl
      refine wpAny_bind (wpAny_letGo ?_)
      refine wpAny_bind (wpAny_updateSeq hS2 rfl (wpAny_pure ⟨plainId_quiet F.plain_sum_loop _, ih 1 _ (part 0) _ (by omega) hlt (W.frame _ _ _ hst' fun b hb o e => ?_) (Heap.get?_update_self _ hS2 rfl) ?_ (Or.inr (Or.inl ⟨rfl, rfl⟩)) hp2 hp3 (fun j hj => ?_) fun h'' tk'' a' hk'' hl' hd => ?_⟩))
      · exact (Heap.get?_update_other _ _ (fun h : S = b => hSf (by rw [h]; exact hb))).trans ((Heap.get?_update_other _ _ (fun h : S = b => hSf (by rw [h]; exact hb))).trans e)
      · rw [show acc 1 = its 0 by rw [hacc 0 hlt, h00]; simp]
        exact tupAt_same zb fun o e => (Heap.get?_update_other _ _ (Ne.symm hp3)).trans ((Heap.get?_update_other _ _ (Ne.symm hp3)).trans e)
      · obtain ⟨g1, g2, g3⟩ := hp j hj
        exact ⟨tupAt_same g1 fun o e => (Heap.get?_update_other _ _ (Ne.symm g3)).trans ((Heap.get?_update_other _ _ (Ne.symm g3)).trans (hk' _ o g2 e)), g2, g3⟩
      · exact hR h'' tk'' a' (fun b o hbw hbS e => hk'' b o hbw hbS ((Heap.get?_update_other _ _ (Ne.symm hbS)).trans ((Heap.get?_update_other _ _ (Ne.symm hbS)).trans (hk' b o hbw e)))) hl' hd
    have i1 : 1 ≤ i := by
      rcases Nat.eq_zero_or_pos i with h | h
      · subst h
        rw [h00] at h0
        exact absurd rfl h0
      · exact h
    have kp : ∀ b o, h'.get? b = some o → (h'.push { cls := .type "tuple", data := .seq (acc i ++ its i) }).get? b = some o := fun b o e => Heap.get?_push_of_some _ e
    have hS1 := kp S _ hS'
    have hC : (h'.push { cls := .type "tuple", data := .seq (acc i ++ its i) }).get? h'.objs.size = some { cls := .type "tuple", data := .seq (acc i ++ its i) } := Heap.get?_push_size _ rfl
    show wpAny _ A.in1 (updateSeq S (fun _ => #[.ref h'.objs.size]) >>= _) _ _ _
    refine wpAny_bind (wpAny_updateSeq hS1 rfl ?_)
    have hS2 := Heap.get?_update_self (Obj.mapSeq fun _ => #[Value.ref h'.objs.size]) hS1 rfl
    refine wpAny_bind (wpAny_letGo ?_)
    have nC : S ≠ h'.objs.size := Nat.ne_of_lt hSl
    refine wpAny_bind (wpAny_updateSeq hS2 rfl (wpAny_pure ⟨plainId_quiet F.plain_sum_loop _, ih (i + 1) _ h'.objs.size _ (by omega) hlt (W.frame _ _ _ hst' fun b hb o e => ?_) (Heap.get?_update_self _ hS2 rfl) ?_ (Or.inr (Or.inr ⟨by omega, hSl⟩)) ?_ nC.symm (fun j hj => ?_) fun h'' tk'' a' hk'' hl' hd => ?_⟩))
    · exact (Heap.get?_update_other _ _ (fun h : S = b => hSf (by rw [h]; exact hb))).trans ((Heap.get?_update_other _ _ (fun h : S = b => hSf (by rw [h]; exact hb))).trans (kp b o e))
    · rw [hacc i hlt]
      exact ⟨_, (Heap.get?_update_other _ _ nC).trans ((Heap.get?_update_other _ _ nC).trans hC), rfl, _, rfl⟩
    · exact fun h => absurd (hfS _ (W.sub _ h)) (Nat.not_lt.mpr (Nat.le_of_lt hSl))
    · obtain ⟨g1, g2, g3⟩ := hp j hj
      exact ⟨tupAt_same g1 fun o e => (Heap.get?_update_other _ _ (Ne.symm g3)).trans ((Heap.get?_update_other _ _ (Ne.symm g3)).trans (kp _ o (hk' _ o g2 e))), g2, g3⟩
    · exact hR h'' tk'' a' (fun b o hbw hbS e => hk'' b o hbw hbS ((Heap.get?_update_other _ _ (Ne.symm hbS)).trans ((Heap.get?_update_other _ _ (Ne.symm hbS)).trans (kp b o (hk' b o hbw e))))) hl' hd
end
section
variable {prog : Program} {w : World} {A : Around} {E : Value → Shared → Prop} {s : Shared}
theorem call_sumT {x : Value} {b0 : Addr} {Q : Value → Shared → Prop} (hb0 : IsTup s.heap b0 #[])
    (h : wpAny (model prog w) A.in1 (pyIter x) (fun it s₂ => ∃ (I : Addr) (fp wr : List Addr) (n : Nat) (P : Nat → Value → Prop) (St : Nat → Heap → Prop) (part : Nat → Addr) (its acc : Nat → Array Value), it = .ref I ∧ Walks prog w A.in1 I fp wr n P St ∧ St 0 s₂.heap ∧ (∀ b ∈ fp, b < s₂.heap.objs.size) ∧
      (∀ i v, P i v → v = Value.ref (part i)) ∧ (∀ i, i < n → acc (i + 1) = acc i ++ its i) ∧ (∀ i, i < n → ¬ (its i).isEmpty = true) ∧ acc 0 = #[] ∧ (∀ i, i < n → (acc i).size + (its i).size ≤ sizeLine) ∧ IsTup s₂.heap b0 #[] ∧ b0 ∉ wr ∧ (∀ j, j < n → IsTup s₂.heap (part j) (its j) ∧ part j ∉ wr) ∧
      ∀ h' tk a', (∀ b o, b ∉ wr → s₂.heap.get? b = some o → h'.get? b = some o) → IsTup h' a' (acc n) → SumAt part b0 s₂.heap.objs.size n a' → Q (.ref a') { s₂ with heap := h', toks := tk }) E s) :
    wpAny (model prog w) A (call (.builtin "sum") [x, .ref b0]) Q E s := by
  refine call_function_tree F.kind_sum F.plain_sum F.entry_sum (F.args_sum2 _ _) ?_
  unfold Builtin.«sum»
  simp only [List.length_cons, List.length_nil]
  rw [if_neg (by decide)]
  refine wpAny_bind (wpAny_of_eq (show Builtin.Builtins.bindParams "sum" ["start"] 0 ⟨[.ref b0], []⟩ = pure [some (.ref b0)] from rfl) ?_)
  refine wpAny_bind (wpAny_mono h (fun it s₂ h₂ => ?_) fun _ _ e => e)
  obtain ⟨I, fp, wr, n, P, St, part, its, acc, rfl, W, hst, hfp, hval, hacc, hne, h00, hz, hb, hbw, hp, hQ⟩ := h₂
  refine wpAny_bind (wpAny_pure ?_)
  have hT : s₂.TypeIs (.ref b0) "tuple" := by
    obtain ⟨o, k, z, _⟩ := hb
    exact ⟨o, k, z⟩
  simp only [List.forIn_cons, List.forIn_nil]
  refine wpAny_bind (wpAny_bind (wpAny_bind (wpAny_isInstance (T := "tuple") (b := false) hT F.sub_tuple_str ?_)))
  simp only [Bool.false_eq_true, if_false]
  refine wpAny_pure (wpAny_bind (wpAny_bind (wpAny_isInstance (T := "tuple") (b := false) hT F.sub_tuple_bytes ?_)))
  simp only [Bool.false_eq_true, if_false]
  refine wpAny_pure (wpAny_bind (wpAny_bind (wpAny_isInstance (T := "tuple") (b := false) hT F.sub_tuple_bytearray ?_)))
  simp only [Bool.false_eq_true, if_false]
  refine wpAny_pure (wpAny_pure ?_)
  refine wpAny_bind (wpAny_newObj_type ?_)
  have hSf : s₂.heap.objs.size ∉ fp := fun hm => Nat.lt_irrefl _ (hfp _ hm)
  have lt : ∀ {a : Addr} {v : Array Value}, IsTup s₂.heap a v → a ≠ s₂.heap.objs.size := fun ⟨_, z, _⟩ => Nat.ne_of_lt (Heap.lt_size z)
  refine wpAny_pure ⟨plainId_quiet F.plain_sum_loop _, sumT_loop W part its acc b0 hacc hne h00 hz hval s₂.heap.objs.size hSf hfp n 0 _ b0 0 rfl (Nat.zero_le _)
    (W.frame _ _ _ hst fun b _ o e => Heap.get?_push_of_some _ e) (Heap.get?_push_size _ rfl) (by rw [h00]; exact tupAt_same hb fun o e => Heap.get?_push_of_some _ e) (Or.inl ⟨rfl, rfl⟩) hbw (lt hb) (fun j hj => ⟨tupAt_same (hp j hj).1 fun o e => Heap.get?_push_of_some _ e, (hp j hj).2, lt (hp j hj).1⟩) fun h' tk a' hk hl hd => ?_⟩
  exact hQ h' tk a' (fun b o hbw e => hk b o hbw (Nat.ne_of_lt (Heap.lt_size e)) (Heap.get?_push_of_some _ e)) hl hd
end
end PySem
namespace L2
open PySem PySem.Spec PyProof.Rows
def rSumTt (K : PySem.W.Frag) : List V → Hp → VK → Prop := fun vs H Q => ∃ (a b : Addr) (ps : List Addr) (xs : List (List V)), vs = [V.ref a, V.ref b] ∧ SqT K H a (ps.map V.ref) ∧ SqT K H b [] ∧ ps.length = xs.length ∧
  (∀ (i : Nat) p x, ps[i]? = some p → xs[i]? = some x → SqT K H p x ∧ x ≠ []) ∧ xs.flatten.length ≤ sizeLine ∧ (ps = [] → Q (.ref b) H) ∧ (∀ p, ps = [p] → Q (.ref p) H) ∧ ∀ q, H q = none → Q (.ref q) (upd H q (.tup xs.flatten))
section
variable {X : Cx}
theorem cr_sumTt (hc : X.calm = true) : CallR X (.builtin "sum") (rSumTt X.K) := by
  intro pins s σ H vs us Q I r h
  obtain ⟨a, b, ps, xs, rfl, hs, hb, hlen, hpx, hz, q0, qone, q1⟩ := h
  obtain ⟨its, rv, hl, _⟩ := I.tuple hs
  obtain rfl := vals_refs79 rv
  obtain ⟨u1, u2, rfl, ra, rb'⟩ := vals2 r
  cases ra
  cases rb'
  obtain ⟨itb, rb, eb, _⟩ := I.tuple hb
  have itb0 : itb = [] := List.eq_nil_of_length_eq_zero rb.length.symm
  subst itb0
  have ch : ∀ i, ∃ w : List Value, i < xs.length → Vals (xs.getD i []) w ∧ IsTup s.heap (ps.getD i 0) w.toArray ∧ xs.getD i [] ≠ [] := fun i => by
    by_cases c : i < xs.length
    · have h1 : ps[i]? = some (ps.getD i 0) := by rw [List.getD_eq_getElem?_getD, List.getElem?_eq_getElem (by omega)]; rfl
      have h2 : xs[i]? = some (xs.getD i []) := by rw [List.getD_eq_getElem?_getD, List.getElem?_eq_getElem c]; rfl
      obtain ⟨g1, g2⟩ := hpx i _ _ h1 h2
      obtain ⟨w, r1, e, _⟩ := I.tuple g1
      exact ⟨w, fun _ => ⟨r1, e, g2⟩⟩
    · exact ⟨[], fun z => absurd z c⟩
  obtain ⟨w, hw⟩ := Classical.axiomOfChoice ch
  have vf := vals_flat (xs := xs) (w := w) fun i hi => (hw i hi).1
  have hlt : a < s.heap.objs.size := by obtain ⟨o, e, _⟩ := hl; exact Heap.lt_size e
  have hblt : b < s.heap.objs.size := by obtain ⟨o, e, _⟩ := eb; exact Heap.lt_size e
  have part_le : ∀ i, i ≤ xs.length → ((List.range i).map w).flatten.length ≤ sizeLine := fun i hi => by
    rw [← (vf i hi).length]
    have : xs.flatten.length = (xs.take i).flatten.length + (xs.drop i).flatten.length := by
      rw [← List.length_append, ← List.flatten_append, List.take_append_drop]
    omega
  have szn : (ps.map Value.ref).toArray.size = xs.length := by simp [hlen]
  refine call_sumT (b0 := b) eb (wpAny_pyIter_tuple (show s.heap.IsTuple a (ps.map Value.ref).toArray from hl) ?_)
  have kp : ∀ c o, s.heap.get? c = some o → (s.heap.push { cls := .type "tuple_iterator", data := .fields #[.ref a, .int 0 0] }).get? c = some o := fun c o e => Heap.get?_push_of_some _ e
  refine ⟨s.heap.objs.size, [s.heap.objs.size, a], [s.heap.objs.size], (ps.map Value.ref).toArray.size, _, _, fun i => ps.getD i 0, fun i => (w i).toArray, fun i => ((List.range i).map w).flatten.toArray, rfl, Walks.tuple (A := X.A.in1) (I.ok.hd hc) _ a (Nat.ne_of_lt hlt) (ps.map Value.ref).toArray, ⟨⟨_, Heap.get?_push_size _ rfl, rfl, rfl⟩, tupAt_same hl fun o e => kp _ o e⟩, fun c hc2 => ?_, fun i v hv => ?_, fun i _ => ?_, fun i hi => ?_, rfl, fun i hi => ?_, tupAt_same eb fun o e => kp _ o e, ?_, fun j hj => ?_, fun h' tk a' hk hl' hd => ?_⟩
  · simp only [List.mem_cons, List.not_mem_nil, or_false] at hc2
    rcases hc2 with rfl | rfl
    · exact Heap.lt_size (Heap.get?_push_size _ rfl)
    · obtain ⟨o, e, _⟩ := hl
      exact Heap.lt_size (kp _ _ e)
  · rw [List.getElem?_toArray, List.getElem?_map] at hv
    cases e : ps[i]? with
    | none => rw [e] at hv; cases hv
    | some p =>
      rw [e] at hv
      show v = Value.ref (ps.getD i 0)
      rw [List.getD_eq_getElem?_getD, e]
      exact (Option.some.inj hv).symm
  · show ((List.range (i + 1)).map w).flatten.toArray = ((List.range i).map w).flatten.toArray ++ (w i).toArray
    rw [List.range_succ]
    simp
  · obtain ⟨g1, _, g3⟩ := hw i (by omega)
    have := g1.length
    intro he
    have h0 : w i = [] := by simpa using he
    rw [h0] at this
    exact g3 (List.eq_nil_of_length_eq_zero this)
  · have := part_le (i + 1) (by omega)
    rw [List.range_succ, List.map_append, List.flatten_append, List.length_append] at this
    simpa using this
  · simp only [List.mem_cons, List.not_mem_nil, or_false]
    exact Nat.ne_of_lt hblt
  · have hj : j < xs.length := by omega
    obtain ⟨o, z, r2⟩ := (hw j hj).2.1
    refine ⟨⟨o, kp _ _ z, r2⟩, ?_⟩
    simp only [List.mem_cons, List.not_mem_nil, or_false]
    exact Nat.ne_of_lt (Heap.lt_size z)
  · have kept : ∀ c o, s.heap.get? c = some o → h'.get? c = some o := fun c o e => hk c o (fun z => by
      simp only [List.mem_cons, List.not_mem_nil, or_false] at z
      exact Nat.ne_of_lt (Heap.lt_size e) z) (kp c o e)
    rcases hd with ⟨h0, rfl⟩ | ⟨h0, rfl⟩ | ⟨_, hd⟩
    · have : ps = [] := List.eq_nil_of_length_eq_zero (by omega)
      exact ⟨.ref a', H, I.kept kept, rfl, q0 this⟩
    · obtain ⟨p, hp⟩ : ∃ p, ps = [p] := List.length_eq_one_iff.mp (by omega)
      subst hp
      exact ⟨.ref p, H, I.kept kept, rfl, qone p rfl⟩
    · have hsz : s.heap.objs.size ≤ a' := by
        have : s.heap.objs.size < (s.heap.push { cls := .type "tuple_iterator", data := .fields #[.ref a, .int 0 0] }).objs.size := Heap.lt_size (Heap.get?_push_size _ rfl)
        exact Nat.le_of_lt (Nat.lt_trans this hd)
      rw [szn] at hl'
      have v2 := vf xs.length (Nat.le_refl _)
      rw [List.take_length] at v2
      exact ⟨.ref a', upd H a' (.tup xs.flatten), I.laid kept hsz ⟨hz, _, v2, hl'⟩, rfl, q1 a' (I.hok.fresh hsz)⟩
end
end L2
namespace DL
open PySem PySem.Spec PyProof.Rows L2 Evl
section
variable {X : Cx}
theorem kx_sumTup (K : PySem.W.Frag) (hc : X.calm = true := by rfl) (h : X.K = K := by rfl) : CallR X (.builtin "sum") (rSumTt K) := h ▸ cr_sumTt hc
end
section
variable {A : Amb} {te tb : TE} {ρ : Rho} {n : Nat}
theorem reps_tups {K : PySem.W.Frag} {S : Hp} : ∀ {vs : List V} {xss : List (List Int)}, Reps K S vs (xss.map fun xs => D.tup (xs.map D.int)) → ∃ ps : List Addr, vs = ps.map V.ref ∧ ps.length = xss.length ∧ ∀ (i : Nat) p (x : List V), ps[i]? = some p → (xss.map fun xs => xs.map V.int)[i]? = some x → S p = some (.tup x)
  | vs, [], r => by
    have e : vs = [] := by unfold Reps at r; exact r
    subst e
    exact ⟨[], rfl, rfl, fun i p x h => by simp at h⟩
  | vs, xs :: xss, r => by
    obtain ⟨v, r', rfl, r1, r2⟩ := r.uncons
    obtain ⟨a, us, rfl, h1, h2⟩ := r1.tup_inv
    obtain rfl := h2.intsV
    obtain ⟨ps, rfl, hl, hp⟩ := reps_tups r2
    refine ⟨a :: ps, rfl, by rw [List.length_cons, List.length_cons, hl], fun i p x h g => ?_⟩
    cases i with
    | zero => cases h; cases g; exact h1
    | succ i => exact hp i p x h g
/-- sum(xs, ()) of a tuple of tuples of integers, none of them empty -/
theorem de_sumTup {P : D → Nat → Prop} (h : DE A te ρ n fun d m => ∃ xss : List (List Int), d = .tup (xss.map fun xs => .tup (xs.map D.int)) ∧ (∀ xs ∈ xss, xs ≠ []) ∧ xss.flatten.length ≤ 100000 ∧ DE A tb ρ m fun e m2 => e = .tup [] ∧ P (.tup (xss.flatten.map D.int)) m2) : DE A (tCB (rSumTt A.K) (tCons te (tCons tb tNil))) ρ n P := fun S H σ e Q q =>
  h S H σ e _ fun v d S1 H1 n1 m1 f1 r1 ⟨xss, hd, hne, hz, h1⟩ => h1 S1 H1 σ (e.mv m1 f1) _ fun u x S2 H2 n2 m2 f2 r2 ⟨hx, p⟩ => by
    subst hd hx
    obtain ⟨a, vs, rfl, g1, g2⟩ := (r1.mono m2.ss).tup_inv
    obtain ⟨b, us, rfl, k1, k2⟩ := r2.tup_inv
    have u0 : us = [] := by unfold Reps at k2; exact k2
    subst u0
    obtain ⟨ps, rfl, hl, hp⟩ := reps_tups g2
    have m12 := m1.trans f1.bt m2
    have ef : (xss.map fun xs => xs.map V.int).flatten = xss.flatten.map V.int := by rw [List.map_flatten]
    refine ⟨a, b, ps, xss.map fun xs => xs.map V.int, rfl, Evl.st_of (f2.sub _ _ g1), Evl.st_of (f2.sub _ _ k1), by rw [List.length_map]; exact hl, fun i p x h g => ⟨Evl.st_of (f2.sub _ _ (hp i p x h g)), fun h0 => ?_⟩, Evl.sz_of (by rw [ef, List.length_map]; exact hz), fun h0 => ?_, fun p1 h0 => ?_, fun l hl2 => ?_⟩
    · rw [List.getElem?_map] at g
      cases e1 : xss[i]? with
      | none => rw [e1] at g; cases g
      | some xs =>
        rw [e1] at g
        have := Option.some.inj g
        rw [h0] at this
        exact hne xs (List.mem_of_getElem? e1) (List.map_eq_nil_iff.mp this)
    · subst h0
      have : xss = [] := List.eq_nil_of_length_eq_zero hl.symm
      subst this
      exact q (.ref b) (.tup []) S2 H2 n2 m12 f2 r2 p
    · subst h0
      obtain ⟨xs, rfl⟩ : ∃ xs, xss = [xs] := List.length_eq_one_iff.mp hl.symm
      have h3 := hp 0 p1 (xs.map V.int) rfl rfl
      have e2 : [xs].flatten = xs := by simp
      rw [e2] at p
      exact q (.ref p1) (.tup (xs.map D.int)) S2 H2 n2 m12 f2 (Rep.tup h3 Reps.of_ints) p
    · rw [ef]
      exact q (.ref l) (.tup (xss.flatten.map D.int)) _ _ n2 (m12.trans f2.bt (Mv.new f2.sub hl2)) (f2.new hl2) (Rep.tup upd_same ((Reps.of_ints (K := A.K)).mono (Mv.new (b := A.b) f2.sub hl2).ss)) p
end
end DL
/-! list(enumerate(xs)) of a list: the pairs are kept -/
namespace PySem
open Sem (wp)
/-- an enumerate of a list, i pairs out, which lie at ps -/
structure EAt (e it l : Addr) (items : Array Value) (i : Nat) (ps : List Addr) (h : Heap) : Prop where
  at1 : h.IsListIter it l i
  at2 : h.IsList l items
  zz : (∃ old, IsEnum h e it i old ∧ ps = []) ∨ ∃ old T f, IsEnumHeld h e it (i : Int) old T f ∧ T ∈ ps
  len : ps.length = i
  prs : ∀ (j : Nat) p, ps[j]? = some p → ∃ (t : Tok) (x : Value), items[j]? = some x ∧ h.get? p = some { cls := .type "tuple", data := .seq #[.int j t, x] }
  far : ∀ p ∈ ps, p ≠ e ∧ p ≠ it
  nd : ps.Nodup
section
variable {prog : Program} {w : World} {A : Around} {E : Value → Shared → Prop} {s : Shared} {e it l : Addr} {items : Array Value}
theorem EAt.there {i : Nat} {ps : List Addr} {h : Heap} (Z : EAt e it l items i ps h) {p : Addr} (hp : p ∈ ps) : p < h.objs.size := by
  obtain ⟨j, q⟩ := List.mem_iff_getElem?.mp hp
  obtain ⟨_, _, _, e2⟩ := Z.prs j p q
  exact Heap.lt_size e2
end
end PySem
namespace L2
open PySem PySem.Spec PyProof.Rows
end L2
namespace DL
open PySem PySem.Spec PyProof.Rows L2 Evl
end DL
/-! sorted(xs), xs some empty tuples -/
namespace L2
open PySem PySem.Spec PyProof.Rows PySem.SeqAt
end L2
namespace DL
open PySem PySem.Spec PyProof.Rows L2 Evl
end DL
/-! texts -/
namespace DL
open PySem PySem.Spec PyProof.Rows L2 Evl
/-- a sign as a text -/
def sgn (c : Nat) : Str := ⟨#[c]⟩
def sgnD (c : Nat) : D := .str (sgn c)
theorem walk_its {x : Str} : Walk (Its x) x.cps.size (fun _ => True) (fun i H v H' => H' = H ∧ ∃ c, x.cps[i]? = some c ∧ v = .str ⟨#[c]⟩) :=
  ⟨fun _ _ h _ => h, fun _ _ => Nat.le_refl _, fun _ _ _ _ _ _ h => h⟩
section
variable {A : Amb} {te ta tb : TE} {tl th : TO} {ρ : Rho} {n : Nat}
/-- for c in x -/
theorem di_str {P : List D → Nat → Prop} (h : DE A te ρ n fun d m => ∃ x : Str, d = .str x ∧ P (x.cps.toList.map sgnD) m) : DI A (iStr te) ρ n P := fun S H σ e R q =>
  h S H σ e _ fun v d S1 H1 n1 m1 f1 r1 ⟨x, hd, p⟩ => by
    subst hd
    cases r1.str_inv
    refine ⟨x, rfl, q _ (x.cps.toList.map sgnD) S1 H1 n1 _ _ m1 f1 (by rw [List.length_map, Array.length_toList]; exact walk_its) (fun _ _ _ _ _ => trivial) (fun i S2 H2 y H3 m hi ex f hy => ?_) p⟩
    obtain ⟨rfl, c, hc, rfl⟩ := hy
    refine ⟨S2, sgnD c, ?_, Mv.refl, f, Rep.str⟩
    rw [List.getElem?_map, Array.getElem?_toList, hc]
    rfl
def rLenStr : List V → Hp → VK → Prop := fun xs H Q => ∃ z : Str, xs = [.str z] ∧ z.length ≤ sizeLine ∧ Q (.int z.length) H
theorem kx_lenStr {X : Cx} : CallR X (.builtin "len") rLenStr := call_len_str
theorem de_lenStr {P : D → Nat → Prop} (h : DE A te ρ n fun d m => ∃ x : Str, d = .str x ∧ x.length ≤ 100000 ∧ P (.int (x.length : Int)) m) : DE A (tCB rLenStr (tCons te tNil)) ρ n P := fun S H σ e Q q =>
  h S H σ e _ fun v d S1 H1 n1 m1 f1 r1 ⟨x, hd, hz, p⟩ => by
    subst hd
    cases r1.str_inv
    exact ⟨x, rfl, Evl.sz_of hz, q _ _ S1 H1 n1 m1 f1 Rep.int p⟩
def rInSign : R2 := fun x y H Q => ∃ (c : Nat) (z : Str), x = .str ⟨#[c]⟩ ∧ y = .str z ∧ Q (.bl (decide (c ∈ z.cps.toList))) H
theorem op_inSign {X : Cx} : OpR X (compareOp .In) rInSign := op_in_sign
theorem dr_inSign {c : Nat} {z : Str} {P : D → Nat → Prop} (p : P (.bl (decide (c ∈ z.cps.toList))) n) : DR A rInSign (sgnD c) (.str z) n P := fun S H v w f r1 r2 Q q => by
  cases (show Rep A.K S v (.str (sgn c)) from r1).str_inv
  cases r2.str_inv
  exact ⟨c, z, rfl, rfl, q _ _ S H n Mv.refl f Rep.bl p⟩
/-- x[i] of a text -/
theorem dr_ixStr {z : Str} {i c : Nat} {P : D → Nat → Prop} (hz : z.length ≤ 100000) (hc : z.cps.toList[i]? = some c) (p : P (sgnD c) n) : DR A (rIx A.K) (.str z) (.int (i : Int)) n P := fun S H v w f r1 r2 Q q => by
  cases r1.str_inv
  cases r2.int_inv
  refine Or.inr (Or.inr ⟨z, (i : Int), c, rfl, rfl, Evl.sz_of hz, ?_, q _ _ S H n Mv.refl f Rep.str p⟩)
  have hl := (List.getElem?_eq_some_iff.mp hc).1
  unfold atI ixN
  rw [if_pos (by omega)]
  simp only [Int.toNat_natCast]
  rw [if_pos (by omega)]
  exact hc
def rIntStr : List V → Hp → VK → Prop := fun xs H Q => ∃ (a : Str) (k : Int), xs = [.str a] ∧ PySem.intText? a = some k ∧ a.length ≤ 640 ∧ Q (.int k) H
theorem kx_intStr {X : Cx} : CallR X (.type "int") rIntStr := call_int_str
theorem de_intStr {P : D → Nat → Prop} (h : DE A te ρ n fun d m => ∃ (a : Str) (k : Int), d = .str a ∧ PySem.intText? a = some k ∧ a.length ≤ 640 ∧ P (.int k) m) : DE A (tCB rIntStr (tCons te tNil)) ρ n P := fun S H σ e Q q =>
  h S H σ e _ fun v d S1 H1 n1 m1 f1 r1 ⟨a, k, hd, h1, h2, p⟩ => by
    subst hd
    cases r1.str_inv
    exact ⟨a, k, rfl, h1, h2, q _ _ S1 H1 n1 m1 f1 Rep.int p⟩
theorem Reps.of_strs {K : PySem.W.Frag} {S : Hp} : ∀ {ys : List Str}, Reps K S (ys.map V.str) (ys.map D.str)
  | [] => Reps.nil
  | _ :: _ => Reps.cons Rep.str Reps.of_strs
theorem Reps.strsV {K : PySem.W.Frag} {S : Hp} : ∀ {ys : List Str} {vs : List V}, Reps K S vs (ys.map D.str) → vs = ys.map V.str
  | [], vs, h => by unfold Reps at h; exact h
  | y :: ys, vs, h => by
    obtain ⟨v, r, rfl, h1, h2⟩ := h.uncons
    cases h1.str_inv
    rw [Reps.strsV h2]
    rfl
def rJoin (K : PySem.W.Frag) : V → List V → Hp → VK → Prop := fun x xs H Q => ∃ a p, ∃ ys : List Str, x = .str a ∧ xs = [.ref p] ∧ (SqL K H p (ys.map V.str) ∨ SqT K H p (ys.map V.str)) ∧
  (ys.map (·.length)).sum + ys.length * a.length ≤ 16777216 ∧ Q (.str (Txt.join a ys)) H
theorem kx_join {X : Cx} (K : PySem.W.Frag) (h : X.K = K := by rfl) : MtR X "str.join" (rJoin K) := h ▸ mt_join
def rSplit : V → List V → Hp → VK → Prop := fun x xs H Q => ∃ a b, x = .str a ∧ xs = [.str b] ∧ (b.length == 0) = false ∧ a.length + 2 ≤ sizeLine ∧ rNewStrs (Txt.split a b) H Q
theorem kx_split {X : Cx} : MtR X "str.split" rSplit := mt_split
theorem de_join {P : D → Nat → Prop} (h : DE A ta ρ n fun d m => ∃ a : Str, d = .str a ∧ DE A tb ρ m fun e m2 => ∃ ys : List Str, (e = .lst (ys.map D.str) ∨ e = .tup (ys.map D.str)) ∧ (ys.map (·.length)).sum + ys.length * a.length ≤ 16777216 ∧ P (.str (Txt.join a ys)) m2) :
    DE A (tM1 (rJoin A.K) ta tb) ρ n P := fun S H σ e Q q =>
  h S H σ e _ fun v d S1 H1 n1 m1 f1 r1 ⟨a, hd, h1⟩ => by
    subst hd
    cases r1.str_inv
    refine ⟨⟨a, rfl⟩, h1 S1 H1 σ (e.mv m1 f1) _ fun w e2 S2 H2 n2 m2 f2 r2 ⟨ys, he, hz, p⟩ => ?_⟩
    rcases he with he | he
    · subst he
      obtain ⟨p0, vs, rfl, g1, g2⟩ := r2.lst_inv
      rw [Reps.strsV g2] at g1
      exact ⟨a, p0, ys, rfl, rfl, Or.inl (Evl.sq_of (f2.sub _ _ g1)), hz, q _ _ S2 H2 n2 (m1.trans f1.bt m2) f2 Rep.str p⟩
    · subst he
      obtain ⟨p0, vs, rfl, g1, g2⟩ := r2.tup_inv
      rw [Reps.strsV g2] at g1
      exact ⟨a, p0, ys, rfl, rfl, Or.inr (Evl.st_of (f2.sub _ _ g1)), hz, q _ _ S2 H2 n2 (m1.trans f1.bt m2) f2 Rep.str p⟩
theorem df_split {P : List D → Nat → Prop} (h : DE A ta ρ n fun d m => ∃ a : Str, d = .str a ∧ a.length ≤ 90000 ∧ DE A tb ρ m fun e m2 => ∃ b : Str, e = .str b ∧ b.length ≠ 0 ∧ P ((Txt.split a b).map D.str) m2) :
    DF A (tM1 rSplit ta tb) ρ n P := fun S H σ e Q q =>
  h S H σ e _ fun v d S1 H1 n1 m1 f1 r1 ⟨a, hd, hz, h1⟩ => by
    subst hd
    cases r1.str_inv
    refine ⟨⟨a, rfl⟩, h1 S1 H1 σ (e.mv m1 f1) _ fun w e2 S2 H2 n2 m2 f2 r2 ⟨b, he, hb, p⟩ => ?_⟩
    subst he
    cases r2.str_inv
    refine ⟨a, b, rfl, rfl, by simpa using hb, Evl.sz_of (by omega), fun t ht => ?_⟩
    have mm := m1.trans f1.bt m2
    exact q t _ _ S2 _ n2 (mm.trans f2.bt (Mv.newO ht)) (f2.newO ht) (none_back e.f mm f2 ht) upd_same (f2.s0 ht) Reps.of_strs p
/-- f'{i}s{j}' -/
def tF3 (s : Str) (ta tb : TE) : TE := fun σ H Q => tJs [tFmt ta, tC (.str s), tFmt tb] Str.empty σ H fun out H1 => Q (.str out) H1
theorem pe_f3 {X : Cx} {a b c : Expr} {s : Str} {pos : Pos} (ha : PE X a (tFmt ta)) (hs : PE X b (tC (.str s))) (hb : PE X c (tFmt tb)) : PE X (.JoinedStr [a, b, c] pos) (tF3 s ta tb) := pe_joined (.cons ha (.cons hs (.cons hb .nil)))
theorem log_small86 {i : Int} (hi : i.natAbs < 10 ^ 68) : i.natAbs.log2 < 1920 := by
  by_cases z : i.natAbs = 0
  · rw [z]; decide
  · rw [Nat.log2_lt z]
    exact Nat.lt_of_lt_of_le hi (by
      have : (10 : Nat) ^ 68 ≤ 2 ^ 250 := by decide
      exact Nat.le_trans this (Nat.pow_le_pow_right (by decide) (by decide)))
theorem de_f3 {s : Str} {P : D → Nat → Prop} (hs : s.length ≤ 1000) (h : DE A ta ρ n fun d m => ∃ i : Int, d = .int i ∧ i.natAbs < 10 ^ 68 ∧ DE A tb ρ m fun e m2 => ∃ j : Int, e = .int j ∧ j.natAbs < 10 ^ 68 ∧ P (.str ((toString i : Str) ++ s ++ (toString j : Str))) m2) :
    DE A (tF3 s ta tb) ρ n P := fun S H σ e Q q => by
  have em : ∀ x : Str, Str.empty ++ x = x := fun x => TL.ext_tl (by rw [TL.tl_append]; rfl)
  have sl : ∀ {i : Int}, i.natAbs < 10 ^ 68 → (toString i : Str).length ≤ 100 := fun {i} hi => by
    have h := wt_strI hi
    have e : wt (.str (toString i : Str)) = 10 * (toString i : Str).length + 2 := rfl
    omega
  refine h S H σ e _ fun v d S1 H1 n1 m1 f1 r1 ⟨i, hd, hi, h1⟩ => ?_
  subst hd
  cases r1.int_inv
  have li := sl hi
  have app : ∀ x y : Str, (x ++ y).length = x.length + y.length := fun x y => by rw [TL.len_tl, TL.tl_append, List.length_append, ← TL.len_tl, ← TL.len_tl]
  refine Or.inr ⟨i, rfl, log_small86 hi, (toString i : Str), rfl, by rw [em]; exact Evl.sz_of (by omega), s, rfl, by rw [em, app]; exact Evl.sz_of (by omega), ?_⟩
  refine h1 S1 H1 σ (e.mv m1 f1) _ fun w e2 S2 H2 n2 m2 f2 r2 ⟨j, he, hj, p⟩ => ?_
  subst he
  cases r2.int_inv
  have lj := sl hj
  refine Or.inr ⟨j, rfl, log_small86 hj, (toString j : Str), rfl, by rw [em, app, app]; exact Evl.sz_of (by omega), ?_⟩
  show Q (.str (Str.empty ++ (toString i : Str) ++ s ++ (toString j : Str))) H2
  rw [em]
  exact q _ _ S2 H2 n2 (m1.trans f1.bt m2) f2 Rep.str p
/-- a text or another, by truth -/
theorem de_orStr {P : D → Nat → Prop} (h : DE A ta ρ n fun d m => ∃ x : Str, d = .str x ∧ x.length ≤ 100000 ∧ (x.length ≠ 0 → P (.str x) m) ∧ (x.length = 0 → DE A tb ρ m P)) : DE A (tOrT A.K ta tb) ρ n P := fun S H σ e Q q =>
  h S H σ e _ fun v d S1 H1 n1 m1 f1 r1 ⟨x, hd, hz, p1, p2⟩ => by
    subst hd
    cases r1.str_inv
    refine ⟨((x.length : Int) != 0), ⟨Evl.sz_of hz, rfl⟩, ?_⟩
    by_cases c : x.length = 0
    · rw [show ((x.length : Int) != 0) = false by rw [c]; rfl, if_neg Bool.false_ne_true]
      exact p2 c S1 H1 σ (e.mv m1 f1) Q fun u d2 S2 H2 n2 m2 f2 r2 p => q u d2 S2 H2 n2 (m1.trans f1.bt m2) f2 r2 p
    · rw [show ((x.length : Int) != 0) = true by simpa using c, if_pos rfl]
      exact q _ _ S1 H1 n1 m1 f1 Rep.str (p1 c)
end
end DL
/-! list(text), text * int, a text that is a global -/
namespace DL
open PySem PySem.Spec PyProof.Rows L2 Evl
section
variable {X : Cx}
theorem pe_globS {x : Str} {s : Str} {pos : Pos} (hm : ∃ t, X.mg x = some (.str s t)) (hg : Gl X x := by rfl) (hd : (x == ("__debug__" : Str)) = false := by decide) : PE X (.Name x pos) (tC (.str s)) := by
  obtain ⟨t, h⟩ := hm
  exact pe_glob hg h ⟨t, rfl⟩ hd
end
end DL
/-! try: x = f(a) if t else g(b) except .. as e: c = e; raise C(text) -/
namespace DL
open PySem PySem.Spec PyProof.Rows L2 Evl
end DL
/-! text.replace within a def of parameters (a token is out), lists of lists -/
namespace DL
open PySem PySem.Spec PyProof.Rows L2 Evl
section
variable {X : Cx} {k : Nat} {f : Addr} {fd : FuncData} {ps : List Str} {sp : Sp} {E : XK} {x : Str} {p pos : Pos} {e : Expr} {es : List Expr} {t : TA} {te : TE}
theorem pet_g (G : FnG X.prog X.w X.K X.mg X.base k f fd ps sp) (hgd : X.A.guards = some []) (hr : Room k X.A) (hm : X.mg x = some (.ref f)) (hk : PySem.W.keepIn X.K (.ref f) = true) (hb : Binds X.K fd ps []) (hx : Passes (L2.CX X.prog X.w) X E) (ha : PAT X (e :: es) t) (hg : Gl X x := by rfl)
    (hdb : (x == ("__debug__" : Str)) = false := by decide) (he : starEach (e :: es) X.env = (false, eval e X.env) :: starEach es X.env := by rfl) (hpl : (backTo pos (starEach es X.env)).any (·.1) = false := by rfl) :
    PET X (.Call (.Name x p) (e :: es) [] pos) (tCall sp [] E t) := by
  intro pins s σ H Q h0 I h
  refine wpAny_Call_Name_kw (ld_glob I hg hm ?_ hdb)
  refine PySem.W.callWith_K (h₀ := X.base) I.ok.mod.kin hk (thn (ha pos pins s σ H _ h0 I h) ?_) he hpl
  rintro us s1 ⟨vs, H1, I1, r, q⟩
  rw [List.append_nil] at q
  refine ⟨I1.kIn, wpAny_call (codeAny_mono (G.at hgd hr (us := us) ?_ hx I1 r q) ?_)⟩
  · have hl : us.length = ps.length := by rw [← r.length]; exact G.arity _ _ _ _ q
    have z := hb s1 us I1.kIn (by rw [List.append_nil]; exact hl)
    rw [List.append_nil] at z
    exact z
  · rintro (e | fl) s' hq
    · exact hq
    · cases fl with
      | ret u => exact hq
      | next => exact hq.elim
      | brk => exact hq.elim
      | cont => exact hq.elim
theorem pst_set {i : Nat} {x : Str} {e : Expr} {te : TE} {pos pos' : Pos} (hN : X.N.Nodup) (hi : X.N[i]? = some x) (hx : Loc X.env.scope x) (he : PET X e te) (hs : swapsWith e (some (.Name x pos')) pos.line X.env = pure false := by rfl) (hf : X.fn x = true ∨ X.env.scope.names.lookup x = some .local := by first | exact .inl rfl | exact .inr rfl | assumption) :
    PST X (.Assign [.Name x pos'] e pos) (tAsg te (gName i)) := fun pins s σ H D h0 I h =>
  wpAny_Assign_Name (thn (he pins s σ H _ h0 I h) fun v s1 ⟨y, H1, I1, r1, q1⟩ => store_ok I1 hN hi hx r1 (fun s2 I2 => ⟨_, H1, I2, q1⟩) hf) hs
end
section
variable {A : Amb} {te : TE} {ρ : Rho} {n : Nat}
theorem de_repl {y z : Str} {P : D → Nat → Prop} (h : DE A te ρ n fun d m => ∃ x : Str, d = .str x ∧ x.length + (x.length + 1) * z.length ≤ 16777216 ∧ P (.str (Txt.replace x y z)) m) : DE A (CwR.tReplC te y z) ρ n P := fun S H σ e Q q =>
  h S H σ e _ fun v d S1 H1 n1 m1 f1 r1 ⟨x, hd, hz, p⟩ => by
    subst hd
    cases r1.str_inv
    exact ⟨x, rfl, hz, q _ _ S1 H1 n1 m1 f1 Rep.str p⟩
end
end DL
/-! told = [.., f(..), ..]; if not same(..): ..; told[j].append(c) -/
namespace DL
open PySem PySem.Spec PyProof.Rows L2 Evl
section
variable {A : Amb} {te te0 te1 te2 : TE} {tt : TT} {ts us : TS} {ρ : Rho} {n : Nat} {T : DEnds}
theorem told_core {S H S1 H1 : Hp} {σ : L2.St} {Dn : Ends} {i j n1 : Nat} {v : V} {as : List Addr} {dss : List (List D)} {a0 : Addr} {ws : List V} {es : List DL.D} (e : ER A n S H σ ρ) (k : EndsOk A S T Dn) (hil : i < ρ.length) (m1 : Mv A.b S H S1 H1) (f1 : Fr A n1 S1 H1) (fl : FreshL A.K H S1 H1 as dss) (hja : a0 ∈ as) (hj : ws[j]? = some (.ref a0))
    (hs : ∀ ds ∈ dss, ds.length ≤ 99000) (hrep : ∀ S2, Ex S1 S2 → Reps A.K S2 (as.map V.ref) (dss.map DL.D.lst) → Reps A.K S2 ws es) (hfl : ∀ (σ : L2.St) (H : Hp) (Q : VK), Q v H → te σ H Q)
    (p : DT A tt (ρ.set i (.val (.lst es))) n1 fun b m2 => b = false ∧ DS A us (ρ.set i .un) m2 T) (p0 : Addr) (hp0 : H1 p0 = none) :
    (tSeq (tIfS tt ts tNext) (tSeq (tDrop (tBM A.K "list" rAppend (tOp (rIx A.K) (tVar i) (tC (.int (j : Int)))) (tCons te tNil))) us)) Dn (σ.set i (some (.ref p0))) (upd H1 p0 (.lst ws)) := by
  have p0as : p0 ∉ as := fun z => by
    obtain ⟨_, ⟨vs, w⟩, _⟩ := fl.at p0 z
    rw [hp0] at w; cases w
  have hp0H : H p0 = none := none_back e.f m1 f1 hp0
  have hS1p : S1 p0 = none := f1.s0 hp0
  let H2 : Hp := upd H1 p0 (.lst ws)
  let S2 : Hp := fun x => if x = p0 ∨ x ∈ as then H2 x else S1 x
  have S2n : ∀ x, x ≠ p0 → x ∉ as → S2 x = S1 x := fun x a b => if_neg (by rintro (z | z); exact a z; exact b z)
  have S2y : ∀ x, x = p0 ∨ x ∈ as → S2 x = H2 x := fun x a => if_pos a
  have out1 : ∀ x u, S1 x = some u → x ≠ p0 ∧ x ∉ as := by
    intro x u hx
    constructor
    · intro z
      rw [z, hS1p] at hx
      cases hx
    · intro z
      rw [(fl.at x z).2.2] at hx
      cases hx
  have ex12 : Ex S1 S2 := fun x u hx => by
    obtain ⟨a, b⟩ := out1 x u hx
    rw [S2n x a b]; exact hx
  have sub2 : Ex S2 H2 := fun x u hx => by
    by_cases z : x = p0 ∨ x ∈ as
    · rw [← S2y x z]; exact hx
    · have a : x ≠ p0 := fun w => z (Or.inl w)
      rw [S2n x a (fun w => z (Or.inr w))] at hx
      show upd H1 p0 _ x = some u
      rw [upd_ne a]; exact f1.sub x u hx
  have outH : ∀ x, H x ≠ none → x ≠ p0 ∧ x ∉ as := fun x hx => ⟨fun z => hx (by rw [z]; exact hp0H), fun z => hx (fl.at x z).1⟩
  have mSH : Mv A.b S H S2 H2 := by
    refine ⟨m1.ss.trans ex12, fun x o hne hx nt => ?_, fun x ps hx => ?_, fun x hx hs => ?_⟩
    · obtain ⟨a, _⟩ := outH x (by rw [hx]; exact fun z => nomatch z)
      show upd H1 p0 _ x = some o
      rw [upd_ne a]; exact m1.fr x o hne hx nt
    · obtain ⟨a, _⟩ := outH x (by rw [hx]; exact fun z => nomatch z)
      obtain ⟨qs, hq⟩ := m1.tb x ps hx
      refine ⟨qs, ?_⟩
      show upd H1 p0 _ x = _
      rw [upd_ne a]; exact hq
    · obtain ⟨a, b⟩ := outH x hx
      rw [S2n x a b]; exact m1.sep x hx hs
  have boxout : ∀ x, A.b = some x → x ≠ p0 ∧ x ∉ as := fun x hx => outH x (by
    obtain ⟨⟨_, _, _, w, _⟩, _⟩ := e.f.box x hx
    rw [w]; exact fun z => nomatch z)
  have f2 : Fr A n1 S2 H2 := ⟨sub2, e.f.mv.trans e.f.bt mSH, fun x hx => by
    obtain ⟨a, b⟩ := boxout x hx
    obtain ⟨b1, b2, b3⟩ := f1.box x hx
    refine ⟨?_, by rw [S2n x a b]; exact b2, b3⟩
    obtain ⟨u, v, w, q1, q2⟩ := b1
    exact ⟨u, v, w, by show upd H1 p0 _ x = _; rw [upd_ne a]; exact q1, q2⟩, TabK.new (⟨f1.tab.1, fun q hq => by
      obtain ⟨ps, h1, _⟩ := f1.tab.1 q hq
      rw [S2n q.1 (fun z => by rw [z, hp0] at h1; cases h1) (fun z => by
        obtain ⟨_, ⟨vs, w⟩, _⟩ := fl.at q.1 z
        rw [h1] at w; cases w)]
      exact f1.tab.2 q hq⟩ : TabK A.K S2 H1) hp0⟩
  have rp : Rep A.K S2 (.ref p0) (.lst es) := Rep.lst (vs := ws) ((S2y p0 (Or.inl rfl)).trans upd_same) (hrep S2 ex12 (fl.vals ex12 fun a ha => by
    rw [S2y a (Or.inr ha)]
    show upd H1 p0 _ a = H1 a
    exact upd_ne (show a ≠ p0 from fun z => p0as (z ▸ ha))))
  refine p S2 H2 _ ((e.mv mSH f2).set rp) _ fun b S3 H3 n3 m3 f3 ⟨hb, p3⟩ => ?_
  subst hb
  have keep : ∀ x u, S2 x = some u → H3 x = some u := fun x u hx => f3.sub x u (m3.ss x u hx)
  have hσ : (σ.set i (some (V.ref p0)))[i]? = some (some (.ref p0)) := List.getElem?_set_self (by rw [e.len]; exact hil)
  have hH3p : H3 p0 = some (.lst ws) := keep _ _ ((S2y p0 (Or.inl rfl)).trans upd_same)
  have sm : ∀ a ∈ as, ∃ vs, H3 a = some (.lst vs) ∧ vs.length ≤ 99000 := fun a ha => by
    obtain ⟨vs, w1, w2⟩ := fl.small hs a ha
    refine ⟨vs, keep a _ ?_, w2⟩
    rw [S2y a (Or.inr ha)]
    show upd H1 p0 _ a = _
    rw [upd_ne (show a ≠ p0 from fun z => p0as (z ▸ ha))]; exact w1
  obtain ⟨vs, w1, w2⟩ := sm a0 hja
  refine ⟨.ref p0, hσ, Or.inl ⟨p0, ws, (j : Int), .ref a0, rfl, rfl, Evl.sq_of hH3p, atI_nat hj, Or.inl ⟨rfl, vs, Evl.sq_of w1⟩, ?_⟩⟩
  refine hfl _ H3 _ ⟨a0, vs, v, rfl, rfl, w1, Evl.sz_lt (by omega), ?_⟩
  have same : ∀ x, x ∉ as → upd H3 a0 (.lst (vs ++ [v])) x = H3 x := fun x hx => upd_ne fun z => hx (z ▸ hja)
  generalize upd H3 a0 (.lst (vs ++ [v])) = H4 at same ⊢
  · have mv4 : Mv A.b S H S1 H4 := by
      refine ⟨m1.ss, fun x o hne hx nt => ?_, fun x ps hx => ?_, m1.sep⟩
      · obtain ⟨_, b⟩ := outH x (by rw [hx]; exact fun z => nomatch z)
        rw [same x b]
        exact m3.fr x o hne (mSH.fr x o hne hx nt) nt
      · obtain ⟨_, b⟩ := outH x (by rw [hx]; exact fun z => nomatch z)
        obtain ⟨qs, hq⟩ := mSH.tb x ps hx
        obtain ⟨rs, hr⟩ := m3.tb x qs hq
        exact ⟨rs, (same x b).trans hr⟩
    have lst3 : ∀ x ∈ as, ∃ vs, H3 x = some (.lst vs) := fun x hx => by
      obtain ⟨vs, w1, _⟩ := fl.small hs x hx
      refine ⟨vs, keep x _ ?_⟩
      rw [S2y x (Or.inr hx)]
      show upd H1 p0 _ x = _
      rw [upd_ne (show x ≠ p0 from fun z => p0as (z ▸ hx))]; exact w1
    have tab4 : TabK A.K S1 H4 := TabK.same (⟨f3.tab.1, f1.tab.2⟩ : TabK A.K S1 H3) fun x hx => same x fun z => by
      obtain ⟨vs, w⟩ := lst3 x z
      exact hx vs w
    have f4 : Fr A n3 S1 H4 := ⟨fun x u hx => by
      obtain ⟨_, b⟩ := out1 x u hx
      rw [same x b]
      exact keep x u (ex12 x u hx), e.f.mv.trans e.f.bt mv4, fun x hx => by
      obtain ⟨_, b⟩ := boxout x hx
      obtain ⟨u, v, w, q1, q2⟩ := (f3.box x hx).1
      exact ⟨⟨u, v, w, by rw [same x b]; exact q1, q2⟩, (f1.box x hx).2.1, (f1.box x hx).2.2⟩, tab4⟩
    exact p3 S1 H4 _ ((e.mv mv4 f4).setUn (i := i) (o := some (V.ref p0))) Dn (k.on m1.ss)
/-- told = [d0, f(..), d2]; if not same(..): ..; told[1].append(c) -/
theorem ds_told3 {i : Nat} {v : V} (hil : i < ρ.length) (hfl : ∀ (σ : L2.St) (H : Hp) (Q : VK), Q v H → te σ H Q)
    (h : DE A te0 ρ n fun d0 n0 => DF A te1 ρ n0 fun ds1 n1 => DE A te2 ρ n1 fun d2 n2 => ds1.length ≤ 99000 ∧ DT A tt (ρ.set i (.val (.lst [d0, .lst ds1, d2]))) n2 fun b m2 => b = false ∧ DS A us (ρ.set i .un) m2 T) :
    DS A (tSeq (tAsg (tLst (tCons te0 (tCons te1 (tCons te2 tNil)))) (gName i)) (tSeq (tIfS tt ts tNext) (tSeq (tDrop (tBM A.K "list" rAppend (tOp (rIx A.K) (tVar i) (tC (.int 1))) (tCons te tNil))) us))) ρ n T := fun S H σ e Dn k => by
  refine h S H σ e _ fun v0 d0 S0 H0 n0 m0 f0 r0 p0 => ?_
  refine p0 S0 H0 σ (e.mv m0 f0) _ fun a vs ds1 S1 H1 n1 m1 f1 hn hh hs r1 p1 => ?_
  have m01 := m0.trans f0.bt m1
  refine p1 S1 H1 σ (e.mv m01 f1) _ fun v2 d2 S2 H2 n2 m2 f2 r2 ⟨hz, p⟩ => ?_
  have m02 := m01.trans f1.bt m2
  have nb : some a ≠ A.b := fun z => by
    obtain ⟨⟨_, _, _, w, _⟩, _⟩ := f0.box a z.symm
    rw [hn] at w; cases w
  have fl : FreshL A.K H S2 H2 [a] [ds1] := .cons (none_back e.f m0 f0 hn) (m2.fr a _ nb hh) (m2.sep a (by rw [hh]; exact fun z => nomatch z) hs) (r1.mono m2.ss) (by simp) .nil
  refine ⟨Evl.sz_of (by simp), fun q hq => ?_⟩
  refine told_core (j := 1) (ws := [v0, .ref a, v2]) e k hil m02 f2 fl List.mem_cons_self rfl (fun ds hd => by cases List.mem_singleton.mp hd; exact hz) (fun S3 ex rs => ?_) hfl p q hq
  have ra := rs.uncons
  obtain ⟨_, _, e1, h1, _⟩ := ra
  cases e1
  exact Reps.cons (r0.mono ((m1.trans f1.bt m2).ss.trans ex)) (Reps.cons h1 (Reps.one (r2.mono ex)))
end
end DL
/-! x = f(a, 12, ..): behind it a token is out -/
namespace DL
open PySem PySem.Spec PyProof.Rows L2 Evl
section
variable {X : Cx} {k : Nat} {f : Addr} {fd : FuncData} {ps : List Str} {sp : Sp} {E : XK} {fx x : Str} {p pos pos' apos cpos : Pos} {e1 : Expr} {es : List Expr} {t : TA} {te : TE} {rest : List Stmt} {u : TS} {i j : Nat} {z : Int}
theorem pss_setTok (hN : X.N.Nodup) (hi : X.N[i]? = some x) (hx : Loc X.env.scope x) (G : FnG X.prog X.w X.K X.mg X.base k f fd ps sp) (hgd : X.A.guards = some []) (hr : Room k X.A) (hm : X.mg fx = some (.ref f)) (hk : PySem.W.keepIn X.K (.ref f) = true) (hb : Binds X.K fd ps []) (hpx : Passes (L2.CX X.prog X.w) X E)
    (ha : PE X e1 te) (hes : PA X es t) (h2 : PSsT X rest u) (hg : Gl X fx := by rfl)
    (hdb : (fx == ("__debug__" : Str)) = false := by decide) (he : starEach (e1 :: .Constant (.int z) j cpos :: es) X.env = (false, eval e1 X.env) :: (false, eval (.Constant (.int z) j cpos) X.env) :: starEach es X.env := by rfl)
    (hpl : (backTo apos ((false, eval (.Constant (.int z) j cpos) X.env) :: starEach es X.env)).any (·.1) = false := by rfl)
    (hs : swapsWith (.Call (.Name fx p) (e1 :: .Constant (.int z) j cpos :: es) [] apos) (some (.Name x pos')) pos.line X.env = pure false := by rfl) (hf : X.fn x = true ∨ X.env.scope.names.lookup x = some .local := by first | exact .inl rfl | exact .inr rfl | assumption) :
    PSs X (.Assign [.Name x pos'] (.Call (.Name fx p) (e1 :: .Constant (.int z) j cpos :: es) [] apos) pos :: rest) (tSeq (tAsg (tCall sp [] E (tCons te (tCons (tC (.int z)) t))) (gName i)) u) := by
  refine ⟨fun pins s σ H D I h => ?_⟩
  refine wpAny_execs_cons (wpAny_Assign_Name (Q := _) ?_ hs)
  refine wpAny_Call_Name_kw (ld_glob I hg hm ?_ hdb)
  refine PySem.W.callWith_K (h₀ := X.base) I.ok.mod.kin hk ?_ he hpl
  have key : ∀ (pp : Pos) (Q : List V → Hp → Prop), (tCons te (tCons (tC (.int z)) t)) σ H Q → wpAny (model X.prog X.w) X.A (spliced ((false, eval e1 X.env) :: backTo pp ((false, eval (.Constant (.int z) j cpos) X.env) :: starEach es X.env))) (fun us s' => 1 ≤ s'.toks ∧ AP X pins σ Q us s') X.xe s := fun pp Q hq => by
    refine Calls.spliced_cons (thn (ha.run pins s σ H _ I hq) fun v s1 ⟨y, H1, I1, r1, q1⟩ => ?_)
    show wpAny _ _ (spliced ((false, eval (.Constant (.int z) j cpos) X.env) :: backTo _ (starEach es X.env))) _ _ _
    refine Calls.spliced_cons (wpAny_Constant_int ?_)
    refine wpAny_mono (PySem.wpAny_toks (hes.run _ pins _ σ H1 _ (I1.tok _) q1)) (fun us s2 q => ?_) fun _ _ w => w.2
    obtain ⟨hk2, xs, H2, I2, r2, q2⟩ := q
    exact ⟨Nat.le_trans (Nat.succ_le_succ (Nat.zero_le _)) hk2, y :: .int z :: xs, H2, I2, .cons r1 (.cons ⟨_, rfl⟩ r2), q2⟩
  rw [he]
  refine thn (key _ (fun vs H1 => sp (vs ++ []) H1 (fun y H2 => u D (σ.set i (some y)) H2) E) h) ?_
  rintro us s1 ⟨hk1, vs, H1, I1, r, q⟩
  rw [List.append_nil] at q
  refine ⟨I1.kIn, wpAny_mono (PySem.wpAny_toks (Q := EP X pins σ fun y H2 => u D (σ.set i (some y)) H2) (wpAny_call (codeAny_mono (G.at hgd hr (us := us) ?_ hpx I1 r q) ?_))) (fun v s2 q2 => ?_) fun _ _ w => w.2⟩
  · have hl : us.length = ps.length := by rw [← r.length]; exact G.arity _ _ _ _ q
    have zz := hb s1 us I1.kIn (by rw [List.append_nil]; exact hl)
    rw [List.append_nil] at zz
    exact zz
  · rintro (e | fl) s' hq
    · exact hq
    · cases fl with
      | ret u => exact hq
      | next => exact hq.elim
      | brk => exact hq.elim
      | cont => exact hq.elim
  · obtain ⟨hk2, y, H2, I2, r2, q3⟩ := q2
    refine wpAny_mono (PySem.wpAny_toks (store_ok (Q := fun _ s3 => Inv X pins (σ.set i (some y)) H2 s3) I2 hN hi hx r2 (fun _ I3 => I3) hf)) (fun _ s3 q4 => ?_) fun _ _ w => w.2
    exact h2 pins s3 _ H2 D (Nat.le_trans hk1 (Nat.le_trans hk2 q4.1)) q4.2 q3
end
end DL
namespace K64
open PySem PySem.Spec PyProof.Rows L2 Evl DL DLZ
def topS (i : Nat) : Stmt := PySem.Challenge.pw_stayswap_k64_texts_and_back.main.body.getD i (.Pass ⟨0, 0, 0, 0⟩)
abbrev s_l_draw : Stmt := topS 21
abbrev s_l_pick : Stmt := topS 23
abbrev s_l_stream : Stmt := topS 20
abbrev s_l_folded : Stmt := topS 22
abbrev s_l_same : Stmt := topS 24
abbrev s_is_number : Stmt := topS 9
abbrev s__words_of : Stmt := topS 11
abbrev s__is_day : Stmt := topS 5
abbrev s__is_stay : Stmt := topS 4
abbrev s_is_stays : Stmt := topS 3
abbrev s__pairs_of : Stmt := topS 12
abbrev s_stays_in : Stmt := topS 16
abbrev s_pairs_in : Stmt := topS 17
abbrev s_wish_in : Stmt := topS 18
abbrev s__text_of : Stmt := topS 10
abbrev s_stays_text : Stmt := topS 13
abbrev s_pairs_text : Stmt := topS 14
abbrev s_wish_text : Stmt := topS 15
abbrev s_l_lists : Stmt := topS 25
abbrev s_l_stays : Stmt := topS 26
abbrev s_l_joined : Stmt := topS 27
abbrev s_l_right : Stmt := topS 28
abbrev s_law : Stmt := topS 29
def kg_stays_text_0_stays {α : Type} : List α → List α → List α
  | [], [w0] => [w0]
  | _, _ => []
def kg_pairs_text_0_pairs {α : Type} : List α → List α → List α
  | [], [w0] => [w0]
  | _, _ => []
def kg_wish_text_0_wish {α : Type} : List α → List α → List α
  | [], [w0] => [w0]
  | _, _ => []
def kg_stays_in_0_text {α : Type} : List α → List α → List α
  | [], [w0] => [w0]
  | _, _ => []
def kg_pairs_in_0_text {α : Type} : List α → List α → List α
  | [], [w0] => [w0]
  | _, _ => []
def kg_wish_in_0_text {α : Type} : List α → List α → List α
  | [], [w0] => [w0]
  | _, _ => []
/-- what the top has left -/
structure Tx (K : PySem.W.Frag) (mg : Str → Option Value) where
  a_l_draw : Addr
  fd_l_draw : FuncData
  F_l_draw : Fun K "_law_draw" "_law_draw" s_l_draw a_l_draw fd_l_draw
  m_l_draw : mg "_law_draw" = some (.ref a_l_draw)
  k_l_draw : PySem.W.keepIn K (.ref a_l_draw) = true
  b_l_draw : Binds K fd_l_draw ["_law_source", "_law_bound"] []
  a_l_pick : Addr
  fd_l_pick : FuncData
  F_l_pick : Fun K "_law_pick" "_law_pick" s_l_pick a_l_pick fd_l_pick
  m_l_pick : mg "_law_pick" = some (.ref a_l_pick)
  k_l_pick : PySem.W.keepIn K (.ref a_l_pick) = true
  b_l_pick : Binds K fd_l_pick ["_law_source", "_law_some"] []
  a_l_stream : Addr
  fd_l_stream : FuncData
  F_l_stream : Fun K "_law_stream" "_law_stream" s_l_stream a_l_stream fd_l_stream
  m_l_stream : mg "_law_stream" = some (.ref a_l_stream)
  k_l_stream : PySem.W.keepIn K (.ref a_l_stream) = true
  b_l_stream : Binds K fd_l_stream ["_law_script", "_law_k"] []
  a_l_folded : Addr
  fd_l_folded : FuncData
  F_l_folded : Fun K "_law_folded" "_law_folded" s_l_folded a_l_folded fd_l_folded
  m_l_folded : mg "_law_folded" = some (.ref a_l_folded)
  k_l_folded : PySem.W.keepIn K (.ref a_l_folded) = true
  b_l_folded : Binds K fd_l_folded ["_law_script", "_law_most"] []
  a_l_same : Addr
  fd_l_same : FuncData
  F_l_same : Fun K "_law_same" "_law_same" s_l_same a_l_same fd_l_same
  m_l_same : mg "_law_same" = some (.ref a_l_same)
  k_l_same : PySem.W.keepIn K (.ref a_l_same) = true
  b_l_same : Binds K fd_l_same ["_law_found", "_law_due"] []
  a_is_number : Addr
  fd_is_number : FuncData
  F_is_number : Fun K "is_number" "is_number" s_is_number a_is_number fd_is_number
  m_is_number : mg "is_number" = some (.ref a_is_number)
  k_is_number : PySem.W.keepIn K (.ref a_is_number) = true
  b_is_number : Binds K fd_is_number ["word"] []
  a__words_of : Addr
  fd__words_of : FuncData
  F__words_of : Fun K "_words_of" "_words_of" s__words_of a__words_of fd__words_of
  m__words_of : mg "_words_of" = some (.ref a__words_of)
  k__words_of : PySem.W.keepIn K (.ref a__words_of) = true
  b__words_of : Binds K fd__words_of ["text"] []
  a__is_day : Addr
  fd__is_day : FuncData
  F__is_day : Fun K "_is_day" "_is_day" s__is_day a__is_day fd__is_day
  m__is_day : mg "_is_day" = some (.ref a__is_day)
  k__is_day : PySem.W.keepIn K (.ref a__is_day) = true
  b__is_day : Binds K fd__is_day ["value"] []
  a__is_stay : Addr
  fd__is_stay : FuncData
  F__is_stay : Fun K "_is_stay" "_is_stay" s__is_stay a__is_stay fd__is_stay
  m__is_stay : mg "_is_stay" = some (.ref a__is_stay)
  k__is_stay : PySem.W.keepIn K (.ref a__is_stay) = true
  b__is_stay : Binds K fd__is_stay ["value"] []
  a_is_stays : Addr
  fd_is_stays : FuncData
  F_is_stays : Fun K "is_stays" "is_stays" s_is_stays a_is_stays fd_is_stays
  m_is_stays : mg "is_stays" = some (.ref a_is_stays)
  k_is_stays : PySem.W.keepIn K (.ref a_is_stays) = true
  b_is_stays : Binds K fd_is_stays ["value"] []
  a__pairs_of : Addr
  fd__pairs_of : FuncData
  F__pairs_of : Fun K "_pairs_of" "_pairs_of" s__pairs_of a__pairs_of fd__pairs_of
  m__pairs_of : mg "_pairs_of" = some (.ref a__pairs_of)
  k__pairs_of : PySem.W.keepIn K (.ref a__pairs_of) = true
  b__pairs_of : Binds K fd__pairs_of ["text", "sign"] []
  a_stays_in : Addr
  fd_stays_in : FuncData
  F_stays_in : Fun K "stays_in" "stays_in" s_stays_in a_stays_in fd_stays_in
  m_stays_in : mg "stays_in" = some (.ref a_stays_in)
  k_stays_in : PySem.W.keepIn K (.ref a_stays_in) = true
  b_stays_in : Binds K fd_stays_in ["text"] []
  a_pairs_in : Addr
  fd_pairs_in : FuncData
  F_pairs_in : Fun K "pairs_in" "pairs_in" s_pairs_in a_pairs_in fd_pairs_in
  m_pairs_in : mg "pairs_in" = some (.ref a_pairs_in)
  k_pairs_in : PySem.W.keepIn K (.ref a_pairs_in) = true
  b_pairs_in : Binds K fd_pairs_in ["text"] []
  a_wish_in : Addr
  fd_wish_in : FuncData
  F_wish_in : Fun K "wish_in" "wish_in" s_wish_in a_wish_in fd_wish_in
  m_wish_in : mg "wish_in" = some (.ref a_wish_in)
  k_wish_in : PySem.W.keepIn K (.ref a_wish_in) = true
  b_wish_in : Binds K fd_wish_in ["text"] []
  a__text_of : Addr
  fd__text_of : FuncData
  F__text_of : Fun K "_text_of" "_text_of" s__text_of a__text_of fd__text_of
  m__text_of : mg "_text_of" = some (.ref a__text_of)
  k__text_of : PySem.W.keepIn K (.ref a__text_of) = true
  b__text_of : Binds K fd__text_of ["words"] []
  a_stays_text : Addr
  fd_stays_text : FuncData
  F_stays_text : Fun K "stays_text" "stays_text" s_stays_text a_stays_text fd_stays_text
  m_stays_text : mg "stays_text" = some (.ref a_stays_text)
  k_stays_text : PySem.W.keepIn K (.ref a_stays_text) = true
  b_stays_text : Binds K fd_stays_text ["stays"] []
  a_pairs_text : Addr
  fd_pairs_text : FuncData
  F_pairs_text : Fun K "pairs_text" "pairs_text" s_pairs_text a_pairs_text fd_pairs_text
  m_pairs_text : mg "pairs_text" = some (.ref a_pairs_text)
  k_pairs_text : PySem.W.keepIn K (.ref a_pairs_text) = true
  b_pairs_text : Binds K fd_pairs_text ["pairs"] []
  a_wish_text : Addr
  fd_wish_text : FuncData
  F_wish_text : Fun K "wish_text" "wish_text" s_wish_text a_wish_text fd_wish_text
  m_wish_text : mg "wish_text" = some (.ref a_wish_text)
  k_wish_text : PySem.W.keepIn K (.ref a_wish_text) = true
  b_wish_text : Binds K fd_wish_text ["wish"] []
  a_l_lists : Addr
  fd_l_lists : FuncData
  F_l_lists : Fun K "_law_lists" "_law_lists" s_l_lists a_l_lists fd_l_lists
  m_l_lists : mg "_law_lists" = some (.ref a_l_lists)
  k_l_lists : PySem.W.keepIn K (.ref a_l_lists) = true
  b_l_lists : Binds K fd_l_lists ["_law_thing"] []
  a_l_stays : Addr
  fd_l_stays : FuncData
  F_l_stays : Fun K "_law_stays" "_law_stays" s_l_stays a_l_stays fd_l_stays
  m_l_stays : mg "_law_stays" = some (.ref a_l_stays)
  k_l_stays : PySem.W.keepIn K (.ref a_l_stays) = true
  b_l_stays : Binds K fd_l_stays ["_law_source", "_law_most", "_law_top"] []
  a_l_joined : Addr
  fd_l_joined : FuncData
  F_l_joined : Fun K "_law_joined" "_law_joined" s_l_joined a_l_joined fd_l_joined
  m_l_joined : mg "_law_joined" = some (.ref a_l_joined)
  k_l_joined : PySem.W.keepIn K (.ref a_l_joined) = true
  b_l_joined : Binds K fd_l_joined ["_law_words"] []
  a_l_right : Addr
  fd_l_right : FuncData
  F_l_right : Fun K "_law_right" "_law_right" s_l_right a_l_right fd_l_right
  m_l_right : mg "_law_right" = some (.ref a_l_right)
  k_l_right : PySem.W.keepIn K (.ref a_l_right) = true
  b_l_right : Binds K fd_l_right ["_law_source"] []
  a_law : Addr
  fd_law : FuncData
  F_law : Fun K "law" "law" s_law a_law fd_law
  m_law : mg "law" = some (.ref a_law)
  k_law : PySem.W.keepIn K (.ref a_law) = true
  b_law : Binds K fd_law ["_law_script"] []
  K_stays_text_0_stays : KBinds K fd_stays_text ["stays"] ["stays"] kg_stays_text_0_stays kg_stays_text_0_stays
  K_pairs_text_0_pairs : KBinds K fd_pairs_text ["pairs"] ["pairs"] kg_pairs_text_0_pairs kg_pairs_text_0_pairs
  K_wish_text_0_wish : KBinds K fd_wish_text ["wish"] ["wish"] kg_wish_text_0_wish kg_wish_text_0_wish
  K_stays_in_0_text : KBinds K fd_stays_in ["text"] ["text"] kg_stays_in_0_text kg_stays_in_0_text
  K_pairs_in_0_text : KBinds K fd_pairs_in ["text"] ["text"] kg_pairs_in_0_text kg_pairs_in_0_text
  K_wish_in_0_text : KBinds K fd_wish_in ["text"] ["text"] kg_wish_in_0_text kg_wish_in_0_text
  n_abs : mg "abs" = none
  n_all : mg "all" = none
  n_bool : mg "bool" = none
  n_enumerate : mg "enumerate" = none
  n_int : mg "int" = none
  n_isinstance : mg "isinstance" = none
  n_len : mg "len" = none
  n_list : mg "list" = none
  n_min : mg "min" = none
  n_range : mg "range" = none
  n_str : mg "str" = none
  n_sum : mg "sum" = none
  n_tuple : mg "tuple" = none
  n_zip : mg "zip" = none
  q_DIGITS : ∃ t, mg "DIGITS" = some (.str (Str.ofString "0123456789") t)
  q_MOST_DIGITS : ∃ t, mg "MOST_DIGITS" = some (.int 50 t)
theorem sc_l_draw : FnScope ["_law_source", "_law_bound", "_law_found", "_law_once", "_law_twice"] ["_law_source", "_law_bound"] (defScope s_l_draw) := ⟨rfl, rfl, rfl, by decide +kernel, rfl, by decide +kernel, by decide +kernel⟩
theorem sc_l_pick : FnScope ["_law_source", "_law_some"] ["_law_source", "_law_some"] (defScope s_l_pick) := ⟨rfl, rfl, rfl, by decide +kernel, rfl, by decide +kernel, by decide +kernel⟩
theorem sc_l_stream : FnScope ["_law_script", "_law_k", "_law_cell"] ["_law_script", "_law_k"] (defScope s_l_stream) := ⟨rfl, rfl, rfl, by decide +kernel, rfl, by decide +kernel, by decide +kernel⟩
theorem sc_l_folded : FnScope ["_law_script", "_law_most", "_law_cells", "_law_k", "_law_cell"] ["_law_script", "_law_most"] (defScope s_l_folded) := ⟨rfl, rfl, rfl, by decide +kernel, rfl, by decide +kernel, by decide +kernel⟩
theorem sc_l_same : FnScope ["_law_found", "_law_due", "_law_mine", "_law_its"] ["_law_found", "_law_due"] (defScope s_l_same) := ⟨rfl, rfl, rfl, by decide +kernel, rfl, by decide +kernel, by decide +kernel⟩
theorem sc_is_number : FnScope ["word", "sign"] ["word"] (defScope s_is_number) := ⟨rfl, rfl, rfl, by decide +kernel, rfl, by decide +kernel, by decide +kernel⟩
theorem sc__words_of : FnScope ["text"] ["text"] (defScope s__words_of) := ⟨rfl, rfl, rfl, by decide +kernel, rfl, by decide +kernel, by decide +kernel⟩
theorem sc__is_day : FnScope ["value"] ["value"] (defScope s__is_day) := ⟨rfl, rfl, rfl, by decide +kernel, rfl, by decide +kernel, by decide +kernel⟩
theorem sc__is_stay : FnScope ["value"] ["value"] (defScope s__is_stay) := ⟨rfl, rfl, rfl, by decide +kernel, rfl, by decide +kernel, by decide +kernel⟩
theorem sc_is_stays : FnScope ["value", "item"] ["value"] (defScope s_is_stays) := ⟨rfl, rfl, rfl, by decide +kernel, rfl, by decide +kernel, by decide +kernel⟩
theorem sc__pairs_of : FnScope ["text", "sign", "pairs", "pair", "word", "first", "second"] ["text", "sign"] (defScope s__pairs_of) := ⟨rfl, rfl, rfl, by decide +kernel, rfl, by decide +kernel, by decide +kernel⟩
theorem sc_stays_in : FnScope ["text", "stays"] ["text"] (defScope s_stays_in) := ⟨rfl, rfl, rfl, by decide +kernel, rfl, by decide +kernel, by decide +kernel⟩
theorem sc_pairs_in : FnScope ["text"] ["text"] (defScope s_pairs_in) := ⟨rfl, rfl, rfl, by decide +kernel, rfl, by decide +kernel, by decide +kernel⟩
theorem sc_wish_in : FnScope ["text", "words", "word"] ["text"] (defScope s_wish_in) := ⟨rfl, rfl, rfl, by decide +kernel, rfl, by decide +kernel, by decide +kernel⟩
theorem sc__text_of : FnScope ["words"] ["words"] (defScope s__text_of) := ⟨rfl, rfl, rfl, by decide +kernel, rfl, by decide +kernel, by decide +kernel⟩
theorem sc_stays_text : FnScope ["stays", "arrival", "leaving"] ["stays"] (defScope s_stays_text) := ⟨rfl, rfl, rfl, by decide +kernel, rfl, by decide +kernel, by decide +kernel⟩
theorem sc_pairs_text : FnScope ["pairs", "one", "other"] ["pairs"] (defScope s_pairs_text) := ⟨rfl, rfl, rfl, by decide +kernel, rfl, by decide +kernel, by decide +kernel⟩
theorem sc_wish_text : FnScope ["wish", "day"] ["wish"] (defScope s_wish_text) := ⟨rfl, rfl, rfl, by decide +kernel, rfl, by decide +kernel, by decide +kernel⟩
theorem sc_l_lists : FnScope ["_law_thing", "_law_piece"] ["_law_thing"] (defScope s_l_lists) := ⟨rfl, rfl, rfl, by decide +kernel, rfl, by decide +kernel, by decide +kernel⟩
theorem sc_l_stays : FnScope ["_law_source", "_law_most", "_law_top", "_law_found", "_law_taken", "_law_turn", "_law_leaving", "_law_wide"] ["_law_source", "_law_most", "_law_top"] (defScope s_l_stays) := ⟨rfl, rfl, rfl, by decide +kernel, rfl, by decide +kernel, by decide +kernel⟩
theorem sc_l_joined : FnScope ["_law_words"] ["_law_words"] (defScope s_l_joined) := ⟨rfl, rfl, rfl, by decide +kernel, rfl, by decide +kernel, by decide +kernel⟩
theorem sc_l_right : FnScope ["_law_source", "_law_guests", "_law_tape", "_law_hope", "_law_turn", "_law_top", "_law_due", "_law_found", "_law_large", "_law_words", "_law_arrival", "_law_leaving", "_law_one", "_law_other", "_law_day"] ["_law_source"] (defScope s_l_right) := ⟨rfl, rfl, rfl, by decide +kernel, rfl, by decide +kernel, by decide +kernel⟩
theorem sc_law : FnScope ["_law_script", "_law_cells", "_law_k", "_law_source", "_law_turn"] ["_law_script"] (defScope s_law) := ⟨rfl, rfl, rfl, by decide +kernel, rfl, by decide +kernel, by decide +kernel⟩
theorem puts_stays_text_0_stays : Puts kg_stays_text_0_stays kg_stays_text_0_stays := by
  intro K S vs ds ws es r1 r2
  have l1 := r1.length
  have l2 := r2.length
  by_cases c : ds.length = 0 ∧ es.length = 1
  · obtain ⟨c1, c2⟩ := c
    match ds, es, c1, c2 with
    | [], [e0], _, _ =>
      obtain rfl := (show _ = [] from by have z := r1; unfold Reps at z; exact z)
      obtain ⟨v_e0, r_e0, rfl, q_e0, t_e0⟩ := r2.uncons
      obtain rfl := (show _ = [] from by have z := t_e0; unfold Reps at z; exact z)
      exact Reps.cons q_e0 (Reps.nil)
  · have e1 : kg_stays_text_0_stays vs ws = [] := by
      unfold kg_stays_text_0_stays
      split
      · exact absurd ⟨by simpa using l1.symm, by simpa using l2.symm⟩ c
      · rfl
    have e2 : kg_stays_text_0_stays ds es = [] := by
      unfold kg_stays_text_0_stays
      split
      · exact absurd ⟨rfl, rfl⟩ c
      · rfl
    rw [e1, e2]
    exact Reps.nil
theorem puts_pairs_text_0_pairs : Puts kg_pairs_text_0_pairs kg_pairs_text_0_pairs := by
  intro K S vs ds ws es r1 r2
  have l1 := r1.length
  have l2 := r2.length
  by_cases c : ds.length = 0 ∧ es.length = 1
  · obtain ⟨c1, c2⟩ := c
    match ds, es, c1, c2 with
    | [], [e0], _, _ =>
      obtain rfl := (show _ = [] from by have z := r1; unfold Reps at z; exact z)
      obtain ⟨v_e0, r_e0, rfl, q_e0, t_e0⟩ := r2.uncons
      obtain rfl := (show _ = [] from by have z := t_e0; unfold Reps at z; exact z)
      exact Reps.cons q_e0 (Reps.nil)
  · have e1 : kg_pairs_text_0_pairs vs ws = [] := by
      unfold kg_pairs_text_0_pairs
      split
      · exact absurd ⟨by simpa using l1.symm, by simpa using l2.symm⟩ c
      · rfl
    have e2 : kg_pairs_text_0_pairs ds es = [] := by
      unfold kg_pairs_text_0_pairs
      split
      · exact absurd ⟨rfl, rfl⟩ c
      · rfl
    rw [e1, e2]
    exact Reps.nil
theorem puts_wish_text_0_wish : Puts kg_wish_text_0_wish kg_wish_text_0_wish := by
  intro K S vs ds ws es r1 r2
  have l1 := r1.length
  have l2 := r2.length
  by_cases c : ds.length = 0 ∧ es.length = 1
  · obtain ⟨c1, c2⟩ := c
    match ds, es, c1, c2 with
    | [], [e0], _, _ =>
      obtain rfl := (show _ = [] from by have z := r1; unfold Reps at z; exact z)
      obtain ⟨v_e0, r_e0, rfl, q_e0, t_e0⟩ := r2.uncons
      obtain rfl := (show _ = [] from by have z := t_e0; unfold Reps at z; exact z)
      exact Reps.cons q_e0 (Reps.nil)
  · have e1 : kg_wish_text_0_wish vs ws = [] := by
      unfold kg_wish_text_0_wish
      split
      · exact absurd ⟨by simpa using l1.symm, by simpa using l2.symm⟩ c
      · rfl
    have e2 : kg_wish_text_0_wish ds es = [] := by
      unfold kg_wish_text_0_wish
      split
      · exact absurd ⟨rfl, rfl⟩ c
      · rfl
    rw [e1, e2]
    exact Reps.nil
theorem puts_stays_in_0_text : Puts kg_stays_in_0_text kg_stays_in_0_text := by
  intro K S vs ds ws es r1 r2
  have l1 := r1.length
  have l2 := r2.length
  by_cases c : ds.length = 0 ∧ es.length = 1
  · obtain ⟨c1, c2⟩ := c
    match ds, es, c1, c2 with
    | [], [e0], _, _ =>
      obtain rfl := (show _ = [] from by have z := r1; unfold Reps at z; exact z)
      obtain ⟨v_e0, r_e0, rfl, q_e0, t_e0⟩ := r2.uncons
      obtain rfl := (show _ = [] from by have z := t_e0; unfold Reps at z; exact z)
      exact Reps.cons q_e0 (Reps.nil)
  · have e1 : kg_stays_in_0_text vs ws = [] := by
      unfold kg_stays_in_0_text
      split
      · exact absurd ⟨by simpa using l1.symm, by simpa using l2.symm⟩ c
      · rfl
    have e2 : kg_stays_in_0_text ds es = [] := by
      unfold kg_stays_in_0_text
      split
      · exact absurd ⟨rfl, rfl⟩ c
      · rfl
    rw [e1, e2]
    exact Reps.nil
theorem puts_pairs_in_0_text : Puts kg_pairs_in_0_text kg_pairs_in_0_text := by
  intro K S vs ds ws es r1 r2
  have l1 := r1.length
  have l2 := r2.length
  by_cases c : ds.length = 0 ∧ es.length = 1
  · obtain ⟨c1, c2⟩ := c
    match ds, es, c1, c2 with
    | [], [e0], _, _ =>
      obtain rfl := (show _ = [] from by have z := r1; unfold Reps at z; exact z)
      obtain ⟨v_e0, r_e0, rfl, q_e0, t_e0⟩ := r2.uncons
      obtain rfl := (show _ = [] from by have z := t_e0; unfold Reps at z; exact z)
      exact Reps.cons q_e0 (Reps.nil)
  · have e1 : kg_pairs_in_0_text vs ws = [] := by
      unfold kg_pairs_in_0_text
      split
      · exact absurd ⟨by simpa using l1.symm, by simpa using l2.symm⟩ c
      · rfl
    have e2 : kg_pairs_in_0_text ds es = [] := by
      unfold kg_pairs_in_0_text
      split
      · exact absurd ⟨rfl, rfl⟩ c
      · rfl
    rw [e1, e2]
    exact Reps.nil
theorem puts_wish_in_0_text : Puts kg_wish_in_0_text kg_wish_in_0_text := by
  intro K S vs ds ws es r1 r2
  have l1 := r1.length
  have l2 := r2.length
  by_cases c : ds.length = 0 ∧ es.length = 1
  · obtain ⟨c1, c2⟩ := c
    match ds, es, c1, c2 with
    | [], [e0], _, _ =>
      obtain rfl := (show _ = [] from by have z := r1; unfold Reps at z; exact z)
      obtain ⟨v_e0, r_e0, rfl, q_e0, t_e0⟩ := r2.uncons
      obtain rfl := (show _ = [] from by have z := t_e0; unfold Reps at z; exact z)
      exact Reps.cons q_e0 (Reps.nil)
  · have e1 : kg_wish_in_0_text vs ws = [] := by
      unfold kg_wish_in_0_text
      split
      · exact absurd ⟨by simpa using l1.symm, by simpa using l2.symm⟩ c
      · rfl
    have e2 : kg_wish_in_0_text ds es = [] := by
      unfold kg_wish_in_0_text
      split
      · exact absurd ⟨rfl, rfl⟩ c
      · rfl
    rw [e1, e2]
    exact Reps.nil
local macro_rules | `(tactic| walk_at "d") => `(tactic| first
  | with_reducible refine ds_seq ?_ | with_reducible refine ds_ret ?_ | with_reducible refine ds_if ?_ | with_reducible refine ds_set ?_ | with_reducible refine ds_asg ?_ | with_reducible refine ds_drop ?_ | with_reducible refine ds_par ?_ | with_reducible refine ds_next ?_ | with_reducible refine ds_retN ?_
  | refine de_var (by rfl) ?_ | refine de_int ?_ | refine de_bl ?_ | refine de_str ?_ | refine de_non ?_
  | with_reducible refine de_isN ?_ | with_reducible refine de_op ?_ | with_reducible refine de_andV ?_ | with_reducible refine de_orV ?_ | with_reducible refine de_if ?_ | with_reducible refine de_tup ?_ | with_reducible refine de_chain ?_
  | with_reducible refine dt_test ?_ | with_reducible refine dt_B ?_ | with_reducible refine dt_and ?_ | with_reducible refine dt_or ?_ | with_reducible refine dt_not ?_ | with_reducible refine dt_yes ?_
  | with_reducible refine da_cons ?_ | with_reducible refine da_nil ?_
  | refine de_len ?_ | refine de_tupOf ?_ | refine de_max2 ?_ | refine de_min2 ?_ | refine de_abs ?_ | refine de_intB ?_ | refine de_all ?_
  | with_reducible refine dg_name ?_ | with_reducible refine dgs_nil ?_ | with_reducible refine dgs_cons ?_ 
  | refine dr_plusI ?_ | refine dr_sub ?_ | refine dr_lt ?_ | refine dr_le ?_ | refine dr_gt ?_ | refine dr_ge ?_ | refine dr_eqAI ?_ | refine dr_neAI ?_ | refine dr_eqAB ?_ | refine dr_neAB ?_
  | refine de_isi2 rfl rfl ?_ | refine de_isi rfl ?_ | refine ⟨(rfl : plainD _ = true), ?_⟩ | refine if2f rfl ?_ | refine if2t rfl ?_ | refine if2t (decide_eq_true rfl) ?_ | refine dr_eqAS ?_ | with_reducible refine de_notV ?_ | refine de_call0 ?_ | refine de_call0F ?_ | refine dr_pow ⟨by decide, by decide, by decide⟩ ?_ | refine de_callK0 _ (by assumption) ?_ | refine dr_mod (by first | decide | assumption | omega) ?_
  | refine dr_ix (by first | exact Or.inl rfl | exact Or.inr rfl | assumption) (by first | decide | omega) (by first | rfl | assumption) ?_
  | refine ⟨_, rfl, ?_⟩ | refine ⟨_, _, rfl, rfl, ?_⟩ | refine ⟨_, by first | exact Or.inl rfl | exact Or.inr rfl, ?_⟩ | refine ⟨_, by assumption, ?_⟩ | fail)
local macro_rules | `(tactic| walk_at "D") => `(tactic| repeat' (first
  | with_reducible refine ds_seq ?_ | with_reducible refine ds_ret ?_ | with_reducible refine ds_if ?_ | with_reducible refine ds_set ?_ | with_reducible refine ds_asg ?_ | with_reducible refine ds_drop ?_ | with_reducible refine ds_par ?_ | with_reducible refine ds_next ?_ | with_reducible refine ds_retN ?_
  | refine de_var (by rfl) ?_ | refine de_int ?_ | refine de_bl ?_ | refine de_str ?_ | refine de_non ?_
  | with_reducible refine de_isN ?_ | with_reducible refine de_op ?_ | with_reducible refine de_andV ?_ | with_reducible refine de_orV ?_ | with_reducible refine de_if ?_ | with_reducible refine de_tup ?_ | with_reducible refine de_chain ?_
  | with_reducible refine dt_test ?_ | with_reducible refine dt_B ?_ | with_reducible refine dt_and ?_ | with_reducible refine dt_or ?_ | with_reducible refine dt_not ?_ | with_reducible refine dt_yes ?_
  | with_reducible refine da_cons ?_ | with_reducible refine da_nil ?_
  | refine de_len ?_ | refine de_tupOf ?_ | refine de_max2 ?_ | refine de_min2 ?_ | refine de_abs ?_ | refine de_intB ?_ | refine de_all ?_
  | with_reducible refine dg_name ?_ | with_reducible refine dgs_nil ?_ | with_reducible refine dgs_cons ?_ 
  | refine dr_plusI ?_ | refine dr_sub ?_ | refine dr_lt ?_ | refine dr_le ?_ | refine dr_gt ?_ | refine dr_ge ?_ | refine dr_eqAI ?_ | refine dr_neAI ?_ | refine dr_eqAB ?_ | refine dr_neAB ?_
  | refine de_isi2 rfl rfl ?_ | refine de_isi rfl ?_ | refine ⟨(rfl : plainD _ = true), ?_⟩ | refine if2f rfl ?_ | refine if2t rfl ?_ | refine if2t (decide_eq_true rfl) ?_ | refine dr_eqAS ?_ | with_reducible refine de_notV ?_ | refine de_call0 ?_ | refine de_call0F ?_ | refine dr_pow ⟨by decide, by decide, by decide⟩ ?_ | refine de_callK0 _ (by assumption) ?_ | refine dr_mod (by first | decide | assumption | omega) ?_
  | refine dr_ix (by first | exact Or.inl rfl | exact Or.inr rfl | assumption) (by first | decide | omega) (by first | rfl | assumption) ?_
  | refine ⟨_, rfl, ?_⟩ | refine ⟨_, _, rfl, rfl, ?_⟩ | refine ⟨_, by first | exact Or.inl rfl | exact Or.inr rfl, ?_⟩ | refine ⟨_, by assumption, ?_⟩ | fail))
local macro_rules | `(tactic| walk_at "E") => `(tactic| repeat' (first
  | with_reducible refine ds_seq ?_ | with_reducible refine ds_ret ?_ | with_reducible refine ds_if ?_ | with_reducible refine ds_set ?_ | with_reducible refine ds_asg ?_ | with_reducible refine ds_drop ?_ | with_reducible refine ds_par ?_ | with_reducible refine ds_next ?_ | with_reducible refine ds_retN ?_
  | refine de_var (by rfl) ?_ | refine de_int ?_ | refine de_bl ?_ | refine de_str ?_ | refine de_non ?_
  | with_reducible refine de_isN ?_ | with_reducible refine de_op ?_ | with_reducible refine de_andV ?_ | with_reducible refine de_orV ?_ | with_reducible refine de_if ?_ | with_reducible refine de_tup ?_ | with_reducible refine de_chain ?_
  | with_reducible refine dt_test ?_ | with_reducible refine dt_B ?_ | with_reducible refine dt_and ?_ | with_reducible refine dt_or ?_ | with_reducible refine dt_not ?_ | with_reducible refine dt_yes ?_
  | with_reducible refine da_cons ?_ | with_reducible refine da_nil ?_
  | refine de_len ?_ | refine de_tupOf ?_ | refine de_max2 ?_ | refine de_min2 ?_ | refine de_abs ?_ | refine de_intB ?_ | refine de_all ?_
  | with_reducible refine dg_name ?_ | with_reducible refine dgs_nil ?_ | with_reducible refine dgs_cons ?_ 
  | refine dr_plusI ?_ | refine dr_sub ?_ | refine dr_lt ?_ | refine dr_le ?_ | refine dr_gt ?_ | refine dr_ge ?_ | refine dr_eqAI ?_ | refine dr_neAI ?_ | refine dr_eqAB ?_ | refine dr_neAB ?_
  | refine de_isi2 rfl rfl ?_ | refine de_isi rfl ?_ | refine ⟨(rfl : plainD _ = true), ?_⟩ | refine if2f rfl ?_ | refine if2t rfl ?_ | refine if2t (decide_eq_true rfl) ?_ | refine dr_eqAS ?_ | with_reducible refine de_notV ?_ | refine de_call0 ?_ | refine de_call0F ?_ | refine dr_pow ⟨by decide, by decide, by decide⟩ ?_ | refine de_callK0 _ (by assumption) ?_ | refine dr_mod (by first | decide | assumption | omega) ?_
  | refine dr_ix (by first | exact Or.inl rfl | exact Or.inr rfl | assumption) (by first | decide | omega) (by first | rfl | assumption) ?_
  | refine ⟨_, rfl, ?_⟩ | refine ⟨_, _, rfl, rfl, ?_⟩ | refine ⟨_, by first | exact Or.inl rfl | exact Or.inr rfl, ?_⟩ | refine DR.of_fresh (drf_timesL (by decide) (by decide) (Nat.le_of_ble_eq_true rfl) ?_) | with_reducible refine DE.of_fresh (df_lst ?_) | refine DE.of_fresh (df_listOf ?_) | refine ⟨Nat.le_of_ble_eq_true rfl, ?_⟩ | refine ⟨_, by assumption, ?_⟩ | fail))
/-! ### the box -/
def C_take (d : Nat) : DCon := fun b ds n P PX => ∃ a span, b = some a ∧ ds = [.raw (.ref a), .int span] ∧ 0 < span ∧ span ≤ 10 ^ (7 * (d + 1)) ∧ d ≤ 6 ∧ n + 2 ^ (d + 1) ≤ 2 ^ 40 ∧ ∀ v m, 0 ≤ v → v < span → n ≤ m → m ≤ n + 2 ^ (d + 1) → P (.int v) m
/-- the i-th of the box in slot 0 -/
theorem bx {K : PySem.W.Frag} {σ : L2.St} {H : Hp} {a : Addr} {xs : List V} {v : V} {Q : VK} (j : Nat) (h0 : σ[0]? = some (some (.ref a))) (hb : H a = some (.lst xs)) (hv : xs[j]? = some v) (q : Q v H) : tOp (rIx K) (tVar 0) (tC (.int (j : Int))) σ H Q :=
  ⟨.ref a, h0, Or.inl ⟨a, xs, (j : Int), v, rfl, rfl, Evl.sq_of hb, atI_nat hv, q⟩⟩
theorem pow_7 : (10 : Int) ^ (7 : Int).toNat = 10000000 := by decide
theorem ten_le {d : Nat} (h : d ≤ 6) : (10 : Int) ^ (7 * (d + 1)) ≤ 10 ^ 49 := by
  have e : (10 : Int) ^ 49 = 10 ^ (7 * (d + 1)) * 10 ^ (49 - 7 * (d + 1)) := by
    rw [← Int.pow_add]
    congr 1
    omega
  have p1 : (0 : Int) < 10 ^ (7 * (d + 1)) := Int.pow_pos (by decide)
  have p2 : (0 : Int) < 10 ^ (49 - 7 * (d + 1)) := Int.pow_pos (by decide)
  rw [e]
  have p3 : (1 : Int) ≤ 10 ^ (49 - 7 * (d + 1)) := p2
  calc (10 : Int) ^ (7 * (d + 1)) = 10 ^ (7 * (d + 1)) * 1 := by omega
    _ ≤ 10 ^ (7 * (d + 1)) * 10 ^ (49 - 7 * (d + 1)) := Int.mul_le_mul_of_nonneg_left p3 (Int.le_of_lt p1)
theorem span_small {span : Int} {d : Nat} (h0 : 0 < span) (h1 : span ≤ 10 ^ (7 * (d + 1))) (h2 : d ≤ 6) : span.natAbs < 2 ^ 170 := by
  have a := ten_le h2
  have b : (10 : Int) ^ 49 < 2 ^ 170 := by decide
  omega
theorem go_call {K : PySem.W.Frag} {k : Nat} {C : DCon} {vs : List V} {S H : Hp} {Q : VK} {E : XK} {a : Addr} {n : Nat} {ds : List D} {P : D → Nat → Prop} (ex : Ex S H ∧ TabK K S H) (bx : BoxOk n H a) (hs : S a = none) (r : Reps K S vs ds) (hl : ds.length = k) (hc : C (some a) ds n P fun _ _ => False)
    (q : ∀ v d S' H' n', Mv (some a) S H S' H' → (Ex S' H' ∧ TabK K S' H') → BoxOk n' H' a → S' a = none → Rep K S' v d → P d n' → Q v H') : spOf K k C vs H Q E :=
  ⟨some a, S, ds, n, P, fun _ _ => False, ex, fun x e => by cases e; exact ⟨bx, hs⟩, r, hl, hc, fun v d S' H' n' m x b rv p => q v d S' H' n' m x (b a rfl).1 (b a rfl).2 rv p, fun _ _ _ _ _ _ _ _ _ _ z => z.elim⟩
theorem mv_box {S H : Hp} {a : Addr} {o : HO} (hs : S a = none) (hb : ∃ xs, H a = some (.lst xs)) : Mv (some a) S H S (upd H a o) := by
  refine ⟨Ex.refl S, fun x u ne e nt => ?_, fun x ps e => ?_, fun x _ h => h⟩
  · have q : x ≠ a := fun z => ne (by rw [z])
    rw [upd_ne q]; exact e
  · obtain ⟨xs, hb⟩ := hb
    refine ⟨ps, ?_⟩
    rw [upd_ne (fun z => by rw [z, hb] at e; cases e)]; exact e
theorem ex_box {K : PySem.W.Frag} {S H : Hp} {a : Addr} {o : HO} (ex : Ex S H ∧ TabK K S H) (hs : S a = none) (hb : ∃ xs, H a = some (.lst xs)) : Ex S (upd H a o) ∧ TabK K S (upd H a o) := ⟨fun x u e => by
  rw [upd_ne (ne_of_none e hs)]; exact ex.1 x u e, ex.2.put hb⟩
theorem step_span {span : Int} {d : Nat} (h0 : 0 < span) (h1 : span ≤ 10 ^ (7 * (d + 1 + 1))) : 0 < (span - 1) / 10000000 + 1 ∧ (span - 1) / 10000000 + 1 ≤ 10 ^ (7 * (d + 1)) := by
  have e : (10 : Int) ^ (7 * (d + 1 + 1)) = 10 ^ (7 * (d + 1)) * 10000000 := by
    have : 7 * (d + 1 + 1) = 7 * (d + 1) + 7 := by omega
    rw [this, Int.pow_add]
    rfl
  rw [e] at h1
  refine ⟨by omega, ?_⟩
  have : (span - 1) / 10000000 < 10 ^ (7 * (d + 1)) := Int.ediv_lt_of_lt_mul (by decide) (by omega)
  omega
/-- a stay; stays -/
def Pr (d : D) (p : Int × Int) : Prop := d = .lst [.int p.1, .int p.2] ∨ d = .tup [.int p.1, .int p.2]
def LnX (d : D) (xs : List D) (l : List (Int × Int)) : Prop := (d = .lst xs ∨ d = .tup xs) ∧ xs.length = l.length ∧ ∀ (i : Nat) (x : D), xs[i]? = some x → ∃ p, l[i]? = some p ∧ Pr x p
theorem LnX.at {d : D} {xs : List D} {l : List (Int × Int)} (h : LnX d xs l) {i : Nat} {p : Int × Int} (e : l[i]? = some p) : ∃ x, xs[i]? = some x ∧ Pr x p := by
  have hi : i < xs.length := by rw [h.2.1]; exact (List.getElem?_eq_some_iff.mp e).1
  obtain ⟨q, h1, h2⟩ := h.2.2 i xs[i] (by simp [hi])
  rw [e] at h1; cases h1
  exact ⟨_, by simp [hi], h2⟩
/-! how many are late enough; sorted lists -/
def srt (l : List Int) : List Int := l.mergeSort fun a b => decide (a ≤ b)
def ge (x : Int) (l : List Int) : Nat := (l.filter fun y => decide (x ≤ y)).length
/-- one is taken away -/
def les (d : Int) (l : List Int) : List Int := l.filter fun y => !decide (y = d)
/-- no arrival bars -/
def fitsB (A L : List Int) : Bool := A.all fun x => decide (ge x A ≤ ge x L)
/-- the product over a descending list, what the program multiplies -/
def prodA (L : List Int) (S : List Int) : Int := S.zipIdx.foldl (fun m p => m * max 0 ((ge p.1 L : Int) - (p.2 : Int))) 1
/-- the days of the first ones, in ascending order, that leave room for the rest -/
def okDay (a : Int) (A L : List Int) (d : Int) : Bool := decide (a ≤ d) && fitsB A (les d L)
def dsc (l : List Int) : List Int := (srt l).reverse
/-- in how many ways the days can be dealt out -/
def waysN (A L : List Int) : Int := prodA L (dsc A)
def chsOf (a : Int) (A L S : List Int) : List (Int × Int) := (S.filter (okDay a A L)).map fun d => (d, waysN A (les d L))
/-- the choices of the first one -/
def chs (a : Int) (A L : List Int) : List (Int × Int) := chsOf a A L (srt L)
/-! in how many ways: counted one by one, and as a product -/
/-- the number that is told of others -/
def numL : List Int → List Int → Int
  | a :: A, d :: E => (((chs a A (d :: E)).filter fun x => decide (x.1 < d)).map Prod.snd).sum + numL A E
  | _, _ => 0
/-! all of a lot, found guest by guest -/
/-! mates, options -/
def okG (l : List (Int × Int)) (g : Int) : Prop := 0 ≤ g ∧ g < (l.length : Int)
theorem okG.get {l : List (Int × Int)} {g : Int} (h : okG l g) : ∃ p, l[g.toNat]? = some p := by
  have : g.toNat < l.length := by
    obtain ⟨h0, h1⟩ := h
    omega
  exact ⟨l[g.toNat], by simp [this]⟩
def C_l_of : DCon := fun b ds n P PX => ∃ a d xs, b = some a ∧ ds = [.raw (.ref a), d] ∧ (d = .lst xs ∨ d = .tup xs) ∧ 0 < xs.length ∧ xs.length ≤ 100000 ∧ n + 128 ≤ 2 ^ 40 ∧ ∀ (i : Nat) x m, xs[i]? = some x → n ≤ m → m ≤ n + 128 → P x m
mutual
def softD : D → D
  | .lst xs => .lst (softDs xs)
  | .tup xs => .lst (softDs xs)
  | .non => .non
  | .bl b => .bl b
  | .int i => .int i
  | .str s => .str s
  | .raw v => .raw v
  | .exc c f => .exc c f
  | .dct a b => .dct a b
def softDs : List D → List D
  | [] => []
  | x :: xs => softD x :: softDs xs
end
theorem softDs_eq : ∀ xs : List D, softDs xs = xs.map softD
  | [] => by simp [softDs]
  | x :: xs => by simp [softDs, softDs_eq xs]
theorem softD_seq {d : D} {xs : List D} (h : d = .lst xs ∨ d = .tup xs) : softD d = .lst (xs.map softD) := by
  rcases h with rfl | rfl <;> simp [softD, softDs_eq]
theorem softD_line (l : List (Int × Int)) : softD (.tup (l.map pr)) = .lst (l.map prL) := by
  rw [softD_seq (Or.inr rfl), List.map_map]
  congr 1
def scal (d : D) : Prop := d = .non ∨ (∃ b, d = .bl b) ∨ (∃ i, d = .int i) ∨ ∃ s, d = .str s
def Dep : Nat → D → Prop
  | 0, d => scal d
  | k + 1, d => scal d ∨ ∃ xs, (d = .lst xs ∨ d = .tup xs) ∧ xs.length ≤ 100000 ∧ ∀ (i : Nat) x, xs[i]? = some x → Dep k x
theorem soft_scal {d : D} (h : scal d) : softD d = d := by
  rcases h with rfl | ⟨b, rfl⟩ | ⟨b, rfl⟩ | ⟨b, rfl⟩ <;> simp [softD]
theorem Dep.int {k : Nat} {i : Int} : Dep k (.int i) := by
  cases k with
  | zero => exact Or.inr (Or.inr (Or.inl ⟨i, rfl⟩))
  | succ k => exact Or.inl (Or.inr (Or.inr (Or.inl ⟨i, rfl⟩)))
theorem Dep.lst {k : Nat} {xs : List D} (hl : xs.length ≤ 100000) (h : ∀ x ∈ xs, Dep k x) : Dep (k + 1) (.lst xs) := Or.inr ⟨xs, Or.inl rfl, hl, fun i x e => h x (List.mem_of_getElem? e)⟩
theorem Dep.tup {k : Nat} {xs : List D} (hl : xs.length ≤ 100000) (h : ∀ x ∈ xs, Dep k x) : Dep (k + 1) (.tup xs) := Or.inr ⟨xs, Or.inr rfl, hl, fun i x e => h x (List.mem_of_getElem? e)⟩
theorem Dep.pr {k : Nat} {p : Int × Int} : Dep (k + 1) (pr p) := Dep.tup (Nat.le_of_ble_eq_true rfl) fun x h => by
  rcases List.mem_cons.mp h with rfl | h
  · exact Dep.int
  · rcases List.mem_cons.mp h with rfl | h
    · exact Dep.int
    · simp at h
theorem Dep.tupP {k : Nat} {l : List (Int × Int)} (hl : l.length ≤ 100000) : Dep (k + 2) (.tup (l.map DL.pr)) := Dep.tup (by simpa using hl) fun x h => by
  obtain ⟨p, _, rfl⟩ := List.mem_map.mp h
  exact Dep.pr
theorem Dep.lstP {k : Nat} {l : List (Int × Int)} (hl : l.length ≤ 100000) : Dep (k + 2) (.lst (l.map DL.pr)) := Dep.lst (by simpa using hl) fun x h => by
  obtain ⟨p, _, rfl⟩ := List.mem_map.mp h
  exact Dep.pr
theorem Dep.plain {k : Nat} {d : D} (h : Dep k d) : plainD d = true := by
  have sc : scal d → plainD d = true := fun h => by rcases h with rfl | ⟨b, rfl⟩ | ⟨b, rfl⟩ | ⟨b, rfl⟩ <;> rfl
  cases k with
  | zero => exact sc h
  | succ k =>
    rcases h with h | ⟨xs, rfl | rfl, _, _⟩
    · exact sc h
    · rfl
    · rfl
def C_lists (k : Nat) : DCon := fun b ds n P PX => ∃ d, ds = [d] ∧ Dep k d ∧ P (softD d) n
def C_same (k : Nat) : DCon := fun b ds n P PX => ∃ d, ds = [d, d] ∧ Dep k d ∧ P (.bl true) n
abbrev C_l_lists : DCon := C_lists 3
abbrev C_l_same : DCon := C_same 3
/-- stays: leaving days all different -/
def Days (M : Int) (l : List (Int × Int)) : Prop := (∀ p ∈ l, 0 ≤ p.1 ∧ p.1 ≤ p.2 ∧ p.2 ≤ M) ∧ (l.map Prod.snd).Nodup
theorem tk {a : Addr} {b : Option Addr} {span : Int} {n : Nat} {P : D → Nat → Prop} {PX : Addr → List (Str × V) → Prop} (hb : b = some a) (h0 : 0 < span) (h1 : span ≤ 10 ^ 43) (hn : n + 128 ≤ 2 ^ 40) (h : ∀ v m, 0 ≤ v → v < span → n ≤ m → m ≤ n + 128 → P (.int v) m) : C_take 6 b [.raw (.ref a), .int span] n P PX := by
  have p7 : (10 : Int) ^ (7 * (6 + 1)) = 10 ^ 49 := rfl
  have p8 : (10 : Int) ^ 43 < 10 ^ 49 := by decide
  exact ⟨a, span, hb, rfl, h0, by rw [p7]; omega, by omega, by omega, h⟩
theorem Days.snoc {M c x : Int} {l : List (Int × Int)} (h : Days M l) (h0 : 0 ≤ c) (h1 : c ≤ x) (h2 : x ≤ M) (h3 : x ∉ l.map Prod.snd) : Days M (l ++ [(c, x)]) := by
  refine ⟨fun p hp => ?_, ?_⟩
  · rcases List.mem_append.mp hp with hp | hp
    · exact h.1 p hp
    · rcases List.mem_cons.mp hp with rfl | hp
      · exact ⟨h0, h1, h2⟩
      · simp at hp
  · rw [List.map_append, List.nodup_append]
    refine ⟨h.2, by simp, fun a ha b hb e => ?_⟩
    simp at hb
    subst hb; subst e
    exact h3 ha
/-! rows of a lot, in order -/
abbrev C_l_draw : DCon := C_take 6
abbrev C_l_pick : DCon := C_l_of
def C_l_stays : DCon := fun b ds n P PX => ∃ a most top, b = some a ∧ ds = [.raw (.ref a), .int most, .int top] ∧ 0 ≤ most ∧ most ≤ 100 ∧ 0 < top ∧ top ≤ 10 ^ 42 ∧ n + 384 * (1 + most.toNat) ≤ 2 ^ 40 ∧ ∀ l m, (l.length : Int) ≤ most → Days (top - 1) l → n ≤ m → m ≤ n + 384 * (1 + most.toNat) → P (.tup (l.map pr)) m
/-- a dict whose keys are these numbers -/
def keysD (xs : List Int) : List (Key × D) := xs.map fun x => ((Sum.inl x : Key), D.bl true)
theorem keys_any (xs : List Int) (x : Int) : ((keysD xs).any fun kv => decide (kv.1 = (Sum.inl x : Key))) = decide (x ∈ xs) := by
  unfold keysD
  rw [List.any_map, Bool.eq_iff_iff, List.any_eq_true, decide_eq_true_iff]
  constructor
  · rintro ⟨y, hy, e⟩
    have e := of_decide_eq_true e
    rw [← Sum.inl.inj e]
    exact hy
  · intro h
    exact ⟨x, h, decide_eq_true rfl⟩
theorem keys_val (xs : List Int) (x : Int) : (valD (keysD xs) (Sum.inl x)).isSome = decide (x ∈ xs) := by
  rw [← keys_any]
  unfold valD
  rw [Option.isSome_map, Bool.eq_iff_iff, List.find?_isSome, List.any_eq_true]
theorem keys_put {xs : List Int} {x : Int} (h : x ∉ xs) : putD (keysD xs) (Sum.inl x) (.bl true) = keysD (xs ++ [x]) := by
  unfold putD
  rw [keys_any, decide_eq_false h, if_neg Bool.false_ne_true]
  unfold keysD
  rw [List.map_append]
  rfl
abbrev sDash : Str := Str.ofString "-"
abbrev sSlash : Str := Str.ofString "/"
abbrev sGap : Str := Str.ofString " "
abbrev sZero : Str := Str.ofString "0"
abbrev sAsk : Str := Str.ofString "?"
abbrev sDig : Str := Str.ofString "0123456789"
def digB (z : Str) : Bool := z.cps.toList.all fun c => decide (c ∈ sDig.cps.toList)
def numOk (z : Str) : Bool := (decide (1 ≤ z.length) && decide (z.length ≤ 50)) && (digB z && (decide (z = sZero) || !decide (sgn (z.cps.toList.headD 0) = sZero)))
def numV (z : Str) : Int := (PySem.intText? z).getD 0
def wordsL (x : Str) : List Str := if x = sDash then [] else Txt.split x sGap
def pairOf (s w : Str) : Option (Int × Int) := match Txt.split w s with
  | [a, b] => if numOk a && numOk b then some (numV a, numV b) else none
  | _ => none
def allOf {α : Type} (f : Str → Option α) (ws : List Str) : Option (List α) := if ws.all (fun w => (f w).isSome) then some (ws.filterMap f) else none
def readP (s x : Str) : Option (List (Int × Int)) := allOf (pairOf s) (wordsL x)
def stOk (l : List (Int × Int)) : Bool := l.all (fun p => decide (p.1 ≤ p.2)) && decide (l.map Prod.snd).Nodup
def readS (x : Str) : Option (List (Int × Int)) := match readP sDash x with
  | some l => if stOk l then some l else none
  | none => none
def wishOf (w : Str) : Option D := if w = sAsk then some .non else if numOk w then some (.int (numV w)) else none
def readW (x : Str) : Option (List D) := allOf wishOf (wordsL x)
theorem dig_range {c : Nat} (h : c ∈ sDig.cps.toList) : 48 ≤ c ∧ c ≤ 57 := by
  have : sDig.cps.toList = [48, 49, 50, 51, 52, 53, 54, 55, 56, 57] := by decide +kernel
  rw [this] at h
  simp only [List.mem_cons, List.not_mem_nil, or_false] at h
  omega
theorem fold_lt : ∀ (cs : List Nat) (a B : Nat), NumText.AllDigits cs → a < B → cs.foldl (fun acc c => acc * 10 + (c - 48)) a < B * 10 ^ cs.length
  | [], a, B, _, h => by simpa using h
  | c :: cs, a, B, hd, h => by
    rw [List.foldl_cons, List.length_cons]
    have h1 := hd.head
    have := fold_lt cs (a * 10 + (c - 48)) (B * 10) hd.tail (by omega)
    rw [Nat.pow_succ, Nat.mul_comm (10 ^ cs.length) 10, ← Nat.mul_assoc]
    exact this
theorem numOk_len {z : Str} (h : numOk z = true) : 1 ≤ z.length ∧ z.length ≤ 50 := by
  unfold numOk at h
  simp only [Bool.and_eq_true, decide_eq_true_eq] at h
  exact ⟨h.1.1, h.1.2⟩
theorem numOk_int {z : Str} (h : numOk z = true) : PySem.intText? z = some (numV z) ∧ 0 ≤ numV z ∧ numV z < 10 ^ 50 := by
  obtain ⟨h1, h2⟩ := numOk_len h
  have hd : digB z = true := by
    unfold numOk at h
    simp only [Bool.and_eq_true] at h
    exact h.2.1
  have ad : NumText.AllDigits z.cps.toList := fun c hc => dig_range (of_decide_eq_true (List.all_eq_true.mp hd c hc))
  have hl : z.cps.toList.length = z.length := Array.length_toList
  have ne : z.cps.toList ≠ [] := fun e => by
    rw [e] at hl
    simp only [List.length_nil] at hl
    omega
  have e := PySem.intText_digits ad ne (by omega)
  have ev : numV z = ((NumText.digitsVal z.cps.toList : Nat) : Int) := by
    unfold numV
    rw [e]
    rfl
  rw [ev]
  refine ⟨e, by omega, ?_⟩
  have hb := fold_lt z.cps.toList 0 1 ad (by decide)
  have hc : NumText.digitsVal z.cps.toList < 10 ^ 50 := by
    refine Nat.lt_of_lt_of_le hb ?_
    rw [Nat.one_mul, hl]
    exact Nat.pow_le_pow_right (by decide) h2
  have : ((NumText.digitsVal z.cps.toList : Nat) : Int) < ((10 ^ 50 : Nat) : Int) := by exact_mod_cast hc
  simpa using this
theorem spl_bounds (S : List Nat) : ∀ (l : List Nat) (k : Nat) (acc : List Nat), (TL.spl S k acc l).length ≤ l.length + 1 ∧ ∀ p ∈ TL.spl S k acc l, p.length ≤ acc.length + l.length
  | [], k, acc => by
    rw [TL.spl_nil]
    exact ⟨Nat.le_refl _, fun p hp => by cases List.mem_singleton.mp hp; exact Nat.le_refl _⟩
  | c :: r, 0, acc => by
    by_cases h : TL.pre S (c :: r) = true
    · rw [TL.spl_hit h]
      obtain ⟨a1, a2⟩ := spl_bounds S r (S.length - 1) []
      refine ⟨by simp only [List.length_cons]; omega, fun p hp => ?_⟩
      rcases List.mem_cons.mp hp with rfl | hp
      · omega
      · have := a2 p hp
        simp only [List.length_cons, List.length_nil] at *
        omega
    · rw [TL.spl_miss (by simpa using h)]
      obtain ⟨a1, a2⟩ := spl_bounds S r 0 (acc ++ [c])
      refine ⟨by simp only [List.length_cons]; omega, fun p hp => ?_⟩
      have := a2 p hp
      simp only [List.length_cons, List.length_append, List.length_nil] at *
      omega
  | c :: r, k + 1, acc => by
    show (TL.spl S k acc r).length ≤ _ ∧ ∀ p ∈ TL.spl S k acc r, _
    obtain ⟨a1, a2⟩ := spl_bounds S r k acc
    refine ⟨by simp only [List.length_cons]; omega, fun p hp => ?_⟩
    have := a2 p hp
    simp only [List.length_cons] at *
    omega
theorem split_bounds (x : Str) {y : Str} (hy : TL.tl y ≠ []) (hk : y.cps.all (· < 256) = true) : (Txt.split x y).length ≤ x.length + 1 ∧ ∀ p ∈ Txt.split x y, p.length ≤ x.length := by
  have e := TL.split_spl x y hy (TL.kind_ok hk)
  obtain ⟨a1, a2⟩ := spl_bounds (TL.tl y) (TL.tl x) 0 []
  rw [← e] at a1 a2
  rw [List.length_map] at a1
  rw [TL.len_tl x]
  refine ⟨a1, fun p hp => ?_⟩
  have := a2 (TL.tl p) (List.mem_map.mpr ⟨p, hp, rfl⟩)
  rw [TL.len_tl p]
  simpa using this
theorem gap_ok : TL.tl sGap ≠ [] ∧ sGap.cps.all (· < 256) = true := ⟨by decide +kernel, by decide +kernel⟩
theorem sgn_ok {s : Str} (h : s = sDash ∨ s = sSlash) : TL.tl s ≠ [] ∧ s.cps.all (· < 256) = true ∧ s.length = 1 := by
  rcases h with rfl | rfl <;> exact ⟨by decide +kernel, by decide +kernel, by decide +kernel⟩
theorem words_bounds (x : Str) : (wordsL x).length ≤ x.length + 1 ∧ ∀ w ∈ wordsL x, w.length ≤ x.length := by
  unfold wordsL
  split
  · exact ⟨by simp, fun w hw => nomatch hw⟩
  · exact split_bounds x gap_ok.1 gap_ok.2
theorem allOf_some {α : Type} {f : Str → Option α} {ws : List Str} (h : ∀ w ∈ ws, (f w).isSome = true) : allOf f ws = some (ws.filterMap f) := if_pos (List.all_eq_true.mpr h)
theorem allOf_inv {α : Type} {f : Str → Option α} {ws : List Str} {l : List α} (h : allOf f ws = some l) : (∀ w ∈ ws, (f w).isSome = true) ∧ l = ws.filterMap f := by
  unfold allOf at h
  split at h
  · rename_i a
    exact ⟨List.all_eq_true.mp a, (Option.some.inj h).symm⟩
  · cases h
theorem pairOf_nn {s w : Str} {p : Int × Int} (h : pairOf s w = some p) : (0 ≤ p.1 ∧ p.1 < 10 ^ 50) ∧ 0 ≤ p.2 ∧ p.2 < 10 ^ 50 := by
  unfold pairOf at h
  split at h
  · split at h
    · rename_i a b _ hc
      rw [Bool.and_eq_true] at hc
      cases h
      exact ⟨(numOk_int hc.1).2, (numOk_int hc.2).2⟩
    · cases h
  · cases h
theorem readP_inv {s x : Str} {l : List (Int × Int)} (h : readP s x = some l) : l.length ≤ x.length + 1 ∧ ∀ p ∈ l, (0 ≤ p.1 ∧ p.1 < 10 ^ 50) ∧ 0 ≤ p.2 ∧ p.2 < 10 ^ 50 := by
  obtain ⟨_, rfl⟩ := allOf_inv h
  refine ⟨Nat.le_trans (List.length_filterMap_le _ _) (words_bounds x).1, fun p hp => ?_⟩
  obtain ⟨w, _, e⟩ := List.mem_filterMap.mp hp
  exact pairOf_nn e
theorem app_len (x y : Str) : (x ++ y).length = x.length + y.length := by rw [TL.len_tl, TL.tl_append, List.length_append, ← TL.len_tl, ← TL.len_tl]
theorem num_len {i : Int} (h : i.natAbs < 10 ^ 68) : (toString i : Str).length ≤ 69 := by
  have h1 := wt_strI h
  have e : wt (.str (toString i : Str)) = 10 * (toString i : Str).length + 2 := rfl
  omega
theorem join_len (y : Str) : ∀ parts : List Str, (∀ p ∈ parts, p.length ≤ 140) → (Txt.join y parts).length ≤ (140 + y.length) * parts.length := fun parts h => by
  rw [TL.len_tl, TL.join_eq, TL.tl_join]
  have hy := TL.len_tl y
  revert h
  induction parts with
  | nil => exact fun _ => Nat.zero_le _
  | cons p ps ih =>
    intro h
    have h1 := h p List.mem_cons_self
    have h2 := ih fun q hq => h q (List.mem_cons_of_mem _ hq)
    rw [TL.len_tl] at h1
    cases ps with
    | nil =>
      show (TL.tl p).length ≤ _
      simp only [List.length_cons, List.length_nil]
      omega
    | cons q qs =>
      show (TL.tl p ++ (TL.tl y ++ TL.joinL (TL.tl y) ((q :: qs).map TL.tl))).length ≤ _
      rw [List.length_append, List.length_append]
      rw [show (p :: q :: qs).length = (q :: qs).length + 1 from rfl, Nat.mul_succ]
      omega
theorem join_sum (ys : List Str) (h : ∀ p ∈ ys, p.length ≤ 140) : (ys.map (·.length)).sum ≤ 140 * ys.length := by
  induction ys with
  | nil => exact Nat.le_refl _
  | cons p ps ih =>
    have h1 := h p List.mem_cons_self
    have h2 := ih fun q hq => h q (List.mem_cons_of_mem _ hq)
    rw [List.map_cons, List.sum_cons, List.length_cons]
    omega
def textW (ws : List Str) : Str := if ws = [] then sDash else Txt.join sGap ws
def pairW (s : Str) (p : Int × Int) : Str := (toString p.1 : Str) ++ s ++ (toString p.2 : Str)
def wishW (o : Option Int) : Str := match o with
  | none => sAsk
  | some i => (toString i : Str)
theorem tl_gap : TL.tl sGap = [32] := by decide +kernel
theorem tl_dash : TL.tl sDash = [45] := by decide +kernel
theorem tl_slash : TL.tl sSlash = [47] := by decide +kernel
theorem tl_ask : TL.tl sAsk = [63] := by decide +kernel
theorem tl_int {i : Int} (h : 0 ≤ i) : TL.tl (toString i : Str) = TL.numL i.toNat := by
  obtain ⟨n, rfl⟩ := Int.eq_ofNat_of_zero_le h
  exact TL.tl_num n
/-- words that may stand in a text -/
def Wrd (w : Str) : Prop := 32 ∉ TL.tl w ∧ TL.tl w ≠ [45] ∧ TL.tl w ≠ []
theorem join_split {ws : List Str} (h : ∀ w ∈ ws, Wrd w) (ne : ws ≠ []) : Txt.split (Txt.join sGap ws) sGap = ws :=
  TL.split_join tl_gap gap_ok.2 ne fun p hp => (h p hp).1
theorem words_text {ws : List Str} (h : ∀ w ∈ ws, Wrd w) : wordsL (textW ws) = ws := by
  unfold textW
  by_cases c : ws = []
  · rw [if_pos c, c]
    exact if_pos rfl
  · rw [if_neg c]
    unfold wordsL
    have e := join_split h c
    have ne : Txt.join sGap ws ≠ sDash := fun q => by
      rw [q] at e
      have e2 := TL.split_join (y := sGap) tl_gap gap_ok.2 (parts := [sDash]) (by simp) (fun p hp => by cases List.mem_singleton.mp hp; rw [tl_dash]; decide)
      have e3 : Txt.join sGap [sDash] = sDash := TL.ext_tl (by rw [TL.join_eq, TL.tl_join]; rfl)
      rw [e3, e] at e2
      subst e2
      exact (h sDash List.mem_cons_self).2.1 tl_dash
    rw [if_neg ne, e]
theorem wrd_pos {ws : List Str} (h : ∀ w ∈ ws, Wrd w) (ne : ws ≠ []) : (Txt.join sGap ws).length ≠ 0 := by
  rw [TL.len_tl, TL.join_eq, TL.tl_join]
  cases ws with
  | nil => exact absurd rfl ne
  | cons w ws =>
    have hw := (h w List.mem_cons_self).2.2
    have hp : 0 < (TL.tl w).length := List.length_pos_iff.mpr hw
    cases ws with
    | nil =>
      show (TL.tl w).length ≠ 0
      omega
    | cons v vs =>
      show (TL.tl w ++ (TL.tl sGap ++ TL.joinL (TL.tl sGap) ((v :: vs).map TL.tl))).length ≠ 0
      rw [List.length_append]
      omega
theorem numL_head (n : Nat) (h : n ≠ 0) : (TL.numL n).headD 0 ≠ 48 := by
  induction n using Nat.strongRecOn with
  | _ n ih =>
    by_cases c : n < 10
    · rw [TL.numL_lt c]
      show 48 + n ≠ 48
      omega
    · rw [TL.numL_step (by omega)]
      have := ih (n / 10) (by omega) (by omega)
      cases e : TL.numL (n / 10) with
      | nil => exact absurd e (TL.numL_ne _)
      | cons a l =>
        rw [e] at this
        exact this
theorem numOk_num {i : Int} (h : 0 ≤ i) (h2 : i < 10 ^ 50) : numOk (toString i : Str) = true := by
  obtain ⟨n, rfl⟩ := Int.eq_ofNat_of_zero_le h
  have hn : n < 10 ^ 50 := by exact_mod_cast h2
  have et : (toString ((n : Nat) : Int) : Str).cps.toList = TL.numL n := TL.tl_num n
  have el : (toString ((n : Nat) : Int) : Str).length = (TL.numL n).length := by
    rw [← et]
    exact Array.length_toList.symm
  have l1 := TL.numL_len (k := 50) (by decide) hn
  have l0 : 0 < (TL.numL n).length := List.length_pos_iff.mpr (TL.numL_ne n)
  have sd : sDig.cps.toList = [48, 49, 50, 51, 52, 53, 54, 55, 56, 57] := by decide +kernel
  have hd : digB (toString ((n : Nat) : Int) : Str) = true := by
    unfold digB
    rw [et, List.all_eq_true]
    intro c hc
    have := TL.numL_digits n c hc
    rw [sd]
    refine decide_eq_true ?_
    simp only [List.mem_cons, List.not_mem_nil, or_false]
    omega
  unfold numOk
  show ((decide (1 ≤ (toString ((n : Nat) : Int) : Str).length) && decide ((toString ((n : Nat) : Int) : Str).length ≤ 50)) && (digB (toString ((n : Nat) : Int) : Str) && (decide ((toString ((n : Nat) : Int) : Str) = sZero) || !decide (sgn ((toString ((n : Nat) : Int) : Str).cps.toList.headD 0) = sZero)))) = true
  rw [el, decide_eq_true (by omega), decide_eq_true l1, hd, et]
  by_cases c : n = 0
  · subst c
    rw [decide_eq_true (show (toString (((0 : Nat) : Nat) : Int) : Str) = sZero from rfl)]
    rfl
  · have hh := numL_head n c
    have : sgn ((TL.numL n).headD 0) ≠ sZero := fun q => by
      have := congrArg TL.tl q
      have e0 : TL.tl sZero = [48] := by decide +kernel
      rw [e0] at this
      exact hh (List.cons.inj this).1
    rw [decide_eq_false this, Bool.not_false, Bool.or_true]
    rfl
theorem numV_num {i : Int} (h : 0 ≤ i) (h2 : i < 10 ^ 50) : numV (toString i : Str) = i := by
  obtain ⟨n, rfl⟩ := Int.eq_ofNat_of_zero_le h
  have hn : n < 10 ^ 50 := by exact_mod_cast h2
  have l1 := TL.numL_len (k := 50) (by decide) hn
  unfold numV
  rw [show PySem.intText? (toString ((n : Nat) : Int) : Str) = some ((n : Nat) : Int) from TL.int_num (by omega)]
  rfl
def Nn (p : Int × Int) : Prop := (0 ≤ p.1 ∧ p.1 < 10 ^ 50) ∧ 0 ≤ p.2 ∧ p.2 < 10 ^ 50
theorem sgn_tl {s : Str} (h : s = sDash ∨ s = sSlash) : ∃ c, TL.tl s = [c] ∧ (c = 45 ∨ c = 47) := by
  rcases h with rfl | rfl
  · exact ⟨45, tl_dash, Or.inl rfl⟩
  · exact ⟨47, tl_slash, Or.inr rfl⟩
theorem pair_tl {s : Str} {c : Nat} (h : TL.tl s = [c]) {p : Int × Int} (hp : Nn p) : TL.tl (pairW s p) = TL.numL p.1.toNat ++ c :: TL.numL p.2.toNat := by
  unfold pairW
  rw [TL.tl_append, TL.tl_append, h, tl_int hp.1.1, tl_int hp.2.1, List.append_assoc]
  rfl
theorem wrd_pair {s : Str} (hs : s = sDash ∨ s = sSlash) {p : Int × Int} (hp : Nn p) : Wrd (pairW s p) := by
  obtain ⟨c, h, hc⟩ := sgn_tl hs
  have e := pair_tl h hp
  have f1 : ∀ n : Nat, 32 ∉ TL.numL n := fun n => TL.numL_free (Or.inl (by decide))
  have l1 : 0 < (TL.numL p.1.toNat).length := List.length_pos_iff.mpr (TL.numL_ne _)
  refine ⟨?_, ?_, ?_⟩
  · rw [e]
    intro hm
    rcases List.mem_append.mp hm with hm | hm
    · exact f1 _ hm
    · rcases List.mem_cons.mp hm with hm | hm
      · omega
      · exact f1 _ hm
  · rw [e]
    intro q
    have := congrArg List.length q
    simp only [List.length_append, List.length_cons, List.length_nil] at this
    omega
  · rw [e]
    intro q
    have := congrArg List.length q
    simp only [List.length_append, List.length_cons, List.length_nil] at this
    omega
theorem wrd_num {i : Int} (h : 0 ≤ i) : Wrd (toString i : Str) := by
  have e := tl_int h
  refine ⟨?_, ?_, ?_⟩
  · rw [e]
    exact TL.numL_free (Or.inl (by decide))
  · rw [e]
    intro q
    have : (45 : Nat) ∈ TL.numL i.toNat := by rw [q]; exact List.mem_cons_self
    exact TL.numL_free (Or.inl (by decide)) this
  · rw [e]
    exact TL.numL_ne _
theorem pairOf_pair {s : Str} (hs : s = sDash ∨ s = sSlash) {p : Int × Int} (hp : Nn p) : pairOf s (pairW s p) = some p := by
  obtain ⟨c, h, hc⟩ := sgn_tl hs
  have ej : pairW s p = Txt.join s [(toString p.1 : Str), (toString p.2 : Str)] := by
    rw [TL.join_eq]
    rfl
  have free : ∀ n : Nat, c ∉ TL.numL n := fun n => TL.numL_free (Or.inl (by omega))
  have es : Txt.split (pairW s p) s = [(toString p.1 : Str), (toString p.2 : Str)] := by
    rw [ej]
    refine TL.split_join h (sgn_ok hs).2.1 (by simp) fun q hq => ?_
    rcases List.mem_cons.mp hq with rfl | hq
    · rw [tl_int hp.1.1]; exact free _
    · cases List.mem_singleton.mp hq
      rw [tl_int hp.2.1]; exact free _
  unfold pairOf
  rw [es]
  show (if numOk (toString p.1 : Str) && numOk (toString p.2 : Str) then some (numV (toString p.1 : Str), numV (toString p.2 : Str)) else none) = some p
  rw [numOk_num hp.1.1 hp.1.2, numOk_num hp.2.1 hp.2.2, numV_num hp.1.1 hp.1.2, numV_num hp.2.1 hp.2.2]
  rfl
theorem allOf_map {α β : Type} {f : Str → Option α} {g : β → Str} {F : β → α} : ∀ {l : List β}, (∀ b ∈ l, f (g b) = some (F b)) → allOf f (l.map g) = some (l.map F) := fun {l} h => by
  rw [allOf_some fun w hw => by
    obtain ⟨b, hb, rfl⟩ := List.mem_map.mp hw
    rw [h b hb]
    rfl]
  congr 1
  induction l with
  | nil => rfl
  | cons b l ih =>
    rw [List.map_cons, List.filterMap_cons, h b List.mem_cons_self, List.map_cons, ← ih fun c hc => h c (List.mem_cons_of_mem _ hc)]
theorem readP_text {s : Str} (hs : s = sDash ∨ s = sSlash) {l : List (Int × Int)} (h : ∀ p ∈ l, Nn p) : readP s (textW (l.map (pairW s))) = some l := by
  unfold readP
  rw [words_text fun w hw => by
    obtain ⟨p, hp, rfl⟩ := List.mem_map.mp hw
    exact wrd_pair hs (h p hp)]
  rw [allOf_map (f := pairOf s) (g := pairW s) (F := id) fun p hp => pairOf_pair hs (h p hp), List.map_id]
theorem readS_text {l : List (Int × Int)} (h : ∀ p ∈ l, Nn p) (hs : stOk l = true) : readS (textW (l.map (pairW sDash))) = some l := by
  unfold readS
  rw [readP_text (Or.inl rfl) h]
  exact if_pos hs
def OkO (o : Option Int) : Prop := ∀ i, o = some i → 0 ≤ i ∧ i < 10 ^ 50
theorem wrd_wish {o : Option Int} (h : OkO o) : Wrd (wishW o) := by
  cases o with
  | none =>
    show Wrd sAsk
    unfold Wrd
    rw [tl_ask]
    exact ⟨by decide, by decide, by decide⟩
  | some i => exact wrd_num (h i rfl).1
theorem wishOf_wish {o : Option Int} (h : OkO o) : wishOf (wishW o) = some (optD o) := by
  cases o with
  | none => exact if_pos rfl
  | some i =>
    obtain ⟨h1, h2⟩ := h i rfl
    show wishOf (toString i : Str) = some (.int i)
    have ne : (toString i : Str) ≠ sAsk := fun q => by
      have := congrArg TL.tl q
      rw [tl_int h1, tl_ask] at this
      have hm : (63 : Nat) ∈ TL.numL i.toNat := by rw [this]; exact List.mem_cons_self
      exact TL.numL_free (Or.inr (by decide)) hm
    unfold wishOf
    rw [if_neg ne, if_pos (numOk_num h1 h2), numV_num h1 h2]
theorem readW_text {os : List (Option Int)} (h : ∀ o ∈ os, OkO o) : readW (textW (os.map wishW)) = some (os.map optD) := by
  unfold readW
  rw [words_text fun w hw => by
    obtain ⟨p, hp, rfl⟩ := List.mem_map.mp hw
    exact wrd_wish (h p hp)]
  exact allOf_map fun o ho => wishOf_wish (h o ho)
theorem spl_ne (S : List Nat) : ∀ (l : List Nat) (k : Nat) (acc : List Nat), TL.spl S k acc l ≠ []
  | [], k, acc => by rw [TL.spl_nil]; simp
  | c :: r, 0, acc => by
    by_cases h : TL.pre S (c :: r) = true
    · rw [TL.spl_hit h]; simp
    · rw [TL.spl_miss (by simpa using h)]
      exact spl_ne S r 0 _
  | c :: r, k + 1, acc => spl_ne S r k acc
/-- one sign put in another's place -/
theorem join_spl (c z : Nat) : ∀ (l acc : List Nat), TL.joinL [z] (TL.spl [c] 0 acc l) = acc ++ l.map fun x => if x = c then z else x
  | [], acc => by rw [TL.spl_nil, List.map_nil, List.append_nil]; rfl
  | x :: r, acc => by
    by_cases h : x = c
    · subst h
      rw [TL.spl_hit (by unfold TL.pre; simp), List.map_cons, if_pos rfl]
      have ih := join_spl x z r []
      show TL.joinL [z] (acc :: TL.spl [x] 0 [] r) = _
      cases e : TL.spl [x] 0 [] r with
      | nil => exact absurd e (spl_ne _ _ _ _)
      | cons q qs =>
        rw [e] at ih
        show acc ++ ([z] ++ TL.joinL [z] (q :: qs)) = _
        rw [ih]
        rfl
    · rw [TL.spl_miss (by unfold TL.pre; simp [h]), join_spl c z r (acc ++ [x]), List.map_cons, if_neg h, List.append_assoc]
      rfl
theorem repl_tl (x : Str) : TL.tl (Txt.replace x sDash sGap) = (TL.tl x).map fun c => if c = 45 then 32 else c := by
  have e := TL.split_spl x sDash (by rw [tl_dash]; simp) (TL.kind_ok (by decide +kernel))
  rw [show Txt.replace x sDash sGap = Str.join sGap (Txt.split x sDash) from StrLaws.replace_one x sGap 45, TL.tl_join, e, tl_gap, tl_dash, join_spl]
  rfl
theorem map_num (n : Nat) : (TL.numL n).map (fun c => if c = 45 then 32 else c) = TL.numL n := by
  have : ∀ l : List Nat, (∀ c ∈ l, c ≠ 45) → l.map (fun c => if c = 45 then 32 else c) = l := fun l h => by
    conv => rhs; rw [← List.map_id l]
    exact List.map_congr_left fun c hc => if_neg (h c hc)
  exact this _ fun c hc e => TL.numL_free (n := n) (s := 45) (Or.inl (by decide)) (e ▸ hc)
def flat2 (l : List (Int × Int)) : List Int := (l.map fun p => [p.1, p.2]).flatten
theorem flat_tl : ∀ {l : List (Int × Int)}, (∀ p ∈ l, Nn p) → (TL.joinL [32] ((l.map (pairW sDash)).map TL.tl)).map (fun c => if c = 45 then 32 else c) = TL.joinL [32] (((flat2 l).map fun i => (toString i : Str)).map TL.tl)
  | [], _ => rfl
  | p :: l, h => by
    have hp := h p List.mem_cons_self
    have ih := flat_tl (l := l) fun q hq => h q (List.mem_cons_of_mem _ hq)
    have e := pair_tl tl_dash hp
    have em : (TL.tl (pairW sDash p)).map (fun c => if c = 45 then 32 else c) = TL.numL p.1.toNat ++ ([32] ++ TL.numL p.2.toNat) := by
      rw [e, List.map_append, List.map_cons, map_num, map_num]
      rfl
    cases l with
    | nil =>
      show (TL.tl (pairW sDash p)).map _ = TL.tl (toString p.1 : Str) ++ ([32] ++ TL.tl (toString p.2 : Str))
      rw [em, tl_int hp.1.1, tl_int hp.2.1]
    | cons q l =>
      show (TL.tl (pairW sDash p) ++ ([32] ++ TL.joinL [32] (((q :: l).map (pairW sDash)).map TL.tl))).map _ = TL.tl (toString p.1 : Str) ++ ([32] ++ (TL.tl (toString p.2 : Str) ++ ([32] ++ TL.joinL [32] (((flat2 (q :: l)).map fun i => (toString i : Str)).map TL.tl))))
      rw [List.map_append, List.map_append, ih, em, tl_int hp.1.1, tl_int hp.2.1]
      simp only [List.append_assoc]
      rfl
theorem repl_text {l : List (Int × Int)} (h : ∀ p ∈ l, Nn p) (ne : l ≠ []) : Txt.replace (Txt.join sGap (l.map (pairW sDash))) sDash sGap = textW (((flat2 l).map some).map wishW) := by
  refine TL.ext_tl ?_
  have e1 : ((flat2 l).map some).map wishW = (flat2 l).map fun i => (toString i : Str) := by rw [List.map_map]; rfl
  have ne2 : (flat2 l).map (fun i => (toString i : Str)) ≠ [] := by
    cases l with
    | nil => exact absurd rfl ne
    | cons p l => simp [flat2]
  rw [repl_tl, TL.join_eq, TL.tl_join, tl_gap, flat_tl h, e1]
  unfold textW
  rw [if_neg ne2, TL.join_eq, TL.tl_join, tl_gap]
def C_is_number : DCon := fun b ds n P PX => ∃ z : Str, ds = [.str z] ∧ z.length ≤ 90000 ∧ P (.bl (numOk z)) n
def C__words_of : DCon := fun b ds n P PX => ∃ x : Str, ds = [.str x] ∧ x.length ≤ 50000 ∧ P (.lst ((wordsL x).map D.str)) n
def C__pairs_of : DCon := fun b ds n P PX => ∃ x s : Str, ∃ l, ds = [.str x, .str s] ∧ (s = sDash ∨ s = sSlash) ∧ x.length ≤ 50000 ∧ readP s x = some l ∧ P (.lst (l.map pr)) n
def C_stays_in : DCon := fun b ds n P PX => ∃ x : Str, ∃ l, ds = [.str x] ∧ x.length ≤ 50000 ∧ readS x = some l ∧ l.length ≤ 1000 ∧ P (.tup (l.map pr)) n
def C_pairs_in : DCon := fun b ds n P PX => ∃ x : Str, ∃ l, ds = [.str x] ∧ x.length ≤ 50000 ∧ readP sSlash x = some l ∧ P (.lst (l.map pr)) n
def C_wish_in : DCon := fun b ds n P PX => ∃ x : Str, ∃ l, ds = [.str x] ∧ x.length ≤ 50000 ∧ readW x = some l ∧ P (.tup l) n
def C__is_day : DCon := fun b ds n P PX => ∃ i : Int, ds = [.int i] ∧ 0 ≤ i ∧ P (.bl true) n
def C__is_stay : DCon := fun b ds n P PX => ∃ p : Int × Int, ds = [pr p] ∧ 0 ≤ p.1 ∧ 0 ≤ p.2 ∧ P (.bl (decide (p.1 ≤ p.2))) n
def C_is_stays : DCon := fun b ds n P PX => ∃ l : List (Int × Int), ds = [.tup (l.map pr)] ∧ l.length ≤ 1000 ∧ (∀ p ∈ l, 0 ≤ p.1 ∧ 0 ≤ p.2) ∧ P (.bl (stOk l)) n
/-- words that are not too long -/
def Low (w : Str) : Prop := ∀ c ∈ TL.tl w, c < 64
theorem low_num (n : Nat) : ∀ c ∈ TL.numL n, c < 64 := fun c hc => by
  have := TL.numL_digits n c hc
  omega
def Wsz (ws : List Str) : Prop := ws.length ≤ 200 ∧ ∀ w ∈ ws, Wrd w ∧ w.length ≤ 140 ∧ Low w
theorem Wsz.sum {ws : List Str} (h : Wsz ws) : (ws.map (·.length)).sum + ws.length * sGap.length ≤ 16777216 := by
  have h1 := join_sum ws fun w hw => (h.2 w hw).2.1
  have h2 := h.1
  rw [show sGap.length = 1 from rfl]
  omega
theorem Wsz.len {ws : List Str} (h : Wsz ws) : (textW ws).length ≤ 40000 := by
  unfold textW
  split
  · exact Nat.le_of_ble_eq_true rfl
  · have h1 := join_len sGap ws fun w hw => (h.2 w hw).2.1
    have h2 := h.1
    rw [show sGap.length = 1 from rfl] at h1
    omega
theorem Wsz.pairs {s : Str} (hs : s = sDash ∨ s = sSlash) {l : List (Int × Int)} (hl : l.length ≤ 200) (h : ∀ p ∈ l, Nn p) : Wsz (l.map (pairW s)) := by
  refine ⟨by rw [List.length_map]; exact hl, fun w hw => ?_⟩
  obtain ⟨p, hp, rfl⟩ := List.mem_map.mp hw
  have hn := h p hp
  refine ⟨wrd_pair hs hn, ?_⟩
  have p50 : (10 : Int) ^ 50 < 10 ^ 68 := by decide
  have l1 := num_len (i := p.1) (by have := hn.1; omega)
  have l2 := num_len (i := p.2) (by have := hn.2; omega)
  have l3 := (sgn_ok hs).2.2
  refine ⟨?_, ?_⟩
  · unfold pairW
    rw [app_len, app_len]
    omega
  · obtain ⟨c, h, hc⟩ := sgn_tl hs
    unfold Low
    rw [pair_tl h hn]
    intro x hx
    rcases List.mem_append.mp hx with hx | hx
    · exact low_num _ x hx
    · rcases List.mem_cons.mp hx with rfl | hx
      · omega
      · exact low_num _ x hx
theorem Wsz.wish {os : List (Option Int)} (hl : os.length ≤ 200) (h : ∀ o ∈ os, OkO o) : Wsz (os.map wishW) := by
  refine ⟨by rw [List.length_map]; exact hl, fun w hw => ?_⟩
  obtain ⟨o, ho, rfl⟩ := List.mem_map.mp hw
  refine ⟨wrd_wish (h o ho), ?_⟩
  cases o with
  | none => exact ⟨Nat.le_of_ble_eq_true rfl, fun c hc => by
      rw [show TL.tl (wishW none) = [63] from tl_ask] at hc
      cases List.mem_singleton.mp hc
      decide⟩
  | some i =>
    have hn := h _ ho i rfl
    have p50 : (10 : Int) ^ 50 < 10 ^ 68 := by decide
    have l1 := num_len (i := i) (by omega)
    exact ⟨Nat.le_trans l1 (by decide), fun c hc => by
      rw [show TL.tl (wishW (some i)) = _ from tl_int hn.1] at hc
      exact low_num _ c hc⟩
def C__text_of : DCon := fun b ds n P PX => ∃ ws : List Str, ds = [.lst (ws.map D.str)] ∧ Wsz ws ∧ P (.str (textW ws)) n
def C_l_joined : DCon := C__text_of
/-- rows of two numbers -/
def Rws (d : D) (l : List (Int × Int)) : Prop := ∃ ds, (d = .lst ds ∨ d = .tup ds) ∧ ds.length = l.length ∧ ∀ (i : Nat) e p, ds[i]? = some e → l[i]? = some p → (e = .tup [.int p.1, .int p.2] ∨ e = .lst [.int p.1, .int p.2])
theorem Rws.of {l : List (Int × Int)} {d : D} (h : d = .lst (l.map pr) ∨ d = .tup (l.map pr)) : Rws d l := ⟨_, h, by rw [List.length_map], fun i e p h1 h2 => by
  rw [List.getElem?_map, h2] at h1
  cases h1
  exact Or.inl rfl⟩
theorem Rws.ofL {l : List (Int × Int)} {d : D} (h : d = .lst (l.map prL) ∨ d = .tup (l.map prL)) : Rws d l := ⟨_, h, by rw [List.length_map], fun i e p h1 h2 => by
  rw [List.getElem?_map, h2] at h1
  cases h1
  exact Or.inr rfl⟩
def C_stays_text : DCon := fun b ds n P PX => ∃ d l, ds = [d] ∧ Rws d l ∧ l.length ≤ 200 ∧ (∀ p ∈ l, Nn p) ∧ P (.str (textW (l.map (pairW sDash)))) n
def C_pairs_text : DCon := fun b ds n P PX => ∃ d l, ds = [d] ∧ Rws d l ∧ l.length ≤ 200 ∧ (∀ p ∈ l, Nn p) ∧ P (.str (textW (l.map (pairW sSlash)))) n
def C_wish_text : DCon := fun b ds n P PX => ∃ d, ∃ os : List (Option Int), ds = [d] ∧ (d = .lst (os.map optD) ∨ d = .tup (os.map optD)) ∧ os.length ≤ 200 ∧ (∀ o ∈ os, OkO o) ∧ P (.str (textW (os.map wishW))) n
def C_l_right : DCon := fun b ds n P PX => ∃ a, b = some a ∧ ds = [.raw (.ref a)] ∧ n + 600000 ≤ 2 ^ 40 ∧ ∀ m, n ≤ m → m ≤ n + 600000 → P (.bl true) m
theorem ds_to {A : Amb} {ts : TS} {ρ ρ' : Rho} {n : Nat} {T : DEnds} (h : ρ = ρ') (k : DS A ts ρ' n T) : DS A ts ρ n T := h ▸ k
section
variable {P : Program} {w : World} {K : PySem.W.Frag} {mg : Str → Option Value} {base : Heap}
theorem g_l_draw (B : Tx K mg) {d:Nat} {kk : Nat} (hkk : 1 ≤ kk + 1) {ks : Nat} {Cs : DCon} (hks : ks ≤ kk) (G_l_draw : FnG P w K mg base ks B.a_l_draw B.fd_l_draw ["_law_source", "_law_bound"] (spOf K 2 Cs)) (hCs:(∃ e, d=e+1∧Cs=C_take e)∨d=0) : FnG P w K mg base (kk + 1) B.a_l_draw B.fd_l_draw ["_law_source", "_law_bound"] (spOf K 2 (C_take d)) := by
  refine FnG.of B.F_l_draw sc_l_draw (fun _ _ _ _ h => spOf_len h) (fun cdv Ar outer s H vs Q E hg hr h => ?_)
  have gd : (Ar.deeper (envOfC "_law_draw" (defScope s_l_draw) s.heap.objs.size B.a_l_draw cdv)).guards = some [] := (deeper_guards Ar _).trans hg
  have hu : (Ar.deeper (envOfC "_law_draw" (defScope s_l_draw) s.heap.objs.size B.a_l_draw cdv)).units + 64 < cLine := by have := hr.un; omega
  have hr_l_draw := hr.mono hks
  refine ⟨_, (pss_cons (ps_if (pt_cmpR op_gt (pe_ix (kx_ix K) (pv 0) pe_int (fun _ _ => rfl)) pe_int (nomark _)) (pss_cons (ps_set (i := 2) sc_l_draw.nd rfl (by first | exact Or.inl rfl | exact Or.inr rfl) (pe_op op_mod (pe_ix (kx_ix K) (pv 0) pe_int (fun _ _ => rfl)) (pv 1)))
    (pss_cons (ps_asg (pe_op op_fdivW (pe_ix (kx_ix K) (pv 0) pe_int (fun _ _ => rfl)) (pv 1)) (pg_sub (pv 0) pe_int set_list))
    (pss_one (ps_ret (pv 2))))) pss_nil)
    (pss_cons (ps_if (pt_cmpR op_gt (pv 1) (pe_op op_pow pe_int pe_int) (nomark _)) (pss_one (ps_ret (pe_op op_mod (pe_op (kx_plus K) (pe_g G_l_draw gd hr_l_draw B.m_l_draw B.k_l_draw B.b_l_draw passL (pa_cons (pv 0) (pa_cons (pe_op op_pow pe_int pe_int) pa_nil))) (pe_op op_times (pe_op op_pow pe_int pe_int) (pe_g G_l_draw gd hr_l_draw B.m_l_draw B.k_l_draw B.b_l_draw passL (pa_cons (pv 0) (pa_cons (pe_op (kx_plus K) (pe_op op_fdivW (pe_op op_sub (pv 1) pe_int) (pe_op op_pow pe_int pe_int)) pe_int) pa_nil))))) (pv 1)))) pss_nil)
    (pss_cons (ps_asg (pe_op (kx_plus K) (pe_ix (kx_ix K) (pv 0) pe_int (fun _ _ => rfl)) pe_int) (pg_sub (pv 0) pe_int set_list))
    (pss_cons (ps_set (i := 3) sc_l_draw.nd rfl (by first | exact Or.inl rfl | exact Or.inr rfl) (pe_op op_mod (pe_op op_times (pe_op (kx_plus K) (pe_ix (kx_ix K) (pv 0) pe_int (fun _ _ => rfl)) (pe_op op_times pe_int (pe_ix (kx_ix K) (pv 0) pe_int (fun _ _ => rfl)))) (pe_op (kx_plus K) pe_int (pe_ix (kx_ix K) (pv 0) pe_int (fun _ _ => rfl)))) pe_int))
    (pss_cons (ps_set (i := 4) sc_l_draw.nd rfl (by first | exact Or.inl rfl | exact Or.inr rfl) (pe_op op_mod (pe_op op_times (pe_op (kx_plus K) (pe_op (kx_plus K) (pv 3) (pe_ix (kx_ix K) (pv 0) pe_int (fun _ _ => rfl))) (pe_op op_fdivW (pe_ix (kx_ix K) (pv 0) pe_int (fun _ _ => rfl)) pe_int)) (pe_op (kx_plus K) (pe_op op_mod (pv 3) pe_int) pe_int)) pe_int))
    (pss_one (ps_ret (pe_op op_mod (pe_op op_fdivW (pe_op op_mod (pe_op (kx_plus K) (pe_op op_times (pv 4) pe_int) (pv 3)) pe_int) pe_int) (pv 1))))))))), ?_⟩
  clear gd hu hr hg
  obtain ⟨b, S, ds, n, Pp, PX, ex, hbx, rp, hl, ⟨a, span, rfl, rfl, h0, hsp, hd, hn, hp⟩, hq, hx⟩ := h
  obtain ⟨v0, r0, rfl, q0, q1⟩ := rp.uncons
  obtain ⟨v1, r1, rfl, q2, q3⟩ := q1.uncons
  have e1 : r1 = [] := by unfold Reps at q3; exact q3
  subst e1
  cases q0.raw_inv
  cases q2.int_inv
  obtain ⟨⟨x, y, z, hb, hx0, hy0, hy1, hz0, hz1⟩, hSa⟩ := hbx a rfl
  have hss := span_small h0 hsp hd
  have p2 : (2 : Nat) ^ (d + 1) ≤ 2 ^ 7 := Nat.pow_le_pow_right (by decide) (by omega)
  have p3 : 1 ≤ (2 : Nat) ^ (d + 1) := Nat.one_le_two_pow
  have hn' : n ≤ 2 ^ 40 := by omega
  refine bx 0 rfl hb rfl ⟨_, _, rfl, rfl, _, rfl, ?_⟩
  refine ite2 (fun c => ?_) (fun c => ?_)
  · refine bx 0 rfl hb rfl ⟨_, rfl, _, _, rfl, rfl, h0, ?_⟩
    refine bx 0 rfl hb rfl ⟨_, rfl, _, _, rfl, rfl, wide_div h0 hss (by decide) (by decide), _, rfl, a, _, 0, 0, rfl, rfl, hb, rfl, ?_⟩
    refine ⟨_, rfl, ?_⟩
    refine hq _ (.int (x % span)) S _ n (mv_box hSa ⟨_, hb⟩) (ex_box ex hSa ⟨_, hb⟩) (fun e he => ?_) Rep.int (hp _ n (Int.emod_nonneg _ (by omega)) (Int.emod_lt_of_pos _ h0) (Nat.le_refl _) (by omega))
    cases he
    exact ⟨⟨x / span, y, z, upd_same, Int.ediv_nonneg hx0 (by omega), hy0, hy1, hz0, hz1⟩, hSa⟩
  · have hxz : x = 0 := by
      have c' : ¬ (0 : Int) < x := fun q => c (decide_eq_true q)
      omega
    subst hxz
    show tSeq _ _ _ _ _
    refine ⟨_, rfl, _, _, rfl, rfl, ⟨by decide, by decide, by decide⟩, _, _, rfl, rfl, _, rfl, ?_⟩
    refine ite2 (fun c2 => ?_) (fun c2 => ?_)
    · have c3 : (10000000 : Int) < span := by
        have := of_decide_eq_true c2
        rw [pow_7] at this
        exact this
      rcases hCs with ⟨e, rfl, rfl⟩ | rfl
      · obtain ⟨s1, s2⟩ := step_span h0 hsp
        have pe : (2 : Nat) ^ (e + 1 + 1) = 2 * 2 ^ (e + 1) := by rw [Nat.pow_succ]; omega
        have b7 : (10 : Int) ^ (7 : Int).toNat ≤ 10 ^ (7 * (e + 1)) := by
          rw [pow_7]
          have : (10 : Int) ^ (7 * (e + 1)) = 10 ^ (7 * e) * 10000000 := by
            rw [show 7 * (e + 1) = 7 * e + 7 by omega, Int.pow_add]; rfl
          have p : (0 : Int) < 10 ^ (7 * e) := Int.pow_pos (by decide)
          omega
        refine ⟨_, rfl, _, _, rfl, rfl, ⟨by decide, by decide, by decide⟩, ?_⟩
        refine go_call (n := n) (ds := [.raw (.ref a), .int ((10 : Int) ^ (7 : Int).toNat)]) (P := fun d m => ∃ v, d = .int v ∧ 0 ≤ v ∧ v < 10 ^ (7 : Int).toNat ∧ n ≤ m ∧ m ≤ n + 2 ^ (e + 1)) ex ⟨0, y, z, hb, hx0, hy0, hy1, hz0, hz1⟩ hSa (Reps.cons Rep.raw (Reps.one Rep.int)) rfl ⟨a, _, rfl, rfl, by decide, b7, by omega, by omega, fun v m g1 g2 g3 g4 => ⟨v, rfl, g1, g2, g3, g4⟩⟩ ?_
        rintro v1 _ S1 H1 n1 m1 ex1 bx1 hs1 rv1 ⟨w1, rfl, w10, w11, l1, l2⟩
        cases rv1.int_inv
        have cm : CMul ((10 : Int) ^ (7 : Int).toNat) ((10 : Int) ^ (7 : Int).toNat) := Or.inl (by decide)
        have cd : CDivW (span - 1) ((10 : Int) ^ (7 : Int).toNat) := ⟨by decide, by decide⟩
        refine ⟨_, _, rfl, rfl, ⟨by decide, by decide, by decide⟩, _, rfl, _, rfl, _, _, rfl, rfl, _, _, rfl, rfl, ⟨by decide, by decide, by decide⟩, _, _, rfl, rfl, cd, Or.inl ⟨_, _, rfl, rfl, ?_⟩⟩
        refine go_call (n := n1) (ds := [.raw (.ref a), .int ((span - 1) / 10 ^ (7 : Int).toNat + 1)]) (P := fun d m => ∃ v, d = .int v ∧ 0 ≤ v ∧ n1 ≤ m ∧ m ≤ n1 + 2 ^ (e + 1)) ex1 bx1 hs1 (Reps.cons Rep.raw (Reps.one Rep.int)) rfl ⟨a, _, rfl, rfl, by rw [pow_7]; exact s1, by rw [pow_7]; exact s2, by omega, by omega, fun v m g1 g2 g3 g4 => ⟨v, rfl, g1, g3, g4⟩⟩ ?_
        rintro v2 _ S2 H2 n2 m2 ex2 bx2 hs2 rv2 ⟨w2, rfl, w20, l3, l4⟩
        cases rv2.int_inv
        refine Or.inl ⟨_, _, rfl, rfl, Or.inl (by decide), Or.inl ⟨_, _, rfl, rfl, _, rfl, _, _, rfl, rfl, h0, ?_⟩⟩
        have bt : Bt (some a) H1 := fun x e => by cases e; exact bx1.ne
        refine hq _ (.int _) S2 H2 n2 (m1.trans bt m2) ex2 (fun e he => by cases he; exact ⟨bx2, hs2⟩) Rep.int (hp _ n2 (Int.emod_nonneg _ (by omega)) (Int.emod_lt_of_pos _ h0) (by omega) (by omega))
      · exfalso
        have : span ≤ 10000000 := hsp
        omega
    · show tSeq _ _ _ _ _
      refine bx 2 rfl hb rfl (Or.inl ⟨_, _, rfl, rfl, _, rfl, a, _, 2, 2, rfl, rfl, hb, rfl, ?_⟩)
      have hb2 : (upd H a (.lst ([V.int 0, V.int y, V.int z].set 2 (V.int (z + 1))))) a = some (.lst [V.int 0, V.int y, V.int (z + 1)]) := upd_same
      refine bx 1 rfl hb2 rfl ?_
      refine bx 2 rfl hb2 rfl (Or.inl ⟨_, _, rfl, rfl, Or.inl (by decide), Or.inl ⟨_, _, rfl, rfl, ?_⟩⟩)
      refine bx 2 rfl hb2 rfl (Or.inl ⟨_, _, rfl, rfl, Or.inl ⟨_, _, rfl, rfl, Or.inr (by omega), _, _, rfl, rfl, (show (0 : Int) < 2147483647 by decide), ?_⟩⟩)
      have o0 := Int.emod_nonneg ((y + 48271 * (z + 1)) * (39373 + (z + 1))) (show (2147483647 : Int) ≠ 0 by decide)
      have o1 := Int.emod_lt_of_pos ((y + 48271 * (z + 1)) * (39373 + (z + 1))) (show (0 : Int) < 2147483647 by decide)
      refine ⟨_, rfl, ?_⟩
      refine bx 2 rfl hb2 rfl (Or.inl ⟨_, _, rfl, rfl, ?_⟩)
      refine bx 1 rfl hb2 rfl ⟨_, _, rfl, rfl, ⟨by decide, by decide⟩, Or.inl ⟨_, _, rfl, rfl, ?_⟩⟩
      refine ⟨_, rfl, _, _, rfl, rfl, (show (0 : Int) < 40009 by decide), Or.inl ⟨_, _, rfl, rfl, Or.inl ⟨_, _, rfl, rfl, Or.inr (by omega), _, _, rfl, rfl, (show (0 : Int) < 2147483629 by decide), ?_⟩⟩⟩
      refine ⟨_, rfl, Or.inl ⟨_, _, rfl, rfl, Or.inr (by decide), ?_⟩⟩
      refine ⟨_, rfl, Or.inl ⟨_, _, rfl, rfl, _, _, rfl, rfl, (show (0 : Int) < 2147483587 by decide), _, _, rfl, rfl, ⟨by decide, by decide⟩, _, rfl, _, _, rfl, rfl, h0, ?_⟩⟩
      refine hq _ (.int _) S _ (n + 1) (mv_box hSa ⟨_, hb⟩) (ex_box ex hSa ⟨_, hb⟩) (fun e he => ?_) Rep.int (hp _ (n + 1) (Int.emod_nonneg _ (by omega)) (Int.emod_lt_of_pos _ h0) (by omega) (by omega))
      cases he
      exact ⟨⟨0, y, z + 1, upd_same, by omega, hy0, hy1, by omega, by omega⟩, hSa⟩
theorem take_all (B : Tx K mg) : ∀ d : Nat, FnG P w K mg base (d + 1) B.a_l_draw B.fd_l_draw ["_law_source", "_law_bound"] (spOf K 2 (C_take d))
  | 0 => g_l_draw (kk := 0) (ks := 0) (Cs := fun _ _ _ _ _ => False) B (by decide) (by decide) ⟨fun _ _ _ _ ⟨_, _, _, _, _, _, _, _, _, _, z, _⟩ => z.elim, fun _ _ _ _ _ _ _ _ _ _ _ _ _ _ ⟨_, _, _, _, _, _, _, _, _, _, z, _⟩ => z.elim⟩ (Or.inr rfl)
  | d + 1 => g_l_draw (kk := d + 1) (ks := d + 1) (Cs := C_take d) B (by omega) (by omega) (take_all B d) (Or.inl ⟨d, rfl, rfl⟩)
theorem g_l_pick (B : Tx K mg) (G_l_draw : FnG P w K mg base 7 B.a_l_draw B.fd_l_draw ["_law_source", "_law_bound"] (spOf K 2 C_l_draw)) : FnG P w K mg base 8 B.a_l_pick B.fd_l_pick ["_law_source", "_law_some"] (spOf K 2 C_l_pick) := by
  refine FnG.of B.F_l_pick sc_l_pick (fun _ _ _ _ h => spOf_len h) (fun cdv Ar outer s H vs Q E hg hr h => ?_)
  have gd : (Ar.deeper (envOfC "_law_pick" (defScope s_l_pick) s.heap.objs.size B.a_l_pick cdv)).guards = some [] := (deeper_guards Ar _).trans hg
  have hu : (Ar.deeper (envOfC "_law_pick" (defScope s_l_pick) s.heap.objs.size B.a_l_pick cdv)).units + 64 < cLine := by have := hr.un; omega
  have hr_l_draw := hr.mono (show 7 ≤ _ by decide)
  refine ⟨_, (pss_one (ps_ret (pe_ix (kx_ix K) (pv 1) (pe_g G_l_draw gd hr_l_draw B.m_l_draw B.k_l_draw B.b_l_draw passL (pa_cons (pv 0) (pa_cons (pe_callB (kx_len K) rfl B.n_len PySem.boot_len (pa_cons (pv 1) pa_nil)) pa_nil))) (fun _ _ => rfl)))), body_of h ?_⟩
  clear h gd hu hr hg
  intro A ds n Pp eK eE hX hl hc
  subst eK eE
  obtain ⟨a, d, xs, hb, rfl, hd, h0, hz, hn, hp⟩ := hc
  have p7 : (10 : Int) ^ (7 * (6 + 1)) = 10 ^ 49 := rfl
  walk_at "D"
  refine ⟨rfl, a, _, hb, rfl, by omega, by rw [p7]; have : (100000 : Int) < 10 ^ 49 := by decide
                                           omega, by omega, by omega, fun v m h1 h2 h3 h4 => ?_⟩
  have hv : v.toNat < xs.length := by omega
  have hx : xs[v.toNat]? = some xs[v.toNat] := by simp [hv]
  exact dr_ix hd h1 hx (hp _ _ _ hx h3 h4)
--@@split
theorem g_l_stream (B : Tx K mg) : FnG P w K mg base 1 B.a_l_stream B.fd_l_stream ["_law_script", "_law_k"] (spBox K) := by
  refine FnG.of B.F_l_stream sc_l_stream (fun _ _ _ _ h => spBox_len h) (fun cdv Ar outer s H vs Q E hg hr h => ?_)
  have gd : (Ar.deeper (envOfC "_law_stream" (defScope s_l_stream) s.heap.objs.size B.a_l_stream cdv)).guards = some [] := (deeper_guards Ar _).trans hg
  have hu : (Ar.deeper (envOfC "_law_stream" (defScope s_l_stream) s.heap.objs.size B.a_l_stream cdv)).units + 64 < cLine := by have := hr.un; omega
  refine ⟨_, (pss_cons (ps_set (i := 2) sc_l_stream.nd rfl (by first | exact Or.inl rfl | exact Or.inr rfl) pe_int)
    (pss_cons (ps_if (pt_cmpR op_lt (pv 1) (pe_callB (kx_len K) rfl B.n_len PySem.boot_len (pa_cons (pv 0) pa_nil)) (nomark _)) (pss_one (ps_set (i := 2) sc_l_stream.nd rfl (by first | exact Or.inl rfl | exact Or.inr rfl) (pe_ix (kx_ix K) (pv 0) (pv 1) (fun _ _ => rfl)))) pss_nil)
    (pss_one (ps_ret (pe_lst (pa_cons (pe_op op_times (pe_callB call_abs rfl B.n_abs (by decide +kernel) (pa_cons (pv 2) pa_nil)) (pe_callTy call_int1 rfl B.n_int (by decide +kernel) (pa_cons (pe_cmpR op_ge (pe_callB call_abs rfl B.n_abs (by decide +kernel) (pa_cons (pv 2) pa_nil)) (pe_op op_pow pe_int pe_int) (nomark _)) pa_nil))) (pa_cons (pe_op (kx_plus K) (pe_op (kx_plus K) (pe_op op_mod (pv 2) pe_int) (pe_op op_times pe_int (pv 1))) pe_int) (pa_cons pe_int pa_nil)))))))), ?_⟩
  clear gd hu hr hg
  obtain ⟨a, cs, i, rfl, hH, hi, hl, hq⟩ := h
  have hv : (cs.map V.int)[i]? = some (.int cs[i]) := by rw [List.getElem?_map]; simp [hi]
  refine ⟨.int i, rfl, .ref a, rfl, a, _, rfl, Or.inl (Evl.sq_of hH), _, _, rfl, rfl, _, rfl, ?_⟩
  refine ite2 (fun c => ?_) (fun c => absurd (decide_eq_true (by rw [List.length_map]; omega)) c)
  refine ⟨_, rfl, _, rfl, Or.inl ⟨a, _, (i : Int), _, rfl, rfl, Evl.sq_of hH, atI_nat hv, ?_⟩⟩
  have o0 := Int.emod_nonneg cs[i] (show (2305843009213693951 : Int) ≠ 0 by decide)
  have o1 := Int.emod_lt_of_pos cs[i] (show (0 : Int) < 2305843009213693951 by decide)
  have cm : ∀ (x : Int) (k : Bool), CMul x (if k = true then 1 else 0) := fun x k => Or.inr (by cases k <;> decide)
  have x0 : ∀ (x : Int) (k : Bool), 0 ≤ (if x < 0 then -x else x) * (if k = true then 1 else 0) := fun x k => by
    cases k
    · simp
    · by_cases h : x < 0
      · rw [if_pos h]; simp; omega
      · rw [if_neg h]; simp; omega
  refine ⟨_, rfl, _, rfl, _, rfl, _, rfl, _, _, rfl, rfl, ⟨by decide, by decide, by decide⟩, _, _, rfl, rfl, Or.inr ⟨_, rfl, Or.inl ⟨_, _, rfl, rfl, cm _ _, ?_⟩⟩⟩
  refine ⟨_, rfl, _, _, rfl, rfl, (show (0 : Int) < 2305843009213693951 by decide), _, rfl, Or.inl ⟨_, _, rfl, rfl, Or.inl (by decide), Or.inl ⟨_, _, rfl, rfl, Or.inl ⟨_, _, rfl, rfl, ?_⟩⟩⟩⟩
  exact ⟨Evl.sz_of (Nat.le_of_ble_eq_true rfl), fun t ht => hq t _ _ ht (x0 _ _) (by omega) (by omega)⟩
theorem g_l_folded (B : Tx K mg) : FnG P w K mg base 1 B.a_l_folded B.fd_l_folded ["_law_script", "_law_most"] (spCells K) := by
  refine FnG.of B.F_l_folded sc_l_folded (fun _ _ _ _ h => spCells_len h) (fun cdv Ar outer s H vs Q E hg hr h => ?_)
  have gd : (Ar.deeper (envOfC "_law_folded" (defScope s_l_folded) s.heap.objs.size B.a_l_folded cdv)).guards = some [] := (deeper_guards Ar _).trans hg
  have hu : (Ar.deeper (envOfC "_law_folded" (defScope s_l_folded) s.heap.objs.size B.a_l_folded cdv)).units + 64 < cLine := by have := hr.un; omega
  refine ⟨_, (pss_cons (ps_set (i := 2) sc_l_folded.nd rfl (by first | exact Or.inl rfl | exact Or.inr rfl) (kx_orT K (pe_callTy (kx_list K) rfl B.n_list (by decide +kernel) (pa_cons (pe_slice (kx_sl K) (pv 0) po_none (po_some (pv 1))) pa_nil)) (pe_one (pe_lst (pa_cons pe_int pa_nil)))))
    (pss_cons (ps_for (passes_of rfl) rfl (kp_enum K B.n_enumerate (pa_cons (pe_slice (kx_sl K) (pv 0) (po_some (pv 1)) (po_some pe_int)) pa_nil)) (kg_seq (n := 2) K rfl (pgs_cons (pg_name (i := 3) sc_l_folded.nd rfl (by first | exact Or.inl rfl | exact Or.inr rfl)) (pgs_cons (pg_name (i := 4) sc_l_folded.nd rfl (by first | exact Or.inl rfl | exact Or.inr rfl)) pgs_nil))) (pss_one (ps_asg (pe_op (kx_plus K) (pe_ix (kx_ix K) (pv 2) (pe_op op_mod (pv 3) (pv 1)) (fun _ _ => rfl)) (pe_op op_times (pv 4) (pe_op (kx_plus K) (pv 3) pe_int))) (pg_sub (pv 2) (pe_op op_mod (pv 3) (pv 1)) set_list))))
    (pss_one (ps_ret (pv 2))))), ?_⟩
  clear gd hu hr hg
  obtain ⟨a, ns, S, ex, rfl, hS, hz, hq⟩ := h
  refine raw_body (E := E) (ds := [.raw (.ref a), .int 3]) ex.1 ex.2 (Reps.cons Rep.raw (Reps.one Rep.int)) (P := fun d _ => ∃ cs : List Int, d = .lst (cs.map D.int) ∧ 0 < cs.length ∧ cs.length ≤ 3) ?_ (fun v d S' H' m mv e' r ⟨cs, h1, h2, h3⟩ => by subst h1; exact hq v S' H' cs mv e' r h2 h3)
  have l1 : ((ns.drop (HT.sIx ns.length 0 none)).take (HT.sIx ns.length ns.length (some 3) - HT.sIx ns.length 0 none)).length = min 3 ns.length := by
    show ((ns.drop 0).take (min 3 ns.length - 0)).length = _
    simp
  have l2 : ((ns.drop (HT.sIx ns.length 0 (some 3))).take (HT.sIx ns.length ns.length (some 63) - HT.sIx ns.length 0 (some 3))).length ≤ ns.length - 3 := by
    show ((ns.drop (min 3 ns.length)).take (min 63 ns.length - min 3 ns.length)).length ≤ _
    simp
    omega
  refine ds_cut (fun ρ' _ => ∃ ms : List Int, ρ' = [.val (.raw (.ref a)), .val (.int 3), .own (ms.map D.int), .un, .un] ∧ 0 < ms.length ∧ ms.length ≤ 3 ∧ (3 < ns.length → ms.length = 3)) ?_ ?_
  · refine ds_setOwn (df_orT (df_listOf (de_slRaw rfl rfl hS (po_none_d rfl) (po_var_d rfl) ⟨_, Or.inl rfl, fun h0 => ⟨_, rfl, ?_, by omega, fun h => by omega⟩, fun h0 => df_lst (da_cons (de_int (da_nil ⟨Nat.le_of_ble_eq_true rfl, [0], rfl, by decide, by decide, fun h => ?_⟩)))⟩)))
    · refine List.length_pos_iff.mpr fun z => h0 ?_
      rw [z]
      rfl
    · have := congrArg List.length h0
      rw [List.length_map, l1] at this
      simp only [List.length_nil] at this
      omega
  rintro ρ' m0 ⟨ms, rfl, k1, k2, k3⟩
  clear l1
  refine ds_seq (ds_for (di_enum (de_slRaw rfl rfl hS (po_var_d rfl) po_int_d ⟨_, rfl, fun i ρ' m => ∃ (us : List Int) (s3 s4 : DL.Slot), ρ' = [.val (.raw (.ref a)), .val (.int 3), .own (us.map D.int), s3, s4] ∧ us.length = ms.length, ⟨ms, _, _, rfl, rfl⟩, ?_, ?_⟩)))
  · rintro i d ρ' m hd ⟨us, s3, s4, rfl, hu⟩
    have hi := (List.getElem?_eq_some_iff.mp hd).1
    rw [enumD_len, List.length_map] at hi
    have h3 : us.length = 3 := by have := k3 (by omega); omega
    obtain ⟨c, hc⟩ : ∃ c : Int, (((ns.drop (HT.sIx ns.length 0 (some 3))).take (HT.sIx ns.length ns.length (some 63) - HT.sIx ns.length 0 (some 3))).map D.int)[i]? = some (.int c) := by
      rw [List.getElem?_map]
      exact ⟨_, by rw [List.getElem?_eq_getElem hi]; rfl⟩
    rw [enumD_get hc] at hd
    cases hd
    have i63 : i < 63 := by omega
    have k3 : (i % 3) < us.length := by omega
    have ek : ((i : Int) % 3) = ((i % 3 : Nat) : Int) := by omega
    have hg : (us.map D.int)[i % 3]? = some (.int us[i % 3]) := by rw [List.getElem?_map]; simp [k3]
    have cm : CMul c ((i : Int) + 2) := Or.inr ⟨by omega, by omega⟩
    refine dg_seq (Or.inr rfl) rfl (dgs_cons (dg_name (dgs_cons (dg_name (dgs_nil ?_)))))
    refine ds_put (i := 2) (by rfl) (de_op (de_ixOwn (by rfl) (de_op (de_var (by rfl) (de_var (by rfl) (dr_mod (by decide) ⟨i % 3, _, by rw [ek], hg, ?_⟩))))))
    refine de_op (de_var (by rfl) (de_op (de_var (by rfl) (de_int (dr_plusI (dr_timesI cm (dr_plusI ?_)))))))
    refine de_op (de_var (by rfl) (de_var (by rfl) (dr_mod (by decide) ⟨i % 3, by rw [ek], by rw [List.length_map]; exact k3, ?_⟩)))
    exact ⟨us.set (i % 3) (us[i % 3] + c * ((i : Int) + 2)), _, _, by rw [List.map_set]; rfl, by rw [List.length_set]; exact hu⟩
  · rintro ρ' m ⟨us, s3, s4, rfl, hu⟩
    exact ds_frz (i := 2) (by rfl) (ds_ret (de_var (by rfl) ⟨us, rfl, by omega, by omega⟩))
--@@split
theorem g_l_same (B : Tx K mg) {k:Nat} {kk : Nat} (hkk : 1 ≤ kk + 1) {ks : Nat} {Cs : DCon} (hks : ks ≤ kk) (G_l_same : FnG P w K mg base ks B.a_l_same B.fd_l_same ["_law_found", "_law_due"] (spOf K 2 Cs)) (hCs:(∃ e, k=e+1∧Cs=C_same e)∨k=0) : FnG P w K mg base (kk + 1) B.a_l_same B.fd_l_same ["_law_found", "_law_due"] (spOf K 2 (C_same k)) := by
  refine FnG.of B.F_l_same sc_l_same (fun _ _ _ _ h => spOf_len h) (fun cdv Ar outer s H vs Q E hg hr h => ?_)
  have gd : (Ar.deeper (envOfC "_law_same" (defScope s_l_same) s.heap.objs.size B.a_l_same cdv)).guards = some [] := (deeper_guards Ar _).trans hg
  have hu : (Ar.deeper (envOfC "_law_same" (defScope s_l_same) s.heap.objs.size B.a_l_same cdv)).units + 64 < cLine := by have := hr.un; omega
  have hr_l_same := hr.mono hks
  refine ⟨_, (pss_cons (ps_if (pt_val (pe_callB (kx_isiT K) rfl B.n_isinstance (by decide +kernel) (pa_cons (pv 1) (pa_cons (pe_tup (pa_cons (pe_bltn (v := .ty "list") rfl B.n_list (by first | decide +kernel | rfl) rfl) (pa_cons (pe_bltn (v := .ty "tuple") rfl B.n_tuple (by first | decide +kernel | rfl) rfl) pa_nil))) pa_nil)))) (pss_cons (ps_if (PW.pt (pw_or (pt_cmpR (kx_ne K hu) (pe_callB (kx_isi K) rfl B.n_isinstance (by decide +kernel) (pa_cons (pv 0) (pa_cons (pe_bltn (v := .ty "list") rfl B.n_list (by first | decide +kernel | rfl) rfl) pa_nil))) (pe_callB (kx_isi K) rfl B.n_isinstance (by decide +kernel) (pa_cons (pv 1) (pa_cons (pe_bltn (v := .ty "list") rfl B.n_list (by first | decide +kernel | rfl) rfl) pa_nil))) (nomark _)) (pw_or1 (pt_cmpR (kx_ne K hu) (pe_callB (kx_isi K) rfl B.n_isinstance (by decide +kernel) (pa_cons (pv 0) (pa_cons (pe_bltn (v := .ty "tuple") rfl B.n_tuple (by first | decide +kernel | rfl) rfl) pa_nil))) (pe_callB (kx_isi K) rfl B.n_isinstance (by decide +kernel) (pa_cons (pv 1) (pa_cons (pe_bltn (v := .ty "tuple") rfl B.n_tuple (by first | decide +kernel | rfl) rfl) pa_nil))) (nomark _))))) (pss_one (ps_ret pe_bl)) pss_nil)
    (pss_one (ps_ret (pe_and (pe_cmpR (kx_eq K hu) (pe_callB (kx_len K) rfl B.n_len PySem.boot_len (pa_cons (pv 0) pa_nil)) (pe_callB (kx_len K) rfl B.n_len PySem.boot_len (pa_cons (pv 1) pa_nil)) (nomark _)) (pe_one (pe_callB (kx_all K) rfl B.n_all (by decide +kernel) (pa_cons (pe_lc (own := [("_law_mine", 2), ("_law_its", 3)]) rfl sc_l_same.nd (kp_zip K B.n_zip (pa_cons (pv 0) (pa_cons (pv 1) pa_nil))) (blkOk_by (N := ["_law_found", "_law_due", "_law_mine", "_law_its"]) (sc := defScope s_l_same) (by decide +kernel)) (fun _ _ _ _ _ => (kg_seq (n := 2) K rfl (pgs_cons (pg_name (i := 2) sc_l_same.nd rfl (by first | exact Or.inl rfl | exact Or.inr rfl)) (pgs_cons (pg_name (i := 3) sc_l_same.nd rfl (by first | exact Or.inl rfl | exact Or.inr rfl)) pgs_nil)))) (fun _ _ _ _ _ => pts_nil) (fun _ _ _ _ _ => (pe_g G_l_same gd hr_l_same B.m_l_same B.k_l_same B.b_l_same passL (pa_cons (pv 2) (pa_cons (pv 3) pa_nil))))) pa_nil))))))) pss_nil)
    (pss_cons (ps_if (PW.pt (pw_or (pt_cmpR op_isN (pv 1) pe_non (nomark _)) (pw_or1 (pt_val (pe_callB (kx_isiT K) rfl B.n_isinstance (by decide +kernel) (pa_cons (pv 1) (pa_cons (pe_tup (pa_cons (pe_bltn (v := .ty "bool") rfl B.n_bool (by first | decide +kernel | rfl) rfl) (pa_cons (pe_bltn (v := .ty "str") rfl B.n_str (by first | decide +kernel | rfl) rfl) pa_nil))) pa_nil))))))) (pss_one (ps_ret (pe_and (pe_cmpR (kx_eq K hu) (pv 0) (pv 1) (nomark _)) (pe_and (pe_cmpR (kx_eq K hu) (pe_callB (kx_isi K) rfl B.n_isinstance (by decide +kernel) (pa_cons (pv 0) (pa_cons (pe_bltn (v := .ty "bool") rfl B.n_bool (by first | decide +kernel | rfl) rfl) pa_nil))) (pe_callB (kx_isi K) rfl B.n_isinstance (by decide +kernel) (pa_cons (pv 1) (pa_cons (pe_bltn (v := .ty "bool") rfl B.n_bool (by first | decide +kernel | rfl) rfl) pa_nil))) (nomark _)) (pe_one (pe_cmpR (kx_eq K hu) (pe_cmpR op_isN (pv 0) pe_non (nomark _)) (pe_cmpR op_isN (pv 1) pe_non (nomark _)) (nomark _))))))) pss_nil)
    (pss_one (ps_ret (pe_and (pe_callB (kx_isi K) rfl B.n_isinstance (by decide +kernel) (pa_cons (pv 0) (pa_cons (pe_bltn (v := .ty "int") rfl B.n_int (by first | decide +kernel | rfl) rfl) pa_nil))) (pe_and (pe_not (pe_callB (kx_isi K) rfl B.n_isinstance (by decide +kernel) (pa_cons (pv 0) (pa_cons (pe_bltn (v := .ty "bool") rfl B.n_bool (by first | decide +kernel | rfl) rfl) pa_nil)))) (pe_one (pe_cmpR (kx_eq K hu) (pv 0) (pv 1) (nomark _))))))))), body_of h ?_⟩
  clear h gd hu hr hg
  intro A ds n Pp eK eE hX hl hc
  subst eK eE
  obtain ⟨d, rfl, hd, hp⟩ := hc
  have key : scal d ∨ ∃ e xs, k = e + 1 ∧ Cs = C_same e ∧ (d = .lst xs ∨ d = .tup xs) ∧ xs.length ≤ 100000 ∧ ∀ (i : Nat) x, xs[i]? = some x → Dep e x := by
    rcases hCs with ⟨e, rfl, rfl⟩ | rfl
    · rcases hd with h | ⟨xs, hx, hz, hr⟩
      · exact Or.inl h
      · exact Or.inr ⟨e, xs, rfl, rfl, hx, hz, hr⟩
    · exact Or.inl hd
  rcases key with h | ⟨e, xs, rfl, rfl, hx, hz, hr⟩
  · rcases h with rfl | ⟨b, rfl⟩ | ⟨b, rfl⟩ | ⟨b, rfl⟩
    · walk_at "D"
      refine dr_eqSame rfl ⟨_, rfl, ?_⟩
      walk_at "D"
      exact hp
    · cases b <;> (walk_at "D" <;> exact hp)
    · walk_at "D"
      show Pp (D.bl (decide (b = b))) n
      rw [decide_eq_true rfl]
      exact hp
    · walk_at "D"
      exact hp
  · have fin : ∀ (d : D), (d = .lst xs ∨ d = .tup xs) → DE A (tLc (RZ.iZipA A.K (tCons (tVar 0) (tCons (tVar 1) tNil))) (gSeq A.K 2 (gCons (gName 2) (gCons (gName 3) gNil))) tYes (tCall (spOf A.K 2 (C_same e)) [] E0 (tCons (tVar 2) (tCons (tVar 3) tNil))) [2, 3]) (rho0 [d, d] 4) n (fun d m => ∃ bs : List Bool, d = .lst (bs.map D.bl) ∧ Pp (.bl (bs.all id)) m) := by
      intro d hd
      refine DE.of_fresh (df_map xs (fun _ => .bl true) (gw_seq (gws_cons gmono_name (gw_name (by decide)) (gws_cons gmono_name (gw_name (by decide)) gws_nil))) hz (di_zip (de_var rfl (de_var rfl ⟨xs, xs, ?_, by simp, fun i x y h1 h2 => ?_, (xs.map fun _ => true), ?_, ?_⟩))))
      · rcases hd with rfl | rfl
        · exact Or.inl ⟨rfl, rfl⟩
        · exact Or.inr ⟨rfl, rfl⟩
      · rw [List.getElem?_map, List.getElem?_zip_eq_some.mpr (⟨h2, h2⟩ : xs[i]? = some (y, y).1 ∧ xs[i]? = some (y, y).2)] at h1
        cases h1
        refine dg_seq (Or.inr rfl) rfl ?_
        walk_at "D"
        exact ⟨rfl, y, rfl, hr i y h2, rfl, rfl⟩
      · rw [List.map_map]
        rfl
      · have e : (xs.map fun _ => true).all id = true := by simp
        rw [e]
        exact hp
    rcases hx with rfl | rfl
    · walk_at "D"
      exact fin _ (Or.inl rfl)
    · walk_at "D"
      exact fin _ (Or.inr rfl)
--@@split
theorem sgn_all {z : Str} : (z.cps.toList.map fun c => decide (c ∈ sDig.cps.toList)).all id = digB z := by
  rw [List.all_map]
  rfl
theorem str_len {z : Str} : z.cps.toList.length = z.length := Array.length_toList
theorem numOk_no1 {z : Str} (h : ¬ (1 ≤ z.length ∧ z.length ≤ 50)) : numOk z = false := by
  cases e : numOk z with
  | false => rfl
  | true => exact absurd (numOk_len e) h
theorem numOk_no2 {z : Str} (h : digB z = false) : numOk z = false := by
  unfold numOk
  rw [h, Bool.false_and, Bool.and_false]
theorem numOk_yes {z : Str} {c : Nat} (h : 1 ≤ z.length ∧ z.length ≤ 50) (hd : digB z = true) (h0 : z.cps.toList[0]? = some c) : numOk z = (decide (z = sZero) || !decide (sgn c = sZero)) := by
  unfold numOk
  rw [decide_eq_true h.1, decide_eq_true h.2, hd, List.headD_eq_head?_getD, List.head?_eq_getElem?, h0]
  rfl
theorem g_is_number (B : Tx K mg) : FnG P w K mg base 1 B.a_is_number B.fd_is_number ["word"] (spOf K 1 C_is_number) := by
  refine FnG.of B.F_is_number sc_is_number (fun _ _ _ _ h => spOf_len h) (fun cdv Ar outer s H vs Q E hg hr h => ?_)
  have gd : (Ar.deeper (envOfC "is_number" (defScope s_is_number) s.heap.objs.size B.a_is_number cdv)).guards = some [] := (deeper_guards Ar _).trans hg
  have hu : (Ar.deeper (envOfC "is_number" (defScope s_is_number) s.heap.objs.size B.a_is_number cdv)).units + 64 < cLine := by have := hr.un; omega
  refine ⟨_, (pss_cons (ps_if (PW.pt (pw_or (pt_not (pt_chain op_le op_le pe_int (pe_callB kx_lenStr rfl B.n_len PySem.boot_len (pa_cons (pv 0) pa_nil)) (pe_globC B.q_MOST_DIGITS))) (pw_or1 (pt_not (pt_val (pe_callB (kx_all K) rfl B.n_all (by decide +kernel) (pa_cons (pe_lc (own := [("sign", 1)]) rfl sc_is_number.nd (pi_str (pv 0)) (blkOk_by (N := ["word", "sign"]) (sc := defScope s_is_number) (by decide +kernel)) (fun _ _ _ _ _ => (pg_name (i := 1) sc_is_number.nd rfl (by first | exact Or.inl rfl | exact Or.inr rfl))) (fun _ _ _ _ _ => pts_nil) (fun _ _ _ _ _ => (pe_cmpR op_inSign (pv 1) (pe_globS B.q_DIGITS) rfl))) pa_nil))))))) (pss_one (ps_ret pe_bl)) pss_nil)
    (pss_one (ps_ret (pe_or (pe_cmpR (kx_eq K hu) (pv 0) pe_str (nomark _)) (pe_one (pe_cmpR (kx_ne K hu) (pe_ix (kx_ix K) (pv 0) pe_int (fun _ _ => rfl)) pe_str (nomark _))))))), body_of h ?_⟩
  clear h gd hu hr hg
  intro A ds n Pp eK eE hX hl hc
  subst eK eE
  obtain ⟨z, rfl, hz, hp⟩ := hc
  refine ds_seq (ds_if (dt_or (dt_not (dt_test (de_chain (de_int (de_lenStr (de_var rfl ⟨z, rfl, by omega, dr_le ⟨_, rfl, ?_⟩⟩))))))))
  by_cases c1 : 1 ≤ z.length
  · refine if2t (decide_eq_true (by omega)) (de_int (dr_le ⟨_, rfl, ?_⟩))
    by_cases c2 : z.length ≤ 50
    · refine if2f (by rw [decide_eq_true (by omega)]; rfl) ?_
      obtain ⟨c0, h0⟩ : ∃ c, z.cps.toList[0]? = some c := ⟨z.cps.toList[0]'(by rw [str_len]; omega), by simp [str_len, c1]⟩
      refine dt_not (dt_test (de_all (DE.of_fresh (df_map z.cps.toList (fun c => D.bl (decide (c ∈ sDig.cps.toList))) (gw_name (by decide)) (by rw [str_len]; omega) (di_str (de_var (by rfl) ⟨z, rfl, by rw [List.length_map], fun i d c h1 h2 => ?_, z.cps.toList.map (fun c => decide (c ∈ sDig.cps.toList)), by rw [List.map_map]; rfl, ⟨_, rfl, ?_⟩⟩))))))
      · rw [List.getElem?_map, h2] at h1
        cases h1
        exact dg_name (de_op (de_var (by rfl) (de_str (dr_inSign ⟨rfl, rfl⟩))))
      rw [sgn_all]
      cases ed : digB z with
      | false =>
        refine if2t rfl (ds_ret (de_bl ?_))
        rw [numOk_no2 ed] at hp
        exact hp
      | true =>
        refine if2f rfl (ds_next (ds_ret (de_orV (de_op (de_var (by rfl) (de_str (dr_eqAS ⟨_, rfl, ?_⟩)))))))
        rw [numOk_yes ⟨c1, c2⟩ ed h0] at hp
        refine if2 (fun c => ?_) (fun c => ?_)
        · rw [show decide (z = sZero) = true from c] at hp
          exact hp
        · rw [show decide (z = sZero) = false from c] at hp
          exact de_op (de_op (de_var (by rfl) (de_int (dr_ixStr (i := 0) (by omega) h0 (de_str (dr_neAS hp))))))
    · refine if2t (by rw [decide_eq_false (by omega)]; rfl) (ds_ret (de_bl ?_))
      rw [numOk_no1 fun h => c2 h.2] at hp
      exact hp
  · refine if2f (decide_eq_false (by omega)) ⟨_, rfl, if2t rfl (ds_ret (de_bl ?_))⟩
    rw [numOk_no1 fun h => c1 h.1] at hp
    exact hp
theorem g__words_of (B : Tx K mg) : FnG P w K mg base 1 B.a__words_of B.fd__words_of ["text"] (spOf K 1 C__words_of) := by
  refine FnG.of B.F__words_of sc__words_of (fun _ _ _ _ h => spOf_len h) (fun cdv Ar outer s H vs Q E hg hr h => ?_)
  have gd : (Ar.deeper (envOfC "_words_of" (defScope s__words_of) s.heap.objs.size B.a__words_of cdv)).guards = some [] := (deeper_guards Ar _).trans hg
  have hu : (Ar.deeper (envOfC "_words_of" (defScope s__words_of) s.heap.objs.size B.a__words_of cdv)).units + 64 < cLine := by have := hr.un; omega
  refine ⟨_, (pss_cons (ps_if (pt_cmpR (kx_eq K hu) (pv 0) pe_str (nomark _)) (pss_one (ps_ret (pe_lst pa_nil))) pss_nil)
    (pss_one (ps_ret (pe_m1 PySem.F.slot_str_split PySem.F.type_str_split kx_split (pv 0) pe_str)))), body_of h ?_⟩
  clear h gd hu hr hg
  intro A ds n Pp eK eE hX hl hc
  subst eK eE
  obtain ⟨x, rfl, hz, hp⟩ := hc
  refine ds_seq (ds_if (dt_test (de_op (de_var (by rfl) (de_str (dr_eqAS ⟨_, rfl, ?_⟩))))))
  unfold wordsL at hp
  refine if2 (fun c => ?_) (fun c => ?_)
  · rw [if_pos (of_decide_eq_true c)] at hp
    exact ds_ret (DE.of_fresh (df_lst (da_nil ⟨Nat.zero_le _, hp⟩)))
  · rw [if_neg (of_decide_eq_false c)] at hp
    exact ds_next (ds_ret (DE.of_fresh (df_split (de_var (by rfl) ⟨x, rfl, by omega, de_str ⟨sGap, rfl, by decide +kernel, hp⟩⟩))))
--@@split
theorem fm_getD {α : Type} {f : Str → Option α} (d : α) : ∀ {ws : List Str}, (∀ w ∈ ws, (f w).isSome = true) → ws.map (fun w => (f w).getD d) = ws.filterMap f
  | [], _ => rfl
  | w :: ws, h => by
    have h1 := h w List.mem_cons_self
    have h2 := fm_getD d (ws := ws) fun v hv => h v (List.mem_cons_of_mem _ hv)
    rw [List.map_cons, List.filterMap_cons, h2]
    cases e : f w with
    | none => rw [e] at h1; cases h1
    | some a => rfl
theorem wish_isSome (w : Str) : (wishOf w).isSome = (decide (w = sAsk) || numOk w) := by
  unfold wishOf
  by_cases c : w = sAsk
  · rw [if_pos c, decide_eq_true c]; rfl
  · rw [if_neg c, decide_eq_false c, Bool.false_or]
    cases e : numOk w with
    | true => rfl
    | false => rfl
theorem g__is_day (B : Tx K mg) : FnG P w K mg base 1 B.a__is_day B.fd__is_day ["value"] (spOf K 1 C__is_day) := by
  refine FnG.of B.F__is_day sc__is_day (fun _ _ _ _ h => spOf_len h) (fun cdv Ar outer s H vs Q E hg hr h => ?_)
  have gd : (Ar.deeper (envOfC "_is_day" (defScope s__is_day) s.heap.objs.size B.a__is_day cdv)).guards = some [] := (deeper_guards Ar _).trans hg
  have hu : (Ar.deeper (envOfC "_is_day" (defScope s__is_day) s.heap.objs.size B.a__is_day cdv)).units + 64 < cLine := by have := hr.un; omega
  refine ⟨_, (pss_one (ps_ret (pe_and (pe_callB (kx_isi K) rfl B.n_isinstance (by decide +kernel) (pa_cons (pv 0) (pa_cons (pe_bltn (v := .ty "int") rfl B.n_int (by first | decide +kernel | rfl) rfl) pa_nil))) (pe_and (pe_not (pe_callB (kx_isi K) rfl B.n_isinstance (by decide +kernel) (pa_cons (pv 0) (pa_cons (pe_bltn (v := .ty "bool") rfl B.n_bool (by first | decide +kernel | rfl) rfl) pa_nil)))) (pe_one (pe_cmpR op_ge (pv 0) pe_int (nomark _))))))), body_of h ?_⟩
  clear h gd hu hr hg
  intro A ds n Pp eK eE hX hl hc
  subst eK eE
  obtain ⟨i, rfl, hi, hp⟩ := hc
  refine ds_ret (de_andV (de_isi rfl (de_var rfl ⟨rfl, _, rfl, if2t rfl (de_andV (de_notV (de_isi rfl (de_var rfl ⟨rfl, _, rfl, _, rfl, if2t rfl (de_op (de_var rfl (de_int (dr_ge ?_))))⟩))))⟩)))
  rw [decide_eq_true hi]
  exact hp
theorem g__is_stay (B : Tx K mg) (G__is_day : FnG P w K mg base 1 B.a__is_day B.fd__is_day ["value"] (spOf K 1 C__is_day)) : FnG P w K mg base 2 B.a__is_stay B.fd__is_stay ["value"] (spOf K 1 C__is_stay) := by
  refine FnG.of B.F__is_stay sc__is_stay (fun _ _ _ _ h => spOf_len h) (fun cdv Ar outer s H vs Q E hg hr h => ?_)
  have gd : (Ar.deeper (envOfC "_is_stay" (defScope s__is_stay) s.heap.objs.size B.a__is_stay cdv)).guards = some [] := (deeper_guards Ar _).trans hg
  have hu : (Ar.deeper (envOfC "_is_stay" (defScope s__is_stay) s.heap.objs.size B.a__is_stay cdv)).units + 64 < cLine := by have := hr.un; omega
  have hr__is_day := hr.mono (show 1 ≤ _ by decide)
  refine ⟨_, (pss_cons (ps_if (PW.pt (pw_or (pt_not (pt_val (pe_callB (kx_isi K) rfl B.n_isinstance (by decide +kernel) (pa_cons (pv 0) (pa_cons (pe_bltn (v := .ty "tuple") rfl B.n_tuple (by first | decide +kernel | rfl) rfl) pa_nil))))) (pw_or1 (pt_cmpR (kx_ne K hu) (pe_callB (kx_len K) rfl B.n_len PySem.boot_len (pa_cons (pv 0) pa_nil)) pe_int (nomark _))))) (pss_one (ps_ret pe_bl)) pss_nil)
    (pss_one (ps_ret (pe_and (pe_g G__is_day gd hr__is_day B.m__is_day B.k__is_day B.b__is_day passL (pa_cons (pe_ix (kx_ix K) (pv 0) pe_int (fun _ _ => rfl)) pa_nil)) (pe_and (pe_g G__is_day gd hr__is_day B.m__is_day B.k__is_day B.b__is_day passL (pa_cons (pe_ix (kx_ix K) (pv 0) pe_int (fun _ _ => rfl)) pa_nil)) (pe_one (pe_cmpR op_le (pe_ix (kx_ix K) (pv 0) pe_int (fun _ _ => rfl)) (pe_ix (kx_ix K) (pv 0) pe_int (fun _ _ => rfl)) (nomark _)))))))), body_of h ?_⟩
  clear h gd hu hr hg
  intro A ds n Pp eK eE hX hl hc
  subst eK eE
  obtain ⟨p, rfl, h0, h1, hp⟩ := hc
  refine ds_seq (ds_if (dt_or (dt_not (dt_test (de_isi rfl (de_var rfl ⟨rfl, _, rfl, if2f rfl (dt_test (de_op (de_len (de_var rfl ⟨_, Or.inr rfl, de_int (dr_neAI ⟨_, rfl, if2f rfl (ds_next ?_)⟩)⟩))))⟩))))))
  refine ds_ret (de_andV (de_call0 (da_cons (de_op (de_var rfl (de_int (dr_ix (x := .int p.1) (Or.inr rfl) (by decide) rfl (da_nil ⟨rfl, _, rfl, h0, _, rfl, if2t rfl ?_⟩))))))))
  refine de_andV (de_call0 (da_cons (de_op (de_var rfl (de_int (dr_ix (x := .int p.2) (Or.inr rfl) (by decide) rfl (da_nil ⟨rfl, _, rfl, h1, _, rfl, if2t rfl ?_⟩)))))))
  exact de_op (de_op (de_var rfl (de_int (dr_ix (x := .int p.1) (Or.inr rfl) (by decide) rfl (de_op (de_var rfl (de_int (dr_ix (x := .int p.2) (Or.inr rfl) (by decide) rfl (dr_le hp)))))))))
theorem g_is_stays (B : Tx K mg) (G__is_stay : FnG P w K mg base 2 B.a__is_stay B.fd__is_stay ["value"] (spOf K 1 C__is_stay)) : FnG P w K mg base 3 B.a_is_stays B.fd_is_stays ["value"] (spOf K 1 C_is_stays) := by
  refine FnG.of B.F_is_stays sc_is_stays (fun _ _ _ _ h => spOf_len h) (fun cdv Ar outer s H vs Q E hg hr h => ?_)
  have gd : (Ar.deeper (envOfC "is_stays" (defScope s_is_stays) s.heap.objs.size B.a_is_stays cdv)).guards = some [] := (deeper_guards Ar _).trans hg
  have hu : (Ar.deeper (envOfC "is_stays" (defScope s_is_stays) s.heap.objs.size B.a_is_stays cdv)).units + 64 < cLine := by have := hr.un; omega
  have hr__is_stay := hr.mono (show 2 ≤ _ by decide)
  refine ⟨_, (pss_cons (ps_if (PW.pt (pw_or (pt_not (pt_val (pe_callB (kx_isi K) rfl B.n_isinstance (by decide +kernel) (pa_cons (pv 0) (pa_cons (pe_bltn (v := .ty "tuple") rfl B.n_tuple (by first | decide +kernel | rfl) rfl) pa_nil))))) (pw_or1 (pt_not (pt_val (pe_callB (kx_all K) rfl B.n_all (by decide +kernel) (pa_cons (pe_lc (own := [("item", 1)]) rfl sc_is_stays.nd (kp_seq K (pv 0)) (blkOk_by (N := ["value", "item"]) (sc := defScope s_is_stays) (by decide +kernel)) (fun _ _ _ _ _ => (pg_name (i := 1) sc_is_stays.nd rfl (by first | exact Or.inl rfl | exact Or.inr rfl))) (fun _ _ _ _ _ => pts_nil) (fun _ _ _ _ _ => (pe_g G__is_stay gd hr__is_stay B.m__is_stay B.k__is_stay B.b__is_stay passL (pa_cons (pv 1) pa_nil)))) pa_nil))))))) (pss_one (ps_ret pe_bl)) pss_nil)
    (pss_one (ps_ret (pe_cmpR (kx_eq K hu) (pe_callB (kx_lenSet w) rfl B.n_len PySem.boot_len (pa_cons (pe_scG (own := [("item", 1)]) (o0 := fun a => SetO w a (fun _ => false) 0) (Ad := AdI w) (fun h G => newI_ok h G) adI_ok rfl sc_is_stays.nd (kp_seq K (pv 0)) (blkOk_by (N := ["value", "item"]) (sc := defScope s_is_stays) (by decide +kernel)) (fun _ _ _ _ _ => (pg_name (i := 1) sc_is_stays.nd rfl (by first | exact Or.inl rfl | exact Or.inr rfl))) (fun _ _ _ _ _ => pts_nil) (fun _ _ _ _ _ => (pe_ix (kx_ix K) (pv 1) pe_int (fun _ _ => rfl)))) pa_nil)) (pe_callB (kx_len K) rfl B.n_len PySem.boot_len (pa_cons (pv 0) pa_nil)) (nomark _))))), body_of h ?_⟩
  clear h gd hu hr hg
  intro A ds n Pp eK eE hX hl hc
  subst eK eE
  obtain ⟨l, rfl, hl, hd, hp⟩ := hc
  refine ds_seq (ds_if (dt_or (dt_not (dt_test (de_isi rfl (de_var rfl ⟨rfl, _, rfl, if2f rfl ?_⟩))))))
  refine dt_not (dt_test (de_all (DE.of_fresh (df_map l (fun p => D.bl (decide (p.1 ≤ p.2))) (gw_name (by decide)) (by omega) (di_seq (de_var (by rfl) ⟨_, Or.inr rfl, by rw [List.length_map], fun i z p h1 h2 => ?_, l.map fun p => decide (p.1 ≤ p.2), by rw [List.map_map]; rfl, ⟨_, rfl, ?_⟩⟩))))))
  · rw [List.getElem?_map, h2] at h1
    cases h1
    have := hd p (List.mem_of_getElem? h2)
    exact dg_name (de_call0 (da_cons (de_var (by rfl) (da_nil ⟨rfl, p, rfl, this.1, this.2, rfl, rfl⟩))))
  rw [show (l.map fun p => decide (p.1 ≤ p.2)).all id = l.all fun p => decide (p.1 ≤ p.2) by rw [List.all_map]; rfl]
  unfold stOk at hp
  cases ea : l.all fun p => decide (p.1 ≤ p.2) with
  | false =>
    rw [ea] at hp
    exact if2t rfl (ds_ret (de_bl hp))
  | true =>
  rw [ea, Bool.true_and] at hp
  refine if2f rfl (ds_next ?_)
  refine ds_ret (de_op (de_lenSc (gw_name (by decide)) (di_seq (de_var (by rfl) ⟨_, Or.inr rfl, l.map Prod.snd, by rw [List.length_map, List.length_map], by rw [List.length_map]; omega, fun i z k h1 h2 => ?_, fun c hc1 hc2 => ?_⟩))))
  · rw [List.getElem?_map] at h1 h2
    cases hp' : l[i]? with
    | none => rw [hp'] at h1; cases h1
    | some p =>
      rw [hp'] at h1 h2
      cases h1
      cases h2
      exact dg_name (dt_yes ⟨rfl, de_op (de_var (by rfl) (de_int (dr_ix (x := .int p.2) (Or.inr rfl) (by decide) rfl ⟨rfl, rfl⟩)))⟩)
  · refine de_len (de_var (by rfl) ⟨_, Or.inr rfl, dr_eqAI ?_⟩)
    rw [List.length_map] at hc1 hc2 ⊢
    have : decide ((c : Int) = (l.length : Int)) = decide (l.map Prod.snd).Nodup := by
      rw [decide_eq_decide, ← hc2]
      omega
    rw [this]
    exact hp
theorem spl2 {s w : Str} (hi : (pairOf s w).isSome = true) : ∃ a b, Txt.split w s = [a, b] ∧ numOk a = true ∧ numOk b = true := by
  unfold pairOf at hi
  split at hi
  · rename_i a b h
    split at hi
    · rename_i hc
      rw [Bool.and_eq_true] at hc
      exact ⟨a, b, h, hc.1, hc.2⟩
    · cases hi
  · cases hi
theorem g__pairs_of (B : Tx K mg) (G__words_of : FnG P w K mg base 1 B.a__words_of B.fd__words_of ["text"] (spOf K 1 C__words_of)) (G_is_number : FnG P w K mg base 1 B.a_is_number B.fd_is_number ["word"] (spOf K 1 C_is_number)) : FnG P w K mg base 2 B.a__pairs_of B.fd__pairs_of ["text", "sign"] (spOfF K 2 C__pairs_of) := by
  refine FnG.of B.F__pairs_of sc__pairs_of (fun _ _ _ _ h => spOfF_len h) (fun cdv Ar outer s H vs Q E hg hr h => ?_)
  have gd : (Ar.deeper (envOfC "_pairs_of" (defScope s__pairs_of) s.heap.objs.size B.a__pairs_of cdv)).guards = some [] := (deeper_guards Ar _).trans hg
  have hu : (Ar.deeper (envOfC "_pairs_of" (defScope s__pairs_of) s.heap.objs.size B.a__pairs_of cdv)).units + 64 < cLine := by have := hr.un; omega
  have hr__words_of := hr.mono (show 1 ≤ _ by decide)
  have hr_is_number := hr.mono (show 1 ≤ _ by decide)
  refine ⟨_, (pss_cons (by first | exact ps_setLc (i := 2) (own := [("word", 4)]) rfl sc__pairs_of.nd rfl rfl (sw_true rfl rfl rfl (by decide +kernel)) (kp_seq K (pe_g G__words_of gd hr__words_of B.m__words_of B.k__words_of B.b__words_of passL (pa_cons (pv 0) pa_nil))) (blkOk_by (N := ["text", "sign", "pairs", "pair", "word", "first", "second"]) (sc := defScope s__pairs_of) (by decide +kernel)) (fun _ _ _ _ _ => (pg_name (i := 4) sc__pairs_of.nd rfl (by first | exact Or.inl rfl | exact Or.inr rfl))) (fun _ _ _ _ _ => pts_nil) (fun _ _ _ _ _ => (pe_m1 PySem.F.slot_str_split PySem.F.type_str_split kx_split (pv 4) (pv 1))) | exact ps_set (i := 2) sc__pairs_of.nd rfl (by first | exact Or.inl rfl | exact Or.inr rfl) (pe_lc (own := [("word", 4)]) rfl sc__pairs_of.nd (kp_seq K (pe_g G__words_of gd hr__words_of B.m__words_of B.k__words_of B.b__words_of passL (pa_cons (pv 0) pa_nil))) (blkOk_by (N := ["text", "sign", "pairs", "pair", "word", "first", "second"]) (sc := defScope s__pairs_of) (by decide +kernel)) (fun _ _ _ _ _ => (pg_name (i := 4) sc__pairs_of.nd rfl (by first | exact Or.inl rfl | exact Or.inr rfl))) (fun _ _ _ _ _ => pts_nil) (fun _ _ _ _ _ => (pe_m1 PySem.F.slot_str_split PySem.F.type_str_split kx_split (pv 4) (pv 1)))))
    (pss_cons (ps_for (passes_of rfl) rfl (kp_seq K (pv 2)) (pg_name (i := 3) sc__pairs_of.nd rfl (by first | exact Or.inl rfl | exact Or.inr rfl)) (pss_one (ps_if (PW.pt (pw_or (pt_cmpR (kx_ne K hu) (pe_callB (kx_len K) rfl B.n_len PySem.boot_len (pa_cons (pv 3) pa_nil)) pe_int (nomark _)) (pw_or (pt_not (pt_val (pe_g G_is_number gd hr_is_number B.m_is_number B.k_is_number B.b_is_number passL (pa_cons (pe_ix (kx_ix K) (pv 3) pe_int (fun _ _ => rfl)) pa_nil)))) (pw_or1 (pt_not (pt_val (pe_g G_is_number gd hr_is_number B.m_is_number B.k_is_number B.b_is_number passL (pa_cons (pe_ix (kx_ix K) (pv 3) pe_int (fun _ _ => rfl)) pa_nil)))))))) (pss_one ps_never) pss_nil)))
    (pss_one (ps_ret (pe_lc (own := [("first", 5), ("second", 6)]) rfl sc__pairs_of.nd (kp_seq K (pv 2)) (blkOk_by (N := ["text", "sign", "pairs", "pair", "word", "first", "second"]) (sc := defScope s__pairs_of) (by decide +kernel)) (fun _ _ _ _ _ => (kg_seq (n := 2) K rfl (pgs_cons (pg_name (i := 5) sc__pairs_of.nd rfl (by first | exact Or.inl rfl | exact Or.inr rfl)) (pgs_cons (pg_name (i := 6) sc__pairs_of.nd rfl (by first | exact Or.inl rfl | exact Or.inr rfl)) pgs_nil)))) (fun _ _ _ _ _ => pts_nil) (fun _ _ _ _ _ => (pe_tup (pa_cons (pe_callTy kx_intStr rfl B.n_int (by decide +kernel) (pa_cons (pv 5) pa_nil)) (pa_cons (pe_callTy kx_intStr rfl B.n_int (by decide +kernel) (pa_cons (pv 6) pa_nil)) pa_nil))))))))), bodyF_of h ?_⟩
  clear h gd hu hr hg
  intro A ds n Pp eK eE hX hl hc σ er D hq
  subst eK eE
  obtain ⟨x, s, l, rfl, hs, hx, hr2, hp⟩ := hc
  obtain ⟨wl, wb⟩ := words_bounds x
  obtain ⟨s1, s2, s3⟩ := sgn_ok hs
  have hall := (allOf_inv hr2).1
  refine seqR (N := fun ρ' m => ρ' = [.val (.str x), .val (.str s), .val (.lst ((wordsL x).map fun w => DL.D.lst ((Txt.split w s).map DL.D.str))), .un, .un, .un, .un] ∧ m = n) (ds_set (DE.of_fresh (df_map (wordsL x) (fun w => DL.D.lst ((Txt.split w s).map DL.D.str)) (gw_name (by decide)) (by omega) (di_seq (de_call0 (da_cons (de_var (by rfl) (da_nil ⟨rfl, x, rfl, hx, _, Or.inl rfl, by rw [List.length_map], fun i d w h1 h2 => ?_, rfl, rfl⟩)))))))) er ?_
  · rw [List.getElem?_map, h2] at h1
    cases h1
    have := wb w (List.mem_of_getElem? h2)
    exact dg_name (DE.of_fresh (df_split (de_var (by rfl) ⟨w, rfl, by omega, de_var (by rfl) ⟨s, rfl, by omega, rfl, rfl⟩⟩)))
  rintro S1 H1 σ1 n1 ρ1 er1 ⟨rfl, rfl⟩
  refine seqR (N := fun ρ' m => ∃ s3 : DL.Slot, ρ' = [.val (.str x), .val (.str s), .val (.lst ((wordsL x).map fun w => DL.D.lst ((Txt.split w s).map DL.D.str))), s3, .un, .un, .un] ∧ m = n1) (ds_for (di_seq (de_var (by rfl) ⟨_, Or.inl rfl, fun i ρ' m => ∃ s3 : DL.Slot, ρ' = [.val (.str x), .val (.str s), .val (.lst ((wordsL x).map fun w => DL.D.lst ((Txt.split w s).map DL.D.str))), s3, .un, .un, .un] ∧ m = n1, ⟨_, rfl, rfl⟩, ?_, ?_⟩))) er1 ?_
  · rintro i d ρ' m hd ⟨s3', rfl, rfl⟩
    rw [List.getElem?_map] at hd
    cases hw : (wordsL x)[i]? with
    | none => rw [hw] at hd; cases hd
    | some w =>
    rw [hw] at hd
    cases hd
    have hm := List.mem_of_getElem? hw
    have wl := wb w hm
    have sb := split_bounds w s1 s2
    obtain ⟨a, b, e, oa, ob⟩ : ∃ a b, Txt.split w s = [a, b] ∧ numOk a = true ∧ numOk b = true := spl2 (hall w hm)
    have la := sb.2 a (by rw [e]; exact List.mem_cons_self)
    have lb := sb.2 b (by rw [e]; exact List.mem_cons_of_mem _ List.mem_cons_self)
    refine dg_name (ds_if (dt_or (dt_test (de_op (de_len (de_var (by rfl) ⟨_, Or.inl rfl, de_int (dr_neAI ⟨_, rfl, ?_⟩)⟩))))))
    refine if2f (by rw [e]; rfl) ?_
    refine dt_or (dt_not (dt_test (de_call0 (da_cons (de_op (de_var (by rfl) (de_int (dr_ix (x := .str a) (Or.inl rfl) (by decide) (by rw [e]; rfl) (da_nil ⟨rfl, a, rfl, by omega, _, rfl, ?_⟩)))))))))
    rw [oa]
    refine if2f rfl ?_
    refine dt_not (dt_test (de_call0 (da_cons (de_op (de_var (by rfl) (de_int (dr_ix (x := .str b) (Or.inl rfl) (by decide) (by rw [e]; rfl) (da_nil ⟨rfl, b, rfl, by omega, _, rfl, ?_⟩))))))))
    rw [ob]
    exact if2f rfl (ds_next ⟨_, rfl, rfl⟩)
  · rintro ρ' m ⟨s3', rfl, rfl⟩
    exact ⟨_, rfl, rfl⟩
  rintro S2 H2 σ2 n2 ρ2 er2 ⟨s3', rfl, rfl⟩
  have hp' : Pp (.lst ((wordsL x).map fun w => pr ((pairOf s w).getD (0, 0)))) n2 := by
    rw [show ((wordsL x).map fun w => pr ((pairOf s w).getD (0, 0))) = ((wordsL x).map fun w => (pairOf s w).getD (0, 0)).map pr by rw [List.map_map]; rfl, fm_getD (0, 0) hall, ← (allOf_inv hr2).2]
    exact hp
  refine retF ?_ er2 hq
  refine df_map (wordsL x) (fun w => pr ((pairOf s w).getD (0, 0))) (gw_seq (gws_cons gmono_name (gw_name (by decide)) (gws_cons gmono_name (gw_name (by decide)) gws_nil))) (by omega) (di_seq (de_var (by rfl) ⟨_, Or.inl rfl, by rw [List.length_map], fun i d w h1 h2 => ?_, hp'⟩))
  rw [List.getElem?_map, h2] at h1
  cases h1
  have hm := List.mem_of_getElem? h2
  obtain ⟨a, b, e, oa, ob⟩ : ∃ a b, Txt.split w s = [a, b] ∧ numOk a = true ∧ numOk b = true := spl2 (hall w hm)
  have ea : pairOf s w = some (numV a, numV b) := by
    unfold pairOf
    rw [e]
    exact if_pos (by rw [oa, ob]; rfl)
  have na := numOk_len oa
  have nb := numOk_len ob
  show DG A _ (DL.D.lst ((Txt.split w s).map DL.D.str)) _ _ _
  rw [e, ea]
  refine dg_seq (Or.inl rfl) rfl (dgs_cons (dg_name (dgs_cons (dg_name (dgs_nil ?_)))))
  exact de_tup (da_cons (de_intStr (de_var (by rfl) ⟨a, numV a, rfl, (numOk_int oa).1, by omega, da_cons (de_intStr (de_var (by rfl) ⟨b, numV b, rfl, (numOk_int ob).1, by omega, da_nil ⟨Nat.le_of_ble_eq_true rfl, rfl, rfl⟩⟩))⟩)))
theorem g_stays_in (B : Tx K mg) (G__pairs_of : FnG P w K mg base 2 B.a__pairs_of B.fd__pairs_of ["text", "sign"] (spOfF K 2 C__pairs_of)) (G_is_stays : FnG P w K mg base 3 B.a_is_stays B.fd_is_stays ["value"] (spOf K 1 C_is_stays)) : FnG P w K mg base 4 B.a_stays_in B.fd_stays_in ["text"] (spOf K 1 C_stays_in) := by
  refine FnG.of B.F_stays_in sc_stays_in (fun _ _ _ _ h => spOf_len h) (fun cdv Ar outer s H vs Q E hg hr h => ?_)
  have gd : (Ar.deeper (envOfC "stays_in" (defScope s_stays_in) s.heap.objs.size B.a_stays_in cdv)).guards = some [] := (deeper_guards Ar _).trans hg
  have hu : (Ar.deeper (envOfC "stays_in" (defScope s_stays_in) s.heap.objs.size B.a_stays_in cdv)).units + 64 < cLine := by have := hr.un; omega
  have hr__pairs_of := hr.mono (show 2 ≤ _ by decide)
  have hr_is_stays := hr.mono (show 3 ≤ _ by decide)
  refine ⟨_, (pss_cons (ps_set (i := 1) sc_stays_in.nd rfl (by first | exact Or.inl rfl | exact Or.inr rfl) (pe_callTy (kx_tuple K) rfl B.n_tuple (by decide +kernel) (pa_cons (pe_g G__pairs_of gd hr__pairs_of B.m__pairs_of B.k__pairs_of B.b__pairs_of passL (pa_cons (pv 0) (pa_cons pe_str pa_nil))) pa_nil)))
    (pss_cons (ps_if (pt_not (pt_val (pe_g G_is_stays gd hr_is_stays B.m_is_stays B.k_is_stays B.b_is_stays passL (pa_cons (pv 1) pa_nil)))) (pss_one ps_never) pss_nil)
    (pss_one (ps_ret (pv 1))))), body_of h ?_⟩
  clear h gd hu hr hg
  intro A ds n Pp eK eE hX hl hc
  subst eK eE
  obtain ⟨x, l, rfl, hx, e, hl, hp⟩ := hc
  obtain ⟨l0, e2, es⟩ : ∃ l0, readP sDash x = some l ∧ stOk l = true := by
    unfold readS at e
    cases e3 : readP sDash x with
    | none => rw [e3] at e; cases e
    | some l' =>
      rw [e3] at e
      dsimp only at e
      by_cases c : stOk l' = true
      · rw [if_pos c] at e
        cases e
        exact ⟨0, rfl, c⟩
      · rw [if_neg c] at e
        cases e
  obtain ⟨l1, l2⟩ := readP_inv e2
  refine ds_seq (ds_set (de_tupOf (DE.of_fresh (df_call0F (da_cons (de_var (by rfl) (da_cons (de_str (da_nil ⟨rfl, x, sDash, l, rfl, Or.inl rfl, hx, e2, _, rfl, _, Or.inl rfl, ?_⟩)))))))))
  refine ds_seq (ds_if (dt_not (dt_test (de_call0 (da_cons (de_var (by rfl) (da_nil ⟨rfl, l, rfl, hl, fun p hp => ⟨(l2 p hp).1.1, (l2 p hp).2.1⟩, _, rfl, ?_⟩)))))))
  rw [es]
  exact if2f rfl (ds_next (ds_ret (de_var (by rfl) hp)))
theorem g_pairs_in (B : Tx K mg) (G__pairs_of : FnG P w K mg base 2 B.a__pairs_of B.fd__pairs_of ["text", "sign"] (spOfF K 2 C__pairs_of)) : FnG P w K mg base 4 B.a_pairs_in B.fd_pairs_in ["text"] (spOfF K 1 C_pairs_in) := by
  refine FnG.of B.F_pairs_in sc_pairs_in (fun _ _ _ _ h => spOfF_len h) (fun cdv Ar outer s H vs Q E hg hr h => ?_)
  have gd : (Ar.deeper (envOfC "pairs_in" (defScope s_pairs_in) s.heap.objs.size B.a_pairs_in cdv)).guards = some [] := (deeper_guards Ar _).trans hg
  have hu : (Ar.deeper (envOfC "pairs_in" (defScope s_pairs_in) s.heap.objs.size B.a_pairs_in cdv)).units + 64 < cLine := by have := hr.un; omega
  have hr__pairs_of := hr.mono (show 2 ≤ _ by decide)
  refine ⟨_, (pss_one (ps_ret (pe_g G__pairs_of gd hr__pairs_of B.m__pairs_of B.k__pairs_of B.b__pairs_of passL (pa_cons (pv 0) (pa_cons pe_str pa_nil))))), bodyF_of h ?_⟩
  clear h gd hu hr hg
  intro A ds n Pp eK eE hX hl hc σ er D hq
  subst eK eE
  obtain ⟨x, l, rfl, hx, e, hp⟩ := hc
  exact retF (df_call0F (da_cons (de_var (by rfl) (da_cons (de_str (da_nil ⟨rfl, x, sSlash, l, rfl, Or.inr rfl, hx, e, _, rfl, hp⟩)))))) er hq
theorem g_wish_in (B : Tx K mg) (G__words_of : FnG P w K mg base 1 B.a__words_of B.fd__words_of ["text"] (spOf K 1 C__words_of)) (G_is_number : FnG P w K mg base 1 B.a_is_number B.fd_is_number ["word"] (spOf K 1 C_is_number)) : FnG P w K mg base 4 B.a_wish_in B.fd_wish_in ["text"] (spOf K 1 C_wish_in) := by
  refine FnG.of B.F_wish_in sc_wish_in (fun _ _ _ _ h => spOf_len h) (fun cdv Ar outer s H vs Q E hg hr h => ?_)
  have gd : (Ar.deeper (envOfC "wish_in" (defScope s_wish_in) s.heap.objs.size B.a_wish_in cdv)).guards = some [] := (deeper_guards Ar _).trans hg
  have hu : (Ar.deeper (envOfC "wish_in" (defScope s_wish_in) s.heap.objs.size B.a_wish_in cdv)).units + 64 < cLine := by have := hr.un; omega
  have hr__words_of := hr.mono (show 1 ≤ _ by decide)
  have hr_is_number := hr.mono (show 1 ≤ _ by decide)
  refine ⟨_, (pss_cons (ps_set (i := 1) sc_wish_in.nd rfl (by first | exact Or.inl rfl | exact Or.inr rfl) (pe_g G__words_of gd hr__words_of B.m__words_of B.k__words_of B.b__words_of passL (pa_cons (pv 0) pa_nil)))
    (pss_cons (ps_if (pt_not (pt_val (pe_callB (kx_all K) rfl B.n_all (by decide +kernel) (pa_cons (pe_lc (own := [("word", 2)]) rfl sc_wish_in.nd (kp_seq K (pv 1)) (blkOk_by (N := ["text", "words", "word"]) (sc := defScope s_wish_in) (by decide +kernel)) (fun _ _ _ _ _ => (pg_name (i := 2) sc_wish_in.nd rfl (by first | exact Or.inl rfl | exact Or.inr rfl))) (fun _ _ _ _ _ => pts_nil) (fun _ _ _ _ _ => (pe_or (pe_cmpR (kx_eq K hu) (pv 2) pe_str (nomark _)) (pe_one (pe_g G_is_number gd hr_is_number B.m_is_number B.k_is_number B.b_is_number passL (pa_cons (pv 2) pa_nil)))))) pa_nil)))) (pss_one ps_never) pss_nil)
    (pss_one (ps_ret (pe_callTy (kx_tuple K) rfl B.n_tuple (by decide +kernel) (pa_cons (pe_lc (own := [("word", 2)]) rfl sc_wish_in.nd (kp_seq K (pv 1)) (blkOk_by (N := ["text", "words", "word"]) (sc := defScope s_wish_in) (by decide +kernel)) (fun _ _ _ _ _ => (pg_name (i := 2) sc_wish_in.nd rfl (by first | exact Or.inl rfl | exact Or.inr rfl))) (fun _ _ _ _ _ => pts_nil) (fun _ _ _ _ _ => (pe_ifExp (pt_cmpR (kx_eq K hu) (pv 2) pe_str (nomark _)) pe_non (pe_callTy kx_intStr rfl B.n_int (by decide +kernel) (pa_cons (pv 2) pa_nil))))) pa_nil)))))), body_of h ?_⟩
  clear h gd hu hr hg
  intro A ds n Pp eK eE hX hl hc
  subst eK eE
  obtain ⟨x, l, rfl, hx, er, hp⟩ := hc
  obtain ⟨wl, wb⟩ := words_bounds x
  obtain ⟨hall, rfl⟩ := allOf_inv er
  refine ds_seq (ds_set (de_call0 (da_cons (de_var (by rfl) (da_nil ⟨rfl, x, rfl, hx, ?_⟩)))))
  refine ds_seq (ds_if (dt_not (dt_test (de_all (DE.of_fresh (df_map (wordsL x) (fun w => D.bl (wishOf w).isSome) (gw_name (by decide)) (by omega) (di_seq (de_var (by rfl) ⟨_, Or.inl rfl, by rw [List.length_map], fun i d w h1 h2 => ?_, (wordsL x).map fun w => (wishOf w).isSome, by rw [List.map_map]; rfl, ⟨_, rfl, ?_⟩⟩))))))))
  · rw [List.getElem?_map, h2] at h1
    cases h1
    have := wb w (List.mem_of_getElem? h2)
    refine dg_name (de_orV (de_op (de_var (by rfl) (de_str (dr_eqAS ⟨_, rfl, ?_⟩)))))
    rw [wish_isSome]
    refine if2 (fun c => ?_) (fun c => ?_)
    · rw [show decide (w = sAsk) = true from c]
      exact ⟨rfl, rfl⟩
    · rw [show decide (w = sAsk) = false from c]
      exact de_call0 (da_cons (de_var (by rfl) (da_nil ⟨rfl, w, rfl, by omega, rfl, rfl⟩)))
  rw [show ((wordsL x).map fun w => (wishOf w).isSome).all id = (wordsL x).all fun w => (wishOf w).isSome by rw [List.all_map]; rfl, List.all_eq_true.mpr hall]
  have hp' : Pp (.tup ((wordsL x).map fun w => (wishOf w).getD .non)) n := by
    rw [fm_getD .non hall]
    exact hp
  refine if2f rfl (ds_next (ds_ret (de_tupOf (DE.of_fresh (df_map (wordsL x) (fun w => (wishOf w).getD .non) (gw_name (by decide)) (by omega) (di_seq (de_var (by rfl) ⟨_, Or.inl rfl, by rw [List.length_map], fun i d w h1 h2 => ?_, _, Or.inl rfl, hp'⟩)))))))
  rw [List.getElem?_map, h2] at h1
  cases h1
  have hi := hall w (List.mem_of_getElem? h2)
  rw [wish_isSome] at hi
  refine dg_name (de_if (dt_test (de_op (de_var (by rfl) (de_str (dr_eqAS ⟨_, rfl, ?_⟩))))))
  refine if2 (fun c => ?_) (fun c => ?_)
  · have c : w = sAsk := of_decide_eq_true c
    unfold wishOf
    rw [if_pos c]
    exact de_non ⟨rfl, rfl⟩
  · have c : w ≠ sAsk := of_decide_eq_false c
    rw [decide_eq_false c, Bool.false_or] at hi
    have := numOk_len hi
    unfold wishOf
    rw [if_neg c, if_pos hi]
    exact de_intStr (de_var (by rfl) ⟨w, numV w, rfl, (numOk_int hi).1, by omega, rfl, rfl⟩)
theorem g__text_of (B : Tx K mg) : FnG P w K mg base 1 B.a__text_of B.fd__text_of ["words"] (spOf K 1 C__text_of) := by
  refine FnG.of B.F__text_of sc__text_of (fun _ _ _ _ h => spOf_len h) (fun cdv Ar outer s H vs Q E hg hr h => ?_)
  have gd : (Ar.deeper (envOfC "_text_of" (defScope s__text_of) s.heap.objs.size B.a__text_of cdv)).guards = some [] := (deeper_guards Ar _).trans hg
  have hu : (Ar.deeper (envOfC "_text_of" (defScope s__text_of) s.heap.objs.size B.a__text_of cdv)).units + 64 < cLine := by have := hr.un; omega
  refine ⟨_, (pss_one (ps_ret (kx_orT K (pe_m1 PySem.F.slot_str_join PySem.F.type_str_join (kx_join K) pe_str (pv 0)) (pe_one pe_str)))), body_of h ?_⟩
  clear h gd hu hr hg
  intro A ds n Pp eK eE hX hl hc
  subst eK eE
  obtain ⟨ws, rfl, hw, hp⟩ := hc
  refine ds_ret (de_orStr (de_join (de_str ⟨_, rfl, de_var (by rfl) ⟨ws, Or.inl rfl, hw.sum, _, rfl, ?_, fun h => ?_, fun h => ?_⟩⟩)))
  · have h1 := join_len sGap ws fun w hw' => (hw.2 w hw').2.1
    have h2 := hw.1
    rw [show sGap.length = 1 from rfl] at h1
    show (Txt.join sGap ws).length ≤ 100000
    omega
  · have : ws ≠ [] := fun e => h (by rw [e]; rfl)
    unfold textW at hp
    rw [if_neg this] at hp
    exact hp
  · have : ws = [] := by
      by_cases c : ws = []
      · exact c
      · exact absurd h (wrd_pos (fun w hw' => (hw.2 w hw').1) c)
    unfold textW at hp
    rw [if_pos this] at hp
    exact de_str hp
theorem g_stays_text (B : Tx K mg) (G__text_of : FnG P w K mg base 1 B.a__text_of B.fd__text_of ["words"] (spOf K 1 C__text_of)) : FnG P w K mg base 2 B.a_stays_text B.fd_stays_text ["stays"] (spOf K 1 C_stays_text) := by
  refine FnG.of B.F_stays_text sc_stays_text (fun _ _ _ _ h => spOf_len h) (fun cdv Ar outer s H vs Q E hg hr h => ?_)
  have gd : (Ar.deeper (envOfC "stays_text" (defScope s_stays_text) s.heap.objs.size B.a_stays_text cdv)).guards = some [] := (deeper_guards Ar _).trans hg
  have hu : (Ar.deeper (envOfC "stays_text" (defScope s_stays_text) s.heap.objs.size B.a_stays_text cdv)).units + 64 < cLine := by have := hr.un; omega
  have hr__text_of := hr.mono (show 1 ≤ _ by decide)
  refine ⟨_, (pss_one (ps_ret (pe_g G__text_of gd hr__text_of B.m__text_of B.k__text_of B.b__text_of passL (pa_cons (pe_lc (own := [("arrival", 1), ("leaving", 2)]) rfl sc_stays_text.nd (kp_seq K (pv 0)) (blkOk_by (N := ["stays", "arrival", "leaving"]) (sc := defScope s_stays_text) (by decide +kernel)) (fun _ _ _ _ _ => (kg_seq (n := 2) K rfl (pgs_cons (pg_name (i := 1) sc_stays_text.nd rfl (by first | exact Or.inl rfl | exact Or.inr rfl)) (pgs_cons (pg_name (i := 2) sc_stays_text.nd rfl (by first | exact Or.inl rfl | exact Or.inr rfl)) pgs_nil)))) (fun _ _ _ _ _ => pts_nil) (fun _ _ _ _ _ => (pe_f3 (pe_fmt (pv 1)) pe_str (pe_fmt (pv 2))))) pa_nil)))), body_of h ?_⟩
  clear h gd hu hr hg
  intro A ds n Pp eK eE hX hl hc
  subst eK eE
  obtain ⟨d, l, rfl, ⟨ds, hd, hl, hr2⟩, l1, hn, hp⟩ := hc
  refine ds_ret (de_call0 (da_cons (DE.of_fresh (df_map l (fun p => D.str (pairW sDash p)) (gw_seq (gws_cons gmono_name (gw_name (by decide)) (gws_cons gmono_name (gw_name (by decide)) gws_nil))) (by omega) (di_seq (de_var (by rfl) ⟨ds, hd, hl, fun i e p h1 h2 => ?_, da_nil ⟨rfl, l.map (pairW sDash), by rw [List.map_map]; rfl, Wsz.pairs (Or.inl rfl) l1 hn, hp⟩⟩))))))
  have hpn := hn p (List.mem_of_getElem? h2)
  have p50 : (10 : Int) ^ 50 < 10 ^ 68 := by decide
  have k1 : p.1.natAbs < 10 ^ 68 := by have := hpn.1; omega
  have k2 : p.2.natAbs < 10 ^ 68 := by have := hpn.2; omega
  rcases hr2 i e p h1 h2 with rfl | rfl
  · exact dg_seq (Or.inr rfl) rfl (dgs_cons (dg_name (dgs_cons (dg_name (dgs_nil (de_f3 (by decide +kernel) (de_var (by rfl) ⟨p.1, rfl, k1, de_var (by rfl) ⟨p.2, rfl, k2, rfl, rfl⟩⟩)))))))
  · exact dg_seq (Or.inl rfl) rfl (dgs_cons (dg_name (dgs_cons (dg_name (dgs_nil (de_f3 (by decide +kernel) (de_var (by rfl) ⟨p.1, rfl, k1, de_var (by rfl) ⟨p.2, rfl, k2, rfl, rfl⟩⟩)))))))
theorem g_pairs_text (B : Tx K mg) (G__text_of : FnG P w K mg base 1 B.a__text_of B.fd__text_of ["words"] (spOf K 1 C__text_of)) : FnG P w K mg base 2 B.a_pairs_text B.fd_pairs_text ["pairs"] (spOf K 1 C_pairs_text) := by
  refine FnG.of B.F_pairs_text sc_pairs_text (fun _ _ _ _ h => spOf_len h) (fun cdv Ar outer s H vs Q E hg hr h => ?_)
  have gd : (Ar.deeper (envOfC "pairs_text" (defScope s_pairs_text) s.heap.objs.size B.a_pairs_text cdv)).guards = some [] := (deeper_guards Ar _).trans hg
  have hu : (Ar.deeper (envOfC "pairs_text" (defScope s_pairs_text) s.heap.objs.size B.a_pairs_text cdv)).units + 64 < cLine := by have := hr.un; omega
  have hr__text_of := hr.mono (show 1 ≤ _ by decide)
  refine ⟨_, (pss_one (ps_ret (pe_g G__text_of gd hr__text_of B.m__text_of B.k__text_of B.b__text_of passL (pa_cons (pe_lc (own := [("one", 1), ("other", 2)]) rfl sc_pairs_text.nd (kp_seq K (pv 0)) (blkOk_by (N := ["pairs", "one", "other"]) (sc := defScope s_pairs_text) (by decide +kernel)) (fun _ _ _ _ _ => (kg_seq (n := 2) K rfl (pgs_cons (pg_name (i := 1) sc_pairs_text.nd rfl (by first | exact Or.inl rfl | exact Or.inr rfl)) (pgs_cons (pg_name (i := 2) sc_pairs_text.nd rfl (by first | exact Or.inl rfl | exact Or.inr rfl)) pgs_nil)))) (fun _ _ _ _ _ => pts_nil) (fun _ _ _ _ _ => (pe_f3 (pe_fmt (pv 1)) pe_str (pe_fmt (pv 2))))) pa_nil)))), body_of h ?_⟩
  clear h gd hu hr hg
  intro A ds n Pp eK eE hX hl hc
  subst eK eE
  obtain ⟨d, l, rfl, ⟨ds, hd, hl, hr2⟩, l1, hn, hp⟩ := hc
  refine ds_ret (de_call0 (da_cons (DE.of_fresh (df_map l (fun p => D.str (pairW sSlash p)) (gw_seq (gws_cons gmono_name (gw_name (by decide)) (gws_cons gmono_name (gw_name (by decide)) gws_nil))) (by omega) (di_seq (de_var (by rfl) ⟨ds, hd, hl, fun i e p h1 h2 => ?_, da_nil ⟨rfl, l.map (pairW sSlash), by rw [List.map_map]; rfl, Wsz.pairs (Or.inr rfl) l1 hn, hp⟩⟩))))))
  have hpn := hn p (List.mem_of_getElem? h2)
  have p50 : (10 : Int) ^ 50 < 10 ^ 68 := by decide
  have k1 : p.1.natAbs < 10 ^ 68 := by have := hpn.1; omega
  have k2 : p.2.natAbs < 10 ^ 68 := by have := hpn.2; omega
  rcases hr2 i e p h1 h2 with rfl | rfl
  · exact dg_seq (Or.inr rfl) rfl (dgs_cons (dg_name (dgs_cons (dg_name (dgs_nil (de_f3 (by decide +kernel) (de_var (by rfl) ⟨p.1, rfl, k1, de_var (by rfl) ⟨p.2, rfl, k2, rfl, rfl⟩⟩)))))))
  · exact dg_seq (Or.inl rfl) rfl (dgs_cons (dg_name (dgs_cons (dg_name (dgs_nil (de_f3 (by decide +kernel) (de_var (by rfl) ⟨p.1, rfl, k1, de_var (by rfl) ⟨p.2, rfl, k2, rfl, rfl⟩⟩)))))))
theorem g_wish_text (B : Tx K mg) (G__text_of : FnG P w K mg base 1 B.a__text_of B.fd__text_of ["words"] (spOf K 1 C__text_of)) : FnG P w K mg base 2 B.a_wish_text B.fd_wish_text ["wish"] (spOf K 1 C_wish_text) := by
  refine FnG.of B.F_wish_text sc_wish_text (fun _ _ _ _ h => spOf_len h) (fun cdv Ar outer s H vs Q E hg hr h => ?_)
  have gd : (Ar.deeper (envOfC "wish_text" (defScope s_wish_text) s.heap.objs.size B.a_wish_text cdv)).guards = some [] := (deeper_guards Ar _).trans hg
  have hu : (Ar.deeper (envOfC "wish_text" (defScope s_wish_text) s.heap.objs.size B.a_wish_text cdv)).units + 64 < cLine := by have := hr.un; omega
  have hr__text_of := hr.mono (show 1 ≤ _ by decide)
  refine ⟨_, (pss_one (ps_ret (pe_g G__text_of gd hr__text_of B.m__text_of B.k__text_of B.b__text_of passL (pa_cons (pe_lc (own := [("day", 1)]) rfl sc_wish_text.nd (kp_seq K (pv 0)) (blkOk_by (N := ["wish", "day"]) (sc := defScope s_wish_text) (by decide +kernel)) (fun _ _ _ _ _ => (pg_name (i := 1) sc_wish_text.nd rfl (by first | exact Or.inl rfl | exact Or.inr rfl))) (fun _ _ _ _ _ => pts_nil) (fun _ _ _ _ _ => (pe_ifExp (pt_cmpR op_isN (pv 1) pe_non (nomark _)) pe_str (pe_callTy kx_strI rfl B.n_str (by decide +kernel) (pa_cons (pv 1) pa_nil))))) pa_nil)))), body_of h ?_⟩
  clear h gd hu hr hg
  intro A ds n Pp eK eE hX hl hc
  subst eK eE
  obtain ⟨d, os, rfl, hd, l1, hn, hp⟩ := hc
  refine ds_ret (de_call0 (da_cons (DE.of_fresh (df_map os (fun o => D.str (wishW o)) (gw_name (by decide)) (by omega) (di_seq (de_var (by rfl) ⟨_, hd, by rw [List.length_map], fun i e o h1 h2 => ?_, da_nil ⟨rfl, os.map wishW, by rw [List.map_map]; rfl, Wsz.wish l1 hn, hp⟩⟩))))))
  rw [List.getElem?_map, h2] at h1
  cases h1
  have hon := hn o (List.mem_of_getElem? h2)
  have p50 : (10 : Int) ^ 50 < 10 ^ 68 := by decide
  cases o with
  | none => exact dg_name (de_if (dt_test (de_isN (de_var (by rfl) ⟨true, rfl, if2t rfl (de_str ⟨rfl, rfl⟩)⟩))))
  | some i =>
    have := hon i rfl
    exact dg_name (de_if (dt_test (de_isN (de_var (by rfl) ⟨false, rfl, if2f rfl (de_strI (de_var (by rfl) ⟨i, rfl, by omega, rfl, rfl⟩))⟩))))
--@@split
theorem g_l_lists (B : Tx K mg) {k:Nat} {kk : Nat} (hkk : 1 ≤ kk + 1) {ks : Nat} {Cs : DCon} (hks : ks ≤ kk) (G_l_lists : FnG P w K mg base ks B.a_l_lists B.fd_l_lists ["_law_thing"] (spOf K 1 Cs)) (hCs:(∃ e, k=e+1∧Cs=C_lists e)∨k=0) : FnG P w K mg base (kk + 1) B.a_l_lists B.fd_l_lists ["_law_thing"] (spOf K 1 (C_lists k)) := by
  refine FnG.of B.F_l_lists sc_l_lists (fun _ _ _ _ h => spOf_len h) (fun cdv Ar outer s H vs Q E hg hr h => ?_)
  have gd : (Ar.deeper (envOfC "_law_lists" (defScope s_l_lists) s.heap.objs.size B.a_l_lists cdv)).guards = some [] := (deeper_guards Ar _).trans hg
  have hu : (Ar.deeper (envOfC "_law_lists" (defScope s_l_lists) s.heap.objs.size B.a_l_lists cdv)).units + 64 < cLine := by have := hr.un; omega
  have hr_l_lists := hr.mono hks
  refine ⟨_, (pss_one (ps_ret (pe_ifExp (pt_val (pe_callB (kx_isiT K) rfl B.n_isinstance (by decide +kernel) (pa_cons (pv 0) (pa_cons (pe_tup (pa_cons (pe_bltn (v := .ty "list") rfl B.n_list (by first | decide +kernel | rfl) rfl) (pa_cons (pe_bltn (v := .ty "tuple") rfl B.n_tuple (by first | decide +kernel | rfl) rfl) pa_nil))) pa_nil)))) (pe_lc (own := [("_law_piece", 1)]) rfl sc_l_lists.nd (kp_seq K (pv 0)) (blkOk_by (N := ["_law_thing", "_law_piece"]) (sc := defScope s_l_lists) (by decide +kernel)) (fun _ _ _ _ _ => (pg_name (i := 1) sc_l_lists.nd rfl (by first | exact Or.inl rfl | exact Or.inr rfl))) (fun _ _ _ _ _ => pts_nil) (fun _ _ _ _ _ => (pe_g G_l_lists gd hr_l_lists B.m_l_lists B.k_l_lists B.b_l_lists passL (pa_cons (pv 1) pa_nil)))) (pv 0)))), body_of h ?_⟩
  clear h gd hu hr hg
  intro A ds n Pp eK eE hX hl hc
  subst eK eE
  obtain ⟨d, rfl, hd, hp⟩ := hc
  have key : scal d ∨ ∃ e xs, k = e + 1 ∧ Cs = C_lists e ∧ (d = .lst xs ∨ d = .tup xs) ∧ xs.length ≤ 100000 ∧ ∀ (i : Nat) x, xs[i]? = some x → Dep e x := by
    rcases hCs with ⟨e, rfl, rfl⟩ | rfl
    · rcases hd with h | ⟨xs, hx, hz, hr⟩
      · exact Or.inl h
      · exact Or.inr ⟨e, xs, rfl, rfl, hx, hz, hr⟩
    · exact Or.inl hd
  rcases key with h | ⟨e, xs, rfl, rfl, hx, hz, hr⟩
  · rw [soft_scal h] at hp
    rcases h with rfl | ⟨b, rfl⟩ | ⟨b, rfl⟩ | ⟨b, rfl⟩ <;> (walk_at "D" <;> exact hp)
  · rw [softD_seq hx] at hp
    refine ds_ret (de_if (dt_B (de_isi2 rfl rfl (de_var rfl ⟨?_, _, rfl, ?_⟩))))
    · rcases hx with rfl | rfl <;> rfl
    · refine if2t (by rcases hx with rfl | rfl <;> rfl) ?_
      refine DE.of_fresh (df_map xs softD (gw_name (by decide)) hz (di_seq (de_var rfl ⟨xs, hx, rfl, fun i x y h1 h2 => ?_, hp⟩)))
      rw [h1] at h2; cases h2
      refine dg_name (de_call0 (da_cons (de_var rfl (da_nil ⟨rfl, x, rfl, hr i x h1, rfl, rfl⟩))))
--@@split
theorem g_l_stays (B : Tx K mg) (G_l_draw : FnG P w K mg base 7 B.a_l_draw B.fd_l_draw ["_law_source", "_law_bound"] (spOf K 2 C_l_draw)) (G_l_pick : FnG P w K mg base 8 B.a_l_pick B.fd_l_pick ["_law_source", "_law_some"] (spOf K 2 C_l_pick)) : FnG P w K mg base 9 B.a_l_stays B.fd_l_stays ["_law_source", "_law_most", "_law_top"] (spOf K 3 C_l_stays) := by
  refine FnG.of B.F_l_stays sc_l_stays (fun _ _ _ _ h => spOf_len h) (fun cdv Ar outer s H vs Q E hg hr h => ?_)
  have gd : (Ar.deeper (envOfC "_law_stays" (defScope s_l_stays) s.heap.objs.size B.a_l_stays cdv)).guards = some [] := (deeper_guards Ar _).trans hg
  have hu : (Ar.deeper (envOfC "_law_stays" (defScope s_l_stays) s.heap.objs.size B.a_l_stays cdv)).units + 64 < cLine := by have := hr.un; omega
  have hr_l_draw := hr.mono (show 7 ≤ _ by decide)
  have hr_l_pick := hr.mono (show 8 ≤ _ by decide)
  refine ⟨_, (pss_cons (ps_par (i := 3) (j := 4) rfl sc_l_stays.nd rfl rfl (by decide) rfl rfl (pa_cons (pe_lst pa_nil) (pa_cons pe_dnewK pa_nil)) rfl)
    (pss_cons (ps_for (passes_of rfl) rfl (pi_range1 rfl B.n_range (pa_cons (pe_g G_l_draw gd hr_l_draw B.m_l_draw B.k_l_draw B.b_l_draw passL (pa_cons (pv 0) (pa_cons (pe_op (kx_plus K) (pv 1) pe_int) pa_nil))) pa_nil)) (pg_name (i := 5) sc_l_stays.nd rfl (by first | exact Or.inl rfl | exact Or.inr rfl)) (pss_cons (ps_set (i := 6) sc_l_stays.nd rfl (by first | exact Or.inl rfl | exact Or.inr rfl) (pe_g G_l_draw gd hr_l_draw B.m_l_draw B.k_l_draw B.b_l_draw passL (pa_cons (pv 0) (pa_cons (pv 2) pa_nil))))
    (pss_one (ps_if (pt_cmp (pc_dnotin (Nat.lt_of_le_of_lt (Nat.add_le_add_left (by decide) _) hu) (pv 6) (pv 4)) rfl) (pss_cons (ps_dput (Nat.lt_of_le_of_lt (Nat.add_le_add_left (by decide) _) hu) (pv 4) (pv 6) pe_bl rfl)
    (pss_cons (ps_set (i := 7) sc_l_stays.nd rfl (by first | exact Or.inl rfl | exact Or.inr rfl) (pe_g G_l_pick gd hr_l_pick B.m_l_pick B.k_l_pick B.b_l_pick passL (pa_cons (pv 0) (pa_cons (pe_lst (pa_cons (pe_op (kx_plus K) (pv 6) pe_int) (pa_cons (pe_op (kx_plus K) (pv 6) pe_int) (pa_cons (pe_callB (call_min2 rfl) rfl B.n_min (by decide +kernel) (pa_cons (pe_op (kx_plus K) (pv 6) pe_int) (pa_cons pe_int pa_nil))) pa_nil)))) pa_nil))))
    (pss_one (ps_expr (pe_bm PySem.F.plainAttrs_list PySem.F.slot_list_append PySem.F.type_list_append mt_append (pv 3) (pa_cons (pe_tup (pa_cons (pe_op op_sub (pv 6) (pe_g G_l_draw gd hr_l_draw B.m_l_draw B.k_l_draw B.b_l_draw passL (pa_cons (pv 0) (pa_cons (pv 7) pa_nil)))) (pa_cons (pv 6) pa_nil))) pa_nil)))))) pss_nil))))
    (pss_one (ps_ret (pe_callTy (kx_tuple K) rfl B.n_tuple (by decide +kernel) (pa_cons (pv 3) pa_nil)))))), body_of h ?_⟩
  clear h gd hu hr hg
  intro A ds n Pp eK eE hX hl hc
  subst eK eE
  obtain ⟨a, most, top, hb, rfl, h0, h1, h2, h3, hn, hp⟩ := hc
  have p43 : (10 : Int) ^ 42 + 1 ≤ 10 ^ 43 := by decide
  have p44 : (101 : Int) ≤ 10 ^ 43 := by decide
  refine ds_seq (ds_parOD ?_)
  refine ds_seq (ds_for (di_rng1 (de_call0 ?_)))
  walk_at "D"
  refine ⟨rfl, tk hb (by omega) (by omega) (by omega) fun v n1 v0 v1 l1 l2 => ?_⟩
  refine ⟨v, rfl, ⟨by omega, by omega⟩, fun i ρ' m => ∃ l s5 s6 s7, ρ' = [.val (.raw (.ref a)), .val (.int most), .val (.int top), .own (l.map pr), .dic (keysD (l.map Prod.snd)), s5, s6, s7] ∧ noDic [s5, s6, s7] = true ∧ l.length ≤ i ∧ Days (top - 1) l ∧ n1 ≤ m ∧ m ≤ n1 + 384 * i, ⟨[], _, _, _, rfl, rfl, Nat.le_refl _, ⟨fun p hp => by simp at hp, by simp⟩, Nat.le_refl _, by omega⟩, ?_, ?_⟩
  · rintro i d ρ' m hd ⟨l, s5, s6, s7, rfl, hnd, hl, hD, hm1, hm2⟩
    have hi : i < v.toNat := by
      have := (List.getElem?_eq_some_iff.mp hd).1
      rw [rng_len] at this
      exact this
    rw [rng_get hi] at hd
    cases hd
    refine dg_name (ds_seq (ds_set (de_call0 ?_)))
    walk_at "D"
    refine ⟨rfl, tk hb (by omega) (by omega) (by omega) fun x n2 x0 x1 l3 l4 => ?_⟩
    refine ds_if (dt_B (de_ninDic (by rfl) (de_var (by rfl) ⟨x, rfl, _, rfl, ?_⟩)))
    rw [keys_val]
    by_cases hin : x ∈ l.map Prod.snd
    · rw [decide_eq_true hin]
      exact if2f rfl (ds_next ⟨l, _, _, _, rfl, by simp_all [noDic], by omega, hD, by omega, by omega⟩)
    · rw [decide_eq_false hin]
      refine if2t rfl ?_
      refine ds_seq (ds_putDic (i := 4) (by rfl) (by simp_all [noDic]) (de_bl (de_var (by rfl) ⟨x, rfl, by unfold keysD; rw [List.length_map, List.length_map]; omega, ?_⟩)))
      rw [keys_put hin]
      refine ds_seq (ds_set (de_call0 (da_cons (de_var (by rfl) (da_cons (DE.of_fresh (df_lst (da_cons (de_op (de_var (by rfl) (de_int (dr_plusI ?_))))))))))))
      refine da_cons (de_op (de_var (by rfl) (de_int (dr_plusI ?_))))
      refine da_cons (de_min2 (de_op (de_var (by rfl) (de_int (dr_plusI (de_int ⟨_, _, rfl, rfl, ?_⟩))))))
      refine da_nil ⟨Nat.le_of_ble_eq_true rfl, da_nil ⟨rfl, a, _, _, hb, rfl, Or.inl rfl, Nat.lt_of_lt_of_eq (Nat.succ_pos 2) rfl, Nat.le_of_ble_eq_true rfl, by omega, fun j y n3 hy l5 l6 => ?_⟩⟩
      have hw : ∃ t : Int, y = .int t ∧ 0 < t ∧ t ≤ x + 1 := by
        match j, hy with
        | 0, hy => cases hy; exact ⟨x + 1, rfl, by omega, by omega⟩
        | 1, hy => cases hy; exact ⟨x + 1, rfl, by omega, by omega⟩
        | 2, hy => cases hy; exact ⟨min (x + 1) 4, rfl, by omega, by omega⟩
        | k + 3, hy => simp at hy
      obtain ⟨t, rfl, t0, t1⟩ := hw
      refine ds_app (i := 3) (by rfl) (de_tup (da_cons (de_op (de_var (by rfl) (de_call0 (da_cons (de_var (by rfl) (da_cons (de_var (by rfl) (da_nil ⟨rfl, tk hb t0 (by omega) (by omega) fun u n4 u0 u1 l7 l8 => ?_⟩))))))))))
      refine dr_sub (da_cons (de_var (by rfl) (da_nil ⟨Nat.le_of_ble_eq_true rfl, by rw [List.length_map]; omega, l ++ [(x - u, x)], .val (.int (0 + (i : Int))), .val (.int x), .val (.int t), ?_, by rfl, by rw [List.length_append]; exact Nat.succ_le_succ hl, hD.snoc (by omega) (by omega) (by omega) hin, by omega, by omega⟩)))
      show _ = [_, _, _, _, _, _, _, _]
      rw [List.map_append, List.map_append]
      rfl
  · rintro ρ' m ⟨l, s5, s6, s7, rfl, hnd, hl, hD, hm1, hm2⟩
    rw [rng_len] at hl hm2
    exact ds_ret (de_tupOwn (by rfl) (hp l m (by omega) hD (by omega) (by omega)))
--@@split
theorem ok_strs (l : List Str) (h : ∀ w ∈ l, Low w) : okD (.lst (l.map DL.D.str)) = true := by
  show (pureDs (l.map DL.D.str) && (PyData.canLayAll0 (toPs (l.map DL.D.str)) && decide (PyData.depthAll (toPs (l.map DL.D.str)) + 1 ≤ 64))) = true
  have c : pureDs (l.map DL.D.str) = true := by
    clear h
    induction l with
    | nil => rfl
    | cons p l ih => exact ih
  have a : PyData.canLayAll0 (toPs (l.map DL.D.str)) = true := by
    clear c
    induction l with
    | nil => rfl
    | cons p l ih =>
      show (PyData.strOk p && PyData.canLayAll0 (toPs (l.map DL.D.str))) = true
      rw [ih fun w hw => h w (List.mem_cons_of_mem _ hw), Bool.and_true]
      unfold PyData.strOk
      rw [← Array.all_toList, List.all_eq_true]
      exact fun c hc => decide_eq_true (Nat.lt_trans (h p List.mem_cons_self c hc) (by decide))
  have b : PyData.depthAll (toPs (l.map DL.D.str)) ≤ 0 := by
    clear a c h
    induction l with
    | nil => exact Nat.le_refl _
    | cons p l ih =>
      show max 0 (PyData.depthAll (toPs (l.map DL.D.str))) ≤ 0
      omega
  rw [c, a, decide_eq_true (by omega)]
  rfl
theorem de_pairW {A : Amb} {ρ : Rho} {n i j : Nat} {s : Str} {p : Int × Int} {P : D → Nat → Prop} (hs : s = sDash ∨ s = sSlash) (hp : Nn p) (h1 : ρ[i]? = some (.val (.int p.1))) (h2 : ρ[j]? = some (.val (.int p.2))) (q : P (.str (pairW s p)) n) :
    DE A (tOp (rPlus A.K) (tOp (rPlus A.K) (tCB rStrI (tCons (tVar i) tNil)) (tC (.str s))) (tCB rStrI (tCons (tVar j) tNil))) ρ n P := by
  have p50 : (10 : Int) ^ 50 < 10 ^ 68 := by decide
  have k1 : p.1.natAbs < 10 ^ 68 := by have := hp.1; omega
  have k2 : p.2.natAbs < 10 ^ 68 := by have := hp.2; omega
  have l1 := num_len k1
  have l2 := num_len k2
  have l3 := (sgn_ok hs).2.2
  exact de_op <| de_op <| de_strI <| de_var h1 ⟨p.1, rfl, k1, de_str <| dr_plusS (by omega) <| de_strI <| de_var h2 ⟨p.2, rfl, k2, dr_plusS (by rw [app_len]; omega) q⟩⟩
theorem soft_lst (l : List (Int × Int)) : softD (.lst (l.map pr)) = .lst (l.map DL.prL) := by
  rw [← softD_line, softD_seq (Or.inl rfl), softD_seq (Or.inr rfl)]
theorem stOk_days {M : Int} {l : List (Int × Int)} (h : Days M l) : stOk l = true := by
  unfold stOk
  rw [decide_eq_true h.2, Bool.and_true, List.all_eq_true]
  exact fun p hp => decide_eq_true (h.1 p hp).2.1
theorem text_len {ws : List Str} (h : Wsz ws) : (textW ws).length ≤ 50000 := Nat.le_trans h.len (by decide)
theorem Dep.optD {k : Nat} {o : Option Int} : Dep k (DL.optD o) := by
  have : scal (DL.optD o) := by
    cases o with
    | none => exact Or.inl rfl
    | some i => exact Or.inr (Or.inr (Or.inl ⟨i, rfl⟩))
  cases k with
  | zero => exact this
  | succ k => exact Or.inl this
theorem Dep.strI {k : Nat} {s : Str} : Dep k (.str s) := by
  have : scal (.str s) := Or.inr (Or.inr (Or.inr ⟨s, rfl⟩))
  cases k with
  | zero => exact this
  | succ k => exact Or.inl this
theorem Dep.opts {k : Nat} {os : List (Option Int)} (h : os.length ≤ 100000) : Dep (k + 1) (.tup (os.map DL.optD)) := Dep.tup (by rw [List.length_map]; exact h) fun x hx => by
  obtain ⟨o, _, rfl⟩ := List.mem_map.mp hx
  exact Dep.optD
theorem Dep.three {g tp : List (Int × Int)} {os : List (Option Int)} (h1 : g.length ≤ 100000) (h2 : tp.length ≤ 100000) (h3 : os.length ≤ 100000) : Dep 3 (.lst [.tup (g.map DL.pr), .lst (tp.map DL.pr), .tup (os.map DL.optD)]) := Dep.lst (by simp) fun x hx => by
  simp only [List.mem_cons, List.not_mem_nil, or_false] at hx
  rcases hx with rfl | rfl | rfl
  · exact Dep.tupP h1
  · exact Dep.lstP h2
  · exact Dep.opts h3
theorem Dep.strs {k : Nat} {l : List D} (hl : l.length ≤ 100000) (h : ∀ x ∈ l, ∃ s, x = .str s) : Dep (k + 1) (.lst l) := Dep.lst hl fun x hx => by
  obtain ⟨s, rfl⟩ := h x hx
  exact Dep.strI
theorem g_l_joined (B : Tx K mg) : FnG P w K mg base 1 B.a_l_joined B.fd_l_joined ["_law_words"] (spOf K 1 C_l_joined) := by
  refine FnG.of B.F_l_joined sc_l_joined (fun _ _ _ _ h => spOf_len h) (fun cdv Ar outer s H vs Q E hg hr h => ?_)
  have gd : (Ar.deeper (envOfC "_law_joined" (defScope s_l_joined) s.heap.objs.size B.a_l_joined cdv)).guards = some [] := (deeper_guards Ar _).trans hg
  have hu : (Ar.deeper (envOfC "_law_joined" (defScope s_l_joined) s.heap.objs.size B.a_l_joined cdv)).units + 64 < cLine := by have := hr.un; omega
  refine ⟨_, (pss_one (ps_ret (pe_ifExp (pt_cmpR (kx_ne K hu) (pv 0) (pe_lst pa_nil) (nomark _)) (pe_m1 PySem.F.slot_str_join PySem.F.type_str_join (kx_join K) pe_str (pv 0)) pe_str))), body_of h ?_⟩
  clear h gd hu hr hg
  intro A ds n Pp eK eE hX hl hc
  subst eK eE
  obtain ⟨ws, rfl, hw, hp⟩ := hc
  refine ds_ret (de_if (dt_test (de_op (de_var (by rfl) (DE.of_fresh (df_lst (da_nil ⟨Nat.zero_le _, dr_neAD (ok_strs ws fun w h => (hw.2 w h).2.2) rfl ⟨_, rfl, ?_⟩⟩)))))))
  unfold textW at hp
  by_cases c : ws = []
  · subst c
    rw [if_pos rfl] at hp
    exact if2f rfl (de_str hp)
  · rw [if_neg c] at hp
    refine if2t ?_ (de_join (de_str ⟨_, rfl, de_var (by rfl) ⟨ws, Or.inl rfl, hw.sum, hp⟩⟩))
    cases ws with
    | nil => exact absurd rfl c
    | cons x xs => rfl
--@@split
theorem flat_len : ∀ l : List (Int × Int), (flat2 l).length = 2 * l.length
  | [] => rfl
  | p :: l => by
    show ([p.1, p.2] ++ flat2 l).length = 2 * (l.length + 1)
    rw [List.length_append, flat_len l]
    show 2 + 2 * l.length = _
    omega
theorem g_l_right (B : Tx K mg) (G_l_stays : FnG P w K mg base 9 B.a_l_stays B.fd_l_stays ["_law_source", "_law_most", "_law_top"] (spOf K 3 C_l_stays)) (G_l_pick : FnG P w K mg base 8 B.a_l_pick B.fd_l_pick ["_law_source", "_law_some"] (spOf K 2 C_l_pick)) (G_l_draw : FnG P w K mg base 7 B.a_l_draw B.fd_l_draw ["_law_source", "_law_bound"] (spOf K 2 C_l_draw)) (G_l_joined : FnG P w K mg base 1 B.a_l_joined B.fd_l_joined ["_law_words"] (spOf K 1 C_l_joined)) (G_stays_text : FnG P w K mg base 2 B.a_stays_text B.fd_stays_text ["stays"] (spOf K 1 C_stays_text)) (G_pairs_text : FnG P w K mg base 2 B.a_pairs_text B.fd_pairs_text ["pairs"] (spOf K 1 C_pairs_text)) (G_wish_text : FnG P w K mg base 2 B.a_wish_text B.fd_wish_text ["wish"] (spOf K 1 C_wish_text)) (G_l_lists : FnG P w K mg base 4 B.a_l_lists B.fd_l_lists ["_law_thing"] (spOf K 1 C_l_lists)) (G_l_same : FnG P w K mg base 4 B.a_l_same B.fd_l_same ["_law_found", "_law_due"] (spOf K 2 C_l_same)) (G_stays_in : FnG P w K mg base 4 B.a_stays_in B.fd_stays_in ["text"] (spOf K 1 C_stays_in)) (G_pairs_in : FnG P w K mg base 4 B.a_pairs_in B.fd_pairs_in ["text"] (spOfF K 1 C_pairs_in)) (G_wish_in : FnG P w K mg base 4 B.a_wish_in B.fd_wish_in ["text"] (spOf K 1 C_wish_in)) : FnG P w K mg base 14 B.a_l_right B.fd_l_right ["_law_source"] (spOf K 1 C_l_right) := by
  refine FnG.of B.F_l_right sc_l_right (fun _ _ _ _ h => spOf_len h) (fun cdv Ar outer s H vs Q E hg hr h => ?_)
  have gd : (Ar.deeper (envOfC "_law_right" (defScope s_l_right) s.heap.objs.size B.a_l_right cdv)).guards = some [] := (deeper_guards Ar _).trans hg
  have hu : (Ar.deeper (envOfC "_law_right" (defScope s_l_right) s.heap.objs.size B.a_l_right cdv)).units + 64 < cLine := by have := hr.un; omega
  have hr_l_stays := hr.mono (show 9 ≤ _ by decide)
  have hr_l_pick := hr.mono (show 8 ≤ _ by decide)
  have hr_l_draw := hr.mono (show 7 ≤ _ by decide)
  have hr_l_joined := hr.mono (show 1 ≤ _ by decide)
  have hr_stays_text := hr.mono (show 2 ≤ _ by decide)
  have hr_pairs_text := hr.mono (show 2 ≤ _ by decide)
  have hr_wish_text := hr.mono (show 2 ≤ _ by decide)
  have hr_l_lists := hr.mono (show 4 ≤ _ by decide)
  have hr_l_same := hr.mono (show 4 ≤ _ by decide)
  have hr_stays_in := hr.mono (show 4 ≤ _ by decide)
  have hr_pairs_in := hr.mono (show 4 ≤ _ by decide)
  have hr_wish_in := hr.mono (show 4 ≤ _ by decide)
  refine ⟨_, (pss_setTok (i := 1) sc_l_right.nd rfl (by first | exact Or.inl rfl | exact Or.inr rfl) G_l_stays gd hr_l_stays B.m_l_stays B.k_l_stays B.b_l_stays passL (pv 0) (pa_cons (pe_g G_l_pick gd hr_l_pick B.m_l_pick B.k_l_pick B.b_l_pick passL (pa_cons (pv 0) (pa_cons (pe_lst (pa_cons pe_int (pa_cons (pe_op op_pow pe_int pe_int) (pa_cons (pe_op op_pow pe_int pe_int) pa_nil)))) pa_nil))) pa_nil)
    (psst_cons (PST.of (ps_par (i := 2) (j := 3) rfl sc_l_right.nd rfl rfl (by decide) rfl rfl (pa_cons (pe_lst pa_nil) (pa_cons (pe_lst pa_nil) pa_nil)) rfl))
    (psst_cons (PST.of (ps_for (passes_of rfl) rfl (pi_range1 rfl B.n_range (pa_cons (pe_g G_l_draw gd hr_l_draw B.m_l_draw B.k_l_draw B.b_l_draw passL (pa_cons (pv 0) (pa_cons pe_int pa_nil))) pa_nil)) (pg_name (i := 4) sc_l_right.nd rfl (by first | exact Or.inl rfl | exact Or.inr rfl)) (pss_cons (ps_set (i := 5) sc_l_right.nd rfl (by first | exact Or.inl rfl | exact Or.inr rfl) (pe_g G_l_pick gd hr_l_pick B.m_l_pick B.k_l_pick B.b_l_pick passL (pa_cons (pv 0) (pa_cons (pe_lst (pa_cons pe_int (pa_cons (pe_op op_pow pe_int pe_int) pa_nil))) pa_nil))))
    (pss_one (ps_expr (pe_bm PySem.F.plainAttrs_list PySem.F.slot_list_append PySem.F.type_list_append mt_append (pv 2) (pa_cons (pe_tup (pa_cons (pe_g G_l_draw gd hr_l_draw B.m_l_draw B.k_l_draw B.b_l_draw passL (pa_cons (pv 0) (pa_cons (pv 5) pa_nil))) (pa_cons (pe_g G_l_draw gd hr_l_draw B.m_l_draw B.k_l_draw B.b_l_draw passL (pa_cons (pv 0) (pa_cons (pv 5) pa_nil))) pa_nil))) pa_nil)))))))
    (psst_cons (PST.of (ps_for (passes_of rfl) rfl (pi_range1 rfl B.n_range (pa_cons (pe_g G_l_draw gd hr_l_draw B.m_l_draw B.k_l_draw B.b_l_draw passL (pa_cons (pv 0) (pa_cons pe_int pa_nil))) pa_nil)) (pg_name (i := 4) sc_l_right.nd rfl (by first | exact Or.inl rfl | exact Or.inr rfl)) (pss_one (ps_expr (pe_bm PySem.F.plainAttrs_list PySem.F.slot_list_append PySem.F.type_list_append mt_append (pv 3) (pa_cons (pe_g G_l_pick gd hr_l_pick B.m_l_pick B.k_l_pick B.b_l_pick passL (pa_cons (pv 0) (pa_cons (pe_lst (pa_cons pe_non (pa_cons (pe_g G_l_draw gd hr_l_draw B.m_l_draw B.k_l_draw B.b_l_draw passL (pa_cons (pv 0) (pa_cons (pe_op op_pow pe_int pe_int) pa_nil))) (pa_cons (pe_g G_l_draw gd hr_l_draw B.m_l_draw B.k_l_draw B.b_l_draw passL (pa_cons (pv 0) (pa_cons pe_int pa_nil))) pa_nil)))) pa_nil))) pa_nil))))))
    (psst_cons (PST.of (ps_set (i := 3) sc_l_right.nd rfl (by first | exact Or.inl rfl | exact Or.inr rfl) (pe_callTy (kx_tuple K) rfl B.n_tuple (by decide +kernel) (pa_cons (pv 3) pa_nil))))
    (psst_cons (PST.of (ps_set (i := 6) sc_l_right.nd rfl (by first | exact Or.inl rfl | exact Or.inr rfl) (pe_lst (pa_cons (pe_g G_l_joined gd hr_l_joined B.m_l_joined B.k_l_joined B.b_l_joined passL (pa_cons (pe_lc (own := [("_law_arrival", 10), ("_law_leaving", 11)]) rfl sc_l_right.nd (kp_seq K (pv 1)) (blkOk_by (N := ["_law_source", "_law_guests", "_law_tape", "_law_hope", "_law_turn", "_law_top", "_law_due", "_law_found", "_law_large", "_law_words", "_law_arrival", "_law_leaving", "_law_one", "_law_other", "_law_day"]) (sc := defScope s_l_right) (by decide +kernel)) (fun _ _ _ _ _ => (kg_seq (n := 2) K rfl (pgs_cons (pg_name (i := 10) sc_l_right.nd rfl (by first | exact Or.inl rfl | exact Or.inr rfl)) (pgs_cons (pg_name (i := 11) sc_l_right.nd rfl (by first | exact Or.inl rfl | exact Or.inr rfl)) pgs_nil)))) (fun _ _ _ _ _ => pts_nil) (fun _ _ _ _ _ => (pe_op (kx_plus K) (pe_op (kx_plus K) (pe_callTy kx_strI rfl B.n_str (by decide +kernel) (pa_cons (pv 10) pa_nil)) pe_str) (pe_callTy kx_strI rfl B.n_str (by decide +kernel) (pa_cons (pv 11) pa_nil))))) pa_nil)) pa_nil))))
    (psst_cons (PST.of (ps_expr (pe_bm PySem.F.plainAttrs_list PySem.F.slot_list_append PySem.F.type_list_append mt_append (pv 6) (pa_cons (pe_g G_l_joined gd hr_l_joined B.m_l_joined B.k_l_joined B.b_l_joined passL (pa_cons (pe_lc (own := [("_law_one", 12), ("_law_other", 13)]) rfl sc_l_right.nd (kp_seq K (pv 2)) (blkOk_by (N := ["_law_source", "_law_guests", "_law_tape", "_law_hope", "_law_turn", "_law_top", "_law_due", "_law_found", "_law_large", "_law_words", "_law_arrival", "_law_leaving", "_law_one", "_law_other", "_law_day"]) (sc := defScope s_l_right) (by decide +kernel)) (fun _ _ _ _ _ => (kg_seq (n := 2) K rfl (pgs_cons (pg_name (i := 12) sc_l_right.nd rfl (by first | exact Or.inl rfl | exact Or.inr rfl)) (pgs_cons (pg_name (i := 13) sc_l_right.nd rfl (by first | exact Or.inl rfl | exact Or.inr rfl)) pgs_nil)))) (fun _ _ _ _ _ => pts_nil) (fun _ _ _ _ _ => (pe_op (kx_plus K) (pe_op (kx_plus K) (pe_callTy kx_strI rfl B.n_str (by decide +kernel) (pa_cons (pv 12) pa_nil)) pe_str) (pe_callTy kx_strI rfl B.n_str (by decide +kernel) (pa_cons (pv 13) pa_nil))))) pa_nil)) pa_nil))))
    (psst_cons (PST.of (ps_expr (pe_bm PySem.F.plainAttrs_list PySem.F.slot_list_append PySem.F.type_list_append mt_append (pv 6) (pa_cons (pe_g G_l_joined gd hr_l_joined B.m_l_joined B.k_l_joined B.b_l_joined passL (pa_cons (pe_lc (own := [("_law_day", 14)]) rfl sc_l_right.nd (kp_seq K (pv 3)) (blkOk_by (N := ["_law_source", "_law_guests", "_law_tape", "_law_hope", "_law_turn", "_law_top", "_law_due", "_law_found", "_law_large", "_law_words", "_law_arrival", "_law_leaving", "_law_one", "_law_other", "_law_day"]) (sc := defScope s_l_right) (by decide +kernel)) (fun _ _ _ _ _ => (pg_name (i := 14) sc_l_right.nd rfl (by first | exact Or.inl rfl | exact Or.inr rfl))) (fun _ _ _ _ _ => pts_nil) (fun _ _ _ _ _ => (pe_ifExp (pt_cmpR op_isN (pv 14) pe_non (nomark _)) pe_str (pe_callTy kx_strI rfl B.n_str (by decide +kernel) (pa_cons (pv 14) pa_nil))))) pa_nil)) pa_nil))))
    (psst_cons (PST.of (ps_set (i := 7) sc_l_right.nd rfl (by first | exact Or.inl rfl | exact Or.inr rfl) (pe_lst (pa_cons (pe_g G_stays_text gd hr_stays_text B.m_stays_text B.k_stays_text B.b_stays_text passL (pa_cons (pv 1) pa_nil)) (pa_cons (pe_g G_pairs_text gd hr_pairs_text B.m_pairs_text B.k_pairs_text B.b_pairs_text passL (pa_cons (pv 2) pa_nil)) (pa_cons (pe_g G_wish_text gd hr_wish_text B.m_wish_text B.k_wish_text B.b_wish_text passL (pa_cons (pv 3) pa_nil)) pa_nil))))))
    (psst_cons (PST.of (ps_expr (pe_bm PySem.F.plainAttrs_list PySem.F.slot_list_append PySem.F.type_list_append mt_append (pv 7) (pa_cons (pe_gK0 G_stays_text gd hr_stays_text B.m_stays_text B.k_stays_text B.K_stays_text_0_stays passL (pk_cons (pe_g G_l_lists gd hr_l_lists B.m_l_lists B.k_l_lists B.b_l_lists passL (pa_cons (pv 1) pa_nil)) pk_nil)) pa_nil))))
    (psst_cons (PST.of (ps_set (i := 7) sc_l_right.nd rfl (by first | exact Or.inl rfl | exact Or.inr rfl) (pe_op (kx_plus K) (pv 7) (pe_lst (pa_cons (pe_gK0 G_pairs_text gd hr_pairs_text B.m_pairs_text B.k_pairs_text B.K_pairs_text_0_pairs passL (pk_cons (pe_callTy (kx_tuple K) rfl B.n_tuple (by decide +kernel) (pa_cons (pe_g G_l_lists gd hr_l_lists B.m_l_lists B.k_l_lists B.b_l_lists passL (pa_cons (pv 2) pa_nil)) pa_nil)) pk_nil)) (pa_cons (pe_gK0 G_wish_text gd hr_wish_text B.m_wish_text B.k_wish_text B.K_wish_text_0_wish passL (pk_cons (pe_callTy (kx_list K) rfl B.n_list (by decide +kernel) (pa_cons (pv 3) pa_nil)) pk_nil)) pa_nil))))))
    (psst_cons (PST.of (ps_if (pt_not (pt_val (pe_g G_l_same gd hr_l_same B.m_l_same B.k_l_same B.b_l_same passL (pa_cons (pv 7) (pa_cons (pe_op (kx_plus K) (pv 6) (pv 6)) pa_nil))))) (pss_one (ps_ret pe_bl)) pss_nil))
    (psst_cons (PST.of (ps_set (i := 7) sc_l_right.nd rfl (by first | exact Or.inl rfl | exact Or.inr rfl) (pe_lst (pa_cons (pe_g G_stays_in gd hr_stays_in B.m_stays_in B.k_stays_in B.b_stays_in passL (pa_cons (pe_ix (kx_ix K) (pv 6) pe_int (fun _ _ => rfl)) pa_nil)) (pa_cons (pe_g G_pairs_in gd hr_pairs_in B.m_pairs_in B.k_pairs_in B.b_pairs_in passL (pa_cons (pe_ix (kx_ix K) (pv 6) pe_int (fun _ _ => rfl)) pa_nil)) (pa_cons (pe_g G_wish_in gd hr_wish_in B.m_wish_in B.k_wish_in B.b_wish_in passL (pa_cons (pe_ix (kx_ix K) (pv 6) pe_int (fun _ _ => rfl)) pa_nil)) pa_nil))))))
    (psst_cons (PST.of (ps_if (pt_not (pt_val (pe_g G_l_same gd hr_l_same B.m_l_same B.k_l_same B.b_l_same passL (pa_cons (pv 7) (pa_cons (pe_lst (pa_cons (pv 1) (pa_cons (pv 2) (pa_cons (pv 3) pa_nil)))) pa_nil))))) (pss_one (ps_ret pe_bl)) pss_nil))
    (psst_cons (PST.of (ps_expr (pe_bm PySem.F.plainAttrs_list PySem.F.slot_list_append PySem.F.type_list_append mt_append (pe_ix (kx_ix K) (pv 7) pe_int (fun _ _ => rfl)) (pa_cons pe_str pa_nil))))
    (psst_cons (PST.of (ps_if (pt_not (pt_val (pe_g G_l_same gd hr_l_same B.m_l_same B.k_l_same B.b_l_same passL (pa_cons (pe_lst (pa_cons (pe_gK0 G_stays_in gd hr_stays_in B.m_stays_in B.k_stays_in B.K_stays_in_0_text passL (pk_cons (pe_ix (kx_ix K) (pv 6) pe_int (fun _ _ => rfl)) pk_nil)) (pa_cons (pe_gK0 G_pairs_in gd hr_pairs_in B.m_pairs_in B.k_pairs_in B.K_pairs_in_0_text passL (pk_cons (pe_ix (kx_ix K) (pv 6) pe_int (fun _ _ => rfl)) pk_nil)) (pa_cons (pe_gK0 G_wish_in gd hr_wish_in B.m_wish_in B.k_wish_in B.K_wish_in_0_text passL (pk_cons (pe_ix (kx_ix K) (pv 6) pe_int (fun _ _ => rfl)) pk_nil)) pa_nil)))) (pa_cons (pe_lst (pa_cons (pv 1) (pa_cons (pv 2) (pa_cons (pv 3) pa_nil)))) pa_nil))))) (pss_one (ps_ret pe_bl)) pss_nil))
    (psst_cons (PST.of (ps_set (i := 8) sc_l_right.nd rfl (by first | exact Or.inl rfl | exact Or.inr rfl) (pe_callTy (kx_tuple K) rfl B.n_tuple (by decide +kernel) (pa_cons (pe_lc (own := [("_law_turn", 4)]) rfl sc_l_right.nd (pi_range1 rfl B.n_range (pa_cons (pe_op (kx_plus K) pe_int (pe_g G_l_draw gd hr_l_draw B.m_l_draw B.k_l_draw B.b_l_draw passL (pa_cons (pv 0) (pa_cons pe_int pa_nil)))) pa_nil)) (blkOk_by (N := ["_law_source", "_law_guests", "_law_tape", "_law_hope", "_law_turn", "_law_top", "_law_due", "_law_found", "_law_large", "_law_words", "_law_arrival", "_law_leaving", "_law_one", "_law_other", "_law_day"]) (sc := defScope s_l_right) (by decide +kernel)) (fun _ _ _ _ _ => (pg_name (i := 4) sc_l_right.nd rfl (by first | exact Or.inl rfl | exact Or.inr rfl))) (fun _ _ _ _ _ => pts_nil) (fun _ _ _ _ _ => (pe_tup (pa_cons (pe_g G_l_draw gd hr_l_draw B.m_l_draw B.k_l_draw B.b_l_draw passL (pa_cons (pv 0) (pa_cons pe_int pa_nil))) (pa_cons (pe_op (kx_plus K) pe_int (pv 4)) pa_nil))))) pa_nil))))
    (psst_cons (PST.of (ps_set (i := 9) sc_l_right.nd rfl (by first | exact Or.inl rfl | exact Or.inr rfl) (pe_m1 PySem.F.slot_str_join PySem.F.type_str_join (kx_join K) pe_str (pe_lc (own := [("_law_arrival", 10), ("_law_leaving", 11)]) rfl sc_l_right.nd (kp_seq K (pv 8)) (blkOk_by (N := ["_law_source", "_law_guests", "_law_tape", "_law_hope", "_law_turn", "_law_top", "_law_due", "_law_found", "_law_large", "_law_words", "_law_arrival", "_law_leaving", "_law_one", "_law_other", "_law_day"]) (sc := defScope s_l_right) (by decide +kernel)) (fun _ _ _ _ _ => (kg_seq (n := 2) K rfl (pgs_cons (pg_name (i := 10) sc_l_right.nd rfl (by first | exact Or.inl rfl | exact Or.inr rfl)) (pgs_cons (pg_name (i := 11) sc_l_right.nd rfl (by first | exact Or.inl rfl | exact Or.inr rfl)) pgs_nil)))) (fun _ _ _ _ _ => pts_nil) (fun _ _ _ _ _ => (pe_op (kx_plus K) (pe_op (kx_plus K) (pe_callTy kx_strI rfl B.n_str (by decide +kernel) (pa_cons (pv 10) pa_nil)) pe_str) (pe_callTy kx_strI rfl B.n_str (by decide +kernel) (pa_cons (pv 11) pa_nil))))))))
    (psst_cons (pst_set (i := 7) sc_l_right.nd rfl (by first | exact Or.inl rfl | exact Or.inr rfl) (pet_lst (pat_cons (CwR.PET.of (pe_g G_stays_in gd hr_stays_in B.m_stays_in B.k_stays_in B.b_stays_in passL (pa_cons (pv 9) pa_nil))) (pat_cons (pet_g G_wish_in gd hr_wish_in B.m_wish_in B.k_wish_in B.b_wish_in passL (pat_cons (CwR.pet_replC (pv 9)) pat_nil)) (pat_cons (CwR.PET.of (pe_g G_stays_text gd hr_stays_text B.m_stays_text B.k_stays_text B.b_stays_text passL (pa_cons (pe_tup pa_nil) pa_nil))) pat_nil))))) (PSsT.of (pss_cons (ps_set (i := 7) sc_l_right.nd rfl (by first | exact Or.inl rfl | exact Or.inr rfl) (pe_op (kx_plus K) (pv 7) (pe_lst (pa_cons (pe_g G_stays_in gd hr_stays_in B.m_stays_in B.k_stays_in B.b_stays_in passL (pa_cons pe_str pa_nil)) (pa_cons (pe_g G_pairs_in gd hr_pairs_in B.m_pairs_in B.k_pairs_in B.b_pairs_in passL (pa_cons pe_str pa_nil)) (pa_cons (pe_g G_wish_in gd hr_wish_in B.m_wish_in B.k_wish_in B.b_wish_in passL (pa_cons pe_str pa_nil)) pa_nil))))))
    (pss_one (ps_ret (pe_g G_l_same gd hr_l_same B.m_l_same B.k_l_same B.b_l_same passL (pa_cons (pv 7) (pa_cons (pe_lst (pa_cons (pv 8) (pa_cons (pe_callB (kx_sumTup K) rfl B.n_sum (by decide +kernel) (pa_cons (pv 8) (pa_cons (pe_tup pa_nil) pa_nil))) (pa_cons pe_str (pa_cons (pe_tup pa_nil) (pa_cons (pe_lst pa_nil) (pa_cons (pe_tup pa_nil) pa_nil))))))) pa_nil)))))))))))))))))))))))))), body_of h ?_⟩
  clear h gd hu hr hg
  intro A ds n Pp eK eE hX hl hc
  subst eK eE
  obtain ⟨a, hb, rfl, hn, hp⟩ := hc
  have p43 : (10 : Int) ^ 40 + 1 ≤ 10 ^ 43 := by decide
  have p41 : (10 : Int) ^ 40 < 10 ^ 50 := by decide
  have p42 : (10 : Int) ^ 40 ≤ 10 ^ 42 := by decide
  refine ds_seq <| ds_set <| de_call0 <| da_cons <| de_var (by rfl) <| da_cons <| de_int <| da_cons <| de_call0 <| da_cons <| de_var (by rfl) <| da_cons <| DE.of_fresh <| df_lst <| da_cons <| de_int <| da_cons <| de_op <| de_int <| de_int <| dr_pow ⟨by decide, by decide, by decide⟩ <| da_cons <| de_op <| de_int <| de_int <| dr_pow ⟨by decide, by decide, by decide⟩ <| da_nil ⟨Nat.le_of_ble_eq_true rfl, da_nil ⟨rfl, a, _, _, hb, rfl, Or.inl rfl, by simp, by simp, by omega, fun k x m1 hx g1 g2 => ?_⟩⟩
  have ht : ∃ t : Int, x = .int t ∧ 0 < t ∧ t ≤ 10 ^ 40 := by
    rcases k with _ | _ | _ | k
    · cases hx; exact ⟨_, rfl, by decide, by decide⟩
    · cases hx; exact ⟨_, rfl, by decide, by decide⟩
    · cases hx; exact ⟨_, rfl, by decide, by decide⟩
    · cases hx
  obtain ⟨t, rfl, t0, t1⟩ := ht
  refine da_nil ⟨rfl, a, 12, t, hb, rfl, by decide, by decide, t0, by omega, by show m1 + 384 * (1 + 12) ≤ _; omega, fun g m2 hg hD g3 g4 => ?_⟩
  have g4 : m2 ≤ m1 + 384 * (1 + 12) := g4
  have gN : ∀ p ∈ g, Nn p := fun p hp => by
    have := hD.1 p hp
    exact ⟨⟨this.1, by omega⟩, by omega, by omega⟩
  have gS : stOk g = true := stOk_days hD
  have gl : g.length ≤ 12 := by omega
  clear hD
  refine ds_seq <| ds_parNil (by decide) (Nat.le_of_ble_eq_true rfl) (Nat.le_of_ble_eq_true rfl) ?_
  refine ds_to (ρ' := [.val (.raw (.ref a)), .val (.tup (g.map pr)), .own [], .own [], .un, .un, .un, .un, .un, .un, .un, .un, .un, .un, .un]) rfl ?_
  refine ds_seq <| ds_for <| di_rng1 <| de_call0 <| da_cons <| de_var (by rfl) <| da_cons <| de_int <| da_nil ⟨rfl, tk hb (by omega) (by omega) (by omega) fun v m3 v0 v1 g5 g6 => ⟨v, rfl, ⟨by omega, by omega⟩, fun i ρ' m => ∃ (tp : List (Int × Int)) (s4 s5 : DL.Slot), ρ' = [.val (.raw (.ref a)), .val (.tup (g.map pr)), .own (tp.map pr), .own [], s4, s5, .un, .un, .un, .un, .un, .un, .un, .un, .un] ∧ tp.length = i ∧ (∀ p ∈ tp, Nn p) ∧ m3 ≤ m ∧ m ≤ m3 + 384 * i, ⟨[], _, _, rfl, rfl, fun p hp => (nomatch hp), Nat.le_refl _, by omega⟩, ?_, ?_⟩⟩
  · rintro i d ρ' m hd ⟨tp, s4, s5, rfl, h1, h2, h3, h4⟩
    have hi : i < v.toNat := by
      have := (List.getElem?_eq_some_iff.mp hd).1
      rw [rng_len] at this
      exact this
    refine dg_name <| ds_seq <| ds_set <| de_call0 <| da_cons <| de_var (by rfl) <| da_cons <| DE.of_fresh <| df_lst <| da_cons <| de_int <| da_cons <| de_op <| de_int <| de_int <| dr_pow ⟨by decide, by decide, by decide⟩ <| da_nil ⟨Nat.le_of_ble_eq_true rfl, da_nil ⟨rfl, a, _, _, hb, rfl, Or.inl rfl, by simp, by simp, by omega, fun k x m4 hx q1 q2 => ?_⟩⟩
    have ht : ∃ t : Int, x = .int t ∧ 0 < t ∧ t ≤ 10 ^ 40 := by
      rcases k with _ | _ | k
      · cases hx; exact ⟨_, rfl, by decide, by decide⟩
      · cases hx; exact ⟨_, rfl, by decide, by decide⟩
      · cases hx
    obtain ⟨t, rfl, t0, t1⟩ := ht
    refine ds_app (by rfl) <| de_tup <| da_cons <| de_call0 <| da_cons <| de_var (by rfl) <| da_cons <| de_var (by rfl) <| da_nil ⟨rfl, tk hb t0 (by omega) (by omega) fun x1 m5 a0 a1 q3 q4 => da_cons <| de_call0 <| da_cons <| de_var (by rfl) <| da_cons <| de_var (by rfl) <| da_nil ⟨rfl, tk hb t0 (by omega) (by omega) fun x2 m6 b0 b1 q5 q6 => da_nil ⟨Nat.le_of_ble_eq_true rfl, by rw [List.length_map]; omega, tp ++ [(x1, x2)], .val (.int (0 + (i : Int))), .val (.int t), ?_, by rw [List.length_append, h1]; rfl, fun p hp => ?_, by omega, by omega⟩⟩⟩
    · rw [rng_get hi] at hd
      cases hd
      rw [List.map_append]
      rfl
    · rcases List.mem_append.mp hp with hp | hp
      · exact h2 p hp
      · cases List.mem_singleton.mp hp
        exact ⟨⟨a0, by omega⟩, b0, by omega⟩
  rintro ρ' m7 ⟨tp, s4, s5, rfl, h1, tN, h3, h4⟩
  rw [rng_len] at h1 h4
  have tl : tp.length ≤ 20 := by omega
  have hm7 : m7 ≤ n + 14000 := by omega
  have hn7 : n ≤ m7 := by omega
  clear h1 h3 h4
  refine ds_seq <| ds_for <| di_rng1 <| de_call0 <| da_cons <| de_var (by rfl) <| da_cons <| de_int <| da_nil ⟨rfl, tk hb (by omega) (by omega) (by omega) fun v m3 v0 v1 g5 g6 => ⟨v, rfl, ⟨by omega, by omega⟩, fun i ρ' m => ∃ (os : List (Option Int)) (s4 s5 : DL.Slot), ρ' = [.val (.raw (.ref a)), .val (.tup (g.map pr)), .own (tp.map pr), .own (os.map DL.optD), s4, s5, .un, .un, .un, .un, .un, .un, .un, .un, .un] ∧ os.length = i ∧ (∀ o ∈ os, OkO o) ∧ m3 ≤ m ∧ m ≤ m3 + 384 * i, ⟨[], _, _, rfl, rfl, fun p hp => (nomatch hp), Nat.le_refl _, by omega⟩, ?_, ?_⟩⟩
  · rintro i d ρ' m hd ⟨os, s4, s5, rfl, h1, h2, h3, h4⟩
    have hi : i < v.toNat := by
      have := (List.getElem?_eq_some_iff.mp hd).1
      rw [rng_len] at this
      exact this
    refine dg_name <| ds_app (by rfl) <| de_call0 <| da_cons <| de_var (by rfl) <| da_cons <| DE.of_fresh <| df_lst <| da_cons <| de_non <| da_cons <| de_call0 <| da_cons <| de_var (by rfl) <| da_cons <| de_op <| de_int <| de_int <| dr_pow ⟨by decide, by decide, by decide⟩ <| da_nil ⟨rfl, tk hb (by decide) (by decide) (by omega) fun y1 m4 a0 a1 q1 q2 => da_cons <| de_call0 <| da_cons <| de_var (by rfl) <| da_cons <| de_int <| da_nil ⟨rfl, tk hb (by omega) (by omega) (by omega) fun y2 m5 b0 b1 q3 q4 => da_nil ⟨Nat.le_of_ble_eq_true rfl, da_nil ⟨rfl, a, _, _, hb, rfl, Or.inl rfl, by simp, by simp, by omega, fun k x m6 hx q5 q6 => ?_⟩⟩⟩⟩
    have a1 : y1 < 10 ^ 40 := a1
    have ho : ∃ o, x = DL.optD o ∧ OkO o := by
      rcases k with _ | _ | _ | k
      · cases hx; exact ⟨none, rfl, fun i e => nomatch e⟩
      · cases hx; exact ⟨some y1, rfl, fun i e => by cases e; exact ⟨a0, by omega⟩⟩
      · cases hx; exact ⟨some y2, rfl, fun i e => by cases e; exact ⟨b0, by omega⟩⟩
      · cases hx
    obtain ⟨o, rfl, ho⟩ := ho
    refine ⟨by rw [List.length_map]; omega, os ++ [o], .val (.int (0 + (i : Int))), s5, ?_, by rw [List.length_append, h1]; rfl, fun p hp => ?_, by omega, by omega⟩
    · rw [rng_get hi] at hd
      cases hd
      rw [List.map_append]
      rfl
    · rcases List.mem_append.mp hp with hp | hp
      · exact h2 p hp
      · cases List.mem_singleton.mp hp
        exact ho
  rintro ρ' m8 ⟨os, s4, s5, rfl, h1, oN, h3, h4⟩
  rw [rng_len] at h1 h4
  have ol : os.length ≤ 13 := by omega
  have hm8 : m8 ≤ n + 20000 := by omega
  have hn8 : n ≤ m8 := by omega
  clear h1 h3 h4
  refine ds_seq <| ds_set <| de_tupOwn (i := 3) (by rfl) ?_
  refine ds_frz (i := 2) rfl ?_
  refine ds_to (ρ' := [.val (.raw (.ref a)), .val (.tup (g.map pr)), .val (.lst (tp.map pr)), .val (.tup (os.map DL.optD)), s4, s5, .un, .un, .un, .un, .un, .un, .un, .un, .un]) rfl ?_
  have wg := Wsz.pairs (s := sDash) (Or.inl rfl) (l := g) (by omega) gN
  have wt' := Wsz.pairs (s := sSlash) (Or.inr rfl) (l := tp) (by omega) tN
  have wo := Wsz.wish (os := os) (by omega) oN
  refine ds_seq <| ds_setOwn <| df_lst <| da_cons <| de_call0 <| da_cons <| DE.of_fresh <| df_map g (fun p => D.str (pairW sDash p)) (gw_seq (gws_cons gmono_name (gw_name (by decide)) (gws_cons gmono_name (gw_name (by decide)) gws_nil))) (by omega) <| di_seq <| de_var (by rfl) ⟨_, Or.inr rfl, by rw [List.length_map], fun i e p h1 h2 => ?_, da_nil ⟨rfl, g.map (pairW sDash), by rw [List.map_map]; rfl, wg, da_nil ⟨Nat.le_of_ble_eq_true rfl, ?_⟩⟩⟩
  · rw [List.getElem?_map, h2] at h1
    cases h1
    exact dg_seq (Or.inr rfl) rfl <| dgs_cons <| dg_name <| dgs_cons <| dg_name <| dgs_nil <| de_pairW (Or.inl rfl) (gN p (List.mem_of_getElem? h2)) rfl rfl ⟨rfl, rfl⟩
  refine ds_seq <| ds_app (by rfl) <| de_call0 <| da_cons <| DE.of_fresh <| df_map tp (fun p => D.str (pairW sSlash p)) (gw_seq (gws_cons gmono_name (gw_name (by decide)) (gws_cons gmono_name (gw_name (by decide)) gws_nil))) (by omega) <| di_seq <| de_var (by rfl) ⟨_, Or.inl rfl, by rw [List.length_map], fun i e p h1 h2 => ?_, da_nil ⟨rfl, tp.map (pairW sSlash), by rw [List.map_map]; rfl, wt', by simp, ?_⟩⟩
  · rw [List.getElem?_map, h2] at h1
    cases h1
    exact dg_seq (Or.inr rfl) rfl <| dgs_cons <| dg_name <| dgs_cons <| dg_name <| dgs_nil <| de_pairW (Or.inr rfl) (tN p (List.mem_of_getElem? h2)) rfl rfl ⟨rfl, rfl⟩
  refine ds_seq <| ds_app (by rfl) <| de_call0 <| da_cons <| DE.of_fresh <| df_map os (fun o => D.str (wishW o)) (gw_name (by decide)) (by omega) <| di_seq <| de_var (by rfl) ⟨_, Or.inr rfl, by rw [List.length_map], fun i e o h1 h2 => ?_, da_nil ⟨rfl, os.map wishW, by rw [List.map_map]; rfl, wo, by simp, ?_⟩⟩
  · rw [List.getElem?_map, h2] at h1
    cases h1
    have hon := oN o (List.mem_of_getElem? h2)
    have p50 : (10 : Int) ^ 50 < 10 ^ 68 := by decide
    cases o with
    | none => exact dg_name (de_if (dt_test (de_isN (de_var (by rfl) ⟨true, rfl, if2t rfl (de_str ⟨rfl, rfl⟩)⟩))))
    | some i =>
      have := hon i rfl
      exact dg_name (de_if (dt_test (de_isN (de_var (by rfl) ⟨false, rfl, if2f rfl (de_strI (de_var (by rfl) ⟨i, rfl, by omega, rfl, rfl⟩))⟩))))
  refine ds_frz (i := 6) rfl ?_
  refine ds_to (ρ' := [.val (.raw (.ref a)), .val (.tup (g.map pr)), .val (.lst (tp.map pr)), .val (.tup (os.map DL.optD)), s4, s5, .val (.lst [.str (textW (g.map (pairW sDash))), .str (textW (tp.map (pairW sSlash))), .str (textW (os.map wishW))]), .un, .un, .un, .un, .un, .un, .un, .un]) rfl ?_
  refine ds_seq <| ds_setOwn <| df_lst <| da_cons <| de_call0 <| da_cons <| de_var (by rfl) <| da_nil ⟨rfl, _, g, rfl, Rws.of (Or.inr rfl), by omega, gN, da_cons <| de_call0 <| da_cons <| de_var (by rfl) <| da_nil ⟨rfl, _, tp, rfl, Rws.of (Or.inl rfl), by omega, tN, da_cons <| de_call0 <| da_cons <| de_var (by rfl) <| da_nil ⟨rfl, _, os, rfl, Or.inr rfl, by omega, oN, da_nil ⟨Nat.le_of_ble_eq_true rfl, ?_⟩⟩⟩⟩
  refine ds_seq <| ds_app (i := 7) (by rfl) <| de_callK0 kg_stays_text_0_stays puts_stays_text_0_stays <| da_nil <| da_cons <| de_call0 <| da_cons <| de_var (by rfl) <| da_nil ⟨rfl, _, rfl, Dep.tupP (by omega), ?_⟩
  rw [softD_line]
  refine da_nil ⟨rfl, _, g, rfl, Rws.ofL (Or.inl rfl), by omega, gN, by simp, ?_⟩
  refine ds_frz (i := 7) rfl ?_
  refine ds_to (ρ' := [.val (.raw (.ref a)), .val (.tup (g.map pr)), .val (.lst (tp.map pr)), .val (.tup (os.map DL.optD)), s4, s5, .val (.lst [.str (textW (g.map (pairW sDash))), .str (textW (tp.map (pairW sSlash))), .str (textW (os.map wishW))]), .val (.lst [.str (textW (g.map (pairW sDash))), .str (textW (tp.map (pairW sSlash))), .str (textW (os.map wishW)), .str (textW (g.map (pairW sDash)))]), .un, .un, .un, .un, .un, .un, .un]) rfl ?_
  refine ds_seq <| ds_set <| de_op <| de_var (by rfl) <| DE.of_fresh <| df_lst <| da_cons <| de_callK0 kg_pairs_text_0_pairs puts_pairs_text_0_pairs <| da_nil <| da_cons <| de_tupOf <| de_call0 <| da_cons <| de_var (by rfl) <| da_nil ⟨rfl, _, rfl, Dep.lstP (by omega), ?_⟩
  rw [soft_lst]
  refine ⟨_, Or.inl rfl, da_nil ⟨rfl, _, tp, rfl, Rws.ofL (Or.inr rfl), by omega, tN, da_cons <| de_callK0 kg_wish_text_0_wish puts_wish_text_0_wish <| da_nil <| da_cons <| DE.of_fresh <| df_listOf <| de_var (by rfl) ⟨_, Or.inr rfl, da_nil ⟨rfl, _, os, rfl, Or.inl rfl, by omega, oN, da_nil ⟨Nat.le_of_ble_eq_true rfl, dr_plusL (Nat.le_of_ble_eq_true rfl) ?_⟩⟩⟩⟩⟩
  refine ds_to (ρ' := [.val (.raw (.ref a)), .val (.tup (g.map pr)), .val (.lst (tp.map pr)), .val (.tup (os.map DL.optD)), s4, s5, .val (.lst [.str (textW (g.map (pairW sDash))), .str (textW (tp.map (pairW sSlash))), .str (textW (os.map wishW))]), .val (.lst [.str (textW (g.map (pairW sDash))), .str (textW (tp.map (pairW sSlash))), .str (textW (os.map wishW)), .str (textW (g.map (pairW sDash))), .str (textW (tp.map (pairW sSlash))), .str (textW (os.map wishW))]), .un, .un, .un, .un, .un, .un, .un]) rfl ?_
  refine ds_seq <| ds_if <| dt_not <| dt_test <| de_call0 <| da_cons <| de_var (by rfl) <| da_cons <| de_op <| de_var (by rfl) <| de_var (by rfl) <| dr_plusL (Nat.le_of_ble_eq_true rfl) <| da_nil ⟨rfl, .lst [.str (textW (g.map (pairW sDash))), .str (textW (tp.map (pairW sSlash))), .str (textW (os.map wishW)), .str (textW (g.map (pairW sDash))), .str (textW (tp.map (pairW sSlash))), .str (textW (os.map wishW))], rfl, Dep.strs (by simp) (fun x hx => by simp only [List.mem_cons, List.not_mem_nil, or_false] at hx; rcases hx with rfl | rfl | rfl | rfl | rfl | rfl <;> exact ⟨_, rfl⟩), _, rfl, if2f rfl (ds_next ?_)⟩
  have rS := readS_text gN gS
  have rP := readP_text (s := sSlash) (Or.inr rfl) tN
  have rW := readW_text oN
  have lg := text_len wg
  have lt := text_len wt'
  have lo := text_len wo
  have d3 := Dep.three (g := g) (tp := tp) (os := os) (by omega) (by omega) (by omega)
  refine ds_told3 (v := .str (Str.ofString "more")) (Nat.le_of_ble_eq_true rfl) (fun _ _ _ q => q) <| de_call0 <| da_cons <| de_op <| de_var (by rfl) <| de_int <| dr_ix (x := .str (textW (g.map (pairW sDash)))) (Or.inl rfl) (by decide) rfl <| da_nil ⟨rfl, _, g, rfl, lg, rS, by omega, df_call0F <| da_cons <| de_op <| de_var (by rfl) <| de_int <| dr_ix (x := .str (textW (tp.map (pairW sSlash)))) (Or.inl rfl) (by decide) rfl <| da_nil ⟨rfl, _, tp, rfl, lt, rP, _, rfl, de_call0 <| da_cons <| de_op <| de_var (by rfl) <| de_int <| dr_ix (x := .str (textW (os.map wishW))) (Or.inl rfl) (by decide) rfl <| da_nil ⟨rfl, _, _, rfl, lo, rW, by rw [List.length_map]; omega, dt_not <| dt_test <| de_call0 <| da_cons <| de_var (by rfl) <| da_cons <| DE.of_fresh <| df_lst <| da_cons <| de_var (by rfl) <| da_cons <| de_var (by rfl) <| da_cons <| de_var (by rfl) <| da_nil ⟨Nat.le_of_ble_eq_true rfl, da_nil ⟨rfl, _, rfl, d3, _, rfl, rfl, ?_⟩⟩⟩⟩⟩
  refine ds_to (ρ' := [.val (.raw (.ref a)), .val (.tup (g.map pr)), .val (.lst (tp.map pr)), .val (.tup (os.map DL.optD)), s4, s5, .val (.lst [.str (textW (g.map (pairW sDash))), .str (textW (tp.map (pairW sSlash))), .str (textW (os.map wishW))]), .un, .un, .un, .un, .un, .un, .un, .un]) rfl ?_
  refine ds_seq <| ds_if <| dt_not <| dt_test <| de_call0 <| da_cons <| DE.of_fresh <| df_lst <| da_cons <| de_callK0 kg_stays_in_0_text puts_stays_in_0_text <| da_nil <| da_cons <| de_op <| de_var (by rfl) <| de_int <| dr_ix (x := .str (textW (g.map (pairW sDash)))) (Or.inl rfl) (by decide) rfl <| da_nil ⟨rfl, _, g, rfl, lg, rS, by omega, da_cons <| de_callK0F kg_pairs_in_0_text puts_pairs_in_0_text <| da_nil <| da_cons <| de_op <| de_var (by rfl) <| de_int <| dr_ix (x := .str (textW (tp.map (pairW sSlash)))) (Or.inl rfl) (by decide) rfl <| da_nil ⟨rfl, _, tp, rfl, lt, rP, _, rfl, da_cons <| de_callK0 kg_wish_in_0_text puts_wish_in_0_text <| da_nil <| da_cons <| de_op <| de_var (by rfl) <| de_int <| dr_ix (x := .str (textW (os.map wishW))) (Or.inl rfl) (by decide) rfl <| da_nil ⟨rfl, _, _, rfl, lo, rW, da_nil ⟨Nat.le_of_ble_eq_true rfl, da_cons <| DE.of_fresh <| df_lst <| da_cons <| de_var (by rfl) <| da_cons <| de_var (by rfl) <| da_cons <| de_var (by rfl) <| da_nil ⟨Nat.le_of_ble_eq_true rfl, da_nil ⟨rfl, _, rfl, d3, _, rfl, if2f rfl (ds_next ?_)⟩⟩⟩⟩⟩⟩
  refine ds_seq <| ds_set <| de_tupOf <| DE.of_fresh <| df_lc (gw_name (by decide)) <| di_rng1 <| de_op <| de_int <| de_call0 <| da_cons <| de_var (by rfl) <| da_cons <| de_int <| da_nil ⟨rfl, tk hb (by omega) (by omega) (by omega) fun v m9 v0 v1 g5 g6 => dr_plusI ⟨_, rfl, ⟨by omega, by omega⟩, fun i acc m => ∃ l : List (Int × Int), acc = l.map pr ∧ l.length = i ∧ (∀ (j : Nat) p, l[j]? = some p → 0 ≤ p.1 ∧ p.1 < 90 ∧ p.2 = 100 + (j : Int)) ∧ m9 ≤ m ∧ m ≤ m9 + 128 * i, ⟨[], rfl, rfl, fun j p h => (by simp at h), Nat.le_refl _, by omega⟩, by rw [rng_len]; omega, ?_, ?_⟩⟩
  · rintro i d acc m hd hl ⟨l, rfl, h1, h2, h3, h4⟩
    have hi : i < (13 + v).toNat := by
      have := (List.getElem?_eq_some_iff.mp hd).1
      rw [rng_len] at this
      exact this
    rw [rng_get hi] at hd
    cases hd
    refine dg_name <| dt_yes <| if2t rfl <| de_tup <| da_cons <| de_call0 <| da_cons <| de_var (by rfl) <| da_cons <| de_int <| da_nil ⟨rfl, tk hb (by omega) (by omega) (by omega) fun u m4 u0 u1 q1 q2 => da_cons <| de_op <| de_int <| de_var (by rfl) <| dr_plusI <| da_nil ⟨Nat.le_of_ble_eq_true rfl, l ++ [(u, 100 + (0 + (i : Int)))], by rw [List.map_append]; rfl, by rw [List.length_append, h1]; rfl, fun j p hj => ?_, by omega, by omega⟩⟩
    by_cases c : j < l.length
    · rw [List.getElem?_append_left c] at hj
      exact h2 j p hj
    · rw [List.getElem?_append_right (by omega)] at hj
      have hj0 : j - l.length = 0 := by
        have := (List.getElem?_eq_some_iff.mp hj).1
        simp only [List.length_cons, List.length_nil] at this
        omega
      rw [hj0] at hj
      cases hj
      refine ⟨u0, u1, ?_⟩
      show 100 + (0 + (i : Int)) = 100 + (j : Int)
      omega
  rintro acc m10 ⟨l, rfl, h1, h2, h3, h4⟩
  rw [rng_len] at h1 h4
  have hm10 : m10 ≤ n + 600000 := by omega
  have hn10 : n ≤ m10 := Nat.le_trans hn8 (by omega)
  have ll : l.length ≤ 60 := by omega
  have ne : l ≠ [] := fun e => by
    rw [e] at h1
    simp only [List.length_nil] at h1
    omega
  have lN : ∀ p ∈ l, Nn p := fun p hp => by
    obtain ⟨j, hj⟩ := List.mem_iff_getElem?.mp hp
    have := h2 j p hj
    have hjl := (List.getElem?_eq_some_iff.mp hj).1
    have p50 : (1000 : Int) < 10 ^ 50 := by decide
    exact ⟨⟨this.1, by omega⟩, by omega, by omega⟩
  have lS : stOk l = true := by
    unfold stOk
    rw [Bool.and_eq_true]
    refine ⟨List.all_eq_true.mpr fun p hp => ?_, decide_eq_true ?_⟩
    · obtain ⟨j, hj⟩ := List.mem_iff_getElem?.mp hp
      have := h2 j p hj
      exact decide_eq_true (by omega)
    · refine List.pairwise_iff_getElem.mpr fun i j hi hj hij => ?_
      rw [List.length_map] at hi hj
      rw [List.getElem_map, List.getElem_map]
      have e1 := h2 i l[i] (by simp [hi])
      have e2 := h2 j l[j] (by simp [hj])
      omega
  clear h1 h2 h3 h4
  refine ⟨_, Or.inl rfl, ?_⟩
  refine ds_to (ρ' := [.val (.raw (.ref a)), .val (.tup (g.map pr)), .val (.lst (tp.map pr)), .val (.tup (os.map DL.optD)), s4, s5, .val (.lst [.str (textW (g.map (pairW sDash))), .str (textW (tp.map (pairW sSlash))), .str (textW (os.map wishW))]), .un, .val (.tup (l.map pr)), .un, .un, .un, .un, .un, .un]) rfl ?_
  have wl := Wsz.pairs (s := sDash) (Or.inl rfl) (l := l) (by omega) lN
  have eW : Txt.join sGap (l.map (pairW sDash)) = textW (l.map (pairW sDash)) := (if_neg fun e => ne (List.map_eq_nil_iff.mp e)).symm
  have fl : (flat2 l).length = 2 * l.length := flat_len l
  have fO : ∀ o ∈ (flat2 l).map some, OkO o := fun o ho i e => by
    obtain ⟨x, hx, rfl⟩ := List.mem_map.mp ho
    cases e
    unfold flat2 at hx
    obtain ⟨q, hq, hx⟩ := List.mem_flatten.mp hx
    obtain ⟨p, hp, rfl⟩ := List.mem_map.mp hq
    rcases List.mem_cons.mp hx with rfl | hx
    · exact (lN p hp).1
    · cases List.mem_singleton.mp hx
      exact (lN p hp).2
  have wf := Wsz.wish (os := (flat2 l).map some) (by rw [List.length_map]; omega) fO
  have eF : ((flat2 l).map some).map DL.optD = (flat2 l).map D.int := by rw [List.map_map]; rfl
  have t0 : textW [] = sDash := if_pos rfl
  refine ds_seq <| ds_set <| de_join <| de_str ⟨_, rfl, DE.of_fresh <| df_map l (fun p => D.str (pairW sDash p)) (gw_seq (gws_cons gmono_name (gw_name (by decide)) (gws_cons gmono_name (gw_name (by decide)) gws_nil))) (by omega) <| di_seq <| de_var (by rfl) ⟨_, Or.inr rfl, by rw [List.length_map], fun i e p h1 h2 => ?_, l.map (pairW sDash), Or.inl (by rw [List.map_map]; rfl), wl.sum, ?_⟩⟩
  · rw [List.getElem?_map, h2] at h1
    cases h1
    exact dg_seq (Or.inr rfl) rfl <| dgs_cons <| dg_name <| dgs_cons <| dg_name <| dgs_nil <| de_pairW (Or.inl rfl) (lN p (List.mem_of_getElem? h2)) rfl rfl ⟨rfl, rfl⟩
  refine ds_to (ρ' := [.val (.raw (.ref a)), .val (.tup (g.map pr)), .val (.lst (tp.map pr)), .val (.tup (os.map DL.optD)), s4, s5, .val (.lst [.str (textW (g.map (pairW sDash))), .str (textW (tp.map (pairW sSlash))), .str (textW (os.map wishW))]), .un, .val (.tup (l.map pr)), .val (.str (Txt.join sGap (l.map (pairW sDash)))), .un, .un, .un, .un, .un]) rfl ?_
  have jl : (Txt.join sGap (l.map (pairW sDash))).length ≤ 40000 := by rw [eW]; exact wl.len
  have rlt : (Txt.replace (Txt.join sGap (l.map (pairW sDash))) sDash sGap).length ≤ 50000 := by rw [repl_text lN ne]; exact text_len wf
  have rS1 : readS (Txt.join sGap (l.map (pairW sDash))) = some l := by rw [eW]; exact readS_text lN lS
  have rW1 : readW (Txt.replace (Txt.join sGap (l.map (pairW sDash))) sDash sGap) = some ((flat2 l).map D.int) := by
    rw [repl_text lN ne, ← eF]
    exact readW_text fO
  refine ds_seq <| ds_set <| DE.of_fresh <| df_lst <| da_cons <| de_call0 <| da_cons <| de_var (by rfl) <| da_nil ⟨rfl, _, l, rfl, by omega, rS1, by omega, da_cons <| de_call0 <| da_cons <| de_repl <| de_var (by rfl) ⟨_, rfl, by show _ + (_ + 1) * 1 ≤ _; omega, da_nil ⟨rfl, _, _, rfl, rlt, rW1, da_cons <| de_call0 <| da_cons <| de_tup <| da_nil ⟨Nat.le_of_ble_eq_true rfl, da_nil ⟨rfl, _, [], rfl, Rws.of (l := []) (Or.inr rfl), by simp, fun p hp => (nomatch hp), da_nil ⟨Nat.le_of_ble_eq_true rfl, ?_⟩⟩⟩⟩⟩⟩
  refine ds_to (ρ' := [.val (.raw (.ref a)), .val (.tup (g.map pr)), .val (.lst (tp.map pr)), .val (.tup (os.map DL.optD)), s4, s5, .val (.lst [.str (textW (g.map (pairW sDash))), .str (textW (tp.map (pairW sSlash))), .str (textW (os.map wishW))]), .val (.lst [.tup (l.map pr), .tup ((flat2 l).map D.int), .str sDash]), .val (.tup (l.map pr)), .val (.str (Txt.join sGap (l.map (pairW sDash)))), .un, .un, .un, .un, .un]) rfl ?_
  have rS0 : readS sDash = some [] := by rw [← t0]; exact readS_text (l := []) (fun p hp => (nomatch hp)) rfl
  have rP0 : readP sSlash sDash = some [] := by rw [← t0]; exact readP_text (s := sSlash) (l := []) (Or.inr rfl) (fun p hp => (nomatch hp))
  have rW0 : readW sDash = some [] := by rw [← t0]; exact readW_text (os := []) (fun p hp => (nomatch hp))
  have l0 : sDash.length ≤ 50000 := by decide +kernel
  refine ds_seq <| ds_set <| de_op <| de_var (by rfl) <| DE.of_fresh <| df_lst <| da_cons <| de_call0 <| da_cons <| de_str <| da_nil ⟨rfl, sDash, [], rfl, l0, rS0, by simp, da_cons <| DE.of_fresh <| df_call0F <| da_cons <| de_str <| da_nil ⟨rfl, sDash, [], rfl, l0, rP0, _, rfl, da_cons <| de_call0 <| da_cons <| de_str <| da_nil ⟨rfl, sDash, [], rfl, l0, rW0, da_nil ⟨Nat.le_of_ble_eq_true rfl, dr_plusL (Nat.le_of_ble_eq_true rfl) ?_⟩⟩⟩⟩
  refine ds_to (ρ' := [.val (.raw (.ref a)), .val (.tup (g.map pr)), .val (.lst (tp.map pr)), .val (.tup (os.map DL.optD)), s4, s5, .val (.lst [.str (textW (g.map (pairW sDash))), .str (textW (tp.map (pairW sSlash))), .str (textW (os.map wishW))]), .val (.lst [.tup (l.map pr), .tup ((flat2 l).map D.int), .str sDash, .tup [], .lst [], .tup []]), .val (.tup (l.map pr)), .val (.str (Txt.join sGap (l.map (pairW sDash)))), .un, .un, .un, .un, .un]) rfl ?_
  refine ds_ret <| de_call0 <| da_cons <| de_var (by rfl) <| da_cons <| DE.of_fresh <| df_lst <| da_cons <| de_var (by rfl) <| da_cons <| de_sumTup <| de_var (by rfl) ⟨l.map fun p => [p.1, p.2], by rw [List.map_map]; rfl, fun xs hx => ?_, by have := fl; unfold flat2 at this; omega, de_tup <| da_nil ⟨Nat.le_of_ble_eq_true rfl, rfl, da_cons <| de_str <| da_cons <| de_tup <| da_nil ⟨Nat.le_of_ble_eq_true rfl, da_cons <| DE.of_fresh <| df_lst <| da_nil ⟨Nat.le_of_ble_eq_true rfl, da_cons <| de_tup <| da_nil ⟨Nat.le_of_ble_eq_true rfl, da_nil ⟨Nat.le_of_ble_eq_true rfl, da_nil ⟨rfl, _, rfl, ?_, hp _ hn10 hm10⟩⟩⟩⟩⟩⟩⟩
  · obtain ⟨p, _, rfl⟩ := List.mem_map.mp hx
    exact List.cons_ne_nil _ _
  · refine Dep.lst (by simp) fun x hx => ?_
    simp only [List.mem_cons, List.not_mem_nil, or_false] at hx
    rcases hx with rfl | rfl | rfl | rfl | rfl | rfl
    · exact Dep.tupP (by omega)
    · exact Dep.tup (by rw [List.length_map]; have := fl; unfold flat2 at this; omega) fun y hy => by
        obtain ⟨i, _, rfl⟩ := List.mem_map.mp hy
        exact Dep.int
    · exact Dep.strI
    · exact Dep.tup (by simp) fun y hy => (nomatch hy)
    · exact Dep.lst (by simp) fun y hy => (nomatch hy)
    · exact Dep.tup (by simp) fun y hy => (nomatch hy)
--@@split
theorem g_law (B : Tx K mg) (G_l_folded : FnG P w K mg base 1 B.a_l_folded B.fd_l_folded ["_law_script", "_law_most"] (spCells K)) (G_l_stream : FnG P w K mg base 1 B.a_l_stream B.fd_l_stream ["_law_script", "_law_k"] (spBox K)) (G_l_right : FnG P w K mg base 14 B.a_l_right B.fd_l_right ["_law_source"] (spOf K 1 C_l_right)) : FnG P w K mg base 17 B.a_law B.fd_law ["_law_script"] (spLaw K) := by
  refine FnG.of B.F_law sc_law (fun _ _ _ _ h => spLaw_len h) (fun cdv Ar outer s H vs Q E hg hr h => ?_)
  have gd : (Ar.deeper (envOfC "law" (defScope s_law) s.heap.objs.size B.a_law cdv)).guards = some [] := (deeper_guards Ar _).trans hg
  have hu : (Ar.deeper (envOfC "law" (defScope s_law) s.heap.objs.size B.a_law cdv)).units + 64 < cLine := by have := hr.un; omega
  have hr_l_folded := hr.mono (show 1 ≤ _ by decide)
  have hr_l_stream := hr.mono (show 1 ≤ _ by decide)
  have hr_l_right := hr.mono (show 14 ≤ _ by decide)
  refine ⟨_, (pss_cons (ps_set (i := 1) sc_law.nd rfl (by first | exact Or.inl rfl | exact Or.inr rfl) (pe_g G_l_folded gd hr_l_folded B.m_l_folded B.k_l_folded B.b_l_folded passL (pa_cons (pv 0) (pa_cons pe_int pa_nil))))
    (pss_cons (ps_for (passes_of rfl) rfl (pi_range1 rfl B.n_range (pa_cons (pe_callB (kx_len K) rfl B.n_len PySem.boot_len (pa_cons (pv 1) pa_nil)) pa_nil)) (pg_name (i := 2) sc_law.nd rfl (by first | exact Or.inl rfl | exact Or.inr rfl)) (pss_cons (ps_set (i := 3) sc_law.nd rfl (by first | exact Or.inl rfl | exact Or.inr rfl) (pe_g G_l_stream gd hr_l_stream B.m_l_stream B.k_l_stream B.b_l_stream passL (pa_cons (pv 1) (pa_cons (pv 2) pa_nil))))
    (pss_one (ps_if (pt_not (pt_val (pe_callB (kx_all K) rfl B.n_all (by decide +kernel) (pa_cons (pe_lc (own := [("_law_turn", 4)]) rfl sc_law.nd (pi_range1 rfl B.n_range (pa_cons pe_int pa_nil)) (blkOk_by (N := ["_law_script", "_law_cells", "_law_k", "_law_source", "_law_turn"]) (sc := defScope s_law) (by decide +kernel)) (fun _ _ _ _ _ => (pg_name (i := 4) sc_law.nd rfl (by first | exact Or.inl rfl | exact Or.inr rfl))) (fun _ _ _ _ _ => pts_nil) (fun _ _ _ _ _ => (pe_g G_l_right gd hr_l_right B.m_l_right B.k_l_right B.b_l_right passL (pa_cons (pv 3) pa_nil)))) pa_nil)))) (pss_one (ps_ret pe_bl)) pss_nil))))
    (pss_one (ps_ret pe_bl)))), ?_⟩
  clear gd hu hr hg
  obtain ⟨a, ns, ⟨rfl, tab⟩, hS, hz, hq⟩ := h
  refine raw_body (K := K) (E := E) (S := fun _ => none) (ds := [.raw (.ref a)]) (fun _ _ z => nomatch z) tab (Reps.one Rep.raw) (P := fun d _ => d = .bl true) ?_ (fun v d S' H' m mv e' r h1 => by subst h1; rw [r.bl_inv]; exact hq H')
  refine ds_seq (ds_cells rfl hS hz rfl fun cs c0 c1 => ?_)
  refine ds_seq (ds_for (di_rng1 (de_len (de_var rfl ⟨_, Or.inl rfl, _, rfl, ⟨by omega, by rw [List.length_map]; omega⟩, fun i ρ' m => ∃ s2, ρ' = [.val (.raw (.ref a)), .val (.lst (cs.map D.int)), s2, .un, .un] ∧ noOwn [s2] = true ∧ m = 0, ⟨_, rfl, rfl, rfl⟩, ?_, ?_⟩))))
  · rintro i d ρ' m hd ⟨s2, rfl, hs, rfl⟩
    have hi : i < cs.length := by
      have := (List.getElem?_eq_some_iff.mp hd).1
      rw [rng_len, List.length_map] at this
      omega
    rw [rng_get (by rw [List.length_map]; omega)] at hd
    cases hd
    have e0 : (0 : Int) + (i : Int) = (i : Int) := by omega
    rw [e0]
    refine dg_name (ds_box rfl rfl rfl rfl hi (by omega) (fun A' eK a' hb => ?_) ⟨_, rfl, rfl, rfl⟩)
    have eK : A'.K = K := eK
    subst eK
    refine dt_B (de_all (DE.of_fresh (df_lc (gw_name (by decide)) (di_rng1 (de_int ⟨2, rfl, ⟨by decide, by decide⟩, fun i acc m => acc = List.replicate i (.bl true) ∧ m ≤ 600000 * i, ⟨rfl, Nat.zero_le _⟩, Nat.le_of_ble_eq_true rfl, ?_, ?_⟩)))))
    · rintro j d acc m hd hl ⟨rfl, hm⟩
      have hj : j < 2 := by
        have := (List.getElem?_eq_some_iff.mp hd).1
        rw [rng_len] at this
        exact this
      refine dg_name (dt_yes (if2t rfl ?_))
      exact de_call0 (da_cons (de_var (by rfl) (da_nil ⟨rfl, a', hb, rfl, by omega, fun m' h1 h2 => ⟨List.replicate_succ'.symm, by omega⟩⟩)))
    · rintro acc m ⟨rfl, hm⟩
      exact ⟨List.replicate 2 true, rfl, true, rfl, rfl⟩
  · rintro ρ' m ⟨s2, rfl, hs, rfl⟩
    walk_at "E"
    rfl
theorem lists_all (B : Tx K mg) : ∀ d : Nat, FnG P w K mg base (d + 1) B.a_l_lists B.fd_l_lists ["_law_thing"] (spOf K 1 (C_lists d))
  | 0 => g_l_lists (k := 0) (kk := 0) (ks := 0) (Cs := fun _ _ _ _ _ => False) B (by decide) (by decide) FnG.void (Or.inr rfl)
  | d + 1 => g_l_lists (k := d + 1) (kk := d + 1) (ks := d + 1) (Cs := C_lists d) B (by omega) (by omega) (lists_all B d) (Or.inl ⟨d, rfl, rfl⟩)
theorem same_all (B : Tx K mg) : ∀ d : Nat, FnG P w K mg base (d + 1) B.a_l_same B.fd_l_same ["_law_found", "_law_due"] (spOf K 2 (C_same d))
  | 0 => g_l_same (k := 0) (kk := 0) (ks := 0) (Cs := fun _ _ _ _ _ => False) B (by decide) (by decide) FnG.void (Or.inr rfl)
  | d + 1 => g_l_same (k := d + 1) (kk := d + 1) (ks := d + 1) (Cs := C_same d) B (by omega) (by omega) (same_all B d) (Or.inl ⟨d, rfl, rfl⟩)
theorem law_all (B : Tx K mg) : FnG P w K mg base 17 B.a_law B.fd_law ["_law_script"] (spLaw K) := by
  have take := take_all (P := P) (w := w) (base := base) B 6
  have h_l_pick : FnG P w K mg base 8 B.a_l_pick B.fd_l_pick ["_law_source", "_law_some"] (spOf K 2 C_l_pick) := by apply g_l_pick B <;> assumption
  have h_l_stream : FnG P w K mg base 1 B.a_l_stream B.fd_l_stream ["_law_script", "_law_k"] (spBox K) := by apply g_l_stream B <;> assumption
  have h_l_folded : FnG P w K mg base 1 B.a_l_folded B.fd_l_folded ["_law_script", "_law_most"] (spCells K) := by apply g_l_folded B <;> assumption
  have same := same_all (P := P) (w := w) (base := base) B 3
  have h_is_number : FnG P w K mg base 1 B.a_is_number B.fd_is_number ["word"] (spOf K 1 C_is_number) := by apply g_is_number B <;> assumption
  have h__words_of : FnG P w K mg base 1 B.a__words_of B.fd__words_of ["text"] (spOf K 1 C__words_of) := by apply g__words_of B <;> assumption
  have h__is_day : FnG P w K mg base 1 B.a__is_day B.fd__is_day ["value"] (spOf K 1 C__is_day) := by apply g__is_day B <;> assumption
  have h__is_stay : FnG P w K mg base 2 B.a__is_stay B.fd__is_stay ["value"] (spOf K 1 C__is_stay) := by apply g__is_stay B <;> assumption
  have h_is_stays : FnG P w K mg base 3 B.a_is_stays B.fd_is_stays ["value"] (spOf K 1 C_is_stays) := by apply g_is_stays B <;> assumption
  have h__pairs_of : FnG P w K mg base 2 B.a__pairs_of B.fd__pairs_of ["text", "sign"] (spOfF K 2 C__pairs_of) := by apply g__pairs_of B <;> assumption
  have h_stays_in : FnG P w K mg base 4 B.a_stays_in B.fd_stays_in ["text"] (spOf K 1 C_stays_in) := by apply g_stays_in B <;> assumption
  have h_pairs_in : FnG P w K mg base 4 B.a_pairs_in B.fd_pairs_in ["text"] (spOfF K 1 C_pairs_in) := by apply g_pairs_in B <;> assumption
  have h_wish_in : FnG P w K mg base 4 B.a_wish_in B.fd_wish_in ["text"] (spOf K 1 C_wish_in) := by apply g_wish_in B <;> assumption
  have h__text_of : FnG P w K mg base 1 B.a__text_of B.fd__text_of ["words"] (spOf K 1 C__text_of) := by apply g__text_of B <;> assumption
  have h_stays_text : FnG P w K mg base 2 B.a_stays_text B.fd_stays_text ["stays"] (spOf K 1 C_stays_text) := by apply g_stays_text B <;> assumption
  have h_pairs_text : FnG P w K mg base 2 B.a_pairs_text B.fd_pairs_text ["pairs"] (spOf K 1 C_pairs_text) := by apply g_pairs_text B <;> assumption
  have h_wish_text : FnG P w K mg base 2 B.a_wish_text B.fd_wish_text ["wish"] (spOf K 1 C_wish_text) := by apply g_wish_text B <;> assumption
  have lists := lists_all (P := P) (w := w) (base := base) B 3
  have h_l_stays : FnG P w K mg base 9 B.a_l_stays B.fd_l_stays ["_law_source", "_law_most", "_law_top"] (spOf K 3 C_l_stays) := by apply g_l_stays B <;> assumption
  have h_l_joined : FnG P w K mg base 1 B.a_l_joined B.fd_l_joined ["_law_words"] (spOf K 1 C_l_joined) := by apply g_l_joined B <;> assumption
  have h_l_right : FnG P w K mg base 14 B.a_l_right B.fd_l_right ["_law_source"] (spOf K 1 C_l_right) := by apply g_l_right B <;> assumption
  apply g_law B <;> assumption
end
end K64
namespace K64
open PySem PySem.Spec PyProof.Rows L2 Evl DL
theorem kb_stays_text_0_stays {K : PySem.W.Frag} {f : Addr} {fd : FuncData} (F : Fun K "stays_text" "stays_text" s_stays_text f fd) : KBinds K fd ["stays"] ["stays"] kg_stays_text_0_stays kg_stays_text_0_stays := by
  obtain ⟨oc, od, kV, doc, pm, an, cdv, ct, osl, rfl, lk, hcd⟩ := F.ex
  have z : ∀ {α : Type} (us ws : List α), ¬ (us.length = 0 ∧ ws.length = 1) → kg_stays_text_0_stays us ws = [] := by
    intro α us ws c
    unfold kg_stays_text_0_stays
    split
    · exact absurd ⟨rfl, rfl⟩ c
    · rfl
  refine ⟨fun s us ws _ hl => ?_, fun {vs us zs ws} r1 r2 => ?_⟩
  · by_cases c : us.length = 0 ∧ ws.length = 1
    · obtain ⟨c1, c2⟩ := c
      match us, ws, c1, c2 with
      | [], [w0], _, _ => exact .of_eq rfl
    · rw [z _ _ c] at hl
      cases hl
  · by_cases c : us.length = 0 ∧ ws.length = 1
    · obtain ⟨c1, c2⟩ := c
      match vs, us, zs, ws, c1, c2, r1, r2 with
      | _, [], _, [w0], _, _, .nil, .cons h0 .nil => exact .cons h0 .nil
    · rw [z us ws c, z vs zs (by rw [r1.length, r2.length]; exact c)]
      exact .nil
theorem kb_pairs_text_0_pairs {K : PySem.W.Frag} {f : Addr} {fd : FuncData} (F : Fun K "pairs_text" "pairs_text" s_pairs_text f fd) : KBinds K fd ["pairs"] ["pairs"] kg_pairs_text_0_pairs kg_pairs_text_0_pairs := by
  obtain ⟨oc, od, kV, doc, pm, an, cdv, ct, osl, rfl, lk, hcd⟩ := F.ex
  have z : ∀ {α : Type} (us ws : List α), ¬ (us.length = 0 ∧ ws.length = 1) → kg_pairs_text_0_pairs us ws = [] := by
    intro α us ws c
    unfold kg_pairs_text_0_pairs
    split
    · exact absurd ⟨rfl, rfl⟩ c
    · rfl
  refine ⟨fun s us ws _ hl => ?_, fun {vs us zs ws} r1 r2 => ?_⟩
  · by_cases c : us.length = 0 ∧ ws.length = 1
    · obtain ⟨c1, c2⟩ := c
      match us, ws, c1, c2 with
      | [], [w0], _, _ => exact .of_eq rfl
    · rw [z _ _ c] at hl
      cases hl
  · by_cases c : us.length = 0 ∧ ws.length = 1
    · obtain ⟨c1, c2⟩ := c
      match vs, us, zs, ws, c1, c2, r1, r2 with
      | _, [], _, [w0], _, _, .nil, .cons h0 .nil => exact .cons h0 .nil
    · rw [z us ws c, z vs zs (by rw [r1.length, r2.length]; exact c)]
      exact .nil
theorem kb_wish_text_0_wish {K : PySem.W.Frag} {f : Addr} {fd : FuncData} (F : Fun K "wish_text" "wish_text" s_wish_text f fd) : KBinds K fd ["wish"] ["wish"] kg_wish_text_0_wish kg_wish_text_0_wish := by
  obtain ⟨oc, od, kV, doc, pm, an, cdv, ct, osl, rfl, lk, hcd⟩ := F.ex
  have z : ∀ {α : Type} (us ws : List α), ¬ (us.length = 0 ∧ ws.length = 1) → kg_wish_text_0_wish us ws = [] := by
    intro α us ws c
    unfold kg_wish_text_0_wish
    split
    · exact absurd ⟨rfl, rfl⟩ c
    · rfl
  refine ⟨fun s us ws _ hl => ?_, fun {vs us zs ws} r1 r2 => ?_⟩
  · by_cases c : us.length = 0 ∧ ws.length = 1
    · obtain ⟨c1, c2⟩ := c
      match us, ws, c1, c2 with
      | [], [w0], _, _ => exact .of_eq rfl
    · rw [z _ _ c] at hl
      cases hl
  · by_cases c : us.length = 0 ∧ ws.length = 1
    · obtain ⟨c1, c2⟩ := c
      match vs, us, zs, ws, c1, c2, r1, r2 with
      | _, [], _, [w0], _, _, .nil, .cons h0 .nil => exact .cons h0 .nil
    · rw [z us ws c, z vs zs (by rw [r1.length, r2.length]; exact c)]
      exact .nil
theorem kb_stays_in_0_text {K : PySem.W.Frag} {f : Addr} {fd : FuncData} (F : Fun K "stays_in" "stays_in" s_stays_in f fd) : KBinds K fd ["text"] ["text"] kg_stays_in_0_text kg_stays_in_0_text := by
  obtain ⟨oc, od, kV, doc, pm, an, cdv, ct, osl, rfl, lk, hcd⟩ := F.ex
  have z : ∀ {α : Type} (us ws : List α), ¬ (us.length = 0 ∧ ws.length = 1) → kg_stays_in_0_text us ws = [] := by
    intro α us ws c
    unfold kg_stays_in_0_text
    split
    · exact absurd ⟨rfl, rfl⟩ c
    · rfl
  refine ⟨fun s us ws _ hl => ?_, fun {vs us zs ws} r1 r2 => ?_⟩
  · by_cases c : us.length = 0 ∧ ws.length = 1
    · obtain ⟨c1, c2⟩ := c
      match us, ws, c1, c2 with
      | [], [w0], _, _ => exact .of_eq rfl
    · rw [z _ _ c] at hl
      cases hl
  · by_cases c : us.length = 0 ∧ ws.length = 1
    · obtain ⟨c1, c2⟩ := c
      match vs, us, zs, ws, c1, c2, r1, r2 with
      | _, [], _, [w0], _, _, .nil, .cons h0 .nil => exact .cons h0 .nil
    · rw [z us ws c, z vs zs (by rw [r1.length, r2.length]; exact c)]
      exact .nil
theorem kb_pairs_in_0_text {K : PySem.W.Frag} {f : Addr} {fd : FuncData} (F : Fun K "pairs_in" "pairs_in" s_pairs_in f fd) : KBinds K fd ["text"] ["text"] kg_pairs_in_0_text kg_pairs_in_0_text := by
  obtain ⟨oc, od, kV, doc, pm, an, cdv, ct, osl, rfl, lk, hcd⟩ := F.ex
  have z : ∀ {α : Type} (us ws : List α), ¬ (us.length = 0 ∧ ws.length = 1) → kg_pairs_in_0_text us ws = [] := by
    intro α us ws c
    unfold kg_pairs_in_0_text
    split
    · exact absurd ⟨rfl, rfl⟩ c
    · rfl
  refine ⟨fun s us ws _ hl => ?_, fun {vs us zs ws} r1 r2 => ?_⟩
  · by_cases c : us.length = 0 ∧ ws.length = 1
    · obtain ⟨c1, c2⟩ := c
      match us, ws, c1, c2 with
      | [], [w0], _, _ => exact .of_eq rfl
    · rw [z _ _ c] at hl
      cases hl
  · by_cases c : us.length = 0 ∧ ws.length = 1
    · obtain ⟨c1, c2⟩ := c
      match vs, us, zs, ws, c1, c2, r1, r2 with
      | _, [], _, [w0], _, _, .nil, .cons h0 .nil => exact .cons h0 .nil
    · rw [z us ws c, z vs zs (by rw [r1.length, r2.length]; exact c)]
      exact .nil
theorem kb_wish_in_0_text {K : PySem.W.Frag} {f : Addr} {fd : FuncData} (F : Fun K "wish_in" "wish_in" s_wish_in f fd) : KBinds K fd ["text"] ["text"] kg_wish_in_0_text kg_wish_in_0_text := by
  obtain ⟨oc, od, kV, doc, pm, an, cdv, ct, osl, rfl, lk, hcd⟩ := F.ex
  have z : ∀ {α : Type} (us ws : List α), ¬ (us.length = 0 ∧ ws.length = 1) → kg_wish_in_0_text us ws = [] := by
    intro α us ws c
    unfold kg_wish_in_0_text
    split
    · exact absurd ⟨rfl, rfl⟩ c
    · rfl
  refine ⟨fun s us ws _ hl => ?_, fun {vs us zs ws} r1 r2 => ?_⟩
  · by_cases c : us.length = 0 ∧ ws.length = 1
    · obtain ⟨c1, c2⟩ := c
      match us, ws, c1, c2 with
      | [], [w0], _, _ => exact .of_eq rfl
    · rw [z _ _ c] at hl
      cases hl
  · by_cases c : us.length = 0 ∧ ws.length = 1
    · obtain ⟨c1, c2⟩ := c
      match vs, us, zs, ws, c1, c2, r1, r2 with
      | _, [], _, [w0], _, _, .nil, .cons h0 .nil => exact .cons h0 .nil
    · rw [z us ws c, z vs zs (by rw [r1.length, r2.length]; exact c)]
      exact .nil
theorem all_mk {l : PySem.W.OpenLaw} {w : World} {K : PySem.W.Frag} {h : Heap} {mg : Str → Option Value} {fa : Addr} (X : K.In h) (G : h.Ns mainGlobals mg) (hfa : mg "law" = some (.ref fa))
    {f0 : Addr} {od0 an0 : Option Addr} {sl0 : Array (Option Value)} {oc0 kV0 dc0 pm0 cd0 ct0 : Value}
    (a0 : PySem.W.nsIn K mainGlobals "_law_draw" = some (some (.ref f0)))
    (l0 : K.lookup f0 = some ⟨oc0, od0, .func (PySem.W.fnOf "_law_draw" "_law_draw" (defArgs s_l_draw) (defBody s_l_draw) (defScope s_l_draw) .none kV0 dc0 pm0 an0 cd0 ct0), sl0⟩)
    (c0 : PySem.W.codeIn K cd0 "_law_draw" = true)
    (k0 : PySem.W.keepIn K (.ref f0) = true)
    {f1 : Addr} {od1 an1 : Option Addr} {sl1 : Array (Option Value)} {oc1 kV1 dc1 pm1 cd1 ct1 : Value}
    (a1 : PySem.W.nsIn K mainGlobals "_law_pick" = some (some (.ref f1)))
    (l1 : K.lookup f1 = some ⟨oc1, od1, .func (PySem.W.fnOf "_law_pick" "_law_pick" (defArgs s_l_pick) (defBody s_l_pick) (defScope s_l_pick) .none kV1 dc1 pm1 an1 cd1 ct1), sl1⟩)
    (c1 : PySem.W.codeIn K cd1 "_law_pick" = true)
    (k1 : PySem.W.keepIn K (.ref f1) = true)
    {f2 : Addr} {od2 an2 : Option Addr} {sl2 : Array (Option Value)} {oc2 kV2 dc2 pm2 cd2 ct2 : Value}
    (a2 : PySem.W.nsIn K mainGlobals "_law_stream" = some (some (.ref f2)))
    (l2 : K.lookup f2 = some ⟨oc2, od2, .func (PySem.W.fnOf "_law_stream" "_law_stream" (defArgs s_l_stream) (defBody s_l_stream) (defScope s_l_stream) .none kV2 dc2 pm2 an2 cd2 ct2), sl2⟩)
    (c2 : PySem.W.codeIn K cd2 "_law_stream" = true)
    (k2 : PySem.W.keepIn K (.ref f2) = true)
    {f3 : Addr} {od3 an3 : Option Addr} {sl3 : Array (Option Value)} {oc3 kV3 dc3 pm3 cd3 ct3 : Value}
    (a3 : PySem.W.nsIn K mainGlobals "_law_folded" = some (some (.ref f3)))
    (l3 : K.lookup f3 = some ⟨oc3, od3, .func (PySem.W.fnOf "_law_folded" "_law_folded" (defArgs s_l_folded) (defBody s_l_folded) (defScope s_l_folded) .none kV3 dc3 pm3 an3 cd3 ct3), sl3⟩)
    (c3 : PySem.W.codeIn K cd3 "_law_folded" = true)
    (k3 : PySem.W.keepIn K (.ref f3) = true)
    {f4 : Addr} {od4 an4 : Option Addr} {sl4 : Array (Option Value)} {oc4 kV4 dc4 pm4 cd4 ct4 : Value}
    (a4 : PySem.W.nsIn K mainGlobals "_law_same" = some (some (.ref f4)))
    (l4 : K.lookup f4 = some ⟨oc4, od4, .func (PySem.W.fnOf "_law_same" "_law_same" (defArgs s_l_same) (defBody s_l_same) (defScope s_l_same) .none kV4 dc4 pm4 an4 cd4 ct4), sl4⟩)
    (c4 : PySem.W.codeIn K cd4 "_law_same" = true)
    (k4 : PySem.W.keepIn K (.ref f4) = true)
    {f5 : Addr} {od5 an5 : Option Addr} {sl5 : Array (Option Value)} {oc5 kV5 dc5 pm5 cd5 ct5 : Value}
    (a5 : PySem.W.nsIn K mainGlobals "is_number" = some (some (.ref f5)))
    (l5 : K.lookup f5 = some ⟨oc5, od5, .func (PySem.W.fnOf "is_number" "is_number" (defArgs s_is_number) (defBody s_is_number) (defScope s_is_number) .none kV5 dc5 pm5 an5 cd5 ct5), sl5⟩)
    (c5 : PySem.W.codeIn K cd5 "is_number" = true)
    (k5 : PySem.W.keepIn K (.ref f5) = true)
    {f6 : Addr} {od6 an6 : Option Addr} {sl6 : Array (Option Value)} {oc6 kV6 dc6 pm6 cd6 ct6 : Value}
    (a6 : PySem.W.nsIn K mainGlobals "_words_of" = some (some (.ref f6)))
    (l6 : K.lookup f6 = some ⟨oc6, od6, .func (PySem.W.fnOf "_words_of" "_words_of" (defArgs s__words_of) (defBody s__words_of) (defScope s__words_of) .none kV6 dc6 pm6 an6 cd6 ct6), sl6⟩)
    (c6 : PySem.W.codeIn K cd6 "_words_of" = true)
    (k6 : PySem.W.keepIn K (.ref f6) = true)
    {f7 : Addr} {od7 an7 : Option Addr} {sl7 : Array (Option Value)} {oc7 kV7 dc7 pm7 cd7 ct7 : Value}
    (a7 : PySem.W.nsIn K mainGlobals "_is_day" = some (some (.ref f7)))
    (l7 : K.lookup f7 = some ⟨oc7, od7, .func (PySem.W.fnOf "_is_day" "_is_day" (defArgs s__is_day) (defBody s__is_day) (defScope s__is_day) .none kV7 dc7 pm7 an7 cd7 ct7), sl7⟩)
    (c7 : PySem.W.codeIn K cd7 "_is_day" = true)
    (k7 : PySem.W.keepIn K (.ref f7) = true)
    {f8 : Addr} {od8 an8 : Option Addr} {sl8 : Array (Option Value)} {oc8 kV8 dc8 pm8 cd8 ct8 : Value}
    (a8 : PySem.W.nsIn K mainGlobals "_is_stay" = some (some (.ref f8)))
    (l8 : K.lookup f8 = some ⟨oc8, od8, .func (PySem.W.fnOf "_is_stay" "_is_stay" (defArgs s__is_stay) (defBody s__is_stay) (defScope s__is_stay) .none kV8 dc8 pm8 an8 cd8 ct8), sl8⟩)
    (c8 : PySem.W.codeIn K cd8 "_is_stay" = true)
    (k8 : PySem.W.keepIn K (.ref f8) = true)
    {f9 : Addr} {od9 an9 : Option Addr} {sl9 : Array (Option Value)} {oc9 kV9 dc9 pm9 cd9 ct9 : Value}
    (a9 : PySem.W.nsIn K mainGlobals "is_stays" = some (some (.ref f9)))
    (l9 : K.lookup f9 = some ⟨oc9, od9, .func (PySem.W.fnOf "is_stays" "is_stays" (defArgs s_is_stays) (defBody s_is_stays) (defScope s_is_stays) .none kV9 dc9 pm9 an9 cd9 ct9), sl9⟩)
    (c9 : PySem.W.codeIn K cd9 "is_stays" = true)
    (k9 : PySem.W.keepIn K (.ref f9) = true)
    {f10 : Addr} {od10 an10 : Option Addr} {sl10 : Array (Option Value)} {oc10 kV10 dc10 pm10 cd10 ct10 : Value}
    (a10 : PySem.W.nsIn K mainGlobals "_pairs_of" = some (some (.ref f10)))
    (l10 : K.lookup f10 = some ⟨oc10, od10, .func (PySem.W.fnOf "_pairs_of" "_pairs_of" (defArgs s__pairs_of) (defBody s__pairs_of) (defScope s__pairs_of) .none kV10 dc10 pm10 an10 cd10 ct10), sl10⟩)
    (c10 : PySem.W.codeIn K cd10 "_pairs_of" = true)
    (k10 : PySem.W.keepIn K (.ref f10) = true)
    {f11 : Addr} {od11 an11 : Option Addr} {sl11 : Array (Option Value)} {oc11 kV11 dc11 pm11 cd11 ct11 : Value}
    (a11 : PySem.W.nsIn K mainGlobals "stays_in" = some (some (.ref f11)))
    (l11 : K.lookup f11 = some ⟨oc11, od11, .func (PySem.W.fnOf "stays_in" "stays_in" (defArgs s_stays_in) (defBody s_stays_in) (defScope s_stays_in) .none kV11 dc11 pm11 an11 cd11 ct11), sl11⟩)
    (c11 : PySem.W.codeIn K cd11 "stays_in" = true)
    (k11 : PySem.W.keepIn K (.ref f11) = true)
    {f12 : Addr} {od12 an12 : Option Addr} {sl12 : Array (Option Value)} {oc12 kV12 dc12 pm12 cd12 ct12 : Value}
    (a12 : PySem.W.nsIn K mainGlobals "pairs_in" = some (some (.ref f12)))
    (l12 : K.lookup f12 = some ⟨oc12, od12, .func (PySem.W.fnOf "pairs_in" "pairs_in" (defArgs s_pairs_in) (defBody s_pairs_in) (defScope s_pairs_in) .none kV12 dc12 pm12 an12 cd12 ct12), sl12⟩)
    (c12 : PySem.W.codeIn K cd12 "pairs_in" = true)
    (k12 : PySem.W.keepIn K (.ref f12) = true)
    {f13 : Addr} {od13 an13 : Option Addr} {sl13 : Array (Option Value)} {oc13 kV13 dc13 pm13 cd13 ct13 : Value}
    (a13 : PySem.W.nsIn K mainGlobals "wish_in" = some (some (.ref f13)))
    (l13 : K.lookup f13 = some ⟨oc13, od13, .func (PySem.W.fnOf "wish_in" "wish_in" (defArgs s_wish_in) (defBody s_wish_in) (defScope s_wish_in) .none kV13 dc13 pm13 an13 cd13 ct13), sl13⟩)
    (c13 : PySem.W.codeIn K cd13 "wish_in" = true)
    (k13 : PySem.W.keepIn K (.ref f13) = true)
    {f14 : Addr} {od14 an14 : Option Addr} {sl14 : Array (Option Value)} {oc14 kV14 dc14 pm14 cd14 ct14 : Value}
    (a14 : PySem.W.nsIn K mainGlobals "_text_of" = some (some (.ref f14)))
    (l14 : K.lookup f14 = some ⟨oc14, od14, .func (PySem.W.fnOf "_text_of" "_text_of" (defArgs s__text_of) (defBody s__text_of) (defScope s__text_of) .none kV14 dc14 pm14 an14 cd14 ct14), sl14⟩)
    (c14 : PySem.W.codeIn K cd14 "_text_of" = true)
    (k14 : PySem.W.keepIn K (.ref f14) = true)
    {f15 : Addr} {od15 an15 : Option Addr} {sl15 : Array (Option Value)} {oc15 kV15 dc15 pm15 cd15 ct15 : Value}
    (a15 : PySem.W.nsIn K mainGlobals "stays_text" = some (some (.ref f15)))
    (l15 : K.lookup f15 = some ⟨oc15, od15, .func (PySem.W.fnOf "stays_text" "stays_text" (defArgs s_stays_text) (defBody s_stays_text) (defScope s_stays_text) .none kV15 dc15 pm15 an15 cd15 ct15), sl15⟩)
    (c15 : PySem.W.codeIn K cd15 "stays_text" = true)
    (k15 : PySem.W.keepIn K (.ref f15) = true)
    {f16 : Addr} {od16 an16 : Option Addr} {sl16 : Array (Option Value)} {oc16 kV16 dc16 pm16 cd16 ct16 : Value}
    (a16 : PySem.W.nsIn K mainGlobals "pairs_text" = some (some (.ref f16)))
    (l16 : K.lookup f16 = some ⟨oc16, od16, .func (PySem.W.fnOf "pairs_text" "pairs_text" (defArgs s_pairs_text) (defBody s_pairs_text) (defScope s_pairs_text) .none kV16 dc16 pm16 an16 cd16 ct16), sl16⟩)
    (c16 : PySem.W.codeIn K cd16 "pairs_text" = true)
    (k16 : PySem.W.keepIn K (.ref f16) = true)
    {f17 : Addr} {od17 an17 : Option Addr} {sl17 : Array (Option Value)} {oc17 kV17 dc17 pm17 cd17 ct17 : Value}
    (a17 : PySem.W.nsIn K mainGlobals "wish_text" = some (some (.ref f17)))
    (l17 : K.lookup f17 = some ⟨oc17, od17, .func (PySem.W.fnOf "wish_text" "wish_text" (defArgs s_wish_text) (defBody s_wish_text) (defScope s_wish_text) .none kV17 dc17 pm17 an17 cd17 ct17), sl17⟩)
    (c17 : PySem.W.codeIn K cd17 "wish_text" = true)
    (k17 : PySem.W.keepIn K (.ref f17) = true)
    {f18 : Addr} {od18 an18 : Option Addr} {sl18 : Array (Option Value)} {oc18 kV18 dc18 pm18 cd18 ct18 : Value}
    (a18 : PySem.W.nsIn K mainGlobals "_law_lists" = some (some (.ref f18)))
    (l18 : K.lookup f18 = some ⟨oc18, od18, .func (PySem.W.fnOf "_law_lists" "_law_lists" (defArgs s_l_lists) (defBody s_l_lists) (defScope s_l_lists) .none kV18 dc18 pm18 an18 cd18 ct18), sl18⟩)
    (c18 : PySem.W.codeIn K cd18 "_law_lists" = true)
    (k18 : PySem.W.keepIn K (.ref f18) = true)
    {f19 : Addr} {od19 an19 : Option Addr} {sl19 : Array (Option Value)} {oc19 kV19 dc19 pm19 cd19 ct19 : Value}
    (a19 : PySem.W.nsIn K mainGlobals "_law_stays" = some (some (.ref f19)))
    (l19 : K.lookup f19 = some ⟨oc19, od19, .func (PySem.W.fnOf "_law_stays" "_law_stays" (defArgs s_l_stays) (defBody s_l_stays) (defScope s_l_stays) .none kV19 dc19 pm19 an19 cd19 ct19), sl19⟩)
    (c19 : PySem.W.codeIn K cd19 "_law_stays" = true)
    (k19 : PySem.W.keepIn K (.ref f19) = true)
    {f20 : Addr} {od20 an20 : Option Addr} {sl20 : Array (Option Value)} {oc20 kV20 dc20 pm20 cd20 ct20 : Value}
    (a20 : PySem.W.nsIn K mainGlobals "_law_joined" = some (some (.ref f20)))
    (l20 : K.lookup f20 = some ⟨oc20, od20, .func (PySem.W.fnOf "_law_joined" "_law_joined" (defArgs s_l_joined) (defBody s_l_joined) (defScope s_l_joined) .none kV20 dc20 pm20 an20 cd20 ct20), sl20⟩)
    (c20 : PySem.W.codeIn K cd20 "_law_joined" = true)
    (k20 : PySem.W.keepIn K (.ref f20) = true)
    {f21 : Addr} {od21 an21 : Option Addr} {sl21 : Array (Option Value)} {oc21 kV21 dc21 pm21 cd21 ct21 : Value}
    (a21 : PySem.W.nsIn K mainGlobals "_law_right" = some (some (.ref f21)))
    (l21 : K.lookup f21 = some ⟨oc21, od21, .func (PySem.W.fnOf "_law_right" "_law_right" (defArgs s_l_right) (defBody s_l_right) (defScope s_l_right) .none kV21 dc21 pm21 an21 cd21 ct21), sl21⟩)
    (c21 : PySem.W.codeIn K cd21 "_law_right" = true)
    (k21 : PySem.W.keepIn K (.ref f21) = true)
    {f22 : Addr} {od22 an22 : Option Addr} {sl22 : Array (Option Value)} {oc22 kV22 dc22 pm22 cd22 ct22 : Value}
    (a22 : PySem.W.nsIn K mainGlobals "law" = some (some (.ref f22)))
    (l22 : K.lookup f22 = some ⟨oc22, od22, .func (PySem.W.fnOf "law" "law" (defArgs s_law) (defBody s_law) (defScope s_law) .none kV22 dc22 pm22 an22 cd22 ct22), sl22⟩)
    (c22 : PySem.W.codeIn K cd22 "law" = true)
    (k22 : PySem.W.keepIn K (.ref f22) = true)
    (z_abs : PySem.W.nsIn K mainGlobals "abs" = some none)
    (z_all : PySem.W.nsIn K mainGlobals "all" = some none)
    (z_bool : PySem.W.nsIn K mainGlobals "bool" = some none)
    (z_enumerate : PySem.W.nsIn K mainGlobals "enumerate" = some none)
    (z_int : PySem.W.nsIn K mainGlobals "int" = some none)
    (z_isinstance : PySem.W.nsIn K mainGlobals "isinstance" = some none)
    (z_len : PySem.W.nsIn K mainGlobals "len" = some none)
    (z_list : PySem.W.nsIn K mainGlobals "list" = some none)
    (z_min : PySem.W.nsIn K mainGlobals "min" = some none)
    (z_range : PySem.W.nsIn K mainGlobals "range" = some none)
    (z_str : PySem.W.nsIn K mainGlobals "str" = some none)
    (z_sum : PySem.W.nsIn K mainGlobals "sum" = some none)
    (z_tuple : PySem.W.nsIn K mainGlobals "tuple" = some none)
    (z_zip : PySem.W.nsIn K mainGlobals "zip" = some none)
    {t_DIGITS : Tok}
    (a_DIGITS : PySem.W.nsIn K mainGlobals "DIGITS" = some (some (.str (Str.ofString "0123456789") t_DIGITS)))
    {t_MOST_DIGITS : Tok}
    (a_MOST_DIGITS : PySem.W.nsIn K mainGlobals "MOST_DIGITS" = some (some (.int 50 t_MOST_DIGITS))) :
    ∃ fd : FuncData, (∀ (s : Shared) (v : Value), BindsTo s fd ⟨[v], []⟩ [("_law_script", v)]) ∧ ∀ base : Heap, K.In base → base.Ns mainGlobals mg → (∀ p ∈ ([] : List (Addr × Addr)), LamX.TabB base mg p.1 p.2) → FnG l.prog w K mg base 17 fa fd ["_law_script"] (spLaw K) := by
  have e := hfa.symm.trans (PySem.W.mg_of X G a22)
  cases e
  have F0 := fun_mk (st := s_l_draw) l0 c0 k0
  have b0 := F0.binds (ps := ["_law_source", "_law_bound"]) fun _ _ _ _ _ _ us hl => match us, hl with | [_, _], _ => rfl
  have F1 := fun_mk (st := s_l_pick) l1 c1 k1
  have b1 := F1.binds (ps := ["_law_source", "_law_some"]) fun _ _ _ _ _ _ us hl => match us, hl with | [_, _], _ => rfl
  have F2 := fun_mk (st := s_l_stream) l2 c2 k2
  have b2 := F2.binds (ps := ["_law_script", "_law_k"]) fun _ _ _ _ _ _ us hl => match us, hl with | [_, _], _ => rfl
  have F3 := fun_mk (st := s_l_folded) l3 c3 k3
  have b3 := F3.binds (ps := ["_law_script", "_law_most"]) fun _ _ _ _ _ _ us hl => match us, hl with | [_, _], _ => rfl
  have F4 := fun_mk (st := s_l_same) l4 c4 k4
  have b4 := F4.binds (ps := ["_law_found", "_law_due"]) fun _ _ _ _ _ _ us hl => match us, hl with | [_, _], _ => rfl
  have F5 := fun_mk (st := s_is_number) l5 c5 k5
  have b5 := F5.binds (ps := ["word"]) fun _ _ _ _ _ _ us hl => match us, hl with | [_], _ => rfl
  have F6 := fun_mk (st := s__words_of) l6 c6 k6
  have b6 := F6.binds (ps := ["text"]) fun _ _ _ _ _ _ us hl => match us, hl with | [_], _ => rfl
  have F7 := fun_mk (st := s__is_day) l7 c7 k7
  have b7 := F7.binds (ps := ["value"]) fun _ _ _ _ _ _ us hl => match us, hl with | [_], _ => rfl
  have F8 := fun_mk (st := s__is_stay) l8 c8 k8
  have b8 := F8.binds (ps := ["value"]) fun _ _ _ _ _ _ us hl => match us, hl with | [_], _ => rfl
  have F9 := fun_mk (st := s_is_stays) l9 c9 k9
  have b9 := F9.binds (ps := ["value"]) fun _ _ _ _ _ _ us hl => match us, hl with | [_], _ => rfl
  have F10 := fun_mk (st := s__pairs_of) l10 c10 k10
  have b10 := F10.binds (ps := ["text", "sign"]) fun _ _ _ _ _ _ us hl => match us, hl with | [_, _], _ => rfl
  have F11 := fun_mk (st := s_stays_in) l11 c11 k11
  have b11 := F11.binds (ps := ["text"]) fun _ _ _ _ _ _ us hl => match us, hl with | [_], _ => rfl
  have F12 := fun_mk (st := s_pairs_in) l12 c12 k12
  have b12 := F12.binds (ps := ["text"]) fun _ _ _ _ _ _ us hl => match us, hl with | [_], _ => rfl
  have F13 := fun_mk (st := s_wish_in) l13 c13 k13
  have b13 := F13.binds (ps := ["text"]) fun _ _ _ _ _ _ us hl => match us, hl with | [_], _ => rfl
  have F14 := fun_mk (st := s__text_of) l14 c14 k14
  have b14 := F14.binds (ps := ["words"]) fun _ _ _ _ _ _ us hl => match us, hl with | [_], _ => rfl
  have F15 := fun_mk (st := s_stays_text) l15 c15 k15
  have b15 := F15.binds (ps := ["stays"]) fun _ _ _ _ _ _ us hl => match us, hl with | [_], _ => rfl
  have F16 := fun_mk (st := s_pairs_text) l16 c16 k16
  have b16 := F16.binds (ps := ["pairs"]) fun _ _ _ _ _ _ us hl => match us, hl with | [_], _ => rfl
  have F17 := fun_mk (st := s_wish_text) l17 c17 k17
  have b17 := F17.binds (ps := ["wish"]) fun _ _ _ _ _ _ us hl => match us, hl with | [_], _ => rfl
  have F18 := fun_mk (st := s_l_lists) l18 c18 k18
  have b18 := F18.binds (ps := ["_law_thing"]) fun _ _ _ _ _ _ us hl => match us, hl with | [_], _ => rfl
  have F19 := fun_mk (st := s_l_stays) l19 c19 k19
  have b19 := F19.binds (ps := ["_law_source", "_law_most", "_law_top"]) fun _ _ _ _ _ _ us hl => match us, hl with | [_, _, _], _ => rfl
  have F20 := fun_mk (st := s_l_joined) l20 c20 k20
  have b20 := F20.binds (ps := ["_law_words"]) fun _ _ _ _ _ _ us hl => match us, hl with | [_], _ => rfl
  have F21 := fun_mk (st := s_l_right) l21 c21 k21
  have b21 := F21.binds (ps := ["_law_source"]) fun _ _ _ _ _ _ us hl => match us, hl with | [_], _ => rfl
  have F22 := fun_mk (st := s_law) l22 c22 k22
  have b22 := F22.binds (ps := ["_law_script"]) fun _ _ _ _ _ _ us hl => match us, hl with | [_], _ => rfl
  refine ⟨PySem.W.fnOf "law" "law" (defArgs s_law) (defBody s_law) (defScope s_law) .none kV22 dc22 pm22 an22 cd22 ct22, fun s v => .of_eq rfl, fun base _ _ tb => ?_⟩
  have Y := law_all (P := l.prog) (w := w) (base := base) ({ a_l_draw := f0, fd_l_draw := _, F_l_draw := F0, m_l_draw := PySem.W.mg_of X G a0, k_l_draw := k0, b_l_draw := b0, a_l_pick := f1, fd_l_pick := _, F_l_pick := F1, m_l_pick := PySem.W.mg_of X G a1, k_l_pick := k1, b_l_pick := b1, a_l_stream := f2, fd_l_stream := _, F_l_stream := F2, m_l_stream := PySem.W.mg_of X G a2, k_l_stream := k2, b_l_stream := b2, a_l_folded := f3, fd_l_folded := _, F_l_folded := F3, m_l_folded := PySem.W.mg_of X G a3, k_l_folded := k3, b_l_folded := b3, a_l_same := f4, fd_l_same := _, F_l_same := F4, m_l_same := PySem.W.mg_of X G a4, k_l_same := k4, b_l_same := b4, a_is_number := f5, fd_is_number := _, F_is_number := F5, m_is_number := PySem.W.mg_of X G a5, k_is_number := k5, b_is_number := b5, a__words_of := f6, fd__words_of := _, F__words_of := F6, m__words_of := PySem.W.mg_of X G a6, k__words_of := k6, b__words_of := b6, a__is_day := f7, fd__is_day := _, F__is_day := F7, m__is_day := PySem.W.mg_of X G a7, k__is_day := k7, b__is_day := b7, a__is_stay := f8, fd__is_stay := _, F__is_stay := F8, m__is_stay := PySem.W.mg_of X G a8, k__is_stay := k8, b__is_stay := b8, a_is_stays := f9, fd_is_stays := _, F_is_stays := F9, m_is_stays := PySem.W.mg_of X G a9, k_is_stays := k9, b_is_stays := b9, a__pairs_of := f10, fd__pairs_of := _, F__pairs_of := F10, m__pairs_of := PySem.W.mg_of X G a10, k__pairs_of := k10, b__pairs_of := b10, a_stays_in := f11, fd_stays_in := _, F_stays_in := F11, m_stays_in := PySem.W.mg_of X G a11, k_stays_in := k11, b_stays_in := b11, a_pairs_in := f12, fd_pairs_in := _, F_pairs_in := F12, m_pairs_in := PySem.W.mg_of X G a12, k_pairs_in := k12, b_pairs_in := b12, a_wish_in := f13, fd_wish_in := _, F_wish_in := F13, m_wish_in := PySem.W.mg_of X G a13, k_wish_in := k13, b_wish_in := b13, a__text_of := f14, fd__text_of := _, F__text_of := F14, m__text_of := PySem.W.mg_of X G a14, k__text_of := k14, b__text_of := b14, a_stays_text := f15, fd_stays_text := _, F_stays_text := F15, m_stays_text := PySem.W.mg_of X G a15, k_stays_text := k15, b_stays_text := b15, a_pairs_text := f16, fd_pairs_text := _, F_pairs_text := F16, m_pairs_text := PySem.W.mg_of X G a16, k_pairs_text := k16, b_pairs_text := b16, a_wish_text := f17, fd_wish_text := _, F_wish_text := F17, m_wish_text := PySem.W.mg_of X G a17, k_wish_text := k17, b_wish_text := b17, a_l_lists := f18, fd_l_lists := _, F_l_lists := F18, m_l_lists := PySem.W.mg_of X G a18, k_l_lists := k18, b_l_lists := b18, a_l_stays := f19, fd_l_stays := _, F_l_stays := F19, m_l_stays := PySem.W.mg_of X G a19, k_l_stays := k19, b_l_stays := b19, a_l_joined := f20, fd_l_joined := _, F_l_joined := F20, m_l_joined := PySem.W.mg_of X G a20, k_l_joined := k20, b_l_joined := b20, a_l_right := f21, fd_l_right := _, F_l_right := F21, m_l_right := PySem.W.mg_of X G a21, k_l_right := k21, b_l_right := b21, a_law := fa, fd_law := _, F_law := F22, m_law := PySem.W.mg_of X G a22, k_law := k22, b_law := b22, K_stays_text_0_stays := kb_stays_text_0_stays F15, K_pairs_text_0_pairs := kb_pairs_text_0_pairs F16, K_wish_text_0_wish := kb_wish_text_0_wish F17, K_stays_in_0_text := kb_stays_in_0_text F11, K_pairs_in_0_text := kb_pairs_in_0_text F12, K_wish_in_0_text := kb_wish_in_0_text F13, n_abs := PySem.W.mg_none_of X G z_abs, n_all := PySem.W.mg_none_of X G z_all, n_bool := PySem.W.mg_none_of X G z_bool, n_enumerate := PySem.W.mg_none_of X G z_enumerate, n_int := PySem.W.mg_none_of X G z_int, n_isinstance := PySem.W.mg_none_of X G z_isinstance, n_len := PySem.W.mg_none_of X G z_len, n_list := PySem.W.mg_none_of X G z_list, n_min := PySem.W.mg_none_of X G z_min, n_range := PySem.W.mg_none_of X G z_range, n_str := PySem.W.mg_none_of X G z_str, n_sum := PySem.W.mg_none_of X G z_sum, n_tuple := PySem.W.mg_none_of X G z_tuple, n_zip := PySem.W.mg_none_of X G z_zip, q_DIGITS := ⟨t_DIGITS, PySem.W.mg_of X G a_DIGITS⟩, q_MOST_DIGITS := ⟨t_MOST_DIGITS, PySem.W.mg_of X G a_MOST_DIGITS⟩ } : Tx K mg)
  exact Y
end K64
open PySem PySem.W PyProof.Rows
set_option maxRecDepth 100000 in
set_option maxHeartbeats 0 in
theorem PySem.Challenge.cw_stayswap_k64_texts_and_back_holds : PySem.Challenge.rw_stayswap_k64_texts_and_back.Holds := by
  w_on; o_law; k_head; (case hw => w_witness2)
  k_fill
  refine DL.walkGT (l := PySem.Challenge.rw_stayswap_k64_texts_and_back) (k := 17) (x := "_law_script") (cs := ([] : List (Addr × Addr))) rfl rfl ⟨rfl, by decide, by decide⟩ (fun w h Y => by first | exact PySem.W.kIn_of Y | exact PySem.W.km_in_of Y) ?tab0 ?tabN ?hd ?mine ?F
  case tab0 => (intro w h Y p hp; cases hp)
  case tabN => (intro w p hp; cases hp)
  case hd => (intro w h Y p hp; cases hp)
  case mine => (intro w q hq; exact DL.tabs0_mine (by kernel_rfl) (by kernel_rfl) q hq)
  case F =>
    intro w mg fa h KX G hmg
    refine' K64.all_mk KX G hmg ?a0 ?l0 ?c0 ?k0 ?a1 ?l1 ?c1 ?k1 ?a2 ?l2 ?c2 ?k2 ?a3 ?l3 ?c3 ?k3 ?a4 ?l4 ?c4 ?k4 ?a5 ?l5 ?c5 ?k5 ?a6 ?l6 ?c6 ?k6 ?a7 ?l7 ?c7 ?k7 ?a8 ?l8 ?c8 ?k8 ?a9 ?l9 ?c9 ?k9 ?a10 ?l10 ?c10 ?k10 ?a11 ?l11 ?c11 ?k11 ?a12 ?l12 ?c12 ?k12 ?a13 ?l13 ?c13 ?k13 ?a14 ?l14 ?c14 ?k14 ?a15 ?l15 ?c15 ?k15 ?a16 ?l16 ?c16 ?k16 ?a17 ?l17 ?c17 ?k17 ?a18 ?l18 ?c18 ?k18 ?a19 ?l19 ?c19 ?k19 ?a20 ?l20 ?c20 ?k20 ?a21 ?l21 ?c21 ?k21 ?a22 ?l22 ?c22 ?k22 ?z_abs ?z_all ?z_bool ?z_enumerate ?z_int ?z_isinstance ?z_len ?z_list ?z_min ?z_range ?z_str ?z_sum ?z_tuple ?z_zip ?a_DIGITS ?a_MOST_DIGITS
    (case a0 => k_is)
    (case l0 => k_is)
    (case c0 => k_is)
    (case k0 => k_is)
    (case a1 => k_is)
    (case l1 => k_is)
    (case c1 => k_is)
    (case k1 => k_is)
    (case a2 => k_is)
    (case l2 => k_is)
    (case c2 => k_is)
    (case k2 => k_is)
    (case a3 => k_is)
    (case l3 => k_is)
    (case c3 => k_is)
    (case k3 => k_is)
    (case a4 => k_is)
    (case l4 => k_is)
    (case c4 => k_is)
    (case k4 => k_is)
    (case a5 => k_is)
    (case l5 => k_is)
    (case c5 => k_is)
    (case k5 => k_is)
    (case a6 => k_is)
    (case l6 => k_is)
    (case c6 => k_is)
    (case k6 => k_is)
    (case a7 => k_is)
    (case l7 => k_is)
    (case c7 => k_is)
    (case k7 => k_is)
    (case a8 => k_is)
    (case l8 => k_is)
    (case c8 => k_is)
    (case k8 => k_is)
    (case a9 => k_is)
    (case l9 => k_is)
    (case c9 => k_is)
    (case k9 => k_is)
    (case a10 => k_is)
    (case l10 => k_is)
    (case c10 => k_is)
    (case k10 => k_is)
    (case a11 => k_is)
    (case l11 => k_is)
    (case c11 => k_is)
    (case k11 => k_is)
    (case a12 => k_is)
    (case l12 => k_is)
    (case c12 => k_is)
    (case k12 => k_is)
    (case a13 => k_is)
    (case l13 => k_is)
    (case c13 => k_is)
    (case k13 => k_is)
    (case a14 => k_is)
    (case l14 => k_is)
    (case c14 => k_is)
    (case k14 => k_is)
    (case a15 => k_is)
    (case l15 => k_is)
    (case c15 => k_is)
    (case k15 => k_is)
    (case a16 => k_is)
    (case l16 => k_is)
    (case c16 => k_is)
    (case k16 => k_is)
    (case a17 => k_is)
    (case l17 => k_is)
    (case c17 => k_is)
    (case k17 => k_is)
    (case a18 => k_is)
    (case l18 => k_is)
    (case c18 => k_is)
    (case k18 => k_is)
    (case a19 => k_is)
    (case l19 => k_is)
    (case c19 => k_is)
    (case k19 => k_is)
    (case a20 => k_is)
    (case l20 => k_is)
    (case c20 => k_is)
    (case k20 => k_is)
    (case a21 => k_is)
    (case l21 => k_is)
    (case c21 => k_is)
    (case k21 => k_is)
    (case a22 => k_is)
    (case l22 => k_is)
    (case c22 => k_is)
    (case k22 => k_is)
    (case z_abs => k_is)
    (case z_all => k_is)
    (case z_bool => k_is)
    (case z_enumerate => k_is)
    (case z_int => k_is)
    (case z_isinstance => k_is)
    (case z_len => k_is)
    (case z_list => k_is)
    (case z_min => k_is)
    (case z_range => k_is)
    (case z_str => k_is)
    (case z_sum => k_is)
    (case z_tuple => k_is)
    (case z_zip => k_is)
    (case a_DIGITS => k_is)
    (case a_MOST_DIGITS => k_is)
