import PyProof.Rows.All
import HandS.ForMost
import HandS.Walk
import HandS.Wide
import HandS.Exc
import HandS.CallSlots
import HandS.HeadHook1
import HandS.Lambda
import KE.KNest
import HandS.TupMul
import HandS.TupAny
import HandS.Style
import HandS.Gcd
import HandS.IsInst
import HandS.Defaults
import HandS.EndBits
import HandS.Zip
import HandS.Zip0
import HandS.Iter
import HandS.ExcInit
import KE.KTryMore
import HandS.ExcValue
import HandS.FStr
import HandS.RaiseMore
import HandS.SetFor
import HandS.Dict
import KE.KExcIs
import HandS.ExcIs
import HandS.ExcField
import HandS.Head3
import HandS.Comp
import HandS.HotCalls
import HandS.Property
import OpenK.KOps
import KE.KCallOwn
import PyProof.InstNe
import KE.KRevSl
import HandS.HeadNt
import HandS.HeadEnd
import KE.KNestM
import PyProof.ReprLen
import PyProof.EqLayable
import PyProof.StrBlockL
import HandS.Words
import PySem.Challenge.RW_softchances_k06_whole_worths_at_chances
section
set_option Elab.async false
set_option linter.all false
set_option maxRecDepth 100000
set_option maxHeartbeats 1000000
/-! data, stores, what stands for them in a heap -/
namespace Ev
open PySem PySem.Spec PyProof.Rows L2

/-- pure data -/
inductive P where
  | non | bl (b : Bool) | int (i : Int) | str (x : Str)
  | tup (l : List P) | lst (l : List P) | scr (l : List Int)
  | obj (c : Str) (fs : List (Str × P)) | emp
  | err (c : Str) (fs : List (Str × P))
/-- a value: pure, or a list that may change -/
inductive U where
  | p (x : P) | c (n : Nat)
abbrev En := List (Option U)
abbrev Sto := List (List P)
/-- an exception: its class, its attribute -/
structure Xn where
  cls : Str
  arg : Option (Str × P)
inductive R (α : Type) where
  | ok (a : α) (S : Sto) | ex (x : Xn) (S : Sto)
abbrev M (α : Type) := Option (R α)
def M.bind {α β : Type} (m : M α) (f : α → Sto → M β) : M β := match m with
  | none => none
  | some (.ok a S) => f a S
  | some (.ex x S) => some (.ex x S)
theorem bind_ok {α β : Type} {a : α} {S : Sto} {f : α → Sto → M β} : M.bind (some (.ok a S)) f = f a S := rfl
theorem bind_ex {α β : Type} {x : Xn} {S : Sto} {f : α → Sto → M β} : M.bind (some (.ex x S)) f = some (.ex x S) := rfl
theorem bind_none {α β : Type} {f : α → Sto → M β} : M.bind (none : M α) f = none := rfl
theorem bind_assoc {α β γ : Type} (m : M α) (f : α → Sto → M β) (g : β → Sto → M γ) : (m.bind f).bind g = m.bind fun a S => (f a S).bind g := by
  cases m with
  | none => rfl
  | some r => cases r <;> rfl

/-! ### heaps -/
/-- all but tables of code objects, which change as lambdas are made -/
def hid (α : List Addr) (H : Hp) : Hp := fun b => if b ∈ α then none else match H b with
  | some (.tbl _) => none
  | o => o
theorem hid_in {α : List Addr} {H : Hp} {b : Addr} (h : b ∈ α) : hid α H b = none := if_pos h
theorem hid_out {α : List Addr} {H : Hp} {b : Addr} {o : HO} (h : b ∉ α) (e : H b = some o) (n : ∀ ps, o ≠ .tbl ps) : hid α H b = some o := by
  unfold hid
  rw [if_neg h, e]
  cases o <;> first | rfl | exact (n _ rfl).elim
theorem hid_not {α : List Addr} {H : Hp} {b : Addr} (e : H b = none) : hid α H b = none := by
  unfold hid
  rw [e]
  split <;> rfl
theorem hid_all {α : List Addr} {H : Hp} {b : Addr} {o : HO} (h : hid α H b = some o) : b ∉ α ∧ H b = some o ∧ ∀ ps, o ≠ .tbl ps := by
  unfold hid at h
  split at h
  · cases h
  · rename_i hb
    split at h
    · cases h
    · rename_i n
      exact ⟨hb, h, fun ps z => n ps (by rw [← z]; exact h)⟩
theorem hid_some {α : List Addr} {H : Hp} {b : Addr} {o : HO} (h : hid α H b = some o) : b ∉ α ∧ H b = some o := ⟨(hid_all h).1, (hid_all h).2.1⟩
def Ext (G G' : Hp) : Prop := ∀ b o, G b = some o → G' b = some o
theorem Ext.refl (G : Hp) : Ext G G := fun _ _ h => h
theorem Ext.trans {G G' G'' : Hp} (a : Ext G G') (b : Ext G' G'') : Ext G G'' := fun x o h => b x o (a x o h)
theorem rd_ext {G G' : Hp} (e : Ext G G') {a : Addr} {u : HO} (r : Rd G a u) : Rd G' a u := by
  rcases r with r | ⟨o, r⟩
  · exact .inl (e _ _ r)
  · exact .inr ⟨o, e _ _ r⟩
theorem sqT_ext {K : PySem.W.Frag} {G G' : Hp} (e : Ext G G') {a : Addr} {xs : List V} (h : SqT K G a xs) : SqT K G' a xs := h.elim (fun r => .inl (rd_ext e r)) .inr
theorem sqL_ext {K : PySem.W.Frag} {G G' : Hp} (e : Ext G G') {a : Addr} {xs : List V} (h : SqL K G a xs) : SqL K G' a xs := h.elim (fun r => .inl (rd_ext e r)) .inr

/-- an error that has been caught, at a: its class, its dict -/
def ErO (cls : Value) (d : Option Addr) (a : Addr) : HO := .ext fun h => ∃ (oe : Obj) (vs : Array Value), h.get? a = some oe ∧ Zc cls d oe ∧ oe.data = .fields vs
mutual
inductive Is (K : PySem.W.Frag) (G : Hp) : P → V → Prop
  | non : Is K G .non .non
  | bl (b : Bool) : Is K G (.bl b) (.bl b)
  | int (i : Int) : Is K G (.int i) (.int i)
  | str (x : Str) : Is K G (.str x) (.str x)
  | tup {a : Addr} {xs : List V} {l : List P} : SqT K G a xs → IsA K G l xs → Is K G (.tup l) (.ref a)
  | lst {a : Addr} {xs : List V} {l : List P} : G a = some (.lst xs) → IsA K G l xs → Is K G (.lst l) (.ref a)
  | scr {a : Addr} {l : List Int} : SqL K G a (l.map V.int) → Is K G (.scr l) (.ref a)
  | obj {a dx : Addr} {c : Str} {fs : List (Str × P)} {xs : List (Str × V)} : G a = some (.ins (He.ga K c) dx xs) → IsF K G fs xs → Is K G (.obj c fs) (.ref a)
  | emp {a : Addr} : G a = some (.dK []) → Is K G .emp (.ref a)
  | err0 {a : Addr} {c : Str} : G a = some (ErO (.ref (He.ga K c)) none a) → Is K G (.err c []) (.ref a)
  | err1 {a dd : Addr} {c f : Str} {y : P} {v : V} : G a = some (ErO (.ref (He.ga K c)) (some dd) a) → G dd = some (.xd [(f, v)]) → Is K G y v → Is K G (.err c [(f, y)]) (.ref a)
inductive IsA (K : PySem.W.Frag) (G : Hp) : List P → List V → Prop
  | nil : IsA K G [] []
  | cons {p : P} {l : List P} {v : V} {xs : List V} : Is K G p v → IsA K G l xs → IsA K G (p :: l) (v :: xs)
inductive IsF (K : PySem.W.Frag) (G : Hp) : List (Str × P) → List (Str × V) → Prop
  | nil : IsF K G [] []
  | cons {f : Str} {p : P} {l : List (Str × P)} {v : V} {xs : List (Str × V)} : Is K G p v → IsF K G l xs → IsF K G ((f, p) :: l) ((f, v) :: xs)
end
mutual
theorem Is.ext {K : PySem.W.Frag} {G G' : Hp} (e : Ext G G') : ∀ {p : P} {v : V}, Is K G p v → Is K G' p v
  | _, _, .non => .non
  | _, _, .bl b => .bl b
  | _, _, .int i => .int i
  | _, _, .str x => .str x
  | _, _, .tup h hs => .tup (sqT_ext e h) (IsA.ext e hs)
  | _, _, .lst h hs => .lst (e _ _ h) (IsA.ext e hs)
  | _, _, .scr h => .scr (sqL_ext e h)
  | _, _, .obj h hs => .obj (e _ _ h) (IsF.ext e hs)
  | _, _, .emp h => .emp (e _ _ h)
  | _, _, .err0 h => .err0 (e _ _ h)
  | _, _, .err1 h h' hs => .err1 (e _ _ h) (e _ _ h') (Is.ext e hs)
theorem IsA.ext {K : PySem.W.Frag} {G G' : Hp} (e : Ext G G') : ∀ {l : List P} {xs : List V}, IsA K G l xs → IsA K G' l xs
  | _, _, .nil => .nil
  | _, _, .cons h hs => .cons (Is.ext e h) (IsA.ext e hs)
theorem IsF.ext {K : PySem.W.Frag} {G G' : Hp} (e : Ext G G') : ∀ {l : List (Str × P)} {xs : List (Str × V)}, IsF K G l xs → IsF K G' l xs
  | _, _, .nil => .nil
  | _, _, .cons h hs => .cons (Is.ext e h) (IsF.ext e hs)
end
section
variable {K : PySem.W.Frag} {G : Hp}
theorem IsA.length : ∀ {l : List P} {xs : List V}, IsA K G l xs → l.length = xs.length
  | _, _, .nil => rfl
  | _, _, .cons _ h => by simp [IsA.length h]
theorem IsA.get : ∀ {l : List P} {xs : List V}, IsA K G l xs → ∀ {i : Nat} {p : P}, l[i]? = some p → ∃ v, xs[i]? = some v ∧ Is K G p v
  | _, _, .nil, _, _, e => by simp at e
  | _, _, .cons h _, 0, _, e => by simp at e; subst e; exact ⟨_, rfl, h⟩
  | _, _, .cons _ h, i + 1, p, e => by
    obtain ⟨v, h1, h2⟩ := IsA.get h (i := i) (p := p) (by simpa using e)
    exact ⟨v, by simpa using h1, h2⟩
theorem IsA.getV {l : List P} {xs : List V} (h : IsA K G l xs) {i : Nat} {v : V} (e : xs[i]? = some v) : ∃ p, l[i]? = some p ∧ Is K G p v := by
  have hi : i < xs.length := (List.getElem?_eq_some_iff.mp e).1
  have hl : i < l.length := by rw [h.length]; exact hi
  obtain ⟨w, h1, h2⟩ := h.get (List.getElem?_eq_getElem hl)
  rw [e] at h1
  cases h1
  exact ⟨_, List.getElem?_eq_getElem hl, h2⟩
theorem IsA.append : ∀ {l : List P} {xs : List V} {m : List P} {ys : List V}, IsA K G l xs → IsA K G m ys → IsA K G (l ++ m) (xs ++ ys)
  | _, _, _, _, .nil, h => h
  | _, _, _, _, .cons a b, h => .cons a (IsA.append b h)
theorem IsA.set : ∀ {l : List P} {xs : List V} {p : P} {v : V} (i : Nat), IsA K G l xs → Is K G p v → IsA K G (l.set i p) (xs.set i v)
  | _, _, _, _, _, .nil, _ => .nil
  | _, _, _, _, 0, .cons _ b, h => .cons h b
  | _, _, _, _, i + 1, .cons a b, h => .cons a (IsA.set i b h)
theorem IsA.take : ∀ {l : List P} {xs : List V} (n : Nat), IsA K G l xs → IsA K G (l.take n) (xs.take n)
  | _, _, 0, _ => by rw [List.take_zero, List.take_zero]; exact .nil
  | _, _, _ + 1, .nil => .nil
  | _, _, n + 1, .cons a b => .cons a (IsA.take n b)
theorem IsA.drop : ∀ {l : List P} {xs : List V} (n : Nat), IsA K G l xs → IsA K G (l.drop n) (xs.drop n)
  | _, _, 0, h => h
  | _, _, _ + 1, .nil => .nil
  | _, _, n + 1, .cons _ b => IsA.drop n b
theorem IsA.rep {l : List P} {xs : List V} (h : IsA K G l xs) : ∀ k : Nat, IsA K G (List.replicate k l).flatten (List.replicate k xs).flatten
  | 0 => .nil
  | k + 1 => by
    rw [List.replicate_succ, List.replicate_succ, List.flatten_cons, List.flatten_cons]
    exact h.append (IsA.rep h k)
theorem IsA.rev {l : List P} {xs : List V} (h : IsA K G l xs) : IsA K G l.reverse xs.reverse := by
  induction l generalizing xs with
  | nil => cases h; exact .nil
  | cons p l ih =>
    cases h with
    | cons a b =>
      rw [List.reverse_cons, List.reverse_cons]
      exact (ih b).append (.cons a .nil)
theorem IsA.ints : ∀ (ns : List Int), IsA K G (ns.map P.int) (ns.map V.int)
  | [] => .nil
  | n :: ns => .cons (.int n) (IsA.ints ns)
theorem IsA.of_ints : ∀ {ns : List Int} {xs : List V}, IsA K G (ns.map P.int) xs → xs = ns.map V.int
  | [], _, h => by cases h; rfl
  | n :: ns, _, h => by
    cases h with
    | cons a b => cases a; rw [IsA.of_ints b]; rfl
theorem IsA.of_bls : ∀ {bs : List Bool} {xs : List V}, IsA K G (bs.map P.bl) xs → xs = bs.map V.bl
  | [], _, h => by cases h; rfl
  | n :: ns, _, h => by
    cases h with
    | cons a b => cases a; rw [IsA.of_bls b]; rfl
theorem IsA.of_strs : ∀ {bs : List Str} {xs : List V}, IsA K G (bs.map P.str) xs → xs = bs.map V.str
  | [], _, h => by cases h; rfl
  | n :: ns, _, h => by
    cases h with
    | cons a b => cases a; rw [IsA.of_strs b]; rfl
theorem IsF.get : ∀ {fs : List (Str × P)} {xs : List (Str × V)}, IsF K G fs xs → ∀ {f : Str} {p : P}, fs.lookup f = some p → ∃ v, xs.lookup f = some v ∧ Is K G p v
  | _, _, .nil, _, _, e => by simp at e
  | _, _, .cons (f := g) h hs, f, p, e => by
    rw [List.lookup_cons] at e ⊢
    cases q : (f == g) with
    | true => rw [q] at e; cases e; exact ⟨_, rfl, h⟩
    | false => rw [q] at e; exact IsF.get hs e
theorem IsF.none : ∀ {fs : List (Str × P)} {xs : List (Str × V)}, IsF K G fs xs → ∀ {f : Str}, fs.lookup f = none → xs.lookup f = none
  | _, _, .nil, _, _ => rfl
  | _, _, .cons (f := g) h hs, f, e => by
    rw [List.lookup_cons] at e ⊢
    cases q : (f == g) with
    | true => rw [q] at e; cases e
    | false => rw [q] at e; exact IsF.none hs e
end

/-! ### the tables of code objects of defs that make lambdas -/
def lamNames : List Str := ["_law_right"]
def tbK (K : PySem.W.Frag) : List (Addr × Str) := lamNames.filterMap fun x => (PySem.W.tabIn K x).map fun q => (q.2, x ++ ".<locals>." ++ "<lambda>")
/-! ### the store's lists in the heap -/
structure Cs (K : PySem.W.Frag) (H : Hp) (α : List Addr) (S : Sto) : Prop where
  nd : α.Nodup
  len : α.length = S.length
  at_ : ∀ (n : Nat) (a : Addr) (l : List P), α[n]? = some a → S[n]? = some l → ∃ xs, H a = some (.lst xs) ∧ IsA K (hid α H) l xs
  tb : LamX.Tabs (tbK K) H
def IsU (K : PySem.W.Frag) (α : List Addr) (G : Hp) : U → V → Prop
  | .p x, v => Is K G x v
  | .c n, v => ∃ a, α[n]? = some a ∧ v = .ref a
inductive IsUs (K : PySem.W.Frag) (α : List Addr) (G : Hp) : List U → List V → Prop
  | nil : IsUs K α G [] []
  | cons {u : U} {us : List U} {v : V} {vs : List V} : IsU K α G u v → IsUs K α G us vs → IsUs K α G (u :: us) (v :: vs)
structure IsE (K : PySem.W.Frag) (α : List Addr) (G : Hp) (ρ : En) (σ : L2.St) : Prop where
  len : ρ.length = σ.length
  at_ : ∀ (i : Nat) (u : U), ρ[i]? = some (some u) → ∃ v, σ[i]? = some (some v) ∧ IsU K α G u v
/-- from H on: new lists at β, all but the store's lists as it was -/
structure Aft (K : PySem.W.Frag) (α : List Addr) (H : Hp) (β : List Addr) (H' : Hp) (S' : Sto) : Prop where
  old : ∀ b o, H b = some o → b ∉ α → (∀ ps, o ≠ .tbl ps) → H' b = some o
  new : ∀ b ∈ β, ∀ o, H b = some o → ∃ ps, o = .tbl ps
  cs : Cs K H' (α ++ β) S'
section
variable {K : PySem.W.Frag} {α β γ : List Addr} {H H' H'' : Hp} {S S' S'' : Sto}
theorem Cs.there (c : Cs K H α S) {a : Addr} (h : a ∈ α) : ∃ xs, H a = some (.lst xs) := by
  obtain ⟨n, hn, e⟩ := List.getElem_of_mem h
  have hl : n < S.length := by rw [← c.len]; exact hn
  obtain ⟨xs, h1, _⟩ := c.at_ n a S[n] (by rw [List.getElem?_eq_getElem hn, e]) (List.getElem?_eq_getElem hl)
  exact ⟨xs, h1⟩
/-- nothing but the store's lists has changed: tables stay -/
theorem Cs.tabs (c : Cs K H α S) (old : ∀ b o, H b = some o → b ∉ α → H' b = some o) {T : List (Addr × Str)} (t : LamX.Tabs T H) : LamX.Tabs T H' := by
  have ne : ∀ {b : Addr} {o : HO}, H b = some o → (∀ xs, o ≠ .lst xs) → b ∉ α := fun {b o} e n z => by
    obtain ⟨xs, q⟩ := c.there z
    rw [e] at q
    exact n xs (Option.some.inj q)
  intro p hp
  obtain ⟨ps, h1, h2, h3⟩ := t p hp
  refine ⟨ps, old _ _ h1 (ne h1 fun xs z => by cases z), h2, fun pos cv hc => ?_⟩
  obtain ⟨k, e1, e2⟩ := h3 pos cv hc
  exact ⟨k, e1, old _ _ e2 (ne e2 fun xs z => by unfold LamX.CodeO at z; cases z)⟩
/-- nothing but the store's lists has changed -/
theorem Aft.mk3 (c : Cs K H α S) (old : ∀ b o, H b = some o → b ∉ α → H' b = some o) (new : ∀ b ∈ β, H b = none) (cs : Cs K H' (α ++ β) S') : Aft K α H β H' S' :=
  ⟨fun b o h n _ => old b o h n, fun b hb o h => (by rw [new b hb] at h; cases h), cs⟩
theorem Aft.ext (a : Aft K α H β H' S') : Ext (hid α H) (hid (α ++ β) H') := fun b o h => by
  obtain ⟨h1, h2, h4⟩ := hid_all h
  have h3 : b ∉ β := fun z => by
    obtain ⟨ps, e⟩ := a.new b z _ h2
    exact h4 ps e
  exact hid_out (by simp [h1, h3]) (a.old b o h2 h1 h4) h4
theorem Aft.refl (c : Cs K H α S) : Aft K α H [] H S := ⟨fun _ _ h _ _ => h, fun _ h => absurd h (by simp), by rw [List.append_nil]; exact c⟩
theorem Aft.trans (c : Cs K H α S) (a : Aft K α H β H' S') (b : Aft K (α ++ β) H' γ H'' S'') : Aft K α H (β ++ γ) H'' S'' := by
  refine ⟨fun x o h hx n => ?_, fun x hx o h => ?_, by rw [← List.append_assoc]; exact b.cs⟩
  · have h3 : x ∉ β := fun z => by
      obtain ⟨ps, e⟩ := a.new x z _ h
      exact n ps e
    exact b.old x o (a.old x o h hx n) (by simp [hx, h3]) n
  · rcases List.mem_append.mp hx with hb | hc
    · exact a.new x hb o h
    · by_cases n : ∀ ps, o ≠ .tbl ps
      · by_cases hx : x ∈ α
        · obtain ⟨xs, z⟩ := a.cs.there (a := x) (by simp [hx])
          obtain ⟨ps, e⟩ := b.new x hc _ z
          cases e
        · exact b.new x hc _ (a.old x o h hx n)
      · obtain ⟨ps, hp⟩ := Classical.not_forall.mp n
        exact ⟨ps, Classical.not_not.mp hp⟩
theorem IsU.mono {G G' : Hp} (e : Ext G G') {u : U} {v : V} (h : IsU K α G u v) : IsU K (α ++ β) G' u v := by
  cases u with
  | p x => exact Is.ext e h
  | c n =>
    obtain ⟨a, h1, h2⟩ := h
    exact ⟨a, by rw [List.getElem?_append_left (List.getElem?_eq_some_iff.mp h1).1]; exact h1, h2⟩
theorem IsU.aft (a : Aft K α H β H' S') {u : U} {v : V} (h : IsU K α (hid α H) u v) : IsU K (α ++ β) (hid (α ++ β) H') u v := h.mono a.ext
theorem IsUs.aft (a : Aft K α H β H' S') : ∀ {us : List U} {vs : List V}, IsUs K α (hid α H) us vs → IsUs K (α ++ β) (hid (α ++ β) H') us vs
  | _, _, .nil => .nil
  | _, _, .cons h hs => .cons (h.aft a) (IsUs.aft a hs)
theorem IsE.aft (a : Aft K α H β H' S') {ρ : En} {σ : L2.St} (h : IsE K α (hid α H) ρ σ) : IsE K (α ++ β) (hid (α ++ β) H') ρ σ :=
  ⟨h.len, fun i u e => let ⟨v, h1, h2⟩ := h.at_ i u e; ⟨v, h1, h2.aft a⟩⟩
theorem IsE.set {G : Hp} {ρ : En} {σ : L2.St} {u : U} {v : V} (h : IsE K α G ρ σ) (i : Nat) (hu : IsU K α G u v) : IsE K α G (ρ.set i (some u)) (σ.set i (some v)) := by
  refine ⟨by simp [h.len], fun j w e => ?_⟩
  by_cases hj : i = j
  · subst hj
    have hi : i < ρ.length := by
      have := (List.getElem?_eq_some_iff.mp e).1
      simpa using this
    rw [List.getElem?_set_self hi] at e
    cases e
    exact ⟨v, by rw [List.getElem?_set_self (by rw [← h.len]; exact hi)], hu⟩
  · rw [List.getElem?_set_ne hj] at e
    obtain ⟨x, h1, h2⟩ := h.at_ j w e
    exact ⟨x, by rw [List.getElem?_set_ne hj]; exact h1, h2⟩
theorem IsUs.length {G : Hp} : ∀ {us : List U} {vs : List V}, IsUs K α G us vs → us.length = vs.length
  | _, _, .nil => rfl
  | _, _, .cons _ h => by simp [IsUs.length h]
end

/-- all stays but tables; those of what makes lambdas stay good -/
structure ExtT (K : PySem.W.Frag) (H H' : Hp) : Prop where
  old : ∀ b o, H b = some o → (∀ ps, o ≠ .tbl ps) → H' b = some o
  tb : LamX.Tabs (tbK K) H → LamX.Tabs (tbK K) H'
theorem ExtT.refl {K : PySem.W.Frag} {H : Hp} : ExtT K H H := ⟨fun _ _ h _ => h, fun t => t⟩
theorem ExtT.trans {K : PySem.W.Frag} {H H' H'' : Hp} (a : ExtT K H H') (b : ExtT K H' H'') : ExtT K H H'' := ⟨fun x o h n => b.old x o (a.old x o h n) n, fun t => b.tb (a.tb t)⟩
theorem ExtT.of {K : PySem.W.Frag} {H H' : Hp} (e : Ext H H') : ExtT K H H' := ⟨fun b o h _ => e b o h, fun t => t.ext e⟩
theorem ExtT.hid {K : PySem.W.Frag} {H H' : Hp} (e : ExtT K H H') {α : List Addr} : Ext (hid α H) (hid α H') := fun b o h => by
  obtain ⟨h1, h2, h3⟩ := hid_all h
  exact hid_out h1 (e.old b o h2 h3) h3
theorem hid_less {H : Hp} {α : List Addr} : Ext (Ev.hid α H) (Ev.hid [] H) := fun b o h => by
  obtain ⟨h1, h2, h3⟩ := hid_all h
  exact hid_out (by simp) h2 h3
theorem Aft.extT {K : PySem.W.Frag} {H H' : Hp} {β : List Addr} {S' : Sto} (a : Aft K [] H β H' S') : ExtT K H H' := ⟨fun b o h n => a.old b o h (by simp) n, fun _ => a.cs.tb⟩
/-- what is wanted of an exception: its class, its dict, the heap -/
def IsX (K : PySem.W.Frag) (G H : Hp) (x : Xn) (cls : Value) (d : Option Addr) : Prop :=
  cls = .ref (He.ga K x.cls) ∧ match x.arg with
    | none => d = none
    | some (f, y) => ∃ dd v, d = some dd ∧ H dd = some (.xd [(f, v)]) ∧ Is K G y v
/-- what a computation leads to -/
def tG {A : Type} (K : PySem.W.Frag) (W : XK) (α : List Addr) (H : Hp) (m : M A) (Po : A → Sto → List Addr → Hp → Prop) : Prop := match m with
  | none => False
  | some (.ok a S') => ∀ β H', Aft K α H β H' S' → Po a S' (α ++ β) H'
  | some (.ex x S') => ∀ β H' cls d, Aft K α H β H' S' → IsX K (hid (α ++ β) H') H' x cls d → W cls d H'
section
variable {K : PySem.W.Frag} {W : XK} {α β : List Addr} {H H' : Hp} {S S' : Sto} {A B : Type}
theorem tG_aft {m : M A} {Po : A → Sto → List Addr → Hp → Prop} (c : Cs K H α S) (a : Aft K α H β H' S') (h : tG K W α H m Po) : tG K W (α ++ β) H' m Po := by
  cases m with
  | none => exact h
  | some r =>
    cases r with
    | ok x S2 =>
      intro γ H2 a2
      have q := h (β ++ γ) H2 (a.trans c a2)
      rw [← List.append_assoc] at q
      exact q
    | ex x S2 =>
      intro γ H2 cls d a2 hx
      refine h (β ++ γ) H2 cls d (a.trans c a2) ?_
      rw [← List.append_assoc]
      exact hx
theorem tG_mono {m : M A} {Po Po' : A → Sto → List Addr → Hp → Prop} (h : tG K W α H m Po) (f : ∀ a S' β H', Aft K α H β H' S' → m = some (.ok a S') → Po a S' (α ++ β) H' → Po' a S' (α ++ β) H') : tG K W α H m Po' := by
  cases m with
  | none => exact h
  | some r =>
    cases r with
    | ok x S2 => exact fun β H2 a => f x S2 β H2 a rfl (h β H2 a)
    | ex x S2 => exact h
theorem tG_bind {m : M A} {k : A → Sto → M B} {Po : B → Sto → List Addr → Hp → Prop} (c : Cs K H α S) (h : tG K W α H (m.bind k) Po) :
    tG K W α H m (fun a S1 γ H1 => tG K W γ H1 (k a S1) Po) := by
  cases m with
  | none => exact h
  | some r =>
    cases r with
    | ok x S2 => exact fun β H2 a => tG_aft c a h
    | ex x S2 => exact h
theorem tG_ok {a : A} {S' : Sto} {Po : A → Sto → List Addr → Hp → Prop} (h : tG K W α H (some (.ok a S')) Po) {β : List Addr} {H' : Hp} (x : Aft K α H β H' S') : Po a S' (α ++ β) H' := h β H' x
theorem tG_ok0 {a : A} {S' : Sto} {Po : A → Sto → List Addr → Hp → Prop} (h : tG K W α H (some (.ok a S')) Po) {H' : Hp} (x : Aft K α H [] H' S') : Po a S' α H' := by
  have q := h [] H' x
  rwa [List.append_nil] at q
end
/-! ### readings of computations -/
abbrev FE := En → Sto → M U
abbrev FA := En → Sto → M (List U)
abbrev FT := En → Sto → M Bool
def PoE (K : PySem.W.Frag) (Q : VK) : U → Sto → List Addr → Hp → Prop := fun u _ γ H' => ∀ v, IsU K γ (hid γ H') u v → Q v H'
def PoA (K : PySem.W.Frag) (Q : List V → Hp → Prop) : List U → Sto → List Addr → Hp → Prop := fun us _ γ H' => ∀ vs, IsUs K γ (hid γ H') us vs → Q vs H'
def PoT (Q : Bool → Hp → Prop) : Bool → Sto → List Addr → Hp → Prop := fun b _ _ H' => Q b H'
def tE (K : PySem.W.Frag) (W : XK) (f : FE) : TE := fun σ H Q => ∃ ρ α S, IsE K α (hid α H) ρ σ ∧ Cs K H α S ∧ tG K W α H (f ρ S) (PoE K Q)
def tA (K : PySem.W.Frag) (W : XK) (f : FA) : TA := fun σ H Q => ∃ ρ α S, IsE K α (hid α H) ρ σ ∧ Cs K H α S ∧ tG K W α H (f ρ S) (PoA K Q)
def tT (K : PySem.W.Frag) (W : XK) (f : FT) : TT := fun σ H Q => ∃ ρ α S, IsE K α (hid α H) ρ σ ∧ Cs K H α S ∧ tG K W α H (f ρ S) (PoT Q)
theorem _root_.L2.PE.weak {X : Cx} {e : Expr} {t t' : TE} (h : PE X e t) (w : ∀ σ H Q, t' σ H Q → t σ H Q) : PE X e t' := ⟨fun pins s σ H Q I q => h.run pins s σ H Q I (w σ H Q q)⟩
theorem _root_.L2.PT.weak {X : Cx} {e : Expr} {t t' : TT} (h : PT X e t) (w : ∀ σ H Q, t' σ H Q → t σ H Q) : PT X e t' := ⟨fun pins s σ H Q I q => h.run pins s σ H Q I (w σ H Q q)⟩
theorem _root_.L2.PW.weak {X : Cx} {e : Expr} {t t' : TT} (h : PW X e t) (w : ∀ σ H Q, t' σ H Q → t σ H Q) : PW X e t' := ⟨fun wh pins s σ H Q I q => h.run wh pins s σ H Q I (w σ H Q q)⟩
theorem _root_.L2.PA.weak {X : Cx} {e : List Expr} {t t' : TA} (h : PA X e t) (w : ∀ σ H Q, t' σ H Q → t σ H Q) : PA X e t' := ⟨fun pos pins s σ H Q I q => h.run pos pins s σ H Q I (w σ H Q q)⟩
theorem _root_.L2.PS.weak {X : Cx} {e : Stmt} {t t' : TS} (h : PS X e t) (w : ∀ D σ H, t' D σ H → t D σ H) : PS X e t' := ⟨fun pins s σ H D I q => h.run pins s σ H D I (w D σ H q)⟩
theorem _root_.L2.PSs.weak {X : Cx} {e : List Stmt} {t t' : TS} (h : PSs X e t) (w : ∀ D σ H, t' D σ H → t D σ H) : PSs X e t' := ⟨fun pins s σ H D I q => h.run pins s σ H D I (w D σ H q)⟩
end Ev
end
section
set_option Elab.async false
set_option linter.all false
set_option maxRecDepth 100000
set_option maxHeartbeats 4000000
/-! a tuple told once, or not at all -/
namespace Ev
open PySem PySem.Spec PyProof.Rows L2
theorem mul_same (a : Addr) (xs : Array Value) (m : Nat) (dd : Option Addr) (sl : Array (Option Value)) (k : Int) (u : Tok) (h0 : (decide (k < -(2 ^ 63)) || decide (k ≥ 2 ^ 63)) = false) (h1 : (xs.isEmpty || k == 1) = true) :
    Meets (Builtin.«tuple.__mul__» ⟨[.ref a, .int k u], []⟩) (fun _ R s => s.heap.get? a = some ⟨.type "tuple", dd, .seq xs m, sl⟩ ∧ R (.ok (.ret (.ref a))) s) :=
  .of_wp fun pr w A R st z => by
    obtain ⟨hp, gs, dn, tk, os⟩ := st
    obtain ⟨ha, z⟩ := z
    have i1 := AutoSeq1.idx_int
    wp_walk using wpAny_loadPart' ha
    refine wpAny_ite_false (decide_eq_false (by rw [h0]; exact Bool.false_ne_true)) ?_
    wp_walk using wpAny_loadPart' ha
    exact ⟨_, rfl, z⟩
theorem mul_none (a : Addr) (xs : Array Value) (m : Nat) (dd : Option Addr) (sl : Array (Option Value)) (k : Int) (u : Tok) (h0 : (decide (k < -(2 ^ 63)) || decide (k ≥ 2 ^ 63)) = false) (h1 : (xs.isEmpty || k == 1) = false) (h2 : (decide (k ≤ 0) || xs.isEmpty) = true) :
    Meets (Builtin.«tuple.__mul__» ⟨[.ref a, .int k u], []⟩) (fun _ R s => s.heap.get? a = some ⟨.type "tuple", dd, .seq xs m, sl⟩ ∧
      R (.ok (.ret (Value.ref s.heap.objs.size))) { s with heap := s.heap.push { cls := Value.type "tuple", data := Data.seq #[] }, toks := s.toks }) :=
  .of_wp fun pr w A R st z => by
    obtain ⟨hp, gs, dn, tk, os⟩ := st
    obtain ⟨ha, z⟩ := z
    have i1 := AutoSeq1.idx_int
    wp_walk using wpAny_loadPart' ha
    refine wpAny_ite_false (decide_eq_false (by rw [h0]; exact Bool.false_ne_true)) ?_
    wp_walk using wpAny_loadPart' ha
    exact ⟨_, rfl, z⟩
/-- a tuple once, or an empty one, is that tuple; else not at all: an empty one -/
def rRep1 (K : PySem.W.Frag) : R2 := fun x y H Q => ∃ a k xs, x = .ref a ∧ y = .int k ∧ SqT K H a xs ∧ -1000 ≤ k ∧ k ≤ 1000 ∧ ((xs = [] ∨ k = 1) ∧ Q (.ref a) H ∨ xs ≠ [] ∧ k ≤ 0 ∧ ∀ p, H p = none → Q (.ref p) (upd H p (.tup [])))
theorem op_rep1 {X : Cx} : OpR X (binaryOp .Mult) (rRep1 X.K) := by
  intro pn s σ H x y v u Q I rx ry hh
  obtain ⟨a, i, xs, rfl, rfl, hT, l1, l2, hh⟩ := hh
  cases rx
  obtain ⟨tok, rfl⟩ := ry
  obtain ⟨us0, rl, ⟨⟨cls, dd, data, sl⟩, e0, e1, nn, e2⟩, e3⟩ := I.tuple hT
  simp only at e1 e2
  subst e1 e2
  have el : us0.length = xs.length := rl.length.symm
  have h0 : (decide (i < -(2 ^ 63)) || decide (i ≥ 2 ^ 63)) = false := by
    simp only [decide_eq_false (show ¬ i < -(2 ^ 63) by omega), decide_eq_false (show ¬ i ≥ 2 ^ 63 by omega)]; rfl
  rcases hh with ⟨c, q⟩ | ⟨ne, c, q⟩
  · have h1 : (us0.toArray.isEmpty || i == 1) = true := by
      rcases c with rfl | rfl
      · have : us0 = [] := List.eq_nil_of_length_eq_zero el
        subst this
        rfl
      · simp
    refine wpAny_binaryOp_repeat_ref (T := "tuple") (U := "int") (by decide) ⟨_, e0, rfl⟩ (fun s' => typeIs_int s' i tok) noFill_tuple_mul F.fills_int_mul F.slot_int_rmul repeat_tuple F.slot_int_index.lookup
      (call_meets F.slot_int_rmul (typeIs_int s i tok) F.entry_int_rmul (F.args_int_rmul_2 _ _) (int_rmul_tuple i tok a us0.toArray nn dd sl)
        ⟨e0, rfl, ⟨_, e0, rfl⟩, call_meets F.slot_tuple_mul ⟨_, e0, rfl⟩ F.entry_tuple_mul (F.args_tuple_mul_2 _ _) (mul_same a us0.toArray nn dd sl i tok h0 h1) ⟨e0, ?_⟩⟩)
    exact ⟨.ref a, H, I, rfl, q⟩
  · have ne' : us0 ≠ [] := fun e => ne (by
      subst e
      exact List.eq_nil_of_length_eq_zero el.symm)
    have em : us0.toArray.isEmpty = false := by
      cases us0 with
      | nil => exact absurd rfl ne'
      | cons _ _ => rfl
    have h1 : (us0.toArray.isEmpty || i == 1) = false := by
      rw [em, Bool.false_or]
      refine beq_eq_false_iff_ne.mpr ?_; omega
    have h2 : (decide (i ≤ 0) || us0.toArray.isEmpty) = true := by
      rw [decide_eq_true c]; rfl
    refine wpAny_binaryOp_repeat_ref (T := "tuple") (U := "int") (by decide) ⟨_, e0, rfl⟩ (fun s' => typeIs_int s' i tok) noFill_tuple_mul F.fills_int_mul F.slot_int_rmul repeat_tuple F.slot_int_index.lookup
      (call_meets F.slot_int_rmul (typeIs_int s i tok) F.entry_int_rmul (F.args_int_rmul_2 _ _) (int_rmul_tuple i tok a us0.toArray nn dd sl)
        ⟨e0, rfl, ⟨_, e0, rfl⟩, call_meets F.slot_tuple_mul ⟨_, e0, rfl⟩ F.entry_tuple_mul (F.args_tuple_mul_2 _ _) (mul_none a us0.toArray nn dd sl i tok h0 h1 h2) ⟨e0, ?_⟩⟩)
    refine ⟨.ref s.heap.objs.size, _, I.laid (t' := s.toks) (o := .tup []) (fun b ob z => Heap.get?_push_of_some _ z) (Nat.le_refl _) ?_, rfl, q _ (I.hok.fresh (Nat.le_refl _))⟩
    exact ⟨Nat.zero_le _, _, .nil, IsTup.new _ _⟩
end Ev
end
section
set_option Elab.async false
set_option linter.all false
set_option maxRecDepth 100000
set_option maxHeartbeats 1000000
/-! operators on data -/
namespace Ev
open PySem PySem.Spec PyProof.Rows L2
section
variable {K : PySem.W.Frag} {α β γ : List Addr} {H H' H'' : Hp} {S S' S'' : Sto}
theorem Cs.notin (c : Cs K H α S) {p : Addr} (n : H p = none) : p ∉ α := fun h => by
  obtain ⟨xs, z⟩ := c.there h
  rw [n] at z; cases z
theorem ext_upd {p : Addr} {o : HO} (n : H p = none) : Ext H (upd H p o) := fun b x h => by rw [upd_ne (ne_of_none h n)]; exact h
theorem hid_ext (e : Ext H H') : Ext (hid α H) (hid α H') := fun b o h => by
  obtain ⟨h1, h2, h3⟩ := hid_all h
  exact hid_out h1 (e b o h2) h3
theorem Cs.ext (c : Cs K H α S) (e : Ext H H') : Cs K H' α S := ⟨c.nd, c.len, fun n a l h1 h2 => let ⟨xs, h3, h4⟩ := c.at_ n a l h1 h2; ⟨xs, e _ _ h3, h4.ext (hid_ext e)⟩, c.tb.ext e⟩
theorem aft_ext (c : Cs K H α S) (e : Ext H H') : Aft K α H [] H' S := .mk3 c (fun b o h _ => e b o h) (fun _ h => absurd h (by simp)) (by rw [List.append_nil]; exact c.ext e)
theorem aft_upd (c : Cs K H α S) {p : Addr} {o : HO} (n : H p = none) : Aft K α H [] (upd H p o) S := aft_ext c (ext_upd n)
theorem Aft.hid0 (a : Aft K α H [] H' S') : Ext (hid α H) (hid α H') := by
  have q := a.ext
  rwa [List.append_nil] at q
theorem Aft.cs0 (a : Aft K α H [] H' S') : Cs K H' α S' := by
  have q := a.cs
  rwa [List.append_nil] at q
theorem new_lst (c : Cs K H α S) {p : Addr} (n : H p = none) {l : List P} {xs : List V} (h : IsA K (hid α H) l xs) : Is K (hid α (upd H p (.lst xs))) (.lst l) (.ref p) :=
  .lst (hid_out (c.notin n) upd_same fun _ z => by cases z) (h.ext (hid_ext (ext_upd n)))
theorem new_tup (c : Cs K H α S) {p : Addr} (n : H p = none) {l : List P} {xs : List V} (h : IsA K (hid α H) l xs) : Is K (hid α (upd H p (.tup xs))) (.tup l) (.ref p) :=
  .tup (.inl (.inl (hid_out (c.notin n) upd_same fun _ z => by cases z))) (h.ext (hid_ext (ext_upd n)))
theorem rd_hid {a : Addr} {u : HO} (h : Rd (hid α H) a u) : Rd H a u := by
  rcases h with h | ⟨o, h⟩
  · exact .inl (hid_some h).2
  · exact .inr ⟨o, (hid_some h).2⟩
theorem sqT_hid {a : Addr} {xs : List V} (h : SqT K (hid α H) a xs) : SqT K H a xs := h.elim (fun r => .inl (rd_hid r)) .inr
theorem sqL_hid {a : Addr} {xs : List V} (h : SqL K (hid α H) a xs) : SqL K H a xs := h.elim (fun r => .inl (rd_hid r)) .inr
end
/-! ### views of values -/
/-- a list that can be read -/
def asList : U → Sto → Option (List P)
  | .p (.lst l), _ => some l
  | .c n, S => S[n]?
  | _, _ => none
def asListS : U → Sto → Option (List P)
  | .p (.scr l), _ => some (l.map .int)
  | u, S => asList u S
def asTup : U → Option (List P)
  | .p (.tup l) => some l
  | _ => none
def asInts : List P → Option (List Int)
  | [] => some []
  | .int i :: l => (asInts l).map (i :: ·)
  | _ => none
def asBls : List P → Option (List Bool)
  | [] => some []
  | .bl i :: l => (asBls l).map (i :: ·)
  | _ => none
def asStrs : List P → Option (List Str)
  | [] => some []
  | .str i :: l => (asStrs l).map (i :: ·)
  | _ => none
theorem asInts_eq : ∀ {l : List P} {ns : List Int}, asInts l = some ns → l = ns.map P.int
  | [], _, h => by cases h; rfl
  | .int i :: l, ns, h => by
    unfold asInts at h
    obtain ⟨ms, h1, h2⟩ := Option.map_eq_some_iff.mp h
    subst h2
    rw [asInts_eq h1]; rfl
  | .non :: _, _, h => by cases h
  | .bl _ :: _, _, h => by cases h
  | .str _ :: _, _, h => by cases h
  | .tup _ :: _, _, h => by cases h
  | .lst _ :: _, _, h => by cases h
  | .scr _ :: _, _, h => by cases h
  | .obj _ _ :: _, _, h => by cases h
  | .emp :: _, _, h => by cases h
theorem asBls_eq : ∀ {l : List P} {ns : List Bool}, asBls l = some ns → l = ns.map P.bl
  | [], _, h => by cases h; rfl
  | .bl i :: l, ns, h => by
    unfold asBls at h
    obtain ⟨ms, h1, h2⟩ := Option.map_eq_some_iff.mp h
    subst h2
    rw [asBls_eq h1]; rfl
  | .non :: _, _, h => by cases h
  | .int _ :: _, _, h => by cases h
  | .str _ :: _, _, h => by cases h
  | .tup _ :: _, _, h => by cases h
  | .lst _ :: _, _, h => by cases h
  | .scr _ :: _, _, h => by cases h
  | .obj _ _ :: _, _, h => by cases h
  | .emp :: _, _, h => by cases h
theorem asStrs_eq : ∀ {l : List P} {ns : List Str}, asStrs l = some ns → l = ns.map P.str
  | [], _, h => by cases h; rfl
  | .str i :: l, ns, h => by
    unfold asStrs at h
    obtain ⟨ms, h1, h2⟩ := Option.map_eq_some_iff.mp h
    subst h2
    rw [asStrs_eq h1]; rfl
  | .non :: _, _, h => by cases h
  | .bl _ :: _, _, h => by cases h
  | .int _ :: _, _, h => by cases h
  | .tup _ :: _, _, h => by cases h
  | .lst _ :: _, _, h => by cases h
  | .scr _ :: _, _, h => by cases h
  | .obj _ _ :: _, _, h => by cases h
  | .emp :: _, _, h => by cases h
section
variable {K : PySem.W.Frag} {α : List Addr} {H : Hp} {S : Sto}
theorem as_list (c : Cs K H α S) {u : U} {v : V} (h : IsU K α (hid α H) u v) {l : List P} (e : asList u S = some l) : ∃ a xs, v = .ref a ∧ H a = some (.lst xs) ∧ IsA K (hid α H) l xs := by
  cases u with
  | p x =>
    cases x <;> first | (cases e; done) | skip
    case lst m =>
      cases e
      cases h with
      | lst h1 h2 => exact ⟨_, _, rfl, (hid_some h1).2, h2⟩
  | c n =>
    obtain ⟨a, h1, rfl⟩ := h
    obtain ⟨xs, h2, h3⟩ := c.at_ n a l h1 e
    exact ⟨a, xs, rfl, h2, h3⟩
theorem as_listS (c : Cs K H α S) {u : U} {v : V} (h : IsU K α (hid α H) u v) {l : List P} (e : asListS u S = some l) : ∃ a xs, v = .ref a ∧ SqL K H a xs ∧ IsA K (hid α H) l xs := by
  have go : asList u S = some l → ∃ a xs, v = .ref a ∧ SqL K H a xs ∧ IsA K (hid α H) l xs := fun e => by
    obtain ⟨a, xs, h1, h2, h3⟩ := as_list c h e
    exact ⟨a, xs, h1, .inl (.inl h2), h3⟩
  cases u with
  | c n => exact go e
  | p x =>
    cases x <;> first | exact go e | skip
    case scr m =>
      cases e
      cases h with
      | scr h1 => exact ⟨_, _, rfl, sqL_hid h1, IsA.ints m⟩
theorem as_tup {u : U} {v : V} (h : IsU K α (hid α H) u v) {l : List P} (e : asTup u = some l) : ∃ a xs, v = .ref a ∧ SqT K H a xs ∧ IsA K (hid α H) l xs := by
  cases u with
  | c n => cases e
  | p x =>
    cases x <;> first | (cases e; done) | skip
    case tup m =>
      cases e
      cases h with
      | tup h1 h2 => exact ⟨_, _, rfl, sqT_hid h1, h2⟩
end
/-! ### soundness of operators by values -/
def OpS (K : PySem.W.Frag) (r : R2) (g : U → U → Sto → Option P) : Prop := ∀ (α : List Addr) (H : Hp) (S : Sto) (x y : U) (z : P) (v w : V) (Q : VK), Cs K H α S → IsU K α (hid α H) x v → IsU K α (hid α H) y w → g x y S = some z →
  (∀ u H', Aft K α H [] H' S → Is K (hid α H') z u → Q u H') → r v w H Q
def orG (g g' : U → U → Sto → Option P) (x y : U) (S : Sto) : Option P := match g x y S with
  | some z => some z
  | none => g' x y S
theorem OpS.orG {K : PySem.W.Frag} {r r' : R2} {g g' : U → U → Sto → Option P} (a : OpS K r g) (b : OpS K r' g') : OpS K (fun x y H Q => r x y H Q ∨ r' x y H Q) (orG g g') := by
  intro α H S x y z v w Q c hx hy e q
  unfold Ev.orG at e
  cases h : g x y S with
  | some z' => rw [h] at e; cases e; exact .inl (a α H S x y _ v w Q c hx hy h q)
  | none => rw [h] at e; exact .inr (b α H S x y z v w Q c hx hy e q)
def i2 (f : Int → Int → Option P) : U → U → Sto → Option P
  | .p (.int i), .p (.int j), _ => f i j
  | _, _, _ => none
theorem i2_some {f : Int → Int → Option P} {x y : U} {S : Sto} {z : P} (h : i2 f x y S = some z) : ∃ i j, x = .p (.int i) ∧ y = .p (.int j) ∧ f i j = some z := by
  unfold i2 at h
  split at h
  · exact ⟨_, _, rfl, rfl, h⟩
  · cases h
theorem int_inv {K : PySem.W.Frag} {α : List Addr} {G : Hp} {i : Int} {v : V} (h : IsU K α G (.p (.int i)) v) : v = .int i := by cases h; rfl
theorem str_inv {K : PySem.W.Frag} {α : List Addr} {G : Hp} {i : Str} {v : V} (h : IsU K α G (.p (.str i)) v) : v = .str i := by cases h; rfl
theorem bl_inv {K : PySem.W.Frag} {α : List Addr} {G : Hp} {i : Bool} {v : V} (h : IsU K α G (.p (.bl i)) v) : v = .bl i := by cases h; rfl
theorem Aft.id {K : PySem.W.Frag} {α : List Addr} {H : Hp} {S : Sto} (c : Cs K H α S) : Aft K α H [] H S := Aft.refl c
/-- two ints, a value without the heap -/
theorem ops_int {K : PySem.W.Frag} {C : Int → Int → Prop} [∀ i j, Decidable (C i j)] {g : Int → Int → Int} : OpS K (rI C fun i j => .int (g i j)) (i2 fun i j => if C i j then some (.int (g i j)) else none) := by
  intro α H S x y z v w Q c hx hy e q
  obtain ⟨i, j, rfl, rfl, e3⟩ := i2_some e
  have e1 := int_inv hx
  have e2 := int_inv hy
  subst e1 e2
  split at e3
  · cases e3
    exact ⟨i, j, rfl, rfl, by assumption, q _ _ (.refl c) (.int _)⟩
  · cases e3
theorem ops_int0 {K : PySem.W.Frag} {g : Int → Int → Int} : OpS K (rI0 fun i j => .int (g i j)) (i2 fun i j => some (.int (g i j))) := by
  intro α H S x y z v w Q c hx hy e q
  obtain ⟨i, j, rfl, rfl, e⟩ := i2_some e
  have e1 := int_inv hx
  have e2 := int_inv hy
  subst e1 e2
  cases e
  exact ⟨i, j, rfl, rfl, q _ _ (.refl c) (.int _)⟩
theorem ops_cmp0 {K : PySem.W.Frag} {g : Int → Int → Bool} : OpS K (rI0 fun i j => .bl (g i j)) (i2 fun i j => some (.bl (g i j))) := by
  intro α H S x y z v w Q c hx hy e q
  obtain ⟨i, j, rfl, rfl, e⟩ := i2_some e
  have e1 := int_inv hx
  have e2 := int_inv hy
  subst e1 e2
  cases e
  exact ⟨i, j, rfl, rfl, q _ _ (.refl c) (.bl _)⟩
/-- texts -/
def addStr : U → U → Sto → Option P
  | .p (.str a), .p (.str b), _ => if a.length + b.length ≤ sizeLine then some (.str (a ++ b)) else none
  | _, _, _ => none
theorem ops_addStr {K : PySem.W.Frag} : OpS K (fun x y H Q => ∃ i j, x = .str i ∧ y = .str j ∧ i.length + j.length ≤ sizeLine ∧ Q (.str (i ++ j)) H) addStr := by
  intro α H S x y z v w Q c hx hy e q
  unfold addStr at e
  split at e
  · have e1 := str_inv hx
    have e2 := str_inv hy
    subst e1 e2
    split at e
    · cases e
      exact ⟨_, _, rfl, rfl, by assumption, q _ _ (.refl c) (.str _)⟩
    · cases e
  · cases e
/-- lists -/
def addLst (x y : U) (S : Sto) : Option P := match asList x S, asList y S with
  | some a, some b => if a.length + b.length ≤ sizeLine then some (.lst (a ++ b)) else none
  | _, _ => none
theorem ops_addLst {K : PySem.W.Frag} : OpS K rCat addLst := by
  intro α H S x y z v w Q c hx hy e q
  unfold addLst at e
  split at e
  · rename_i a b ea eb
    obtain ⟨p1, xs, rfl, h1, r1⟩ := as_list c hx ea
    obtain ⟨p2, ys, rfl, h2, r2⟩ := as_list c hy eb
    split at e
    · rename_i hz
      cases e
      refine ⟨p1, p2, xs, ys, rfl, rfl, h1, h2, by rw [← r1.length, ← r2.length]; exact hz, fun p n => q _ _ (aft_upd c n) (new_lst c n (r1.append r2))⟩
    · cases e
  · cases e
/-- tuples -/
def addTup (x y : U) (_ : Sto) : Option P := match asTup x, asTup y with
  | some a, some b => if a.length + b.length ≤ sizeLine then some (.tup (a ++ b)) else none
  | _, _ => none
theorem IsA.nil_iff {K : PySem.W.Frag} {G : Hp} {l : List P} {xs : List V} (h : IsA K G l xs) : xs = [] ↔ l = [] := by
  cases h with
  | nil => simp
  | cons _ _ => simp
theorem ops_addTup {K : PySem.W.Frag} : OpS K (rCatA K) addTup := by
  intro α H S x y z v w Q c hx hy e q
  unfold addTup at e
  split at e
  · rename_i a b ea eb
    obtain ⟨p1, xs, rfl, h1, r1⟩ := as_tup hx ea
    obtain ⟨p2, ys, rfl, h2, r2⟩ := as_tup hy eb
    split at e
    · rename_i hz
      cases e
      have hx' : x = .p (.tup a) := by cases x with | c n => cases ea | p x => cases x <;> first | (cases ea; rfl) | (cases ea; done)
      have hy' : y = .p (.tup b) := by cases y with | c n => cases eb | p x => cases x <;> first | (cases eb; rfl) | (cases eb; done)
      subst hx' hy'
      refine ⟨p1, p2, xs, ys, rfl, rfl, h1, h2, by rw [← r1.length, ← r2.length]; exact hz, fun e0 => ?_, fun _ e0 => ?_, fun _ _ p n => q _ _ (aft_upd c n) (new_tup c n (r1.append r2))⟩
      · have : a = [] := r1.nil_iff.mp e0
        subst this
        exact q _ _ (.refl c) hy
      · have : b = [] := r2.nil_iff.mp e0
        subst this
        rw [List.append_nil] at q
        exact q _ _ (.refl c) hx
    · cases e
  · cases e
/-- list * int -/
def mulLst (x y : U) (S : Sto) : Option P := match asList x S, y with
  | some a, .p (.int k) => if -(2 ^ 63) ≤ k ∧ k < 2 ^ 63 ∧ a.length * k.toNat ≤ sizeLine then some (.lst (List.replicate k.toNat a).flatten) else none
  | _, _ => none
theorem ops_mulLst {K : PySem.W.Frag} : OpS K rRep mulLst := by
  intro α H S x y z v w Q c hx hy e q
  unfold mulLst at e
  split at e
  · rename_i a k ea
    obtain ⟨p1, xs, rfl, h1, r1⟩ := as_list c hx ea
    have e2 := int_inv hy
    subst e2
    split at e
    · rename_i hz
      cases e
      exact ⟨p1, k, xs, rfl, rfl, h1, hz.1, hz.2.1, by rw [← r1.length]; exact hz.2.2, fun p n => q _ _ (aft_upd c n) (new_lst c n (r1.rep _))⟩
    · cases e
  · cases e
def mulTup (x y : U) (_ : Sto) : Option P := match asTup x, y with
  | some a, .p (.int k) => if a ≠ [] ∧ 2 ≤ k ∧ k ≤ 1000 ∧ a.length ≤ 1000 then some (.tup (List.replicate k.toNat a).flatten) else none
  | _, _ => none
theorem ops_mulTup {K : PySem.W.Frag} : OpS K (rRepT K) mulTup := by
  intro α H S x y z v w Q c hx hy e q
  unfold mulTup at e
  split at e
  · rename_i a k ea
    obtain ⟨p1, xs, rfl, h1, r1⟩ := as_tup hx ea
    have e2 := int_inv hy
    subst e2
    split at e
    · rename_i hz
      cases e
      exact ⟨p1, k, xs, rfl, rfl, h1, fun z => hz.1 (r1.nil_iff.mp z), hz.2.1, hz.2.2.1, by rw [← r1.length]; exact hz.2.2.2, fun p n => q _ _ (aft_upd c n) (new_tup c n (r1.rep _))⟩
    · cases e
  · cases e
def mulTup1 (x y : U) (_ : Sto) : Option P := match asTup x, y with
  | some a, .p (.int k) => if -1000 ≤ k ∧ k ≤ 1000 then (if a.isEmpty = true ∨ k = 1 then some (.tup a) else if k ≤ 0 then some (.tup []) else none) else none
  | _, _ => none
theorem asTup_is {x : U} {a : List P} (e : asTup x = some a) : x = .p (.tup a) := by
  cases x with
  | c n => cases e
  | p y => cases y <;> first | (cases e; done) | (cases e; rfl)
theorem ops_mulTup1 {K : PySem.W.Frag} : OpS K (rRep1 K) mulTup1 := by
  intro α H S x y z v w Q c hx hy e q
  unfold mulTup1 at e
  split at e
  · rename_i a k ea
    obtain ⟨p1, xs, rfl, h1, r1⟩ := as_tup hx ea
    have e2 := int_inv hy
    subst e2
    split at e
    · rename_i hz
      split at e
      · rename_i hc
        cases e
        refine ⟨p1, k, xs, rfl, rfl, h1, hz.1, hz.2, .inl ⟨?_, q _ _ (.refl c) (by rw [asTup_is ea] at hx; exact hx)⟩⟩
        rcases hc with hc | hc
        · have hc : a = [] := by simpa using hc
          exact .inl (r1.nil_iff.mpr hc)
        · exact .inr hc
      · rename_i hc
        split at e
        · rename_i hk
          cases e
          refine ⟨p1, k, xs, rfl, rfl, h1, hz.1, hz.2, .inr ⟨fun z => hc (.inl ?_), hk, fun p n => q _ _ (aft_upd c n) (new_tup c n .nil)⟩⟩
          rw [r1.nil_iff.mp z]; rfl
        · cases e
    · cases e
  · cases e
/-! ### all operators -/
inductive Bop where
  | add | sub | mul | div | mod | pow
def Bop.op : Bop → Operator
  | .add => .Add | .sub => .Sub | .mul => .Mult | .div => .FloorDiv | .mod => .Mod | .pow => .Pow
instance {i j : Int} : Decidable (CMulW i j) := by unfold CMulW; infer_instance
instance {i j : Int} : Decidable (CDivW i j) := by unfold CDivW; infer_instance
instance {i j : Int} : Decidable (CPow i j) := by unfold CPow; infer_instance
def binP : Bop → U → U → Sto → Option P
  | .add => orG (i2 fun i j => some (.int (i + j))) (orG addStr (orG addLst addTup))
  | .sub => i2 fun i j => some (.int (i - j))
  | .mul => orG (i2 fun i j => if CMulW i j then some (.int (i * j)) else none) (orG mulLst (orG mulTup mulTup1))
  | .div => i2 fun i j => if CDivW i j then some (.int (i / j)) else none
  | .mod => i2 fun i j => if 0 < j then some (.int (i % j)) else none
  | .pow => i2 fun i j => if CPow i j then some (.int (i ^ j.toNat)) else none
theorem bin_ok (X : Cx) (o : Bop) : ∃ r, OpR X (binaryOp o.op) r ∧ OpS X.K r (binP o) := by
  cases o with
  | add => exact ⟨_, op_add.or (op_add_str.or (op_cat.or op_catA)), ops_int0.orG (ops_addStr.orG (ops_addLst.orG ops_addTup))⟩
  | sub => exact ⟨_, op_sub, ops_int0⟩
  | mul => exact ⟨_, op_mulW.or (op_rep.or (op_repT.or op_rep1)), ops_int.orG (ops_mulLst.orG (ops_mulTup.orG ops_mulTup1))⟩
  | div => exact ⟨_, op_fdivW, ops_int⟩
  | mod => exact ⟨_, op_mod, ops_int⟩
  | pow => exact ⟨_, op_pow, ops_int⟩
/-! ### == of data -/
mutual
def toPy : P → Option PyData
  | .non => some .none
  | .bl b => some (.bool b)
  | .int i => some (.int i)
  | .str x => some (.str x)
  | .tup l => (toPys l).map .tuple
  | .lst l => (toPys l).map .list
  | _ => none
def toPys : List P → Option (List PyData)
  | [] => some []
  | p :: l => match toPy p, toPys l with
    | some d, some ds => some (d :: ds)
    | _, _ => none
end
section
variable {K : PySem.W.Frag} {α : List Addr} {H : Hp}
mutual
theorem toPy_dp : ∀ (p : P) (v : V) (d : PyData), Is K (hid α H) p v → toPy p = some d → Dp K H v d
  | .non, _, _, h, e => by cases h; unfold toPy at e; cases e; exact .non
  | .bl b, _, _, h, e => by cases h; unfold toPy at e; cases e; exact .bl b
  | .int i, _, _, h, e => by cases h; unfold toPy at e; cases e; exact .int i
  | .str x, _, _, h, e => by cases h; unfold toPy at e; cases e; exact .str x
  | .tup l, _, d, h, e => by
    unfold toPy at e
    obtain ⟨ds, e1, e2⟩ := Option.map_eq_some_iff.mp e
    subst e2
    cases h with
    | tup h1 h2 => exact .tup (sqT_hid h1) (toPys_dp l _ ds h2 e1)
  | .lst l, _, d, h, e => by
    unfold toPy at e
    obtain ⟨ds, e1, e2⟩ := Option.map_eq_some_iff.mp e
    subst e2
    cases h with
    | lst h1 h2 => exact .lst (.inl (.inl (hid_some h1).2)) (toPys_dp l _ ds h2 e1)
  | .scr _, _, _, _, e => by unfold toPy at e; cases e
  | .obj _ _, _, _, _, e => by unfold toPy at e; cases e
  | .emp, _, _, _, e => by unfold toPy at e; cases e
theorem toPys_dp : ∀ (l : List P) (vs : List V) (ds : List PyData), IsA K (hid α H) l vs → toPys l = some ds → DpAll K H vs ds
  | [], _, _, h, e => by cases h; unfold toPys at e; cases e; exact .nil
  | p :: l, _, ds, h, e => by
    unfold toPys at e
    cases h with
    | cons h1 h2 =>
      split at e
      · rename_i d ds' e1 e2
        cases e
        exact .cons (toPy_dp p _ d h1 e1) (toPys_dp l _ ds' h2 e2)
      · cases e
end
def toPyU : U → Sto → Option PyData
  | .p x, _ => toPy x
  | .c n, S => match S[n]? with
    | some l => (toPys l).map .list
    | none => none
theorem toPyU_dp {S : Sto} (c : Cs K H α S) {u : U} {v : V} {d : PyData} (h : IsU K α (hid α H) u v) (e : toPyU u S = some d) : Dp K H v d := by
  cases u with
  | p x => exact toPy_dp x v d h e
  | c n =>
    obtain ⟨a, h1, rfl⟩ := h
    have e : (match S[n]? with
      | some l => (toPys l).map .list
      | none => none) = some d := e
    cases e0 : S[n]? with
    | none => rw [e0] at e; cases e
    | some l =>
      rw [e0] at e
      have e : (toPys l).map PyData.list = some d := e
      obtain ⟨ds, e1, e2⟩ := Option.map_eq_some_iff.mp e
      subst e2
      obtain ⟨xs, h2, h3⟩ := c.at_ n a l h1 e0
      exact .lst (.inl (.inl h2)) (toPys_dp l _ ds h3 e1)
end
def eqB (x y : U) (S : Sto) : Option Bool := match toPyU x S, toPyU y S with
  | some d, some e => if SeqAt.shaped d = true ∧ SeqAt.shaped e = true then some (PyData.eqv d e) else none
  | _, _ => none
theorem ops_eq {K : PySem.W.Frag} : OpS K (rEqD K) (fun x y S => (eqB x y S).map .bl) := by
  intro α H S x y z v w Q c hx hy e q
  obtain ⟨b, e1, e2⟩ := Option.map_eq_some_iff.mp e
  subst e2
  unfold eqB at e1
  split at e1
  · rename_i d d' h1 h2
    split at e1
    · rename_i hs
      cases e1
      exact ⟨d, d', toPyU_dp c hx h1, toPyU_dp c hy h2, hs.1, hs.2, q _ _ (.refl c) (.bl _)⟩
    · cases e1
  · cases e1
theorem ops_ne {K : PySem.W.Frag} : OpS K (rNeD K) (fun x y S => (eqB x y S).map fun b => .bl (!b)) := by
  intro α H S x y z v w Q c hx hy e q
  obtain ⟨b, e1, e2⟩ := Option.map_eq_some_iff.mp e
  subst e2
  unfold eqB at e1
  split at e1
  · rename_i d d' h1 h2
    split at e1
    · rename_i hs
      cases e1
      exact ⟨d, d', toPyU_dp c hx h1, toPyU_dp c hy h2, hs.1, hs.2, q _ _ (.refl c) (.bl _)⟩
    · cases e1
  · cases e1
end Ev
end
section
set_option Elab.async false
set_option linter.all false
set_option maxRecDepth 100000
set_option maxHeartbeats 1000000
/-! comparisons, items, slices, truth, built-in calls, on data -/
namespace Ev
open PySem PySem.Spec PyProof.Rows L2
/-! ### comparisons -/
inductive Cop where
  | eq | ne | lt | le | gt | ge | in_ | nin | is_ | isnot
def Cop.op : Cop → CmpOp
  | .eq => .Eq | .ne => .NotEq | .lt => .Lt | .le => .LtE | .gt => .Gt | .ge => .GtE | .in_ => .In | .nin => .NotIn | .is_ => .Is | .isnot => .IsNot
def flatP : P → Option V
  | .non => some .non
  | .bl b => some (.bl b)
  | .int i => some (.int i)
  | .str x => some (.str x)
  | _ => none
def flatPs : List P → Option (List V)
  | [] => some []
  | p :: l => match flatP p, flatPs l with
    | some v, some vs => some (v :: vs)
    | _, _ => none
theorem flatP_ok {K : PySem.W.Frag} {G : Hp} {p : P} {v w : V} (h : Is K G p v) (e : flatP p = some w) : v = w ∧ flatV w = true := by
  cases h <;> first | (cases e; exact ⟨rfl, rfl⟩) | (cases e; done)
theorem flatPs_ok {K : PySem.W.Frag} {G : Hp} : ∀ {l : List P} {vs ws : List V}, IsA K G l vs → flatPs l = some ws → vs = ws ∧ ws.all flatV = true
  | [], _, _, h, e => by cases h; cases e; exact ⟨rfl, rfl⟩
  | p :: l, _, ws, h, e => by
    unfold flatPs at e
    cases h with
    | cons h1 h2 =>
      split at e
      · rename_i v vs e1 e2
        cases e
        obtain ⟨a, b⟩ := flatP_ok h1 e1
        obtain ⟨c, d⟩ := flatPs_ok h2 e2
        exact ⟨by rw [a, c], by simp [b, d]⟩
      · cases e
def flatU : U → Option V
  | .p x => flatP x
  | _ => none
def inP (x y : U) (S : Sto) : Option Bool := match flatU x with
  | some v => (match asListS y S with
    | some l => (flatPs l).map (inV v)
    | none => match asTup y with
      | some l => (flatPs l).map (inV v)
      | none => none)
  | none => none
theorem inP_ok {K : PySem.W.Frag} {α : List Addr} {H : Hp} {S : Sto} (c : Cs K H α S) {x y : U} {v w : V} {b : Bool} (hx : IsU K α (hid α H) x v) (hy : IsU K α (hid α H) y w) (e : inP x y S = some b) :
    ∃ p xs, w = .ref p ∧ (SqL K H p xs ∨ SqT K H p xs) ∧ flatV v = true ∧ xs.all flatV = true ∧ b = inV v xs := by
  unfold inP at e
  cases e0 : flatU x with
  | none => rw [e0] at e; cases e
  | some v' =>
    rw [e0] at e
    have hv : v = v' ∧ flatV v' = true := by
      cases x with
      | c n => cases e0
      | p x => exact flatP_ok hx e0
    obtain ⟨rfl, fv⟩ := hv
    have e : (match asListS y S with
      | some l => (flatPs l).map (inV v)
      | none => match asTup y with
        | some l => (flatPs l).map (inV v)
        | none => none) = some b := e
    cases e1 : asListS y S with
    | some l =>
      rw [e1] at e
      obtain ⟨ws, h1, h2⟩ := Option.map_eq_some_iff.mp e
      obtain ⟨a, xs, rfl, h3, h4⟩ := as_listS c hy e1
      obtain ⟨rfl, h5⟩ := flatPs_ok h4 h1
      exact ⟨a, _, rfl, .inl h3, fv, h5, h2.symm⟩
    | none =>
      rw [e1] at e
      have e : (match asTup y with
        | some l => (flatPs l).map (inV v)
        | none => none) = some b := e
      cases e2 : asTup y with
      | none => rw [e2] at e; cases e
      | some l =>
        rw [e2] at e
        obtain ⟨ws, h1, h2⟩ := Option.map_eq_some_iff.mp e
        obtain ⟨a, xs, rfl, h3, h4⟩ := as_tup hy e2
        obtain ⟨rfl, h5⟩ := flatPs_ok h4 h1
        exact ⟨a, _, rfl, .inr h3, fv, h5, h2.symm⟩
def inS : U → U → Option Bool
  | .p (.str i), .p (.str j) => some (!(Builtin.Str.occurrences j i 0 j.length 1).isEmpty)
  | _, _ => none
theorem ops_in {K : PySem.W.Frag} : OpS K (rIn K false) (fun x y S => (inP x y S).map .bl) := by
  intro α H S x y z v w Q c hx hy e q
  obtain ⟨b, e1, rfl⟩ := Option.map_eq_some_iff.mp e
  obtain ⟨p, xs, h1, h2, h3, h4, rfl⟩ := inP_ok c hx hy e1
  exact ⟨p, xs, h1, h2, h3, h4, q _ _ (.refl c) (.bl _)⟩
theorem ops_nin {K : PySem.W.Frag} : OpS K (rIn K true) (fun x y S => (inP x y S).map fun b => .bl (!b)) := by
  intro α H S x y z v w Q c hx hy e q
  obtain ⟨b, e1, rfl⟩ := Option.map_eq_some_iff.mp e
  obtain ⟨p, xs, h1, h2, h3, h4, rfl⟩ := inP_ok c hx hy e1
  exact ⟨p, xs, h1, h2, h3, h4, q _ _ (.refl c) (.bl _)⟩
theorem inS_inv {x y : U} {b : Bool} (h : inS x y = some b) : ∃ i j, x = .p (.str i) ∧ y = .p (.str j) ∧ b = !(Builtin.Str.occurrences j i 0 j.length 1).isEmpty := by
  unfold inS at h
  split at h
  · cases h; exact ⟨_, _, rfl, rfl, rfl⟩
  · cases h
theorem ops_inS {K : PySem.W.Frag} : OpS K (fun x y H Q => ∃ i j, x = .str i ∧ y = .str j ∧ Q (.bl (!(Builtin.Str.occurrences j i 0 j.length 1).isEmpty)) H) (fun x y _ => (inS x y).map .bl) := by
  intro α H S x y z v w Q c hx hy e q
  obtain ⟨b, e1, rfl⟩ := Option.map_eq_some_iff.mp e
  obtain ⟨i, j, rfl, rfl, rfl⟩ := inS_inv e1
  exact ⟨i, j, str_inv hx, str_inv hy, q _ _ (.refl c) (.bl _)⟩
theorem ops_ninS {K : PySem.W.Frag} : OpS K (fun x y H Q => ∃ i j, x = .str i ∧ y = .str j ∧ Q (.bl (!(!(Builtin.Str.occurrences j i 0 j.length 1).isEmpty))) H) (fun x y _ => (inS x y).map fun b => .bl (!b)) := by
  intro α H S x y z v w Q c hx hy e q
  obtain ⟨b, e1, rfl⟩ := Option.map_eq_some_iff.mp e
  obtain ⟨i, j, rfl, rfl, rfl⟩ := inS_inv e1
  exact ⟨i, j, str_inv hx, str_inv hy, q _ _ (.refl c) (.bl _)⟩
/-- is None -/
def isNon : U → Bool
  | .p .non => true
  | _ => false
def isN : U → U → Option Bool
  | x, .p .non => some (isNon x)
  | _, _ => none
theorem isN_val {K : PySem.W.Frag} {α : List Addr} {G : Hp} {x : U} {v : V} (h : IsU K α G x v) : decide (v = V.non) = isNon x := by
  cases x with
  | c n => obtain ⟨a, _, rfl⟩ := h; rfl
  | p x => cases h <;> rfl
theorem isN_inv {x y : U} {b : Bool} (h : isN x y = some b) : y = .p .non ∧ b = isNon x := by
  unfold isN at h
  split at h
  · cases h; exact ⟨rfl, rfl⟩
  · cases h
theorem ops_isN {K : PySem.W.Frag} : OpS K (fun x y H Q => y = .non ∧ Q (.bl (decide (x = .non))) H) (fun x y _ => (isN x y).map .bl) := by
  intro α H S x y z v w Q c hx hy e q
  obtain ⟨b, e1, rfl⟩ := Option.map_eq_some_iff.mp e
  obtain ⟨rfl, rfl⟩ := isN_inv e1
  cases hy
  refine ⟨rfl, ?_⟩
  rw [isN_val hx]
  exact q _ _ (.refl c) (.bl _)
theorem ops_notN {K : PySem.W.Frag} : OpS K (fun x y H Q => y = .non ∧ Q (.bl (!decide (x = .non))) H) (fun x y _ => (isN x y).map fun b => .bl (!b)) := by
  intro α H S x y z v w Q c hx hy e q
  obtain ⟨b, e1, rfl⟩ := Option.map_eq_some_iff.mp e
  obtain ⟨rfl, rfl⟩ := isN_inv e1
  cases hy
  refine ⟨rfl, ?_⟩
  rw [isN_val hx]
  exact q _ _ (.refl c) (.bl _)
def isB : U → U → Option Bool
  | .p (.bl a), .p (.bl b) => some (decide (a = b))
  | _, _ => none
theorem ops_isB {K : PySem.W.Frag} : OpS K rIsB (fun x y _ => (isB x y).map .bl) := by
  intro α H S x y z v w Q c hx hy e q
  obtain ⟨b, e1, rfl⟩ := Option.map_eq_some_iff.mp e
  unfold isB at e1
  split at e1
  · cases e1
    exact ⟨_, _, bl_inv hx, bl_inv hy, q _ _ (.refl c) (.bl _)⟩
  · cases e1
theorem ops_notB {K : PySem.W.Frag} : OpS K rNotB (fun x y _ => (isB x y).map fun b => .bl (!b)) := by
  intro α H S x y z v w Q c hx hy e q
  obtain ⟨b, e1, rfl⟩ := Option.map_eq_some_iff.mp e
  unfold isB at e1
  split at e1
  · cases e1
    exact ⟨_, _, bl_inv hx, bl_inv hy, q _ _ (.refl c) (.bl _)⟩
  · cases e1
def cmpP : Cop → U → U → Sto → Option P
  | .eq => fun x y S => (eqB x y S).map .bl
  | .ne => fun x y S => (eqB x y S).map fun b => .bl (!b)
  | .lt => i2 fun i j => some (.bl (decide (i < j)))
  | .le => i2 fun i j => some (.bl (decide (i ≤ j)))
  | .gt => i2 fun i j => some (.bl (decide (j < i)))
  | .ge => i2 fun i j => some (.bl (decide (j ≤ i)))
  | .in_ => orG (fun x y S => (inP x y S).map .bl) (fun x y _ => (inS x y).map .bl)
  | .nin => orG (fun x y S => (inP x y S).map fun b => .bl (!b)) (fun x y _ => (inS x y).map fun b => .bl (!b))
  | .is_ => orG (fun x y _ => (isN x y).map .bl) (fun x y _ => (isB x y).map .bl)
  | .isnot => orG (fun x y _ => (isN x y).map fun b => .bl (!b)) (fun x y _ => (isB x y).map fun b => .bl (!b))
theorem cmp_ok (X : Cx) (hu : X.A.units + 64 < cLine) (o : Cop) : ∃ r, OpR X (compareOp o.op) r ∧ OpS X.K r (cmpP o) := by
  cases o with
  | eq => exact ⟨_, op_eqD hu, ops_eq⟩
  | ne => exact ⟨_, op_neD hu, ops_ne⟩
  | lt => exact ⟨_, op_lt, ops_cmp0⟩
  | le => exact ⟨_, op_le, ops_cmp0⟩
  | gt => exact ⟨_, op_gt, ops_cmp0⟩
  | ge => exact ⟨_, op_ge, ops_cmp0⟩
  | in_ => exact ⟨_, op_in_seq.or op_in_str, ops_in.orG ops_inS⟩
  | nin => exact ⟨_, op_notIn_seq.or op_notIn_str, ops_nin.orG ops_ninS⟩
  | is_ => exact ⟨_, op_isN.or op_isBl, ops_isN.orG ops_isB⟩
  | isnot => exact ⟨_, op_notN.or op_notBl, ops_notN.orG ops_notB⟩
theorem cmpP_bl {o : Cop} {x y : U} {S : Sto} {z : P} (h : cmpP o x y S = some z) : ∃ b, z = .bl b := by
  have m : ∀ {o : Option Bool} {f : Bool → Bool}, (o.map fun b => P.bl (f b)) = some z → ∃ b, z = .bl b := fun {o f} h => by
    obtain ⟨b, _, e⟩ := Option.map_eq_some_iff.mp h
    exact ⟨_, e.symm⟩
  have i : ∀ {f : Int → Int → Bool}, i2 (fun i j => some (.bl (f i j))) x y S = some z → ∃ b, z = .bl b := fun {f} h => by
    obtain ⟨_, _, _, _, e⟩ := i2_some h
    cases e
    exact ⟨_, rfl⟩
  have og : ∀ (g g' : U → U → Sto → Option P), (g x y S = some z → ∃ b, z = .bl b) → (g' x y S = some z → ∃ b, z = .bl b) → orG g g' x y S = some z → ∃ b, z = .bl b := fun g g' a b h => by
    unfold orG at h
    cases e : g x y S with
    | some w => rw [e] at h; cases h; exact a e
    | none => rw [e] at h; exact b h
  cases o with
  | eq => exact m (f := id) h
  | ne => exact m h
  | lt => exact i h
  | le => exact i h
  | gt => exact i h
  | ge => exact i h
  | in_ => exact og (fun x y S => (inP x y S).map .bl) (fun x y _ => (inS x y).map .bl) (m (f := id)) (m (f := id)) h
  | nin => exact og (fun x y S => (inP x y S).map fun b => .bl (!b)) (fun x y _ => (inS x y).map fun b => .bl (!b)) m m h
  | is_ => exact og (fun x y _ => (isN x y).map .bl) (fun x y _ => (isB x y).map .bl) (m (f := id)) (m (f := id)) h
  | isnot => exact og (fun x y _ => (isN x y).map fun b => .bl (!b)) (fun x y _ => (isB x y).map fun b => .bl (!b)) m m h
/-! ### items -/
def idxP (x y : U) (S : Sto) : Option P := match y with
  | .p (.int i) => (match asListS x S with
    | some l => atI l i
    | none => match x with
      | .p (.tup l) => atI l i
      | .p (.str z) => if z.length ≤ sizeLine then (atI z.cps.toList i).map fun c => .str ⟨#[c]⟩ else none
      | _ => none)
  | _ => none
theorem atI_is {K : PySem.W.Frag} {G : Hp} {l : List P} {xs : List V} (h : IsA K G l xs) {i : Int} {p : P} (e : atI l i = some p) : ∃ v, atI xs i = some v ∧ Is K G p v := by
  unfold atI at e ⊢
  rw [← h.length]
  cases e1 : ixN l.length i with
  | none => rw [e1] at e; cases e
  | some j =>
    rw [e1] at e
    obtain ⟨v, h1, h2⟩ := h.get (i := j) (p := p) e
    exact ⟨v, h1, h2⟩
theorem ops_idx {K : PySem.W.Frag} : OpS K (rIx K) idxP := by
  intro α H S x y z v w Q c hx hy e q
  unfold idxP at e
  split at e
  · rename_i i
    have e2 := int_inv hy
    subst e2
    cases e1 : asListS x S with
    | some l =>
      rw [e1] at e
      obtain ⟨a, xs, rfl, h3, h4⟩ := as_listS c hx e1
      obtain ⟨u, h5, h6⟩ := atI_is h4 e
      exact .inl ⟨a, xs, i, u, rfl, rfl, h3, h5, q _ _ (.refl c) h6⟩
    | none =>
      rw [e1] at e
      dsimp only at e
      split at e
      · rename_i l
        cases hx with
        | tup h1 h2 =>
          obtain ⟨u, h5, h6⟩ := atI_is h2 e
          exact .inr (.inl ⟨_, _, i, u, rfl, rfl, sqT_hid h1, h5, q _ _ (.refl c) h6⟩)
      · rename_i s
        split at e
        · obtain ⟨cc, h1, rfl⟩ := Option.map_eq_some_iff.mp e
          exact .inr (.inr ⟨s, i, cc, str_inv hx, rfl, by assumption, h1, q _ _ (.refl c) (.str _)⟩)
        · cases e
      · cases e
  · cases e
/-! ### slices -/
def cutP {α : Type} (xs : List α) (lo hi : Option Int) : List α := (xs.drop (HT.sIx xs.length 0 lo)).take (HT.sIx xs.length xs.length hi - HT.sIx xs.length 0 lo)
theorem cut_is {K : PySem.W.Frag} {G : Hp} {l : List P} {xs : List V} (h : IsA K G l xs) (lo hi : Option Int) : IsA K G (cutP l lo hi) (cutV xs lo hi) := by
  unfold cutP cutV
  rw [← h.length]
  exact (h.drop _).take _
def sliP (x : U) (lo hi : Option Int) (S : Sto) : Option P := match asListS x S with
  | some l => some (.lst (cutP l lo hi))
  | none => match x with
    | .p (.tup l) => some (.tup (cutP l lo hi))
    | .p (.str z) => if z.length ≤ sizeLine then some (.str (cutS z lo hi)) else none
    | _ => none
def SlS (K : PySem.W.Frag) (r : V → Option Int → Option Int → Hp → VK → Prop) (g : U → Option Int → Option Int → Sto → Option P) : Prop := ∀ (α : List Addr) (H : Hp) (S : Sto) (x : U) (lo hi : Option Int) (z : P) (v : V) (Q : VK),
  Cs K H α S → IsU K α (hid α H) x v → g x lo hi S = some z → (∀ u H', Aft K α H [] H' S → Is K (hid α H') z u → Q u H') → r v lo hi H Q
theorem cut_whole {l : List P} {lo hi : Option Int} (h : HT.sIx l.length 0 lo = 0 ∧ HT.sIx l.length l.length hi = l.length) : cutP l lo hi = l := by
  unfold cutP
  rw [h.1, h.2, List.drop_zero, Nat.sub_zero, List.take_length]
end Ev
end
section
set_option Elab.async false
set_option linter.all false
set_option maxRecDepth 100000
set_option maxHeartbeats 1000000
/-! slices, truth, built-in calls, on data -/
namespace Ev
open PySem PySem.Spec PyProof.Rows L2
def cutLst (x : U) (lo hi : Option Int) (S : Sto) : Option P := (asListS x S).map fun l => .lst (cutP l lo hi)
def cutTup (x : U) (lo hi : Option Int) (_ : Sto) : Option P := (asTup x).map fun l => .tup (cutP l lo hi)
def cutStr (x : U) (lo hi : Option Int) (_ : Sto) : Option P := match x with
  | .p (.str z) => if z.length ≤ sizeLine then some (.str (cutS z lo hi)) else none
  | _ => none
theorem asTup_inv {x : U} {l : List P} (h : asTup x = some l) : x = .p (.tup l) := by
  cases x with
  | c n => cases h
  | p x => cases x <;> first | (cases h; rfl) | (cases h; done)
theorem sls_lst {K : PySem.W.Frag} : SlS K (rSlL K) cutLst := by
  intro α H S x lo hi z v Q c hx e q
  obtain ⟨l, e1, rfl⟩ := Option.map_eq_some_iff.mp e
  obtain ⟨a, xs, rfl, h1, h2⟩ := as_listS c hx e1
  exact ⟨a, xs, rfl, h1, fun p n => q _ _ (aft_upd c n) (new_lst c n (cut_is h2 lo hi))⟩
theorem sls_tup {K : PySem.W.Frag} : SlS K (rSlA K) cutTup := by
  intro α H S x lo hi z v Q c hx e q
  obtain ⟨l, e1, rfl⟩ := Option.map_eq_some_iff.mp e
  have hx' := asTup_inv e1
  subst hx'
  obtain ⟨a, xs, rfl, h1, h2⟩ := as_tup hx e1
  refine ⟨a, xs, rfl, h1, fun hw => ?_, fun _ p n => q _ _ (aft_upd c n) (new_tup c n (cut_is h2 lo hi))⟩
  rw [← h2.length] at hw
  rw [cut_whole hw] at q
  exact q _ _ (.refl c) hx
theorem sls_str {K : PySem.W.Frag} : SlS K rSlS cutStr := by
  intro α H S x lo hi z v Q c hx e q
  unfold cutStr at e
  split at e
  · split at e
    · cases e
      exact ⟨_, str_inv hx, by assumption, q _ _ (.refl c) (.str _)⟩
    · cases e
  · cases e
def orS (g g' : U → Option Int → Option Int → Sto → Option P) (x : U) (lo hi : Option Int) (S : Sto) : Option P := match g x lo hi S with
  | some z => some z
  | none => g' x lo hi S
theorem SlS.or {K : PySem.W.Frag} {r r' : V → Option Int → Option Int → Hp → VK → Prop} {g g' : U → Option Int → Option Int → Sto → Option P} (a : SlS K r g) (b : SlS K r' g') : SlS K (fun x lo hi H Q => r x lo hi H Q ∨ r' x lo hi H Q) (orS g g') := by
  intro α H S x lo hi z v Q c hx e q
  unfold orS at e
  cases h : g x lo hi S with
  | some z' => rw [h] at e; cases e; exact .inl (a α H S x lo hi _ v Q c hx h q)
  | none => rw [h] at e; exact .inr (b α H S x lo hi z v Q c hx e q)
def cutU : U → Option Int → Option Int → Sto → Option P := orS cutLst (orS cutTup cutStr)
theorem sli_ok (X : Cx) : ∃ r, SlR X r ∧ SlS X.K r cutU := ⟨_, sl_list.or (sl_tupA.or sl_str), sls_lst.or (sls_tup.or sls_str)⟩
/-! ### truth -/
def truU (u : U) (S : Sto) : Option Bool := match asListS u S with
  | some l => some (!l.isEmpty)
  | none => match u with
    | .p .non => some false
    | .p (.bl b) => some b
    | .p (.int i) => some (i != 0)
    | .p (.str y) => if y.length ≤ sizeLine then some ((y.length : Int) != 0) else none
    | .p (.tup l) => some (!l.isEmpty)
    | .p .emp => some false
    | _ => none
theorem isEmpty_is {K : PySem.W.Frag} {G : Hp} {l : List P} {xs : List V} (h : IsA K G l xs) : xs.isEmpty = l.isEmpty := by cases h <;> rfl
theorem tru_is {K : PySem.W.Frag} {α : List Addr} {H : Hp} {S : Sto} (c : Cs K H α S) {u : U} {v : V} {b : Bool} (h : IsU K α (hid α H) u v) (e : truU u S = some b) : TruV K v H b := by
  unfold truU at e
  cases e1 : asListS u S with
  | some l =>
    rw [e1] at e
    cases e
    obtain ⟨a, xs, rfl, h1, h2⟩ := as_listS c h e1
    exact .inl ⟨xs, h1, by rw [isEmpty_is h2]⟩
  | none =>
    rw [e1] at e
    dsimp only at e
    split at e
    · cases e; cases h; exact rfl
    · cases e; cases h; exact rfl
    · cases e; cases h; exact rfl
    · split at e
      · cases e; cases h; exact ⟨by assumption, rfl⟩
      · cases e
    · cases e
      cases h with
      | tup h1 h2 => exact .inr (.inl ⟨_, sqT_hid h1, by rw [isEmpty_is h2]⟩)
    · cases e
      cases h with
      | emp h1 => exact .inr (.inr ⟨[], (hid_some h1).2, rfl⟩)
    · cases e
/-! ### built-in calls -/
def CallS (K : PySem.W.Frag) (r : List V → Hp → VK → Prop) (g : List U → Sto → Option P) : Prop := ∀ (α : List Addr) (H : Hp) (S : Sto) (us : List U) (z : P) (vs : List V) (Q : VK), Cs K H α S → IsUs K α (hid α H) us vs → g us S = some z →
  (∀ u H', Aft K α H [] H' S → Is K (hid α H') z u → Q u H') → r vs H Q
def or1 (g g' : List U → Sto → Option P) (us : List U) (S : Sto) : Option P := match g us S with
  | some z => some z
  | none => g' us S
theorem CallS.or {K : PySem.W.Frag} {r r' : List V → Hp → VK → Prop} {g g' : List U → Sto → Option P} (a : CallS K r g) (b : CallS K r' g') : CallS K (fun xs H Q => r xs H Q ∨ r' xs H Q) (or1 g g') := by
  intro α H S us z vs Q c hx e q
  unfold or1 at e
  cases h : g us S with
  | some z' => rw [h] at e; cases e; exact .inl (a α H S us _ vs Q c hx h q)
  | none => rw [h] at e; exact .inr (b α H S us z vs Q c hx e q)
section
variable {K : PySem.W.Frag} {α : List Addr} {G : Hp}
theorem us1 {u : U} {vs : List V} (h : IsUs K α G [u] vs) : ∃ v, vs = [v] ∧ IsU K α G u v := by
  cases h with
  | cons a b => cases b; exact ⟨_, rfl, a⟩
theorem us2 {u w : U} {vs : List V} (h : IsUs K α G [u, w] vs) : ∃ v x, vs = [v, x] ∧ IsU K α G u v ∧ IsU K α G w x := by
  cases h with
  | cons a b =>
    obtain ⟨x, rfl, c⟩ := us1 b
    exact ⟨_, x, rfl, a, c⟩
end
section
variable {K : PySem.W.Frag} {α : List Addr}
def lenP (us : List U) (S : Sto) : Option P := match us with
  | [u] => (match asListS u S with
    | some l => some (.int l.length)
    | none => match u with
      | .p (.tup l) => some (.int l.length)
      | .p (.str z) => if z.length ≤ sizeLine then some (.int z.length) else none
      | _ => none)
  | _ => none
theorem cs_len : CallS K (fun xs H Q => (∃ p ys, xs = [.ref p] ∧ (SqL K H p ys ∨ SqT K H p ys) ∧ Q (.int ys.length) H) ∨ ∃ z, xs = [.str z] ∧ z.length ≤ sizeLine ∧ Q (.int z.length) H) lenP := by
  intro α H S us z vs Q c hx e q
  unfold lenP at e
  split at e
  · rename_i u
    obtain ⟨v, rfl, hv⟩ := us1 hx
    cases e1 : asListS u S with
    | some l =>
      rw [e1] at e
      cases e
      obtain ⟨a, xs, rfl, h1, h2⟩ := as_listS c hv e1
      exact .inl ⟨a, xs, rfl, .inl h1, by rw [← h2.length]; exact q _ _ (.refl c) (.int _)⟩
    | none =>
      rw [e1] at e
      dsimp only at e
      split at e
      · cases e
        cases hv with
        | tup h1 h2 => exact .inl ⟨_, _, rfl, .inr (sqT_hid h1), by rw [← h2.length]; exact q _ _ (.refl c) (.int _)⟩
      · split at e
        · cases e
          exact .inr ⟨_, by rw [str_inv hv], by assumption, q _ _ (.refl c) (.int _)⟩
        · cases e
      · cases e
  · cases e
def absP (us : List U) (_ : Sto) : Option P := match us with
  | [.p (.int i)] => some (.int (if i < 0 then -i else i))
  | _ => none
theorem cs_abs : CallS K (fun xs H Q => ∃ i, xs = [.int i] ∧ Q (.int (if i < 0 then -i else i)) H) absP := by
  intro α H S us z vs Q c hx e q
  unfold absP at e
  split at e
  · cases e
    obtain ⟨v, rfl, hv⟩ := us1 hx
    exact ⟨_, by rw [int_inv hv], q _ _ (.refl c) (.int _)⟩
  · cases e
def max2P (us : List U) (_ : Sto) : Option P := match us with
  | [.p (.int i), .p (.int j)] => some (.int (if j > i then j else i))
  | _ => none
def min2P (us : List U) (_ : Sto) : Option P := match us with
  | [.p (.int i), .p (.int j)] => some (.int (if j < i then j else i))
  | _ => none
theorem cs_max2 : CallS K (fun xs H Q => ∃ i j, xs = [.int i, .int j] ∧ Q (.int (if j > i then j else i)) H) max2P := by
  intro α H S us z vs Q c hx e q
  unfold max2P at e
  split at e
  · cases e
    obtain ⟨v, w, rfl, hv, hw⟩ := us2 hx
    exact ⟨_, _, by rw [int_inv hv, int_inv hw], q _ _ (.refl c) (.int _)⟩
  · cases e
theorem cs_min2 : CallS K (fun xs H Q => ∃ i j, xs = [.int i, .int j] ∧ Q (.int (if j < i then j else i)) H) min2P := by
  intro α H S us z vs Q c hx e q
  unfold min2P at e
  split at e
  · cases e
    obtain ⟨v, w, rfl, hv, hw⟩ := us2 hx
    exact ⟨_, _, by rw [int_inv hv, int_inv hw], q _ _ (.refl c) (.int _)⟩
  · cases e
/-- a list of ints as the one argument -/
def intsOf (us : List U) (S : Sto) : Option (List Int) := match us with
  | [u] => (match asListS u S with
    | some l => asInts l
    | none => none)
  | _ => none
theorem intsOf_ok {H : Hp} {S : Sto} (c : Cs K H α S) {us : List U} {vs : List V} {ns : List Int} (h : IsUs K α (hid α H) us vs) (e : intsOf us S = some ns) : ∃ a, vs = [.ref a] ∧ SqL K H a (ns.map V.int) := by
  unfold intsOf at e
  split at e
  · rename_i u
    obtain ⟨v, rfl, hv⟩ := us1 h
    cases e1 : asListS u S with
    | none => rw [e1] at e; cases e
    | some l =>
      rw [e1] at e
      have e2 : asInts l = some ns := e
      obtain ⟨a, xs, rfl, h1, h2⟩ := as_listS c hv e1
      have e3 := asInts_eq e2
      subst e3
      rw [IsA.of_ints h2] at h1
      exact ⟨a, rfl, h1⟩
  · cases e
def blsOf (us : List U) (S : Sto) : Option (List Bool) := match us with
  | [u] => (match asList u S with
    | some l => asBls l
    | none => none)
  | _ => none
theorem blsOf_ok {H : Hp} {S : Sto} (c : Cs K H α S) {us : List U} {vs : List V} {ns : List Bool} (h : IsUs K α (hid α H) us vs) (e : blsOf us S = some ns) : ∃ a, vs = [.ref a] ∧ SqL K H a (ns.map V.bl) := by
  unfold blsOf at e
  split at e
  · rename_i u
    obtain ⟨v, rfl, hv⟩ := us1 h
    cases e1 : asList u S with
    | none => rw [e1] at e; cases e
    | some l =>
      rw [e1] at e
      have e2 : asBls l = some ns := e
      obtain ⟨a, xs, rfl, h1, h2⟩ := as_list c hv e1
      have e3 := asBls_eq e2
      subst e3
      rw [IsA.of_bls h2] at h1
      exact ⟨a, rfl, .inl (.inl h1)⟩
  · cases e
theorem cs_sum : CallS K (rSum K) (fun us S => (intsOf us S).map fun ns => .int ns.sum) := by
  intro α H S us z vs Q c hx e q
  obtain ⟨ns, e1, rfl⟩ := Option.map_eq_some_iff.mp e
  obtain ⟨a, rfl, h1⟩ := intsOf_ok c hx e1
  exact ⟨a, ns, rfl, h1, q _ _ (.refl c) (.int _)⟩
def maxL : Int → List Int → Int
  | m, [] => m
  | m, n :: ns => maxL (if n > m then n else m) ns
def minL : Int → List Int → Int
  | m, [] => m
  | m, n :: ns => minL (if n < m then n else m) ns
theorem maxL_ge : ∀ (ns : List Int) (m : Int), m ≤ maxL m ns ∧ ∀ y ∈ ns, y ≤ maxL m ns
  | [], m => ⟨Int.le_refl _, fun _ h => absurd h (by simp)⟩
  | n :: ns, m => by
    obtain ⟨h1, h2⟩ := maxL_ge ns (if n > m then n else m)
    have hk : m ≤ (if n > m then n else m) ∧ n ≤ (if n > m then n else m) := by split <;> omega
    show m ≤ maxL (if n > m then n else m) ns ∧ ∀ y ∈ n :: ns, y ≤ maxL (if n > m then n else m) ns
    generalize (if n > m then n else m) = k at *
    refine ⟨by omega, fun y hy => ?_⟩
    rcases List.mem_cons.mp hy with rfl | hy
    · omega
    · exact h2 y hy
theorem minL_le : ∀ (ns : List Int) (m : Int), minL m ns ≤ m ∧ ∀ y ∈ ns, minL m ns ≤ y
  | [], m => ⟨Int.le_refl _, fun _ h => absurd h (by simp)⟩
  | n :: ns, m => by
    obtain ⟨h1, h2⟩ := minL_le ns (if n < m then n else m)
    have hk : (if n < m then n else m) ≤ m ∧ (if n < m then n else m) ≤ n := by split <;> omega
    show minL (if n < m then n else m) ns ≤ m ∧ ∀ y ∈ n :: ns, minL (if n < m then n else m) ns ≤ y
    generalize (if n < m then n else m) = k at *
    refine ⟨by omega, fun y hy => ?_⟩
    rcases List.mem_cons.mp hy with rfl | hy
    · omega
    · exact h2 y hy
theorem maxL_mem : ∀ (ns : List Int) (m : Int), maxL m ns = m ∨ maxL m ns ∈ ns
  | [], m => .inl rfl
  | n :: ns, m => by
    unfold maxL
    rcases maxL_mem ns (if n > m then n else m) with h | h
    · split at h
      · rw [if_pos (by assumption)]; exact .inr (by rw [h]; simp)
      · rw [if_neg (by assumption)]; exact .inl h
    · exact .inr (by simp [h])
theorem minL_mem : ∀ (ns : List Int) (m : Int), minL m ns = m ∨ minL m ns ∈ ns
  | [], m => .inl rfl
  | n :: ns, m => by
    unfold minL
    rcases minL_mem ns (if n < m then n else m) with h | h
    · split at h
      · rw [if_pos (by assumption)]; exact .inr (by rw [h]; simp)
      · rw [if_neg (by assumption)]; exact .inl h
    · exact .inr (by simp [h])
def maxLP (us : List U) (S : Sto) : Option P := match intsOf us S with
  | some (n :: ns) => some (.int (maxL n ns))
  | _ => none
def minLP (us : List U) (S : Sto) : Option P := match intsOf us S with
  | some (n :: ns) => some (.int (minL n ns))
  | _ => none
theorem cs_maxL : CallS K (rMax K) maxLP := by
  intro α H S us z vs Q c hx e q
  unfold maxLP at e
  split at e
  · rename_i n ns e1
    cases e
    obtain ⟨a, rfl, h1⟩ := intsOf_ok c hx e1
    refine ⟨a, _, rfl, h1, by simp, fun m hm hle => ?_⟩
    have e2 : m = maxL n ns := by
      have g := maxL_ge ns n
      have h2 : maxL n ns ∈ n :: ns := (maxL_mem ns n).elim (fun h => by rw [h]; simp) (fun h => by simp [h])
      have h3 := hle _ h2
      rcases List.mem_cons.mp hm with rfl | hm
      · omega
      · have := g.2 m hm
        omega
    subst e2
    exact q _ _ (.refl c) (.int _)
  · cases e
theorem cs_minL : CallS K (rMin K) minLP := by
  intro α H S us z vs Q c hx e q
  unfold minLP at e
  split at e
  · rename_i n ns e1
    cases e
    obtain ⟨a, rfl, h1⟩ := intsOf_ok c hx e1
    refine ⟨a, _, rfl, h1, by simp, fun m hm hle => ?_⟩
    have e2 : m = minL n ns := by
      have g := minL_le ns n
      have h2 : minL n ns ∈ n :: ns := (minL_mem ns n).elim (fun h => by rw [h]; simp) (fun h => by simp [h])
      have h3 := hle _ h2
      rcases List.mem_cons.mp hm with rfl | hm
      · omega
      · have := g.2 m hm
        omega
    subst e2
    exact q _ _ (.refl c) (.int _)
  · cases e
theorem cs_any : CallS K (rAny K) (fun us S => (blsOf us S).map fun bs => .bl (bs.any id)) := by
  intro α H S us z vs Q c hx e q
  obtain ⟨ns, e1, rfl⟩ := Option.map_eq_some_iff.mp e
  obtain ⟨a, rfl, h1⟩ := blsOf_ok c hx e1
  exact ⟨a, ns, rfl, h1, q _ _ (.refl c) (.bl _)⟩
theorem cs_all : CallS K (rAll K) (fun us S => (blsOf us S).map fun bs => .bl (bs.all id)) := by
  intro α H S us z vs Q c hx e q
  obtain ⟨ns, e1, rfl⟩ := Option.map_eq_some_iff.mp e
  obtain ⟨a, rfl, h1⟩ := blsOf_ok c hx e1
  exact ⟨a, ns, rfl, h1, q _ _ (.refl c) (.bl _)⟩
def tupP (us : List U) (S : Sto) : Option P := match us with
  | [u] => (match asListS u S with
    | some l => some (.tup l)
    | none => match u with
      | .p (.tup l) => some (.tup l)
      | _ => none)
  | _ => none
theorem cs_tuple : CallS K (fun xs H Q => ∃ p ys, xs = [.ref p] ∧ ((SqL K H p ys ∧ ∀ l, H l = none → Q (.ref l) (upd H l (.tup ys))) ∨ (SqT K H p ys ∧ Q (.ref p) H))) tupP := by
  intro α H S us z vs Q c hx e q
  unfold tupP at e
  split at e
  · rename_i u
    obtain ⟨v, rfl, hv⟩ := us1 hx
    cases e1 : asListS u S with
    | some l =>
      rw [e1] at e
      cases e
      obtain ⟨a, xs, rfl, h1, h2⟩ := as_listS c hv e1
      exact ⟨a, xs, rfl, .inl ⟨h1, fun l n => q _ _ (aft_upd c n) (new_tup c n h2)⟩⟩
    | none =>
      rw [e1] at e
      dsimp only at e
      split at e
      · cases e
        have hv' := hv
        cases hv with
        | tup h1 h2 => exact ⟨_, _, rfl, .inr ⟨sqT_hid h1, q _ _ (.refl c) hv'⟩⟩
      · cases e
  · cases e
def lstP (us : List U) (S : Sto) : Option P := match us with
  | [u] => (match asListS u S with
    | some l => some (.lst l)
    | none => match u with
      | .p (.tup l) => some (.lst l)
      | _ => none)
  | _ => none
theorem cs_list : CallS K (fun xs H Q => ∃ p ys, xs = [.ref p] ∧ (SqL K H p ys ∨ SqT K H p ys) ∧ ∀ l, H l = none → Q (.ref l) (upd H l (.lst ys))) lstP := by
  intro α H S us z vs Q c hx e q
  unfold lstP at e
  split at e
  · rename_i u
    obtain ⟨v, rfl, hv⟩ := us1 hx
    cases e1 : asListS u S with
    | some l =>
      rw [e1] at e
      cases e
      obtain ⟨a, xs, rfl, h1, h2⟩ := as_listS c hv e1
      exact ⟨a, xs, rfl, .inl h1, fun l n => q _ _ (aft_upd c n) (new_lst c n h2)⟩
    | none =>
      rw [e1] at e
      dsimp only at e
      split at e
      · cases e
        cases hv with
        | tup h1 h2 => exact ⟨_, _, rfl, .inr (sqT_hid h1), fun l n => q _ _ (aft_upd c n) (new_lst c n h2)⟩
      · cases e
  · cases e
def intP (us : List U) (_ : Sto) : Option P := match us with
  | [.p (.int i)] => some (.int i)
  | [.p (.bl k)] => some (.int (if k then 1 else 0))
  | _ => none
theorem cs_int : CallS K (fun xs H Q => (∃ i, xs = [.int i] ∧ Q (.int i) H) ∨ ∃ k, xs = [.bl k] ∧ Q (.int (if k then 1 else 0)) H) intP := by
  intro α H S us z vs Q c hx e q
  unfold intP at e
  split at e
  · cases e
    obtain ⟨v, rfl, hv⟩ := us1 hx
    exact .inl ⟨_, by rw [int_inv hv], q _ _ (.refl c) (.int _)⟩
  · cases e
    obtain ⟨v, rfl, hv⟩ := us1 hx
    exact .inr ⟨_, by rw [bl_inv hv], q _ _ (.refl c) (.int _)⟩
  · cases e
def intSP (us : List U) (_ : Sto) : Option P := match us with
  | [.p (.str a)] => (match PySem.intText? a with
    | some n => if a.length ≤ 640 then some (.int n) else none
    | none => none)
  | _ => none
theorem cs_intS : CallS K (fun xs H Q => ∃ a n, xs = [.str a] ∧ PySem.intText? a = some n ∧ a.length ≤ 640 ∧ Q (.int n) H) intSP := by
  intro α H S us z vs Q c hx e q
  unfold intSP at e
  split at e
  · split at e
    · split at e
      · cases e
        obtain ⟨v, rfl, hv⟩ := us1 hx
        exact ⟨_, _, by rw [str_inv hv], by assumption, by assumption, q _ _ (.refl c) (.int _)⟩
      · cases e
    · cases e
  · cases e
def strP (us : List U) (_ : Sto) : Option P := match us with
  | [.p (.int i)] => if i.natAbs.log2 < 1920 then some (.str (toString i)) else none
  | _ => none
theorem cs_str : CallS K (fun xs H Q => ∃ i, xs = [.int i] ∧ i.natAbs.log2 < 1920 ∧ Q (.str (toString i)) H) strP := by
  intro α H S us z vs Q c hx e q
  unfold strP at e
  split at e
  · split at e
    · cases e
      obtain ⟨v, rfl, hv⟩ := us1 hx
      exact ⟨_, by rw [int_inv hv], by assumption, q _ _ (.refl c) (.str _)⟩
    · cases e
  · cases e
instance {i j : Int} : Decidable (CDiv i j) := by unfold CDiv; infer_instance
def dmP (us : List U) (_ : Sto) : Option P := match us with
  | [.p (.int i), .p (.int j)] => if CDiv i j then some (.tup [.int (i / j), .int (i % j)]) else none
  | _ => none
theorem cs_dm : CallS K (fun xs H Q => ∃ i j, xs = [.int i, .int j] ∧ CDiv i j ∧ ∀ p, H p = none → Q (.ref p) (upd H p (.tup [.int (i / j), .int (i % j)]))) dmP := by
  intro α H S us z vs Q c hx e q
  unfold dmP at e
  split at e
  · split at e
    · cases e
      obtain ⟨v, w, rfl, hv, hw⟩ := us2 hx
      exact ⟨_, _, by rw [int_inv hv, int_inv hw], by assumption, fun p n => q _ _ (aft_upd c n) (new_tup c n (.cons (.int _) (.cons (.int _) .nil)))⟩
    · cases e
  · cases e
def gcdP (us : List U) (_ : Sto) : Option P := match us with
  | [.p (.int i), .p (.int j)] => some (.int (Nat.gcd i.natAbs j.natAbs : Nat))
  | _ => none
theorem cs_gcd : CallS K rGcd gcdP := by
  intro α H S us z vs Q c hx e q
  unfold gcdP at e
  split at e
  · cases e
    obtain ⟨v, w, rfl, hv, hw⟩ := us2 hx
    exact ⟨_, _, by rw [int_inv hv, int_inv hw], q _ _ (.refl c) (.int _)⟩
  · cases e
end
/-! ### all of them -/
inductive Bl where
  | len | abs | max | min | sum | any | all | tuple | list | int | str | divmod
  deriving DecidableEq
def Bl.name : Bl → Str
  | .len => "len" | .abs => "abs" | .max => "max" | .min => "min" | .sum => "sum" | .any => "any" | .all => "all" | .tuple => "tuple" | .list => "list" | .int => "int" | .str => "str" | .divmod => "divmod"
def Bl.val : Bl → Value
  | .tuple => .type "tuple" | .list => .type "list" | .int => .type "int" | .str => .type "str"
  | .len => .builtin "len" | .abs => .builtin "abs" | .max => .builtin "max" | .min => .builtin "min" | .sum => .builtin "sum" | .any => .builtin "any" | .all => .builtin "all" | .divmod => .builtin "divmod"
def bltP : Bl → List U → Sto → Option P
  | .len => lenP | .abs => absP | .max => or1 max2P maxLP | .min => or1 min2P minLP
  | .sum => fun us S => (intsOf us S).map fun ns => .int ns.sum
  | .any => fun us S => (blsOf us S).map fun bs => .bl (bs.any id)
  | .all => fun us S => (blsOf us S).map fun bs => .bl (bs.all id)
  | .tuple => tupP | .list => lstP | .int => or1 intP intSP | .str => strP | .divmod => dmP
theorem blt_ok (X : Cx) (hc : X.calm = true) (b : Bl) : ∃ r, CallR X b.val r ∧ CallS X.K r (bltP b) := by
  cases b with
  | len => exact ⟨_, call_len_seq.or call_len_str, cs_len⟩
  | abs => exact ⟨_, call_abs, cs_abs⟩
  | max => exact ⟨_, (call_max2 hc).or (cr_max hc), cs_max2.or cs_maxL⟩
  | min => exact ⟨_, (call_min2 hc).or (cr_min hc), cs_min2.or cs_minL⟩
  | sum => exact ⟨_, cr_sum hc, cs_sum⟩
  | any => exact ⟨_, cr_any hc, cs_any⟩
  | all => exact ⟨_, cr_all hc, cs_all⟩
  | tuple => exact ⟨_, call_tuple_of, cs_tuple⟩
  | list => exact ⟨_, call_list_of, cs_list⟩
  | int => exact ⟨_, call_int1.or call_int_str, cs_int.or cs_intS⟩
  | str => exact ⟨_, call_str_int, cs_str⟩
  | divmod => exact ⟨_, call_divmod, cs_dm⟩
theorem blt_boot : ∀ b : Bl, bootBuiltins b.name = some b.val := by
  intro b
  cases b <;> decide +kernel
end Ev
end
section
set_option Elab.async false
set_option linter.all false
set_option maxRecDepth 100000
set_option maxHeartbeats 1000000
/-! expressions: what they compute on data, and that the machine does so -/
namespace Ev
open PySem PySem.Spec PyProof.Rows L2
def lift (o : Option P) (S : Sto) : M U := match o with
  | some z => some (.ok (.p z) S)
  | none => none
def liftB (o : Option Bool) (S : Sto) : M Bool := match o with
  | some z => some (.ok z S)
  | none => none
def pures : List U → Option (List P)
  | [] => some []
  | .p x :: us => (pures us).map (x :: ·)
  | .c _ :: _ => none
def fVar (i : Nat) : FE := fun ρ S => match ρ[i]? with
  | some (some u) => some (.ok u S)
  | _ => none
def fCst (x : P) : FE := fun _ S => some (.ok (.p x) S)
def fBin (g : U → U → Sto → Option P) (a b : FE) : FE := fun ρ S => (a ρ S).bind fun x S1 => (b ρ S1).bind fun y S2 => lift (g x y S2) S2
def fUn (g : U → Sto → Option P) (a : FE) : FE := fun ρ S => (a ρ S).bind fun x S1 => lift (g x S1) S1
def fNil : FA := fun _ S => some (.ok [] S)
def fCons (a : FE) (l : FA) : FA := fun ρ S => (a ρ S).bind fun x S1 => (l ρ S1).bind fun xs S2 => some (.ok (x :: xs) S2)
def fBlt (g : List U → Sto → Option P) (l : FA) : FE := fun ρ S => (l ρ S).bind fun us S1 => lift (g us S1) S1
def fApp (g : List U → Sto → M U) (l : FA) : FE := fun ρ S => (l ρ S).bind fun us S1 => g us S1
/-- what is written out: pure, and short -/
def puresS (us : List U) : Option (List P) := match pures us with
  | some l => if l.length ≤ 1000 then some l else none
  | none => none
def fTup (l : FA) : FE := fBlt (fun us _ => (puresS us).map .tup) l
def fLst (l : FA) : FE := fBlt (fun us _ => (puresS us).map .lst) l
def fCel (l : FA) : FE := fApp (fun us S => match puresS us with
  | some xs => some (.ok (.c S.length) (S ++ [xs]))
  | none => none) l
def fIte (t : FT) (a b : FE) : FE := fun ρ S => (t ρ S).bind fun c S1 => if c = true then a ρ S1 else b ρ S1
def blOf : U → Option Bool
  | .p (.bl b) => some b
  | _ => none
def fAnd (a b : FE) : FE := fun ρ S => (a ρ S).bind fun x S1 => match blOf x with
  | some true => b ρ S1
  | some false => some (.ok (.p (.bl false)) S1)
  | none => none
def fOr (a b : FE) : FE := fun ρ S => (a ρ S).bind fun x S1 => match blOf x with
  | some true => some (.ok (.p (.bl true)) S1)
  | some false => b ρ S1
  | none => none
def fTru (a : FE) : FT := fun ρ S => (a ρ S).bind fun x S1 => liftB (truU x S1) S1
def fBl (a : FE) : FT := fun ρ S => (a ρ S).bind fun x S1 => liftB (blOf x) S1
def fAndT (a b : FT) : FT := fun ρ S => (a ρ S).bind fun c S1 => if c = true then b ρ S1 else some (.ok false S1)
def fOrT (a b : FT) : FT := fun ρ S => (a ρ S).bind fun c S1 => if c = true then some (.ok true S1) else b ρ S1
def fNotT (a : FT) : FT := fun ρ S => (a ρ S).bind fun c S1 => some (.ok (!c) S1)
def fNotV (a : FT) : FE := fun ρ S => (a ρ S).bind fun c S1 => some (.ok (.p (.bl (!c))) S1)
section
variable {K : PySem.W.Frag} {W : XK} {α β : List Addr} {H H' : Hp} {S S' : Sto}
theorem lift_inv {o : Option P} {Q : VK} (h : tG K W α H (lift o S) (PoE K Q)) : ∃ z, o = some z ∧ ∀ u H', Aft K α H [] H' S → Is K (hid α H') z u → Q u H' := by
  cases o with
  | none => exact h.elim
  | some z => exact ⟨z, rfl, fun u H' a i => tG_ok0 h a u i⟩
theorem liftB_inv {o : Option Bool} {Q : Bool → Hp → Prop} (h : tG K W α H (liftB o S) (PoT Q)) : ∃ z, o = some z ∧ ∀ H', Aft K α H [] H' S → Q z H' := by
  cases o with
  | none => exact h.elim
  | some z => exact ⟨z, rfl, fun H' a => tG_ok0 h a⟩
theorem pures_ok {G : Hp} : ∀ {us : List U} {vs : List V} {l : List P}, IsUs K α G us vs → pures us = some l → IsA K G l vs
  | [], _, _, h, e => by cases h; cases e; exact .nil
  | .p x :: us, _, l, h, e => by
    unfold pures at e
    obtain ⟨m, e1, rfl⟩ := Option.map_eq_some_iff.mp e
    cases h with
    | cons a b => exact .cons a (pures_ok b e1)
  | .c _ :: _, _, _, _, e => by cases e
theorem puresS_ok {G : Hp} {us : List U} {vs : List V} {l : List P} (h : IsUs K α G us vs) (e : puresS us = some l) : IsA K G l vs ∧ vs.length ≤ sizeLine := by
  unfold puresS at e
  split at e
  · rename_i m e1
    split at e
    · cases e
      have q := pures_ok h e1
      refine ⟨q, ?_⟩
      rw [← q.length, sizeLine_eq]
      omega
    · cases e
  · cases e
/-- the step from a computation to what follows it -/
theorem step {A B : Type} {m : M A} {k : A → Sto → M B} {Po : B → Sto → List Addr → Hp → Prop} {Po' : A → Sto → List Addr → Hp → Prop} {ρ : En} {σ : L2.St} (c : Cs K H α S) (hE : IsE K α (hid α H) ρ σ) (h : tG K W α H (m.bind k) Po)
    (f : ∀ a S1 β H1, Aft K α H β H1 S1 → IsE K (α ++ β) (hid (α ++ β) H1) ρ σ → Cs K H1 (α ++ β) S1 → tG K W (α ++ β) H1 (k a S1) Po → Po' a S1 (α ++ β) H1) : tG K W α H m Po' :=
  tG_mono (tG_bind c h) fun a S1 β H1 af _ q => f a S1 β H1 af (hE.aft af) af.cs q
end
section
variable {X : Cx} {W : XK} {pos : Pos}
theorem e_var {i : Nat} {x : Str} (hN : X.N[i]? = some x) (hv : Vis X.env.scope x) (hd : (x == ("__debug__" : Str)) = false) (hcd : (x == ("__classdict__" : Str)) = false) : PE X (.Name x pos) (tE X.K W (fVar i)) :=
  (pe_var hN hv hd hcd).weak fun σ H Q ⟨ρ, α, S, hE, c, h⟩ => by
    unfold fVar at h
    split at h
    · rename_i u e
      obtain ⟨v, h1, h2⟩ := hE.at_ i u e
      exact ⟨v, h1, tG_ok0 h (.refl c) v h2⟩
    · exact h.elim
theorem e_cst {e : Expr} {x : P} {v : V} (he : PE X e (tC v)) (hx : ∀ G, Is X.K G x v) : PE X e (tE X.K W (fCst x)) :=
  he.weak fun σ H Q ⟨ρ, α, S, hE, c, h⟩ => tG_ok0 h (.refl c) v (hx _)
theorem e_bin2 {e ea eb : Expr} {r : R2} {g : U → U → Sto → Option P} {fa fb : FE} (ha : PE X ea (tE X.K W fa)) (hb : PE X eb (tE X.K W fb)) (hs : OpS X.K r g) (mk : ∀ ta tb, PE X ea ta → PE X eb tb → PE X e (tOp r ta tb)) : PE X e (tE X.K W (fBin g fa fb)) :=
  (mk _ _ ha hb).weak fun σ H Q ⟨ρ, α, S, hE, c, h⟩ => ⟨ρ, α, S, hE, c, step c hE h fun x S1 β H1 af hE1 c1 h1 v hv =>
    ⟨ρ, α ++ β, S1, hE1, c1, step c1 hE1 h1 fun y S2 β2 H2 af2 hE2 c2 h2 w hw => by
      obtain ⟨z, e, q⟩ := lift_inv h2
      exact hs _ H2 S2 x y z v w Q c2 (hv.aft af2) hw e q⟩⟩
theorem e_bin {ea eb : Expr} {fa fb : FE} (o : Bop) (ha : PE X ea (tE X.K W fa)) (hb : PE X eb (tE X.K W fb)) : PE X (.BinOp ea o.op eb pos) (tE X.K W (fBin (binP o) fa fb)) :=
  let ⟨_, ho, hs⟩ := bin_ok X o
  e_bin2 ha hb hs fun _ _ a b => pe_op ho a b
theorem e_cmp {ea eb : Expr} {fa fb : FE} (o : Cop) (hu : X.A.units + 64 < cLine) (hm : behindInMarks o.op eb = false) (ha : PE X ea (tE X.K W fa)) (hb : PE X eb (tE X.K W fb)) : PE X (.Compare ea [o.op] [eb] pos) (tE X.K W (fBin (cmpP o) fa fb)) :=
  let ⟨_, ho, hs⟩ := cmp_ok X hu o
  e_bin2 ha hb hs fun _ _ a b => pe_cmpR ho a b hm
theorem t_cmp {ea eb : Expr} {fa fb : FE} (o : Cop) (hu : X.A.units + 64 < cLine) (hm : behindInMarks o.op eb = false) (ha : PE X ea (tE X.K W fa)) (hb : PE X eb (tE X.K W fb)) : PT X (.Compare ea [o.op] [eb] pos) (tT X.K W (fBl (fBin (cmpP o) fa fb))) :=
  let ⟨_, ho, hs⟩ := cmp_ok X hu o
  (pt_cmpR ho ha hb hm).weak fun σ H Q ⟨ρ, α, S, hE, c, h⟩ => by
    unfold fBl fBin at h
    rw [bind_assoc] at h
    refine ⟨ρ, α, S, hE, c, step c hE h fun x S1 β H1 af hE1 c1 h1 v hv => ?_⟩
    rw [bind_assoc] at h1
    refine ⟨ρ, α ++ β, S1, hE1, c1, step c1 hE1 h1 fun y S2 β2 H2 af2 hE2 c2 h2 w hw => ?_⟩
    cases e : cmpP o x y S2 with
    | none => rw [e] at h2; exact h2.elim
    | some z =>
      rw [e] at h2
      obtain ⟨b, rfl⟩ := cmpP_bl e
      refine hs _ H2 S2 x y _ v w _ c2 (hv.aft af2) hw e fun u H' a i => ?_
      cases i
      exact ⟨b, rfl, tG_ok0 h2 a⟩
/-- two comparisons in a row -/
def fCmp2 (o o' : Cop) (a b c : FE) : FE := fun ρ S => (a ρ S).bind fun x S1 => (b ρ S1).bind fun y S2 => match cmpP o x y S2 with
  | some (.bl true) => (c ρ S2).bind fun z S3 => lift (cmpP o' y z S3) S3
  | some (.bl false) => some (.ok (.p (.bl false)) S2)
  | _ => none
theorem chain_go {ea eb ec : Expr} {fa fb fc : FE} (o o' : Cop) {r r' : R2} (hs : OpS X.K r (cmpP o)) (hs' : OpS X.K r' (cmpP o')) {σ : L2.St} {H : Hp} {Q : VK} (h : tE X.K W (fCmp2 o o' fa fb fc) σ H Q) :
    tChain r r' (tE X.K W fa) (tE X.K W fb) (tE X.K W fc) σ H Q := by
  obtain ⟨ρ, α, S, hE, c, h⟩ := h
  refine ⟨ρ, α, S, hE, c, step c hE h fun x S1 β H1 af hE1 c1 h1 v hv => ?_⟩
  refine ⟨ρ, α ++ β, S1, hE1, c1, step c1 hE1 h1 fun y S2 β2 H2 af2 hE2 c2 h2 w hw => ?_⟩
  cases e : cmpP o x y S2 with
  | none => rw [e] at h2; exact h2.elim
  | some z =>
    rw [e] at h2
    obtain ⟨b, rfl⟩ := cmpP_bl e
    refine hs _ H2 S2 x y _ v w _ c2 (hv.aft af2) hw e fun u H3 a i => ?_
    cases i
    refine ⟨b, rfl, ?_⟩
    cases b with
    | false => exact tG_ok0 h2 a _ (.bl false)
    | true =>
      rw [if_pos rfl]
      have hE3 := hE2.aft a
      rw [List.append_nil] at hE3
      have hw3 := hw.aft a
      rw [List.append_nil] at hw3
      have h3 := tG_aft c2 a h2
      rw [List.append_nil] at h3
      refine ⟨ρ, _, S2, hE3, a.cs0, step a.cs0 hE3 h3 fun z S3 β3 H4 af4 hE4 c4 h4 w' hw' => ?_⟩
      obtain ⟨z', e', q⟩ := lift_inv h4
      exact hs' _ H4 S3 y z z' w w' Q c4 (hw3.aft af4) hw' e' q
theorem e_cmp2 {ea eb ec : Expr} {fa fb fc : FE} (o o' : Cop) (hu : X.A.units + 64 < cLine) (hm : behindInMarks o'.op ec = false) (ha : PE X ea (tE X.K W fa)) (hb : PE X eb (tE X.K W fb)) (hc : PE X ec (tE X.K W fc))
    (mk : ∀ r r' ta tb tc, OpR X (compareOp o.op) r → OpR X (compareOp o'.op) r' → PE X ea ta → PE X eb tb → PE X ec tc → PE X (.Compare ea [o.op, o'.op] [eb, ec] pos) (tChain r r' ta tb tc)) : PE X (.Compare ea [o.op, o'.op] [eb, ec] pos) (tE X.K W (fCmp2 o o' fa fb fc)) :=
  let ⟨_, ho, hs⟩ := cmp_ok X hu o
  let ⟨_, ho', hs'⟩ := cmp_ok X hu o'
  (mk _ _ _ _ _ ho ho' ha hb hc).weak fun _ _ _ h => chain_go (ea := ea) (eb := eb) (ec := ec) o o' hs hs' h
/-! ### and, or, not, tests -/
theorem blOf_inv {x : U} {b : Bool} (h : blOf x = some b) : x = .p (.bl b) := by
  unfold blOf at h
  split at h
  · cases h; rfl
  · cases h
theorem e_and {ea eb : Expr} {rest : List Expr} {fa fb : FE} (ha : PE X ea (tE X.K W fa)) (hb : PE X (.BoolOp .And (eb :: rest) pos) (tE X.K W fb)) : PE X (.BoolOp .And (ea :: eb :: rest) pos) (tE X.K W (fAnd fa fb)) :=
  (pe_and ha hb).weak fun σ H Q ⟨ρ, α, S, hE, c, h⟩ => ⟨ρ, α, S, hE, c, step c hE h fun x S1 β H1 af hE1 c1 h1 v hv => by
    cases e : blOf x with
    | none => rw [e] at h1; exact h1.elim
    | some b =>
      rw [e] at h1
      rw [blOf_inv e] at hv
      refine ⟨b, bl_inv hv, ?_⟩
      cases b with
      | true => rw [if_pos rfl]; exact ⟨ρ, _, S1, hE1, c1, h1⟩
      | false => rw [if_neg (by decide)]; exact tG_ok0 h1 (.refl c1) _ (.bl false)⟩
theorem e_or {ea eb : Expr} {rest : List Expr} {fa fb : FE} (ha : PE X ea (tE X.K W fa)) (hb : PE X (.BoolOp .Or (eb :: rest) pos) (tE X.K W fb)) : PE X (.BoolOp .Or (ea :: eb :: rest) pos) (tE X.K W (fOr fa fb)) :=
  (pe_or ha hb).weak fun σ H Q ⟨ρ, α, S, hE, c, h⟩ => ⟨ρ, α, S, hE, c, step c hE h fun x S1 β H1 af hE1 c1 h1 v hv => by
    cases e : blOf x with
    | none => rw [e] at h1; exact h1.elim
    | some b =>
      rw [e] at h1
      rw [blOf_inv e] at hv
      refine ⟨b, bl_inv hv, ?_⟩
      cases b with
      | false => rw [if_neg (by decide)]; exact ⟨ρ, _, S1, hE1, c1, h1⟩
      | true => rw [if_pos rfl]; exact tG_ok0 h1 (.refl c1) _ (.bl true)⟩
theorem e_one {op : BoolOp} {ea : Expr} {fa : FE} (ha : PE X ea (tE X.K W fa)) : PE X (.BoolOp op [ea] pos) (tE X.K W fa) := pe_one ha
theorem w_and1 {ea : Expr} {fa : FT} (ha : PT X ea (tT X.K W fa)) : PW X (.BoolOp .And [ea] pos) (tT X.K W fa) := pw_and1 ha
theorem w_or1 {ea : Expr} {fa : FT} (ha : PT X ea (tT X.K W fa)) : PW X (.BoolOp .Or [ea] pos) (tT X.K W fa) := pw_or1 ha
theorem w_and {ea eb : Expr} {rest : List Expr} {fa fb : FT} (ha : PT X ea (tT X.K W fa)) (hb : PW X (.BoolOp .And (eb :: rest) pos) (tT X.K W fb)) : PW X (.BoolOp .And (ea :: eb :: rest) pos) (tT X.K W (fAndT fa fb)) :=
  (pw_and ha hb).weak fun σ H Q ⟨ρ, α, S, hE, c, h⟩ => ⟨ρ, α, S, hE, c, step c hE h fun x S1 β H1 af hE1 c1 h1 => by
    show if x = true then _ else _
    cases x with
    | true => rw [if_pos rfl]; exact ⟨ρ, _, S1, hE1, c1, h1⟩
    | false => rw [if_neg (by decide)]; exact tG_ok0 h1 (.refl c1)⟩
theorem w_or {ea eb : Expr} {rest : List Expr} {fa fb : FT} (ha : PT X ea (tT X.K W fa)) (hb : PW X (.BoolOp .Or (eb :: rest) pos) (tT X.K W fb)) : PW X (.BoolOp .Or (ea :: eb :: rest) pos) (tT X.K W (fOrT fa fb)) :=
  (pw_or ha hb).weak fun σ H Q ⟨ρ, α, S, hE, c, h⟩ => ⟨ρ, α, S, hE, c, step c hE h fun x S1 β H1 af hE1 c1 h1 => by
    show if x = true then _ else _
    cases x with
    | false => rw [if_neg (by decide)]; exact ⟨ρ, _, S1, hE1, c1, h1⟩
    | true => rw [if_pos rfl]; exact tG_ok0 h1 (.refl c1)⟩
theorem t_not {ea : Expr} {fa : FT} (ha : PT X ea (tT X.K W fa)) : PT X (.UnaryOp .Not ea pos) (tT X.K W (fNotT fa)) :=
  (pt_not ha).weak fun σ H Q ⟨ρ, α, S, hE, c, h⟩ => ⟨ρ, α, S, hE, c, step c hE h fun x S1 β H1 af hE1 c1 h1 => tG_ok0 h1 (.refl c1)⟩
theorem t_tru {ea : Expr} {fa : FE} (he : ∀ whole, isTrue ea X.env whole = (do let v ← whole; standAt ea.pos; holding [v] (truthy v))) (ha : PE X ea (tE X.K W fa)) : PT X ea (tT X.K W (fTru fa)) :=
  (pt_truth ha he).weak fun σ H Q ⟨ρ, α, S, hE, c, h⟩ => ⟨ρ, α, S, hE, c, step c hE h fun x S1 β H1 af hE1 c1 h1 v hv => by
    obtain ⟨z, e, q⟩ := liftB_inv h1
    exact ⟨z, tru_is c1 hv e, q _ (.refl c1)⟩⟩
/-- not, as a value: of any truth -/
theorem e_not {ea : Expr} {fa : FE} (ha : PE X ea (tE X.K W fa)) : PE X (.UnaryOp .Not ea pos) (tE X.K W (fNotV (fTru fa))) := by
  refine ⟨fun pins s σ H Q I h => ?_⟩
  obtain ⟨ρ, α, S, hE, c, h⟩ := h
  unfold fNotV fTru at h
  rw [bind_assoc] at h
  refine UnaryOp_ (thn (ha.run pins s σ H (fun v H1 => ∃ b, TruV X.K v H1 b ∧ Q (.bl (!b)) H1) I ⟨ρ, α, S, hE, c, step c hE h fun x S1 β H1 af hE1 c1 h1 v hv => ?_⟩) fun v s1 ⟨x, H1, I1, r1, b, ht, q1⟩ => ?_)
  · cases e : truU x S1 with
    | none => rw [e] at h1; exact h1.elim
    | some b =>
      rw [e] at h1
      exact ⟨b, tru_is c1 hv e, tG_ok0 h1 (.refl c1) _ (.bl _)⟩
  · refine not_of (thn (tru_ok pins s1 σ H1 x v (fun b' H2 => b' = b ∧ Q (.bl (!b)) H2) I1 r1 ⟨b, ht, rfl, q1⟩) fun b' s2 ⟨H2, I2, eb, q2⟩ => ?_)
    subst eb
    exact ⟨.bl (!b'), H2, I2, rfl, q2⟩
end
end Ev
end
section
set_option Elab.async false
set_option linter.all false
set_option maxRecDepth 100000
set_option maxHeartbeats 2000000
/-! defs that are called where no repr is under way: what repr of lists and tuples asks -/
namespace Ev
open PySem PySem.Spec PyProof.Rows L2
def Free (A : Around) : Prop := A.guards = some []
theorem Free.deeper {A : Around} (h : Free A) (env : Env) : Free (A.deeper env) := h
/-- a def's promise, as L2.FnOk, for calls where no repr is under way -/
structure FnG (P : Program) (w : World) (K : PySem.W.Frag) (mg : Str → Option Value) (base : Heap) (CX : CXT) (k : Nat) (f : Addr) (fd : FuncData) (ps : List Str) (sp : Sp) : Prop where
  len : ∀ vs H Q E, sp vs H Q E → vs.length = ps.length
  run : ∀ (A : Around) (outer : List Env) (s : Shared) (H : Hp) (args : Args) (us : List Value) (vs : List V) (Q : VK) (E : XK), Room k A → Free A → Env0 P w K mg base A outer s H → BindsTo s fd args (ps.zip us) → Vals vs us → sp vs H Q E →
    codeAny (model P w) A (.call (.ref f) args) (CR CX outer P w H s Q E) s
section
variable {P : Program} {w : World} {K : PySem.W.Frag} {mg : Str → Option Value} {base : Heap} {CX : CXT}
theorem FnG.mono {j k : Nat} {f : Addr} {fd : FuncData} {ps : List Str} {sp : Sp} (F : FnG P w K mg base CX j f fd ps sp) (h : j ≤ k) : FnG P w K mg base CX k f fd ps sp := ⟨F.len, fun A outer s H args us vs Q E hr => F.run A outer s H args us vs Q E (hr.mono h)⟩
theorem FnG.of_ok {k : Nat} {f : Addr} {fd : FuncData} {ps : List Str} {sp : Sp} (F : FnOk P w K mg base CX k f fd ps sp) : FnG P w K mg base CX k f fd ps sp := ⟨F.len, fun A outer s H args us vs Q E hr _ => F.run A outer s H args us vs Q E hr⟩
/-- the rule for a def -/
theorem fnG_of {x qual : Str} {params : Arguments} {body : List Stmt} {scope : Scope} {dvs : List V} {kws : List (Str × V)} {f : Addr} {fd : FuncData} {N ps : List Str} {k : Nat} {sp : Sp}
    (F : FunD K x qual params body scope dvs kws f fd) (S : FnScope N ps scope) (len : ∀ vs H Q E, sp vs H Q E → vs.length = ps.length)
    (hbody : ∀ (cdv : Value) (A : Around) (outer : List Env) (s : Shared) (H : Hp) (vs : List V) (Q : VK) (E : XK), fd.code = cdv → Room k (A.deeper (envOfC qual scope s.heap.objs.size f cdv)) → Free (A.deeper (envOfC qual scope s.heap.objs.size f cdv)) → sp vs H Q E →
      ∃ t, PSs (cxOf CX P w K mg base N qual scope f cdv A outer s H E) body t ∧ t { nx := fun _ H' => Q .non H', rt := Q } (L2.start N vs) H) : FnG P w K mg base CX (k + 1) f fd ps sp := by
  obtain ⟨oc, od, dV, kV, doc, pm, an, cdv, ct, osl, rfl, lk, hcd, _, _⟩ := F.ex
  refine ⟨len, fun A outer s H args us vs Q E hr hf e0 hb r hsp => ?_⟩
  have KX : K.In s.heap := e0.mod.kin.keeps fun b o e => (e0.bs b o e).1
  have lim : s.heap.NoLimit := e0.mod.nolimit.keeps fun b o e => (e0.bs b o e).1
  have hkind : ∀ y ∈ ps.zip us, scope.names.lookup y.1 = some .local ∨ (scope.names.lookup y.1 = some .cell ∧ ((cellsFrom (s.heap.objs.size + 1) scope.names []).lookup y.1).isSome = true) := fun ⟨n, v⟩ hy =>
    (S.par n (List.of_mem_zip hy).1).imp id fun q => ⟨q, PySem.W.cellsFrom_some _ _ _ (.inl q)⟩
  refine codeAny_call_function hr.depth (KX _ _ lk) rfl S.co S.gen rfl (PySem.W.codeRec_of KX hcd) (hb _ _ _ _ ?_)
  refine wpAny_newFunctionEnv_cells S.kind hkind fun env he s1 x => ?_
  subst he
  refine ⟨lim.keeps x.toInCall.keep, codeAny_func ?_⟩
  obtain ⟨t, ht, hq⟩ := hbody cdv A outer s H vs Q E rfl (hr.deeper _) (hf.deeper _) hsp
  refine wpAny_mono (ht.run [] s1 (L2.start N vs) H _ (inv_start S hr.hd e0 (len _ _ _ _ hsp) r x) hq) (fun fl s' hs => ?_) fun e s' hs => hs
  cases fl with
  | ret u => obtain ⟨v, σ', H', J, rv, q⟩ := hs; exact ⟨v, H', J.os, J.bare, J.base, J.hok, rv, q⟩
  | next => obtain ⟨σ', H', J, q⟩ := hs; exact ⟨V.non, H', J.os, J.bare, J.base, J.hok, rfl, q⟩
  | brk => obtain ⟨_, _, _, q⟩ := hs; exact q.elim
  | cont => obtain ⟨_, _, _, q⟩ := hs; exact q.elim
end
section
variable {X : Cx} {CX : CXT} {k : Nat} {f C : Addr} {fd : FuncData} {ps : List Str} {sp : Sp} {dvs : List V} {ds : List Value} {E : XK} {x m : Str} {p pos apos : Pos} {e o : Expr} {es : List Expr} {ta : TE} {t : TA}
/-- what a call leads to, as a value's end -/
theorem runG {A : Around} {pins : List (Addr × Obj)} {σ : L2.St} {H : Hp} {s : Shared} {Q : VK} {us : List Value} {vs : List V} {args : Args} {E' : Value → Shared → Prop} (F : FnG X.prog X.w X.K X.mg X.base CX k f fd ps sp) (hr : Room k A) (hf : Free A)
    (hx : ∀ e s', CX X.stack H s E e s' → E' e s') (I : Inv X pins σ H s) (e0 : Env0 X.prog X.w X.K X.mg X.base A X.stack s H) (hb : BindsTo s fd args (ps.zip us)) (r : Vals vs us) (h : sp vs H Q E) : codeAny (model X.prog X.w) A (.call (.ref f) args) (fun r s' => match r with
      | .ok (.ret u) => EP X pins σ Q u s'
      | .ok _ => False
      | .error e => E' e s') s := by
  refine codeAny_mono (F.run A X.stack s H args us vs Q E hr hf e0 hb r h) fun r s' hq => ?_
  cases r with
  | error e => exact hx e s' hq
  | ok fl =>
    cases fl with
    | ret u => exact I.after hq
    | next => exact hq.elim
    | brk => exact hq.elim
    | cont => exact hq.elim
theorem run_fnG {pins : List (Addr × Obj)} {σ : L2.St} {H : Hp} {s : Shared} {Q : VK} {us : List Value} {vs : List V} (F : FnG X.prog X.w X.K X.mg X.base CX k f fd ps sp) (hr : Room k X.A) (hf : Free X.A) (hb : L2.Binds X.K fd ps ds) (hd : Vals dvs ds) (hx : Passes CX X E)
    (I : Inv X pins σ H s) (r : Vals vs us) (h : sp (vs ++ dvs) H Q E) : wpAny (model X.prog X.w) X.A (call (.ref f) us) (EP X pins σ Q) X.xe s := by
  have r2 : Vals (vs ++ dvs) (us ++ ds) := r.append hd
  have hl : (us ++ ds).length = ps.length := by rw [← r2.length]; exact F.len _ _ _ _ h
  refine wpAny_call (codeAny_mono (runG (E' := X.xe) F hr hf (fun e s' hq => hx pins σ H s e s' I hq) I I.env0 (hb s us I.kIn hl) r2 h) fun r s' hq => ?_)
  cases r with
  | error e => exact hq
  | ok fl => cases fl <;> exact hq
theorem pe_callG (F : FnG X.prog X.w X.K X.mg X.base CX k f fd ps sp) (hr : Room k X.A) (hf : Free X.A) (hg : Gl X x) (hm : X.mg x = some (.ref f)) (hk : PySem.W.keepIn X.K (.ref f) = true) (hb : L2.Binds X.K fd ps ds) (hd : Vals dvs ds) (hx : Passes CX X E)
    (ha : PA X (e :: es) t) (hdb : (x == ("__debug__" : Str)) = false) (he : starEach (e :: es) X.env = (false, eval e X.env) :: starEach es X.env) (hpl : (backTo pos (starEach es X.env)).any (·.1) = false) :
    PE X (.Call (.Name x p) (e :: es) [] pos) (tCall sp dvs E t) :=
  ⟨fun pins s σ H Q I h => wpAny_Call_Name_kw (ld_glob I hg hm (PySem.W.callWith_K (h₀ := X.base) I.ok.mod.kin hk (thn (ha.run pos pins s σ H _ I h) fun us s1 ⟨vs, H1, I1, r, q⟩ => ⟨I1.kIn, run_fnG F hr hf hb hd hx I1 r q⟩) he hpl) hdb)⟩
end
end Ev
end
section
set_option Elab.async false
set_option linter.all false
set_option maxRecDepth 100000
set_option maxHeartbeats 1000000
/-! displays, items, slices, calls -/
namespace Ev
open PySem PySem.Spec PyProof.Rows L2
/-- no star, no star within -/
def noStar : Expr → Bool
  | .Starred _ _ => false
  | _ => true
theorem star_cons {e : Expr} {es : List Expr} {env : Env} (h : noStar e = true) : starEach (e :: es) env = (false, eval e env) :: starEach es env := by
  cases e <;> first | rfl | (cases h; done)
theorem star_any : ∀ {es : List Expr} {env : Env}, es.all noStar = true → (starEach es env).any (·.1) = false
  | [], _, _ => rfl
  | e :: es, env, h => by
    rw [List.all_cons, Bool.and_eq_true] at h
    rw [star_cons h.1, List.any_cons, star_any h.2]
    rfl
theorem back_any {pos : Pos} {env : Env} {es : List Expr} (h : es.all noStar = true) : (backTo pos (starEach es env)).any (·.1) = false := by
  unfold backTo
  rw [List.any_map]
  exact star_any h
section
variable {X : Cx} {W : XK} {pos : Pos}
theorem a_nil : PA X [] (tA X.K W fNil) := pa_nil.weak fun σ H Q ⟨ρ, α, S, hE, c, h⟩ => tG_ok0 h (.refl c) [] .nil
theorem a_cons {e : Expr} {es : List Expr} {fa : FE} {fl : FA} (hs : noStar e = true) (ha : PE X e (tE X.K W fa)) (hl : PA X es (tA X.K W fl)) : PA X (e :: es) (tA X.K W (fCons fa fl)) :=
  (pa_cons ha hl (star_cons hs)).weak fun σ H Q ⟨ρ, α, S, hE, c, h⟩ => ⟨ρ, α, S, hE, c, step c hE h fun x S1 β H1 af hE1 c1 h1 v hv =>
    ⟨ρ, α ++ β, S1, hE1, c1, step c1 hE1 h1 fun xs S2 β2 H2 af2 hE2 c2 h2 vs hvs => tG_ok0 h2 (.refl c2) (v :: vs) (.cons (hv.aft af2) hvs)⟩⟩
theorem e_blt {es : List Expr} {e : Expr} {t : TA → TE} {r : List V → Hp → VK → Prop} {g : List U → Sto → Option P} {fl : FA} (ha : PA X es (tA X.K W fl)) (hs : CallS X.K r g) (mk : ∀ t, PA X es t → PE X e (tCB r t)) : PE X e (tE X.K W (fBlt g fl)) :=
  (mk _ ha).weak fun σ H Q ⟨ρ, α, S, hE, c, h⟩ => ⟨ρ, α, S, hE, c, step c hE h fun us S1 β H1 af hE1 c1 h1 vs hvs => by
    obtain ⟨z, e, q⟩ := lift_inv h1
    exact hs _ H1 S1 us z vs Q c1 hvs e q⟩
/-- a built-in function or class, by its name -/
theorem e_bl {x : Str} {p : Pos} {e : Expr} {es : List Expr} {fl : FA} (b : Bl) (hc : X.calm = true) (hx : x = b.name) (hg : Gl X x) (hm : X.mg x = none) (hs : (e :: es).all noStar = true) (ha : PA X (e :: es) (tA X.K W fl)) : PE X (.Call (.Name x p) (e :: es) [] pos) (tE X.K W (fBlt (bltP b) fl)) := by
  subst hx
  obtain ⟨r, hr, hS⟩ := blt_ok X hc b
  have hb := blt_boot b
  have hs' := hs
  rw [List.all_cons, Bool.and_eq_true] at hs'
  refine e_blt (t := tCB r) ha hS fun t ha => ?_
  cases b <;> first
    | exact pe_callB hr hg hm hb ha (by decide) (by decide) (star_cons hs'.1) (back_any hs'.2)
    | exact pe_callTy hr hg hm hb ha (by decide) (by decide) (star_cons hs'.1) (back_any hs'.2)
theorem e_gcd {x : Str} {p : Pos} {e : Expr} {es : List Expr} {fl : FA} (hg : Gl X x) (hm : X.mg x = some (.builtin "math.gcd")) (hd : (x == ("__debug__" : Str)) = false) (hs : (e :: es).all noStar = true) (ha : PA X (e :: es) (tA X.K W fl)) : PE X (.Call (.Name x p) (e :: es) [] pos) (tE X.K W (fBlt gcdP fl)) := by
  have hs' := hs
  rw [List.all_cons, Bool.and_eq_true] at hs'
  exact e_blt (t := tCB rGcd) ha cs_gcd fun t ha => pe_callBfun cr_gcd hg hm ha hd (star_cons hs'.1) (back_any hs'.2)
theorem e_tup {es : List Expr} {k : Nat} {fl : FA} (ha : PA X es (tA X.K W fl)) : PE X (.Tuple es k pos) (tE X.K W (fTup fl)) :=
  (pe_tup ha).weak fun σ H Q ⟨ρ, α, S, hE, c, h⟩ => ⟨ρ, α, S, hE, c, step c hE h fun us S1 β H1 af hE1 c1 h1 vs hvs => by
    obtain ⟨z, e, q⟩ := lift_inv h1
    obtain ⟨l, e1, rfl⟩ := Option.map_eq_some_iff.mp e
    obtain ⟨r, hz⟩ := puresS_ok hvs e1
    exact ⟨hz, fun p n => q _ _ (aft_upd c1 n) (new_tup c1 n r)⟩⟩
theorem e_lst {es : List Expr} {fl : FA} (ha : PA X es (tA X.K W fl)) : PE X (.List es pos) (tE X.K W (fLst fl)) :=
  (pe_lst ha).weak fun σ H Q ⟨ρ, α, S, hE, c, h⟩ => ⟨ρ, α, S, hE, c, step c hE h fun us S1 β H1 af hE1 c1 h1 vs hvs => by
    obtain ⟨z, e, q⟩ := lift_inv h1
    obtain ⟨l, e1, rfl⟩ := Option.map_eq_some_iff.mp e
    obtain ⟨r, hz⟩ := puresS_ok hvs e1
    exact ⟨hz, fun p n => q _ _ (aft_upd c1 n) (new_lst c1 n r)⟩⟩
/-- a new cell of the store -/
theorem new_cell {K : PySem.W.Frag} {α : List Addr} {H : Hp} {S : Sto} (c : Cs K H α S) {p : Addr} (n : H p = none) {l : List P} {xs : List V} (h : IsA K (hid α H) l xs) : Aft K α H [p] (upd H p (.lst xs)) (S ++ [l]) := by
  have np := c.notin n
  have ex : Ext (hid α H) (hid (α ++ [p]) (upd H p (.lst xs))) := fun b o e => by
    obtain ⟨h1, h2, h3⟩ := hid_all e
    have hb : b ≠ p := ne_of_none h2 n
    exact hid_out (by simp [h1, hb]) (by rw [upd_ne hb]; exact h2) h3
  refine .mk3 c (fun b o e _ => by rw [upd_ne (ne_of_none e n)]; exact e) (fun b hb => by rw [List.mem_singleton.mp hb]; exact n) (⟨?_, by simp [c.len], fun i a m h1 h2 => ?_, c.tabs (fun b o e _ => by rw [upd_ne (ne_of_none e n)]; exact e) c.tb⟩)
  · rw [List.nodup_append]
    exact ⟨c.nd, by simp, fun a ha b hb e => np (by rw [List.mem_singleton] at hb; rw [← hb, ← e]; exact ha)⟩
  · by_cases hi : i < α.length
    · rw [List.getElem?_append_left hi] at h1
      rw [List.getElem?_append_left (by rw [← c.len]; exact hi)] at h2
      obtain ⟨ys, h3, h4⟩ := c.at_ i a m h1 h2
      refine ⟨ys, ?_, h4.ext ex⟩
      rw [upd_ne (ne_of_none h3 n)]
      exact h3
    · have hl : i < (α ++ [p]).length := (List.getElem?_eq_some_iff.mp h1).1
      rw [List.length_append, List.length_singleton] at hl
      have e : i = α.length := by omega
      subst e
      rw [List.getElem?_append_right (Nat.le_refl _)] at h1
      rw [List.getElem?_append_right (by rw [c.len]; exact Nat.le_refl _)] at h2
      simp at h1
      simp [c.len] at h2
      subst h1 h2
      exact ⟨xs, upd_same, h.ext ex⟩
theorem e_cel {es : List Expr} {fl : FA} (ha : PA X es (tA X.K W fl)) : PE X (.List es pos) (tE X.K W (fCel fl)) :=
  (pe_lst ha).weak fun σ H Q ⟨ρ, α, S, hE, c, h⟩ => ⟨ρ, α, S, hE, c, step c hE h fun us S1 β H1 af hE1 c1 h1 vs hvs => by
    dsimp only at h1
    cases e : puresS us with
    | none => rw [e] at h1; exact h1.elim
    | some l =>
      rw [e] at h1
      obtain ⟨r, hz⟩ := puresS_ok hvs e
      refine ⟨hz, fun p n => ?_⟩
      refine tG_ok h1 (new_cell c1 n r) _ ⟨p, ?_, rfl⟩
      rw [← c1.len, List.getElem?_append_right (Nat.le_refl _)]
      simp⟩
theorem e_ite {t a b : Expr} {ft : FT} {fa fb : FE} (ht : PT X t (tT X.K W ft)) (ha : PE X a (tE X.K W fa)) (hb : PE X b (tE X.K W fb)) : PE X (.IfExp t a b pos) (tE X.K W (fIte ft fa fb)) :=
  (pe_ifExp ht ha hb).weak fun σ H Q ⟨ρ, α, S, hE, c, h⟩ => ⟨ρ, α, S, hE, c, step c hE h fun x S1 β H1 af hE1 c1 h1 => by
    show if x = true then _ else _
    cases x with
    | true => rw [if_pos rfl]; exact ⟨ρ, _, S1, hE1, c1, h1⟩
    | false => rw [if_neg (by decide)]; exact ⟨ρ, _, S1, hE1, c1, h1⟩⟩
/-- -x -/
def negP (x : U) (_ : Sto) : Option P := match x with
  | .p (.int i) => some (.int (-i))
  | _ => none
theorem e_neg {ea : Expr} {fa : FE} (ha : PE X ea (tE X.K W fa)) : PE X (.UnaryOp .USub ea pos) (tE X.K W (fUn negP fa)) :=
  (pe_un un_neg ha).weak fun σ H Q ⟨ρ, α, S, hE, c, h⟩ => ⟨ρ, α, S, hE, c, step c hE h fun x S1 β H1 af hE1 c1 h1 v hv => by
    obtain ⟨z, e, q⟩ := lift_inv h1
    unfold negP at e
    split at e
    · cases e
      exact ⟨_, int_inv hv, q _ _ (.refl c1) (.int _)⟩
    · cases e⟩
theorem e_idx {ea eb : Expr} {fa fb : FE} (hp : PlainIx eb) (ha : PE X ea (tE X.K W fa)) (hb : PE X eb (tE X.K W fb)) : PE X (.Subscript ea eb pos) (tE X.K W (fBin idxP fa fb)) :=
  e_bin2 ha hb ops_idx fun _ _ a b => pe_ix ix_seq a b hp
/-- a part of a slice -/
abbrev FO := En → Sto → M (Option Int)
def fNoP : FO := fun _ S => some (.ok none S)
def fSoP (a : FE) : FO := fun ρ S => (a ρ S).bind fun x S1 => match x with
  | .p (.int i) => some (.ok (some i) S1)
  | _ => none
def tO (K : PySem.W.Frag) (W : XK) (f : FO) : TO := fun σ H Q => ∃ ρ α S, IsE K α (hid α H) ρ σ ∧ Cs K H α S ∧ tG K W α H (f ρ S) (fun o _ _ H' => Q o H')
theorem _root_.L2.PO.weak {e : Option Expr} {t t' : TO} (h : PO X e t) (w : ∀ σ H Q, t' σ H Q → t σ H Q) : PO X e t' := ⟨fun pins s σ H Q I q => h.run pins s σ H Q I (w σ H Q q)⟩
theorem o_no : PO X none (tO X.K W fNoP) := po_none.weak fun σ H Q ⟨ρ, α, S, hE, c, h⟩ => tG_ok0 h (.refl c)
theorem o_so {e : Expr} {fa : FE} (ha : PE X e (tE X.K W fa)) : PO X (some e) (tO X.K W (fSoP fa)) :=
  (po_some ha).weak fun σ H Q ⟨ρ, α, S, hE, c, h⟩ => ⟨ρ, α, S, hE, c, step c hE h fun x S1 β H1 af hE1 c1 h1 v hv => by
    split at h1
    · exact ⟨_, int_inv hv, tG_ok0 h1 (.refl c1)⟩
    · exact h1.elim⟩
def fSli (a : FE) (lo hi : FO) : FE := fun ρ S => (a ρ S).bind fun x S1 => (lo ρ S1).bind fun l S2 => (hi ρ S2).bind fun u S3 => lift (cutU x l u S3) S3
theorem e_sli {ea : Expr} {lo hi : Option Expr} {fa : FE} {fl fh : FO} {p2 : Pos} (ha : PE X ea (tE X.K W fa)) (hl : PO X lo (tO X.K W fl)) (hh : PO X hi (tO X.K W fh)) : PE X (.Subscript ea (.Slice lo hi none p2) pos) (tE X.K W (fSli fa fl fh)) :=
  let ⟨_, hr, hs⟩ := sli_ok X
  (pe_slice hr ha hl hh).weak fun σ H Q ⟨ρ, α, S, hE, c, h⟩ => ⟨ρ, α, S, hE, c, step c hE h fun x S1 β H1 af hE1 c1 h1 v hv =>
    ⟨ρ, α ++ β, S1, hE1, c1, step c1 hE1 h1 fun l S2 β2 H2 af2 hE2 c2 h2 =>
      ⟨ρ, _, S2, hE2, c2, step c2 hE2 h2 fun u S3 β3 H3 af3 hE3 c3 h3 => by
        obtain ⟨z, e, q⟩ := lift_inv h3
        exact hs _ H3 S3 x l u z v Q c3 ((hv.aft af2).aft af3) e q⟩⟩⟩
end
/-! ### calls of the program's own defs -/
/-- the store as it was, of what is new only what is handed back -/
def trunc (n : Nat) (m : M U) : M U := match m with
  | some (.ok (.p x) S) => some (.ok (.p x) (S.take n))
  | some (.ok (.c k) S) => if k < n then some (.ok (.c k) (S.take n)) else (match S[k]? with
    | some l => some (.ok (.c n) (S.take n ++ [l]))
    | none => none)
  | some (.ex x S) => some (.ex x (S.take n))
  | none => none
/-- a def's promise, by what it computes -/
def spF (K : PySem.W.Frag) (n : Nat) (f : List U → Sto → M U) : Sp := fun vs H Q E => ∃ α S us, Cs K H α S ∧ us.length = n ∧ IsUs K α (hid α H) us vs ∧ tG K E α H (f us S) (PoE K Q)
theorem e_call {X : Cx} {W : XK} {pos p : Pos} {x : Str} {f : Addr} {fd : FuncData} {ps : List Str} {k n : Nat} {F : List U → Sto → M U} {e : Expr} {es : List Expr} {fl : FA} (hW : Takes X fun cls d _ H => W cls d H)
    (F0 : FnG X.prog X.w X.K X.mg X.base (L2.CX X.prog X.w) k f fd ps (spF X.K n F)) (hr : Room k X.A) (hfr : Free X.A) (hg : Gl X x) (hm : X.mg x = some (.ref f)) (hk : PySem.W.keepIn X.K (.ref f) = true) (hb : L2.Binds X.K fd ps []) (hn : (e :: es).length = n)
    (hd : (x == ("__debug__" : Str)) = false) (hs : (e :: es).all noStar = true) (ha : PA X (e :: es) (tA X.K W fl)) (hlen : ∀ ρ S us S', fl ρ S = some (.ok us S') → us.length = n) : PE X (.Call (.Name x p) (e :: es) [] pos) (tE X.K W (fApp F fl)) := by
  have hs' := hs
  rw [List.all_cons, Bool.and_eq_true] at hs'
  refine (pe_callG (E := W) F0 hr hfr hg hm hk hb .nil (passes_call hW fun _ _ _ _ h => h) ha hd (star_cons hs'.1) (back_any hs'.2)).weak fun σ H Q ⟨ρ, α, S, hE, c, h⟩ => ?_
  refine ⟨ρ, α, S, hE, c, tG_mono (tG_bind c h) fun us S1 β H1 af em q vs hvs => ?_⟩
  show spF X.K n F (vs ++ []) H1 Q W
  rw [List.append_nil]
  exact ⟨α ++ β, S1, us, af.cs, hlen ρ S us S1 em, hvs, q⟩
end Ev
end
section
set_option Elab.async false
set_option linter.all false
set_option maxRecDepth 100000
set_option maxHeartbeats 1000000
/-! targets, what is walked, loops, comprehensions -/
namespace Ev
open PySem PySem.Spec PyProof.Rows L2
/-! ### targets -/
inductive Tg where
  | nm (i : Nat) | tp (l : List Tg)
mutual
def asg : Tg → P → En → Option En
  | .nm i, x, ρ => some (ρ.set i (some (.p x)))
  | .tp l, x, ρ => match x with
    | .tup xs => asgs l xs ρ
    | _ => none
def asgs : List Tg → List P → En → Option En
  | [], [], ρ => some ρ
  | t :: l, x :: xs, ρ => match asg t x ρ with
    | some ρ1 => asgs l xs ρ1
    | none => none
  | [], _ :: _, _ => none
  | _ :: _, [], _ => none
end
mutual
def slots : Tg → List Nat
  | .nm i => [i]
  | .tp l => slotss l
def slotss : List Tg → List Nat
  | [] => []
  | t :: l => slots t ++ slotss l
end
mutual
def gOf (K : PySem.W.Frag) : Tg → TG
  | .nm i => gName i
  | .tp l => gTup K l.length (gsOf K l)
def gsOf (K : PySem.W.Frag) : List Tg → TGs
  | [] => gNil
  | t :: l => gCons (gOf K t) (gsOf K l)
end
section
variable {K : PySem.W.Frag} {α : List Addr} {H : Hp}
mutual
theorem g_go : ∀ (t : Tg) (x : P) (v : V) (ρ ρ' : En) (σ : L2.St) (Q : L2.St → Hp → Prop), asg t x ρ = some ρ' → IsE K α (hid α H) ρ σ → Is K (hid α H) x v →
    (∀ σ', IsE K α (hid α H) ρ' σ' → σ'.length = σ.length → (∀ j, j ∉ slots t → σ'[j]? = σ[j]?) → Q σ' H) → gOf K t v σ H Q
  | .nm i, x, v, ρ, ρ', σ, Q, e, hE, hx, q => by
    unfold asg at e
    cases e
    unfold gOf
    show Q (σ.set i (some v)) H
    refine q _ (hE.set i hx) (by simp) fun j hj => ?_
    unfold slots at hj
    rw [List.getElem?_set_ne (by simp at hj; exact fun z => hj z.symm)]
  | .tp l, x, v, ρ, ρ', σ, Q, e, hE, hx, q => by
    unfold asg at e
    split at e
    · rename_i xs
      cases hx with
      | tup h1 h2 =>
        unfold gOf
        refine ⟨_, _, rfl, sqT_hid h1, ?_, gs_go l xs _ ρ ρ' σ Q e hE h2 (by unfold slots at q; exact q)⟩
        rw [← h2.length]
        exact (asgs_len e).symm
    · cases e
theorem gs_go : ∀ (l : List Tg) (xs : List P) (vs : List V) (ρ ρ' : En) (σ : L2.St) (Q : L2.St → Hp → Prop), asgs l xs ρ = some ρ' → IsE K α (hid α H) ρ σ → IsA K (hid α H) xs vs →
    (∀ σ', IsE K α (hid α H) ρ' σ' → σ'.length = σ.length → (∀ j, j ∉ slotss l → σ'[j]? = σ[j]?) → Q σ' H) → gsOf K l vs σ H Q
  | [], xs, vs, ρ, ρ', σ, Q, e, hE, hx, q => by
    cases xs with
    | nil =>
      unfold asgs at e
      cases e
      cases hx
      unfold gsOf
      exact ⟨rfl, q σ hE rfl fun _ _ => rfl⟩
    | cons _ _ => unfold asgs at e; cases e
  | t :: l, xs, vs, ρ, ρ', σ, Q, e, hE, hx, q => by
    cases xs with
    | nil => unfold asgs at e; cases e
    | cons x xs =>
      unfold asgs at e
      cases e1 : asg t x ρ with
      | none => rw [e1] at e; cases e
      | some ρ1 =>
        rw [e1] at e
        cases hx with
        | cons h1 h2 =>
          unfold gsOf
          refine ⟨_, _, rfl, g_go t x _ ρ ρ1 σ _ e1 hE h1 fun σ1 hE1 l1 o1 => ?_⟩
          refine gs_go l xs _ ρ1 ρ' σ1 Q e hE1 h2 fun σ2 hE2 l2 o2 => q σ2 hE2 (l2.trans l1) fun j hj => ?_
          unfold slotss at hj
          rw [List.mem_append, not_or] at hj
          rw [o2 j hj.2, o1 j hj.1]
theorem asgs_len : ∀ {l : List Tg} {xs : List P} {ρ ρ' : En}, asgs l xs ρ = some ρ' → l.length = xs.length
  | [], [], _, _, _ => rfl
  | t :: l, x :: xs, ρ, ρ', e => by
    unfold asgs at e
    cases e1 : asg t x ρ with
    | none => rw [e1] at e; cases e
    | some ρ1 => rw [e1] at e; simp [asgs_len e]
  | [], _ :: _, _, _, e => by unfold asgs at e; cases e
  | _ :: _, [], _, _, e => by unfold asgs at e; cases e
end
end
/-! ### what is walked -/
structure Sq where
  items : List P
  src : Option Nat
def srcOk (q : Sq) (S : Sto) : Prop := ∀ n, q.src = some n → S[n]? = some q.items
mutual
def eqP : P → P → Bool
  | .non, .non => true
  | .bl a, .bl b => decide (a = b)
  | .int a, .int b => decide (a = b)
  | .str a, .str b => decide (a = b)
  | .tup l, .tup m => eqPs l m
  | .lst l, .lst m => eqPs l m
  | .scr l, .scr m => decide (l = m)
  | .obj c fs, .obj d gs => decide (c = d) && eqPf fs gs
  | .emp, .emp => true
  | .err c fs, .err d gs => decide (c = d) && eqPf fs gs
  | _, _ => false
def eqPs : List P → List P → Bool
  | [], [] => true
  | a :: l, b :: m => eqP a b && eqPs l m
  | _, _ => false
def eqPf : List (Str × P) → List (Str × P) → Bool
  | [], [] => true
  | (f, a) :: l, (g, b) :: m => decide (f = g) && (eqP a b && eqPf l m)
  | _, _ => false
end
mutual
theorem eqP_to : ∀ (a b : P), eqP a b = true → a = b
  | .non, b, h => by cases b <;> first | rfl | (simp [eqP] at h; done)
  | .bl a, b, h => by cases b <;> simp [eqP] at h; rw [h]
  | .int a, b, h => by cases b <;> simp [eqP] at h; rw [h]
  | .str a, b, h => by cases b <;> simp [eqP] at h; rw [h]
  | .tup l, b, h => by cases b <;> simp [eqP] at h; rw [eqPs_to l _ h]
  | .lst l, b, h => by cases b <;> simp [eqP] at h; rw [eqPs_to l _ h]
  | .scr l, b, h => by cases b <;> simp [eqP] at h; rw [h]
  | .obj c fs, b, h => by cases b <;> simp [eqP] at h; rw [h.1, eqPf_to fs _ h.2]
  | .emp, b, h => by cases b <;> first | rfl | (simp [eqP] at h; done)
  | .err c fs, b, h => by cases b <;> simp [eqP] at h; rw [h.1, eqPf_to fs _ h.2]
theorem eqPs_to : ∀ (a b : List P), eqPs a b = true → a = b
  | [], b, h => by cases b <;> first | rfl | (simp [eqPs] at h; done)
  | a :: l, b, h => by
    cases b with
    | nil => simp [eqPs] at h
    | cons b m =>
      simp [eqPs] at h
      rw [eqP_to a b h.1, eqPs_to l m h.2]
theorem eqPf_to : ∀ (a b : List (Str × P)), eqPf a b = true → a = b
  | [], b, h => by cases b <;> first | rfl | (simp [eqPf] at h; done)
  | (f, a) :: l, b, h => by
    cases b with
    | nil => simp [eqPf] at h
    | cons b m =>
      obtain ⟨g, b⟩ := b
      simp [eqPf] at h
      rw [h.1, eqP_to a b h.2.1, eqPf_to l m h.2.2]
end
mutual
theorem eqP_rf : ∀ a : P, eqP a a = true
  | .non => by simp [eqP]
  | .bl a => by simp [eqP]
  | .int a => by simp [eqP]
  | .str a => by simp [eqP]
  | .tup l => by simp [eqP, eqPs_rf l]
  | .lst l => by simp [eqP, eqPs_rf l]
  | .scr l => by simp [eqP]
  | .obj c fs => by simp [eqP, eqPf_rf fs]
  | .emp => by simp [eqP]
  | .err c fs => by simp [eqP, eqPf_rf fs]
theorem eqPs_rf : ∀ a : List P, eqPs a a = true
  | [] => by simp [eqPs]
  | a :: l => by simp [eqPs, eqP_rf a, eqPs_rf l]
theorem eqPf_rf : ∀ a : List (Str × P), eqPf a a = true
  | [] => by simp [eqPf]
  | (f, a) :: l => by simp [eqPf, eqP_rf a, eqPf_rf l]
end
instance : DecidableEq P := fun a b => decidable_of_iff (eqP a b = true) ⟨eqP_to a b, fun h => by rw [h]; exact eqP_rf b⟩
instance (q : Sq) (S : Sto) : Decidable (srcOk q S) := match h : q.src with
  | none => Decidable.isTrue fun n e => by rw [h] at e; cases e
  | some n => match (inferInstance : Decidable (S[n]? = some q.items)) with
    | Decidable.isTrue e => Decidable.isTrue fun m z => by rw [h] at z; cases z; exact e
    | Decidable.isFalse e => Decidable.isFalse fun z => e (z n h)
theorem srcOk_none {q : Sq} {S : Sto} (h : q.src = none) : srcOk q S := fun n e => by rw [h] at e; cases e
structure SrcI (K : PySem.W.Frag) (J : It) (q : Sq) (St : List Addr → Hp → Prop) : Prop where
  goes : ∀ γ H i, St γ H → i < q.items.length → J.go i H
  stops : ∀ γ H, St γ H → J.stop q.items.length H
  yld : ∀ γ H S i p v H', Cs K H γ S → St γ H → q.items[i]? = some p → J.yld i H v H' → Aft K γ H [] H' S ∧ Is K (hid γ H') p v
  keep : ∀ γ β H H' S S', Cs K H γ S → srcOk q S' → St γ H → Aft K γ H β H' S' → St (γ ++ β) H'
abbrev FI := En → Sto → M Sq
def PoI (K : PySem.W.Frag) (R : It → Hp → Prop) : Sq → Sto → List Addr → Hp → Prop := fun q S' γ H' => ∀ J St, SrcI K J q St → St γ H' → srcOk q S' → R J H'
def tI (K : PySem.W.Frag) (W : XK) (f : FI) : TI := fun σ H R => ∃ ρ α S, IsE K α (hid α H) ρ σ ∧ Cs K H α S ∧ tG K W α H (f ρ S) (PoI K R)
theorem _root_.L2.PI.weak {X : Cx} {tg e : Expr} {t t' : TI} (h : PI X tg e t) (w : ∀ σ H R, t' σ H R → t σ H R) : PI X tg e t' := ⟨fun pins s σ H R I q => h.run pins s σ H R I (w σ H R q)⟩
/-- a list, a tuple, a text -/
def seqOf (u : U) (S : Sto) : Option Sq := match u with
  | .p (.lst l) => some ⟨l, none⟩
  | .p (.scr l) => some ⟨l.map .int, none⟩
  | .p (.tup l) => some ⟨l, none⟩
  | .p (.str z) => some ⟨z.cps.toList.map fun c => .str ⟨#[c]⟩, none⟩
  | .c n => (S[n]?).map fun l => ⟨l, some n⟩
  | _ => none
theorem src_lst {K : PySem.W.Frag} {a : Addr} {l : List P} : SrcI K (Itl K a) ⟨l, none⟩ (fun γ H => ∃ xs, SqL K (hid γ H) a xs ∧ IsA K (hid γ H) l xs) where
  goes := fun γ H i ⟨xs, h1, h2⟩ hi => ⟨xs, xs[i]'(by rw [← h2.length]; exact hi), sqL_hid h1, List.getElem?_eq_getElem _⟩
  stops := fun γ H ⟨xs, h1, h2⟩ => ⟨xs, sqL_hid h1, by rw [h2.length]; exact Nat.le_refl _⟩
  yld := fun γ H S i p v H' c ⟨xs, h1, h2⟩ e y => by
    obtain ⟨rfl, y⟩ := y
    have q := y xs (sqL_hid h1)
    obtain ⟨p', e', r⟩ := h2.getV q
    rw [e] at e'
    cases e'
    exact ⟨.refl c, r⟩
  keep := fun γ β H H' S S' c _ ⟨xs, h1, h2⟩ af => ⟨xs, sqL_ext af.ext h1, h2.ext af.ext⟩
theorem src_tup {K : PySem.W.Frag} {a : Addr} {l : List P} : SrcI K (Itt K a) ⟨l, none⟩ (fun γ H => ∃ xs, SqT K (hid γ H) a xs ∧ IsA K (hid γ H) l xs) where
  goes := fun γ H i ⟨xs, h1, h2⟩ hi => ⟨xs, xs[i]'(by rw [← h2.length]; exact hi), sqT_hid h1, List.getElem?_eq_getElem _⟩
  stops := fun γ H ⟨xs, h1, h2⟩ => ⟨xs, sqT_hid h1, by rw [h2.length]; exact Nat.le_refl _⟩
  yld := fun γ H S i p v H' c ⟨xs, h1, h2⟩ e y => by
    obtain ⟨rfl, y⟩ := y
    have q := y xs (sqT_hid h1)
    obtain ⟨p', e', r⟩ := h2.getV q
    rw [e] at e'
    cases e'
    exact ⟨.refl c, r⟩
  keep := fun γ β H H' S S' c _ ⟨xs, h1, h2⟩ af => ⟨xs, sqT_ext af.ext h1, h2.ext af.ext⟩
theorem src_cell {K : PySem.W.Frag} {a : Addr} {n : Nat} {l : List P} : SrcI K (Itl K a) ⟨l, some n⟩ (fun γ H => γ[n]? = some a ∧ ∃ xs, H a = some (.lst xs) ∧ IsA K (hid γ H) l xs) where
  goes := fun γ H i ⟨_, xs, h1, h2⟩ hi => ⟨xs, xs[i]'(by rw [← h2.length]; exact hi), .inl (.inl h1), List.getElem?_eq_getElem _⟩
  stops := fun γ H ⟨_, xs, h1, h2⟩ => ⟨xs, .inl (.inl h1), by rw [h2.length]; exact Nat.le_refl _⟩
  yld := fun γ H S i p v H' c ⟨_, xs, h1, h2⟩ e y => by
    obtain ⟨rfl, y⟩ := y
    have q := y xs (.inl (.inl h1))
    obtain ⟨p', e', r⟩ := h2.getV q
    rw [e] at e'
    cases e'
    exact ⟨.refl c, r⟩
  keep := fun γ β H H' S S' c so ⟨h0, xs, h1, h2⟩ af => by
    have h3 : (γ ++ β)[n]? = some a := by rw [List.getElem?_append_left (List.getElem?_eq_some_iff.mp h0).1]; exact h0
    obtain ⟨ys, h4, h5⟩ := af.cs.at_ n a l h3 (so n rfl)
    exact ⟨h3, ys, h4, h5⟩
theorem src_str {K : PySem.W.Frag} {z : Str} : SrcI K (Its z) ⟨z.cps.toList.map fun c => .str ⟨#[c]⟩, none⟩ (fun _ _ => True) where
  goes := fun γ H i _ hi => by
    show i < z.cps.size
    simpa using hi
  stops := fun γ H _ => by show z.cps.size ≤ _; simp
  yld := fun γ H S i p v H' c _ e y => by
    obtain ⟨rfl, ch, h1, rfl⟩ := y
    rw [List.getElem?_map, Array.getElem?_toList, h1] at e
    cases e
    exact ⟨.refl c, .str _⟩
  keep := fun _ _ _ _ _ _ _ _ _ _ => trivial
theorem src_rng {K : PySem.W.Frag} {lo : Int} {n : Nat} : SrcI K (Itr lo n) ⟨(List.range n).map fun i => .int (lo + (i : Nat)), none⟩ (fun _ _ => True) where
  goes := fun γ H i _ hi => by
    show i < n
    simpa using hi
  stops := fun γ H _ => by show n ≤ _; simp
  yld := fun γ H S i p v H' c _ e y => by
    obtain ⟨rfl, rfl⟩ := y
    rw [List.getElem?_map] at e
    have hi : i < n := by
      cases q : (List.range n)[i]? with
      | none => rw [q] at e; cases e
      | some k => have := (List.getElem?_eq_some_iff.mp q).1; simpa using this
    rw [List.getElem?_range hi] at e
    cases e
    exact ⟨.refl c, .int _⟩
  keep := fun _ _ _ _ _ _ _ _ _ _ => trivial
/-- pairs -/
def prs (l m : List P) : List P := (l.zip m).map fun p => .tup [p.1, p.2]
theorem prs_get {l m : List P} {i : Nat} {p : P} (e : (prs l m)[i]? = some p) : ∃ x y, l[i]? = some x ∧ m[i]? = some y ∧ p = .tup [x, y] := by
  unfold prs at e
  rw [List.getElem?_map] at e
  cases q : (l.zip m)[i]? with
  | none => rw [q] at e; cases e
  | some xy =>
    rw [q] at e
    cases e
    obtain ⟨h1, h2⟩ := List.getElem?_zip_eq_some.mp q
    exact ⟨xy.1, xy.2, h1, h2, rfl⟩
theorem prs_len (l m : List P) : (prs l m).length = min l.length m.length := by unfold prs; simp
theorem yld_pair {K : PySem.W.Frag} {γ : List Addr} {H : Hp} {S : Sto} (c : Cs K H γ S) {T : Addr} {x y : V} {p q : P} (n : H T = none) (hx : Is K (hid γ H) p x) (hy : Is K (hid γ H) q y) : Aft K γ H [] (upd H T (.tup [x, y])) S ∧ Is K (hid γ (upd H T (.tup [x, y]))) (.tup [p, q]) (.ref T) :=
  ⟨aft_upd c n, new_tup c n (.cons hx (.cons hy .nil))⟩
theorem src_zipL {K : PySem.W.Frag} {a b : Addr} {l m : List P} : SrcI K (Itz K a b) ⟨prs l m, none⟩ (fun γ H => (∃ xs, SqL K (hid γ H) a xs ∧ IsA K (hid γ H) l xs) ∧ ∃ ys, SqL K (hid γ H) b ys ∧ IsA K (hid γ H) m ys) where
  goes := fun γ H i ⟨⟨xs, h1, h2⟩, ys, h3, h4⟩ hi => by
    have hi' : i < min l.length m.length := by rw [← prs_len]; exact hi
    have e1 := h2.length
    have e2 := h4.length
    exact ⟨xs, ys, xs[i]'(by omega), ys[i]'(by omega), sqL_hid h1, sqL_hid h3, List.getElem?_eq_getElem _, List.getElem?_eq_getElem _⟩
  stops := fun γ H ⟨⟨xs, h1, h2⟩, ys, h3, h4⟩ => ⟨xs, ys, sqL_hid h1, sqL_hid h3, by
    have e1 := h2.length
    have e2 := h4.length
    show xs.length ≤ (prs l m).length ∨ ys.length ≤ (prs l m).length
    rw [prs_len]
    omega⟩
  yld := fun γ H S i p v H' c ⟨⟨xs, h1, h2⟩, ys, h3, h4⟩ e y => by
    obtain ⟨T, x, z, rfl, n, rfl, f1, f2⟩ := y
    obtain ⟨p1, p2, e1, e2, rfl⟩ := prs_get e
    obtain ⟨w1, g1, r1⟩ := h2.getV (f1 xs (sqL_hid h1))
    obtain ⟨w2, g2, r2⟩ := h4.getV (f2 ys (sqL_hid h3))
    rw [e1] at g1
    rw [e2] at g2
    cases g1
    cases g2
    exact yld_pair c n r1 r2
  keep := fun γ β H H' S S' c _ ⟨⟨xs, h1, h2⟩, ys, h3, h4⟩ af => ⟨⟨xs, sqL_ext af.ext h1, h2.ext af.ext⟩, ys, sqL_ext af.ext h3, h4.ext af.ext⟩
theorem src_zipT {K : PySem.W.Frag} {a b : Addr} {l m : List P} : SrcI K (RZ.ItzT K a b) ⟨prs l m, none⟩ (fun γ H => (∃ xs, SqT K (hid γ H) a xs ∧ IsA K (hid γ H) l xs) ∧ ∃ ys, SqT K (hid γ H) b ys ∧ IsA K (hid γ H) m ys) where
  goes := fun γ H i ⟨⟨xs, h1, h2⟩, ys, h3, h4⟩ hi => by
    have hi' : i < min l.length m.length := by rw [← prs_len]; exact hi
    have e1 := h2.length
    have e2 := h4.length
    exact ⟨xs, ys, xs[i]'(by omega), ys[i]'(by omega), sqT_hid h1, sqT_hid h3, List.getElem?_eq_getElem _, List.getElem?_eq_getElem _⟩
  stops := fun γ H ⟨⟨xs, h1, h2⟩, ys, h3, h4⟩ => ⟨xs, ys, sqT_hid h1, sqT_hid h3, by
    have e1 := h2.length
    have e2 := h4.length
    show xs.length ≤ (prs l m).length ∨ ys.length ≤ (prs l m).length
    rw [prs_len]
    omega⟩
  yld := fun γ H S i p v H' c ⟨⟨xs, h1, h2⟩, ys, h3, h4⟩ e y => by
    obtain ⟨T, x, z, rfl, n, rfl, f1, f2⟩ := y
    obtain ⟨p1, p2, e1, e2, rfl⟩ := prs_get e
    obtain ⟨w1, g1, r1⟩ := h2.getV (f1 xs (sqT_hid h1))
    obtain ⟨w2, g2, r2⟩ := h4.getV (f2 ys (sqT_hid h3))
    rw [e1] at g1
    rw [e2] at g2
    cases g1
    cases g2
    exact yld_pair c n r1 r2
  keep := fun γ β H H' S S' c _ ⟨⟨xs, h1, h2⟩, ys, h3, h4⟩ af => ⟨⟨xs, sqT_ext af.ext h1, h2.ext af.ext⟩, ys, sqT_ext af.ext h3, h4.ext af.ext⟩
def nums (l : List P) : List P := prs ((List.range l.length).map fun i => .int (i : Nat)) l
theorem src_enumL {K : PySem.W.Frag} {a : Addr} {l : List P} : SrcI K (Ite K a) ⟨nums l, none⟩ (fun γ H => ∃ xs, SqL K (hid γ H) a xs ∧ IsA K (hid γ H) l xs) where
  goes := fun γ H i ⟨xs, h1, h2⟩ hi => by
    have hi' : i < l.length := by
      have q : i < (nums l).length := hi
      unfold nums at q
      rw [prs_len] at q
      simp at q
      exact q
    exact ⟨xs, xs[i]'(by rw [← h2.length]; exact hi'), sqL_hid h1, List.getElem?_eq_getElem _⟩
  stops := fun γ H ⟨xs, h1, h2⟩ => ⟨xs, sqL_hid h1, by
    show xs.length ≤ (nums l).length
    unfold nums
    rw [prs_len, ← h2.length]
    simp⟩
  yld := fun γ H S i p v H' c ⟨xs, h1, h2⟩ e y => by
    obtain ⟨T, x, rfl, n, rfl, f1⟩ := y
    obtain ⟨p1, p2, e1, e2, rfl⟩ := prs_get e
    obtain ⟨w1, g1, r1⟩ := h2.getV (f1 xs (sqL_hid h1))
    rw [e2] at g1
    cases g1
    have e3 : p1 = .int (i : Nat) := by
      rw [List.getElem?_map] at e1
      have hi : i < l.length := (List.getElem?_eq_some_iff.mp e2).1
      rw [List.getElem?_range hi] at e1
      cases e1
      rfl
    subst e3
    exact yld_pair c n (.int _) r1
  keep := fun γ β H H' S S' c _ ⟨xs, h1, h2⟩ af => ⟨xs, sqL_ext af.ext h1, h2.ext af.ext⟩
end Ev
end
section
set_option Elab.async false
set_option linter.all false
set_option maxRecDepth 100000
set_option maxHeartbeats 2000000
/-! enumerate(a tuple) -/
namespace PySem
open Sem (wp)
open AutoSeq1 (wpAny_loadPart')
theorem meets_enumerate_newT (l : Addr) (items : Array Value) (n : Nat) (dct : Option Addr) (sl : Array (Option Value)) :
    Meets (Builtin.«enumerate.__new__» ⟨[.type "enumerate", .ref l], []⟩) (fun _ R s => s.heap.get? l = some { cls := .type "tuple", dict := dct, data := .seq items n, slots := sl } ∧
      R (.ok (.ret (.ref (s.heap.push { cls := .type "tuple_iterator", data := .fields #[.ref l, .int 0 0] }).objs.size)))
        { s with heap := (s.heap.push { cls := .type "tuple_iterator", data := .fields #[.ref l, .int 0 0] }).push { cls := .type "enumerate", data := .fields #[.none, .bool false, .ref s.heap.objs.size, rawInt 0, .none, .none] } }) :=
  .of_wp fun prog w A R s h => by
    obtain ⟨hp, g, d, tk, os⟩ := s; obtain ⟨hl, h⟩ := h
    have hsub := sub_enumerate
    have hL : Heap.IsTuple (Shared.heap ⟨hp, g, d, tk, os⟩) l items := ⟨_, hl, rfl, n, rfl⟩
    wp_walk using wpAny_loadPart' hl
    refine wpAny_stack_any fun st => wpAny_pure ?_
    split
    · rename_i c _ _ _ _ _
      cases (c == Value.type "enumerate")
      · wp_walk using wpAny_loadPart' hl, wpAny_pyIter_tuple hL
        exact ⟨_, rfl, h⟩
      · wp_walk using wpAny_loadPart' hl, wpAny_pyIter_tuple hL
        exact ⟨_, rfl, h⟩
    · wp_walk using wpAny_loadPart' hl, wpAny_pyIter_tuple hL
      exact ⟨_, rfl, h⟩
theorem call_enumerate_tuple {prog : Program} {w : World} {A : Around} {E : Value → Shared → Prop} {s : Shared} {l : Addr} {items : Array Value} {Q : Value → Shared → Prop} (hL : s.heap.IsTuple l items)
    (h : ∀ h', IsEnum h' (s.heap.objs.size + 1) s.heap.objs.size 0 .none → h'.IsTupleIter s.heap.objs.size l 0 → h'.objs.size = s.heap.objs.size + 2 →
      (∀ b o, s.heap.get? b = some o → h'.get? b = some o) → Q (.ref (s.heap.objs.size + 1)) { s with heap := h' }) :
    wpAny (model prog w) A (call (.type "enumerate") [.ref l]) Q E s := by
  obtain ⟨⟨c, dct, dt, sl⟩, hl, hc, n, hd⟩ := hL
  replace hc : c = .type "tuple" := hc
  replace hd : dt = .seq items n := hd
  subst hc hd
  refine callType_new F.called_enumerate (by decide) (F.typeCall_enumerate_1 _) (F.newCall_enumerate_1 _) (fun obj => F.args_object_init_2 obj _) F.entry_enumerate_new
    (meets_enumerate_newT l items n dct sl) ⟨hl, ?_⟩
  have hz : (s.heap.push { cls := .type "tuple_iterator", data := .fields #[.ref l, .int 0 0] }).objs.size = s.heap.objs.size + 1 := Heap.size_push ..
  show _ ∧ _
  rw [hz]
  have he : IsEnum ((s.heap.push { cls := .type "tuple_iterator", data := .fields #[.ref l, .int 0 0] }).push
      { cls := .type "enumerate", data := .fields #[.none, .bool false, .ref s.heap.objs.size, rawInt 0, .none, .none] }) (s.heap.objs.size + 1) s.heap.objs.size 0 .none := by
    have := Heap.get?_push_size (s.heap.push { cls := .type "tuple_iterator", data := .fields #[.ref l, .int 0 0] })
      (o := { cls := .type "enumerate", data := .fields #[.none, .bool false, .ref s.heap.objs.size, rawInt 0, .none, .none] }) rfl
    rw [hz] at this; exact this
  refine ⟨⟨_, he, rfl⟩, h _ he ⟨_, Heap.get?_push_of_some _ (Heap.get?_push_size _ rfl), rfl, rfl⟩ (by rw [Heap.size_push, hz]) fun b o x => Heap.get?_push_of_some _ (Heap.get?_push_of_some _ x)⟩
theorem Draws.tuple {prog : Program} {w : World} {A : Around} (hh : A.handled = none) (it l : Addr) (hne : l ≠ it) (items : Array Value) :
    Draws prog w A it [it, l] items.size (fun i v => items[i]? = some v) (fun i h => h.IsTupleIter it l i ∧ h.IsTuple l items) where
  live := fun _ _ st => let ⟨o, ho, _⟩ := st.1; ⟨o, ho⟩
  frame := fun _ _ _ st hk => ⟨st.1.at fun o e => hk it (by simp) o e, let ⟨o, ho, r⟩ := st.2; ⟨o, hk l (by simp) o ho, r⟩⟩
  item := fun i s Q E hi st hQ => by
    refine RZ.nextOf_tuple_item st.1 st.2 (x := items[i]) (by simp [hi]) fun h' hit' hs' => ?_
    exact hQ _ h' s.toks (by simp [hi]) ⟨hit', st.2.extBut hs'.extBut hne⟩ hs'
  done := fun s Q E st hE => RZ.nextOf_tuple_end hh st.1 st.2 (by simp) hE
end PySem
namespace L2
open PySem PySem.Spec PyProof.Rows
/-- the tuple at a, each item in a new pair -/
def IteT (K : PySem.W.Frag) (a : Addr) (xs : List V) : It :=
  ⟨fun i H => SqT K H a xs ∧ ∃ x, xs[i]? = some x, fun i H v H' => ∃ T x, v = .ref T ∧ H T = none ∧ H' = upd H T (.tup [.int (i : Nat), x]) ∧ xs[i]? = some x, fun i H => SqT K H a xs ∧ xs.length = i⟩
theorem turn_enumT {P : Program} {w : World} {K : PySem.W.Frag} {elts : List Expr} {kk : Nat} {tpos : Pos} (a e it : Addr) (hai : a ≠ it) (hae : a ≠ e) (xs : List V) :
    Turn P w K (.Tuple elts kk tpos) (IteT K a xs) [e, it] e (fun i h => (∃ old, IsEnum h e it ((i : Nat) : Int) old) ∧ h.IsTupleIter it a i ∧ e ≠ it) where
  mem := by simp
  obj := fun i h st b hb => by
    obtain ⟨⟨old, he⟩, ⟨o, ho, hc, hd⟩, _⟩ := st
    have e' : b = e ∨ b = it := by simpa using hb
    rcases e' with z | z
    · rw [z]; exact ⟨_, he, fun v q => nomatch q⟩
    · rw [z]; exact ⟨o, ho, fun v q => by rw [hd] at q; cases q⟩
  keep := fun i h h' st k => let ⟨⟨old, he⟩, hi, hne⟩ := st; ⟨⟨old, k e (by simp) _ he⟩, hi.at fun o q => k it (by simp) o q, hne⟩
  item := by
    intro X hP hw hK hc i pins s σ H E I hf st hg
    subst hP hw hK
    obtain ⟨⟨old, he⟩, hit, hne⟩ := st
    obtain ⟨hq, x, hx⟩ := hg
    obtain ⟨its, rv, p, hz⟩ := I.tuple hq
    obtain ⟨u, hu, ru⟩ := rv.get hx
    have hel : e < s.heap.objs.size := Heap.lt_size he
    have hil : it < s.heap.objs.size := by obtain ⟨_, q, _⟩ := hit; exact Heap.lt_size q
    have hlt : i < its.toArray.size := by
      have := (List.getElem?_eq_some_iff.mp hu).1
      simpa using this
    have hh : X.A.in1.handled = none := I.ok.hd hc
    refine wpAny_pyNext_enum_itemD (Draws.tuple hh it a hai its.toArray) he ⟨hit, p⟩ hlt hne (by simp [hne, Ne.symm hae]) fun y h' tk hy ho hst' hT hsz hk => ?_
    have ey : y = u := by
      rw [List.getElem?_toArray, hu] at hy
      exact (Option.some.inj hy).symm
    subst ey
    refine ⟨_, rfl, wpAny_letOwnedTupleGo_enum (s := { s with heap := h', toks := tk + 1 }) ho fun h'' he' sb => ?_⟩
    have hT2 : h''.get? s.heap.objs.size = some { cls := .type "tuple", data := .seq #[.int i tk, y] } := (sb.2 _ (Nat.ne_of_gt hel)).trans hT
    have new : ObjOk X.prog X.w (upd H s.heap.objs.size (.tup [.int (i : Nat), x])) h'' s.heap.objs.size (.tup [.int (i : Nat), x]) :=
      ⟨by show 2 ≤ sizeLine; decide, [.int i tk, y], .cons ⟨_, rfl⟩ (.cons ru .nil), ⟨_, hT2, rfl, _, rfl⟩⟩
    have I1 : Inv X pins σ (upd H s.heap.objs.size (.tup [.int (i : Nat), x])) { s with heap := h'', toks := tk + 1 } :=
      I.turnedNew (ch := [e, it]) (fun b ob hb q => (sb.2 b (fun z => hb (by simp [z]))).trans (hk b ob (fun z => hb (by simp [z])) (fun z => hb (by simp [z])) q)) hf (Nat.le_refl _) new
    refine ⟨.ref s.heap.objs.size, _, I1, rfl, ⟨_, x, rfl, I.hok.fresh (Nat.le_refl _), rfl, hx⟩, ⟨⟨y, ?_⟩, hst'.1.at fun o q => (sb.2 it (Ne.symm hne)).trans q, hne⟩, fun b hb => ?_⟩
    · have e1 : ((i + 1 : Nat) : Int) = (i : Int) + 1 := by omega
      rw [e1]; exact he'
    · have hb' : b < s.heap.objs.size := by
        have e' : b = e ∨ b = it := by simpa using hb
        rcases e' with z | z
        · rw [z]; exact hel
        · rw [z]; exact hil
      rw [upd_ne (Nat.ne_of_lt hb')]
      exact (hf b hb).1
  done := by
    intro X hP hw hK hc i pins s σ H E I hf st hg
    subst hP hw hK
    obtain ⟨⟨old, he⟩, hit, hne⟩ := st
    obtain ⟨hq, hx⟩ := hg
    obtain ⟨its, rv, p, hz⟩ := I.tuple hq
    obtain ⟨f0, f1, f2, f3, f4, f5⟩ := hf it (by simp)
    have hl := rv.length
    have hh : X.A.in1.handled = none := I.ok.hd hc
    have hn : its.toArray.size = i := by simp; omega
    exact wpAny_pyNext_enum_endD (Draws.tuple hh it a hai its.toArray) he (by rw [hn]; exact ⟨hit, p⟩) fun h' eb => ⟨rfl, I.turned (t' := s.toks) (fun b o hb q => eb b o hb q) f0 f1 f3 f4 f5⟩
  self := fun A i s Q E st h => let ⟨⟨_, he⟩, _⟩ := st; wpAny_pyIter_enum he h

def iEnumB (K : PySem.W.Frag) (ta : TA) : TI := fun σ H R => ta σ H fun vs H1 => ∃ a xs, vs = [.ref a] ∧ ((SqL K H1 a xs ∧ R (Ite K a) H1) ∨ (SqT K H1 a xs ∧ R (IteT K a xs) H1))
theorem pi_enumB {X : Cx} {e : Expr} {ta : TA} {p pos tpos : Pos} {elts : List Expr} {kk : Nat} (hg : Gl X "enumerate") (hm : X.mg "enumerate" = none) (ha : PA X [e] ta) (hs : starEach [e] X.env = [(false, eval e X.env)] := by rfl) :
    PI X (.Tuple elts kk tpos) (.Call (.Name "enumerate" p) [e] [] pos) (iEnumB X.K ta) := by
  refine ⟨fun pins s σ H R I h => ?_⟩
  refine Call_ (ld_blt I hg hm boot_enumerate (PyProof.Rows.callWith_type1 (thn (ha.run pos pins s σ H _ I h) fun us s1 ⟨vs, H1, I1, r1, q1⟩ => ?_) hs rfl))
  obtain ⟨a, xs, ex, q1⟩ := q1
  subst ex
  cases r1 with
  | cons r rr =>
    cases rr
    cases r
    have fin : ∀ (h' : Heap), ∀ b ∈ [s1.heap.objs.size + 1, s1.heap.objs.size], FpOk X pins H1 b ∧ s1.heap.objs.size ≤ b := fun h' b hb => by
      have e' : b = s1.heap.objs.size + 1 ∨ b = s1.heap.objs.size := by simpa using hb
      have hle : s1.heap.objs.size ≤ b := by
        rcases e' with z | z
        · rw [z]; exact Nat.le_add_right _ _
        · rw [z]; exact Nat.le_refl _
      exact ⟨I1.fpOk hle (I1.hok.fresh hle), hle⟩
    rcases q1 with ⟨hq, q⟩ | ⟨hq, q⟩
    · obtain ⟨its, rv, p', hz⟩ := I1.list hq
      refine call_enumerate_list p'.isList fun h' he hit hsz hk => wpAny_pyIter_enum he ?_
      have I2 : Inv X pins σ H1 { s1 with heap := h' } := I1.kept (t' := s1.toks) hk
      exact ⟨s1.heap.objs.size + 1, [s1.heap.objs.size + 1, s1.heap.objs.size], _, _, H1, rfl, I2, turn_enum a (s1.heap.objs.size + 1) s1.heap.objs.size, ⟨⟨.none, he⟩, hit, Nat.succ_ne_self _⟩, fun b hb => (fin h' b hb).1, q⟩
    · obtain ⟨its, rv, p', hz⟩ := I1.tuple hq
      have hal : a < s1.heap.objs.size := by obtain ⟨_, q, _⟩ := p'; exact Heap.lt_size q
      refine call_enumerate_tuple p' fun h' he hit hsz hk => wpAny_pyIter_enum he ?_
      have I2 : Inv X pins σ H1 { s1 with heap := h' } := I1.kept (t' := s1.toks) hk
      exact ⟨s1.heap.objs.size + 1, [s1.heap.objs.size + 1, s1.heap.objs.size], _, _, H1, rfl, I2, turn_enumT a (s1.heap.objs.size + 1) s1.heap.objs.size (Nat.ne_of_lt hal) (Nat.ne_of_lt (Nat.lt_succ_of_lt hal)) xs, ⟨⟨.none, he⟩, hit, Nat.succ_ne_self _⟩, fun b hb => (fin h' b hb).1, q⟩
end L2
namespace Ev
open PySem PySem.Spec PyProof.Rows L2
theorem nums_len {l : List P} : (nums l).length = l.length := by
  unfold nums
  rw [prs_len]
  simp
theorem src_enumT {K : PySem.W.Frag} {a : Addr} {l : List P} {xs : List V} : SrcI K (IteT K a xs) ⟨nums l, none⟩ (fun γ H => SqT K (hid γ H) a xs ∧ IsA K (hid γ H) l xs) where
  goes := fun γ H i ⟨h1, h2⟩ hi => by
    have q : i < (nums l).length := hi
    rw [nums_len] at q
    exact ⟨sqT_hid h1, xs[i]'(by rw [← h2.length]; exact q), List.getElem?_eq_getElem _⟩
  stops := fun γ H ⟨h1, h2⟩ => ⟨sqT_hid h1, by
    show xs.length = (nums l).length
    rw [nums_len, ← h2.length]⟩
  yld := fun γ H S i p v H' c ⟨h1, h2⟩ e y => by
    obtain ⟨T, x, rfl, n, rfl, f1⟩ := y
    obtain ⟨p1, p2, e1, e2, rfl⟩ := prs_get e
    obtain ⟨w1, g1, r1⟩ := h2.getV f1
    rw [e2] at g1
    cases g1
    have e3 : p1 = .int (i : Nat) := by
      rw [List.getElem?_map] at e1
      have hi : i < l.length := (List.getElem?_eq_some_iff.mp e2).1
      rw [List.getElem?_range hi] at e1
      cases e1
      rfl
    subst e3
    exact yld_pair c n (.int _) r1
  keep := fun γ β H H' S S' c _ ⟨h1, h2⟩ af => ⟨sqT_ext af.ext h1, h2.ext af.ext⟩
end Ev
end
section
set_option Elab.async false
set_option linter.all false
set_option maxRecDepth 100000
set_option maxHeartbeats 1000000
/-! loops, comprehensions, statements -/
namespace Ev
open PySem PySem.Spec PyProof.Rows L2
theorem _root_.L2.PI.or {X : Cx} {tg e : Expr} {t t' : TI} (h : PI X tg e t) (h' : PI X tg e t') : PI X tg e (fun σ H R => t σ H R ∨ t' σ H R) := ⟨fun pins s σ H R I q => q.elim (h.run pins s σ H R I) (h'.run pins s σ H R I)⟩
section
variable {X : Cx} {W : XK} {pos : Pos}
def fSeq (a : FE) : FI := fun ρ S => (a ρ S).bind fun u S1 => match seqOf u S1 with
  | some q => some (.ok q S1)
  | none => none
/-- one reading for all that may be walked; what it is shows when it is known -/
theorem i_seq {tg e : Expr} {fa : FE} (ha : PE X e (tE X.K W fa)) : PI X tg e (tI X.K W (fSeq fa)) := by
  refine ⟨fun pins s σ H R I h => ?_⟩
  obtain ⟨ρ, α, S, hE, c, h⟩ := h
  -- which of the three ways is taken hangs on the value alone
  have key : (∃ u S1, fa ρ S = some (.ok u S1) ∧ ((∃ l, u = .p (.tup l)) ∨ (∃ z, u = .p (.str z)) ∨ (asListS u S1).isSome = true)) ∨ ∃ x S1, fa ρ S = some (.ex x S1) := by
    unfold fSeq at h
    cases e1 : fa ρ S with
    | none => rw [e1] at h; exact h.elim
    | some r =>
      cases r with
      | ex x S1 => exact .inr ⟨x, S1, rfl⟩
      | ok u S1 =>
        rw [e1] at h
        refine .inl ⟨u, S1, rfl, ?_⟩
        rw [bind_ok] at h
        cases u with
        | c n =>
          cases e2 : S1[n]? with
          | none =>
            have z : seqOf (.c n) S1 = none := by
              show (S1[n]?).map _ = none
              rw [e2]; rfl
            rw [z] at h
            exact h.elim
          | some l => exact .inr (.inr (by show (S1[n]?).isSome = true; rw [e2]; rfl))
        | p x =>
          cases x with
          | tup l => exact .inl ⟨l, rfl⟩
          | str z => exact .inr (.inl ⟨z, rfl⟩)
          | lst l => exact .inr (.inr rfl)
          | scr l => exact .inr (.inr rfl)
          | _ => exact h.elim
  have go : ∀ {P' : U → Sto → List Addr → Hp → Prop}, (∀ u S1 β H1, Aft X.K α H β H1 S1 → fa ρ S = some (.ok u S1) → (∀ q, seqOf u S1 = some q → PoI X.K R q S1 (α ++ β) H1) → P' u S1 (α ++ β) H1) → tG X.K W α H (fa ρ S) P' := fun {P'} f => by
    refine tG_mono (tG_bind c h) fun u S1 β H1 af em q => f u S1 β H1 af em fun q' eq => ?_
    rw [eq] at q
    exact tG_ok0 q (.refl af.cs)
  rcases key with ⟨u, S1, e1, hk⟩ | ⟨x, S1, e1⟩
  · rcases hk with ⟨l, rfl⟩ | ⟨z, rfl⟩ | hl
    · refine (pi_tup (tg := tg) ha).run pins s σ H R I ⟨ρ, α, S, hE, c, go fun u S2 β H1 af em q v hv => ?_⟩
      rw [e1] at em
      cases em
      cases hv with
      | tup h1 h2 => exact ⟨_, rfl, ⟨_, sqT_hid h1⟩, q _ rfl _ _ src_tup ⟨_, h1, h2⟩ fun n z => by cases z⟩
    · refine (pi_str (tg := tg) ha).run pins s σ H R I ⟨ρ, α, S, hE, c, go fun u S2 β H1 af em q v hv => ?_⟩
      rw [e1] at em
      cases em
      exact ⟨_, str_inv hv, q _ rfl _ _ src_str trivial fun n z => by cases z⟩
    · refine (pi_list (tg := tg) ha).run pins s σ H R I ⟨ρ, α, S, hE, c, go fun u' S2 β H1 af em q v hv => ?_⟩
      rw [e1] at em
      cases em
      cases u with
      | c n =>
        obtain ⟨a, h1, rfl⟩ := hv
        have hl : (S1[n]?).isSome = true := hl
        cases e2 : S1[n]? with
        | none => rw [e2] at hl; cases hl
        | some l =>
          obtain ⟨xs, h2, h3⟩ := af.cs.at_ n a l h1 e2
          exact ⟨a, rfl, ⟨_, .inl (.inl h2)⟩, q ⟨l, some n⟩ (by show (S1[n]?).map _ = _; rw [e2]; rfl) _ _ src_cell ⟨h1, xs, h2, h3⟩ fun m z => by cases z; exact e2⟩
      | p x =>
        cases x <;> first | (cases hl; done) | skip
        case lst l =>
          cases hv with
          | lst h1 h2 => exact ⟨_, rfl, ⟨_, .inl (.inl (hid_some h1).2)⟩, q _ rfl _ _ src_lst ⟨_, .inl (.inl h1), h2⟩ fun n z => by cases z⟩
        case scr l =>
          cases hv with
          | scr h1 => exact ⟨_, rfl, ⟨_, sqL_hid h1⟩, q _ rfl _ _ src_lst ⟨_, h1, IsA.ints l⟩ fun n z => by cases z⟩
  · refine (pi_list (tg := tg) ha).run pins s σ H R I ⟨ρ, α, S, hE, c, go fun u S2 β H1 af em q v hv => ?_⟩
    rw [e1] at em
    cases em
def rng1Of (us : List U) (_ : Sto) : Option Sq := match us with
  | [.p (.int j)] => if -(2 ^ 62) ≤ j ∧ j < 2 ^ 62 then some ⟨(List.range j.toNat).map fun i => .int (0 + (i : Nat)), none⟩ else none
  | _ => none
def rng2Of (us : List U) (_ : Sto) : Option Sq := match us with
  | [.p (.int i), .p (.int j)] => if -(2 ^ 62) ≤ i ∧ i < 2 ^ 62 ∧ -(2 ^ 62) ≤ j ∧ j < 2 ^ 62 then some ⟨(List.range (j - i).toNat).map fun k => .int (i + (k : Nat)), none⟩ else none
  | _ => none
def pureL (u : U) : Option (List P) := match u with
  | .p (.lst l) => some l
  | .p (.scr l) => some (l.map .int)
  | _ => none
def zipOf (us : List U) (_ : Sto) : Option Sq := match us with
  | [a, b] => (match pureL a, pureL b with
    | some l, some m => some ⟨prs l m, none⟩
    | _, _ => match asTup a, asTup b with
      | some l, some m => some ⟨prs l m, none⟩
      | _, _ => none)
  | _ => none
def enumOf (us : List U) (_ : Sto) : Option Sq := match us with
  | [a] => (match pureL a with
    | some l => some ⟨nums l, none⟩
    | none => (match asTup a with
      | some l => some ⟨nums l, none⟩
      | none => none))
  | _ => none
theorem pureL_ok {K : PySem.W.Frag} {α : List Addr} {G : Hp} {u : U} {v : V} {l : List P} (h : IsU K α G u v) (e : pureL u = some l) : ∃ a xs, v = .ref a ∧ SqL K G a xs ∧ IsA K G l xs := by
  unfold pureL at e
  split at e
  · cases e
    cases h with
    | lst h1 h2 => exact ⟨_, _, rfl, .inl (.inl h1), h2⟩
  · cases e
    cases h with
    | scr h1 => exact ⟨_, _, rfl, h1, IsA.ints _⟩
  · cases e
def fAll (g : List U → Sto → Option Sq) (l : FA) : FI := fun ρ S => (l ρ S).bind fun us S1 => match g us S1 with
  | some q => some (.ok q S1)
  | none => none
theorem all_go {fl : FA} {g : List U → Sto → Option Sq} {σ : L2.St} {H : Hp} {R : It → Hp → Prop} {Q : List V → Hp → Prop} (h : tI X.K W (fAll g fl) σ H R)
    (f : ∀ vs H1 α S us q, Cs X.K H1 α S → IsUs X.K α (hid α H1) us vs → g us S = some q → PoI X.K R q S α H1 → Q vs H1) : tA X.K W fl σ H Q := by
  obtain ⟨ρ, α, S, hE, c, h⟩ := h
  refine ⟨ρ, α, S, hE, c, step c hE h fun us S1 β H1 af hE1 c1 h1 vs hvs => ?_⟩
  cases e : g us S1 with
  | none => rw [e] at h1; exact h1.elim
  | some q => rw [e] at h1; exact f vs H1 _ S1 us q c1 hvs e (tG_ok0 h1 (.refl c1))
theorem i_rng1 {tg a : Expr} {fl : FA} {p : Pos} (hg : Gl X "range") (hm : X.mg "range" = none) (hs : noStar a = true) (ha : PA X [a] (tA X.K W fl)) : PI X tg (.Call (.Name "range" p) [a] [] pos) (tI X.K W (fAll rng1Of fl)) :=
  (pi_range1 (tg := tg) (p := p) (pos := pos) hg hm ha (star_cons hs)).weak fun σ H R h => all_go h fun vs H1 α S us q c hvs e q0 => by
    unfold rng1Of at e
    split at e
    · split at e
      · rename_i hj
        cases e
        obtain ⟨v, rfl, hv⟩ := us1 hvs
        exact ⟨_, by rw [int_inv hv], hj.1, hj.2, q0 _ _ src_rng trivial fun n z => by cases z⟩
      · cases e
    · cases e
theorem i_rng2 {tg a b : Expr} {fl : FA} {p : Pos} (hg : Gl X "range") (hm : X.mg "range" = none) (hs : noStar a = true) (hs2 : noStar b = true) (ha : PA X [a, b] (tA X.K W fl)) : PI X tg (.Call (.Name "range" p) [a, b] [] pos) (tI X.K W (fAll rng2Of fl)) :=
  (pi_range2 (tg := tg) (p := p) (pos := pos) hg hm ha (by rw [star_cons hs, star_cons hs2]; rfl) (star_cons hs2)).weak fun σ H R h => all_go h fun vs H1 α S us q c hvs e q0 => by
    unfold rng2Of at e
    split at e
    · split at e
      · rename_i hj
        cases e
        obtain ⟨v, w, rfl, hv, hw⟩ := us2 hvs
        exact ⟨_, _, by rw [int_inv hv, int_inv hw], hj, q0 _ _ src_rng trivial fun n z => by cases z⟩
      · cases e
    · cases e
theorem i_zip {elts : List Expr} {kk : Nat} {tpos : Pos} {a b : Expr} {fl : FA} {p : Pos} (hg : Gl X "zip") (hm : X.mg "zip" = none) (hs : noStar a = true) (hs2 : noStar b = true) (ha : PA X [a, b] (tA X.K W fl)) : PI X (.Tuple elts kk tpos) (.Call (.Name "zip" p) [a, b] [] pos) (tI X.K W (fAll zipOf fl)) :=
  (RZ.pi_zipA (p := p) (pos := pos) hg hm ha (star_cons hs) (back_any (by simp [hs2]))).weak fun σ H R h => all_go h fun vs H1 α S us q c hvs e q0 => by
    unfold zipOf at e
    split at e
    · rename_i u w
      obtain ⟨x, y, rfl, hx, hy⟩ := us2 hvs
      split at e
      · rename_i l m e1 e2
        cases e
        obtain ⟨a1, xs, rfl, h1, h2⟩ := pureL_ok hx e1
        obtain ⟨a2, ys, rfl, h3, h4⟩ := pureL_ok hy e2
        exact ⟨a1, a2, xs, ys, rfl, .inl ⟨sqL_hid h1, sqL_hid h3, q0 _ _ src_zipL ⟨⟨xs, h1, h2⟩, ys, h3, h4⟩ fun n z => by cases z⟩⟩
      · split at e
        · rename_i l m e1 e2
          cases e
          have ex := asTup_inv e1
          have ey := asTup_inv e2
          subst ex ey
          cases hx with
          | tup h1 h2 =>
            cases hy with
            | tup h3 h4 => exact ⟨_, _, _, _, rfl, .inr ⟨sqT_hid h1, sqT_hid h3, q0 _ _ src_zipT ⟨⟨_, h1, h2⟩, _, h3, h4⟩ fun n z => by cases z⟩⟩
        · cases e
    · cases e
theorem i_enum {elts : List Expr} {kk : Nat} {tpos : Pos} {a : Expr} {fl : FA} {p : Pos} (hg : Gl X "enumerate") (hm : X.mg "enumerate" = none) (hs : noStar a = true) (ha : PA X [a] (tA X.K W fl)) : PI X (.Tuple elts kk tpos) (.Call (.Name "enumerate" p) [a] [] pos) (tI X.K W (fAll enumOf fl)) :=
  (pi_enumB (p := p) (pos := pos) hg hm ha (by rw [star_cons hs]; rfl)).weak fun σ H R h => all_go h fun vs H1 α S us q c hvs e q0 => by
    unfold enumOf at e
    split at e
    · rename_i u
      obtain ⟨x, rfl, hx⟩ := us1 hvs
      split at e
      · rename_i l e1
        cases e
        obtain ⟨a1, xs, rfl, h1, h2⟩ := pureL_ok hx e1
        exact ⟨a1, xs, rfl, .inl ⟨sqL_hid h1, q0 _ _ src_enumL ⟨xs, h1, h2⟩ fun n z => by cases z⟩⟩
      · split at e
        · rename_i l e2
          cases e
          have ex := asTup_inv e2
          subst ex
          cases hx with
          | tup h1 h2 => exact ⟨_, _, rfl, .inr ⟨sqT_hid h1, q0 _ _ src_enumT ⟨h1, h2⟩ fun n z => by cases z⟩⟩
        · cases e
    · cases e
/-! ### statements -/
inductive Out where
  | nx (ρ : En) | rt (u : U) | bk (ρ : En) | ct (ρ : En)
abbrev FS := En → Sto → M Out
def PoS (K : PySem.W.Frag) (D : Ends) : Out → Sto → List Addr → Hp → Prop := fun o _ γ H' => match o with
  | .nx ρ => ∀ σ, IsE K γ (hid γ H') ρ σ → D.nx σ H'
  | .bk ρ => ∀ σ, IsE K γ (hid γ H') ρ σ → D.bk σ H'
  | .ct ρ => ∀ σ, IsE K γ (hid γ H') ρ σ → D.ct σ H'
  | .rt u => ∀ v, IsU K γ (hid γ H') u v → D.rt v H'
def tS (K : PySem.W.Frag) (W : XK) (f : FS) : TS := fun D σ H => ∃ ρ α S, IsE K α (hid α H) ρ σ ∧ Cs K H α S ∧ tG K W α H (f ρ S) (PoS K D)
def forL (tg : Tg) (body : FS) (q : Sq) : List P → FS
  | [], ρ, S => some (.ok (.nx ρ) S)
  | x :: r, ρ, S => match asg tg x ρ with
    | none => none
    | some ρ1 => (body ρ1 S).bind fun o S2 => match o with
      | .nx ρ2 => if srcOk q S2 then forL tg body q r ρ2 S2 else none
      | .ct ρ2 => if srcOk q S2 then forL tg body q r ρ2 S2 else none
      | .bk ρ2 => some (.ok (.nx ρ2) S2)
      | .rt u => some (.ok (.rt u) S2)
def fFor (tg : Tg) (it : FI) (body : FS) : FS := fun ρ S => (it ρ S).bind fun q S1 => forL tg body q q.items ρ S1
theorem for_go {tg : Tg} {body : FS} {q : Sq} {J : It} {St : List Addr → Hp → Prop} {D : Ends} {σ : L2.St} {H : Hp} {ρ : En} {γ : List Addr} {S : Sto} (src : SrcI X.K J q St) (hE : IsE X.K γ (hid γ H) ρ σ) (c : Cs X.K H γ S) (hS : St γ H) (so0 : srcOk q S)
    (h : tG X.K W γ H (forL tg body q q.items ρ S) (PoS X.K D)) :
    ∃ Wf : Nat → Nat → L2.St → Hp → Prop, (∃ m, Wf 0 m σ H) ∧ ∀ i m σ H, Wf i m σ H →
      (J.stop i H ∧ D.nx σ H) ∨ (J.go i H ∧ ∃ N : L2.St → Hp → Prop, (∀ σ' H', N σ' H' → ∃ m', m' < m ∧ Wf (i + 1) m' σ' H') ∧ ∀ x H', J.yld i H x H' → gOf X.K tg x σ H' fun σ2 H2 => tS X.K W body { D with nx := N, ct := N, bk := D.nx } σ2 H2) := by
  refine ⟨fun i m σ H => m = q.items.length - i ∧ i ≤ q.items.length ∧ ∃ ρ γ S, IsE X.K γ (hid γ H) ρ σ ∧ Cs X.K H γ S ∧ St γ H ∧ srcOk q S ∧ tG X.K W γ H (forL tg body q (q.items.drop i) ρ S) (PoS X.K D), ⟨_, rfl, Nat.zero_le _, ρ, γ, S, hE, c, hS, so0, h⟩, ?_⟩
  rintro i m σ H ⟨rfl, hi, ρ, γ, S, hE, c, hS, so0, h⟩
  by_cases hlt : i < q.items.length
  · refine .inr ⟨src.goes γ H i hS hlt, fun σ' H' => i + 1 ≤ q.items.length ∧ ∃ ρ γ S, IsE X.K γ (hid γ H') ρ σ' ∧ Cs X.K H' γ S ∧ St γ H' ∧ srcOk q S ∧ tG X.K W γ H' (forL tg body q (q.items.drop (i + 1)) ρ S) (PoS X.K D), fun σ' H' ⟨h1, h2⟩ => ⟨q.items.length - (i + 1), by omega, rfl, h1, h2⟩, fun v H' y => ?_⟩
    have e1 : q.items[i]? = some q.items[i] := List.getElem?_eq_getElem hlt
    obtain ⟨af, hv⟩ := src.yld γ H S i _ v H' c hS e1 y
    rw [List.drop_eq_getElem_cons hlt] at h
    unfold forL at h
    cases e2 : asg tg q.items[i] ρ with
    | none => rw [e2] at h; exact h.elim
    | some ρ1 =>
      rw [e2] at h
      have c1 := af.cs0
      have hE1 : IsE X.K γ (hid γ H') ρ σ := by
        have z := hE.aft af
        rwa [List.append_nil] at z
      have h1 := tG_aft c af h
      rw [List.append_nil] at h1
      have hS1 : St γ H' := by
        have z := src.keep γ [] H H' S S c so0 hS af
        rwa [List.append_nil] at z
      refine g_go tg _ v ρ ρ1 σ _ e2 hE1 hv fun σ2 hE2 _ _ => ⟨ρ1, γ, S, hE2, c1, tG_mono (tG_bind c1 h1) fun o S2 β H2 af2 _ k => ?_⟩
      cases o with
      | nx ρ2 =>
        intro σ3 hE3
        dsimp only at k
        split at k
        · rename_i so
          exact ⟨hlt, ρ2, _, S2, hE3, af2.cs, src.keep _ _ _ _ S S2 c1 so hS1 af2, so, k⟩
        · exact k.elim
      | ct ρ2 =>
        intro σ3 hE3
        dsimp only at k
        split at k
        · rename_i so
          exact ⟨hlt, ρ2, _, S2, hE3, af2.cs, src.keep _ _ _ _ S S2 c1 so hS1 af2, so, k⟩
        · exact k.elim
      | bk ρ2 => exact fun σ3 hE3 => tG_ok0 k (.refl af2.cs) σ3 hE3
      | rt u => exact fun v hv => tG_ok0 k (.refl af2.cs) v hv
  · have e : i = q.items.length := by omega
    subst e
    rw [List.drop_length] at h
    exact .inl ⟨src.stops γ H hS, tG_ok0 h (.refl c) σ hE⟩
def noSet : Expr → Bool
  | .Set _ _ _ => false
  | _ => true
theorem set_free {e : Expr} {env : Env} (h : noSet e = true) : ∀ x, foldedSetIterable e env x = pure x := by
  intro x
  cases e <;> first | rfl | (cases h; done)
theorem s_for {tg it : Expr} {body : List Stmt} {t : Tg} {fi : FI} {fb : FS} (hp : PassesOwn (model X.prog X.w) X.A X.env X.xe) (hc : X.calm = true) (hn : noSet it = true) (hi : PI X tg it (tI X.K W fi)) (hg : PG X tg (gOf X.K t)) (hb : PSs X body (tS X.K W fb)) :
    PS X (.For tg it body [] pos) (tS X.K W (fFor t fi fb)) :=
  (ps_for hp hc hi hg hb (set_free hn)).weak fun D σ H ⟨ρ, α, S, hE, c, h⟩ => ⟨ρ, α, S, hE, c, step c hE h fun q S1 β H1 af hE1 c1 h1 J St src hS so => for_go src hE1 c1 hS so h1⟩
/-- a while, its turns counted -/
def whlL (t : FT) (body : FS) : Nat → FS
  | 0, _, _ => none
  | k + 1, ρ, S => (t ρ S).bind fun b S1 => if b = true then (body ρ S1).bind fun o S2 => (match o with
      | .nx ρ2 => whlL t body k ρ2 S2
      | .ct ρ2 => whlL t body k ρ2 S2
      | .bk ρ2 => some (.ok (.nx ρ2) S2)
      | .rt u => some (.ok (.rt u) S2)) else some (.ok (.nx ρ) S1)
/-- so many turns as are needed: n of them do -/
def fWhl (n : Nat) (t : FT) (body : FS) : FS := whlL t body n
theorem s_while {c : Expr} {body : List Stmt} {ft : FT} {fb : FS} (n : Nat) (hp : PassesOwn (model X.prog X.w) X.A X.env X.xe) (ht : PT X c (tT X.K W ft)) (hb : PSs X body (tS X.K W fb)) : PS X (.While c body [] pos) (tS X.K W (fWhl n ft fb)) :=
  (ps_while hp ht hb).weak fun D σ H ⟨ρ, α, S, hE, c, h⟩ => by
    refine ⟨fun m σ H => ∃ ρ α S, IsE X.K α (hid α H) ρ σ ∧ Cs X.K H α S ∧ tG X.K W α H (whlL ft fb m ρ S) (PoS X.K D), ⟨n, ρ, α, S, hE, c, h⟩, ?_⟩
    rintro m σ H ⟨ρ, α, S, hE, c, h⟩
    cases m with
    | zero => exact h.elim
    | succ m =>
      refine ⟨ρ, α, S, hE, c, step c hE h fun b S1 β H1 af hE1 c1 h1 => ?_⟩
      show if b = true then _ else _
      cases b with
      | false => exact tG_ok0 h1 (.refl c1) σ hE1
      | true =>
        rw [if_pos rfl] at h1
        rw [if_pos rfl]
        refine ⟨fun σ' H' => ∃ ρ α S, IsE X.K α (hid α H') ρ σ' ∧ Cs X.K H' α S ∧ tG X.K W α H' (whlL ft fb m ρ S) (PoS X.K D), fun σ' H' h => ⟨m, Nat.lt_succ_self m, h⟩, ρ, _, S1, hE1, c1, tG_mono (tG_bind c1 h1) fun o S2 β2 H2 af2 _ k => ?_⟩
        cases o with
        | nx ρ2 => exact fun σ3 hE3 => ⟨ρ2, _, S2, hE3, af2.cs, k⟩
        | ct ρ2 => exact fun σ3 hE3 => ⟨ρ2, _, S2, hE3, af2.cs, k⟩
        | bk ρ2 => exact fun σ3 hE3 => tG_ok0 k (.refl af2.cs) σ3 hE3
        | rt u => exact fun v hv => tG_ok0 k (.refl af2.cs) v hv
end
end Ev
end
section
set_option Elab.async false
set_option linter.all false
set_option maxRecDepth 100000
set_option maxHeartbeats 1000000
/-! statements, defs -/
namespace Ev
open PySem PySem.Spec PyProof.Rows L2
def fNext : FS := fun ρ S => some (.ok (.nx ρ) S)
def fSeqS (a b : FS) : FS := fun ρ S => (a ρ S).bind fun o S1 => match o with
  | .nx ρ1 => b ρ1 S1
  | o => some (.ok o S1)
def fRet (a : FE) : FS := fun ρ S => (a ρ S).bind fun u S1 => some (.ok (.rt u) S1)
def fRetN : FS := fun _ S => some (.ok (.rt (.p .non)) S)
def fIf (t : FT) (a b : FS) : FS := fun ρ S => (t ρ S).bind fun c S1 => if c = true then a ρ S1 else b ρ S1
def fSet (i : Nat) (a : FE) : FS := fun ρ S => (a ρ S).bind fun u S1 => some (.ok (.nx (ρ.set i (some u))) S1)
def fAsg (t : Tg) (a : FE) : FS := fun ρ S => (a ρ S).bind fun u S1 => match u with
  | .p x => (match asg t x ρ with
    | some ρ1 => some (.ok (.nx ρ1) S1)
    | none => none)
  | .c _ => none
def fDrop (a : FE) : FS := fun ρ S => (a ρ S).bind fun _ S1 => some (.ok (.nx ρ) S1)
def fPar (i j : Nat) (l : FA) : FS := fun ρ S => (l ρ S).bind fun us S1 => match us with
  | [u, w] => some (.ok (.nx ((ρ.set i (some u)).set j (some w))) S1)
  | _ => none
section
variable {X : Cx} {W : XK} {pos : Pos}
theorem ss_nil : PSs X [] (tS X.K W fNext) := pss_nil.weak fun D σ H ⟨ρ, α, S, hE, c, h⟩ => tG_ok0 h (.refl c) σ hE
theorem ss_cons {st : Stmt} {sts : List Stmt} {fa fb : FS} (ha : PS X st (tS X.K W fa)) (hb : PSs X sts (tS X.K W fb)) : PSs X (st :: sts) (tS X.K W (fSeqS fa fb)) :=
  (pss_cons ha hb).weak fun D σ H ⟨ρ, α, S, hE, c, h⟩ => ⟨ρ, α, S, hE, c, tG_mono (tG_bind c h) fun o S1 β H1 af _ k => by
    cases o with
    | nx ρ1 => exact fun σ1 hE1 => ⟨ρ1, _, S1, hE1, af.cs, k⟩
    | rt u => exact fun v hv => tG_ok0 k (.refl af.cs) v hv
    | bk ρ1 => exact fun σ1 hE1 => tG_ok0 k (.refl af.cs) σ1 hE1
    | ct ρ1 => exact fun σ1 hE1 => tG_ok0 k (.refl af.cs) σ1 hE1⟩
theorem s_pass : PS X (.Pass pos) (tS X.K W fNext) := ps_pass.weak fun D σ H ⟨ρ, α, S, hE, c, h⟩ => tG_ok0 h (.refl c) σ hE
theorem s_break : PS X (.Break pos) (tS X.K W fun ρ S => some (.ok (.bk ρ) S)) := ps_break.weak fun D σ H ⟨ρ, α, S, hE, c, h⟩ => tG_ok0 h (.refl c) σ hE
theorem s_cont : PS X (.Continue pos) (tS X.K W fun ρ S => some (.ok (.ct ρ) S)) := ps_continue.weak fun D σ H ⟨ρ, α, S, hE, c, h⟩ => tG_ok0 h (.refl c) σ hE
theorem s_ret {e : Expr} {fa : FE} (ha : PE X e (tE X.K W fa)) : PS X (.Return (some e) pos) (tS X.K W (fRet fa)) :=
  (ps_ret ha).weak fun D σ H ⟨ρ, α, S, hE, c, h⟩ => ⟨ρ, α, S, hE, c, step c hE h fun u S1 β H1 af hE1 c1 h1 v hv => tG_ok0 h1 (.refl c1) v hv⟩
theorem s_retN : PS X (.Return none pos) (tS X.K W fRetN) := ps_retN.weak fun D σ H ⟨ρ, α, S, hE, c, h⟩ => tG_ok0 h (.refl c) _ .non
theorem s_if {e : Expr} {a b : List Stmt} {ft : FT} {fa fb : FS} (ht : PT X e (tT X.K W ft)) (ha : PSs X a (tS X.K W fa)) (hb : PSs X b (tS X.K W fb)) : PS X (.If e a b pos) (tS X.K W (fIf ft fa fb)) :=
  (ps_if ht ha hb).weak fun D σ H ⟨ρ, α, S, hE, c, h⟩ => ⟨ρ, α, S, hE, c, step c hE h fun x S1 β H1 af hE1 c1 h1 => by
    show if x = true then _ else _
    cases x with
    | true => rw [if_pos rfl]; exact ⟨ρ, _, S1, hE1, c1, h1⟩
    | false => rw [if_neg (by decide)]; exact ⟨ρ, _, S1, hE1, c1, h1⟩⟩
/-- no comprehension -/
def noComp : Expr → Bool
  | .ListComp _ _ _ _ => false
  | .SetComp _ _ _ _ => false
  | .DictComp _ _ _ _ _ => false
  | _ => true
theorem comp_free {e : Expr} {t : Option Expr} {l : Nat} {env : Env} (h : noComp e = true) : swapsWith e t l env = pure false := by
  cases e <;> first | rfl | (cases h; done)
theorem s_set {i : Nat} {x : Str} {e : Expr} {fa : FE} {p : Pos} (hN : X.N.Nodup) (hi : X.N[i]? = some x) (hx : Loc X.env.scope x) (hf : X.fn x = true ∨ X.env.scope.names.lookup x = some .local) (hn : noComp e = true) (ha : PE X e (tE X.K W fa)) : PS X (.Assign [.Name x p] e pos) (tS X.K W (fSet i fa)) :=
  (ps_set hN hi hx ha (comp_free hn) hf).weak fun D σ H ⟨ρ, α, S, hE, c, h⟩ => ⟨ρ, α, S, hE, c, step c hE h fun u S1 β H1 af hE1 c1 h1 v hv => tG_ok0 h1 (.refl c1) _ (hE1.set i hv)⟩
theorem s_asg {t e : Expr} {tg : Tg} {fa : FE} (ha : PE X e (tE X.K W fa)) (hg : PG X t (gOf X.K tg)) (hs : swapsWithSole [t] e pos.line X.env = pure false) (hw : swappedStores [t] e X.env = pure none) (h1 : (assignEach [t] X.env).map (·.2) = [assign t X.env]) : PS X (.Assign [t] e pos) (tS X.K W (fAsg tg fa)) :=
  (ps_asg ha hg hs hw h1).weak fun D σ H ⟨ρ, α, S, hE, c, h⟩ => ⟨ρ, α, S, hE, c, step c hE h fun u S1 β H1 af hE1 c1 h1 v hv => by
    cases u with
    | c n => exact h1.elim
    | p x =>
      dsimp only at h1
      cases e1 : asg tg x ρ with
      | none => rw [e1] at h1; exact h1.elim
      | some ρ1 =>
        rw [e1] at h1
        exact g_go tg x v ρ ρ1 σ _ e1 hE1 hv fun σ2 hE2 _ _ => tG_ok0 h1 (.refl c1) σ2 hE2⟩
theorem s_drop {e : Expr} {fa : FE} (hn : noComp e = true) (ha : PE X e (tE X.K W fa)) : PS X (.Expr e pos) (tS X.K W (fDrop fa)) :=
  (ps_expr ha (comp_free hn)).weak fun D σ H ⟨ρ, α, S, hE, c, h⟩ => ⟨ρ, α, S, hE, c, step c hE h fun u S1 β H1 af hE1 c1 h1 v hv => tG_ok0 h1 (.refl c1) σ hE1⟩
theorem s_par {i j : Nat} {x y : Str} {a b : Expr} {fl : FA} {px py pt : Pos} {kt k2 : Nat} {pt2 : Pos} (hc : X.calm = true) (hN : X.N.Nodup) (hi : X.N[i]? = some x) (hj : X.N[j]? = some y) (hij : i ≠ j)
    (hx : X.env.scope.names.lookup x = some .local) (hy : X.env.scope.names.lookup y = some .local) (ha : PA X [a, b] (tA X.K W fl))
    (hw : swappedStores [.Tuple [.Name x px, .Name y py] kt pt] (.Tuple [a, b] k2 pt2) X.env = pure (some [x, y])) (hs : swapsWithSole [.Tuple [.Name x px, .Name y py] kt pt] (.Tuple [a, b] k2 pt2) pos.line X.env = pure false) :
    PS X (.Assign [.Tuple [.Name x px, .Name y py] kt pt] (.Tuple [a, b] k2 pt2) pos) (tS X.K W (fPar i j fl)) :=
  (ps_par hc hN hi hj hij hx hy ha hw hs).weak fun D σ H ⟨ρ, α, S, hE, c, h⟩ => ⟨ρ, α, S, hE, c, step c hE h fun us S1 β H1 af hE1 c1 h1 vs hvs => by
    split at h1
    · obtain ⟨v, w, rfl, hv, hw⟩ := us2 hvs
      exact ⟨v, w, rfl, tG_ok0 h1 (.refl c1) _ ((hE1.set i hv).set j hw)⟩
    · exact h1.elim⟩
/-! ### stores into a list -/
/-- the cell n holds l now -/
theorem cell_set {K : PySem.W.Frag} {α : List Addr} {H : Hp} {S : Sto} (c : Cs K H α S) {n : Nat} {a : Addr} (ha : α[n]? = some a) {l : List P} {xs : List V} (h : IsA K (hid α H) l xs) : Aft K α H [] (upd H a (.lst xs)) (S.set n l) := by
  have hin : a ∈ α := List.mem_of_getElem? ha
  have ex : Ext (hid α H) (hid α (upd H a (.lst xs))) := fun b o e => by
    obtain ⟨h1, h2, h3⟩ := hid_all e
    have hb : b ≠ a := fun z => h1 (by rw [z]; exact hin)
    exact hid_out h1 (by rw [upd_ne hb]; exact h2) h3
  refine .mk3 c (fun b o e hb => by rw [upd_ne (fun z => hb (by rw [z]; exact hin))]; exact e) (fun b hb => absurd hb (by simp)) ?_
  rw [List.append_nil]
  refine ⟨c.nd, by simp [c.len], fun i b m h1 h2 => ?_, c.tabs (fun b o e hb => by rw [upd_ne (fun z => hb (by rw [z]; exact hin))]; exact e) c.tb⟩
  by_cases hi : n = i
  · subst hi
    rw [ha] at h1
    cases h1
    have hn : n < S.length := by rw [← c.len]; exact (List.getElem?_eq_some_iff.mp ha).1
    rw [List.getElem?_set_self hn] at h2
    cases h2
    exact ⟨xs, upd_same, h.ext ex⟩
  · rw [List.getElem?_set_ne hi] at h2
    obtain ⟨ys, h3, h4⟩ := c.at_ i b m h1 h2
    refine ⟨ys, ?_, h4.ext ex⟩
    have hb : b ≠ a := fun z => by
      subst z
      have q1 := (List.getElem?_eq_some_iff.mp ha)
      have q2 := (List.getElem?_eq_some_iff.mp h1)
      obtain ⟨l1, e1⟩ := q1
      obtain ⟨l2, e2⟩ := q2
      exact hi ((List.getElem_inj c.nd).mp (e1.trans e2.symm))
    rw [upd_ne hb]
    exact h3
def appC (n : Nat) (y : U) (S : Sto) : M U := match y with
  | .p z => (match S[n]? with
    | some l => if l.length < 1000000 then some (.ok (.p .non) (S.set n (l ++ [z]))) else none
    | none => none)
  | _ => none
def fAppend (a b : FE) : FE := fun ρ S => (a ρ S).bind fun x S1 => match x with
  | .c n => (b ρ S1).bind fun y S2 => appC n y S2
  | .p _ => none
/-- not super() -/
def noSuper : Expr → Bool
  | .Call (.Name _ _) [] [] _ => false
  | _ => true
theorem base_free {o : Expr} {attr : Str} {env : Env} {w : Sem Value} (h : noSuper o = true) : attributeBase o attr env w = w := by
  unfold attributeBase
  split
  · cases h
  · rfl
theorem e_append {o e : Expr} {fo fa : FE} {apos : Pos} (hs : noSuper o = true) (hl : (apos.endLine == pos.line) = true) (hn : noStar e = true) (ho : PE X o (tE X.K W fo)) (ha : PE X e (tE X.K W fa)) :
    PE X (.Call (.Attribute o "append" apos) [e] [] pos) (tE X.K W (fAppend fo fa)) := by
  have hA : PA X [e] (tCons (tE X.K W fa) tNil) := pa_cons ha pa_nil (star_cons hn)
  refine (pe_bm PySem.F.plainAttrs_list PySem.F.slot_list_append PySem.F.type_list_append mt_append ho hA (base_free hs) (by rw [star_cons hn]; rfl) hl (star_cons hn) rfl).weak fun σ H Q ⟨ρ, α, S, hE, c, h⟩ => ?_
  refine ⟨ρ, α, S, hE, c, step c hE h fun x S1 β H1 af hE1 c1 h1 v hv => ?_⟩
  cases x with
  | p x => exact h1.elim
  | c n =>
    obtain ⟨a, ea, rfl⟩ := hv
    have hn1 : n < S1.length := by rw [← c1.len]; exact (List.getElem?_eq_some_iff.mp ea).1
    obtain ⟨xs, hx, _⟩ := c1.at_ n a _ ea (List.getElem?_eq_getElem hn1)
    refine ⟨.inl ⟨rfl, xs, .inl (.inl hx)⟩, ρ, _, S1, hE1, c1, step c1 hE1 h1 fun y S2 β2 H2 af2 hE2 c2 h2 w hw => ?_⟩
    have ea2 : ((α ++ β) ++ β2)[n]? = some a := by rw [List.getElem?_append_left (List.getElem?_eq_some_iff.mp ea).1]; exact ea
    cases y with
    | c m => exact h2.elim
    | p z =>
      cases e1 : S2[n]? with
      | none =>
        have h3 : tG X.K W ((α ++ β) ++ β2) H2 (match S2[n]? with
          | some l => if l.length < 1000000 then some (.ok (.p .non) (S2.set n (l ++ [z]))) else none
          | none => none) (PoE X.K Q) := h2
        rw [e1] at h3
        exact h3.elim
      | some l =>
        have h3 : tG X.K W ((α ++ β) ++ β2) H2 (match S2[n]? with
          | some l => if l.length < 1000000 then some (.ok (.p .non) (S2.set n (l ++ [z]))) else none
          | none => none) (PoE X.K Q) := h2
        rw [e1] at h3
        dsimp only at h3
        split at h3
        · rename_i hz
          obtain ⟨ys, hy, hA2⟩ := c2.at_ n a l ea2 e1
          refine ⟨a, ys, w, rfl, rfl, hy, ?_, tG_ok0 h3 (cell_set c2 ea2 (hA2.append (.cons hw .nil))) _ .non⟩
          rw [← hA2.length, sizeLine_eq]
          omega
        · exact h3.elim
/-- x[i] = e: e, then x, then i -/
def setC (x i : U) (z : P) (S : Sto) : Option Sto := match x, i with
  | .c n, .p (.int k) => (match S[n]? with
    | some l => (match ixN l.length k with
      | some j => some (S.set n (l.set j z))
      | none => none)
    | none => none)
  | _, _ => none
theorem setC_ok {K : PySem.W.Frag} {α : List Addr} {H : Hp} {S S' : Sto} (c : Cs K H α S) {x i : U} {z : P} {o k v : V} (hx : IsU K α (hid α H) x o) (hi : IsU K α (hid α H) i k) (hz : Is K (hid α H) z v) (e : setC x i z S = some S') {Q : Hp → Prop}
    (q : ∀ H', Aft K α H [] H' S' → Q H') : rSetL o k v H Q := by
  unfold setC at e
  split at e
  · rename_i n j0
    obtain ⟨a, ea, rfl⟩ := hx
    have e1 := int_inv hi
    subst e1
    split at e
    · rename_i l el
      split at e
      · rename_i j ej
        cases e
        obtain ⟨xs, h1, h2⟩ := c.at_ n a l ea el
        exact ⟨a, xs, j0, j, rfl, rfl, h1, by rw [← h2.length]; exact ej, q _ (cell_set c ea (h2.set j hz))⟩
      · cases e
    · cases e
  · cases e
/-- the target x[i] -/
def fSub (a b : FE) (z : P) : En → Sto → M Unit := fun ρ S => (a ρ S).bind fun x S1 => (b ρ S1).bind fun i S2 => match setC x i z S2 with
  | some S3 => some (.ok () S3)
  | none => none
theorem sub_go {fa fb : FE} {z : P} {v : V} {ρ : En} {σ : L2.St} {α : List Addr} {H : Hp} {S : Sto} {Q : L2.St → Hp → Prop} {Po : Unit → Sto → List Addr → Hp → Prop} (hE : IsE X.K α (hid α H) ρ σ) (c : Cs X.K H α S) (hz : Is X.K (hid α H) z v)
    (h : tG X.K W α H (fSub fa fb z ρ S) Po) (q : ∀ S' β H', Aft X.K α H β H' S' → Po () S' (α ++ β) H' → Q σ H') : gSub (tE X.K W fa) (tE X.K W fb) rSetL v σ H Q := by
  refine ⟨ρ, α, S, hE, c, tG_mono (tG_bind c h) fun x S1 β1 H1 af1 _ h1 o ho => ?_⟩
  refine ⟨ρ, _, S1, hE.aft af1, af1.cs, tG_mono (tG_bind af1.cs h1) fun i S2 β2 H2 af2 _ h2 k hk => ?_⟩
  have af12 := af1.trans c af2
  cases e : setC x i z S2 with
  | none => rw [e] at h2; exact h2.elim
  | some S3 =>
    rw [e] at h2
    refine setC_ok af2.cs (ho.aft af2) hk ((hz.ext af1.ext).ext af2.ext) e fun H3 af3 => ?_
    have p := tG_ok0 h2 af3
    have af := af12.trans c (by rw [← List.append_assoc]; exact af3)
    rw [List.append_nil] at af
    refine q S3 _ H3 af ?_
    rw [← List.append_assoc]
    exact p
def fSetI (a b e : FE) : FS := fun ρ S => (e ρ S).bind fun u S1 => match u with
  | .p z => (fSub a b z ρ S1).bind fun _ S2 => some (.ok (.nx ρ) S2)
  | .c _ => none
def noSlice : Expr → Bool
  | .Slice _ _ _ _ => false
  | _ => true
theorem sub_base {o i : Expr} {env : Env} {p : Pos} (h : noSlice i = true) : ∀ v, assign (.Subscript o i p) env v = (do
      let ov ← holding [v] (eval o env)
      let iv ← holding [v, ov] (eval i env)
      standAt p
      holding [v, ov, iv] (setItem ov iv v)
      release [v, ov, iv] []) := by
  intro v
  cases i <;> first | rfl | (cases h; done)
theorem plain_ix {b : Expr} (h : noSlice b = true) : PlainIx b := by
  intro o i
  cases b <;> first | rfl | (cases h; done)
theorem g_sub {o i : Expr} {p : Pos} {fa fb : FE} (h : noSlice i = true) (ha : PE X o (tE X.K W fa)) (hb : PE X i (tE X.K W fb)) : PG X (.Subscript o i p) (gSub (tE X.K W fa) (tE X.K W fb) rSetL) := pg_sub ha hb set_list (sub_base h)
theorem comp_sole {t e : Expr} {l : Nat} {env : Env} (h : noComp e = true) : swapsWithSole [t] e l env = pure false := comp_free h
theorem s_setI {o i e : Expr} {p : Pos} {fa fb fe : FE} (h : noSlice i = true) (hn : noComp e = true) (ha : PE X o (tE X.K W fa)) (hb : PE X i (tE X.K W fb)) (he : PE X e (tE X.K W fe)) : PS X (.Assign [.Subscript o i p] e pos) (tS X.K W (fSetI fa fb fe)) := by
  have hsw : swappedStores [.Subscript o i p] e X.env = pure none := by
    unfold swappedStores
    cases e <;> rfl
  refine (ps_asg he (g_sub h ha hb) (comp_sole hn) hsw rfl).weak fun D σ H ⟨ρ, α, S, hE, c, h⟩ => ⟨ρ, α, S, hE, c, step c hE h fun u S1 β H1 af hE1 c1 h1 v hv => ?_⟩
  cases u with
  | c n => exact h1.elim
  | p z => exact sub_go hE1 c1 hv (tG_bind c1 h1) fun S' β2 H' af2 k => tG_ok0 k (.refl af2.cs) σ (hE1.aft af2)
/-- x[i], name = e -/
def fSetIN (a b : FE) (j : Nat) (e : FE) : FS := fun ρ S => (e ρ S).bind fun u S1 => match asTup u with
  | some [y, z] => (fSub a b y ρ S1).bind fun _ S2 => some (.ok (.nx (ρ.set j (some (.p z)))) S2)
  | _ => none
theorem s_setIN {o i e : Expr} {x : Str} {j k : Nat} {p p1 p2 : Pos} {fa fb fe : FE} (hN : X.N.Nodup) (hj : X.N[j]? = some x) (hx : Loc X.env.scope x) (hf : X.fn x = true ∨ X.env.scope.names.lookup x = some .local) (hc : X.calm = true) (h : noSlice i = true) (hn : noComp e = true)
    (hsw : swappedStores [.Tuple [.Subscript o i p, .Name x p1] k p2] e X.env = pure none) (ha : PE X o (tE X.K W fa)) (hb : PE X i (tE X.K W fb)) (he : PE X e (tE X.K W fe)) :
    PS X (.Assign [.Tuple [.Subscript o i p, .Name x p1] k p2] e pos) (tS X.K W (fSetIN fa fb j fe)) := by
  refine (ps_asg he (pg_tup (n := 2) hc (pgs_cons (g_sub h ha hb) (pgs_cons (pg_name hN hj hx hf) pgs_nil rfl) rfl) rfl rfl) (comp_sole hn) hsw rfl).weak fun D σ H ⟨ρ, α, S, hE, c, h⟩ => ⟨ρ, α, S, hE, c, step c hE h fun u S1 β H1 af hE1 c1 h1 v hv => ?_⟩
  cases e1 : asTup u with
  | none => rw [e1] at h1; exact h1.elim
  | some l =>
    rw [e1] at h1
    have eu := asTup_inv e1
    subst eu
    cases hv with
    | tup g1 g2 =>
      split at h1
      · rename_i y z el
        cases el
        cases g2 with
        | cons r1 g2 =>
          cases g2 with
          | cons r2 g2 =>
            cases g2
            refine ⟨_, _, rfl, sqT_hid g1, rfl, _, _, rfl, sub_go hE1 c1 r1 (tG_bind c1 h1) fun S' β2 H' af2 k => ⟨_, _, rfl, rfl, ?_⟩⟩
            exact tG_ok0 k (.refl af2.cs) _ ((hE1.aft af2).set j (r2.ext af2.ext))
      · exact h1.elim
/-- an item of a cell, counted from its beginning -/
def cellAt (x i : U) (S : Sto) : Option P := match x, i with
  | .c n, .p (.int k) => (match S[n]? with
    | some l => if 0 ≤ k ∧ k < 2 ^ 63 then l[k.toNat]? else none
    | none => none)
  | _, _ => none
def rGet : V → V → Hp → VK → Prop := fun o i H Q => ∃ a k xs v, o = .ref a ∧ i = .int k ∧ H a = some (.lst xs) ∧ 0 ≤ k ∧ k < 2 ^ 63 ∧ xs[k.toNat]? = some v ∧ Q v H
theorem get_list : PGet X rGet := by
  intro pins s σ H o i ov iv Q I ro ri h
  obtain ⟨a, k, xs, v, rfl, rfl, h1, h2, h3, h4, q⟩ := h
  cases ro
  obtain ⟨t, rfl⟩ := ri
  obtain ⟨its, r, pl, hz⟩ := I.list (.inl (.inl h1))
  obtain ⟨w, ew, rw'⟩ := r.get h4
  exact wpAny_mono (wpAny_getItem_list (Q := fun r s' => r = w ∧ s' = s) pl.isList h2 h3 (by simpa using ew) ⟨rfl, rfl⟩) (fun r s' e => by rw [e.1, e.2]; exact ⟨v, H, I, rw', q⟩) fun _ _ x => x
theorem cellAt_ok {K : PySem.W.Frag} {α : List Addr} {H : Hp} {S : Sto} (c : Cs K H α S) {x i : U} {z : P} {o k : V} (hx : IsU K α (hid α H) x o) (hi : IsU K α (hid α H) i k) (e : cellAt x i S = some z) {Q : VK}
    (q : ∀ v, Is K (hid α H) z v → Q v H) : rGet o k H Q := by
  unfold cellAt at e
  split at e
  · rename_i n j
    obtain ⟨a, ea, rfl⟩ := hx
    have e1 := int_inv hi
    subst e1
    split at e
    · rename_i l el
      split at e
      · rename_i hj
        obtain ⟨xs, h1, h2⟩ := c.at_ n a l ea el
        obtain ⟨v, h3, h4⟩ := h2.get e
        exact ⟨a, j, xs, v, rfl, rfl, h1, hj.1, hj.2, h3, q v h4⟩
      · cases e
    · cases e
  · cases e
/-- x[i] += e -/
def fAugI (a b e : FE) : FS := fun ρ S => (a ρ S).bind fun x S1 => (b ρ S1).bind fun i S2 => match cellAt x i S2 with
  | some (.int m) => (e ρ S2).bind fun u S3 => (match u with
    | .p (.int n) => (match setC x i (.int (m + n)) S3 with
      | some S4 => some (.ok (.nx ρ) S4)
      | none => none)
    | _ => none)
  | _ => none
theorem s_augI {o i e : Expr} {p : Pos} {fa fb fe : FE} (h : ∀ ov iv new, augStore i ov iv new = (do holding [new, ov, iv] (setItem ov iv new); release [new, ov, iv] []; pure .next)) (ha : PE X o (tE X.K W fa)) (hb : PE X i (tE X.K W fb)) (he : PE X e (tE X.K W fe)) :
    PS X (.AugAssign (.Subscript o i p) .Add e pos) (tS X.K W (fAugI fa fb fe)) := by
  refine (ps_augS ha hb get_list he ip_add set_list h).weak fun D σ H ⟨ρ, α, S, hE, c, h⟩ => ⟨ρ, α, S, hE, c, step c hE h fun x S1 β H1 af hE1 c1 h1 xv hx => ?_⟩
  refine ⟨ρ, _, S1, hE1, c1, step c1 hE1 h1 fun k S2 β2 H2 af2 hE2 c2 h2 kv hk => ?_⟩
  cases e1 : cellAt x k S2 with
  | none => rw [e1] at h2; exact h2.elim
  | some w =>
    rw [e1] at h2
    cases w <;> first | exact h2.elim | skip
    case int m =>
      refine cellAt_ok c2 (hx.aft af2) hk e1 fun ov ho => ?_
      cases ho
      refine ⟨ρ, _, S2, hE2, c2, step c2 hE2 h2 fun u S4 β4 H4 af4 hE4 c4 h4 uv hu => ?_⟩
      cases u with
      | c n => exact h4.elim
      | p z =>
        cases z <;> first | exact h4.elim | skip
        case int n =>
          have e2 := int_inv hu
          subst e2
          refine ⟨m, n, rfl, rfl, ?_⟩
          dsimp only at h4
          split at h4
          · rename_i S5 e5
            exact setC_ok c4 ((hx.aft af2).aft af4) (hk.aft af4) (.int _) e5 fun H5 af5 => by
              have q := tG_ok0 h4 af5 σ
              have hE5 := hE4.aft af5
              rw [List.append_nil] at hE5
              exact q hE5
          · exact h4.elim
end
end Ev
end
section
set_option Elab.async false
set_option linter.all false
set_option maxRecDepth 100000
set_option maxHeartbeats 1000000
/-! errors with an own __init__ that keeps one thing: made and raised -/
namespace Ev
open PySem PySem.Spec PyProof.Rows L2 PySem.OEX
/-- C.__init__(self, y): self.f = y -/
def spX (C : Addr) (f : Str) : Sp := fun vs H Q _ => ∃ (a : Addr) (y : V) (H1 : Hp), vs = [.ref a, y] ∧ H1 a = none ∧ H = upd H1 a (exo a C none) ∧ ∀ dx, H1 dx = none → dx ≠ a → Q .non (upd (upd H dx (exd dx [(f, y)])) a (exo a C (some dx)))
theorem fn_xinit {P : Program} {w : World} {K : PySem.W.Frag} {mg : Str → Option Value} {base : Heap} {x qual : Str} {params : Arguments} {scope : Scope} {dvs : List V} {kws : List (Str × V)} {fI C : Addr} {fd : FuncData} {N : List Str} {k : Nat} {self given f : Str} {p1 p2 p3 p4 : Pos}
    (F : FunD K x qual params [.Assign [.Attribute (.Name self p1) f p2] (.Name given p3) p4] scope dvs kws fI fd) (Sc : FnScope N [self, given] scope) (h0 : N[0]? = some self) (h1 : N[1]? = some given)
    (d1 : (self == ("__debug__" : Str)) = false) (d2 : (self == ("__classdict__" : Str)) = false) (d3 : (given == ("__debug__" : Str)) = false) (d4 : (given == ("__classdict__" : Str)) = false)
    (T : OexC K C) (hno : PySem.W.findIn K (.ref C) f = some none) : FnOk P w K mg base (L2.CX P w) (k + 1) fI fd [self, given] (spX C f) := by
  have v0 : Vis scope self := by
    rcases Sc.par self (by simp) with q | q <;> (unfold Vis; rw [q]; simp)
  have v1 : Vis scope given := by
    rcases Sc.par given (by simp) with q | q <;> (unfold Vis; rw [q]; simp)
  refine F.ok Sc (fun vs H Q E ⟨a, y, H1, e, _⟩ => by rw [e]; rfl) fun cdv A outer s H vs Q E hr hs => ?_
  obtain ⟨a, y, H1, rfl, n1, rfl, hq⟩ := hs
  refine ⟨_, pss_one (ps_ost (pe_var h0 v0 d1 d2) (pe_var h1 v1 d3 d4) rfl), ?_⟩
  refine ⟨y, rfl, .ref a, rfl, a, C, rfl, T, hno, .inl ⟨upd_same, fun dx n ne => hq dx ?_ ne⟩⟩
  rwa [upd_ne ne] at n
def oexB (K : PySem.W.Frag) (C : Addr) : Bool := (match K.lookup C with
    | some ⟨.type t, _, .cls cd, sl⟩ => decide (t = "type") && (decide (cd.hasDict = true) && (decide (cd.hasDel = false) && ((match cd.mro with
        | .ref c :: bm => decide (c = C) && PySem.HandSPX.refsVE bm
        | _ => false) && (match sl.toList with
        | [_, _, _, _, some (.builtin n), _] => decide (n = "ValueError.__new__")
        | _ => false))))
    | _ => false) && (decide (PySem.W.findIn K (.ref C) "__setattr__" = some (some (.builtin "object.__setattr__"))) && (decide (PySem.W.subIn K (.ref C) (.type "BaseException") = some true) && (decide (PySem.W.typeIn K (.ref C) = some (.type "type")) && PySem.W.keepIn K (.ref C))))
theorem oexB_ok {K : PySem.W.Frag} {C : Addr} (h : oexB K C = true) : OexC K C := by
  unfold oexB at h
  simp only [Bool.and_eq_true, decide_eq_true_eq] at h
  obtain ⟨h1, h2, h3, h4, h5⟩ := h
  refine ⟨?_, h2, h3, h4, h5⟩
  split at h1
  · rename_i t d cd sl e
    simp only [Bool.and_eq_true, decide_eq_true_eq] at h1
    obtain ⟨rfl, g2, g3, g4, g5⟩ := h1
    obtain ⟨nm, bs, mro, ns, qn, hd, sn, sub, ab, col, hdel⟩ := cd
    dsimp only at g2 g3 g4
    subst g2 g3
    split at g4
    · rename_i _ c bm
      simp only [Bool.and_eq_true, decide_eq_true_eq] at g4
      obtain ⟨rfl, g6⟩ := g4
      split at g5
      · rename_i k0 k1 k2 k3 n k5 es
        simp only [decide_eq_true_eq] at g5
        subst g5
        have es : sl = #[k0, k1, k2, k3, some (.builtin "ValueError.__new__"), k5] := Array.toList_inj.mp es
        subst es
        exact ⟨nm, qn, ns, bs, bm, sn, sub, ab, col, d, k0, k1, k2, k3, k5, e, g6⟩
      · cases g5
    · cases g4
  · cases h1
def fRaise (cls f : Str) (a : FE) : FS := fun ρ S => (a ρ S).bind fun u S1 => match u with
  | .p y => some (.ex ⟨cls, some (f, y)⟩ S1)
  | .c _ => none
theorem ext_xd {H1 : Hp} {a dx C : Addr} {f : Str} {y : V} (na : H1 a = none) (nd : H1 dx = none) : Ext H1 (upd (del (upd (upd (upd H1 a (exo a C none)) dx (exd dx [(f, y)])) a (exo a C (some dx))) a) dx (.xd [(f, y)])) := fun b o h => by
  have h1 : b ≠ a := ne_of_none h na
  have h2 : b ≠ dx := ne_of_none h nd
  rw [upd_ne h2, del_ne h1, upd_ne h1, upd_ne h2, upd_ne h1]
  exact h
theorem s_raise {X : Cx} {W : XK} {CX : CXT} {k : Nat} {x f : Str} {e : Expr} {fa : FE} {fI : Addr} {fd : FuncData} {ps : List Str} {p pos pos2 : Pos} (hc : X.calm = true) (tk : Takes X fun cls d _ H => W cls d H)
    (T : OexC X.K (He.ga X.K x)) (iC : PySem.W.findIn X.K (.ref (He.ga X.K x)) "__init__" = some (some (.ref fI))) (tI : PySem.W.typeIn X.K (.ref fI) = some (.type "function")) (F1 : FnOk X.prog X.w X.K X.mg X.base CX k fI fd ps (spX (He.ga X.K x) f)) (hr : Room (k + 1) X.A)
    (hb : L2.Binds X.K fd ps []) (hx : Passes CX X (fun _ _ _ => False)) (hg : Gl X x) (hm : X.mg x = some (.ref (He.ga X.K x))) (hd : (x == ("__debug__" : Str)) = false) (hs : noStar e = true) (ha : PE X e (tE X.K W fa)) :
    PS X (.Raise (some (.Call (.Name x p) [e] [] pos)) none pos2) (tS X.K W (fRaise x f fa)) := by
  refine (ps_raise hc tk (pmk_oex T iC tI F1 hr hb .nil hx hg hm (pa_cons ha pa_nil (star_cons hs)) hd (star_cons hs) (back_any rfl))).weak fun D σ H ⟨ρ, α, S, hE, c, h⟩ => ?_
  refine ⟨ρ, α, S, hE, c, step c hE h fun u S1 β H1 af hE1 c1 h1 v hv => ?_⟩
  cases u with
  | c n => exact h1.elim
  | p y =>
    refine ⟨by simp, fun a na => ⟨a, v, H1, rfl, na, rfl, fun dx nd ne => ⟨rfl, dx, [(f, v)], upd_same, by rw [upd_ne ne]; exact upd_same, nd, ?_⟩⟩⟩
    have ex := ext_xd (C := He.ga X.K x) (f := f) (y := v) na nd
    have a2 := aft_ext c1 ex
    refine h1 [] _ _ _ a2 ⟨rfl, dx, v, rfl, upd_same, ?_⟩
    rw [List.append_nil]
    exact Is.ext (hid_ext ex) hv
end Ev
end
section
set_option Elab.async false
set_option linter.all false
set_option maxRecDepth 100000
set_option maxHeartbeats 2000000
/-! try: .. except (A, B, C) as e: .. -/
namespace Ev
open PySem PySem.Spec PyProof.Rows L2
theorem flying_push {B h : Heap} {l : List Env} {a : Addr} {Z : Obj → Prop} (x : HandSPX.FlyingZ B l a Z h) (o : Obj) : HandSPX.FlyingZ B l a Z (h.push o) := by
  obtain ⟨y1, y2, y3, oe, vs, T, oT, ts, z1, z2, z3, z4, z5, z6, z7, z8, z9⟩ := x
  refine ⟨fun b u e => Heap.get?_push_of_some _ (y1 b u e), y2, Heap.FunFrames.of_keeps (fun b u e _ => ⟨u, Heap.get?_push_of_some _ e, rfl⟩) y3, oe, vs, T, oT, ts, Heap.get?_push_of_some _ z1, z2, z3, z4, z5, z6, Heap.get?_push_of_some _ z7, z8, z9⟩
theorem erO_ok {P : Program} {w : World} {H : Hp} {h : Heap} {a : Addr} {cls : Value} {d : Option Addr} {oe : Obj} {vs : Array Value} (e : h.get? a = some oe) (z : Zc cls d oe) (f : oe.data = .fields vs) : ObjOk P w H h a (ErO cls d a) :=
  ⟨⟨oe, vs, e, z, f⟩, ⟨oe, e⟩, fun _ _ ⟨o, v, q, r⟩ k => ⟨o, v, k o q, r⟩⟩
/-- the error that is held is known by its class and its dict from here on -/
theorem track {X : Cx} {a : Addr} {oe : Obj} {cls : Value} {d : Option Addr} {pn : List (Addr × Obj)} {σ : L2.St} {H : Hp} {s : Shared} (okX : X.Ok) (I : Inv (X.suite a ((a, oe) :: pn)) [] σ H s) (z : Zc cls d oe) (f : ∃ vs, oe.data = .fields vs)
    (new : X.s_0.heap.get? a = none) (ne : ∀ p ∈ pn, p.1 ≠ a) : Inv (X.suite a pn) [] σ (upd H a (ErO cls d a)) s := by
  obtain ⟨vs, hv⟩ := f
  obtain ⟨g1, g2, g3, g4, g5⟩ := I.pin (a, oe) (List.mem_append_left _ List.mem_cons_self)
  have nb : ∀ {b : Addr} {o : Obj}, X.s_0.heap.get? b = some o → b ≠ a := fun {b o} e w => by rw [w, new] at e; cases e
  have nh : ∀ {b : Addr} {o : HO}, H b = some o → b ≠ a := fun {b o} e w => by
    rw [w] at e
    have g2 : H a = none := g2
    rw [g2] at e; cases e
  have keep : ∀ {b : Addr} {o : HO}, H b = some o → upd H a (ErO cls d a) b = some o := fun {b o} e => by rw [upd_ne (nh e)]; exact e
  refine ⟨okX.suite _ _, I.os, I.bare, ⟨I.base.keep, I.base.slot, fun b o e n x => ?_, I.base.there, fun b xs e => keep (I.base.tups b xs e), fun b o u e => keep (I.base.frzs b o u e), fun b ps e => ?_⟩, I.loc, I.cell, ?_, fun x c e => ?_, fun p hp => ?_, ?_, I.len⟩
  · rw [upd_ne (nb e)]; exact I.base.free b o e n x
  · obtain ⟨more, q⟩ := I.base.tbls b ps e
    exact ⟨more, keep q⟩
  · have q : X.env.locals ≠ a := fun w => g3 w.symm
    show upd H a (ErO cls d a) X.env.locals = none
    rw [upd_ne q]; exact I.free
  · obtain ⟨v, o, ho, hd⟩ := I.cell x c e
    have q : c ≠ a := fun w => by
      rw [w] at ho
      have g1 : s.heap.get? a = some oe := g1
      rw [g1] at ho; cases ho
      exact g5 v hd
    rw [upd_ne q]; exact I.freeC x c e
  · have hp : p ∈ pn := by rw [List.append_nil] at hp; exact hp
    obtain ⟨y1, y2, y3, y4, y5⟩ := I.pin p (by rw [List.append_nil]; exact List.mem_cons_of_mem _ hp)
    exact ⟨y1, by rw [upd_ne (ne p hp)]; exact y2, y3, y4, y5⟩
  · exact HOk.laidN I.hok (fun _ _ e => e) g2 (erO_ok g1 z hv)
def wAs3 (K : PySem.W.Frag) (cs : List Value) (i : Nat) (ts : Addr → TS) (Wout : WX) (D : Ends) : WX := fun cls d σ H =>
  ∃ b, PySem.W.exmAny K cls cs = some b ∧ (b = true → ∀ a, H a = none → ts a ⟨fun σ1 H1 => D.nx (σ1.set i none) H1, D.rt, fun σ1 H1 => D.bk (σ1.set i none) H1, fun σ1 H1 => D.ct (σ1.set i none) H1⟩ (σ.set i (some (.ref a))) (upd H a (ErO cls d a))) ∧
    (b = false → Wout cls d σ H)
section
variable {X : Cx} {x1 x2 x3 n : Str} {c1 c2 c3 : Value} {i kk : Nat} {body suite : List Stmt} {b0 : Stmt} {r1 r2 r3 rt r4 r5 : Pos} {tb : WX → TS} {ts : Addr → TS} {Wo : WX}
/-- a class's name, where an error has been caught -/
theorem names_ld {a : Addr} {oe : Obj} {pn : List (Addr × Obj)} {x : Str} {c : Value} {p : Pos} {pins : List (Addr × Obj)} {σ : L2.St} {H : Hp} {s : Shared} (hc : Names X x c) (S : Inv (X.suite a ((a, oe) :: pn)) pins σ H s) {Q E : Value → Shared → Prop} (q : Q c s) :
    wpAny (model X.prog X.w) (X.A.mark (some (.ref a))) (eval (.Name x p) X.env) Q E s := by
  obtain ⟨g, d, m | ⟨m, v, nn⟩⟩ := hc
  · exact ld_glob (X := X.suite a ((a, oe) :: pn)) S g m q d
  · exact ld_blt (X := X.suite a ((a, oe) :: pn)) S g m v q nn d
theorem unsuite0 {a : Addr} {pins : List (Addr × Obj)} {σ : L2.St} {H : Hp} {s : Shared} (okX : X.Ok) (I : Inv (X.suite a (X.pn ++ pins)) [] σ H s) : Inv X pins σ H s :=
  ⟨okX, I.os, I.bare, I.base, I.loc, I.cell, I.free, I.freeC, fun p hp => I.pin p (by rw [List.append_nil]; exact hp), I.hok, I.len⟩
theorem try3 (hs : X.stack = X.env :: X.outer) (hf : X.env.frame = some X.env.locals) (hex : X.ex = []) (hN : X.N.Nodup) (hi : X.N[i]? = some n) (hln : X.env.kindOf n = some .local) (n1 : Names X x1 c1) (n2 : Names X x2 c2) (n3 : Names X x3 c3) (tk : Takes X Wo)
    (hb : ∀ (V : WX) (pn : List (Addr × Obj)) (xe : Value → Shared → Prop), Takes (X.tr pn xe) V → PassesOwn (model X.prog X.w) X.A X.env xe → PSs (X.tr pn xe) body (tb V))
    (hsu : ∀ (a : Addr) (pn : List (Addr × Obj)), PSs (X.suite a pn) (b0 :: suite) (ts a)) :
    PS X (.Try body [.ExceptHandler (some (.Tuple [.Name x1 r1, .Name x2 r2, .Name x3 r3] kk rt)) (some n) (b0 :: suite) r4] [] [] r5) (fun D σ H => tb (wAs3 X.K [c1, c2, c3] i ts Wo D) D σ H) := by
  refine ⟨fun pins s0 σ0 H0 D I0 h0 => ?_⟩
  have okX := I0.ok
  have fr : X.A.frames = some (X.env :: X.outer) := by rw [okX.frames, hs]
  refine wpAny_Try_except (wpAny_mono ((hb (wAs3 X.K [c1, c2, c3] i ts Wo D) (X.pn ++ pins) (fun e s1 => wpAny (model X.prog X.w) X.A (noteFrame e X.env) (fun _ s2 => wpAny (model X.prog X.w) X.A (setFlight e none) (fun _ s3 =>
    wpAny (model X.prog X.w) X.A (handleBy e X.env [.ExceptHandler (some (.Tuple [.Name x1 r1, .Name x2 r2, .Name x3 r3] kk rt)) (some n) (b0 :: suite) r4]) (SP X pins D) X.xe s3) X.xe s2) X.xe s1) (fun u s1 xx => ?_) PassesOwn.looking).run [] s0 σ0 H0 D (I0.toTry _) h0) (fun fl s1 hsp => ?_) (fun _ _ z => z))
  · obtain ⟨a, B, sI, pins1, σ1, H1, cls, d, rfl, J0, nb, up, sky, na, os, ag, b, hb1, yes, no⟩ := xx
    have J : Inv X pins σ1 H1 sI := J0.ofTry okX
    show wpAny (model X.prog X.w) X.A (noteFrame (.ref a) X.env) _ _ _
    have sk : Sky B (X.env :: X.outer) a (Zc cls d) X.env.locals s1.heap := hs ▸ sky
    refine Sky.land Zc.steady fr hf sk fun h3 f3 u3 => ?_
    have J3 : Inv X pins σ1 H1 { s1 with heap := h3 } := J.landed nb f3.1 (up.trans u3) os ag
    obtain ⟨o3, v3, e3, z3, d3⟩ := f3.there
    have nfr : a ∉ frs (X.env :: X.outer) := fun hm => by
      obtain ⟨_, o', e', k'⟩ := f3.2.2.1.mem hm
      rw [e3] at e'; cases e'; exact k' _ d3
    have nL : a ≠ X.env.locals := fun z => nfr (List.mem_filterMap.mpr ⟨X.env, by simp, by rw [hf, z]⟩)
    have nF : a ∉ X.fs := fun hm => by
      obtain ⟨e, he, q⟩ := List.mem_filterMap.mp hm
      exact nfr (List.mem_filterMap.mpr ⟨e, List.mem_cons_of_mem _ he, q⟩)
    have nI : sI.heap.get? a = none := by
      cases q : sI.heap.get? a with
      | none => rfl
      | some o =>
        have w := nb a o q (by rw [hs]; exact nfr)
        have w2 : B.get? a = none := f3.2.1
        rw [w2] at w; cases w
    have nS : X.s_0.heap.get? a = none := by
      cases q : X.s_0.heap.get? a with
      | none => rfl
      | some o =>
        by_cases hx : a ∈ X.ex
        · rw [hex] at hx; cases hx
        · obtain ⟨o', w⟩ := J.base.there a o q hx
          rw [nI] at w; cases w
    have nP : ∀ p ∈ X.pn ++ pins, p.1 ≠ a := fun p hp w => by
      have q := (J.pin p hp).1
      rw [w, nI] at q; cases q
    have S3 := J3.suite e3 d3 na nL nF
    refine wpAny_handleBy_cons (codeAny_handlers_test ?_) (by intro q; cases q)
    refine Tuple_ (Calls.spliced_cons (names_ld n1 S3 (Calls.spliced_cons (names_ld n2 S3 (Calls.spliced_cons (names_ld n3 S3 (Calls.spliced_nil (wpAny_newObj_type ?_))))))))
    -- the tuple stands now
    have kp : ∀ b o, h3.get? b = some o → (h3.push { cls := .type "tuple", dict := none, data := .seq #[c1, c2, c3] }).get? b = some o := fun b o e => Heap.get?_push_of_some _ e
    have f4 := flying_push f3 { cls := .type "tuple", dict := none, data := .seq #[c1, c2, c3] }
    have u4 : h3.UpToSlots (h3.push { cls := .type "tuple", dict := none, data := .seq #[c1, c2, c3] }) := Heap.UpToSlots.of_keeps kp
    have LT : PySem.W.Looks (model X.prog X.w) (h3.push { cls := .type "tuple", dict := none, data := .seq #[c1, c2, c3] }) (typeOf (.ref a)) cls := fun A Q E s k q => wpAny_typeOf_ref (k _ _ (kp _ _ e3)) (by rw [z3.1]; exact q)
    have KX : X.K.In (h3.push { cls := .type "tuple", dict := none, data := .seq #[c1, c2, c3] }) := PySem.W.Frag.In.keeps J3.kIn kp
    have LM := PySem.W.exm_tup3 (M := model X.prog X.w) (tp := h3.objs.size) KX LT (by heap_get) hb1
    refine LM.here ?_
    cases b with
    | true =>
      refine codeAny_handlers_suite_as (HandSPX.lands_againZ f4 fun h5 f5 u5 => ?_)
      have J5 : Inv X pins σ1 H1 { s1 with heap := h5 } := J.landed nb f5.1 (((up.trans u3).trans u4).trans u5) os ag
      obtain ⟨o5, v5, e5, z5, d5⟩ := f5.there
      refine store_ok (X := X.suite a ((a, o5) :: (X.pn ++ pins))) (v := .ref a) (J5.suite e5 d5 na nL nF) hN hi (.inl hln) rfl (fun s6 S6 => ?_) (.inr hln)
      refine wpAny_mono ((hsu a (X.pn ++ pins)).run [] s6 _ _ _ (track okX S6 z5 ⟨_, d5⟩ nS nP) (yes rfl a na)) (fun fl s7 hq => ?_) (fun _ _ z => False.elim z)
      have fin_ : ∀ {σ7 : L2.St} {H7 : Hp} {Q : Shared → Prop}, Inv (X.suite a (X.pn ++ pins)) [] σ7 H7 s7 → (∀ s8, Inv X pins (σ7.set i none) H7 s8 → Q s8) →
          wpAny (model X.prog X.w) X.A (do bindName X.env n .none; unbindBehindTheSuite X.env n r4) (fun _ s8 => Q s8) X.xe s7 := fun {_ _ _} S7 g => gone_ok (unsuite0 okX S7) hN hi hln g
      cases fl with
      | next => obtain ⟨_, _, S7, q7⟩ := hq; exact fin_ S7 fun _ J8 => ⟨_, _, J8, q7⟩
      | brk => obtain ⟨_, _, S7, q7⟩ := hq; exact fin_ S7 fun _ J8 => ⟨_, _, J8, q7⟩
      | cont => obtain ⟨_, _, S7, q7⟩ := hq; exact fin_ S7 fun _ J8 => ⟨_, _, J8, q7⟩
      | ret u => obtain ⟨_, _, _, S7, r7, q7⟩ := hq; exact fin_ S7 fun _ J8 => ⟨_, _, _, J8, r7, q7⟩
    | false =>
      show wpAny _ X.A (handleBy (.ref a) X.env []) _ _ _
      refine wpAny_handleBy_nil ?_
      obtain ⟨_, _, _, oe, vs, T, oT, tv, he, hz, hd, g1, gr⟩ := id f4
      unfold PySem.passOn
      refine wpAny_bind (wpAny_field he hd g1 ?_)
      rw [if_neg (show ¬ ((Value.ref T == Value.none) = true) by simp)]
      have fin_ : wpAny (model X.prog X.w) X.A (setFlight (.ref a) X.env.frame) (fun _ s5 => wpAny (model X.prog X.w) X.A (throw (.ref a) : Sem Flow) (SP X pins D) X.xe s5) X.xe { s1 with heap := h3.push { cls := .type "tuple", dict := none, data := .seq #[c1, c2, c3] } } := by
        rw [hf]
        exact HandSPX.setFlight_upZ f4 fun h5 g5 u5 => wpAny_throw (tk _ _ ⟨a, B, sI, pins, σ1, H1, cls, d, rfl, J, nb, ((up.trans u3).trans u4).trans u5, .inr (.inr (by rw [hs]; exact g5)), na, os, ag, no rfl⟩)
      first
        | exact wpAny_bind (wpAny_pure (wpAny_bind fin_))
        | exact wpAny_bind fin_
  · cases fl with
    | next => obtain ⟨_, _, J', q⟩ := hsp; exact wpAny_execs_nil ⟨_, _, J'.ofTry okX, q⟩
    | brk => obtain ⟨_, _, J', q⟩ := hsp; exact ⟨_, _, J'.ofTry okX, q⟩
    | cont => obtain ⟨_, _, J', q⟩ := hsp; exact ⟨_, _, J'.ofTry okX, q⟩
    | ret u => obtain ⟨_, _, _, J', r, q⟩ := hsp; exact ⟨_, _, _, J'.ofTry okX, r, q⟩
end
end Ev
end
section
set_option Elab.async false
set_option linter.all false
set_option maxRecDepth 100000
set_option maxHeartbeats 2000000
/-! repr of data, isinstance of built-in types, f-strings, join -/
namespace Ev
open PySem PySem.Spec PyProof.Rows L2
/-! ### repr -/
def rRepr (K : PySem.W.Frag) : List V → Hp → VK → Prop := fun xs H Q => (∃ a : Addr, xs = [.ref a] ∧ H a = some (.dK []) ∧ Q (.str "{}") H) ∨ ∃ (x : V) (d : PyData), xs = [x] ∧ Dp K H x d ∧ d.showable = true ∧ d.hasDict = false ∧ d.depth ≤ 100 ∧ d.shown.length ≤ sizeLine ∧ Q (.str d.shown) H
theorem call_reprD {X : Cx} (hf : Free X.A) (hu : X.A.units + 200 < cLine) : CallR X (.builtin "repr") (rRepr X.K) := by
  intro pins s σ H xs us Q I r h
  rcases h with ⟨a, rfl, ha, q⟩ | ⟨x, d, rfl, hd, h1, h2, h3, h4, q⟩
  · obtain ⟨u, rfl, r1⟩ := vals1 r
    obtain rfl : u = Value.ref a := r1
    obtain ⟨_, hs, vs, kv, o, es, ep, e1, e2, e3, _, pr, _⟩ := I.hok a _ ha
    cases kv
    have hl : es.toList = [] := by
      have := pr.length
      exact List.length_eq_zero_iff.mp this
    have rd : Reads s.heap (.ref a) (.dict []) (a :: [] ++ []) := .dict e1 e2.1 e3 (by rw [hl]; exact .nil) (by rw [hl]; exact .nil)
    exact repr_of_reads' (s := s) rd rfl (fun _ => by simpa using fun z => by rw [z] at hs; simp at hs) hf (by show X.A.units + (_ + 1) < cLine; simp only [PyData.depth, PyData.depthKv]; omega) (fun _ _ e => e) (fun h' t tk hk => ⟨.str "{}", H, I.kept hk, ⟨t, rfl⟩, q⟩) (by decide +kernel)
  obtain ⟨u, rfl, r1⟩ := vals1 r
  have obj : ∀ a : Addr, u = .ref a → wpAny (model X.prog X.w) X.A (call (.builtin "repr") [.ref a]) (EP X pins σ Q) X.xe s := fun a e => by
    subst e
    obtain ⟨as, rd⟩ := Dp.reads I d x (.ref a) hd r1
    exact repr_of_reads' (s := s) rd h1 (PyData.noDict_hsm h2) hf (by omega) (fun _ _ e => e) (fun h' t tk hk => ⟨.str d.shown, H, I.kept hk, ⟨t, rfl⟩, q⟩) h4
  cases hd with
  | non =>
    cases r1
    exact P.repr_of_none (Q := EP X pins σ Q) ⟨.str _, H, I.tok _, ⟨_, rfl⟩, by simpa only [PyData.shown] using q⟩
  | bl b =>
    cases r1
    exact P.repr_of_bool (Q := EP X pins σ Q) ⟨.str _, H, I.tok _, ⟨_, rfl⟩, by simpa only [PyData.shown] using q⟩
  | int i =>
    obtain ⟨t, rfl⟩ := r1
    exact P.repr_of_int (Q := EP X pins σ Q) (by simpa only [PyData.showable, decide_eq_true_eq] using h1) ⟨.str _, H, I.tok _, ⟨_, rfl⟩, by simpa only [PyData.shown] using q⟩
  | str z =>
    obtain ⟨t, rfl⟩ := r1
    exact P.repr_of_str (Q := EP X pins σ Q) ⟨.str _, H, I.tok _, ⟨_, rfl⟩, by simpa only [PyData.shown] using q⟩ (by simpa only [PyData.shown] using h4)
  | lst _ _ => cases r1; exact obj _ rfl
  | tup _ _ => cases r1; exact obj _ rfl
def reprP (us : List U) (S : Sto) : Option P := match us with
  | [.p .emp] => some (.str "{}")
  | [u] => (match toPyU u S with
    | some d => if d.showable = true ∧ d.hasDict = false ∧ d.depth ≤ 100 ∧ d.shown.length ≤ 16777216 then some (.str d.shown) else none
    | none => none)
  | _ => none
theorem cs_repr {K : PySem.W.Frag} : CallS K (rRepr K) reprP := by
  intro α H S us z vs Q c hv e q
  unfold reprP at e
  split at e
  · cases e
    obtain ⟨v, rfl, h1⟩ := us1 hv
    cases h1 with
    | emp h2 => exact .inl ⟨_, rfl, (hid_some h2).2, q _ _ (.refl c) (.str _)⟩
  · rename_i u _
    obtain ⟨v, rfl, h1⟩ := us1 hv
    split at e
    · rename_i d e1
      split at e
      · rename_i hc
        cases e
        obtain ⟨c1, c2, c3, c4⟩ := hc
        exact .inr ⟨v, d, rfl, toPyU_dp c h1 e1, c1, c2, c3, by rw [sizeLine_eq]; exact c4, q _ _ (.refl c) (.str _)⟩
      · cases e
    · cases e
  · cases e
theorem e_repr {X : Cx} {W : XK} {pos p : Pos} {e : Expr} {es : List Expr} {fl : FA} (hf : Free X.A) (hu : X.A.units + 200 < cLine) (hg : Gl X "repr") (hm : X.mg "repr" = none) (hs : (e :: es).all noStar = true) (ha : PA X (e :: es) (tA X.K W fl)) : PE X (.Call (.Name "repr" p) (e :: es) [] pos) (tE X.K W (fBlt reprP fl)) := by
  have hs' := hs
  rw [List.all_cons, Bool.and_eq_true] at hs'
  exact e_blt (t := tCB (rRepr X.K)) ha cs_repr fun t ha => pe_callB (call_reprD hf hu) hg hm (by rfl) ha (by decide) (by decide) (star_cons hs'.1) (back_any hs'.2)
/-! ### isinstance of a built-in type -/
def tyP : P → Option String
  | .non => some "NoneType" | .bl _ => some "bool" | .int _ => some "int" | .str _ => some "str" | .tup _ => some "tuple" | .lst _ => some "list" | .scr _ => some "list" | .emp => some "dict"
  | .obj _ _ => none | .err _ _ => none
def tyU : U → Option String
  | .p x => tyP x
  | .c _ => some "list"
theorem sqT_ty {K : PySem.W.Frag} {H : Hp} {a : Addr} {xs : List V} (h : SqT K H a xs) : TyX K H (.ref a) (.type "tuple") := by
  rcases h with (h | ⟨o, h⟩) | ⟨o, its, n, h1, h2, _⟩
  · exact .base (.tup h)
  · exact .fTuple h
  · exact .kTuple h1 h2
theorem sqL_ty {K : PySem.W.Frag} {H : Hp} {a : Addr} {xs : List V} (h : SqL K H a xs) : TyX K H (.ref a) (.type "list") := by
  rcases h with (h | ⟨o, h⟩) | ⟨o, its, n, h1, h2, _⟩
  · exact .base (.lst h)
  · exact .base (.frz h)
  · exact .kList h1 h2
theorem ty_is {K : PySem.W.Frag} {α : List Addr} {H : Hp} {S : Sto} (c : Cs K H α S) {u : U} {v : V} {n : String} (h : IsU K α (hid α H) u v) (e : tyU u = some n) : TyX K H v (.type n) := by
  cases u with
  | c k =>
    cases e
    obtain ⟨a, h1, rfl⟩ := h
    have hk : k < S.length := by rw [← c.len]; exact (List.getElem?_eq_some_iff.mp h1).1
    obtain ⟨xs, h2, _⟩ := c.at_ k a _ h1 (List.getElem?_eq_getElem hk)
    exact .base (.lst h2)
  | p x =>
    cases h with
    | non => cases e; exact .base .non
    | bl b => cases e; exact .base (.bl b)
    | int i => cases e; exact .base (.int i)
    | str z => cases e; exact .base (.str z)
    | tup h1 h2 => cases e; exact sqT_ty (sqT_hid h1)
    | lst h1 h2 => cases e; exact .base (.lst (hid_some h1).2)
    | scr h1 => cases e; exact sqL_ty (sqL_hid h1)
    | obj h1 h2 => cases e
    | emp h1 => cases e; exact .base (.dK (hid_some h1).2)
    | err0 h1 => cases e
    | err1 h1 h2 h3 => cases e
def isiP (T : String) (x : U) : Option Bool := match tyU x with
  | some n => kitB n T
  | none => none
def fIsi (T : String) (a : FE) : FE := fUn (fun x _ => (isiP T x).map .bl) a
theorem e_isi {X : Cx} {W : XK} {pos p p2 : Pos} {e : Expr} {fa : FE} {T : String} {t : Str} (hg : Gl X "isinstance") (hm : X.mg "isinstance" = none) (hs : noStar e = true) (hT : Gl X t) (mT : X.mg t = none) (bT : bootBuiltins t = some (.type T)) (nT : t ≠ "__name__") (dT : (t == ("__debug__" : Str)) = false)
    (ha : PE X e (tE X.K W fa)) : PE X (.Call (.Name "isinstance" p) [e, .Name t p2] [] pos) (tE X.K W (fIsi T fa)) := by
  have hA : PA X [e, .Name t p2] (tCons (tE X.K W fa) (tCons (tC (.ty T)) tNil)) := pa_cons ha (pa_cons (pe_bltn (v := .ty T) hT mT bT rfl nT dT) pa_nil rfl) (star_cons hs)
  refine (pe_callB call_isi hg hm (by rfl) hA (by decide) (by decide) (star_cons hs) (back_any rfl)).weak fun σ H Q ⟨ρ, α, S, hE, c, h⟩ => ?_
  refine ⟨ρ, α, S, hE, c, step c hE h fun x S1 β H1 af hE1 c1 h1 v hv => ?_⟩
  obtain ⟨z, ez, q⟩ := lift_inv h1
  obtain ⟨b, e1, e2⟩ := Option.map_eq_some_iff.mp ez
  subst e2
  unfold isiP at e1
  split at e1
  · rename_i n en
    exact ⟨v, .ty T, .type n, .type T, b, rfl, .ty T, ty_is c1 hv en, kit_ty e1, q _ _ (.refl c1) (.bl b)⟩
  · cases e1
/-! ### join -/
def joinP (a : Str) (y : U) (S : Sto) : Option P := match (asListS y S).orElse fun _ => asTup y with
  | some l => (match asStrs l with
    | some ys => if (ys.map (·.length)).sum + ys.length * a.length ≤ 16777216 then some (.str (Txt.join a ys)) else none
    | none => none)
  | none => none
def fJoin (fo fa : FE) : FE := fun ρ S => (fo ρ S).bind fun x S1 => match x with
  | .p (.str a) => (fa ρ S1).bind fun y S2 => lift (joinP a y S2) S2
  | _ => none
theorem seq_is {K : PySem.W.Frag} {α : List Addr} {H : Hp} {S : Sto} (c : Cs K H α S) {y : U} {w : V} {l : List P} (h : IsU K α (hid α H) y w) (e : ((asListS y S).orElse fun _ => asTup y) = some l) : ∃ (p : Addr) (xs : List V), w = .ref p ∧ (SqL K H p xs ∨ SqT K H p xs) ∧ IsA K (hid α H) l xs := by
  cases y with
  | c n =>
    obtain ⟨a, h1, rfl⟩ := h
    have e : ((S[n]?).orElse fun _ => none) = some l := e
    cases e1 : S[n]? with
    | none => rw [e1] at e; cases e
    | some m =>
      rw [e1] at e
      cases e
      obtain ⟨xs, h2, h3⟩ := c.at_ n a _ h1 e1
      exact ⟨a, xs, rfl, .inl (.inl (.inl h2)), h3⟩
  | p x =>
    cases h with
    | tup h1 h2 => cases e; exact ⟨_, _, rfl, .inr (sqT_hid h1), h2⟩
    | lst h1 h2 => cases e; exact ⟨_, _, rfl, .inl (.inl (.inl (hid_some h1).2)), h2⟩
    | scr h1 =>
      cases e
      refine ⟨_, _, rfl, .inl (sqL_hid h1), ?_⟩
      clear h1
      rename_i l2
      induction l2 with
      | nil => exact .nil
      | cons i l ih => exact .cons (.int i) ih
    | non => cases e
    | bl b => cases e
    | int i => cases e
    | str z => cases e
    | obj h1 h2 => cases e
    | emp h1 => cases e
    | err0 h1 => cases e
    | err1 h1 h2 h3 => cases e
theorem e_join {X : Cx} {W : XK} {o e : Expr} {fo fa : FE} {apos pos : Pos} (hs : noSuper o = true) (hl : (apos.endLine == pos.line) = true) (hn : noStar e = true) (ho : PE X o (tE X.K W fo)) (ha : PE X e (tE X.K W fa)) :
    PE X (.Call (.Attribute o "join" apos) [e] [] pos) (tE X.K W (fJoin fo fa)) := by
  refine (pe_join ho ha (by rw [star_cons hn]; rfl) (base_free hs) hl).weak fun σ H Q ⟨ρ, α, S, hE, c, h⟩ => ⟨ρ, α, S, hE, c, step c hE h fun x S1 β H1 af hE1 c1 h1 v hv => ?_⟩
  split at h1
  · rename_i a
    cases hv
    refine ⟨⟨a, rfl⟩, ρ, _, S1, hE1, c1, step c1 hE1 h1 fun y S2 β2 H2 af2 hE2 c2 h2 w hw => ?_⟩
    obtain ⟨z, e, q⟩ := lift_inv h2
    unfold joinP at e
    split at e
    · rename_i l e1
      split at e
      · rename_i ys e2
        split at e
        · rename_i hz
          cases e
          obtain ⟨p, xs, rfl, h3, h4⟩ := seq_is c2 hw e1
          have e3 := asStrs_eq e2
          subst e3
          have e4 := h4.of_strs
          subst e4
          exact ⟨a, p, ys, rfl, rfl, h3, hz, q _ _ (.refl c2) (.str _)⟩
        · cases e
      · cases e
    · cases e
  · exact h1.elim
/-! ### f-strings -/
inductive Pc where
  | txt (s : Str) | val (f : FE)
def fmtU : U → Option Str
  | .p (.str z) => if z.length ≤ 16777216 then some z else none
  | .p (.int i) => if i.natAbs.log2 < 1920 then some (toString i) else none
  | _ => none
def fJ : List Pc → Str → En → Sto → M Str
  | [], acc, _, S => some (.ok acc S)
  | .txt s :: l, acc, ρ, S => if (acc ++ s).length ≤ 16777216 then fJ l (acc ++ s) ρ S else none
  | .val f :: l, acc, ρ, S => (f ρ S).bind fun u S1 => match fmtU u with
    | some s => if (acc ++ s).length ≤ 16777216 then fJ l (acc ++ s) ρ S1 else none
    | none => none
def fFs (l : List Pc) : FE := fun ρ S => (fJ l Str.empty ρ S).bind fun s S1 => some (.ok (.p (.str s)) S1)
def tsOf (K : PySem.W.Frag) (W : XK) : List Pc → List TE
  | [] => []
  | .txt s :: l => tC (.str s) :: tsOf K W l
  | .val f :: l => tFmt (tE K W f) :: tsOf K W l
theorem js_go {K : PySem.W.Frag} {W : XK} {Q : Str → Hp → Prop} {σ : L2.St} : ∀ (l : List Pc) (acc : Str) (ρ : En) (α : List Addr) (S : Sto) (H : Hp), IsE K α (hid α H) ρ σ → Cs K H α S → tG K W α H (fJ l acc ρ S) (fun s _ _ H' => Q s H') → tJs (tsOf K W l) acc σ H Q
  | [], acc, ρ, α, S, H, hE, c, h => tG_ok0 h (.refl c)
  | .txt s :: l, acc, ρ, α, S, H, hE, c, h => by
    unfold fJ at h
    split at h
    · rename_i hz
      exact ⟨s, rfl, by rw [sizeLine_eq]; exact hz, js_go l _ ρ α S H hE c h⟩
    · exact h.elim
  | .val f :: l, acc, ρ, α, S, H, hE, c, h => by
    unfold fJ at h
    refine ⟨ρ, α, S, hE, c, step c hE h fun u S1 β H1 af hE1 c1 h1 v hv => ?_⟩
    cases e : fmtU u with
    | none => rw [e] at h1; exact h1.elim
    | some s =>
      rw [e] at h1
      dsimp only at h1
      split at h1
      · rename_i hz
        have go : tJs (tsOf K W l) (acc ++ s) σ H1 Q := js_go l _ ρ _ S1 H1 hE1 c1 h1
        unfold fmtU at e
        split at e
        · split at e
          · rename_i hz2
            cases e
            cases hv
            exact .inl ⟨s, rfl, by rw [sizeLine_eq]; exact hz2, s, rfl, by rw [sizeLine_eq]; exact hz, go⟩
          · cases e
        · split at e
          · rename_i i hz2
            cases e
            cases hv
            exact .inr ⟨i, rfl, hz2, _, rfl, by rw [sizeLine_eq]; exact hz, go⟩
          · cases e
        · cases e
      · exact h1.elim
theorem e_fstr {X : Cx} {W : XK} {v1 v2 : Expr} {rest : List Expr} {pos : Pos} {l : List Pc} (h : PJ X (v1 :: v2 :: rest) (tsOf X.K W l)) : PE X (.JoinedStr (v1 :: v2 :: rest) pos) (tE X.K W (fFs l)) :=
  (pe_joined h).weak fun σ H Q ⟨ρ, α, S, hE, c, h⟩ => js_go l Str.empty ρ α S H hE c (tG_mono (tG_bind c h) fun s S1 β H1 af _ k => tG_ok0 k (.refl af.cs) _ (.str _))
end Ev
end
section
set_option Elab.async false
set_option linter.all false
set_option maxRecDepth 100000
set_option maxHeartbeats 1000000
/-! more forms: a list that may change out of two, {}, list.index, list.count of truths -/
namespace Ev
open PySem PySem.Spec PyProof.Rows L2
/-- a + b, a new cell -/
def fAddC (a b : FE) : FE := fun ρ S => (a ρ S).bind fun x S1 => (b ρ S1).bind fun y S2 => match asList x S2, asList y S2 with
  | some l, some m => if l.length + m.length ≤ sizeLine then some (.ok (.c S2.length) (S2 ++ [l ++ m])) else none
  | _, _ => none
def fEmp : FE := fun _ S => some (.ok (.p .emp) S)
/-- xs.index(b), xs.count(b), truths alone -/
def lidxP (x y : U) (S : Sto) : Option P := match asList x S, y with
  | some l, .p (.bl b) => (match asBls l with
    | some bs => if b ∈ bs then some (.int (bs.idxOf b : Nat)) else none
    | none => none)
  | _, _ => none
def lcntP (x y : U) (S : Sto) : Option P := match asList x S, y with
  | some l, .p (.bl b) => (match asBls l with
    | some bs => some (.int (bs.count b : Nat))
    | none => none)
  | _, _ => none
def rCntB (K : PySem.W.Frag) : V → List V → Hp → VK → Prop := fun x xs H Q => ∃ (p : Addr) (bs : List Bool) (b : Bool), x = .ref p ∧ xs = [.bl b] ∧ SqL K H p (bs.map V.bl) ∧ Q (.int (bs.count b : Nat)) H
theorem cnt_bls {b : Bool} : ∀ {bs : List Bool} {us : List Value}, Vals (bs.map V.bl) us → us.countP (eqU (.bl b)) = bs.count b
  | [], _, h => by cases h; rfl
  | a :: bs, _, h => by
    cases h with
    | cons r t =>
      cases r
      rw [List.countP_cons, List.count_cons, cnt_bls t]
      rfl
theorem flat_bls : ∀ bs : List Bool, (bs.map V.bl).all flatV = true := fun bs => by
  rw [List.all_eq_true]
  intro x hx
  obtain ⟨b, _, rfl⟩ := List.mem_map.mp hx
  rfl
theorem mt_cntB {X : Cx} : MtR X "list.count" (rCntB X.K) := fun pins s σ H x xs v us Q I rx rxs ⟨p, bs, b, e1, e2, hs, q⟩ => by
  subst e1 e2
  cases rx
  obtain ⟨u, rfl, ru⟩ := rxs.one
  obtain ⟨its, rv, ⟨⟨cls, dd, data, sl⟩, n, ho, hc, hdn, hd⟩, hlen⟩ := I.list hs
  dsimp only at hc hd
  subst hc hd
  refine call_meets PySem.F.slot_list_count ⟨_, ho, rfl⟩ PySem.F.entry_list_count (PySem.F.args_list_count_2 _ _) (SeqAt.list_countAt p its.toArray n dd sl u (eqU (.bl b))) ⟨ho, fun y hy => mem_eqAt ru rfl rv (flat_bls bs) y (by simpa using hy), ?_⟩
  have ec : its.toArray.toList.countP (eqU (.bl b)) = bs.count b := cnt_bls rv
  rw [ec]
  exact ⟨.int (bs.count b : Nat), H, I.tok _, ⟨_, rfl⟩, q⟩
section
variable {X : Cx} {W : XK} {pos : Pos}
theorem e_emp : PE X (.Dict [] [] pos) (tE X.K W fEmp) :=
  pe_dnewK.weak fun σ H Q ⟨ρ, α, S, hE, c, h⟩ p n => tG_ok0 h (aft_upd c n) _ (.emp (hid_out (c.notin n) upd_same fun _ z => by cases z))
theorem e_addC {ea eb : Expr} {fa fb : FE} (ha : PE X ea (tE X.K W fa)) (hb : PE X eb (tE X.K W fb)) : PE X (.BinOp ea .Add eb pos) (tE X.K W (fAddC fa fb)) :=
  (pe_op op_cat ha hb).weak fun σ H Q ⟨ρ, α, S, hE, c, h⟩ => ⟨ρ, α, S, hE, c, step c hE h fun x S1 β H1 af hE1 c1 h1 v hv =>
    ⟨ρ, α ++ β, S1, hE1, c1, step c1 hE1 h1 fun y S2 β2 H2 af2 hE2 c2 h2 w hw => by
      split at h2
      · rename_i a b e1 e2
        split at h2
        · rename_i hz
          obtain ⟨p1, xs, rfl, g1, r1⟩ := as_list c2 (hv.aft af2) e1
          obtain ⟨p2, ys, rfl, g2, r2⟩ := as_list c2 hw e2
          refine ⟨p1, p2, xs, ys, rfl, rfl, g1, g2, by rw [← r1.length, ← r2.length]; exact hz, fun p n => ?_⟩
          refine tG_ok h2 (new_cell c2 n (r1.append r2)) _ ⟨p, ?_, rfl⟩
          rw [← c2.len, List.getElem?_append_right (Nat.le_refl _)]
          simp
        · exact h2.elim
      · exact h2.elim⟩⟩
/-- a method of a list, of one argument that is a truth -/
def fLm (g : U → U → Sto → Option P) (fo fa : FE) : FE := fun ρ S => (fo ρ S).bind fun x S1 => if (asList x S1).isSome = true then (fa ρ S1).bind fun y S2 => lift (g x y S2) S2 else none
theorem fLm_go {fo fa : FE} {g : U → U → Sto → Option P} {r : V → List V → Hp → VK → Prop} (hg : ∀ (α : List Addr) (H : Hp) (S : Sto) (x y : U) (z : P) (v w : V) (Q : VK), Cs X.K H α S → IsU X.K α (hid α H) x v → IsU X.K α (hid α H) y w → g x y S = some z → (∀ u, Is X.K (hid α H) z u → Q u H) → r v [w] H Q)
    {σ : L2.St} {H : Hp} {Q : VK} (h : tE X.K W (fLm g fo fa) σ H Q) : tBM X.K "list" r (tE X.K W fo) (tCons (tE X.K W fa) tNil) σ H Q := by
  obtain ⟨ρ, α, S, hE, c, h⟩ := h
  refine ⟨ρ, α, S, hE, c, step c hE h fun x S1 β H1 af hE1 c1 h1 v hv => ?_⟩
  split at h1
  · rename_i hs
    obtain ⟨l, el⟩ := Option.isSome_iff_exists.mp hs
    obtain ⟨p, xs, rfl, g1, r1⟩ := as_list c1 hv el
    refine ⟨.inl ⟨rfl, xs, .inl (.inl g1)⟩, ρ, _, S1, hE1, c1, step c1 hE1 h1 fun y S2 β2 H2 af2 hE2 c2 h2 w hw => ?_⟩
    obtain ⟨z, e, q⟩ := lift_inv h2
    exact hg _ _ _ _ _ _ _ _ _ c2 (hv.aft af2) hw e fun u hu => q _ _ (.refl c2) hu
  · exact h1.elim
theorem idx_bls {b : Bool} {bs : List Bool} (h : b ∈ bs) : (∃ z, (bs.map V.bl)[bs.idxOf b]? = some z ∧ eqV z (.bl b) = true) ∧ ∀ (m : Nat) (z : V), m < bs.idxOf b → (bs.map V.bl)[m]? = some z → eqV z (.bl b) = false := by
  have hl := List.idxOf_lt_length_iff.mpr h
  refine ⟨⟨.bl b, ?_, by simp [eqV]⟩, fun m z hm e => ?_⟩
  · rw [List.getElem?_map, List.getElem?_eq_getElem hl, List.getElem_idxOf hl]; rfl
  · rw [List.getElem?_map] at e
    cases q : bs[m]? with
    | none => rw [q] at e; cases e
    | some a =>
      rw [q] at e
      cases e
      have hne : a ≠ b := fun z => by
        obtain ⟨q1, q2⟩ := List.getElem?_eq_some_iff.mp q
        have := List.not_of_lt_findIdx (xs := bs) (p := (· == b)) (i := m) hm
        rw [q2, z] at this
        simp at this
      show (a == b) = false
      simpa using hne
theorem e_lidx {o e : Expr} {fo fa : FE} {apos : Pos} (hs : noSuper o = true) (hl : (apos.endLine == pos.line) = true) (hn : noStar e = true) (ho : PE X o (tE X.K W fo)) (ha : PE X e (tE X.K W fa)) :
    PE X (.Call (.Attribute o "index" apos) [e] [] pos) (tE X.K W (fLm lidxP fo fa)) := by
  refine (pe_bm PySem.F.plainAttrs_list PySem.F.slot_list_index PySem.F.type_list_index mt_index ho (pa_cons ha pa_nil (star_cons hn)) (base_free hs) (by rw [star_cons hn]; rfl) hl (star_cons hn) rfl).weak fun σ H Q h => fLm_go (fun α H S x y z v w Q c hx hy e q => ?_) h
  unfold lidxP at e
  split at e
  · rename_i l b e1
    split at e
    · rename_i bs e2
      split at e
      · rename_i hb
        cases e
        obtain ⟨p, xs, rfl, g1, r1⟩ := as_list c hx e1
        cases hy
        have := asBls_eq e2
        subst this
        have hxs := r1.of_bls
        subst hxs
        obtain ⟨⟨zz, k1, k2⟩, k3⟩ := idx_bls hb
        exact ⟨p, _, .bl b, _, zz, rfl, rfl, .inl (.inl g1), rfl, flat_bls bs, k1, k2, k3, q _ (.int _)⟩
      · cases e
    · cases e
  · cases e
theorem e_lcnt {o e : Expr} {fo fa : FE} {apos : Pos} (hs : noSuper o = true) (hl : (apos.endLine == pos.line) = true) (hn : noStar e = true) (ho : PE X o (tE X.K W fo)) (ha : PE X e (tE X.K W fa)) :
    PE X (.Call (.Attribute o "count" apos) [e] [] pos) (tE X.K W (fLm lcntP fo fa)) := by
  refine (pe_bm PySem.F.plainAttrs_list PySem.F.slot_list_count PySem.F.type_list_count mt_cntB ho (pa_cons ha pa_nil (star_cons hn)) (base_free hs) (by rw [star_cons hn]; rfl) hl (star_cons hn) rfl).weak fun σ H Q h => fLm_go (fun α H S x y z v w Q c hx hy e q => ?_) h
  unfold lcntP at e
  split at e
  · rename_i l b e1
    split at e
    · rename_i bs e2
      cases e
      obtain ⟨p, xs, rfl, g1, r1⟩ := as_list c hx e1
      cases hy
      have := asBls_eq e2
      subst this
      have hxs := r1.of_bls
      subst hxs
      exact ⟨p, bs, b, rfl, rfl, .inl (.inl g1), q _ (.int _)⟩
    · cases e
  · cases e
end
end Ev
end
section
set_option Elab.async false
set_option linter.all false
set_option maxRecDepth 100000
set_option maxHeartbeats 1000000
/-! errors that have been caught, as data: isinstance, their fields -/
namespace Ev
open PySem PySem.Spec PyProof.Rows L2
/-- where the dict of the error at a stands -/
def DcO (H : Hp) (d : Option Addr) : Prop := d = none ∨ ∃ dd fs, d = some dd ∧ H dd = some (.xd fs)
theorem inst_at {P : Program} {w : World} {H : Hp} {h : Heap} {a D : Addr} {d : Option Addr} (k : HOk P w H h) (e : H a = some (ErO (.ref D) d a)) (hd : DcO H d) : ∃ oe od, PySem.W.InstAt h a oe D od ∧ (∀ dd fs, d = some dd → H dd = some (.xd fs) → ∃ mA o, h.Ns1 dd mA ∧ (∀ f, RelO (fs.lookup f) (mA f)) ∧ od = some o ∧ h.get? dd = some o) := by
  obtain ⟨⟨oe, vs, g1, g2, g3⟩, _, _⟩ := k a _ e
  rcases hd with rfl | ⟨dd, fs, rfl, ed⟩
  · refine ⟨oe, none, ⟨g1, g2.1, by unfold PySem.W.notCls; rw [g3] <;> rfl, by rw [g2.2]; trivial⟩, fun _ _ z => by cases z⟩
  · obtain ⟨mA, hns, hr⟩ := k dd _ ed
    obtain ⟨od, ho, hl⟩ := lookIn_ns hns
    refine ⟨oe, some od, ⟨g1, g2.1, by unfold PySem.W.notCls; rw [g3] <;> rfl, by rw [g2.2]; exact ho⟩, fun d' fs' z z2 => ?_⟩
    cases z
    rw [ed] at z2
    cases z2
    exact ⟨mA, od, hns, hr, rfl, ho⟩
/-- what a class of errors must say -/
structure ErC (K : PySem.W.Frag) (D : Addr) : Prop where
  cl : (PySem.W.clsIn K D).isSome = true
  ga : PySem.W.findIn K (.ref D) "__getattribute__" = some (some (.builtin "BaseException.__getattribute__"))
  gg : PySem.W.findIn K (.ref D) "__getattr__" = some none
  sb : PySem.W.subIn K (.ref D) (.type "BaseException") = some true
  hd : PySem.W.hasDictIn K D = true
  ca : PySem.W.findIn K (.ref D) "__class__" = some (some (.builtin "object.__class__"))
  cn : PySem.W.specialIn K (.builtin "object.__class__") "__get__" = some (some (.builtin "getset_descriptor.__get__"))
  ct : PySem.W.takesIn K (.builtin "object.__class__") = some true
  cm : PySem.W.mroIn K D (.type "object") = some true
def erCB (K : PySem.W.Frag) (D : Addr) : Bool := (PySem.W.clsIn K D).isSome && (He.eqO (PySem.W.findIn K (.ref D) "__getattribute__") (some (some (.builtin "BaseException.__getattribute__"))) && (He.eqO (PySem.W.findIn K (.ref D) "__getattr__") (some none) && (decide (PySem.W.subIn K (.ref D) (.type "BaseException") = some true) && (PySem.W.hasDictIn K D &&
  (He.eqO (PySem.W.findIn K (.ref D) "__class__") (some (some (.builtin "object.__class__"))) && (He.eqO (PySem.W.specialIn K (.builtin "object.__class__") "__get__") (some (some (.builtin "getset_descriptor.__get__"))) && (decide (PySem.W.takesIn K (.builtin "object.__class__") = some true) && decide (PySem.W.mroIn K D (.type "object") = some true))))))))
theorem erCB_ok {K : PySem.W.Frag} {D : Addr} (h : erCB K D = true) : ErC K D := by
  unfold erCB at h
  simp only [Bool.and_eq_true, decide_eq_true_eq] at h
  obtain ⟨h1, h2, h3, h4, h5, h6, h7, h8, h9⟩ := h
  exact ⟨h1, He.eqO_ok h2, He.eqO_ok h3, h4, h5, He.eqO_ok h6, He.eqO_ok h7, h8, h9⟩
def rIsX (K : PySem.W.Frag) : List V → Hp → VK → Prop := fun xs H Q => ∃ (a D : Addr) (c : V) (cv : Value) (b : Bool) (d : Option Addr), xs = [.ref a, c] ∧ (∀ u, RelV c u → u = cv) ∧ H a = some (ErO (.ref D) d a) ∧ DcO H d ∧ ErC K D ∧ PySem.W.kitOne K (.ref D) cv = some b ∧ Q (.bl b) H
theorem call_isX {X : Cx} : CallR X (.builtin "isinstance") (rIsX X.K) := by
  intro pins s σ H xs us Q I r h
  obtain ⟨a, D, c, cv, b, d, rfl, hcv, ea, hd, C, e, q⟩ := h
  cases r with
  | cons rx rr =>
    cases rr with
    | cons rt rr =>
      cases rr
      cases rx
      have ec := hcv _ rt
      subst ec
      obtain ⟨oe, od, J, _⟩ := inst_at I.hok ea hd
      exact PySem.W.kia_one (PySem.W.kitx_exc C.cl C.ga C.gg C.sb C.ca C.cn C.ct C.cm) I.kIn J e (fun z => nomatch z) fun tk => ⟨.bl b, H, I.kept (t' := tk) fun _ _ z => z, rfl, q⟩
/-- e.f of such an error -/
def tErF (K : PySem.W.Frag) (f : Str) (te : TE) : TE := fun σ H Q => te σ H fun x H1 => ∃ (a D dd : Addr) (fs : List (Str × V)) (v : V), x = .ref a ∧ H1 a = some (ErO (.ref D) (some dd) a) ∧ H1 dd = some (.xd fs) ∧ fs.lookup f = some v ∧ ErC K D ∧ PySem.W.findIn K (.ref D) f = some none ∧ Q v H1
theorem pe_erF {X : Cx} {e : Expr} {te : TE} {pos : Pos} {f : Str} (he : PE X e te) (hb : attributeBase e f X.env (eval e X.env) = eval e X.env) : PE X (.Attribute e f pos) (tErF X.K f te) := by
  refine ⟨fun pins s σ H Q I h => ?_⟩
  refine attr_of hb (thn (he.run pins s σ H _ I h) fun u s1 hh => ?_)
  obtain ⟨x, H1, I1, rx, a, D, dd, fs, v, ex, ea, ed, l, C, hno, q⟩ := hh
  subst ex
  obtain rfl : u = Value.ref a := rx
  obtain ⟨oe, od, J, hv⟩ := inst_at I1.hok ea (.inr ⟨dd, fs, rfl, ed⟩)
  obtain ⟨mA, o, hns, hr, rfl, ho⟩ := hv dd fs rfl ed
  obtain ⟨o', ho', hl⟩ := lookIn_ns hns
  rw [ho] at ho'
  cases ho'
  obtain ⟨u, hu, ru⟩ := RelO.some_of (v := v) (o := mA f) (by rw [← l]; exact hr f)
  exact HandSPX.exc_get I1.kIn J C.ga C.gg C.sb (PySem.W.findObj_own C.hd hno rfl (by rw [hl, hu])) (handed_of ru) ⟨v, H1, I1.tok _, ru, q⟩
/-- isinstance(e, t) by a table -/
def isxP (tbl : List (Str × Bool)) (x : U) (_ : Sto) : Option P := match x with
  | .p (.err c _) => (tbl.lookup c).map .bl
  | _ => none
theorem err_is {K : PySem.W.Frag} {H : Hp} {α : List Addr} {c : Str} {fs : List (Str × P)} {v : V} (h : Is K (hid α H) (.err c fs) v) : ∃ (a : Addr) (d : Option Addr), v = .ref a ∧ H a = some (ErO (.ref (He.ga K c)) d a) ∧ DcO H d ∧ (∀ f y, fs.lookup f = some y → ∃ dd w, d = some dd ∧ H dd = some (.xd [(f, w)]) ∧ Is K (hid α H) y w) := by
  cases h with
  | err0 h1 => exact ⟨_, none, rfl, (hid_some h1).2, .inl rfl, fun f y e => by simp at e⟩
  | err1 h1 h2 h3 =>
    refine ⟨_, _, rfl, (hid_some h1).2, .inr ⟨_, _, rfl, (hid_some h2).2⟩, fun f y e => ?_⟩
    rw [List.lookup_cons] at e
    split at e
    · rename_i q
      cases e
      have q := eq_of_beq q
      subst q
      exact ⟨_, _, rfl, (hid_some h2).2, h3⟩
    · simp at e
theorem e_isx {X : Cx} {W : XK} {pos p p2 : Pos} {e : Expr} {fa : FE} {t : Str} {cV : V} {cv : Value} {tbl : List (Str × Bool)} (hg : Gl X "isinstance") (hm : X.mg "isinstance" = none) (hs : noStar e = true) (hT : PE X (.Name t p2) (tC cV)) (hcv : ∀ u, RelV cV u → u = cv)
    (hk : ∀ c b, tbl.lookup c = some b → ErC X.K (He.ga X.K c) ∧ PySem.W.kitOne X.K (.ref (He.ga X.K c)) cv = some b) (ha : PE X e (tE X.K W fa)) : PE X (.Call (.Name "isinstance" p) [e, .Name t p2] [] pos) (tE X.K W (fUn (isxP tbl) fa)) := by
  have hA : PA X [e, .Name t p2] (tCons (tE X.K W fa) (tCons (tC cV) tNil)) := pa_cons ha (pa_cons hT pa_nil rfl) (star_cons hs)
  refine (pe_callB call_isX hg hm (by rfl) hA (by decide) (by decide) (star_cons hs) (back_any rfl)).weak fun σ H Q ⟨ρ, α, S, hE, cs, h⟩ => ?_
  refine ⟨ρ, α, S, hE, cs, step cs hE h fun x S1 β H1 af hE1 c1 h1 v hv => ?_⟩
  obtain ⟨z, ez, q⟩ := lift_inv h1
  unfold isxP at ez
  split at ez
  · rename_i c fs
    obtain ⟨b, e1, e2⟩ := Option.map_eq_some_iff.mp ez
    subst e2
    obtain ⟨a, d, rfl, g1, g2, _⟩ := err_is (show Is X.K _ (.err c fs) v from hv)
    obtain ⟨C, k⟩ := hk c b e1
    exact ⟨a, _, cV, cv, b, d, rfl, hcv, g1, g2, C, k, q _ _ (.refl c1) (.bl b)⟩
  · cases ez
def erfP (f : Str) (cs : List Str) (x : U) (_ : Sto) : Option P := match x with
  | .p (.err c fs) => if c ∈ cs then fs.lookup f else none
  | _ => none
theorem e_erf {X : Cx} {W : XK} {pos : Pos} {e : Expr} {fa : FE} {f : Str} {cs : List Str} (hs : noSuper e = true) (hc : ∀ c ∈ cs, ErC X.K (He.ga X.K c) ∧ PySem.W.findIn X.K (.ref (He.ga X.K c)) f = some none) (ha : PE X e (tE X.K W fa)) : PE X (.Attribute e f pos) (tE X.K W (fUn (erfP f cs) fa)) := by
  refine (pe_erF ha (base_free hs)).weak fun σ H Q ⟨ρ, α, S, hE, c0, h⟩ => ?_
  refine ⟨ρ, α, S, hE, c0, step c0 hE h fun x S1 β H1 af hE1 c1 h1 v hv => ?_⟩
  obtain ⟨z, ez, q⟩ := lift_inv h1
  unfold erfP at ez
  split at ez
  · rename_i c fs
    split at ez
    · rename_i hm
      obtain ⟨a, d, rfl, g1, g2, g3⟩ := err_is (show Is X.K _ (.err c fs) v from hv)
      obtain ⟨dd, w, rfl, g4, g5⟩ := g3 f z ez
      obtain ⟨C, k⟩ := hc c hm
      exact ⟨a, _, dd, _, w, rfl, g1, g4, by rw [List.lookup_cons]; simp, C, k, q _ _ (.refl c1) g5⟩
    · cases ez
  · cases ez
end Ev
end
section
set_option Elab.async false
set_option linter.all false
set_option maxRecDepth 100000
set_option maxHeartbeats 1000000
/-! comprehensions, defs -/
namespace Ev
open PySem PySem.Spec PyProof.Rows L2
abbrev W0 : XK := fun _ _ _ => False
def noex {A : Type} (m : M A) : M A := match m with
  | some (.ok a S) => some (.ok a S)
  | _ => none
theorem tG_noex {A : Type} {K : PySem.W.Frag} {W : XK} {α : List Addr} {H : Hp} {m : M A} {Po : A → Sto → List Addr → Hp → Prop} (h : tG K W α H (noex m) Po) : tG K W0 α H m Po := by
  cases m with
  | none => exact h
  | some r => cases r with
    | ok a S => exact h
    | ex x S => exact h.elim
/-- what is so however exceptions are wished for -/
theorem tG_wish {A : Type} {K : PySem.W.Frag} {W W' : XK} {α : List Addr} {H : Hp} {m : M A} {Po : A → Sto → List Addr → Hp → Prop} (h : tG K W α H m Po) (w : ∀ c d H, W c d H → W' c d H) : tG K W' α H m Po := by
  cases m with
  | none => exact h
  | some r => cases r with
    | ok a S => exact h
    | ex x S => exact fun β H' cls d a x => w _ _ _ (h β H' cls d a x)
def wipeE (ρ : En) : List Nat → En
  | [] => ρ
  | v :: vs => (wipeE ρ vs).set v none
theorem wipeE_is {K : PySem.W.Frag} {α : List Addr} {G : Hp} {ρ : En} {σ : L2.St} (h : IsE K α G ρ σ) : ∀ vs : List Nat, IsE K α G (wipeE ρ vs) (wipe σ vs)
  | [] => h
  | v :: vs => by
    have ih := wipeE_is h vs
    unfold wipeE wipe
    refine ⟨by simp [ih.len], fun i u e => ?_⟩
    by_cases hv : v = i
    · subst hv
      have hl : v < (wipeE ρ vs).length := by
        have := (List.getElem?_eq_some_iff.mp e).1
        simpa using this
      rw [List.getElem?_set_self hl] at e
      cases e
    · rw [List.getElem?_set_ne hv] at e
      obtain ⟨w, h1, h2⟩ := ih.at_ i u e
      exact ⟨w, by rw [List.getElem?_set_ne hv]; exact h1, h2⟩
theorem wipe_in {σ : L2.St} {i : Nat} : ∀ {vs : List Nat}, i ∈ vs → i < σ.length → (wipe σ vs)[i]? = some none
  | v :: vs, hi, hl => by
    unfold wipe
    by_cases hv : v = i
    · subst hv
      rw [List.getElem?_set_self (by rw [wipe_length]; exact hl)]
    · rw [List.getElem?_set_ne hv]
      exact wipe_in ((List.mem_cons.mp hi).resolve_left (fun z => hv z.symm)) hl
theorem wipe_eq {σ σ2 : L2.St} {vs : List Nat} (hl : σ2.length = σ.length) (h : ∀ j, j ∉ vs → σ2[j]? = (wipe σ vs)[j]?) : wipe σ2 vs = wipe σ vs := by
  refine List.ext_getElem? fun i => ?_
  by_cases hi : i ∈ vs
  · by_cases hlt : i < σ.length
    · rw [wipe_in hi (by omega), wipe_in hi hlt]
    · rw [List.getElem?_eq_none (by rw [wipe_length]; omega), List.getElem?_eq_none (by rw [wipe_length]; omega)]
  · rw [wipe_out hi, h i hi]
def compL (tg : Tg) (cond : FT) (elt : FE) (q : Sq) (n : Nat) : List P → En → Sto → M Unit
  | [], _, S => some (.ok () S)
  | x :: r, ρ0, S => match asg tg x ρ0 with
    | none => none
    | some ρ1 => (noex (cond ρ1 S)).bind fun b S2 => if b = true then (noex (elt ρ1 S2)).bind fun u S3 => (match u with
        | .p y => (match S3[n]? with
          | some acc => if acc.length < 1000000 ∧ srcOk q (S3.set n (acc ++ [y])) then compL tg cond elt q n r ρ0 (S3.set n (acc ++ [y])) else none
          | none => none)
        | .c _ => none) else (if srcOk q S2 then compL tg cond elt q n r ρ0 S2 else none)
def compEnd (cell : Bool) (n : Nat) (S : Sto) : M U := match S[n]? with
  | some l => if cell = true then some (.ok (.c n) (S.take (n + 1))) else some (.ok (.p (.lst l)) (S.take n))
  | none => none
def fComp (cell : Bool) (own : List Nat) (elt : FE) (tg : Tg) (it : FI) (cond : FT) : FE := fun ρ S => (it ρ S).bind fun q S1 => if srcOk q (S1 ++ [[]]) then (compL tg cond elt q S1.length q.items (wipeE ρ own) (S1 ++ [[]])).bind fun _ S2 => compEnd cell S1.length S2 else none

theorem Aft.cut {K : PySem.W.Frag} {γ : List Addr} {H1 H : Hp} {D : Addr} {rest : List Addr} {S : Sto} (af : Aft K γ H1 (D :: rest) H S) : Aft K γ H1 [D] H (S.take (γ.length + 1)) := by
  refine ⟨af.old, fun b hb => af.new b (by rw [List.mem_singleton.mp hb]; exact List.mem_cons_self), ?_⟩
  have nd := af.cs.nd
  have e : γ ++ D :: rest = (γ ++ [D]) ++ rest := by simp
  rw [e] at nd
  have hl := af.cs.len
  rw [List.length_append, List.length_cons] at hl
  have ex : Ext (hid (γ ++ D :: rest) H) (hid (γ ++ [D]) H) := fun b o q => by
    obtain ⟨h1, h2, h3⟩ := hid_all q
    exact hid_out (fun z => h1 (by rw [e]; exact List.mem_append_left _ z)) h2 h3
  refine ⟨(List.nodup_append.mp nd).1, ?_, fun i a l h1 h2 => ?_, af.cs.tb⟩
  · rw [List.length_append, List.length_singleton, List.length_take]; omega
  · have h3 : (γ ++ D :: rest)[i]? = some a := by
      rw [e, List.getElem?_append_left (List.getElem?_eq_some_iff.mp h1).1]; exact h1
    have hi : i < γ.length + 1 := by
      have := (List.getElem?_eq_some_iff.mp h1).1
      rwa [List.length_append, List.length_singleton] at this
    rw [List.getElem?_take_of_lt hi] at h2
    obtain ⟨xs, h4, h5⟩ := af.cs.at_ i a l h3 h2
    exact ⟨xs, h4, h5.ext ex⟩
theorem Aft.cut0 {K : PySem.W.Frag} {γ : List Addr} {H1 H : Hp} {rest : List Addr} {S : Sto} (af : Aft K γ H1 rest H S) : Aft K γ H1 [] H (S.take γ.length) := by
  refine ⟨af.old, fun b hb => absurd hb (by simp), ?_⟩
  rw [List.append_nil]
  have nd := af.cs.nd
  have hl := af.cs.len
  rw [List.length_append] at hl
  have ex : Ext (hid (γ ++ rest) H) (hid γ H) := fun b o q => by
    obtain ⟨h1, h2, h3⟩ := hid_all q
    exact hid_out (fun z => h1 (List.mem_append_left _ z)) h2 h3
  refine ⟨(List.nodup_append.mp nd).1, ?_, fun i a l h1 h2 => ?_, af.cs.tb⟩
  · rw [List.length_take]; omega
  · have hi := (List.getElem?_eq_some_iff.mp h1).1
    have h3 : (γ ++ rest)[i]? = some a := by
      rw [List.getElem?_append_left hi]; exact h1
    rw [List.getElem?_take_of_lt hi] at h2
    obtain ⟨xs, h4, h5⟩ := af.cs.at_ i a l h3 h2
    exact ⟨xs, h4, h5.ext ex⟩
/-- the end of a comprehension -/
theorem comp_end {K : PySem.W.Frag} {W : XK} {γ : List Addr} {H1 H : Hp} {D : Addr} {rest : List Addr} {S : Sto} {cell : Bool} {Q : VK} (af : Aft K γ H1 (D :: rest) H S)
    (h : tG K W γ H1 (compEnd cell γ.length S) (PoE K Q)) : Q (.ref D) H := by
  have hD : (γ ++ D :: rest)[γ.length]? = some D := by
    rw [List.getElem?_append_right (Nat.le_refl _)]; simp
  unfold compEnd at h
  cases e : S[γ.length]? with
  | none => rw [e] at h; exact h.elim
  | some l =>
    rw [e] at h
    dsimp only at h
    obtain ⟨xs, h1, h2⟩ := af.cs.at_ _ _ _ hD e
    cases cell with
    | true =>
      rw [if_pos rfl] at h
      refine tG_ok h af.cut _ ⟨D, ?_, rfl⟩
      rw [List.getElem?_append_right (Nat.le_refl _)]; simp
    | false =>
      rw [if_neg (by decide)] at h
      refine tG_ok0 h af.cut0 _ (.lst (xs := xs) ?_ (h2.ext fun b o q => ?_))
      · have nd := af.cs.nd
        exact hid_out (fun z => (List.nodup_append.mp nd).2.2 D z D List.mem_cons_self rfl) h1 fun _ z => by cases z
      · obtain ⟨h1, h2, h3⟩ := hid_all q
        exact hid_out (fun z => h1 (List.mem_append_left _ z)) h2 h3
section
variable {X : Cx} {W : XK} {pos : Pos}
theorem comp_go {K : PySem.W.Frag} {tg : Tg} {cond : FT} {elt : FE} {q : Sq} {J : It} {St : List Addr → Hp → Prop} {Q : VK} {σ : L2.St} {H1 : Hp} {ρ : En} {γ : List Addr} {S1 : Sto} {vs : List Nat} {cell : Bool} {D : Addr}
    (hv : ∀ j ∈ slots tg, j ∈ vs) (src : SrcI K J q St) (hE : IsE K γ (hid γ H1) ρ σ) (c : Cs K H1 γ S1) (hS : St γ H1) (hD : H1 D = none)
    (h : tG K W γ H1 (if srcOk q (S1 ++ [[]]) then (compL tg cond elt q S1.length q.items (wipeE ρ vs) (S1 ++ [[]])).bind fun _ S2 => compEnd cell S1.length S2 else none) (PoE K Q)) :
    ∃ Wf : Nat → Nat → Hp → Prop, (∃ m, Wf 0 m (upd H1 D (.lst []))) ∧ ∀ i m H, Wf i m H →
      (J.stop i H ∧ Q (.ref D) H) ∨ (J.go i H ∧ ∃ Nx : Hp → Prop, (∀ H', Nx H' → ∃ m', m' < m ∧ Wf (i + 1) m' H') ∧ ∀ x H', J.yld i H x H' → gOf K tg x (wipe σ vs) H' fun σ2 H2 => wipe σ2 vs = wipe σ vs ∧ tT K W0 cond σ2 H2 fun b H3 =>
        if b = true then tE K W0 elt σ2 H3 fun y H4 => ∃ acc, H4 D = some (.lst acc) ∧ acc.length < sizeLine ∧ Nx (upd H4 D (.lst (acc ++ [y]))) else Nx H3) := by
  split at h
  case isFalse => exact h.elim
  case isTrue so0 =>
  rw [← c.len] at h
  have af0 : Aft K γ H1 [D] (upd H1 D (.lst [])) (S1 ++ [[]]) := new_cell c hD .nil
  have hS0 := src.keep γ [D] _ _ _ _ c so0 hS af0
  refine ⟨fun i m H => m = q.items.length - i ∧ i ≤ q.items.length ∧ ∃ rest S, Aft K γ H1 (D :: rest) H S ∧ St (γ ++ D :: rest) H ∧ srcOk q S ∧
    tG K W γ H1 ((compL tg cond elt q γ.length (q.items.drop i) (wipeE ρ vs) S).bind fun _ S2 => compEnd cell γ.length S2) (PoE K Q), ⟨_, rfl, Nat.zero_le _, [], _, af0, hS0, so0, h⟩, ?_⟩
  rintro i m H ⟨rfl, hi, rest, S, af, hS, so, h⟩
  have hDi : ∀ r : List Addr, (γ ++ D :: r)[γ.length]? = some D := fun r => by
    rw [List.getElem?_append_right (Nat.le_refl _)]; simp
  by_cases hlt : i < q.items.length
  · refine .inr ⟨src.goes _ H i hS hlt, fun H' => i + 1 ≤ q.items.length ∧ ∃ rest S, Aft K γ H1 (D :: rest) H' S ∧ St (γ ++ D :: rest) H' ∧ srcOk q S ∧
      tG K W γ H1 ((compL tg cond elt q γ.length (q.items.drop (i + 1)) (wipeE ρ vs) S).bind fun _ S2 => compEnd cell γ.length S2) (PoE K Q), fun H' ⟨h1, h2⟩ => ⟨q.items.length - (i + 1), by omega, rfl, h1, h2⟩, fun v H' y => ?_⟩
    have e1 : q.items[i]? = some q.items[i] := List.getElem?_eq_getElem hlt
    obtain ⟨af1, hx⟩ := src.yld _ H S i _ v H' af.cs hS e1 y
    rw [List.drop_eq_getElem_cons hlt] at h
    unfold compL at h
    have af2 := af.trans c af1
    rw [List.append_nil] at af2
    have hS2 : St (γ ++ D :: rest) H' := by
      have z := src.keep _ [] H H' S S af.cs so hS af1
      rwa [List.append_nil] at z
    have hE2 : IsE K (γ ++ D :: rest) (hid (γ ++ D :: rest) H') (wipeE ρ vs) (wipe σ vs) := wipeE_is (hE.aft af2) vs
    cases e2 : asg tg q.items[i] (wipeE ρ vs) with
    | none => rw [e2] at h; exact h.elim
    | some ρ1 =>
      rw [e2] at h
      dsimp only at h
      refine g_go tg _ v _ ρ1 _ _ e2 hE2 hx fun σ2 hE3 l2 o2 => ⟨wipe_eq (by rw [l2, wipe_length]) fun j hj => o2 j fun z => hj (hv j z), ρ1, _, S, hE3, af2.cs, ?_⟩
      cases e3 : cond ρ1 S with
      | none => rw [e3] at h; exact h.elim
      | some r =>
        cases r with
        | ex x S2 => rw [e3] at h; exact h.elim
        | ok b S2 =>
          rw [e3] at h
          have h : tG K W γ H1 (M.bind (if b = true then (noex (elt ρ1 S2)).bind fun u S3 => (match u with
            | .p y => (match S3[γ.length]? with
              | some acc => if acc.length < 1000000 ∧ srcOk q (S3.set γ.length (acc ++ [y])) then compL tg cond elt q γ.length (q.items.drop (i + 1)) (wipeE ρ vs) (S3.set γ.length (acc ++ [y])) else none
              | none => none)
            | .c _ => none) else (if srcOk q S2 then compL tg cond elt q γ.length (q.items.drop (i + 1)) (wipeE ρ vs) S2 else none)) fun _ S2 => compEnd cell γ.length S2) (PoE K Q) := h
          intro β3 H3 af3
          have af4 := af2.trans c af3
          show if b = true then _ else _
          cases b with
          | false =>
            rw [if_neg (by decide)] at h ⊢
            split at h
            · rename_i so3
              refine ⟨hlt, rest ++ β3, S2, by simpa using af4, ?_, so3, h⟩
              have z := src.keep _ _ _ _ _ _ af2.cs so3 hS2 af3
              simpa using z
            · exact h.elim
          | true =>
            rw [if_pos rfl] at h ⊢
            refine ⟨ρ1, _, S2, hE3.aft af3, af3.cs, ?_⟩
            cases e4 : elt ρ1 S2 with
            | none => rw [e4] at h; exact h.elim
            | some r =>
              cases r with
              | ex x S3 => rw [e4] at h; exact h.elim
              | ok u S3 =>
                rw [e4] at h
                cases u with
                | c n => exact h.elim
                | p y =>
                  have h : tG K W γ H1 (M.bind (match S3[γ.length]? with
                    | some acc => if acc.length < 1000000 ∧ srcOk q (S3.set γ.length (acc ++ [y])) then compL tg cond elt q γ.length (q.items.drop (i + 1)) (wipeE ρ vs) (S3.set γ.length (acc ++ [y])) else none
                    | none => none) fun _ S2 => compEnd cell γ.length S2) (PoE K Q) := h
                  intro β4 H4 af5 w hw
                  have af6 := (af2.trans c af3).trans c (by simpa using af5)
                  have af6 : Aft K γ H1 (D :: (rest ++ β3 ++ β4)) H4 S3 := by simpa using af6
                  have hDr := hDi (rest ++ β3 ++ β4)
                  cases e5 : S3[γ.length]? with
                  | none => rw [e5] at h; exact h.elim
                  | some l =>
                    rw [e5] at h
                    dsimp only at h
                    split at h
                    · rename_i hz
                      obtain ⟨ys, hy, hA2⟩ := af6.cs.at_ _ D l hDr e5
                      have hw : IsU K (γ ++ D :: (rest ++ β3 ++ β4)) (hid (γ ++ D :: (rest ++ β3 ++ β4)) H4) (.p y) w := by simpa using hw
                      have hw : Is K (hid (γ ++ D :: (rest ++ β3 ++ β4)) H4) y w := hw
                      have af7 := cell_set af6.cs hDr (hA2.append (.cons hw .nil))
                      have af8 := af6.trans c af7
                      rw [List.append_nil] at af8
                      refine ⟨ys, hy, by rw [← hA2.length, sizeLine_eq]; omega, hlt, _, _, af8, ?_, hz.2, h⟩
                      have af9 := (af3.trans af2.cs (by simpa using af5)).trans af2.cs (by simpa using af7)
                      have z := src.keep _ _ _ _ _ _ af2.cs hz.2 hS2 af9
                      simpa using z
                    · exact h.elim
  · have e : i = q.items.length := by omega
    subst e
    rw [List.drop_length] at h
    exact .inl ⟨src.stops _ H hS, comp_end af h⟩
theorem lc_form {tg : Tg} {fi : FI} {cond : FT} {elt : FE} {vs : List Nat} {cell : Bool} {K : PySem.W.Frag} {σ : L2.St} {H : Hp} {Q : VK} (hv : ∀ j ∈ slots tg, j ∈ vs) (h : tE K W (fComp cell vs elt tg fi cond) σ H Q) :
    tLc (tI K W fi) (gOf K tg) (tT K W0 cond) (tE K W0 elt) vs σ H Q := by
  obtain ⟨ρ, α, S, hE, c, h⟩ := h
  refine ⟨ρ, α, S, hE, c, step c hE h fun q S1 β H1 af hE1 c1 h1 J St src hS so D hD => ?_⟩
  exact comp_go hv src hE1 c1 hS hD h1
theorem e_comp {elt tg iter : Expr} {ifs : List Expr} {scope : Scope} {own : List (Str × Nat)} {t : Tg} {fi : FI} {cond : FT} {fe : FE} (cell : Bool) (hc : X.calm = true) (hN : X.N.Nodup) (hn : noSet iter = true) (ok : BlkOk X.N X.env.scope scope own) (hv : ∀ j ∈ slots t, j ∈ own.map (·.2)) (hi : PI X tg iter (tI X.K W fi))
    (hg : ∀ (s : Shared) (H : Hp) (C : Addr) (cl : List (Str × Addr)) (fp : List Addr), PG (X.blk s H scope (compEnvC scope cl C X.env) fp) tg (gOf X.K t)) (ht : ∀ (s : Shared) (H : Hp) (C : Addr) (cl : List (Str × Addr)) (fp : List Addr), PTs (X.blk s H scope (compEnvC scope cl C X.env) fp) ifs (tT X.K W0 cond))
    (he : ∀ (s : Shared) (H : Hp) (C : Addr) (cl : List (Str × Addr)) (fp : List Addr), PE (X.blk s H scope (compEnvC scope cl C X.env) fp) elt (tE X.K W0 fe)) :
    PE X (.ListComp elt [⟨tg, iter, ifs, 0⟩] scope pos) (tE X.K W (fComp cell (own.map (·.2)) fe t fi cond)) :=
  (pe_lc hc hN hi ok hg ht he (set_free hn)).weak fun σ H Q h => lc_form hv h
/-- name = [..] on one line -/
theorem s_setComp {i : Nat} {y : Str} {py spos : Pos} {elt tg iter : Expr} {ifs : List Expr} {scope : Scope} {own : List (Str × Nat)} {t : Tg} {fi : FI} {cond : FT} {fe : FE} (cell : Bool) (hc : X.calm = true) (hN : X.N.Nodup) (hy : X.N[i]? = some y) (hyl : X.env.scope.names.lookup y = some .local)
    (hsw : swapsWith (.ListComp elt [⟨tg, iter, ifs, 0⟩] scope pos) (some (.Name y py)) spos.line X.env = pure true) (hn : noSet iter = true) (ok : BlkOk X.N X.env.scope scope own) (hv : ∀ j ∈ slots t, j ∈ own.map (·.2)) (hi : PI X tg iter (tI X.K W fi))
    (hg : ∀ (s : Shared) (H : Hp) (C : Addr) (cl : List (Str × Addr)) (fp : List Addr), PG (X.blk s H scope (compEnvC scope cl C X.env) fp) tg (gOf X.K t)) (ht : ∀ (s : Shared) (H : Hp) (C : Addr) (cl : List (Str × Addr)) (fp : List Addr), PTs (X.blk s H scope (compEnvC scope cl C X.env) fp) ifs (tT X.K W0 cond))
    (he : ∀ (s : Shared) (H : Hp) (C : Addr) (cl : List (Str × Addr)) (fp : List Addr), PE (X.blk s H scope (compEnvC scope cl C X.env) fp) elt (tE X.K W0 fe)) :
    PS X (.Assign [.Name y py] (.ListComp elt [⟨tg, iter, ifs, 0⟩] scope pos) spos) (tS X.K W (fSet i (fComp cell (own.map (·.2)) fe t fi cond))) :=
  (ps_setLc hc hN hy hyl hsw hi ok hg ht he (set_free hn)).weak fun D σ H ⟨ρ, α, S, hE, c, h⟩ => by
    refine lc_form (cell := cell) hv ⟨ρ, α, S, hE, c, step c hE h fun u S1 β H1 af hE1 c1 h1 v hv => ?_⟩
    exact tG_ok0 h1 (.refl c1) _ (hE1.set i hv)
theorem ts_nil : PTs X [] (tT X.K W (fun _ S => some (.ok true S))) := ⟨fun pins s σ H Q I ⟨ρ, α, S, hE, c, h⟩ => pts_nil.run pins s σ H Q I (tG_ok0 h (.refl c))⟩
theorem ts_one {e : Expr} {ft : FT} (h : PT X e (tT X.K W ft)) : PTs X [e] (tT X.K W ft) := pts_one h
end
end Ev
end
section
set_option Elab.async false
set_option linter.all false
set_option maxRecDepth 100000
set_option maxHeartbeats 1000000
/-! defs -/
namespace Ev
open PySem PySem.Spec PyProof.Rows L2
def outU : Out → Option U
  | .nx _ => some (.p .non)
  | .rt u => some u
  | _ => none
def runB (fb : FS) (n : Nat) (us : List U) (S : Sto) : M U := (fb (us.map some ++ List.replicate (n - us.length) none) S).bind fun o S1 => match outU o with
  | some u => some (.ok u S1)
  | none => none
/-- what a def does: n names, a body -/
def fDef (n : Nat) (fb : FS) (us : List U) (S : Sto) : M U := trunc S.length (runB fb n us S)
theorem isE_start {K : PySem.W.Frag} {α : List Addr} {G : Hp} {N : List Str} : ∀ {us : List U} {vs : List V}, IsUs K α G us vs → IsE K α G (us.map some ++ List.replicate (N.length - us.length) none) (start N vs) := by
  intro us vs h
  have hl := h.length
  refine ⟨by simp [L2.start, hl], fun i u e => ?_⟩
  unfold L2.start
  have key : ∀ {us : List U} {vs : List V}, IsUs K α G us vs → ∀ {i : Nat} {u : U}, us[i]? = some u → ∃ v, vs[i]? = some v ∧ IsU K α G u v := by
    intro us vs h
    induction h with
    | nil => intro i u e; simp at e
    | cons a b ih =>
      intro i u e
      cases i with
      | zero => simp at e; subst e; exact ⟨_, rfl, a⟩
      | succ i => exact ih (by simpa using e)
  by_cases hi : i < us.length
  · rw [List.getElem?_append_left (by simpa using hi), List.getElem?_map] at e
    cases e1 : us[i]? with
    | none => rw [e1] at e; cases e
    | some w =>
      rw [e1] at e
      cases e
      obtain ⟨v, h1, h2⟩ := key h e1
      refine ⟨v, ?_, h2⟩
      rw [List.getElem?_append_left (by simpa [← hl] using hi), List.getElem?_map, h1]
      rfl
  · rw [List.getElem?_append_right (by simpa using hi), List.getElem?_replicate] at e
    split at e <;> cases e
theorem Aft.cutAt {K : PySem.W.Frag} {γ : List Addr} {H1 H : Hp} {β : List Addr} {S : Sto} {k : Nat} {l : List P} {a : Addr} (af : Aft K γ H1 β H S) (hk : γ.length ≤ k) (ha : (γ ++ β)[k]? = some a) (e : S[k]? = some l) :
    Aft K γ H1 [a] H (S.take γ.length ++ [l]) := by
  have hab : a ∈ β := by
    rw [List.getElem?_append_right hk] at ha
    exact List.mem_of_getElem? ha
  refine ⟨af.old, fun b hb => af.new b (by rw [List.mem_singleton.mp hb]; exact hab), ?_⟩
  have nd := List.nodup_append.mp af.cs.nd
  have hl := af.cs.len
  rw [List.length_append] at hl
  have ex : Ext (hid (γ ++ β) H) (hid (γ ++ [a]) H) := fun b o q => by
    obtain ⟨h1, h2, h3⟩ := hid_all q
    exact hid_out (fun z => h1 (by
      rcases List.mem_append.mp z with z | z
      · exact List.mem_append_left _ z
      · rw [List.mem_singleton.mp z]; exact List.mem_append_right _ hab)) h2 h3
  refine ⟨?_, ?_, fun i b m h1 h2 => ?_, af.cs.tb⟩
  · rw [List.nodup_append]
    exact ⟨nd.1, by simp, fun x hx y hy z => nd.2.2 x hx a hab (by rw [List.mem_singleton.mp hy] at z; exact z)⟩
  · rw [List.length_append, List.length_append, List.length_take]; simp; omega
  · by_cases hi : i < γ.length
    · rw [List.getElem?_append_left hi] at h1
      rw [List.getElem?_append_left (by rw [List.length_take]; omega), List.getElem?_take_of_lt hi] at h2
      obtain ⟨xs, h4, h5⟩ := af.cs.at_ i b m (by rw [List.getElem?_append_left hi]; exact h1) h2
      exact ⟨xs, h4, h5.ext ex⟩
    · have hl1 := (List.getElem?_eq_some_iff.mp h1).1
      rw [List.length_append, List.length_singleton] at hl1
      have e1 : i = γ.length := by omega
      subst e1
      rw [List.getElem?_append_right (Nat.le_refl _)] at h1
      rw [List.getElem?_append_right (by rw [List.length_take]; omega), List.length_take] at h2
      simp at h1
      subst h1
      have e2 : γ.length - min γ.length S.length = 0 := by omega
      rw [e2] at h2
      simp at h2
      subst h2
      obtain ⟨xs, h4, h5⟩ := af.cs.at_ k a l ha e
      exact ⟨xs, h4, h5.ext ex⟩
theorem ext_less {γ β : List Addr} {H : Hp} : Ext (hid (γ ++ β) H) (hid γ H) := fun b o q => by
  obtain ⟨h1, h2, h3⟩ := hid_all q
  exact hid_out (fun z => h1 (List.mem_append_left _ z)) h2 h3
/-- what a body leads to, as what the def leads to -/
theorem run_body {K : PySem.W.Frag} {E : XK} {Q : VK} {α : List Addr} {H : Hp} {S : Sto} {fb : FS} {n : Nat} {us : List U} (c : Cs K H α S) (h : tG K E α H (fDef n fb us S) (PoE K Q)) :
    tG K E α H (fb (us.map some ++ List.replicate (n - us.length) none) S) (PoS K { nx := fun _ H' => Q .non H', rt := Q }) := by
  unfold fDef runB at h
  rw [← c.len] at h
  generalize fb (us.map some ++ List.replicate (n - us.length) none) S = m at h
  cases m with
  | none => exact h
  | some r =>
    cases r with
    | ex x S' =>
      refine fun β H' cls d af hx => ?_
      refine h [] H' cls d af.cut0 ?_
      rw [List.append_nil]
      obtain ⟨h1, h2⟩ := hx
      refine ⟨h1, ?_⟩
      revert h2
      cases x.arg with
      | none => exact fun z => z
      | some q => exact fun ⟨dd, v, a, b, c⟩ => ⟨dd, v, a, b, c.ext ext_less⟩
    | ok o S' =>
      refine fun β H' af => ?_
      cases o with
      | nx ρ => exact fun σ _ => tG_ok0 (show tG K E α H (some (.ok (.p .non) (S'.take α.length))) (PoE K Q) from h) af.cut0 _ .non
      | bk ρ => exact h.elim
      | ct ρ => exact h.elim
      | rt u =>
        intro v hv
        cases u with
        | p x => exact tG_ok0 (show tG K E α H (some (.ok (.p x) (S'.take α.length))) (PoE K Q) from h) af.cut0 _ (Is.ext ext_less hv)
        | c k =>
          have h : tG K E α H (if k < α.length then some (.ok (.c k) (S'.take α.length)) else (match S'[k]? with
            | some l => some (.ok (.c α.length) (S'.take α.length ++ [l]))
            | none => none)) (PoE K Q) := h
          obtain ⟨a, ha, rfl⟩ := hv
          split at h
          · rename_i hk
            rw [List.getElem?_append_left hk] at ha
            exact tG_ok0 h af.cut0 _ ⟨a, ha, rfl⟩
          · rename_i hk
            cases e : S'[k]? with
            | none => rw [e] at h; exact h.elim
            | some l =>
              rw [e] at h
              refine tG_ok h (af.cutAt (by omega) ha e) _ ⟨a, ?_, rfl⟩
              rw [List.getElem?_append_right (Nat.le_refl _)]
              simp
/-- THE RULE for a def -/
theorem fn_ev {P : Program} {w : World} {K : PySem.W.Frag} {mg : Str → Option Value} {base : Heap} {x qual : Str} {params : Arguments} {body : List Stmt} {scope : Scope} {dvs : List V} {kws : List (Str × V)} {f : Addr} {fd : FuncData} {N ps : List Str} {k : Nat} {fb : FS}
    (F : FunD K x qual params body scope dvs kws f fd) (Sc : FnScope N ps scope)
    (hb : ∀ (cdv : Value) (A : Around) (outer : List Env) (s : Shared) (H : Hp) (E : XK), fd.code = cdv → Room k (A.deeper (envOfC qual scope s.heap.objs.size f cdv)) → Free (A.deeper (envOfC qual scope s.heap.objs.size f cdv)) →
      PSs (cxOf (L2.CX P w) P w K mg base N qual scope f cdv A outer s H E) body (tS K E fb)) :
    FnG P w K mg base (L2.CX P w) (k + 1) f fd ps (spF K ps.length (fDef N.length fb)) := by
  refine fnG_of F Sc (fun vs H Q E ⟨α, S, us, _, l, r, _⟩ => by rw [← r.length]; exact l) fun cdv A outer s H vs Q E hc hr hf hs => ⟨_, hb cdv A outer s H E hc hr hf, ?_⟩
  obtain ⟨α, S, us, c, l, r, h⟩ := hs
  exact ⟨_, α, S, isE_start r, c, run_body c h⟩
end Ev
end
section
set_option Elab.async false
set_option linter.all false
set_option maxRecDepth 100000
set_option maxHeartbeats 1000000
/-! defs that may be called where an error is held -/
namespace Ev
open PySem PySem.Spec PyProof.Rows L2
/-- the context of such a def's body -/
abbrev cxW (CX : CXT) (P : Program) (w : World) (K : PySem.W.Frag) (mg : Str → Option Value) (base : Heap) (N : List Str) (qual : Str) (scope : Scope) (f : Addr) (cd : Value) (A : Around) (outer : List Env) (s : Shared) (H : Hp) (E : XK) : Cx :=
  { cxOf CX P w K mg base N qual scope f cd A outer s H E with calm := false }
structure FnW (P : Program) (w : World) (K : PySem.W.Frag) (mg : Str → Option Value) (base : Heap) (CX : CXT) (k : Nat) (f : Addr) (fd : FuncData) (ps : List Str) (sp : Sp) : Prop where
  len : ∀ vs H Q E, sp vs H Q E → vs.length = ps.length
  run : ∀ (A : Around) (outer : List Env) (s : Shared) (H : Hp) (args : Args) (us : List Value) (vs : List V) (Q : VK) (E : XK), L2H.RoomH k A → Free A → Env0 P w K mg base A outer s H → BindsTo s fd args (ps.zip us) → Vals vs us → sp vs H Q E →
    codeAny (model P w) A (.call (.ref f) args) (CR CX outer P w H s Q E) s
section
variable {P : Program} {w : World} {K : PySem.W.Frag} {mg : Str → Option Value} {base : Heap} {CX : CXT}
theorem FnW.mono {j k : Nat} {f : Addr} {fd : FuncData} {ps : List Str} {sp : Sp} (F : FnW P w K mg base CX j f fd ps sp) (h : j ≤ k) : FnW P w K mg base CX k f fd ps sp := ⟨F.len, fun A outer s H args us vs Q E hr => F.run A outer s H args us vs Q E (hr.mono h)⟩
theorem env_mark {A : Around} {outer : List Env} {s : Shared} {H : Hp} (e : Env0 P w K mg base A outer s H) : Env0 P w K mg base { A with handled := none } outer s H := ⟨e.frames, e.mod, e.bs, e.bsz, e.funs, e.frf, e.hok, e.bare⟩
theorem fnW_of {x qual : Str} {params : Arguments} {body : List Stmt} {scope : Scope} {dvs : List V} {kws : List (Str × V)} {f : Addr} {fd : FuncData} {N ps : List Str} {k : Nat} {sp : Sp}
    (F : FunD K x qual params body scope dvs kws f fd) (S : FnScope N ps scope) (len : ∀ vs H Q E, sp vs H Q E → vs.length = ps.length)
    (hbody : ∀ (cdv : Value) (A : Around) (outer : List Env) (s : Shared) (H : Hp) (vs : List V) (Q : VK) (E : XK), L2H.RoomH k (A.deeper (envOfC qual scope s.heap.objs.size f cdv)) → Free (A.deeper (envOfC qual scope s.heap.objs.size f cdv)) → sp vs H Q E →
      ∃ t, PSs (cxW CX P w K mg base N qual scope f cdv A outer s H E) body t ∧ t { nx := fun _ H' => Q .non H', rt := Q } (L2.start N vs) H) : FnW P w K mg base CX (k + 1) f fd ps sp := by
  obtain ⟨oc, od, dV, kV, doc, pm, an, cdv, ct, osl, rfl, lk, hcd, _, _⟩ := F.ex
  refine ⟨len, fun A outer s H args us vs Q E hr hf e0 hb r hsp => ?_⟩
  have kx : K.In s.heap := e0.mod.kin.keeps fun b o e => (e0.bs b o e).1
  have nl : s.heap.NoLimit := e0.mod.nolimit.keeps fun b o e => (e0.bs b o e).1
  have kd : ∀ y ∈ ps.zip us, scope.names.lookup y.1 = some .local ∨ (scope.names.lookup y.1 = some .cell ∧ ((cellsFrom (s.heap.objs.size + 1) scope.names []).lookup y.1).isSome = true) := fun ⟨n, v⟩ hy =>
    (S.par n (List.of_mem_zip hy).1).imp id fun q => ⟨q, PySem.W.cellsFrom_some _ _ _ (.inl q)⟩
  refine codeAny_call_function hr.depth (kx _ _ lk) rfl S.co S.gen rfl (PySem.W.codeRec_of kx hcd) (hb _ _ _ _ ?_)
  refine wpAny_newFunctionEnv_cells S.kind kd fun env he s1 x => ?_
  subst he
  refine ⟨nl.keeps x.toInCall.keep, codeAny_func ?_⟩
  obtain ⟨t, ht, hq⟩ := hbody cdv A outer s H vs Q E (hr.deeper _) hf hsp
  have I := inv_start (CX := CX) (E := E) (qual := qual) (f := f) (cd := cdv) S (A := { A with handled := none }) rfl (env_mark e0) (len _ _ _ _ hsp) r x
  have ok := I.ok
  have J : Inv (cxW CX P w K mg base N qual scope f cdv A outer s H E) [] (L2.start N vs) H s1 :=
    ⟨⟨ok.mod, ok.kind, ok.glob, ok.blt, ok.above, ok.inj, ok.has, ok.cab, (fun z => by cases z), ok.frames, ok.stk, ok.exf, ok.bs, ok.bsz, ok.noex, ok.exfs, ok.funs, ok.frf⟩, I.os, I.bare, I.base, I.loc, I.cell, I.free, I.freeC, I.pin, I.hok, I.len⟩
  refine wpAny_mono (ht.run [] s1 (L2.start N vs) H _ J hq) (fun fl s' hs => ?_) fun e s' hs => hs
  cases fl with
  | ret u => obtain ⟨v, σ', H', J, rv, q⟩ := hs; exact ⟨v, H', J.os, J.bare, J.base, J.hok, rv, q⟩
  | next => obtain ⟨σ', H', J, q⟩ := hs; exact ⟨V.non, H', J.os, J.bare, J.base, J.hok, rfl, q⟩
  | brk => obtain ⟨_, _, _, q⟩ := hs; exact q.elim
  | cont => obtain ⟨_, _, _, q⟩ := hs; exact q.elim
theorem fn_evW {P : Program} {w : World} {K : PySem.W.Frag} {mg : Str → Option Value} {base : Heap} {x qual : Str} {params : Arguments} {body : List Stmt} {scope : Scope} {dvs : List V} {kws : List (Str × V)} {f : Addr} {fd : FuncData} {N ps : List Str} {k : Nat} {fb : FS}
    (F : FunD K x qual params body scope dvs kws f fd) (Sc : FnScope N ps scope)
    (hb : ∀ (cdv : Value) (A : Around) (outer : List Env) (s : Shared) (H : Hp) (E : XK), L2H.RoomH k (A.deeper (envOfC qual scope s.heap.objs.size f cdv)) → Free (A.deeper (envOfC qual scope s.heap.objs.size f cdv)) →
      PSs (cxW (L2.CX P w) P w K mg base N qual scope f cdv A outer s H E) body (tS K E fb)) :
    FnW P w K mg base (L2.CX P w) (k + 1) f fd ps (spF K ps.length (fDef N.length fb)) := by
  refine fnW_of F Sc (fun vs H Q E ⟨α, S, us, _, l, r, _⟩ => by rw [← r.length]; exact l) fun cdv A outer s H vs Q E hr hf hs => ⟨_, hb cdv A outer s H E hr hf, ?_⟩
  obtain ⟨α, S, us, c, l, r, h⟩ := hs
  exact ⟨_, α, S, isE_start r, c, run_body c h⟩
end
section
variable {X : Cx} {k : Nat} {f : Addr} {fd : FuncData} {ps : List Str} {E : XK}
/-- the callee runs, whatever is held -/
theorem runW {pins : List (Addr × Obj)} {σ : L2.St} {H : Hp} {s : Shared} {Q : VK} {us : List Value} {vs : List V} {sp : Sp} (F : FnW X.prog X.w X.K X.mg X.base (L2.CX X.prog X.w) k f fd ps sp) (hr : L2H.RoomH k X.A) (hf : Free X.A) (hb : L2.Binds X.K fd ps []) (hx : Passes (L2.CX X.prog X.w) X E)
    (I : Inv X pins σ H s) (r : Vals vs us) (h : sp vs H Q E) : wpAny (model X.prog X.w) X.A (call (.ref f) us) (EP X pins σ Q) X.xe s := by
  have hl : us.length = ps.length := by rw [← r.length]; exact F.len _ _ _ _ h
  have hb' := hb s us I.kIn (by simpa using hl)
  rw [List.append_nil] at hb'
  refine wpAny_call (codeAny_mono (F.run X.A X.stack s H _ _ vs Q E hr hf I.env0 hb' r h) fun q s' hq => ?_)
  cases q with
  | error e => exact hx pins σ H s e s' I hq
  | ok fl =>
    cases fl with
    | ret u => exact I.after hq
    | next => exact hq.elim
    | brk => exact hq.elim
    | cont => exact hq.elim
/-- f(a): a call where an error is held -/
theorem e_callW {W : XK} {x : Str} {p pos : Pos} {e : Expr} {F : List U → Sto → M U} {fa : FE} (Fn : FnW X.prog X.w X.K X.mg X.base (L2.CX X.prog X.w) k f fd ps (spF X.K 1 F)) (hr : L2H.RoomH k X.A) (hf : Free X.A) (hg : Gl X x) (hm : X.mg x = some (.ref f)) (hk : PySem.W.keepIn X.K (.ref f) = true) (hb : L2.Binds X.K fd ps [])
    (hx : Passes (L2.CX X.prog X.w) X W) (hd : (x == ("__debug__" : Str)) = false) (hs : noStar e = true) (ha : PE X e (tE X.K W fa)) : PE X (.Call (.Name x p) [e] [] pos) (tE X.K W (fun ρ S => (fa ρ S).bind fun u S1 => F [u] S1)) := by
  refine ⟨fun pins s σ H Q I ⟨ρ, α, S, hE, c, h⟩ => ?_⟩
  refine wpAny_Call_Name_kw (ld_glob I hg hm (PySem.W.callWith_K (h₀ := X.base) I.ok.mod.kin hk (thn ((pa_cons ha pa_nil (star_cons hs)).run pos pins s σ H (fun vs H1 => spF X.K 1 F vs H1 Q W) I ⟨ρ, α, S, hE, c, step c hE h fun u S1 β H1 af hE1 c1 h1 v hv => ⟨α ++ β, S1, [u], c1, rfl, .cons hv .nil, h1⟩⟩)
    fun us s1 ⟨vs, H1, I1, r, q⟩ => ⟨I1.kIn, runW Fn hr hf hb hx I1 r q⟩) (star_cons hs) (back_any rfl)) hd)
end
end Ev
end
section
set_option Elab.async false
set_option linter.all false
set_option maxRecDepth 100000
set_option maxHeartbeats 2000000
/-! calls by keywords: how they bind -/
namespace Ev
open PySem PySem.Spec PyProof.Rows L2
theorem lookup_zip_none {ps : List Str} {us : List Value} {n : Str} (h : n ∉ ps) : (ps.zip us).lookup n = none := by
  induction ps generalizing us with
  | nil => rfl
  | cons p ps ih =>
    cases us with
    | nil => rfl
    | cons u us =>
      rw [List.zip_cons_cons, List.lookup_cons]
      have hp : (n == p) = false := by simp; exact fun e => h (by rw [e]; exact List.mem_cons_self)
      rw [hp]
      exact ih fun z => h (List.mem_cons_of_mem _ z)
theorem zip_all : ∀ {ps : List Str} {us : List Value}, ps.Nodup → us.length = ps.length → (ps.filterMap fun n => ((ps.zip us).lookup n).map fun v => (n, v)) = ps.zip us
  | [], us, _, _ => by simp
  | p :: ps, [], _, h => by simp at h
  | p :: ps, u :: us, nd, h => by
    obtain ⟨n1, n2⟩ := List.nodup_cons.mp nd
    have ih := zip_all (us := us) n2 (by simpa using h)
    rw [List.zip_cons_cons, List.filterMap_cons]
    have e : (List.lookup p ((p, u) :: ps.zip us)) = some u := by rw [List.lookup_cons]; simp
    rw [e]
    dsimp only [Option.map_some]
    congr 1
    have key : ∀ l : List Str, (∀ n ∈ l, n ≠ p) → (l.filterMap fun n => (List.lookup n ((p, u) :: ps.zip us)).map fun v => (n, v)) = l.filterMap fun n => ((ps.zip us).lookup n).map fun v => (n, v) := by
      intro l hl
      induction l with
      | nil => rfl
      | cons n l ihl =>
        have hp : (n == p) = false := by simp; exact hl n List.mem_cons_self
        rw [List.filterMap_cons, List.filterMap_cons, List.lookup_cons, hp, ihl fun m hm => hl m (List.mem_cons_of_mem _ hm)]
    rw [key ps fun n hn e => n1 (by rw [← e]; exact hn), ih]
theorem zip_has : ∀ {ps : List Str} {us : List Value}, us.length = ps.length → ∀ n ∈ ps, ((ps.zip us).lookup n).isNone = false
  | [], us, _, n, h => by simp at h
  | p :: ps, [], h, _, _ => by simp at h
  | p :: ps, u :: us, h, n, hn => by
    rw [List.zip_cons_cons, List.lookup_cons]
    cases e : n == p with
    | true => rfl
    | false => exact zip_has (by simpa using h) n ((List.mem_cons.mp hn).resolve_left fun z => by rw [z] at e; simp at e)
theorem binds_plain {fd : FuncData} {ps : List Str} (h1 : fd.params.posonlyargs = []) (h2 : fd.params.args.map (·.arg) = ps) (h3 : fd.params.kwonlyargs = []) (h4 : fd.params.vararg = none) (h5 : fd.params.kwarg = none) (hd : fd.defaults = .none) (nd : ps.Nodup) (us : List Value) (hl : us.length = ps.length) :
    bindArgs fd ⟨us, []⟩ = pure (ps.zip us) := by
  have hs : seqItems? .none = (pure none : Sem (Option (Array Value))) := rfl
  have hf : List.filter (fun n => (List.lookup n (ps.zip us)).isNone) ps = [] := by
    rw [List.filter_eq_nil_iff]
    intro n hn
    rw [zip_has hl n hn]
    decide
  unfold bindArgs
  dsimp only []
  rw [h1, h2, h3, h4, h5, hd, hs]
  simp only [List.map_nil, List.nil_append, List.append_nil, List.forIn_nil, pure_bind, Option.getD_none, hl, gt_iff_lt, Nat.lt_irrefl, decide_false, Bool.false_and, Bool.false_eq_true, if_false, List.length_nil, List.drop_nil, Nat.sub_zero, List.take_length, List.drop_length, List.zip_nil_left, List.zip_nil_right, hf, List.isEmpty_nil, Bool.not_true]
  rw [zip_all nd hl]

def parB (ps : List Str) (a : Arguments) : Bool := a.posonlyargs.isEmpty && (decide (a.args.map (·.arg) = ps) && (a.kwonlyargs.isEmpty && (a.vararg.isNone && (a.kwarg.isNone && decide ps.Nodup))))
theorem binds_of {K : PySem.W.Frag} {x qual : Str} {params : Arguments} {body : List Stmt} {scope : Scope} {kws : List (Str × V)} {f : Addr} {fd : FuncData} {ps : List Str} (F : FunD K x qual params body scope [] kws f fd) (h : parB ps params = true) : L2.Binds K fd ps [] := by
  unfold parB at h
  simp only [Bool.and_eq_true, decide_eq_true_eq, List.isEmpty_iff, Option.isNone_iff_eq_none] at h
  obtain ⟨h1, h2, h3, h4, h5, h6⟩ := h
  exact F.bindsN fun kV doc pm an cdv ct us hl => binds_plain h1 h2 h3 h4 h5 rfl h6 us hl
theorem forIn_kw {σ : Type} (mk : List (Str × Value) → σ) (ps : List Str) (f : Str × Value → σ → Sem (ForInStep σ)) (hf : ∀ k v slots, k ∈ ps → slots.lookup k = none → f (k, v) (mk slots) = pure (.yield (mk (slots ++ [(k, v)])))) :
    ∀ (kw slots : List (Str × Value)), (∀ q ∈ kw, q.1 ∈ ps ∧ slots.lookup q.1 = none) → (kw.map (·.1)).Nodup → forIn kw (mk slots) f = pure (mk (slots ++ kw))
  | [], slots, _, _ => by rw [List.forIn_nil, List.append_nil]
  | (k, v) :: r, slots, h, nd => by
    obtain ⟨h1, h2⟩ := h (k, v) List.mem_cons_self
    rw [List.map_cons, List.nodup_cons] at nd
    rw [List.forIn_cons, hf k v slots h1 h2, pure_bind]
    dsimp only
    rw [forIn_kw mk ps f hf r (slots ++ [(k, v)]) (fun q hq => ⟨(h q (List.mem_cons_of_mem _ hq)).1, ?_⟩) nd.2]
    · simp
    · have hne : q.1 ≠ k := fun e => nd.1 (by rw [← e]; exact List.mem_map_of_mem (f := (·.1)) hq)
      rw [List.lookup_append, (h q (List.mem_cons_of_mem _ hq)).2]
      have : (q.1 == k) = false := by simp [hne]
      simp [List.lookup_cons, this]
theorem binds_kw {fd : FuncData} {ps : List Str} (h1 : fd.params.posonlyargs = []) (h2 : fd.params.args.map (·.arg) = ps) (h3 : fd.params.kwonlyargs = []) (h4 : fd.params.vararg = none) (h5 : fd.params.kwarg = none) (hd : fd.defaults = .none) (us : List Value) (kw : List (Str × Value))
    (hk : ∀ q ∈ kw, q.1 ∈ ps ∧ (ps.zip us).lookup q.1 = none) (nd : (kw.map (·.1)).Nodup) (hu : us.length ≤ ps.length) (hall : ∀ n ∈ ps, ((ps.zip us ++ kw).lookup n).isNone = false) :
    bindArgs fd ⟨us, kw⟩ = pure (ps.filterMap fun n => ((ps.zip us ++ kw).lookup n).map fun v => (n, v)) := by
  have hs : seqItems? .none = (pure none : Sem (Option (Array Value))) := rfl
  have hf : List.filter (fun n => (List.lookup n (ps.zip us ++ kw)).isNone) ps = [] := by
    rw [List.filter_eq_nil_iff]
    intro n hn
    rw [hall n hn]
    decide
  unfold bindArgs
  dsimp only []
  rw [h1, h2, h3, h4, h5, hd, hs]
  simp only [List.map_nil, List.nil_append, List.append_nil]
  rw [forIn_kw (fun slots => (slots, ([] : List (Str × Value)))) ps _ (fun k v slots a b => ?_) kw (ps.zip us) hk nd]
  · have hg : ¬ (us.length > ps.length) := by omega
    simp [hg, hf]
  · have hc : ps.contains k = true := by simpa using a
    simp [hc, b]
    exact fun h => absurd a h
end Ev
end
section
set_option Elab.async false
set_option linter.all false
set_option maxRecDepth 100000
set_option maxHeartbeats 2000000
/-! own objects made; R tells which parameter each field holds, if nothing is refused -/
namespace Ev
open PySem PySem.Spec PyProof.Rows L2
/-! ### made -/
section
variable {X : Cx} {CX : CXT} {k : Nat} {f C : Addr} {fd : FuncData} {ps : List Str} {sp : Sp} {E : XK}
theorem run_makeG {pins : List (Addr × Obj)} {σ : L2.St} {H : Hp} {s : Shared} {Q : VK} {us as : List Value} {avs : List V} {kw : List (Str × Value)} (M : Mk X.K C f) (F : FnG X.prog X.w X.K X.mg X.base CX k f fd ps sp) (hr : Room (k + 1) X.A) (hfr : Free X.A)
    (hb : ∀ (s0 : Shared) (x : Addr), X.K.In s0.heap → BindsTo s0 fd ⟨.ref x :: us, kw⟩ (ps.zip (.ref x :: as))) (hx : Passes CX X E) (I : Inv X pins σ H s) (r : Vals avs as)
    (h : ∀ x dx, H x = none → H dx = none → dx ≠ x → sp (.ref x :: avs) (upd (upd H dx (.own x)) x (.ins C dx [])) (fun v H2 => v = .non ∧ Q (.ref x) H2) E) :
    wpAny (model X.prog X.w) X.A (call (.ref C) us kw) (EP X pins σ Q) X.xe s := by
  have hq := h (s.heap.objs.size + 1) s.heap.objs.size (I.hok.fresh (Nat.le_succ _)) (I.hok.fresh (Nat.le_refl _)) (Nat.ne_of_lt (Nat.lt_succ_self _))
  have I2 := Inv.made (C := C) I
  have hf2 : Free (X.A.under (.builtin "type.__call__" ⟨.ref C :: us, kw⟩)) := by
    unfold Free at hfr ⊢
    have hg : ("type.__call__" ∈ guardIds) = False := by simp [guardIds]
    simp [Around.under, hfr, Code.guards, Code.isGuard, pushGuards, hg]
  refine wpAny_call (make_map (f := f) I.kIn M.makes M.init (beq_iff_eq.mp M.fn) (codeAny_mono (F.run _ X.stack _ _ ⟨Value.ref (s.heap.objs.size + 1) :: us, kw⟩ (Value.ref (s.heap.objs.size + 1) :: as) _ _ E (hr.make C us kw) hf2
    (I2.env0.make C us kw) (hb _ _ I2.kIn) (.cons (show RelV (.ref _) (.ref _) from rfl) r) hq) fun r s' hq' => ?_))
  cases r with
  | error e => exact hx pins σ _ _ e s' I2 hq'
  | ok fl =>
    cases fl with
    | ret u =>
      obtain ⟨v, H', I3, rv, ev, q3⟩ := I2.after hq'
      subst ev
      exact ⟨rv, ⟨V.ref (s.heap.objs.size + 1), H', I3, rfl, q3⟩⟩
    | next => exact False.elim hq'
    | brk => exact False.elim hq'
    | cont => exact False.elim hq'
end
def valsI (σ : L2.St) : List (Str × Nat) → Option (List (Str × V))
  | [] => some []
  | (f, i) :: l => match σ[i]?, valsI σ l with
    | some (some v), some r => some ((f, v) :: r)
    | _, _ => none
def spI (K : PySem.W.Frag) (C : Addr) (n : Nat) (N : List Str) (R : List P → Option (List (Str × Nat))) : Sp := fun vs H Q _ => ∃ (x dx : Addr) (ws : List V) (ps : List P) (fl : List (Str × Nat)) (H1 : Hp), vs = .ref x :: ws ∧ ws.length = n ∧ H1 x = none ∧ H1 dx = none ∧ dx ≠ x ∧
  H = upd (upd H1 dx (.own x)) x (.ins C dx []) ∧ IsA K (hid [] H1) ps ws ∧ LamX.Tabs (tbK K) H1 ∧ R ps = some fl ∧ ∀ H' fs, ExtT K H1 H' → H' x = some (.ins C dx fs) → valsI (L2.start N (.ref x :: ws)) fl = some fs → Q .non H'
/-- the fields' data -/
def objI (ps : List P) : List (Str × Nat) → Option (List (Str × P))
  | [] => some []
  | (f, i) :: l => match ps[i - 1]?, objI ps l with
    | some p, some r => if 1 ≤ i then some ((f, p) :: r) else none
    | _, _ => none
theorem objI_ok {K : PySem.W.Frag} {G : Hp} {N : List Str} {x : Addr} {ps : List P} {ws : List V} (h : IsA K G ps ws) : ∀ {fl : List (Str × Nat)} {os : List (Str × P)} {fs : List (Str × V)}, objI ps fl = some os → valsI (L2.start N (.ref x :: ws)) fl = some fs → IsF K G os fs
  | [], os, fs, e1, e2 => by cases e1; cases e2; exact .nil
  | (f, i) :: fl, os, fs, e1, e2 => by
    have e1 : (match ps[i - 1]?, objI ps fl with
      | some p, some r => if 1 ≤ i then some ((f, p) :: r) else none
      | _, _ => none) = some os := e1
    have e2 : (match (L2.start N (.ref x :: ws))[i]?, valsI (L2.start N (.ref x :: ws)) fl with
      | some (some v), some r => some ((f, v) :: r)
      | _, _ => none) = some fs := e2
    split at e1
    · rename_i p r g1 g2
      split at e1
      · rename_i hi
        cases e1
        split at e2
        · rename_i v r2 g3 g4
          cases e2
          obtain ⟨u, g5, g6⟩ := h.get g1
          obtain ⟨j, rfl⟩ : ∃ j, i = j + 1 := ⟨i - 1, by omega⟩
          have hj : j < ws.length := (List.getElem?_eq_some_iff.mp g5).1
          unfold L2.start at g3
          rw [List.map_cons, List.cons_append, List.getElem?_cons_succ, List.getElem?_append_left (by rw [List.length_map]; exact hj), List.getElem?_map] at g3
          have g5 : ws[j]? = some u := g5
          rw [g5] at g3
          cases g3
          exact .cons g6 (objI_ok h g2 g4)
        · cases e2
      · cases e1
    · cases e1
theorem objI_vals {N : List Str} {x : Addr} {ps : List P} {ws : List V} (hl : ps.length = ws.length) : ∀ {fl : List (Str × Nat)} {os : List (Str × P)}, objI ps fl = some os → ∃ fs, valsI (L2.start N (.ref x :: ws)) fl = some fs
  | [], _, _ => ⟨[], rfl⟩
  | (f, i) :: fl, os, e1 => by
    have e1 : (match ps[i - 1]?, objI ps fl with
      | some p, some r => if 1 ≤ i then some ((f, p) :: r) else none
      | _, _ => none) = some os := e1
    split at e1
    · rename_i p r g1 g2
      split at e1
      · rename_i hi
        obtain ⟨fs, hfs⟩ := objI_vals (N := N) (x := x) hl g2
        obtain ⟨j, rfl⟩ : ∃ j, i = j + 1 := ⟨i - 1, by omega⟩
        have hj : j < ws.length := by rw [← hl]; exact (List.getElem?_eq_some_iff.mp g1).1
        refine ⟨(f, ws[j]) :: fs, ?_⟩
        show (match (L2.start N (.ref x :: ws))[j + 1]?, valsI (L2.start N (.ref x :: ws)) fl with
          | some (some v), some r => some ((f, v) :: r)
          | _, _ => none) = _
        have : (L2.start N (.ref x :: ws))[j + 1]? = some (some ws[j]) := by
          unfold L2.start
          rw [List.map_cons, List.cons_append, List.getElem?_cons_succ, List.getElem?_append_left (by rw [List.length_map]; exact hj), List.getElem?_map, List.getElem?_eq_getElem hj]
          rfl
        rw [this, hfs]
      · cases e1
    · cases e1
def makeP (R : List P → Option (List (Str × Nat))) (c : Str) (n : Nat) (us : List U) : Option P := match pures us with
  | some ps => if ps.length = n then (match R ps with
    | some fl => (objI ps fl).map (.obj c)
    | none => none) else none
  | none => none
/-- what is so behind the making of an object -/
theorem make_post {K : PySem.W.Frag} {W E : XK} {α : List Addr} {H1 : Hp} {S : Sto} {Q : VK} {R : List P → Option (List (Str × Nat))} {c : Str} {n : Nat} {N : List Str} {us : List U} {vs : List V} {z : P} (cs : Cs K H1 α S) (hv : IsUs K α (hid α H1) us vs) (e : makeP R c n us = some z)
    (q : ∀ u H', Aft K α H1 [] H' S → Is K (hid α H') z u → Q u H') (x dx : Addr) (n1 : H1 x = none) (n2 : H1 dx = none) (n3 : dx ≠ x) :
    spI K (He.ga K c) n N R (.ref x :: vs) (upd (upd H1 dx (.own x)) x (.ins (He.ga K c) dx [])) (fun v H2 => v = .non ∧ Q (.ref x) H2) E := by
  unfold makeP at e
  split at e
  · rename_i ps e1
    split at e
    · rename_i hn
      split at e
      · rename_i fl e2
        obtain ⟨os, e3, e4⟩ := Option.map_eq_some_iff.mp e
        subst e4
        have ha := pures_ok hv e1
        have ex : Ext (hid α H1) (hid [] H1) := hid_less
        refine ⟨x, dx, vs, ps, fl, H1, rfl, by rw [← ha.length]; exact hn, n1, n2, n3, rfl, ha.ext ex, cs.tb, e2, fun H' fs g1 g2 g3 => ⟨rfl, ?_⟩⟩
        have nx : x ∉ α := cs.notin n1
        have e5 : Ext (hid α H1) (hid α H') := g1.hid
        refine q _ H' ⟨fun b o z _ n => g1.old b o z n, fun b hb => absurd hb (by simp), ?_⟩ (.obj (dx := dx) (xs := fs) ?_ (objI_ok (ha.ext e5) e3 g3))
        · rw [List.append_nil]
          refine ⟨cs.nd, cs.len, fun i a m h1 h2 => ?_, g1.tb cs.tb⟩
          obtain ⟨xs, h3, h4⟩ := cs.at_ i a m h1 h2
          exact ⟨xs, g1.old _ _ h3 (fun _ z => by cases z), h4.ext e5⟩
        · exact hid_out nx g2 fun _ z => by cases z
      · cases e
    · cases e
  · cases e
theorem e_make {X : Cx} {W : XK} {R : List P → Option (List (Str × Nat))} {pos p : Pos} {x : Str} {f : Addr} {fd : FuncData} {ps N : List Str} {k n : Nat} {e : Expr} {es : List Expr} {fl : FA} (M : Mk X.K (He.ga X.K x) f) (F0 : FnG X.prog X.w X.K X.mg X.base (L2.CX X.prog X.w) k f fd ps (spI X.K (He.ga X.K x) n N R))
    (hW : Takes X fun cls d _ H => W cls d H) (hr : Room (k + 1) X.A) (hfr : Free X.A) (hg : Gl X x) (hm : X.mg x = some (.ref (He.ga X.K x))) (hb : L2.Binds X.K fd ps []) (hn : ps.length = n + 1) (hd : (x == ("__debug__" : Str)) = false) (hs : (e :: es).all noStar = true)
    (ha : PA X (e :: es) (tA X.K W fl)) : PE X (.Call (.Name x p) (e :: es) [] pos) (tE X.K W (fBlt (fun us _ => makeP R x n us) fl)) := by
  have hs' := hs
  rw [List.all_cons, Bool.and_eq_true] at hs'
  refine ⟨fun pins s σ H Q I ⟨ρ, α, S, hE, c, h⟩ => ?_⟩
  refine wpAny_Call_Name_kw (ld_glob I hg hm ?_ hd)
  refine PySem.W.callWith_K (h₀ := X.base) I.ok.mod.kin M.kp (thn (ha.run pos pins s σ H (fun vs H1 => vs.length = n ∧ ∀ x' dx, H1 x' = none → H1 dx = none → dx ≠ x' → spI X.K (He.ga X.K x) n N R (.ref x' :: vs) (upd (upd H1 dx (.own x')) x' (.ins (He.ga X.K x) dx [])) (fun v H2 => v = .non ∧ Q (.ref x') H2) W) I
    ⟨ρ, α, S, hE, c, step c hE h fun us S1 β H1 af hE1 c1 h1 vs hvs => ?_⟩) fun us s1 ⟨vs, H1, I1, r, hl, q⟩ => ⟨I1.kIn, ?_⟩) (star_cons hs'.1) (back_any hs'.2)
  · obtain ⟨z, ez, q⟩ := lift_inv h1
    have ez : makeP R x n us = some z := ez
    refine ⟨?_, fun x' dx n1 n2 n3 => make_post (W := W) c1 hvs ez q x' dx n1 n2 n3⟩
    unfold makeP at ez
    split at ez
    · rename_i pa e1
      split at ez
      · rename_i hn
        rw [← (pures_ok hvs e1).length]
        exact hn
      · cases ez
    · cases ez
  · refine run_makeG (kw := []) M F0 hr hfr (fun s0 a hk => ?_) (passes_call hW fun _ _ _ _ h => h) I1 r fun x' dx n1 n2 n3 => q x' dx n1 n2 n3
    have := hb s0 (.ref a :: us) hk (by rw [List.append_nil, List.length_cons, hn, ← r.length, hl])
    rwa [List.append_nil] at this
def plainT : Expr → Bool
  | .UnaryOp .Not _ _ | .BoolOp _ _ _ | .IfExp _ _ _ _ | .Compare _ _ _ _ => false
  | _ => true
theorem plainT_ok {e : Expr} {env : Env} (h : plainT e = true) : ∀ whole, isTrue e env whole = (do let v ← whole; standAt e.pos; holding [v] (truthy v)) := by
  intro whole
  cases e <;> first | rfl | (cases h; done) | skip
  rename_i o a p
  cases o <;> first | rfl | (cases h; done)
end Ev
end
section
set_option Elab.async false
set_option linter.all false
set_option maxRecDepth 100000
set_option maxHeartbeats 2000000
/-! own classes: fields, properties, ==, str, repr, isinstance -/
namespace Ev
open PySem PySem.Spec PyProof.Rows L2
section
variable {X : Cx} {W : XK} {pos : Pos} {c f : Str} {e : Expr} {fa : FE} {k : Nat}
theorem cx_false {P : Program} {w : World} {outer : List Env} {H : Hp} {s : Shared} {e : Value} {s' : Shared} (h : L2.CX P w outer H s (fun _ _ _ => False) e s') : False := by
  obtain ⟨_, _, _, _, _, _, _, _, _, _, _, _, z⟩ := h
  exact z
theorem Is.obj_inv {K : PySem.W.Frag} {G : Hp} {c : Str} {fs : List (Str × P)} {v : V} (h : Is K G (.obj c fs) v) : ∃ a dx xs, v = .ref a ∧ G a = some (.ins (He.ga K c) dx xs) ∧ IsF K G fs xs := by
  cases h with
  | obj h1 h2 => exact ⟨_, _, _, rfl, h1, h2⟩
theorem tG_wish_noex {A : Type} {K : PySem.W.Frag} {W W' : XK} {α : List Addr} {H : Hp} {m : M A} {Po : A → Sto → List Addr → Hp → Prop} (h : tG K W α H (noex m) Po) : tG K W' α H (noex m) Po := by
  cases m with
  | none => exact h
  | some r => cases r with
    | ok a S => exact h
    | ex x S => exact h
/-- a field of an object of the class c -/
def fldP (c f : Str) (x : U) (_ : Sto) : Option P := match x with
  | .p (.obj d fs) => if d = c then fs.lookup f else none
  | _ => none
theorem e_fld (hs : noSuper e = true) (hc : Cls X.K (He.ga X.K c)) (hn : NoAttr X.K (He.ga X.K c) f) (ha : PE X e (tE X.K W fa)) : PE X (.Attribute e f pos) (tE X.K W (fUn (fldP c f) fa)) :=
  (pe_fld ha (base_free hs)).weak fun σ H Q ⟨ρ, α, S, hE, cs, h⟩ => ⟨ρ, α, S, hE, cs, step cs hE h fun x S1 β H1 af hE1 c1 h1 v hv => by
    obtain ⟨z, ez, q⟩ := lift_inv h1
    unfold fldP at ez
    split at ez
    · rename_i d fs
      split at ez
      · rename_i hd
        subst hd
        obtain ⟨a, dx, xs, rfl, g1, g2⟩ := Is.obj_inv hv
        obtain ⟨w, g3, g4⟩ := g2.get ez
        exact ⟨a, _, dx, xs, w, rfl, (hid_some g1).2, hc, hn, g3, q _ _ (.refl c1) g4⟩
      · cases ez
    · cases ez⟩
/-- a method of the table, called by the interpreter: no exception leaves it -/
theorem callAt {A' : Around} {pins : List (Addr × Obj)} {σ : L2.St} {H : Hp} {s : Shared} {Q : VK} {us : List Value} {vs : List V} {E' : Value → Shared → Prop} {g : Addr} {fd : FuncData} {ps : List Str} {n : Nat} {F : List U → Sto → M U}
    (Ff : FnG X.prog X.w X.K X.mg X.base (L2.CX X.prog X.w) k g fd ps (spF X.K n F)) (hr : Room k A') (hfr : Free A') (hb : L2.Binds X.K fd ps []) (I : Inv X pins σ H s) (e0 : Env0 X.prog X.w X.K X.mg X.base A' X.stack s H) (r : Vals vs us)
    (h : spF X.K n F vs H Q (fun _ _ _ => False)) : codeAny (model X.prog X.w) A' (.call (.ref g) ⟨us, []⟩) (fun r s' => match r with
      | .ok (.ret u) => EP X pins σ Q u s'
      | .ok _ => False
      | .error e => E' e s') s := by
  have hl : (us ++ ([] : List Value)).length = ps.length := by rw [List.append_nil, ← r.length]; exact Ff.len _ _ _ _ h
  have hb2 := hb s us I.kIn hl
  rw [List.append_nil] at hb2
  exact runG (E' := E') Ff hr hfr (fun e s' z => (cx_false z).elim) I e0 hb2 r h
theorem callW {A' : Around} {pins : List (Addr × Obj)} {σ : L2.St} {H : Hp} {s : Shared} {Q : VK} {us : List Value} {vs : List V} {E' : Value → Shared → Prop} {g : Addr} {fd : FuncData} {ps : List Str} {n : Nat} {F : List U → Sto → M U}
    (Ff : FnG X.prog X.w X.K X.mg X.base (L2.CX X.prog X.w) k g fd ps (spF X.K n F)) (hr : Room k A') (hfr : Free A') (hb : L2.Binds X.K fd ps []) (I : Inv X pins σ H s) (e0 : Env0 X.prog X.w X.K X.mg X.base A' X.stack s H) (r : Vals vs us)
    (h : spF X.K n F vs H Q (fun _ _ _ => False)) : wpAny (model X.prog X.w) A' (call (.ref g) us) (EP X pins σ Q) E' s := by
  refine wpAny_call (codeAny_mono (callAt (E' := E') Ff hr hfr hb I e0 r h) fun r s' hq => ?_)
  cases r with
  | error e => exact hq
  | ok fl => cases fl <;> exact hq
/-- a property: its getter's answer -/
def fProp (c : Str) (F : List U → Sto → M U) (a : FE) : FE := fun ρ S => (a ρ S).bind fun x S1 => match x with
  | .p (.obj d _) => if d = c then noex (F [x] S1) else none
  | _ => none
theorem e_prop {p g : Addr} {fd : FuncData} {ps : List Str} {F : List U → Sto → M U} (hs : noSuper e = true) (hc : Cls X.K (He.ga X.K c)) (hp : PropOf X.K (He.ga X.K c) f p g) (Ff : FnG X.prog X.w X.K X.mg X.base (L2.CX X.prog X.w) k g fd ps (spF X.K 1 F))
    (hr : Room (k + 1) X.A) (hfr : Free X.A) (hb : L2.Binds X.K fd ps []) (ha : PE X e (tE X.K W fa)) : PE X (.Attribute e f pos) (tE X.K W (fProp c F fa)) := by
  refine ⟨fun pins s σ H Q I ⟨ρ, α, S, hE, cs, h⟩ => ?_⟩
  refine attr_of (base_free hs) (thn (ha.run pins s σ H (fun v H1 => ∃ a dx xs, v = .ref a ∧ H1 a = some (.ins (He.ga X.K c) dx xs) ∧ spF X.K 1 F [v] H1 Q (fun _ _ _ => False)) I
    ⟨ρ, α, S, hE, cs, step cs hE h fun x S1 β H1 af hE1 c1 h1 v hv => ?_⟩) fun u s1 ⟨x, H1, I1, rx, a, dx, xs, ex, ea, q⟩ => ?_)
  · split at h1
    · rename_i d fs
      split at h1
      · rename_i hd
        subst hd
        obtain ⟨a, dx, xs, rfl, g1, g2⟩ := Is.obj_inv hv
        exact ⟨a, dx, xs, rfl, (hid_some g1).2, _, S1, [.p (.obj d fs)], c1, rfl, .cons hv .nil, tG_noex (W := fun _ _ _ => False) (tG_wish_noex h1)⟩
      · exact h1.elim
    · exact h1.elim
  · subst ex
    obtain rfl : u = Value.ref a := rx
    obtain ⟨mA, O, _, _, _, _⟩ := ins_get I1.hok ea
    obtain ⟨od, J, _⟩ := O.look
    obtain ⟨rest, hrec⟩ := hp.rec_
    have I2 := I1.tok (s1.toks + 1)
    have hcl : (PySem.W.clsIn X.K (He.ga X.K c)).isSome = true := by
      obtain ⟨cd, hc, _⟩ := PySem.W.any_some hc.hd
      rw [hc]
      rfl
    refine PySem.W.get_bind I1.kIn J (PySem.W.plainGet_of (hc.get f)).1 (PySem.W.findObj_data hcl hp.at_ hp.get hp.tak) (PySem.W.plainGet_of (hc.get f)).2 (wpAny_call (PySem.W.prop_get (s := { s1 with toks := s1.toks + 1 }) I1.kIn hrec ?_))
    refine codeAny_mono (callAt (E' := fun _ _ => False) (A' := X.A.in1) Ff hr.in1 hfr hb I2 I2.env0.in1 (.cons (show RelV (.ref _) (.ref _) from rfl) .nil) q) fun r s' hq => ?_
    cases r with
    | error er => exact hq.elim
    | ok fl =>
      cases fl with
      | ret u =>
        obtain ⟨v, H', I3, rv, q3⟩ := hq
        show wpAny _ _ (handedOut u) _ _ _
        rw [PySem.W.handedOut_of (handed_of rv)]
        exact wpAny_pure ⟨v, H', I3, rv, q3⟩
      | next => exact False.elim hq
      | brk => exact False.elim hq
      | cont => exact False.elim hq

/-- only a truth -/
def truB (m : M U) : M U := match m with
  | some (.ok (.p (.bl b)) S) => some (.ok (.p (.bl b)) S)
  | _ => none
/-- only a text -/
def txtB (m : M U) : M U := match m with
  | some (.ok (.p (.str b)) S) => some (.ok (.p (.str b)) S)
  | _ => none
theorem tG_truB {K : PySem.W.Frag} {W W' : XK} {α : List Addr} {H : Hp} {m : M U} {Q : VK} (h : tG K W α H (truB m) (PoE K Q)) : tG K W' α H m (PoE K fun v H' => ∃ b, v = .bl b ∧ Q v H') := by
  unfold truB at h
  split at h
  · intro β H' af v hv
    cases hv
    exact ⟨_, rfl, h β H' af _ (.bl _)⟩
  · exact h.elim
theorem tG_txtB {K : PySem.W.Frag} {W W' : XK} {α : List Addr} {H : Hp} {m : M U} {Q : VK} (h : tG K W α H (txtB m) (PoE K Q)) : tG K W' α H m (PoE K fun v H' => ∃ b, v = .str b ∧ Q v H') := by
  unfold txtB at h
  split at h
  · intro β H' af v hv
    cases hv
    exact ⟨_, rfl, h β H' af _ (.str _)⟩
  · exact h.elim
/-- an object's class, if it is c; a built-in type otherwise -/
def okFor (c : Str) : U → Bool
  | .p (.obj d _) => decide (d = c)
  | .p (.err _ _) => false
  | _ => true
theorem looks_type {pins : List (Addr × Obj)} {σ : L2.St} {α : List Addr} {H : Hp} {S : Sto} {s : Shared} {y : U} {w : V} {v : Value} (I : Inv X pins σ H s) (cs : Cs X.K H α S) (hy : IsU X.K α (hid α H) y w) (r : RelV w v) (ho : okFor c y = true) :
    ∃ tb, PySem.W.Looks (model X.prog X.w) s.heap (typeOf v) tb ∧ (tb = .ref (He.ga X.K c) ∨ ∃ n, tyU y = some n ∧ tb = .type n) := by
  cases e : tyU y with
  | some n =>
    obtain ⟨P0, Z, hp, _⟩ := kit_of I r (ty_is cs hy e)
    exact ⟨_, Z.ty _ _ I.kIn hp, .inr ⟨n, rfl, rfl⟩⟩
  | none =>
    cases y with
    | c k => cases e
    | p x =>
      cases x with
      | obj d fs =>
        have hd : d = c := of_decide_eq_true ho
        subst hd
        obtain ⟨a, dx, xs, rfl, g1, g2⟩ := Is.obj_inv hy
        cases r
        obtain ⟨mA, O, _⟩ := ins_get I.hok (hid_some g1).2
        obtain ⟨od, J, _⟩ := O.look
        exact ⟨_, J.type, .inl rfl⟩
      | non => cases e
      | bl b => cases e
      | int i => cases e
      | str z => cases e
      | tup l => cases e
      | lst l => cases e
      | scr l => cases e
      | emp => cases e
      | err d fs => cases ho
/-- no class of these is below C -/
def tyNames : List String := ["NoneType", "bool", "int", "str", "tuple", "list", "dict"]
theorem tyU_mem {y : U} {n : String} (h : tyU y = some n) : n ∈ tyNames := by
  cases y with
  | c k => cases h; decide
  | p x => cases x <;> first | (cases h; decide) | (cases h; done)
/-- x == y, x of the class c with its own __eq__ -/
def fOeq (c : Str) (F : List U → Sto → M U) (a b : FE) : FE := fun ρ S => (a ρ S).bind fun x S1 => (b ρ S1).bind fun y S2 => match x with
  | .p (.obj d _) => if d = c ∧ okFor c y = true then truB (F [x, y] S2) else none
  | _ => none
def rOeq (K : PySem.W.Frag) (C : Addr) (sp : Sp) : R2 := fun x y H Q => (∃ a dx fs, x = .ref a ∧ H a = some (.ins C dx fs)) ∧ (∃ (α : List Addr) (S : Sto) (u : U) (c : Str), He.ga K c = C ∧ Cs K H α S ∧ IsU K α (hid α H) u y ∧ okFor c u = true) ∧ sp [x, y] H (fun v H' => ∃ b, v = .bl b ∧ Q v H') fun _ _ _ => False
theorem op_oeq {C g : Addr} {fd : FuncData} {ps : List Str} {F : List U → Sto → M U} (he : PySem.W.findIn X.K (.ref C) "__eq__" = some (some (.ref g))) (hfn : PySem.W.isFn X.K (.ref g) = true) (hnf : ∀ n ∈ tyNames, PySem.W.notFirst X.K C (.type n) = true)
    (Ff : FnG X.prog X.w X.K X.mg X.base (L2.CX X.prog X.w) k g fd ps (spF X.K 2 F)) (hr : Room k X.A) (hfr : Free X.A) (hb : L2.Binds X.K fd ps []) : OpR X (compareOp .Eq) (rOeq X.K C (spF X.K 2 F)) := by
  intro pins s σ H x y v u Q I rx ry ⟨⟨a, dx, fs, ex, ha⟩, ⟨α, S, w, c, ec, cs, hw, ho⟩, hsp⟩
  subst ex
  obtain rfl : v = Value.ref a := rx
  obtain ⟨mA, O, _⟩ := ins_get I.hok ha
  obtain ⟨od, J, _⟩ := O.look
  obtain ⟨m, hF⟩ := I.fr
  obtain ⟨tb, hl, ht⟩ := looks_type I cs hw ry ho
  have hn : PySem.W.notFirst X.K C tb = true := by
    rcases ht with ht | ⟨n, hn, ht⟩
    · rw [ht, ec]; simp [PySem.W.notFirst]
    · rw [ht]; exact hnf n (tyU_mem hn)
  show wpAny (model X.prog X.w) X.A (richCompare .Eq (.ref a) u) (EP X pins σ Q) X.xe s
  refine PySem.W.cmp_K (op := .Eq) hr.units0 hF I.ok.mod.kin J hl hn he hfn ?_
  refine wpAny_mono (callW (E' := X.xe) Ff hr hfr hb I I.env0 (.cons (show RelV (.ref _) (.ref _) from rfl) (.cons ry .nil)) hsp) (fun r s' hq => ?_) fun _ _ z => z
  obtain ⟨z, H', I', rz, ⟨b, ez, q⟩⟩ := hq
  subst ez
  obtain rfl : r = Value.bool b := rz
  exact ⟨.bl b, H', I', rfl, q⟩
theorem e_oeq {g : Addr} {fd : FuncData} {ps : List Str} {F : List U → Sto → M U} {eb : Expr} {fb : FE} (hm : behindInMarks .Eq eb = false) (he : PySem.W.findIn X.K (.ref (He.ga X.K c)) "__eq__" = some (some (.ref g))) (hfn : PySem.W.isFn X.K (.ref g) = true)
    (hnf : ∀ n ∈ tyNames, PySem.W.notFirst X.K (He.ga X.K c) (.type n) = true) (Ff : FnG X.prog X.w X.K X.mg X.base (L2.CX X.prog X.w) k g fd ps (spF X.K 2 F)) (hr : Room k X.A) (hfr : Free X.A) (hb : L2.Binds X.K fd ps [])
    (ha : PE X e (tE X.K W fa)) (hbb : PE X eb (tE X.K W fb)) : PE X (.Compare e [.Eq] [eb] pos) (tE X.K W (fOeq c F fa fb)) :=
  (pe_cmpR (op_oeq he hfn hnf Ff hr hfr hb) ha hbb hm).weak fun σ H Q ⟨ρ, α, S, hE, cs, h⟩ => ⟨ρ, α, S, hE, cs, step cs hE h fun x S1 β H1 af hE1 c1 h1 v hv => ⟨ρ, _, S1, hE1, c1, step c1 hE1 h1 fun y S2 β2 H2 af2 hE2 c2 h2 w hw => by
    split at h2
    · rename_i d fs
      split at h2
      · rename_i hd
        obtain ⟨hd, ho⟩ := hd
        subst hd
        have hv2 := hv.aft af2
        obtain ⟨a, dx, xs, rfl, g1, g2⟩ := Is.obj_inv (show Is X.K _ (.obj d fs) v from hv2)
        exact ⟨⟨a, dx, xs, rfl, (hid_some g1).2⟩, ⟨_, S2, y, d, rfl, c2, hw, ho⟩, _, S2, [.p (.obj d fs), y], c2, rfl, .cons hv2 (.cons hw .nil), tG_truB h2⟩
      · exact h2.elim
    · exact h2.elim⟩⟩
/-- str(x), repr(x) by own methods -/
def fOtx (c : Str) (F : List U → Sto → M U) (a : FE) : FE := fun ρ S => (a ρ S).bind fun x S1 => match x with
  | .p (.obj d _) => if d = c then txtB (F [x] S1) else none
  | _ => none
def rOtx (C : Addr) (sp : Sp) : List V → Hp → VK → Prop := fun xs H Q => (∃ a dx fs, xs = [.ref a] ∧ H a = some (.ins C dx fs)) ∧ sp xs H (fun v H' => ∃ b, v = .str b ∧ Q v H') fun _ _ _ => False
theorem call_ostr {C g : Addr} {fd : FuncData} {ps : List Str} {F : List U → Sto → M U} (he : PySem.W.findIn X.K (.ref C) "__str__" = some (some (.ref g))) (hfn : PySem.W.isFn X.K (.ref g) = true)
    (Ff : FnG X.prog X.w X.K X.mg X.base (L2.CX X.prog X.w) k g fd ps (spF X.K 1 F)) (hr : Room (k + 2) X.A) (hfr : Free X.A) (hb : L2.Binds X.K fd ps []) : CallR X (.type "str") (rOtx C (spF X.K 1 F)) := by
  intro pins s σ H xs us Q I r ⟨⟨a, dx, fs, ex, ha⟩, hsp⟩
  subst ex
  obtain ⟨u, rfl, ru⟩ := vals1 r
  obtain rfl : u = Value.ref a := ru
  obtain ⟨mA, O, _⟩ := ins_get I.hok ha
  obtain ⟨od, J, _⟩ := O.look
  refine PySem.W.kso_call (by have := hr.un; show X.A.units + 1 + 1 < cLine; omega) I.kIn J he hfn ?_
  refine wpAny_mono (callW (E' := X.xe) Ff hr.in1.in1 hfr hb I I.env0.in1.in1 r hsp) (fun r s' hq => ?_) fun _ _ z => z
  obtain ⟨z, H', I', rz, ⟨b, ez, q⟩⟩ := hq
  subst ez
  obtain ⟨t, rfl⟩ := rz
  exact ⟨.str b, H', I', ⟨t, rfl⟩, q⟩
theorem call_orepr {C g : Addr} {fd : FuncData} {ps : List Str} {F : List U → Sto → M U} (he : PySem.W.findIn X.K (.ref C) "__repr__" = some (some (.ref g))) (hfn : PySem.W.isFn X.K (.ref g) = true)
    (Ff : FnG X.prog X.w X.K X.mg X.base (L2.CX X.prog X.w) k g fd ps (spF X.K 1 F)) (hr : Room (k + 1) X.A) (hfr : Free X.A) (hb : L2.Binds X.K fd ps []) : CallR X (.builtin "repr") (rOtx C (spF X.K 1 F)) := by
  intro pins s σ H xs us Q I r ⟨⟨a, dx, fs, ex, ha⟩, hsp⟩
  subst ex
  obtain ⟨u, rfl, ru⟩ := vals1 r
  obtain rfl : u = Value.ref a := ru
  obtain ⟨mA, O, _⟩ := ins_get I.hok ha
  obtain ⟨od, J, _⟩ := O.look
  obtain ⟨m, hF⟩ := I.fr
  refine PySem.W.repr_K (by have := hr.un; show X.A.units + 1 < cLine; omega) hF I.ok.mod.kin J he hfn ?_
  refine wpAny_mono (callW (E' := X.xe) Ff hr.in1 hfr hb I I.env0.in1 r hsp) (fun r s' hq => ?_) fun _ _ z => z
  obtain ⟨z, H', I', rz, ⟨b, ez, q⟩⟩ := hq
  subst ez
  obtain ⟨t, rfl⟩ := rz
  exact ⟨.str b, H', I', ⟨t, rfl⟩, q⟩
theorem otx_go {K : PySem.W.Frag} {F : List U → Sto → M U} {σ : L2.St} {H : Hp} {Q : VK} (h : tE K W (fOtx c F fa) σ H Q) : tCons (tE K W fa) tNil σ H fun vs H1 => rOtx (He.ga K c) (spF K 1 F) vs H1 Q := by
  obtain ⟨ρ, α, S, hE, cs, h⟩ := h
  refine ⟨ρ, α, S, hE, cs, step cs hE h fun x S1 β H1 af hE1 c1 h1 v hv => ?_⟩
  split at h1
  · rename_i d fs
    split at h1
    · rename_i hd
      subst hd
      obtain ⟨a, dx, xs, rfl, g1, g2⟩ := Is.obj_inv (show Is K _ (.obj d fs) v from hv)
      exact ⟨⟨a, dx, xs, rfl, (hid_some g1).2⟩, _, S1, [.p (.obj d fs)], c1, rfl, .cons hv .nil, tG_txtB h1⟩
    · exact h1.elim
  · exact h1.elim
theorem e_ostr {p : Pos} {g : Addr} {fd : FuncData} {ps : List Str} {F : List U → Sto → M U} (hg : Gl X "str") (hm : X.mg "str" = none) (hs : noStar e = true) (he : PySem.W.findIn X.K (.ref (He.ga X.K c)) "__str__" = some (some (.ref g))) (hfn : PySem.W.isFn X.K (.ref g) = true)
    (Ff : FnG X.prog X.w X.K X.mg X.base (L2.CX X.prog X.w) k g fd ps (spF X.K 1 F)) (hr : Room (k + 2) X.A) (hfr : Free X.A) (hb : L2.Binds X.K fd ps []) (ha : PE X e (tE X.K W fa)) : PE X (.Call (.Name "str" p) [e] [] pos) (tE X.K W (fOtx c F fa)) :=
  (pe_callTy (call_ostr he hfn Ff hr hfr hb) hg hm (by rfl) (pa_cons ha pa_nil (star_cons hs)) (by decide) (by decide) (star_cons hs) (back_any rfl)).weak fun σ H Q h => otx_go h
theorem e_orepr {p : Pos} {g : Addr} {fd : FuncData} {ps : List Str} {F : List U → Sto → M U} (hg : Gl X "repr") (hm : X.mg "repr" = none) (hs : noStar e = true) (he : PySem.W.findIn X.K (.ref (He.ga X.K c)) "__repr__" = some (some (.ref g))) (hfn : PySem.W.isFn X.K (.ref g) = true)
    (Ff : FnG X.prog X.w X.K X.mg X.base (L2.CX X.prog X.w) k g fd ps (spF X.K 1 F)) (hr : Room (k + 1) X.A) (hfr : Free X.A) (hb : L2.Binds X.K fd ps []) (ha : PE X e (tE X.K W fa)) : PE X (.Call (.Name "repr" p) [e] [] pos) (tE X.K W (fOtx c F fa)) :=
  (pe_callB (call_orepr he hfn Ff hr hfr hb) hg hm (by rfl) (pa_cons ha pa_nil (star_cons hs)) (by decide) (by decide) (star_cons hs) (back_any rfl)).weak fun σ H Q h => otx_go h
end
end Ev
end
section
set_option Elab.async false
set_option linter.all false
set_option maxRecDepth 100000
set_option maxHeartbeats 2000000
/-! own classes: !=, truth, isinstance -/
namespace Ev
open PySem PySem.Spec PyProof.Rows L2
section
variable {prog : Program} {w : World} {A : Around} {E : Value → Shared → Prop} {s : Shared} {K : PySem.W.Frag} {x C f : Addr} {ox : Obj} {od : Option Obj} {b tb : Value} {Q : Value → Shared → Prop}
theorem ne_entry (hu : A.units < cLine) (X : K.In s.heap) (I : PySem.W.InstAt s.heap x ox C od) (he : PySem.W.findIn K (.ref C) "__eq__" = some (some (.ref f))) (hf : PySem.W.isFn K (.ref f) = true) {Qf : Fin → Shared → Prop}
    (h : wpAny (model prog w) A (call (.ref f) [.ref x, b]) (fun v s' => ∃ r, v = .bool r ∧ Qf (.done (.ret (.bool (!r)))) s') E s) : wpAny (model prog w) A (Builtin.«object.__ne__» ⟨[.ref x, b], []⟩) Qf E s := by
  unfold Builtin.«object.__ne__»
  repeat (first
    | with_reducible refine wpAny_cRoomFor hu ?_
    | (refine wpAny_bind (m := callSpecialIfBound? (.ref x) (Str.ofString "__eq__") [b])
        (PySem.W.ifBound_K X I he hf (wpAny_mono h (fun r s' hr => by
          obtain ⟨b, rfl, hq⟩ := hr
          repeat (first | exact hq | exact wpAny_pure hq | exact wpAny_truthy_bool hq | (refine wpAny_bind (m := truthy (.bool _)) (wpAny_truthy_bool ?_)) | wp_step)) fun _ _ e => e)))
    | wp_step)
theorem ifBoundB {name : Str} {id : String} {args : List Value} {Qo : Option Value → Shared → Prop} (X : K.In s.heap) (I : PySem.W.InstAt s.heap x ox C od) (hs : PySem.W.findIn K (.ref C) name = some (some (.builtin id))) (hb : ∀ self, bindSpecial (.builtin id) self = pure (.builtin id, [self]))
    (h : wpAny (model prog w) A (call (.builtin id) (.ref x :: args)) (fun v => Qo (some v)) E s) : wpAny (model prog w) A (callSpecialIfBound? (.ref x) name args) Qo E s := by
  simp only [callSpecialIfBound?, bindSpecialIfBound?]
  refine wpAny_holding (wpAny_bind (wpAny_bind (wpAny_bind (I.type.here ((PySem.W.looks_findIn X hs).here ?_)))))
  simp only [hb]
  refine wpAny_bind (wpAny_askSetting (wpAny_ite ?_))
  have fin : wpAny (model prog w) A (call (.builtin id) ([.ref x] ++ args) >>= fun v => pure (some v)) Qo E s := wpAny_bind (wpAny_mono h (fun v s' h' => wpAny_pure h') fun _ _ h' => h')
  split
  · exact wpAny_bind (wpAny_pure (wpAny_pure fin))
  · exact wpAny_tryCatch (wpAny_bind (wpAny_pure (wpAny_pure fin)))
theorem ne_try (hu : A.units + 1 < cLine) (X : K.In s.heap) (I : PySem.W.InstAt s.heap x ox C od) (hne : PySem.W.findIn K (.ref C) "__ne__" = some (some (.builtin "object.__ne__"))) (he : PySem.W.findIn K (.ref C) "__eq__" = some (some (.ref f))) (hf : PySem.W.isFn K (.ref f) = true)
    (hob : PySem.W.mroIn K C (.type "object") = some true) {Qo : Option Value → Shared → Prop}
    (h : wpAny (model prog w) A.in1 (call (.ref f) [.ref x, b]) (fun v s' => ∃ r, v = .bool r ∧ Qo (some (.bool (!r))) s') E s) : wpAny (model prog w) A (tryCompare (.ref x) "__ne__" b) Qo E s := by
  have call : wpAny (model prog w) A (call (.builtin "object.__ne__") [.ref x, b]) (fun v s' => ∃ r, v = .bool (!r) ∧ Qo (some (.bool (!r))) s') E s := by
    refine wpAny_call (codeAny_call_builtin F.cmp_object.ne.plain F.cmpEntry_ne (PySem.W.check_slot F.cmpKind_ne F.cmpSplit_ne (I.type.andThen (PySem.W.looks_mroIn X hob)) (by unfold argsOk; kernel_rfl) ?_))
    refine ne_entry (A := A.in1) hu X I he hf (wpAny_mono h (fun v s' hv => ?_) fun _ _ e => e)
    obtain ⟨r, rfl, hq⟩ := hv
    exact ⟨r, rfl, ⟨_, rfl, hq⟩⟩
  unfold tryCompare
  refine wpAny_bind (ifBoundB X I hne F.cmp_object.ne.bind (wpAny_mono call (fun v s' hv => ?_) fun _ _ e => e))
  obtain ⟨r, rfl, hq⟩ := hv
  exact wpAny_pure hq
theorem ne_K (hu : A.units + 1 < cLine) (X : K.In s.heap) (I : PySem.W.InstAt s.heap x ox C od) (hb : PySem.W.Looks (model prog w) s.heap (typeOf b) tb) (hn : PySem.W.notFirst K C tb = true) (hne : PySem.W.findIn K (.ref C) "__ne__" = some (some (.builtin "object.__ne__")))
    (he : PySem.W.findIn K (.ref C) "__eq__" = some (some (.ref f))) (hf : PySem.W.isFn K (.ref f) = true) (hob : PySem.W.mroIn K C (.type "object") = some true)
    (h : wpAny (model prog w) A.in1 (call (.ref f) [.ref x, b]) (fun v s' => ∃ r, v = .bool r ∧ Q (.bool (!r)) s') E s) : wpAny (model prog w) A (richCompare .NotEq (.ref x) b) Q E s := by
  have one : wpAny (model prog w) A (tryCompare (.ref x) "__ne__" b) (fun r s' => ∃ v, r = some v ∧ Q v s') E s := ne_try hu X I hne he hf hob (wpAny_mono h (fun v s' ⟨r, e, q⟩ => ⟨r, e, _, rfl, q⟩) fun _ _ e => e)
  unfold richCompare
  simp only [oneThing_ref]
  refine wpAny_holding (wpAny_bind (wpAny_cRoomFor (by omega) ?_))
  rw [cmpInfo_NotEq]
  dsimp only
  refine wpAny_bind (I.type.here (wpAny_bind (hb.here ?_)))
  split
  · rename_i q
    have e : PySem.W.subIn K tb (.ref C) = some false := by
      rcases Bool.or_eq_true_iff.mp hn with e | e
      · rw [beq_iff_eq.mp e] at q; simp at q
      · exact beq_iff_eq.mp e
    refine wpAny_bind ((PySem.W.looks_subIn X e).here ?_)
    simp only [Bool.false_eq_true, if_false]
    refine wpAny_bind (wpAny_mono one (fun r s' z => ?_) fun _ _ e => e)
    obtain ⟨v, rfl, hq⟩ := z
    exact wpAny_pure hq
  · refine wpAny_bind (wpAny_pure ?_)
    simp only [Bool.false_eq_true, if_false]
    refine wpAny_bind (wpAny_mono one (fun r s' z => ?_) fun _ _ e => e)
    obtain ⟨v, rfl, hq⟩ := z
    exact wpAny_pure hq
end

section
variable {X : Cx} {W : XK} {pos : Pos} {c : Str} {e : Expr} {fa : FE} {k : Nat}
/-- what must be so of a class with its own == -/
structure EqC (X : Cx) (k : Nat) (c : Str) (F : List U → Sto → M U) : Prop where
  g : ∃ (g : Addr) (fd : FuncData) (ps : List Str), PySem.W.findIn X.K (.ref (He.ga X.K c)) "__eq__" = some (some (.ref g)) ∧ PySem.W.isFn X.K (.ref g) = true ∧ FnG X.prog X.w X.K X.mg X.base (L2.CX X.prog X.w) k g fd ps (spF X.K 2 F) ∧ L2.Binds X.K fd ps []
  nf : ∀ n ∈ tyNames, PySem.W.notFirst X.K (He.ga X.K c) (.type n) = true
  ne : PySem.W.findIn X.K (.ref (He.ga X.K c)) "__ne__" = some (some (.builtin "object.__ne__"))
  ob : PySem.W.mroIn X.K (He.ga X.K c) (.type "object") = some true
/-- the contrary of a truth -/
def notB (m : M U) : M U := match m with
  | some (.ok (.p (.bl b)) S) => some (.ok (.p (.bl (!b))) S)
  | _ => none
theorem tG_notB {K : PySem.W.Frag} {W W' : XK} {α : List Addr} {H : Hp} {m : M U} {Q : VK} (h : tG K W α H (notB m) (PoE K Q)) : tG K W' α H m (PoE K fun v H' => ∃ b, v = .bl b ∧ Q (.bl (!b)) H') := by
  unfold notB at h
  split at h
  · intro β H' af v hv
    cases hv
    exact ⟨_, rfl, h β H' af _ (.bl _)⟩
  · exact h.elim
theorem tG_truB2 {K : PySem.W.Frag} {W W' : XK} {α : List Addr} {H : Hp} {m : M U} {Q : VK} (h : tG K W α H (truB m) (PoE K Q)) : tG K W' α H m (PoE K fun v H' => ∃ b, v = .bl b ∧ Q (.bl (if false = true then !b else b)) H') := by
  unfold truB at h
  split at h
  · intro β H' af v hv
    cases hv
    exact ⟨_, rfl, h β H' af _ (.bl _)⟩
  · exact h.elim
def fOcmp (neg : Bool) (c : Str) (F : List U → Sto → M U) (a b : FE) : FE := fun ρ S => (a ρ S).bind fun x S1 => (b ρ S1).bind fun y S2 => match x with
  | .p (.obj d _) => if d = c ∧ okFor c y = true then (if neg = true then notB (F [x, y] S2) else truB (F [x, y] S2)) else none
  | _ => none
def rOcmp (neg : Bool) (K : PySem.W.Frag) (C : Addr) (sp : Sp) : R2 := fun x y H Q => (∃ a dx fs, x = .ref a ∧ H a = some (.ins C dx fs)) ∧ (∃ (α : List Addr) (S : Sto) (u : U) (c : Str), He.ga K c = C ∧ Cs K H α S ∧ IsU K α (hid α H) u y ∧ okFor c u = true) ∧ sp [x, y] H (fun v H' => ∃ b, v = .bl b ∧ Q (.bl (if neg = true then !b else b)) H') fun _ _ _ => False
def ocOp (neg : Bool) : CmpOp := if neg = true then .NotEq else .Eq
theorem op_ocmp {F : List U → Sto → M U} (neg : Bool) (G : EqC X k c F) (hr : Room (k + 1) X.A) (hfr : Free X.A) : OpR X (compareOp (ocOp neg)) (rOcmp neg X.K (He.ga X.K c) (spF X.K 2 F)) := by
  intro pins s σ H x y v u Q I rx ry ⟨⟨a, dx, fs, ex, ha⟩, ⟨α, S, w, c', ec, cs, hw, ho⟩, hsp⟩
  subst ex
  obtain ⟨g, fd, ps, he, hfn, Ff, hb⟩ := G.g
  obtain rfl : v = Value.ref a := rx
  obtain ⟨mA, O, _⟩ := ins_get I.hok ha
  obtain ⟨od, J, _⟩ := O.look
  obtain ⟨m, hF⟩ := I.fr
  obtain ⟨tb, hl, ht⟩ := looks_type I cs hw ry ho
  have hn : PySem.W.notFirst X.K (He.ga X.K c) tb = true := by
    rcases ht with ht | ⟨n, hn, ht⟩
    · rw [ht, ec]; simp [PySem.W.notFirst]
    · rw [ht]; exact G.nf n (tyU_mem hn)
  have rr : Vals [V.ref a, y] [Value.ref a, u] := .cons (show RelV (.ref _) (.ref _) from rfl) (.cons ry .nil)
  cases neg with
  | false =>
    show wpAny (model X.prog X.w) X.A (richCompare .Eq (.ref a) u) (EP X pins σ Q) X.xe s
    refine PySem.W.cmp_K (op := .Eq) (hr.mono (Nat.le_succ k)).units0 hF I.ok.mod.kin J hl hn he hfn ?_
    refine wpAny_mono (callW (E' := X.xe) Ff (hr.mono (Nat.le_succ k)) hfr hb I I.env0 rr hsp) (fun r s' hq => ?_) fun _ _ z => z
    obtain ⟨z, H', I', rz, ⟨b, ez, q⟩⟩ := hq
    subst ez
    obtain rfl : r = Value.bool b := rz
    exact ⟨.bl b, H', I', rfl, q⟩
  | true =>
    show wpAny (model X.prog X.w) X.A (richCompare .NotEq (.ref a) u) (EP X pins σ Q) X.xe s
    refine ne_K (by have := hr.un; omega) I.kIn J hl hn G.ne he hfn G.ob ?_
    refine wpAny_mono (callW (E' := X.xe) Ff hr.in1 hfr hb I I.env0.in1 rr hsp) (fun r s' hq => ?_) fun _ _ z => z
    obtain ⟨z, H', I', rz, ⟨b, ez, q⟩⟩ := hq
    subst ez
    obtain rfl : r = Value.bool b := rz
    exact ⟨b, rfl, .bl (!b), H', I', rfl, q⟩
theorem ocmp_go {F : List U → Sto → M U} {neg : Bool} {σ : L2.St} {H : Hp} {Q : VK} {K : PySem.W.Frag} {fb : FE} (h : tE K W (fOcmp neg c F fa fb) σ H Q) : tOp (rOcmp neg K (He.ga K c) (spF K 2 F)) (tE K W fa) (tE K W fb) σ H Q := by
  obtain ⟨ρ, α, S, hE, cs, h⟩ := h
  refine ⟨ρ, α, S, hE, cs, step cs hE h fun x S1 β H1 af hE1 c1 h1 v hv => ⟨ρ, _, S1, hE1, c1, step c1 hE1 h1 fun y S2 β2 H2 af2 hE2 c2 h2 w hw => ?_⟩⟩
  split at h2
  · rename_i d fs
    split at h2
    · rename_i hd
      obtain ⟨hd, ho⟩ := hd
      subst hd
      have hv2 := hv.aft af2
      obtain ⟨a, dx, xs, rfl, g1, g2⟩ := Is.obj_inv (show Is K _ (.obj d fs) v from hv2)
      refine ⟨⟨a, dx, xs, rfl, (hid_some g1).2⟩, ⟨_, S2, y, d, rfl, c2, hw, ho⟩, _, S2, [.p (.obj d fs), y], c2, rfl, .cons hv2 (.cons hw .nil), ?_⟩
      cases neg with
      | true => exact tG_notB h2
      | false => exact tG_truB2 h2
    · exact h2.elim
  · exact h2.elim
theorem e_ocmp {F : List U → Sto → M U} {eb : Expr} {fb : FE} (neg : Bool) (hm : behindInMarks (ocOp neg) eb = false) (G : EqC X k c F) (hr : Room (k + 1) X.A) (hfr : Free X.A) (ha : PE X e (tE X.K W fa)) (hb : PE X eb (tE X.K W fb)) : PE X (.Compare e [ocOp neg] [eb] pos) (tE X.K W (fOcmp neg c F fa fb)) :=
  (pe_cmpR (op_ocmp neg G hr hfr) ha hb hm).weak fun σ H Q h => ocmp_go h
theorem t_ocmp {F : List U → Sto → M U} {eb : Expr} {fb : FE} (neg : Bool) (hm : behindInMarks (ocOp neg) eb = false) (G : EqC X k c F) (hr : Room (k + 1) X.A) (hfr : Free X.A) (ha : PE X e (tE X.K W fa)) (hb : PE X eb (tE X.K W fb)) : PT X (.Compare e [ocOp neg] [eb] pos) (tT X.K W (fBl (fOcmp neg c F fa fb))) :=
  (pt_cmpR (op_ocmp neg G hr hfr) ha hb hm).weak fun σ H Q ⟨ρ, α, S, hE, cs, h⟩ => by
    refine ocmp_go ⟨ρ, α, S, hE, cs, step cs hE h fun u S1 β H1 af hE1 c1 h1 v hv => ?_⟩
    obtain ⟨b, e, q⟩ := liftB_inv h1
    have e := blOf_inv e
    subst e
    cases hv
    exact ⟨b, rfl, q _ (.refl c1)⟩
/-! ### truth -/
def otruP (c : Str) (x : U) (_ : Sto) : Option Bool := match x with
  | .p (.obj d _) => if d = c then some true else none
  | _ => none
def fOtru (c : Str) (a : FE) : FT := fun ρ S => (a ρ S).bind fun x S1 => liftB (otruP c x S1) S1
theorem t_otru (hp : plainT e = true) (hb : PySem.W.findIn X.K (.ref (He.ga X.K c)) "__bool__" = some none) (hl : PySem.W.findIn X.K (.ref (He.ga X.K c)) "__len__" = some none) (ha : PE X e (tE X.K W fa)) : PT X e (tT X.K W (fOtru c fa)) := by
  refine ⟨fun pins s σ H Q I ⟨ρ, α, S, hE, cs, h⟩ => ?_⟩
  rw [plainT_ok hp]
  refine wpAny_bind (thn (ha.run pins s σ H (fun v H1 => (∃ a dx xs, v = .ref a ∧ H1 a = some (.ins (He.ga X.K c) dx xs)) ∧ Q true H1) I ⟨ρ, α, S, hE, cs, step cs hE h fun x S1 β H1 af hE1 c1 h1 v hv => ?_⟩) fun u s1 ⟨x, H1, I1, rx, ⟨a, dx, xs, ex, ea⟩, q⟩ => ?_)
  · obtain ⟨z, ez, q⟩ := liftB_inv h1
    unfold otruP at ez
    split at ez
    · split at ez
      · rename_i d fs hd
        subst hd
        cases ez
        obtain ⟨a, dx, xs, rfl, g1, g2⟩ := Is.obj_inv (show Is X.K _ (.obj _ fs) v from hv)
        exact ⟨⟨a, dx, xs, rfl, (hid_some g1).2⟩, q _ (.refl c1)⟩
      · cases ez
    · cases ez
  · subst ex
    obtain rfl : u = Value.ref a := rx
    obtain ⟨mA, O, _⟩ := ins_get I1.hok ea
    obtain ⟨od, J, _⟩ := O.look
    obtain ⟨m, hF⟩ := I1.fr
    exact wpAny_bind (wpAny_standAt (wpAny_holding (PySem.W.truthy_K0 hF I1.ok.mod.kin J hb hl ⟨H1, I1, q⟩)))
/-! ### isinstance of an own class -/
structure IsC (X : Cx) (c : Str) : Prop where
  cl : Cls X.K (He.ga X.K c)
  ha : PySem.W.findIn X.K (.ref (He.ga X.K c)) "__class__" = some (some (.builtin "object.__class__"))
  hn : PySem.W.specialIn X.K (.builtin "object.__class__") "__get__" = some (some (.builtin "getset_descriptor.__get__"))
  htk : PySem.W.takesIn X.K (.builtin "object.__class__") = some true
  hm : PySem.W.mroIn X.K (He.ga X.K c) (.type "object") = some true
  no : ∀ n ∈ tyNames, PySem.W.kitOne X.K (.type n) (.ref (He.ga X.K c)) = some false
  yes : PySem.W.kitOne X.K (.ref (He.ga X.K c)) (.ref (He.ga X.K c)) = some true
def iscP (c : Str) (x : U) (_ : Sto) : Option P := match x with
  | .p (.obj d _) => if d = c then some (.bl true) else none
  | .p (.err _ _) => none
  | _ => some (.bl false)
theorem e_isc {p p2 : Pos} (G : IsC X c) (hg : Gl X "isinstance") (hm : X.mg "isinstance" = none) (hs : noStar e = true) (hT : Gl X c) (mT : X.mg c = some (.ref (He.ga X.K c))) (dT : (c == ("__debug__" : Str)) = false)
    (ha : PE X e (tE X.K W fa)) : PE X (.Call (.Name "isinstance" p) [e, .Name c p2] [] pos) (tE X.K W (fUn (iscP c) fa)) := by
  have hA : PA X [e, .Name c p2] (tCons (tE X.K W fa) (tCons (tC (.ref (He.ga X.K c))) tNil)) := pa_cons ha (pa_cons (pe_glob (v := .ref (He.ga X.K c)) hT mT rfl dT) pa_nil rfl) (star_cons hs)
  refine (pe_callB call_isi hg hm (by rfl) hA (by decide) (by decide) (star_cons hs) (back_any rfl)).weak fun σ H Q ⟨ρ, α, S, hE, cs, h⟩ => ?_
  refine ⟨ρ, α, S, hE, cs, step cs hE h fun x S1 β H1 af hE1 c1 h1 v hv => ?_⟩
  obtain ⟨z, ez, q⟩ := lift_inv h1
  have key : ∃ t b, TyX X.K H1 v t ∧ PySem.W.kitOne X.K t (.ref (He.ga X.K c)) = some b ∧ z = .bl b := by
    unfold iscP at ez
    split at ez
    · split at ez
      · rename_i d fs hd
        subst hd
        cases ez
        obtain ⟨a, dx, xs, rfl, g1, g2⟩ := Is.obj_inv (show Is X.K _ (.obj _ fs) v from hv)
        exact ⟨_, true, .base (.ins (hid_some g1).2 G.cl G.ha G.hn G.htk G.hm), G.yes, rfl⟩
      · cases ez
    · cases ez
    · rename_i hno hno2
      cases ez
      cases en : tyU x with
      | some n => exact ⟨_, false, ty_is c1 hv en, G.no n (tyU_mem en), rfl⟩
      | none =>
        exfalso
        cases x with
        | c k => cases en
        | p y => cases y <;> first | (cases en; done) | (exact hno _ _ rfl) | (exact hno2 _ _ rfl)
  obtain ⟨t, b, ht, hk, rfl⟩ := key
  exact ⟨v, .ref (He.ga X.K c), t, .ref (He.ga X.K c), b, rfl, .own _, ht, hk, q _ _ (.refl c1) (.bl b)⟩
end
end Ev
end
section
set_option Elab.async false
set_option linter.all false
set_option maxRecDepth 100000
set_option maxHeartbeats 2000000
/-! calls by keywords: f(k = v, ..), C(k = v, ..) -/
namespace Ev
open PySem PySem.Spec PyProof.Rows L2
/-- the values in the parameters' order -/
def inOrd {A : Type} (ks : List Str) (ws : List A) : List Str → Option (List A)
  | [] => some []
  | n :: l => match (ks.zip ws).lookup n, inOrd ks ws l with
    | some v, some r => some (v :: r)
    | _, _ => none
theorem inOrd_len {A : Type} {ks : List Str} {ws : List A} : ∀ {l : List Str} {r : List A}, inOrd ks ws l = some r → r.length = l.length
  | [], r, e => by cases e; rfl
  | n :: l, r, e => by
    unfold inOrd at e
    split at e
    · rename_i v q e1 e2
      cases e
      simp [inOrd_len e2]
    · cases e
theorem inOrd_get {A : Type} {ks : List Str} {ws : List A} : ∀ {l : List Str} {r : List A}, inOrd ks ws l = some r → ∀ n ∈ l, ((ks.zip ws).lookup n).isNone = false
  | [], r, e, n, hn => by simp at hn
  | m :: l, r, e, n, hn => by
    unfold inOrd at e
    split at e
    · rename_i v q e1 e2
      rcases List.mem_cons.mp hn with z | z
      · rw [z, e1]; rfl
      · exact inOrd_get e2 n z
    · cases e
theorem zip_lookup_none {A : Type} {ps : List Str} {us : List A} {n : Str} (h : n ∉ ps) : (ps.zip us).lookup n = none := by
  induction ps generalizing us with
  | nil => rfl
  | cons p ps ih =>
    cases us with
    | nil => rfl
    | cons u us =>
      rw [List.zip_cons_cons, List.lookup_cons]
      have hp : (n == p) = false := by simp; exact fun e => h (by rw [e]; exact List.mem_cons_self)
      rw [hp]
      exact ih fun z => h (List.mem_cons_of_mem _ z)
theorem inOrd_zip {ks : List Str} {ws : List Value} {base : List (Str × Value)} : ∀ {l : List Str} {r : List Value}, inOrd ks ws l = some r → (∀ n ∈ l, base.lookup n = none) → (l.filterMap fun n => ((base ++ ks.zip ws).lookup n).map fun v => (n, v)) = l.zip r
  | [], r, e, _ => by cases e; rfl
  | m :: l, r, e, hb => by
    unfold inOrd at e
    split at e
    · rename_i v q e1 e2
      cases e
      rw [List.filterMap_cons, List.lookup_append, hb m List.mem_cons_self, Option.none_or, e1, List.zip_cons_cons]
      dsimp only [Option.map_some]
      rw [inOrd_zip e2 fun n hn => hb n (List.mem_cons_of_mem _ hn)]
    · cases e
/-- one value ahead (self), or none; all others by keywords -/
theorem kw_binds {K : PySem.W.Frag} {x qual : Str} {params : Arguments} {body : List Stmt} {scope : Scope} {kws : List (Str × V)} {f : Addr} {fd : FuncData} {ps ks rest : List Str} {us as ws : List Value} (F : FunD K x qual params body scope [] kws f fd) (h : parB ps params = true)
    (hp : (ps = rest ∧ us = []) ∨ ∃ p u, ps = p :: rest ∧ us = [u]) (nd : ks.Nodup) (hsub : ∀ k ∈ ks, k ∈ rest) (hw : ws.length = ks.length) (ho : inOrd ks ws rest = some as) : bindArgs fd ⟨us, ks.zip ws⟩ = pure (ps.zip (us ++ as)) := by
  unfold parB at h
  simp only [Bool.and_eq_true, decide_eq_true_eq, List.isEmpty_iff, Option.isNone_iff_eq_none] at h
  obtain ⟨h1, h2, h3, h4, h5, h6⟩ := h
  obtain ⟨oc, od, dV, kV, doc, pm, an, cdv, ct, osl, rfl, lk, hcd, hD, hK⟩ := F.ex
  rcases hD with ⟨_, rfl⟩ | ⟨e, _⟩
  case inr => exact absurd rfl e
  have zk : (ks.zip ws).map (·.1) = ks := by rw [List.map_fst_zip]; omega
  have hk : ∀ q ∈ ks.zip ws, q.1 ∈ ks := fun q hq => (List.of_mem_zip (a := q.1) (b := q.2) hq).1
  rcases hp with ⟨rfl, rfl⟩ | ⟨p, u, rfl, rfl⟩
  · rw [binds_kw (ps := ps) h1 h2 h3 h4 h5 rfl [] (ks.zip ws) (fun q hq => ⟨hsub _ (hk q hq), by rw [List.zip_nil_right]; rfl⟩) (by rw [zk]; exact nd) (Nat.zero_le _) (fun n hn => by rw [List.zip_nil_right, List.nil_append]; exact inOrd_get ho n hn)]
    rw [inOrd_zip ho (by rw [List.zip_nil_right]; exact fun _ _ => rfl)]
    rfl
  · obtain ⟨n1, n2⟩ := List.nodup_cons.mp h6
    have z1 : (p :: rest).zip [u] = [(p, u)] := by simp
    have hb : ∀ n ∈ rest, List.lookup n [(p, u)] = none := fun n hn => by
      have : (n == p) = false := by simp; exact fun e => n1 (by rw [← e]; exact hn)
      rw [List.lookup_cons, this]
      rfl
    rw [binds_kw (ps := p :: rest) h1 h2 h3 h4 h5 rfl [u] (ks.zip ws) (fun q hq => ⟨List.mem_cons_of_mem _ (hsub _ (hk q hq)), by rw [z1]; exact hb _ (hsub _ (hk q hq))⟩) (by rw [zk]; exact nd) (by simp) (fun n hn => by
      rw [z1]
      rcases List.mem_cons.mp hn with z | z
      · rw [z, List.cons_append, List.lookup_cons]; simp
      · rw [List.lookup_append, hb n z, Option.none_or]; exact inOrd_get ho n z)]
    rw [z1, List.filterMap_cons, List.cons_append, List.lookup_cons]
    simp only [beq_self_eq_true, Option.map_some]
    rw [List.cons_append, List.nil_append, List.zip_cons_cons]
    congr 2
    have := inOrd_zip (base := [(p, u)]) ho hb
    rw [List.cons_append, List.nil_append] at this
    exact this
end Ev
end
section
set_option Elab.async false
set_option linter.all false
set_option maxRecDepth 100000
set_option maxHeartbeats 2000000
/-! calls by keywords: the rules -/
namespace Ev
open PySem PySem.Spec PyProof.Rows L2
theorem _root_.L2.PK.weak {X : Cx} {kws : List Keyword} {t t' : TA} (h : PK X kws t) (w : ∀ σ H Q, t' σ H Q → t σ H Q) : PK X kws t' := ⟨fun pos pins s σ H Q I q => h.run pos pins s σ H Q I (w σ H Q q)⟩
theorem kw_names {pos : Pos} {env : Env} : ∀ {kws : List Keyword}, (backToKw pos (keywordEach kws env)).map (·.1) = kws.map (·.arg)
  | [] => rfl
  | ⟨n, v, p⟩ :: r => by
    have ih := kw_names (pos := pos) (env := env) (kws := r)
    show n :: (backToKw pos (keywordEach r env)).map (·.1) = n :: r.map (·.arg)
    rw [ih]
theorem all_some {A : Type} {B : Type} {l : List (Option A × B)} {ks : List A} (h : l.map (·.1) = ks.map some) : l.all (·.1.isSome) = true ∧ l.filterMap (·.1) = ks ∧ l.any (·.1.isNone) = false := by
  induction l generalizing ks with
  | nil => cases ks <;> first | exact ⟨rfl, rfl, rfl⟩ | (simp at h; done)
  | cons a l ih =>
    cases ks with
    | nil => simp at h
    | cons k ks =>
      rw [List.map_cons, List.map_cons] at h
      injection h with h1 h2
      obtain ⟨i1, i2, i3⟩ := ih h2
      refine ⟨by simp [h1, i1], by rw [List.filterMap_cons, h1]; simp [i2], by simp [h1, i3]⟩
section
variable {X : Cx} {W : XK} {pos p : Pos} {x : Str} {k : Nat}
theorem k_nil : PK X [] (tA X.K W fNil) := pk_nil.weak fun σ H Q ⟨ρ, α, S, hE, c, h⟩ => tG_ok0 h (.refl c) [] .nil
theorem k_cons {e : Expr} {nm : Option Str} {kp : Pos} {kws : List Keyword} {fa : FE} {fl : FA} (ha : PE X e (tE X.K W fa)) (hl : PK X kws (tA X.K W fl)) : PK X (⟨nm, e, kp⟩ :: kws) (tA X.K W (fCons fa fl)) :=
  (pk_cons ha hl).weak fun σ H Q ⟨ρ, α, S, hE, c, h⟩ => ⟨ρ, α, S, hE, c, step c hE h fun x S1 β H1 af hE1 c1 h1 v hv =>
    ⟨ρ, α ++ β, S1, hE1, c1, step c1 hE1 h1 fun xs S2 β2 H2 af2 hE2 c2 h2 vs hvs => tG_ok0 h2 (.refl c2) (v :: vs) (.cons (hv.aft af2) hvs)⟩⟩
theorem zip_rel {K : PySem.W.Frag} {α : List Addr} {G : Hp} : ∀ {ks : List Str} {us : List U} {vs : List V}, IsUs K α G us vs → ∀ {n : Str} {u : U}, (ks.zip us).lookup n = some u → ∃ v, (ks.zip vs).lookup n = some v ∧ IsU K α G u v
  | [], us, vs, h, n, u, e => by simp at e
  | k :: ks, _, _, .nil, n, u, e => by simp at e
  | k :: ks, _, _, .cons h hs, n, u, e => by
    rw [List.zip_cons_cons, List.lookup_cons] at e ⊢
    cases q : (n == k) with
    | true => rw [q] at e; cases e; exact ⟨_, rfl, h⟩
    | false => rw [q] at e; exact zip_rel hs e
theorem inOrd_rel {K : PySem.W.Frag} {α : List Addr} {G : Hp} {ks : List Str} {us : List U} {vs : List V} (h : IsUs K α G us vs) : ∀ {l : List Str} {r : List U}, inOrd ks us l = some r → ∃ q, inOrd ks vs l = some q ∧ IsUs K α G r q
  | [], r, e => by cases e; exact ⟨[], rfl, .nil⟩
  | n :: l, r, e => by
    unfold inOrd at e
    split at e
    · rename_i u q e1 e2
      cases e
      obtain ⟨v, h1, h2⟩ := zip_rel h e1
      obtain ⟨q2, h3, h4⟩ := inOrd_rel h e2
      exact ⟨v :: q2, by unfold inOrd; rw [h1, h3], .cons h2 h4⟩
    · cases e
theorem zip_vals : ∀ {ks : List Str} {vs : List V} {us : List Value}, Vals vs us → ∀ {n : Str} {v : V}, (ks.zip vs).lookup n = some v → ∃ u, (ks.zip us).lookup n = some u ∧ RelV v u
  | [], us, vs, h, n, u, e => by simp at e
  | k :: ks, _, _, .nil, n, u, e => by simp at e
  | k :: ks, _, _, .cons h hs, n, u, e => by
    rw [List.zip_cons_cons, List.lookup_cons] at e ⊢
    cases q : (n == k) with
    | true => rw [q] at e; cases e; exact ⟨_, rfl, h⟩
    | false => rw [q] at e; exact zip_vals hs e
theorem inOrd_vals {ks : List Str} {vs : List V} {us : List Value} (h : Vals vs us) : ∀ {l : List Str} {r : List V}, inOrd ks vs l = some r → ∃ q, inOrd ks us l = some q ∧ Vals r q
  | [], r, e => by cases e; exact ⟨[], rfl, .nil⟩
  | n :: l, r, e => by
    unfold inOrd at e
    split at e
    · rename_i u q e1 e2
      cases e
      obtain ⟨v, h1, h2⟩ := zip_vals h e1
      obtain ⟨q2, h3, h4⟩ := inOrd_vals h e2
      exact ⟨v :: q2, by unfold inOrd; rw [h1, h3], .cons h2 h4⟩
    · cases e
/-- the arguments put in the parameters' order -/
def fOrd (ks rest : List Str) (l : FA) : FA := fun ρ S => (l ρ S).bind fun us S1 => match inOrd ks us rest with
  | some r => if us.length = ks.length then some (.ok r S1) else none
  | none => none
theorem e_callK {f : Addr} {fd : FuncData} {ps ks : List Str} {n : Nat} {F : List U → Sto → M U} {kws : List Keyword} {fl : FA} {nm qual : Str} {params : Arguments} {body : List Stmt} {scope : Scope} {kd : List (Str × V)} (hW : Takes X fun cls d _ H => W cls d H)
    (F0 : FnG X.prog X.w X.K X.mg X.base (L2.CX X.prog X.w) k f fd ps (spF X.K n F)) (FD : FunD X.K nm qual params body scope [] kd f fd) (hpar : parB ps params = true) (hr : Room k X.A) (hfr : Free X.A) (hg : Gl X x) (hm : X.mg x = some (.ref f)) (hn : ps.length = n)
    (hd : (x == ("__debug__" : Str)) = false) (hks : kws.map (·.arg) = ks.map some) (nd : ks.Nodup) (hsub : ∀ k ∈ ks, k ∈ ps) (ha : PK X kws (tA X.K W fl)) : PE X (.Call (.Name x p) [] kws pos) (tE X.K W (fApp F (fOrd ks ps fl))) := by
  obtain ⟨a1, a2, a3⟩ := all_some ((kw_names (pos := pos) (env := X.env) (kws := kws)).trans hks)
  refine ⟨fun pins s σ H Q I ⟨ρ, α, S, hE, c, h⟩ => ?_⟩
  unfold fApp fOrd at h
  rw [bind_assoc] at h
  refine wpAny_Call_Name_kw (ld_glob I hg hm ?_ hd)
  refine PySem.W.callWith_KW0 (h₀ := X.base) I.ok.mod.kin FD.kp a1 (thn (ha.run pos pins s σ H (fun vs H1 => vs.length = ks.length ∧ ∃ r, inOrd ks vs ps = some r ∧ spF X.K n F r H1 Q W) I ⟨ρ, α, S, hE, c, step c hE h fun us S1 β H1 af hE1 c1 h1 vs hvs => ?_⟩) fun us s1 ⟨vs, H1, I1, rv, hl, r, hq, q⟩ => ⟨I1.kIn, ?_⟩) (by rw [a3]; rfl)
  · cases e : inOrd ks us ps with
    | none => rw [e] at h1; exact h1.elim
    | some r =>
      rw [e] at h1
      dsimp only at h1
      split at h1
      · rename_i hl
        obtain ⟨r2, g1, g2⟩ := inOrd_rel hvs e
        exact ⟨by rw [← hvs.length]; exact hl, r2, g1, _, S1, r, c1, by rw [inOrd_len e, hn], g2, h1⟩
      · exact h1.elim
  · rw [a2]
    obtain ⟨as, g1, g2⟩ := inOrd_vals rv hq
    have hb := kw_binds (us := []) FD hpar (.inl ⟨rfl, rfl⟩) nd hsub (by rw [← rv.length]; exact hl) g1
    refine wpAny_call (codeAny_mono (runG (E' := X.xe) F0 hr hfr (fun e s' hq => (passes_call hW fun _ _ _ _ h => h) pins σ H1 s1 e s' I1 hq) I1 I1.env0 (.of_eq hb) g2 q) fun r s' hq => ?_)
    cases r with
    | error e => exact hq
    | ok fl => cases fl <;> exact hq
theorem e_makeK {R : List P → Option (List (Str × Nat))} {f : Addr} {fd : FuncData} {self : Str} {rest ks N : List Str} {n : Nat} {kws : List Keyword} {fl : FA} {nm qual : Str} {params : Arguments} {body : List Stmt} {scope : Scope} {kd : List (Str × V)} (M : Mk X.K (He.ga X.K x) f)
    (F0 : FnG X.prog X.w X.K X.mg X.base (L2.CX X.prog X.w) k f fd (self :: rest) (spI X.K (He.ga X.K x) n N R)) (FD : FunD X.K nm qual params body scope [] kd f fd) (hpar : parB (self :: rest) params = true)
    (hW : Takes X fun cls d _ H => W cls d H) (hr : Room (k + 1) X.A) (hfr : Free X.A) (hg : Gl X x) (hm : X.mg x = some (.ref (He.ga X.K x))) (hd : (x == ("__debug__" : Str)) = false)
    (hks : kws.map (·.arg) = ks.map some) (nd : ks.Nodup) (hsub : ∀ k ∈ ks, k ∈ rest) (ha : PK X kws (tA X.K W fl)) : PE X (.Call (.Name x p) [] kws pos) (tE X.K W (fBlt (fun us _ => makeP R x n us) (fOrd ks rest fl))) := by
  obtain ⟨a1, a2, a3⟩ := all_some ((kw_names (pos := pos) (env := X.env) (kws := kws)).trans hks)
  refine ⟨fun pins s σ H Q I ⟨ρ, α, S, hE, c, h⟩ => ?_⟩
  unfold fBlt fOrd at h
  rw [bind_assoc] at h
  refine wpAny_Call_Name_kw (ld_glob I hg hm ?_ hd)
  refine PySem.W.callWith_KW0 (h₀ := X.base) I.ok.mod.kin M.kp a1 (thn (ha.run pos pins s σ H (fun vs H1 => vs.length = ks.length ∧ ∃ r, inOrd ks vs rest = some r ∧
    ∀ x' dx, H1 x' = none → H1 dx = none → dx ≠ x' → spI X.K (He.ga X.K x) n N R (.ref x' :: r) (upd (upd H1 dx (.own x')) x' (.ins (He.ga X.K x) dx [])) (fun v H2 => v = .non ∧ Q (.ref x') H2) W) I
    ⟨ρ, α, S, hE, c, step c hE h fun us S1 β H1 af hE1 c1 h1 vs hvs => ?_⟩) fun us s1 ⟨vs, H1, I1, rv, hl, r, hq, q⟩ => ⟨I1.kIn, ?_⟩) (by rw [a3]; rfl)
  · cases e : inOrd ks us rest with
    | none => rw [e] at h1; exact h1.elim
    | some r =>
      rw [e] at h1
      dsimp only at h1
      split at h1
      · rename_i hl
        obtain ⟨r2, g1, g2⟩ := inOrd_rel hvs e
        have h1 : tG X.K W (α ++ β) H1 (lift (makeP R x n r) S1) (PoE X.K Q) := h1
        obtain ⟨z, ez, q⟩ := lift_inv h1
        exact ⟨by rw [← hvs.length]; exact hl, r2, g1, fun x' dx n1 n2 n3 => make_post (W := W) c1 g2 ez q x' dx n1 n2 n3⟩
      · exact h1.elim
  · rw [a2]
    obtain ⟨as, g1, g2⟩ := inOrd_vals rv hq
    refine run_makeG M F0 hr hfr (fun s0 a hk => ?_) (passes_call hW fun _ _ _ _ h => h) I1 g2 fun x' dx n1 n2 n3 => q x' dx n1 n2 n3
    have hb := kw_binds (us := [Value.ref a]) FD hpar (.inr ⟨self, .ref a, rfl, rfl⟩) nd hsub (by rw [← rv.length]; exact hl) g1
    exact .of_eq hb
end
end Ev
end
section
set_option Elab.async false
set_option linter.all false
set_option maxRecDepth 100000
set_option maxHeartbeats 2000000
/-! t[::-1] of a tuple -/
namespace HT
open PySem PySem.Spec PyProof.Rows
section
variable {prog : Program} {w : World} {A : Around} {E : Value → Shared → Prop} {s : Shared}
theorem rev_pick (xs : Array Value) : ((List.range xs.size).filterMap fun (m : Nat) => xs[(((xs.size : Int) - 1) + (m : Int) * (-1)).toNat]?) = xs.toList.reverse := by
  have e : ∀ m ∈ List.range xs.size, xs[(((xs.size : Int) - 1) + (m : Int) * (-1)).toNat]? = xs[xs.size - 1 - m]? := fun m hm => by
    have := List.mem_range.mp hm
    have h : (((xs.size : Int) - 1) + (m : Int) * (-1)).toNat = xs.size - 1 - m := by omega
    rw [h]
  have h1 : ((List.range xs.size).filterMap fun (m : Nat) => xs[(((xs.size : Int) - 1) + (m : Int) * (-1)).toNat]?) = (List.range xs.size).filterMap fun m => xs[xs.size - 1 - m]? := by
    revert e
    generalize List.range xs.size = l
    intro e
    induction l with
    | nil => rfl
    | cons a l ih => rw [List.filterMap_cons, List.filterMap_cons, e a List.mem_cons_self, ih fun m hm => e m (List.mem_cons_of_mem _ hm)]
  rw [h1]
  have h2 : ((List.range xs.size).filterMap fun m => xs[xs.size - 1 - m]?) = ((List.range xs.size).map fun k => xs.size - 1 - k).filterMap (xs[·]?) := by
    rw [List.filterMap_map]
    rfl
  rw [h2, PySem.W.krv_range, List.filterMap_reverse, PySem.W.krv_all]
theorem sliceApplied_rev {sl : Addr} {vl vu vs : Value} {n : Nat} {Q : Int × Int × Nat → Shared → Prop} (hs : s.heap.IsSliceOf sl vl vu vs) (pl : IsPart vl none) (pu : IsPart vu none) (ps : IsPart vs (some (-1)))
    (h : Q ((n : Int) - 1, -1, n) s) : wpAny (model prog w) A (Builtin.Slice.sliceApplied (.ref sl) (pure (n : Int))) Q E s := by
  obtain ⟨os, hos, hcs, hds⟩ := id hs
  unfold Builtin.Slice.sliceApplied Builtin.Slice.sliceFields
  refine wpAny_bind (wpAny_bind (wpAny_field hos hds (x := vl) rfl (wpAny_bind (wpAny_field hos hds (x := vu) rfl (wpAny_bind (wpAny_field hos hds (x := vs) rfl (wpAny_pure ?_)))))))
  refine wpAny_bind (slicePart_ ps ?_)
  show wpAny _ _ (if ((-1 : Int) == 0) = true then _ else _) _ _ s
  rw [if_neg (by decide)]
  refine wpAny_bind (slicePart_ pl (wpAny_bind (slicePart_ pu (wpAny_bind (wpAny_pure ?_)))))
  show wpAny _ _ (match Builtin.Slice.sliceAdjust none none (-1) (n : Int) with | (lo, hi) => pure (lo, (-1 : Int), Builtin.Slice.slicePlaces lo hi (-1))) _ _ s
  have e1 : Builtin.Slice.sliceAdjust none none (-1) (n : Int) = ((n : Int) - 1, -1) := by
    first | rfl | simp [Builtin.Slice.sliceAdjust]
  have e2 : Builtin.Slice.slicePlaces ((n : Int) - 1) (-1) (-1) = n := by
    unfold Builtin.Slice.slicePlaces
    simp
    omega
  rw [e1]
  show wpAny _ _ (pure (((n : Int) - 1), (-1 : Int), Builtin.Slice.slicePlaces ((n : Int) - 1) (-1) (-1))) _ _ s
  rw [e2]
  exact wpAny_pure h
theorem getItem_tuple_rev {t sl : Addr} {items : Array Value} {vl vu vs : Value} {Q : Value → Shared → Prop} (ht : IsTup s.heap t items) (hs : s.heap.IsSliceOf sl vl vu vs) (pl : IsPart vl none) (pu : IsPart vu none) (ps : IsPart vs (some (-1)))
    (h : Q (.ref s.heap.objs.size) { s with heap := s.heap.push { cls := .type "tuple", data := .seq items.toList.reverse.toArray } }) (hsz : items.size ≤ sizeLine) : wpAny (model prog w) A (getItem (.ref t) (.ref sl)) Q E s := by
  have htake : sizeOk (.seq items.toList.reverse.toArray) := by
    show items.toList.reverse.toArray.size ≤ sizeLine
    rw [List.size_toArray, List.length_reverse, Array.length_toList]
    exact hsz
  obtain ⟨os, hos, hcs, hds⟩ := id hs
  have hTs : s.TypeIs (.ref sl) "slice" := ⟨os, hos, hcs⟩
  unfold getItem
  try with_reducible refine wpAny_holding ?_
  first | refine wpAny_bind (wpAny_pure ?_) | skip
  refine wpAny_bind (wpAny_sequenceKey ht.typeIs (by decide) ?_)
  refine wpAny_bind (wpAny_callSpecial?_slot (name := Str.ofString "__getitem__") ht.typeIs PyProof.Rows.slot_tuple_getitem
    (wpAny_call_entry PyProof.Rows.slot_tuple_getitem ht.typeIs entry_tuple_getitem ?_ (args_tuple_getitem _ _)))
  show wpAny _ _ (Builtin.Tuple.tupleItemsOf (.ref t) >>= _) _ _ s
  refine wpAny_bind (tupleItemsOf_ ht ?_)
  refine wpAny_bind (wpAny_typeOf hTs ?_)
  rw [if_pos (by decide)]
  refine wpAny_bind (sliceApplied_rev hs pl pu ps ?_)
  show wpAny _ _ (if (((items.size : Int) - 1) == 0 && (-1 : Int) == 1 && items.size == items.size) = true then _ else _) _ _ s
  rw [if_neg (by
    intro q
    rw [Bool.and_eq_true, Bool.and_eq_true] at q
    exact absurd q.1.2 (by decide)), rev_pick]
  first
    | exact wpAny_bind (m := Builtin.Tuple.tupleExact _) (wpAny_newObj_type (wpAny_pure ⟨_, rfl, wpAny_pure h⟩) htake)
    | exact wpAny_bind (m := Builtin.Tuple.tupleExact _) (wpAny_newObj_type (wpAny_bind (wpAny_pure (wpAny_pure ⟨_, rfl, wpAny_pure h⟩))) htake)
    | exact wpAny_bind (wpAny_bind (m := Builtin.Tuple.tupleExact _) (wpAny_newObj_type (wpAny_pure (wpAny_pure ⟨_, rfl, wpAny_pure h⟩)) htake))
    | exact wpAny_bind (wpAny_bind (m := Builtin.Tuple.tupleExact _) (wpAny_newObj_type (wpAny_pure ⟨_, rfl, wpAny_pure h⟩) htake))
end
end HT
namespace Ev
open PySem PySem.Spec PyProof.Rows L2
def tRevT (K : PySem.W.Frag) (te : TE) : TE := fun σ H Q => te σ H fun x H1 => ∃ a xs, x = .ref a ∧ SqT K H1 a xs ∧ ∀ p, H1 p = none → Q (.ref p) (upd H1 p (.tup xs.reverse))
theorem pe_revT {X : Cx} {e : Expr} {te : TE} {k : Nat} {p1 p2 p3 pos : Pos} (he : PE X e te) : PE X (.Subscript e (.Slice none none (some (.UnaryOp .USub (.Constant (.int 1) k p1) p2)) p3) pos) (tRevT X.K te) := by
  refine ⟨fun pins s σ H Q I h => ?_⟩
  refine Subscript_ (thn (he.run pins s σ H _ I h) fun v s1 ⟨x, H1, I1, r1, a, xs, ex, hx, q⟩ => ?_)
  subst ex
  cases r1
  have hst : PO X (some (.UnaryOp .USub (.Constant (.int 1) k p1) p2)) (tPart (tUn (rU fun i => .int (-i)) (tC (.int 1)))) := po_some (pe_un un_neg pe_int)
  refine wpAny_Slice (thn (po_none.run pins s1 σ H1 (fun o H2 => o = none ∧ H2 = H1) I1 ⟨rfl, rfl⟩) fun vl s2 ⟨l, H2, I2, pl, el, e2⟩ => ?_)
  subst el e2
  refine thn (po_none.run pins s2 σ H2 (fun o H3 => o = none ∧ H3 = H2) I2 ⟨rfl, rfl⟩) fun vu s3 ⟨u, H3, I3, pu, eu, e3⟩ => ?_
  subst eu e3
  refine thn (hst.run pins s3 σ H3 (fun o H4 => o = some (-1) ∧ H4 = H3) I3 ⟨1, rfl, -1, rfl, rfl, rfl⟩) fun vs s4 ⟨o, H4, I4, ps, eo, e4⟩ => ?_
  subst eo e4
  have I5 : Inv X pins σ H4 { s4 with heap := s4.heap.push { cls := .type "slice", data := .fields #[vl, vu, vs] } } := I4.kept (t' := s4.toks) fun b ob q => Heap.get?_push_of_some _ q
  obtain ⟨its, r, ht, hz⟩ := I5.tuple hx
  have hlen := r.length
  show wpAny (model X.prog X.w) X.A (subscriptTail e (.Slice none none (some (.UnaryOp .USub (.Constant (.int 1) k p1) p2)) p3) (.ref a) (.ref s4.heap.objs.size)) (EP X pins σ Q) X.xe { s4 with heap := s4.heap.push { cls := .type "slice", data := .fields #[vl, vu, vs] } }
  refine tail_any (ops := [.ref a, .ref s4.heap.objs.size]) ht.typeIs PyProof.Rows.slot_tuple_getitem.lookup ?_ (by with_unfolding_all rfl)
  refine HT.getItem_tuple_rev ht (Heap.IsSliceOf.new _ vl vu vs) pl pu ps ?_ (by rw [List.size_toArray]; omega)
  refine ⟨.ref _, _, I5.laid (t' := s4.toks) (o := .tup xs.reverse) (fun b ob q => Heap.get?_push_of_some _ q) (Nat.le_refl _) ?_, rfl, q _ (I5.hok.fresh (Nat.le_refl _))⟩
  exact ⟨by rw [List.length_reverse]; exact hz, _, r.reverse, IsTup.new _ _⟩
def revP (x : U) (_ : Sto) : Option P := match x with
  | .p (.tup l) => some (.tup l.reverse)
  | _ => none
theorem e_rev {X : Cx} {W : XK} {e : Expr} {fa : FE} {k : Nat} {p1 p2 p3 pos : Pos} (ha : PE X e (tE X.K W fa)) : PE X (.Subscript e (.Slice none none (some (.UnaryOp .USub (.Constant (.int 1) k p1) p2)) p3) pos) (tE X.K W (fUn revP fa)) :=
  (pe_revT ha).weak fun σ H Q ⟨ρ, α, S, hE, c, h⟩ => ⟨ρ, α, S, hE, c, step c hE h fun x S1 β H1 af hE1 c1 h1 v hv => by
    obtain ⟨z, ez, q⟩ := lift_inv h1
    unfold revP at ez
    split at ez
    · rename_i l
      cases ez
      cases hv with
      | tup g1 g2 =>
        refine ⟨_, _, rfl, sqT_hid g1, fun p n => ?_⟩
        exact q _ _ (aft_upd c1 n) (new_tup c1 n (IsA.rev g2))
    · cases ez⟩
end Ev
end
section
set_option Elab.async false
set_option linter.all false
set_option maxRecDepth 100000
set_option maxHeartbeats 2000000
/-! a def that is handed a lambda without parameters: tables stay good, no repr is under way -/
namespace Ev
open PySem PySem.Spec PyProof.Rows L2
abbrev lamO (X : Cx) (params : Arguments) (body : Expr) (scope : Scope) (pm ctv : Value) (c' : Addr) : Obj :=
  PySem.W.kla_obj "<lambda>" (X.env.qual ++ "<lambda>") params body scope (cloFrom X.env.cells scope.names []) pm c' ctv
section
variable {X : Cx} {pins : List (Addr × Obj)} {σ : L2.St} {H : Hp} {s : Shared}
/-- the lambda is called within the def that got it -/
theorem lam_run {Ng : List Str} {qg : Str} {sg : Scope} {g f c' : Addr} {cdg pm ctv : Value} {params : Arguments} {body : Expr} {scope : Scope} {k i : Nat} {a : Str} {pn : List (Addr × Obj)} {xe : Value → Shared → Prop} {W : WX} {E : XK} {tb : TE} {p1 p2 : Pos}
    (I : Inv X pins σ H s) (L : LamX.LamS X.env.scope scope) (of : s.heap.get? f = some (lamO X params body scope pm ctv c')) (nf : H f = none) (fr : f ∉ frs X.stack)
    (hbind : bindArgs (PySem.W.kla_fn "<lambda>" (X.env.qual ++ "<lambda>") params body scope (cloFrom X.env.cells scope.names []) pm (.ref c') ctv) ⟨[], []⟩ = pure [])
    (tk : Takes ((cxOf C8.CX0 X.prog X.w X.K X.mg X.base Ng qg sg g cdg X.A X.stack s H C8.E0).tr pn xe) W) (hW : ∀ cls d σ' H', E cls d H' → W cls d σ' H') (hr : Room (k + 1) (X.A.deeper (envOfC qg sg s.heap.objs.size g cdg))) (hfree : Free X.A)
    (hbody : ∀ (A : Around) (outer : List Env) (s : Shared) (H : Hp), Room k (A.deeper (LamX.lamEnv X scope s.heap.objs.size f c')) → Free (A.deeper (LamX.lamEnv X scope s.heap.objs.size f c')) → PE (LamX.lamCx X A outer s H E scope f c') body tb)
    (hN : Ng[i]? = some a) (hv : Vis sg a) (hd : (a == ("__debug__" : Str)) = false) (hcd : (a == ("__classdict__" : Str)) = false) :
    PE ((cxOf C8.CX0 X.prog X.w X.K X.mg X.base Ng qg sg g cdg X.A X.stack s H C8.E0).tr pn xe) (.Call (.Name a p1) [] [] p2)
      (fun σZ HZ Q => σZ[i]? = some (some (.ref f)) ∧ HZ c' = some (LamX.CodeO c' (X.env.qual ++ "<lambda>")) ∧ tb σ HZ Q) := by
  refine ⟨fun pinsZ sZ σZ HZ Q IZ ⟨e1, e2, e3⟩ => wpAny_Call_Name_kw (thn ((pe_var (pos := p1) (i := i) hN hv hd hcd).run pinsZ sZ σZ HZ (fun v H1 => v = .ref f ∧ H1 = HZ) IZ ⟨.ref f, e1, rfl, rfl⟩) fun u s1 hu => ?_)⟩
  obtain ⟨v, H1, I1, r1, rfl, rfl⟩ := hu
  obtain rfl : u = Value.ref f := r1
  have of1 : s1.heap.get? f = some (lamO X params body scope pm ctv c') := I1.base.keep f _ of nf fr (fun z => nomatch (show f ∈ ([] : List Addr) from z))
  obtain ⟨⟨oc, vs, t, o1, o2, o3⟩, _, _⟩ := I1.hok c' _ e2
  refine PySem.W.callWith_F0 ⟨_, _, _, _, of1⟩ (wpAny_call (codeAny_mono (show codeAny (model X.prog X.w) (X.A.deeper (envOfC qg sg s.heap.objs.size g cdg)) (.call (.ref f) ⟨[], []⟩) (CR (L2.CX X.prog X.w) (envOfC qg sg s.heap.objs.size g cdg :: X.stack) X.prog X.w H1 s1 Q E) s1 from ?_) fun r s' hq => ?_))
  · refine PySem.W.kla_callFunE hr.depth of1 rfl L.co L.gen rfl ⟨c', oc, vs, t, rfl, o1, o2, o3⟩ ?_
    rw [hbind]
    refine wpAny_pure (wpAny_newFunctionEnv (fun y hy => (L.own y hy).2) (fun y hy => absurd hy (by simp)) (fun h₁ hns hsb => ⟨I1.nolimit.fresh _ hsb, ?_⟩) L.kind)
    have kp : ∀ b o, s1.heap.get? b = some o → h₁.get? b = some o := fun b o e => hsb.extBut b o (Nat.ne_of_lt (Heap.lt_size e)) (Heap.get?_push_of_some _ e)
    have J := LamX.lam_start2 (E := E) (f := f) (c' := c') (tk := s1.toks + ([] : List (Str × Value)).length) I L I1.env0 hr.hd I1.base hns kp
    exact PySem.W.kla_codeExpr (wpAny_mono ((hbody _ _ s1 H1 (hr.deeper _) (Free.deeper (Free.deeper hfree _) _)).run [] _ _ H1 Q J e3) (fun v s' ⟨w', H', J', rv, q⟩ => ⟨w', H', J'.os, J'.bare, J'.base, J'.hok, rv, q⟩) fun e s' hq => hq)
  · cases r with
    | error e => exact passes_call tk hW pinsZ σZ H1 s1 e s' I1 hq
    | ok fl =>
      cases fl with
      | ret u => exact I1.after hq
      | next => exact False.elim hq
      | brk => exact False.elim hq
      | cont => exact False.elim hq
end

theorem takes_len {X : Cx} {W : WX} (h : Takes X W) : Takes X fun cls d σ H => σ.length = X.N.length → W cls d σ H := fun u s ⟨a, B, sI, pins, σ, H, cls, d, e, I, nb, up, sky, na, os, ag, q⟩ =>
  h u s ⟨a, B, sI, pins, σ, H, cls, d, e, I, nb, up, sky, na, os, ag, q I.len⟩
/-- what a def hands back, and nothing else -/
def asOut (m : M Out) : M U := match m with
  | some (.ok (.rt u) S) => some (.ok u S)
  | _ => none
theorem asOut_tG {K : PySem.W.Frag} {W W' : XK} {α : List Addr} {H : Hp} {m : M Out} {Q : VK} {D : Ends} (h : tG K W α H (asOut m) (PoE K Q)) (hD : ∀ v H', Q v H' → D.rt v H') : tG K W' α H m (PoS K D) := by
  cases m with
  | none => exact h
  | some r =>
    cases r with
    | ex x S => exact False.elim h
    | ok o S =>
      cases o with
      | rt u => exact fun β H' af v hv => hD _ _ (h β H' af v hv)
      | nx ρ => exact False.elim h
      | bk ρ => exact False.elim h
      | ct ρ => exact False.elim h
/-- return ["gave", repr(what it gave)] -/
def gaveF : FS := fRet (fLst (fCons (fCst (.str "gave")) (fCons (fBlt reprP (fCons (fVar 1) fNil)) fNil)))
/-- return sort(the error) -/
def sortF (sort : List U → Sto → M U) : FS := fRet fun ρ S => (fVar 2 ρ S).bind fun u S1 => sort [u] S1
def errP (x : Xn) : P := .err x.cls x.arg.toList
def fCaught (cm : List (Str × Bool)) (sort : List U → Sto → M U) (a : FE) : FE := fun ρ S => match a ρ S with
  | none => none
  | some (.ok u S1) => asOut (gaveF [none, some u, none] S1)
  | some (.ex x S1) => if cm.lookup x.cls = some true then asOut (sortF sort [none, none, some (.p (errP x))] S1) else none
theorem aft_tab {K : PySem.W.Frag} {α : List Addr} {H H1 : Hp} {S : Sto} (c : Cs K H α S) (e : LamX.ExtN H H1) (t : LamX.Tabs (tbK K) H1) : Aft K α H [] H1 S := by
  have ex : Ext (hid α H) (hid α H1) := fun b o h => by
    obtain ⟨h1, h2, h3⟩ := hid_all h
    exact hid_out h1 (e b o h2 h3) h3
  refine ⟨fun b o h _ n => e b o h n, fun b hb => absurd hb (by simp), ?_⟩
  rw [List.append_nil]
  refine ⟨c.nd, c.len, fun n a l h1 h2 => ?_, t⟩
  obtain ⟨xs, h3, h4⟩ := c.at_ n a l h1 h2
  exact ⟨xs, e _ _ h3 (fun _ z => by cases z), h4.ext ex⟩
/-- the error that was caught, as data -/
theorem err_held {K : PySem.W.Frag} {α : List Addr} {H : Hp} {S : Sto} {x : Xn} {cls : Value} {d : Option Addr} {a : Addr} (c : Cs K H α S) (h : IsX K (hid α H) H x cls d) (na : H a = none) : Is K (hid α (upd H a (ErO cls d a))) (errP x) (.ref a) := by
  obtain ⟨rfl, h2⟩ := h
  have ex : Ext (hid α H) (hid α (upd H a (ErO (.ref (He.ga K x.cls)) d a))) := hid_ext (ext_upd na)
  have ha : a ∉ α := c.notin na
  have here : hid α (upd H a (ErO (.ref (He.ga K x.cls)) d a)) a = some (ErO (.ref (He.ga K x.cls)) d a) := hid_out ha upd_same fun _ z => by unfold ErO at z; cases z
  obtain ⟨xc, xa⟩ := x
  cases xa with
  | none =>
    cases (show d = none from h2)
    exact .err0 here
  | some q =>
    obtain ⟨f, y⟩ := q
    obtain ⟨dd, v, rfl, h3, h4⟩ := h2
    have nd : dd ≠ a := ne_of_none h3 na
    have dα : dd ∉ α := fun z => by
      obtain ⟨xs, w⟩ := c.there z
      rw [h3] at w; cases w
    exact .err1 here (hid_out dα (by rw [upd_ne nd]; exact h3) fun _ z => by cases z) (h4.ext ex)
/-- the def that catches: its text, its names -/
structure CaT (act gave err srt x1 x2 x3 : Str) (bg : List Stmt) (sg : Scope) : Prop where
  text : ∃ (p1 p2 p3 p4 p5 p6 p7 p8 p9 q1 q2 q3 q4 q5 q6 r1 r2 r3 rt r4 r5 : Pos) (kk j : Nat),
    bg = [.Try [.Assign [.Name gave p1] (.Call (.Name act p2) [] [] p3) p4] [.ExceptHandler (some (.Tuple [.Name x1 r1, .Name x2 r2, .Name x3 r3] kk rt)) (some err) [.Return (some (.Call (.Name srt p5) [.Name err p6] [] p7)) p8] r4] [] [] r5,
      .Return (some (.List [.Constant (.str "gave") j q1, .Call (.Name "repr" q2) [.Name gave q3] [] q4] q5)) q6]
  sc : FnScope [act, gave, err] [act] sg
  k0 : Vis sg act
  k1 : sg.names.lookup gave = some .local
  k2 : sg.names.lookup err = some .local
  g1 : sg.names.lookup x1 = some .globalImplicit
  g2 : sg.names.lookup x2 = some .globalImplicit
  g3 : sg.names.lookup x3 = some .globalImplicit
  g4 : sg.names.lookup srt = some .globalImplicit
  g5 : sg.names.lookup ("repr" : Str) = some .globalImplicit
  nd : ∀ x ∈ [act, gave, err, srt, x1, x2, x3], (x == ("__debug__" : Str)) = false ∧ (x == ("__classdict__" : Str)) = false
theorem isE_none {K : PySem.W.Frag} {α : List Addr} {G : Hp} {σ : L2.St} (h : σ.length = 3) : IsE K α G [none, none, none] σ := ⟨h.symm, fun i u e => by
  match i, e with
  | 0, e => cases e
  | 1, e => cases e
  | 2, e => cases e⟩
def tbC (K : PySem.W.Frag) (f c' : Addr) (q : Str) (tl : XK → Hp → VK → Prop) (Wv : WX) : TS := fun D σ H =>
  ∃ Ec : XK, (∀ cls d σ' H', Ec cls d H' → σ'.length = 3 → Wv cls d σ' H') ∧ σ[0]? = some (some (V.ref f)) ∧ H c' = some (LamX.CodeO c' q) ∧ tl Ec H fun v H' => D.nx (σ.set 1 (some v)) H'
section
variable {X : Cx} {W : XK} {fa : FE} {x act gave err srt x1 x2 x3 : Str} {c1 c2 c3 : Value} {g aS c P : Addr} {fd fdS : FuncData} {psS : List Str} {k : Nat} {pg params : Arguments} {bg : List Stmt} {sg scope : Scope} {kws : List (Str × V)} {sort : List U → Sto → M U} {cm : List (Str × Bool)} {body : Expr} {p lpos pos : Pos}
theorem e_caught (hg : Gl X x) (hm : X.mg x = some (.ref g)) (hk : PySem.W.keepIn X.K (.ref g) = true) (F : FunD X.K x x pg bg sg [] kws g fd) (pb : parB [act] pg = true) (C : CaT act gave err srt x1 x2 x3 bg sg)
    (m1 : X.mg x1 = some c1) (m2 : X.mg x2 = some c2) (m3 : X.mg x3 = some c3) (ms : X.mg srt = some (.ref aS)) (mr : X.mg "repr" = none)
    (Fs : FnW X.prog X.w X.K X.mg X.base (L2.CX X.prog X.w) k aS fdS psS (spF X.K 1 sort)) (ks : PySem.W.keepIn X.K (.ref aS) = true) (bs : L2.Binds X.K fdS psS [])
    (hcm : ∀ d, cm.lookup d = some true → PySem.W.exmAny X.K (.ref (He.ga X.K d)) [c1, c2, c3] = some true)
    (TB : LamX.TabB X.base X.mg c P) (hcode : X.env.code = .ref c) (hmT : (P, X.env.qual ++ "<lambda>") ∈ tbK X.K) (hu : ∀ p ∈ tbK X.K, p.1 = P → p.2 = X.env.qual ++ "<lambda>")
    (hr : Room (k + 2) X.A) (hf : Free X.A) (L : LamX.LamS X.env.scope scope) (hdef : defaultsOf params X.env = ([], []))
    (hbind : ∀ (q : Str) (cl : List (Str × Addr)) (pm cv ctv : Value), bindArgs (PySem.W.kla_fn "<lambda>" q params body scope cl pm cv ctv) ⟨[], []⟩ = pure [])
    (hbody : ∀ (A : Around) (outer : List Env) (s : Shared) (H : Hp) (E : XK) (f c' : Addr), Room k (A.deeper (LamX.lamEnv X scope s.heap.objs.size f c')) → Free (A.deeper (LamX.lamEnv X scope s.heap.objs.size f c')) → PE (LamX.lamCx X A outer s H E scope f c') body (tE X.K E fa))
    (hdb : (x == ("__debug__" : Str)) = false) : PE X (.Call (.Name x p) [.Lambda params body scope lpos] [] pos) (tE X.K W (fCaught cm sort fa)) := by
  obtain ⟨oc, od, dV, kV, doc, pm, an, cdv, cte, osl, rfl, lk, hcd, _, _⟩ := F.ex
  have hb := binds_of F pb
  refine ⟨fun pins s σ H Q I ⟨ρ, α, S, hE, c0, h0⟩ => ?_⟩
  refine wpAny_Call_Name_kw (ld_glob I hg hm (PySem.W.callWith_K (h₀ := X.base) I.ok.mod.kin hk ?_ (by rfl) (by rfl)) hdb)
  refine show wpAny _ _ (spliced ((false, eval (.Lambda params body scope lpos) X.env) :: backTo pos (starEach [] X.env))) _ _ s from Calls.spliced_cons (LamX.lam_make2 I TB hcode hmT hu c0.tb hdef (L.has I.ok) fun f c' pm' ctv H1 s' I1 eN T1 of nf fr hco => Calls.spliced_nil ⟨I1.kIn, ?_⟩)
  have af1 := aft_tab c0 eN T1
  have hc1 : Cs X.K H1 α S := af1.cs0
  have hE1 : IsE X.K α (hid α H1) ρ σ := by
    have q := hE.aft af1
    rwa [List.append_nil] at q
  have h1 : tG X.K W α H1 (fCaught cm sort fa ρ S) (PoE X.K Q) := by
    have q := tG_aft c0 af1 h0
    rwa [List.append_nil] at q
  obtain ⟨p1, p2, p3, p4, p5, p6, p7, p8, p9, q1, q2, q3, q4, q5, q6, r1, r2, r3, rt, r4, r5, kk, j, hbg⟩ := C.text
  have nd := C.nd
  refine wpAny_call (codeAny_mono (LamX.run_ofS (CX := C8.CX0) (E := C8.E0) (Q := Q) (N := [act, gave, err]) (ps := [act]) (us := [.ref f]) (vs := [.ref f]) lk hcd C.sc hr I1.env0 (hb s' [.ref f] I1.kIn rfl) (.cons rfl .nil) rfl fun hr' => ?_) fun r s2 hq => ?_)
  · rw [hbg]
    have gl : ∀ {X' : Cx} {y : Str}, X'.env.scope = sg → sg.names.lookup y = some .globalImplicit → Gl X' y := fun {X' y} e q => by
      unfold Gl Env.kindOf
      rw [e]; exact q
    have hrK : L2H.RoomH k (X.A.deeper (envOfC x sg s'.heap.objs.size g cdv)) := L2H.roomH_of (hr'.mono (by omega))
    -- the suite
    have su : ∀ (a : Addr) (pn : List (Addr × Obj)), PSs ((cxOf C8.CX0 X.prog X.w X.K X.mg X.base [act, gave, err] x sg g cdv X.A X.stack s' H1 C8.E0).nox.suite a pn) [.Return (some (.Call (.Name srt p5) [.Name err p6] [] p7)) p8] (tS X.K (fun _ _ _ => False) (sortF sort)) := fun a pn =>
      pss_one (s_ret (e_callW (X := (cxOf C8.CX0 X.prog X.w X.K X.mg X.base [act, gave, err] x sg g cdv X.A X.stack s' H1 C8.E0).nox.suite a pn) Fs ⟨hrK.dp, hrK.un⟩ hf (gl rfl C.g4) ms ks bs (L2.passes_call LamX.takes0 fun _ _ _ _ z => z) (nd srt (by simp)).1 rfl (e_var (i := 2) (x := err) rfl (.inl C.k2) (nd err (by simp)).1 (nd err (by simp)).2)))
    -- what it gave
    have gv : PSs ((cxOf C8.CX0 X.prog X.w X.K X.mg X.base [act, gave, err] x sg g cdv X.A X.stack s' H1 C8.E0).nox) [.Return (some (.List [.Constant (.str "gave") j q1, .Call (.Name "repr" q2) [.Name gave q3] [] q4] q5)) q6] (tS X.K (fun _ _ _ => False) gaveF) :=
      pss_one (s_ret (e_lst (a_cons rfl (e_cst pe_str fun G => .str _) (a_cons rfl (e_repr hf (by have z : X.A.units + 3 + 16 * k + 200 < cLine := hrK.un; show X.A.units + 3 + 200 < _; omega) (gl rfl C.g5) mr rfl (a_cons rfl (e_var (i := 1) (x := gave) rfl (.inl C.k1) (nd gave (by simp)).1 (nd gave (by simp)).2) a_nil)) a_nil))))
    have tr := try3 (X := (cxOf C8.CX0 X.prog X.w X.K X.mg X.base [act, gave, err] x sg g cdv X.A X.stack s' H1 C8.E0).nox) (i := 2) (n := err) (c1 := c1) (c2 := c2) (c3 := c3) (Wo := fun _ _ _ _ => False) (tb := tbC X.K f c' (X.env.qual ++ "<lambda>") fun Ec H' Q' => tE X.K Ec fa σ H' Q') (r1 := r1) (r2 := r2) (r3 := r3) (rt := rt) (r4 := r4) (r5 := r5) (kk := kk) (body := [.Assign [.Name gave p1] (.Call (.Name act p2) [] [] p3) p4])
      rfl rfl rfl C.sc.nd rfl C.k2 ⟨gl rfl C.g1, (nd x1 (by simp)).1, .inl m1⟩ ⟨gl rfl C.g2, (nd x2 (by simp)).1, .inl m2⟩ ⟨gl rfl C.g3, (nd x3 (by simp)).1, .inl m3⟩ LamX.takes0 (fun Wv pn xe tk hp => ?body) su
    case body =>
      refine ⟨fun pins2 s2 σ2 H2 D2 I2 ⟨Ec, w1, w2, w3, w4⟩ => ?_⟩
      have ac := lam_run (i := 0) (a := act) (p1 := p2) (p2 := p3) I1 L of nf fr (hbind _ _ _ _ _) (takes_len tk) (fun cls d σ' H' z l => w1 cls d σ' H' z l) hr' hf (fun A outer s H h1 h2 => hbody A outer s H Ec f c' h1 h2) rfl C.k0 (nd act (by simp)).1 (nd act (by simp)).2
      exact (pss_one (ps_set (i := 1) (x := gave) (pos' := p1) (pos := p4) C.sc.nd rfl (.inl C.k1) ac rfl (.inr C.k1))).run pins2 s2 σ2 H2 D2 I2 ⟨w2, w3, w4⟩
    refine ⟨_, (pss_cons tr gv).nox, ?_⟩
    refine ⟨fun cls d H' => ∃ x S1 β, fa ρ S = some (.ex x S1) ∧ Aft X.K α H1 β H' S1 ∧ IsX X.K (hid (α ++ β) H') H' x cls d, fun cls d σ' H' z l => ?_, rfl, hco, ρ, α, S, hE1, hc1, ?_⟩
    · obtain ⟨xn, S1, β, ez, af, ix⟩ := z
      unfold fCaught at h1
      rw [ez] at h1
      dsimp only at h1
      split at h1
      case isFalse => exact h1.elim
      rename_i hl
      refine ⟨true, by rw [ix.1]; exact hcm _ hl, fun _ a na => ?_, fun z => by cases z⟩
      have a2 := aft_upd (o := ErO cls d a) af.cs na
      have up := err_held af.cs ix na
      have h2 := tG_aft hc1 af h1
      have h3 := tG_aft af.cs a2 h2
      rw [List.append_nil] at h3
      refine ⟨_, _, S1, (isE_none l).set 2 (u := .p (errP xn)) up, a2.cs0, ?_⟩
      exact asOut_tG h3 fun v H2 q => q
    · cases em : fa ρ S with
      | none =>
        unfold fCaught at h1
        rw [em] at h1
        exact h1.elim
      | some r =>
        cases r with
        | ex xn S1 => exact fun β H' cls d af ix => ⟨xn, S1, β, rfl, af, ix⟩
        | ok u S1 =>
          intro β H' af v hv
          unfold fCaught at h1
          rw [em] at h1
          have h2 := tG_aft hc1 af h1
          exact ⟨_, _, S1, (isE_none (σ := (L2.start [act, gave, err] [.ref f])) rfl).set 1 (u := u) hv, af.cs, asOut_tG h2 fun v H2 q => q⟩
  · cases r with
    | error e => exact (show False from hq).elim
    | ok fl =>
      cases fl with
      | ret u => exact I1.after hq
      | next => exact False.elim hq
      | brk => exact False.elim hq
      | cont => exact False.elim hq
end
end Ev
end
section
set_option Elab.async false
set_option linter.all false
set_option maxRecDepth 100000
set_option maxHeartbeats 2000000
/-! terms: what stands for an expression, a test, a statement; the check that a term is that of a text; and that what it computes is what the machine does -/
namespace Ev
open PySem PySem.Spec PyProof.Rows L2
inductive Bt where
  | int | bool | tuple | str | list | dict
  deriving DecidableEq
def Bt.name : Bt → Str
  | .int => "int" | .bool => "bool" | .tuple => "tuple" | .str => "str" | .list => "list" | .dict => "dict"
def Bt.ty : Bt → String
  | .int => "int" | .bool => "bool" | .tuple => "tuple" | .str => "str" | .list => "list" | .dict => "dict"
theorem Bt.boot (b : Bt) : bootBuiltins b.name = some (.type b.ty) ∧ b.name ≠ "__name__" ∧ (b.name == ("__debug__" : Str)) = false := by
  cases b <;> exact ⟨by rfl, by decide, by decide⟩
/-- built-in classes of errors -/
inductive Eb where
  | value | lookup | arith
  deriving DecidableEq
def Eb.name : Eb → Str
  | .value => "ValueError" | .lookup => "LookupError" | .arith => "ArithmeticError"
def Eb.ty : Eb → String
  | .value => "ValueError" | .lookup => "LookupError" | .arith => "ArithmeticError"
theorem Eb.boot (b : Eb) : bootBuiltins b.name = some (.type b.ty) ∧ b.name ≠ "__name__" ∧ (b.name == ("__debug__" : Str)) = false := by
  cases b <;> decide +kernel
mutual
inductive Te where
  | var (i : Nat) | glo (x : Str) (p : P) | cst (p : P)
  | bin (o : Bop) (a b : Te) | neg (a : Te)
  | cmp (o : Cop) (a b : Te) | cmp2 (o o' : Cop) (a b c : Te)
  | and_ (l : Tv) | or_ (l : Tv) | not_ (a : Te) | ite (t : Tt) (a b : Te)
  | blt (b : Bl) (l : Tl) | gcd (l : Tl) | call (f : Str) (l : Tl)
  | tup (l : Tl) | lst (l : Tl) | cel (l : Tl)
  | idx (a b : Te) | sli (a : Te) (lo hi : To)
  | comp (cell : Bool) (own : List (Str × Nat)) (t : Tg) (it : Ti) (c : Tc) (a : Te)
  | app (o a : Te)
  | isx (t : Str) (tbl : List (Str × Bool)) (a : Te) | isb (t : Eb) (tbl : List (Str × Bool)) (a : Te) | erf (f : Str) (cs : List Str) (a : Te)
  | isi (b : Bt) (a : Te) | repr (l : Tl) | join (o a : Te) | fstr (l : Tf)
  | fld (d f : Str) (a : Te) | prop (d f key : Str) (a : Te) | make (d key : Str) (l : Tl) | makeK (d key : Str) (ks rest : List Str) (l : Tl) | callK (f : Str) (ks ps : List Str) (l : Tl)
  | ocmp (neg : Bool) (d key : Str) (a b : Te) | ostr (d key : Str) (a : Te) | orepr (d key : Str) (a : Te) | isc (d : Str) (a : Te) | rev (a : Te)
  | emp | addC (a b : Te) | lidx (o a : Te) | lcnt (o a : Te)
  | caught (x srt : Str) (cm : List (Str × Bool)) (a : Te)
inductive Tf where
  | nil | txt (s : Str) (l : Tf) | val (a : Te) (l : Tf)
inductive Tv where
  | one (a : Te) | more (a : Te) (l : Tv)
inductive Tt where
  | tru (a : Te) | cmp (o : Cop) (a b : Te) | cmp2 (o o' : Cop) (a b c : Te) | not_ (t : Tt) | and_ (l : Tb) | or_ (l : Tb) | ocmp (neg : Bool) (d key : Str) (a b : Te) | otru (d : Str) (a : Te)
inductive Tb where
  | one (t : Tt) | more (t : Tt) (l : Tb)
inductive Tl where
  | nil | cons (a : Te) (l : Tl)
inductive To where
  | no | so (a : Te)
inductive Tc where
  | no | so (t : Tt)
inductive Ti where
  | seq (a : Te) | rng1 (l : Tl) | rng2 (l : Tl) | zip (l : Tl) | enum (l : Tl)
end
abbrev Tab := Str → List U → Sto → M U
mutual
def dE (T : Tab) : Te → FE
  | .var i => fVar i
  | .glo _ p => fCst p
  | .cst p => fCst p
  | .bin o a b => fBin (binP o) (dE T a) (dE T b)
  | .neg a => fUn negP (dE T a)
  | .cmp o a b => fBin (cmpP o) (dE T a) (dE T b)
  | .cmp2 o o' a b c => fCmp2 o o' (dE T a) (dE T b) (dE T c)
  | .and_ l => dAnd T l
  | .or_ l => dOr T l
  | .not_ a => fNotV (fTru (dE T a))
  | .ite t a b => fIte (dT T t) (dE T a) (dE T b)
  | .blt b l => fBlt (bltP b) (dL T l)
  | .gcd l => fBlt gcdP (dL T l)
  | .call f l => fApp (T f) (dL T l)
  | .tup l => fTup (dL T l)
  | .lst l => fLst (dL T l)
  | .cel l => fCel (dL T l)
  | .idx a b => fBin idxP (dE T a) (dE T b)
  | .sli a lo hi => fSli (dE T a) (dO T lo) (dO T hi)
  | .comp cell own t it c a => fComp cell (own.map (·.2)) (dE T a) t (dI T it) (dC T c)
  | .app o a => fAppend (dE T o) (dE T a)
  | .isi b a => fIsi b.ty (dE T a)
  | .repr l => fBlt reprP (dL T l)
  | .join o a => fJoin (dE T o) (dE T a)
  | .fstr l => fFs (dF T l)
  | .fld d f a => fUn (fldP d f) (dE T a)
  | .prop d _ key a => fProp d (T key) (dE T a)
  | .make _ key l => fApp (T key) (dL T l)
  | .makeK _ key ks rest l => fApp (T key) (fOrd ks rest (dL T l))
  | .callK f ks ps l => fApp (T f) (fOrd ks ps (dL T l))
  | .ocmp neg d key a b => fOcmp neg d (T key) (dE T a) (dE T b)
  | .ostr d key a => fOtx d (T key) (dE T a)
  | .orepr d key a => fOtx d (T key) (dE T a)
  | .isc d a => fUn (iscP d) (dE T a)
  | .isx _ tbl a => fUn (isxP tbl) (dE T a)
  | .isb _ tbl a => fUn (isxP tbl) (dE T a)
  | .erf f cs a => fUn (erfP f cs) (dE T a)
  | .rev a => fUn revP (dE T a)
  | .emp => fEmp
  | .addC a b => fAddC (dE T a) (dE T b)
  | .lidx o a => fLm lidxP (dE T o) (dE T a)
  | .lcnt o a => fLm lcntP (dE T o) (dE T a)
  | .caught _ srt cm a => fCaught cm (T srt) (dE T a)
def dF (T : Tab) : Tf → List Pc
  | .nil => []
  | .txt s l => .txt s :: dF T l
  | .val a l => .val (dE T a) :: dF T l
def dAnd (T : Tab) : Tv → FE
  | .one a => dE T a
  | .more a l => fAnd (dE T a) (dAnd T l)
def dOr (T : Tab) : Tv → FE
  | .one a => dE T a
  | .more a l => fOr (dE T a) (dOr T l)
def dT (T : Tab) : Tt → FT
  | .tru a => fTru (dE T a)
  | .cmp o a b => fBl (fBin (cmpP o) (dE T a) (dE T b))
  | .cmp2 o o' a b c => fBl (fCmp2 o o' (dE T a) (dE T b) (dE T c))
  | .not_ t => fNotT (dT T t)
  | .ocmp neg d key a b => fBl (fOcmp neg d (T key) (dE T a) (dE T b))
  | .otru d a => fOtru d (dE T a)
  | .and_ l => dAndT T l
  | .or_ l => dOrT T l
def dAndT (T : Tab) : Tb → FT
  | .one t => dT T t
  | .more t l => fAndT (dT T t) (dAndT T l)
def dOrT (T : Tab) : Tb → FT
  | .one t => dT T t
  | .more t l => fOrT (dT T t) (dOrT T l)
def dL (T : Tab) : Tl → FA
  | .nil => fNil
  | .cons a l => fCons (dE T a) (dL T l)
def dO (T : Tab) : To → FO
  | .no => fNoP
  | .so a => fSoP (dE T a)
def dC (T : Tab) : Tc → FT
  | .no => fun _ S => some (.ok true S)
  | .so t => dT T t
def dI (T : Tab) : Ti → FI
  | .seq a => fSeq (dE T a)
  | .rng1 l => fAll rng1Of (dL T l)
  | .rng2 l => fAll rng2Of (dL T l)
  | .zip l => fAll zipOf (dL T l)
  | .enum l => fAll enumOf (dL T l)
end
/-- what is known of classes, and of defs called by keywords -/
structure Oc where
  cs : List Str := []
  fl : List (Str × Str) := []
  pr : List (Str × Str × Str) := []
  eq : List (Str × Str) := []
  st : List (Str × Str) := []
  rp : List (Str × Str) := []
  mk_ : List (Str × Str × List Str) := []
  kf : List (Str × List Str) := []
  er : List (Str × Str × Str) := []
  eo : List (Str × Str × Bool) := []
  eb : List (Str × Eb × Bool) := []
  ef : List (Str × Str) := []
/-- what is known where a text stands -/
structure Ct where
  oc : Oc
  N : List Str
  sc : Scope
  fnc : Bool
  bl : List Str
  gc : Bool
  ar : List (Str × Nat)
  gl : List (Str × P)
  hot : Bool := false
  lam : Bool := false
  ca : List (Str × Str × List (Str × Bool)) := []
def Ct.kd (c : Ct) (x : Str) : Option NameKind := c.sc.names.lookup x
def Ct.vis (c : Ct) (x : Str) : Bool := match c.kd x with
  | some .local | some .cell | some .free => true
  | _ => false
def Ct.glo (c : Ct) (x : Str) : Bool := match c.kd x with
  | some .globalImplicit => !(x == ("__debug__" : Str))
  | _ => false
def Ct.sto (c : Ct) (x : Str) : Bool := match c.kd x with
  | some .local => true
  | some .cell => c.fnc
  | _ => false
def Ct.bln (c : Ct) (x : Str) : Bool := c.glo x && decide (x ∈ c.bl)
mutual
def ckG (c : Ct) : Tg → Expr → Bool
  | .nm i, .Name x _ => decide (c.N[i]? = some x) && c.sto x
  | .tp l, .Tuple ts _ _ => !c.hot && ckGs c l ts
  | _, _ => false
def ckGs (c : Ct) : List Tg → List Expr → Bool
  | [], [] => true
  | t :: l, e :: es => noStar e && (ckG c t e && ckGs c l es)
  | _, _ => false
end
def cstB : P → Const → Bool
  | .int i, .int j => decide (i = j)
  | .bl b, .bool d => decide (b = d)
  | .non, .none => true
  | .str x, .str y => decide (x = y)
  | _, _ => false
def Ct.blk (c : Ct) (scope : Scope) : Ct := { c with sc := relS scope c.sc, fnc := false, lam := false }
/-- where a lambda's body stands -/
def Ct.lamc (c : Ct) (scope : Scope) : Ct := { c with sc := scope, fnc := false, lam := false }
def noPar : Arguments → Bool
  | ⟨[], [], none, [], [], none, []⟩ => true
  | _ => false
mutual
def ckE (c : Ct) : Te → Expr → Bool
  | .var i, e => match e with
    | .Name x _ => decide (c.N[i]? = some x) && (c.vis x && (!(x == ("__debug__" : Str)) && !(x == ("__classdict__" : Str))))
    | _ => false
  | .glo x p, e => match e with
    | .Name y _ => decide (x = y) && (c.glo x && decide (c.gl.lookup x = some p))
    | _ => false
  | .cst p, e => match e with
    | .Constant k _ _ => cstB p k
    | _ => false
  | .bin o a b, e => match e with
    | .BinOp ea op eb _ => decide (op = o.op) && (ckE c a ea && ckE c b eb)
    | _ => false
  | .neg a, e => match e with
    | .UnaryOp .USub ea _ => ckE c a ea
    | _ => false
  | .cmp o a b, e => match e with
    | .Compare ea [op] [eb] _ => decide (op = o.op) && (!(behindInMarks op eb) && (ckE c a ea && ckE c b eb))
    | _ => false
  | .cmp2 o o' a b d, e => match e with
    | .Compare ea [op, op'] [eb, ec] _ => decide (op = o.op ∧ op' = o'.op) && (!(behindInMarks op' ec) && (ckE c a ea && (ckE c b eb && ckE c d ec)))
    | _ => false
  | .and_ l, e => match e with
    | .BoolOp .And es _ => ckV c l es
    | _ => false
  | .or_ l, e => match e with
    | .BoolOp .Or es _ => ckV c l es
    | _ => false
  | .not_ a, e => match e with
    | .UnaryOp .Not ea _ => ckE c a ea
    | _ => false
  | .ite t a b, e => match e with
    | .IfExp et ea eb _ => ckT c t et && (ckE c a ea && ckE c b eb)
    | _ => false
  | .blt b l, e => match e with
    | .Call (.Name x _) (a :: es) [] _ => !c.hot && (decide (x = b.name) && (c.bln x && ckL c l (a :: es)))
    | _ => false
  | .gcd l, e => match e with
    | .Call (.Name x _) (a :: es) [] _ => decide (x = ("gcd" : Str)) && (c.gc && (c.glo x && ckL c l (a :: es)))
    | _ => false
  | .call f l, e => match e with
    | .Call (.Name x _) (a :: es) [] _ => decide (x = f) && (c.glo x && (decide (c.ar.lookup f = some (a :: es).length) && ckL c l (a :: es)))
    | _ => false
  | .tup l, e => match e with
    | .Tuple es _ _ => ckL c l es
    | _ => false
  | .lst l, e => match e with
    | .List es _ => ckL c l es
    | _ => false
  | .cel l, e => match e with
    | .List es _ => ckL c l es
    | _ => false
  | .idx a b, e => match e with
    | .Subscript ea eb _ => noSlice eb && (ckE c a ea && ckE c b eb)
    | _ => false
  | .sli a lo hi, e => match e with
    | .Subscript ea (.Slice l u none _) _ => ckE c a ea && (ckO c lo l && ckO c hi u)
    | _ => false
  | .comp _ own t it cd a, e => match e with
    | .ListComp elt [⟨tg, iter, ifs, 0⟩] scope _ => !c.hot && noSet iter && (blkC c.N c.sc scope own && (decide (∀ j ∈ slots t, j ∈ own.map (·.2)) && (ckI c it tg iter && (ckG (c.blk scope) t tg && (ckC (c.blk scope) cd ifs && ckE (c.blk scope) a elt)))))
    | _ => false
  | .app o a, e => match e with
    | .Call (.Attribute eo m apos) [ea] [] pos => decide (m = ("append" : Str)) && (noSuper eo && ((apos.endLine == pos.line) && (noStar ea && (ckE c o eo && ckE c a ea))))
    | _ => false
  | .isi b a, e => match e with
    | .Call (.Name x _) [ea, .Name t _] [] _ => decide (x = ("isinstance" : Str)) && (decide (t = b.name) && (c.bln x && (c.bln t && (noStar ea && ckE c a ea))))
    | _ => false
  | .repr l, e => match e with
    | .Call (.Name x _) (a :: es) [] _ => decide (x = ("repr" : Str)) && (c.bln x && ckL c l (a :: es))
    | _ => false
  | .join o a, e => match e with
    | .Call (.Attribute eo m apos) [ea] [] pos => decide (m = ("join" : Str)) && (noSuper eo && ((apos.endLine == pos.line) && (noStar ea && (ckE c o eo && ckE c a ea))))
    | _ => false
  | .fstr l, e => match e with
    | .JoinedStr (v1 :: v2 :: es) _ => ckF c l (v1 :: v2 :: es)
    | _ => false
  | .fld d f a, e => match e with
    | .Attribute eo m _ => decide (m = f) && (noSuper eo && (decide ((d, f) ∈ c.oc.fl) && ckE c a eo))
    | _ => false
  | .prop d f key a, e => match e with
    | .Attribute eo m _ => decide (m = f) && (noSuper eo && (decide ((d, f, key) ∈ c.oc.pr) && ckE c a eo))
    | _ => false
  | .make d key l, e => match e with
    | .Call (.Name x _) (a :: es) [] _ => decide (x = d) && (c.glo x && ((c.oc.mk_.any fun q => decide (q.1 = d ∧ q.2.1 = key)) && ckL c l (a :: es)))
    | _ => false
  | .makeK d key ks rest l, e => match e with
    | .Call (.Name x _) [] kws _ => decide (x = d) && (c.glo x && (decide ((d, key, rest) ∈ c.oc.mk_) && (decide (kws.map (·.arg) = ks.map some) && (decide ks.Nodup && (decide (∀ k ∈ ks, k ∈ rest) && ckK c l kws)))))
    | _ => false
  | .callK f ks ps l, e => match e with
    | .Call (.Name x _) [] kws _ => decide (x = f) && (c.glo x && (decide ((f, ps) ∈ c.oc.kf) && (decide (kws.map (·.arg) = ks.map some) && (decide ks.Nodup && (decide (∀ k ∈ ks, k ∈ ps) && ckK c l kws)))))
    | _ => false
  | .ocmp neg d key a b, e => match e with
    | .Compare ea [op] [eb] _ => decide (op = ocOp neg) && (!(behindInMarks op eb) && (decide ((d, key) ∈ c.oc.eq) && (ckE c a ea && ckE c b eb)))
    | _ => false
  | .ostr d key a, e => match e with
    | .Call (.Name x _) [ea] [] _ => decide (x = ("str" : Str)) && (c.bln x && (decide ((d, key) ∈ c.oc.st) && (noStar ea && ckE c a ea)))
    | _ => false
  | .orepr d key a, e => match e with
    | .Call (.Name x _) [ea] [] _ => decide (x = ("repr" : Str)) && (c.bln x && (decide ((d, key) ∈ c.oc.rp) && (noStar ea && ckE c a ea)))
    | _ => false
  | .isx t tbl a, e => match e with
    | .Call (.Name x _) [e1, .Name t' _] [] _ => decide (x = "isinstance") && (decide (t' = t) && (c.bln "isinstance" && (!tbl.isEmpty && (c.glo t && ((tbl.all fun q => decide ((q.1, t, q.2) ∈ c.oc.eo)) && (noStar e1 && ckE c a e1))))))
    | _ => false
  | .isb t tbl a, e => match e with
    | .Call (.Name x _) [e1, .Name t' _] [] _ => decide (x = "isinstance") && (decide (t' = t.name) && (c.bln "isinstance" && (c.bln t.name && ((tbl.all fun q => decide ((q.1, t, q.2) ∈ c.oc.eb)) && (noStar e1 && ckE c a e1)))))
    | _ => false
  | .erf f cs a, e => match e with
    | .Attribute e1 f' _ => decide (f' = f) && ((cs.all fun q => decide ((q, f) ∈ c.oc.ef)) && (noSuper e1 && ckE c a e1))
    | _ => false
  | .isc d a, e => match e with
    | .Call (.Name x _) [ea, .Name t _] [] _ => decide (x = ("isinstance" : Str)) && (decide (t = d) && (c.bln x && (c.glo t && (decide (d ∈ c.oc.cs) && (noStar ea && ckE c a ea)))))
    | _ => false
  | .rev a, e => match e with
    | .Subscript ea (.Slice none none (some (.UnaryOp .USub (.Constant (.int 1) _ _) _)) _) _ => ckE c a ea
    | _ => false
  | .emp, e => match e with
    | .Dict [] [] _ => true
    | _ => false
  | .addC a b, e => match e with
    | .BinOp ea .Add eb _ => ckE c a ea && ckE c b eb
    | _ => false
  | .lidx o a, e => match e with
    | .Call (.Attribute eo m apos) [ea] [] pos => decide (m = ("index" : Str)) && (noSuper eo && ((apos.endLine == pos.line) && (noStar ea && (ckE c o eo && ckE c a ea))))
    | _ => false
  | .lcnt o a, e => match e with
    | .Call (.Attribute eo m apos) [ea] [] pos => decide (m = ("count" : Str)) && (noSuper eo && ((apos.endLine == pos.line) && (noStar ea && (ckE c o eo && ckE c a ea))))
    | _ => false
  | .caught x srt cm a, e => match e with
    | .Call (.Name y _) [.Lambda params body scope _] [] _ => decide (y = x) && (c.glo x && (decide ((x, srt, cm) ∈ c.ca) && (c.lam && (!c.hot && (noPar params && (LamX.lamSB c.sc scope && ckE (c.lamc scope) a body))))))
    | _ => false
def ckK (c : Ct) : Tl → List Keyword → Bool
  | .nil, ks => match ks with
    | [] => true
    | _ => false
  | .cons a l, ks => match ks with
    | ⟨_, e, _⟩ :: r => ckE c a e && ckK c l r
    | _ => false
def ckF (c : Ct) : Tf → List Expr → Bool
  | .nil, es => match es with
    | [] => true
    | _ => false
  | .txt s l, es => match es with
    | .Constant (.str z) _ _ :: r => decide (z = s) && ckF c l r
    | _ => false
  | .val a l, es => match es with
    | .FormattedValue e (-1) none _ :: r => ckE c a e && ckF c l r
    | _ => false
def ckV (c : Ct) : Tv → List Expr → Bool
  | .one a, es => match es with
    | [e] => ckE c a e
    | _ => false
  | .more a l, es => match es with
    | e :: e' :: r => ckE c a e && ckV c l (e' :: r)
    | _ => false
def ckT (c : Ct) : Tt → Expr → Bool
  | .tru a, e => plainT e && ckE c a e
  | .cmp o a b, e => match e with
    | .Compare ea [op] [eb] _ => decide (op = o.op) && (!(behindInMarks op eb) && (ckE c a ea && ckE c b eb))
    | _ => false
  | .cmp2 o o' a b d, e => match e with
    | .Compare ea [op, op'] [eb, ec] _ => decide (op = o.op ∧ op' = o'.op) && (!(behindInMarks op' ec) && (ckE c a ea && (ckE c b eb && ckE c d ec)))
    | _ => false
  | .not_ t, e => match e with
    | .UnaryOp .Not ea _ => ckT c t ea
    | _ => false
  | .and_ l, e => match e with
    | .BoolOp .And es _ => ckB c l es
    | _ => false
  | .or_ l, e => match e with
    | .BoolOp .Or es _ => ckB c l es
    | _ => false
  | .ocmp neg d key a b, e => match e with
    | .Compare ea [op] [eb] _ => decide (op = ocOp neg) && (!(behindInMarks op eb) && (decide ((d, key) ∈ c.oc.eq) && (ckE c a ea && ckE c b eb)))
    | _ => false
  | .otru d a, e => plainT e && (decide (d ∈ c.oc.cs) && ckE c a e)
def ckB (c : Ct) : Tb → List Expr → Bool
  | .one t, es => match es with
    | [e] => ckT c t e
    | _ => false
  | .more t l, es => match es with
    | e :: e' :: r => ckT c t e && ckB c l (e' :: r)
    | _ => false
def ckL (c : Ct) : Tl → List Expr → Bool
  | .nil, es => match es with
    | [] => true
    | _ => false
  | .cons a l, es => match es with
    | e :: r => noStar e && (ckE c a e && ckL c l r)
    | _ => false
def ckO (c : Ct) : To → Option Expr → Bool
  | .no, e => match e with
    | none => true
    | _ => false
  | .so a, e => match e with
    | some e => ckE c a e
    | _ => false
def ckC (c : Ct) : Tc → List Expr → Bool
  | .no, es => match es with
    | [] => true
    | _ => false
  | .so t, es => match es with
    | [e] => ckT c t e
    | _ => false
def ckI (c : Ct) : Ti → Expr → Expr → Bool
  | .seq a, _, e => ckE c a e
  | .rng1 l, _, e => match e with
    | .Call (.Name x _) [a] [] _ => decide (x = ("range" : Str)) && (c.bln x && ckL c l [a])
    | _ => false
  | .rng2 l, _, e => match e with
    | .Call (.Name x _) [a, b] [] _ => decide (x = ("range" : Str)) && (c.bln x && ckL c l [a, b])
    | _ => false
  | .zip l, t, e => match t, e with
    | .Tuple _ _ _, .Call (.Name x _) [a, b] [] _ => decide (x = ("zip" : Str)) && (c.bln x && ckL c l [a, b])
    | _, _ => false
  | .enum l, t, e => match t, e with
    | .Tuple _ _ _, .Call (.Name x _) [a] [] _ => decide (x = ("enumerate" : Str)) && (c.bln x && ckL c l [a])
    | _, _ => false
end
end Ev
end
section
set_option Elab.async false
set_option linter.all false
set_option maxRecDepth 100000
set_option maxHeartbeats 4000000
/-! a checked term computes what its text does: expressions -/
namespace Ev
open PySem PySem.Spec PyProof.Rows L2
/-- a def that calls the lambda that it gets, and sorts the error that comes -/
structure CaD (P : Program) (w : World) (K : PySem.W.Frag) (mg : Str → Option Value) (base : Heap) (k : Nat) (x srt : Str) (cm : List (Str × Bool)) (sort : List U → Sto → M U) : Prop where
  ex : ∃ (act gave err x1 x2 x3 : Str) (c1 c2 c3 : Value) (g aS : Addr) (fd fdS : FuncData) (psS : List Str) (pg : Arguments) (bg : List Stmt) (sg : Scope) (kws : List (Str × V)),
    mg x = some (.ref g) ∧ FunD K x x pg bg sg [] kws g fd ∧ parB [act] pg = true ∧ CaT act gave err srt x1 x2 x3 bg sg ∧ mg x1 = some c1 ∧ mg x2 = some c2 ∧ mg x3 = some c3 ∧ mg srt = some (.ref aS) ∧ mg "repr" = none ∧
    FnW P w K mg base (L2.CX P w) k aS fdS psS (spF K 1 sort) ∧ PySem.W.keepIn K (.ref aS) = true ∧ L2.Binds K fdS psS [] ∧ ∀ d, cm.lookup d = some true → PySem.W.exmAny K (.ref (He.ga K d)) [c1, c2, c3] = some true
/-- lambdas may be made here -/
structure LmD (X : Cx) (k : Nat) : Prop where
  room : Room (k + 4) X.A
  ex : ∃ c P, LamX.TabB X.base X.mg c P ∧ X.env.code = .ref c ∧ (P, X.env.qual ++ "<lambda>") ∈ tbK X.K ∧ ∀ p ∈ tbK X.K, p.1 = P → p.2 = X.env.qual ++ "<lambda>"
structure Kn (X : Cx) (W : XK) (T : Tab) (c : Ct) (k : Nat) : Prop where
  hN : X.N = c.N
  sc : X.env.scope = c.sc
  nd : c.N.Nodup
  fnc : c.fnc = true → ∀ x, X.fn x = true
  calm : c.hot = false → X.calm = true
  roomH : L2H.RoomH (k + 2) X.A
  cool : c.hot = false → X.A.handled = none
  emp : c.hot = true → c.ar = [] ∧ c.oc.pr = [] ∧ c.oc.eq = [] ∧ c.oc.st = [] ∧ c.oc.rp = [] ∧ c.oc.mk_ = [] ∧ c.oc.kf = [] ∧ c.oc.er = []
  free : Free X.A
  tk : Takes X fun cls d _ H => W cls d H
  bl : ∀ x ∈ c.bl, X.mg x = none
  gc : c.gc = true → X.mg "gcd" = some (.builtin "math.gcd")
  ar : ∀ f n, c.ar.lookup f = some n → ∃ (a : Addr) (fd : FuncData) (ps : List Str), FnG X.prog X.w X.K X.mg X.base (L2.CX X.prog X.w) k a fd ps (spF X.K n (T f)) ∧ X.mg f = some (.ref a) ∧ PySem.W.keepIn X.K (.ref a) = true ∧ L2.Binds X.K fd ps []
  gl : ∀ x p, c.gl.lookup x = some p → ∃ (v : V) (u : Value), X.mg x = some u ∧ RelV v u ∧ ∀ G, Is X.K G p v
  cs : ∀ x ∈ c.oc.cs, IsC X x ∧ X.mg x = some (.ref (He.ga X.K x)) ∧ PySem.W.findIn X.K (.ref (He.ga X.K x)) "__bool__" = some none ∧ PySem.W.findIn X.K (.ref (He.ga X.K x)) "__len__" = some none
  fl : ∀ d f, (d, f) ∈ c.oc.fl → Cls X.K (He.ga X.K d) ∧ NoAttr X.K (He.ga X.K d) f
  pr : ∀ d f key, (d, f, key) ∈ c.oc.pr → Cls X.K (He.ga X.K d) ∧ ∃ (p g : Addr) (fd : FuncData) (ps : List Str), PropOf X.K (He.ga X.K d) f p g ∧ FnG X.prog X.w X.K X.mg X.base (L2.CX X.prog X.w) k g fd ps (spF X.K 1 (T key)) ∧ L2.Binds X.K fd ps []
  eq : ∀ d key, (d, key) ∈ c.oc.eq → EqC X k d (T key)
  st : ∀ d key, (d, key) ∈ c.oc.st → ∃ (g : Addr) (fd : FuncData) (ps : List Str), PySem.W.findIn X.K (.ref (He.ga X.K d)) "__str__" = some (some (.ref g)) ∧ PySem.W.isFn X.K (.ref g) = true ∧ FnG X.prog X.w X.K X.mg X.base (L2.CX X.prog X.w) k g fd ps (spF X.K 1 (T key)) ∧ L2.Binds X.K fd ps []
  rp : ∀ d key, (d, key) ∈ c.oc.rp → ∃ (g : Addr) (fd : FuncData) (ps : List Str), PySem.W.findIn X.K (.ref (He.ga X.K d)) "__repr__" = some (some (.ref g)) ∧ PySem.W.isFn X.K (.ref g) = true ∧ FnG X.prog X.w X.K X.mg X.base (L2.CX X.prog X.w) k g fd ps (spF X.K 1 (T key)) ∧ L2.Binds X.K fd ps []
  mk_ : ∀ d key rest, (d, key, rest) ∈ c.oc.mk_ → X.mg d = some (.ref (He.ga X.K d)) ∧ ∃ (f : Addr) (fd : FuncData) (self : Str) (N : List Str) (R : List P → Option (List (Str × Nat))) (nm qual : Str) (params : Arguments) (body : List Stmt) (scope : Scope) (kd : List (Str × V)),
    Mk X.K (He.ga X.K d) f ∧ FnG X.prog X.w X.K X.mg X.base (L2.CX X.prog X.w) k f fd (self :: rest) (spI X.K (He.ga X.K d) rest.length N R) ∧ FunD X.K nm qual params body scope [] kd f fd ∧ parB (self :: rest) params = true ∧ T key = fun us S => lift (makeP R d rest.length us) S
  kf : ∀ f ps, (f, ps) ∈ c.oc.kf → ∃ (a : Addr) (fd : FuncData) (nm qual : Str) (params : Arguments) (body : List Stmt) (scope : Scope) (kd : List (Str × V)), FnG X.prog X.w X.K X.mg X.base (L2.CX X.prog X.w) k a fd ps (spF X.K ps.length (T f)) ∧ FunD X.K nm qual params body scope [] kd a fd ∧ parB ps params = true ∧ X.mg f = some (.ref a)
  eo : ∀ d t b, (d, t, b) ∈ c.oc.eo → ErC X.K (He.ga X.K d) ∧ PySem.W.kitOne X.K (.ref (He.ga X.K d)) (.ref (He.ga X.K t)) = some b ∧ X.mg t = some (.ref (He.ga X.K t))
  eb : ∀ d t b, (d, t, b) ∈ c.oc.eb → ErC X.K (He.ga X.K d) ∧ PySem.W.kitOne X.K (.ref (He.ga X.K d)) (.type t.ty) = some b
  ef : ∀ d f, (d, f) ∈ c.oc.ef → ErC X.K (He.ga X.K d) ∧ PySem.W.findIn X.K (.ref (He.ga X.K d)) f = some none
  lam : c.lam = true → LmD X k
  ca : ∀ x srt cm, (x, srt, cm) ∈ c.ca → CaD X.prog X.w X.K X.mg X.base k x srt cm (T srt)
  er : ∀ d f key, (d, f, key) ∈ c.oc.er → X.mg d = some (.ref (He.ga X.K d)) ∧ L2.OexC X.K (He.ga X.K d) ∧ ∃ (fI : Addr) (fd : FuncData) (ps : List Str), PySem.W.findIn X.K (.ref (He.ga X.K d)) "__init__" = some (some (.ref fI)) ∧ PySem.W.typeIn X.K (.ref fI) = some (.type "function") ∧ FnOk X.prog X.w X.K X.mg X.base (L2.CX X.prog X.w) k fI fd ps (spX (He.ga X.K d) f) ∧ L2.Binds X.K fd ps []
theorem lookup_mem {A : Type} {l : List (Str × A)} {k : Str} {b : A} (h : l.lookup k = some b) : (k, b) ∈ l := by
  induction l with
  | nil => simp at h
  | cons q r ih =>
    rw [List.lookup_cons] at h
    split at h
    · rename_i e
      cases h
      rw [eq_of_beq e]; exact List.mem_cons_self
    · exact List.mem_cons_of_mem _ (ih h)
theorem takesF {X : Cx} : Takes X (fun _ _ _ _ => False) := fun _ _ x => by
  obtain ⟨_, _, _, _, _, _, _, _, _, _, _, _, _, _, _, _, z⟩ := x
  exact z.elim
section
variable {X : Cx} {W : XK} {T : Tab} {c : Ct} {k : Nat}
theorem Kn.un (h : Kn X W T c k) : X.A.units + 64 < cLine := by have := h.roomH.un; omega
theorem Kn.un2 (h : Kn X W T c k) : X.A.units + 200 < cLine := by have := h.roomH.un; omega
theorem Kn.room (h : Kn X W T c k) (e : c.hot = false) : Room (k + 2) X.A := ⟨h.cool e, h.roomH.dp, h.roomH.un⟩
theorem Kn.nh (h : Kn X W T c k) {Z : Prop} (z : Z) (f : c.ar = [] ∧ c.oc.pr = [] ∧ c.oc.eq = [] ∧ c.oc.st = [] ∧ c.oc.rp = [] ∧ c.oc.mk_ = [] ∧ c.oc.kf = [] ∧ c.oc.er = [] → ¬ Z) : c.hot = false := by
  cases e : c.hot with
  | false => rfl
  | true => exact (f (h.emp e) z).elim
theorem Kn.name (h : Kn X W T c k) {i : Nat} {x : Str} (e : c.N[i]? = some x) : X.N[i]? = some x := by rw [h.hN]; exact e
theorem Kn.nodup (h : Kn X W T c k) : X.N.Nodup := by rw [h.hN]; exact h.nd
theorem Kn.vis (h : Kn X W T c k) {x : Str} (e : c.vis x = true) : Vis X.env.scope x := by
  unfold Ct.vis Ct.kd at e
  unfold Vis
  rw [h.sc]
  split at e <;> first | (rename_i q; rw [q]; simp; done) | (cases e; done)
theorem Kn.glo (h : Kn X W T c k) {x : Str} (e : c.glo x = true) : Gl X x ∧ (x == ("__debug__" : Str)) = false := by
  unfold Ct.glo Ct.kd at e
  split at e
  · rename_i q
    refine ⟨?_, by simpa using e⟩
    unfold Gl Env.kindOf
    rw [h.sc]
    exact q
  · cases e
theorem Kn.sto (h : Kn X W T c k) {x : Str} (e : c.sto x = true) : Loc X.env.scope x ∧ (X.fn x = true ∨ X.env.scope.names.lookup x = some .local) := by
  unfold Ct.sto Ct.kd at e
  unfold L2.Loc
  rw [h.sc]
  split at e
  · rename_i q; exact ⟨.inl q, .inr q⟩
  · rename_i q; exact ⟨.inr q, .inl (h.fnc e x)⟩
  · cases e
theorem Kn.bln (h : Kn X W T c k) {x : Str} (e : c.bln x = true) : Gl X x ∧ X.mg x = none := by
  unfold Ct.bln at e
  simp only [Bool.and_eq_true, decide_eq_true_eq] at e
  exact ⟨(h.glo e.1).1, h.bl x e.2⟩
theorem Kn.blk (h : Kn X W T c k) (s : Shared) (H : Hp) (scope : Scope) (cl : List (Str × Addr)) (C : Addr) (fp : List Addr) : Kn (X.blk s H scope (compEnvC scope cl C X.env) fp) W0 T (c.blk scope) k where
  hN := h.hN
  sc := by
    show relabel scope X.env = relS scope c.sc
    rw [← h.sc]
    rfl
  nd := h.nd
  fnc := fun z => by cases z
  calm := h.calm
  roomH := h.roomH
  cool := h.cool
  emp := h.emp
  free := h.free
  tk := takesF
  bl := h.bl
  gc := h.gc
  ar := h.ar
  gl := h.gl
  cs := fun x hx => let ⟨g, r⟩ := h.cs x hx; ⟨⟨g.cl, g.ha, g.hn, g.htk, g.hm, g.no, g.yes⟩, r⟩
  fl := h.fl
  pr := h.pr
  eq := fun d key z => let g := h.eq d key z; ⟨g.g, g.nf, g.ne, g.ob⟩
  st := h.st
  rp := h.rp
  mk_ := h.mk_
  kf := h.kf
  er := h.er
  eo := h.eo
  eb := h.eb
  ef := h.ef
  lam := fun z => by cases z
  ca := h.ca
theorem Kn.lamK (h : Kn X W T c k) (A : Around) (outer : List Env) (s : Shared) (H : Hp) (E : XK) (scope : Scope) (f c' : Addr) (hh : c.hot = false) (hr : Room (k + 2) (A.deeper (LamX.lamEnv X scope s.heap.objs.size f c'))) (hf : Free (A.deeper (LamX.lamEnv X scope s.heap.objs.size f c'))) :
    Kn (LamX.lamCx X A outer s H E scope f c') E T (c.lamc scope) k where
  hN := h.hN
  sc := rfl
  nd := h.nd
  fnc := fun z => by cases z
  calm := fun _ => rfl
  roomH := L2H.roomH_of hr
  cool := fun _ => hr.hd
  emp := fun z => by rw [show (c.lamc scope).hot = c.hot from rfl, hh] at z; cases z
  free := hf
  tk := L2.takes_of rfl rfl rfl rfl
  bl := h.bl
  gc := h.gc
  ar := h.ar
  gl := h.gl
  cs := fun x hx => let ⟨g, r⟩ := h.cs x hx; ⟨⟨g.cl, g.ha, g.hn, g.htk, g.hm, g.no, g.yes⟩, r⟩
  fl := h.fl
  pr := h.pr
  eq := fun d key z => let g := h.eq d key z; ⟨g.g, g.nf, g.ne, g.ob⟩
  st := h.st
  rp := h.rp
  mk_ := h.mk_
  kf := h.kf
  er := h.er
  eo := h.eo
  eb := h.eb
  ef := h.ef
  lam := fun z => by cases z
  ca := h.ca
mutual
theorem g_ok (h : Kn X W T c k) : ∀ (t : Tg) (e : Expr), ckG c t e = true → PG X e (gOf X.K t)
  | .nm i, e, hk => by
    cases e <;> first | (simp [ckG] at hk; done) | skip
    rename_i x p
    simp only [ckG, Bool.and_eq_true, decide_eq_true_eq] at hk
    unfold gOf
    exact pg_name h.nodup (h.name hk.1) (h.sto hk.2).1 (h.sto hk.2).2
  | .tp l, e, hk => by
    cases e <;> first | (simp [ckG] at hk; done) | skip
    rename_i ts kk p
    simp only [ckG, Bool.and_eq_true, Bool.not_eq_true'] at hk
    obtain ⟨h1, h2, h3⟩ := gs_ok h l ts hk.2
    unfold gOf
    exact pg_tup (h.calm hk.1) h1 h2 h3
theorem gs_ok (h : Kn X W T c k) : ∀ (l : List Tg) (es : List Expr), ckGs c l es = true → PGs X es (gsOf X.K l) ∧ (assignEach es X.env).length = l.length ∧ (assignEach es X.env).findIdx? (·.1) = none
  | [], es, hk => by
    cases es with
    | nil => exact ⟨by unfold gsOf; exact pgs_nil, rfl, rfl⟩
    | cons _ _ => simp [ckGs] at hk
  | t :: l, es, hk => by
    cases es with
    | nil => simp [ckGs] at hk
    | cons e es =>
      simp only [ckGs, Bool.and_eq_true] at hk
      obtain ⟨h1, h2, h3⟩ := gs_ok h l es hk.2.2
      have ee : assignEach (e :: es) X.env = (false, assign e X.env) :: assignEach es X.env := by
        have := hk.1
        cases e <;> first | rfl | (cases this; done)
      refine ⟨by unfold gsOf; exact pgs_cons (g_ok h t e hk.2.1) h1 (by rw [ee]; rfl), by rw [ee]; simp [h2], by rw [ee, List.findIdx?_cons]; simp [h3]⟩
end
theorem cst_ok {p : P} {q : Const} {j : Nat} {pos : Pos} (h : cstB p q = true) : PE X (.Constant q j pos) (tE X.K W (fCst p)) := by
  unfold cstB at h
  split at h
  · simp only [decide_eq_true_eq] at h; subst h; exact e_cst pe_int fun G => .int _
  · simp only [decide_eq_true_eq] at h; subst h; exact e_cst pe_bl fun G => .bl _
  · exact e_cst pe_non fun G => .non
  · simp only [decide_eq_true_eq] at h; subst h; exact e_cst pe_str fun G => .str _
  · cases h
theorem ckL_star {c : Ct} : ∀ (l : Tl) (es : List Expr), ckL c l es = true → es.all noStar = true
  | .nil, es, h => by cases es with
    | nil => rfl
    | cons _ _ => simp [ckL] at h
  | .cons a l, es, h => by cases es with
    | nil => rfl
    | cons e es =>
      simp only [ckL, Bool.and_eq_true] at h
      simp [h.1, ckL_star l es h.2.2]
theorem ckL_len {c : Ct} : ∀ (l : Tl) (es : List Expr), ckL c l es = true → ∀ ρ S us S', dL T l ρ S = some (.ok us S') → us.length = es.length
  | .nil, es, h, ρ, S, us, S', e => by cases es with
    | nil => cases e; rfl
    | cons _ _ => simp [ckL] at h
  | .cons a l, es, h, ρ, S, us, S', e => by cases es with
    | nil => simp [ckL] at h
    | cons e0 es =>
      simp only [ckL, Bool.and_eq_true] at h
      unfold dL fCons at e
      cases e1 : dE T a ρ S with
      | none => rw [e1] at e; cases e
      | some r =>
        cases r with
        | ex x S1 => rw [e1] at e; cases e
        | ok u S1 =>
          rw [e1] at e
          have e : ((dL T l ρ S1).bind fun xs S2 => some (.ok (u :: xs) S2)) = some (.ok us S') := e
          cases e2 : dL T l ρ S1 with
          | none => rw [e2] at e; cases e
          | some r =>
            cases r with
            | ex x S1 => rw [e2] at e; cases e
            | ok us2 S2 =>
              rw [e2] at e
              cases e
              simp [ckL_len l es h.2.2 ρ S1 us2 _ e2]
end
theorem star1 {e : Expr} {es : List Expr} (h : (e :: es).all noStar = true) : noStar e = true := by
  rw [List.all_cons, Bool.and_eq_true] at h
  exact h.1
theorem t_cmp2' {X : Cx} {W : XK} {pos : Pos} {ea eb ec : Expr} {fa fb fc : FE} (o o' : Cop) (hu : X.A.units + 64 < cLine) (hm : behindInMarks o'.op ec = false) (ha : PE X ea (tE X.K W fa)) (hb : PE X eb (tE X.K W fb)) (hc : PE X ec (tE X.K W fc)) :
    PE X (.Compare ea [o.op, o'.op] [eb, ec] pos) (tE X.K W (fCmp2 o o' fa fb fc)) :=
  e_cmp2 o o' hu hm ha hb hc fun r r' ta tb tc h1 h2 h3 h4 h5 => pe_chain h1 h2 h3 h4 h5 (by unfold lastMarks lastMarks; exact hm)
theorem t_cmp2 {X : Cx} {W : XK} {pos : Pos} {ea eb ec : Expr} {fa fb fc : FE} (o o' : Cop) (hu : X.A.units + 64 < cLine) (hm : behindInMarks o'.op ec = false) (ha : PE X ea (tE X.K W fa)) (hb : PE X eb (tE X.K W fb)) (hc : PE X ec (tE X.K W fc)) :
    PT X (.Compare ea [o.op, o'.op] [eb, ec] pos) (tT X.K W (fBl (fCmp2 o o' fa fb fc))) :=
  let ⟨_, ho, hs⟩ := cmp_ok X hu o
  let ⟨_, ho', hs'⟩ := cmp_ok X hu o'
  (pt_chain ho ho' ha hb hc (by unfold lastMarks lastMarks; exact hm)).weak fun σ H Q ⟨ρ, α, S, hE, c, h⟩ => by
    refine chain_go (ea := ea) (eb := eb) (ec := ec) o o' hs hs' ⟨ρ, α, S, hE, c, step c hE h fun u S1 β H1 af hE1 c1 h1 v hv => ?_⟩
    obtain ⟨b, e, q⟩ := liftB_inv h1
    have e := blOf_inv e
    subst e
    cases hv
    exact ⟨b, rfl, q _ (.refl c1)⟩
mutual
theorem e_ok {T : Tab} {k : Nat} : ∀ (t : Te) (c : Ct) (X : Cx) (W : XK) (e : Expr), Kn X W T c k → ckE c t e = true → PE X e (tE X.K W (dE T t))
  | .var i, c, X, W, e, h, hk => by
    unfold ckE at hk
    split at hk
    · simp only [Bool.and_eq_true, decide_eq_true_eq, Bool.not_eq_true'] at hk
      unfold dE
      exact e_var (h.name hk.1) (h.vis hk.2.1) hk.2.2.1 hk.2.2.2
    · cases hk
  | .glo x p, c, X, W, e, h, hk => by
    unfold ckE at hk
    split at hk
    · rename_i y pos
      simp only [Bool.and_eq_true, decide_eq_true_eq] at hk
      obtain ⟨e1, e2, e3⟩ := hk
      subst e1
      obtain ⟨v, u, h1, h2, h3⟩ := h.gl _ _ e3
      obtain ⟨g1, g2⟩ := h.glo e2
      unfold dE
      exact e_cst (pe_glob g1 h1 h2 g2) h3
    · cases hk
  | .cst p, c, X, W, e, h, hk => by
    unfold ckE at hk
    split at hk
    · unfold dE; exact cst_ok hk
    · cases hk
  | .bin o a b, c, X, W, e, h, hk => by
    unfold ckE at hk
    split at hk
    · simp only [Bool.and_eq_true, decide_eq_true_eq] at hk
      obtain ⟨e1, e2, e3⟩ := hk
      subst e1
      unfold dE
      exact e_bin o (e_ok a c X W _ h e2) (e_ok b c X W _ h e3)
    · cases hk
  | .neg a, c, X, W, e, h, hk => by
    unfold ckE at hk
    split at hk
    · unfold dE; exact e_neg (e_ok a c X W _ h hk)
    · cases hk
  | .cmp o a b, c, X, W, e, h, hk => by
    unfold ckE at hk
    split at hk
    · simp only [Bool.and_eq_true, decide_eq_true_eq, Bool.not_eq_true'] at hk
      obtain ⟨e1, e0, e2, e3⟩ := hk
      subst e1
      unfold dE
      exact e_cmp o h.un e0 (e_ok a c X W _ h e2) (e_ok b c X W _ h e3)
    · cases hk
  | .cmp2 o o' a b d, c, X, W, e, h, hk => by
    unfold ckE at hk
    split at hk
    · simp only [Bool.and_eq_true, decide_eq_true_eq, Bool.not_eq_true'] at hk
      obtain ⟨⟨e1, e1'⟩, e0, e2, e3, e4⟩ := hk
      subst e1 e1'
      unfold dE
      exact t_cmp2' o o' h.un e0 (e_ok a c X W _ h e2) (e_ok b c X W _ h e3) (e_ok d c X W _ h e4)
    · cases hk
  | .and_ l, c, X, W, e, h, hk => by
    unfold ckE at hk
    split at hk
    · unfold dE; exact and_ok l c X W _ _ h hk
    · cases hk
  | .or_ l, c, X, W, e, h, hk => by
    unfold ckE at hk
    split at hk
    · unfold dE; exact or_ok l c X W _ _ h hk
    · cases hk
  | .not_ a, c, X, W, e, h, hk => by
    unfold ckE at hk
    split at hk
    · unfold dE; exact e_not (e_ok a c X W _ h hk)
    · cases hk
  | .ite t a b, c, X, W, e, h, hk => by
    unfold ckE at hk
    split at hk
    · simp only [Bool.and_eq_true] at hk
      unfold dE; exact e_ite (t_ok t c X W _ h hk.1) (e_ok a c X W _ h hk.2.1) (e_ok b c X W _ h hk.2.2)
    · cases hk
  | .blt b l, c, X, W, e, h, hk => by
    unfold ckE at hk
    split at hk
    · simp only [Bool.and_eq_true, decide_eq_true_eq] at hk
      obtain ⟨e0, e1, e2, e3⟩ := hk
      unfold dE; exact e_bl b (h.calm (by simpa using e0)) e1 (h.bln e2).1 (h.bln e2).2 (ckL_star l _ e3) (l_ok l c X W _ h e3)
    · cases hk
  | .gcd l, c, X, W, e, h, hk => by
    unfold ckE at hk
    split at hk
    · simp only [Bool.and_eq_true, decide_eq_true_eq] at hk
      obtain ⟨e1, e0, e2, e3⟩ := hk
      subst e1
      unfold dE; exact e_gcd (h.glo e2).1 (h.gc e0) (h.glo e2).2 (ckL_star l _ e3) (l_ok l c X W _ h e3)
    · cases hk
  | .call f l, c, X, W, e, h, hk => by
    unfold ckE at hk
    split at hk
    · simp only [Bool.and_eq_true, decide_eq_true_eq] at hk
      obtain ⟨e1, e0, e2, e3⟩ := hk
      subst e1
      obtain ⟨a, fd, ps, h1, h2, h3, h4⟩ := h.ar _ _ e2
      unfold dE
      exact e_call h.tk h1 ((h.room (h.nh e2 fun z y => by rw [z.1] at y; simp at y)).mono (by omega)) h.free (h.glo e0).1 h2 h3 h4 rfl (h.glo e0).2 (ckL_star l _ e3) (l_ok l c X W _ h e3) (ckL_len l _ e3)
    · cases hk
  | .tup l, c, X, W, e, h, hk => by
    unfold ckE at hk
    split at hk
    · unfold dE; exact e_tup (l_ok l c X W _ h hk)
    · cases hk
  | .lst l, c, X, W, e, h, hk => by
    unfold ckE at hk
    split at hk
    · unfold dE; exact e_lst (l_ok l c X W _ h hk)
    · cases hk
  | .cel l, c, X, W, e, h, hk => by
    unfold ckE at hk
    split at hk
    · unfold dE; exact e_cel (l_ok l c X W _ h hk)
    · cases hk
  | .idx a b, c, X, W, e, h, hk => by
    unfold ckE at hk
    split at hk
    · simp only [Bool.and_eq_true] at hk
      unfold dE; exact e_idx (plain_ix hk.1) (e_ok a c X W _ h hk.2.1) (e_ok b c X W _ h hk.2.2)
    · cases hk
  | .sli a lo hi, c, X, W, e, h, hk => by
    unfold ckE at hk
    split at hk
    · simp only [Bool.and_eq_true] at hk
      unfold dE; exact e_sli (e_ok a c X W _ h hk.1) (o_ok lo c X W _ h hk.2.1) (o_ok hi c X W _ h hk.2.2)
    · cases hk
  | .comp cell own t it cd a, c, X, W, e, h, hk => by
    unfold ckE at hk
    split at hk
    · rename_i elt tg iter ifs scope pos
      simp only [Bool.and_eq_true, decide_eq_true_eq] at hk
      obtain ⟨⟨e0, e1⟩, e2, e3, e4, e5, e6, e7⟩ := hk
      unfold dE
      have ok : BlkOk X.N X.env.scope scope own := by rw [h.hN, h.sc]; exact blkOk_by e2
      exact e_comp cell (h.calm (by simpa using e0)) h.nodup e1 ok e3 (i_ok it c X W tg iter h e4) (fun s H C cl fp => g_ok (h.blk s H scope cl C fp) t tg e5) (fun s H C cl fp => c_ok cd _ _ _ ifs (h.blk s H scope cl C fp) e6) fun s H C cl fp => e_ok a _ _ _ elt (h.blk s H scope cl C fp) e7
    · cases hk
  | .app o a, c, X, W, e, h, hk => by
    unfold ckE at hk
    split at hk
    · simp only [Bool.and_eq_true, decide_eq_true_eq] at hk
      obtain ⟨e1, e2, e3, e4, e5, e6⟩ := hk
      subst e1
      unfold dE; exact e_append e2 e3 e4 (e_ok o c X W _ h e5) (e_ok a c X W _ h e6)
    · cases hk
  | .isi b a, c, X, W, e, h, hk => by
    unfold ckE at hk
    split at hk
    · simp only [Bool.and_eq_true, decide_eq_true_eq] at hk
      obtain ⟨e1, e2, e3, e4, e5, e6⟩ := hk
      subst e1 e2
      unfold dE; exact e_isi (h.bln e3).1 (h.bln e3).2 e5 (h.bln e4).1 (h.bln e4).2 b.boot.1 b.boot.2.1 b.boot.2.2 (e_ok a c X W _ h e6)
    · cases hk
  | .repr l, c, X, W, e, h, hk => by
    unfold ckE at hk
    split at hk
    · simp only [Bool.and_eq_true, decide_eq_true_eq] at hk
      obtain ⟨e1, e2, e3⟩ := hk
      subst e1
      unfold dE; exact e_repr h.free h.un2 (h.bln e2).1 (h.bln e2).2 (ckL_star l _ e3) (l_ok l c X W _ h e3)
    · cases hk
  | .join o a, c, X, W, e, h, hk => by
    unfold ckE at hk
    split at hk
    · simp only [Bool.and_eq_true, decide_eq_true_eq] at hk
      obtain ⟨e1, e2, e3, e4, e5, e6⟩ := hk
      subst e1
      unfold dE; exact e_join e2 e3 e4 (e_ok o c X W _ h e5) (e_ok a c X W _ h e6)
    · cases hk
  | .fstr l, c, X, W, e, h, hk => by
    unfold ckE at hk
    split at hk
    · unfold dE; exact e_fstr (f_ok l c X W _ h hk)
    · cases hk
  | .fld d f a, c, X, W, e, h, hk => by
    unfold ckE at hk
    split at hk
    · simp only [Bool.and_eq_true, decide_eq_true_eq] at hk
      obtain ⟨e1, e2, e3, e4⟩ := hk
      subst e1
      unfold dE; exact e_fld e2 (h.fl _ _ e3).1 (h.fl _ _ e3).2 (e_ok a c X W _ h e4)
    · cases hk
  | .prop d f key a, c, X, W, e, h, hk => by
    unfold ckE at hk
    split at hk
    · simp only [Bool.and_eq_true, decide_eq_true_eq] at hk
      obtain ⟨e1, e2, e3, e4⟩ := hk
      subst e1
      obtain ⟨hc, p, g, fd, ps, g1, g2, g3⟩ := h.pr _ _ _ e3
      unfold dE; exact e_prop e2 hc g1 g2 ((h.room (h.nh e3 fun z y => by rw [z.2.1] at y; cases y)).mono (by omega)) h.free g3 (e_ok a c X W _ h e4)
    · cases hk
  | .make d key l, c, X, W, e, h, hk => by
    unfold ckE at hk
    split at hk
    · simp only [Bool.and_eq_true, decide_eq_true_eq, List.any_eq_true] at hk
      obtain ⟨e1, e2, ⟨q, hq, q1, q2⟩, e3⟩ := hk
      obtain ⟨d2, key2, rest⟩ := q
      subst e1 q1 q2
      obtain ⟨hm, f, fd, self, N, R, nm, qual, params, body, scope, kd, g1, g2, g3, g4, g5⟩ := h.mk_ _ _ _ hq
      unfold dE
      rw [g5]
      exact e_make g1 g2 h.tk ((h.room (h.nh hq fun z y => by rw [z.2.2.2.2.2.1] at y; cases y)).mono (by omega)) h.free (h.glo e2).1 hm (binds_of g3 g4) rfl (h.glo e2).2 (ckL_star l _ e3) (l_ok l c X W _ h e3)
    · cases hk
  | .makeK d key ks rest l, c, X, W, e, h, hk => by
    unfold ckE at hk
    split at hk
    · simp only [Bool.and_eq_true, decide_eq_true_eq] at hk
      obtain ⟨e1, e2, e3, e4, e5, e6, e7⟩ := hk
      subst e1
      obtain ⟨hm, f, fd, self, N, R, nm, qual, params, body, scope, kd, g1, g2, g3, g4, g5⟩ := h.mk_ _ _ _ e3
      unfold dE
      rw [g5]
      exact e_makeK g1 g2 g3 g4 h.tk ((h.room (h.nh e3 fun z y => by rw [z.2.2.2.2.2.1] at y; cases y)).mono (by omega)) h.free (h.glo e2).1 hm (h.glo e2).2 e4 e5 e6 (k_ok l c X W _ h e7)
    · cases hk
  | .callK f ks ps l, c, X, W, e, h, hk => by
    unfold ckE at hk
    split at hk
    · simp only [Bool.and_eq_true, decide_eq_true_eq] at hk
      obtain ⟨e1, e2, e3, e4, e5, e6, e7⟩ := hk
      subst e1
      obtain ⟨a, fd, nm, qual, params, body, scope, kd, g1, g2, g3, g4⟩ := h.kf _ _ e3
      unfold dE
      exact e_callK h.tk g1 g2 g3 ((h.room (h.nh e3 fun z y => by rw [z.2.2.2.2.2.2.1] at y; cases y)).mono (by omega)) h.free (h.glo e2).1 g4 rfl (h.glo e2).2 e4 e5 e6 (k_ok l c X W _ h e7)
    · cases hk
  | .ocmp neg d key a b, c, X, W, e, h, hk => by
    unfold ckE at hk
    split at hk
    · simp only [Bool.and_eq_true, decide_eq_true_eq, Bool.not_eq_true'] at hk
      obtain ⟨e1, e0, e2, e3, e4⟩ := hk
      subst e1
      unfold dE
      exact e_ocmp neg e0 (h.eq _ _ e2) ((h.room (h.nh e2 fun z y => by rw [z.2.2.1] at y; cases y)).mono (by omega)) h.free (e_ok a c X W _ h e3) (e_ok b c X W _ h e4)
    · cases hk
  | .ostr d key a, c, X, W, e, h, hk => by
    unfold ckE at hk
    split at hk
    · simp only [Bool.and_eq_true, decide_eq_true_eq] at hk
      obtain ⟨e1, e2, e3, e4, e5⟩ := hk
      subst e1
      obtain ⟨g, fd, ps, g1, g2, g3, g4⟩ := h.st _ _ e3
      unfold dE
      exact e_ostr (h.bln e2).1 (h.bln e2).2 e4 g1 g2 g3 (h.room (h.nh e3 fun z y => by rw [z.2.2.2.1] at y; cases y)) h.free g4 (e_ok a c X W _ h e5)
    · cases hk
  | .orepr d key a, c, X, W, e, h, hk => by
    unfold ckE at hk
    split at hk
    · simp only [Bool.and_eq_true, decide_eq_true_eq] at hk
      obtain ⟨e1, e2, e3, e4, e5⟩ := hk
      subst e1
      obtain ⟨g, fd, ps, g1, g2, g3, g4⟩ := h.rp _ _ e3
      unfold dE
      exact e_orepr (h.bln e2).1 (h.bln e2).2 e4 g1 g2 g3 ((h.room (h.nh e3 fun z y => by rw [z.2.2.2.2.1] at y; cases y)).mono (by omega)) h.free g4 (e_ok a c X W _ h e5)
    · cases hk
  | .isx t tbl a, c, X, W, e, h, hk => by
    unfold ckE at hk
    split at hk
    · simp only [Bool.and_eq_true, decide_eq_true_eq, List.all_eq_true] at hk
      obtain ⟨e1, e2, e3, e0, e4, e5, e6, e7⟩ := hk
      subst e1 e2
      have tb : ∀ d b, tbl.lookup d = some b → (d, _, b) ∈ c.oc.eo := fun d b z => e5 _ (lookup_mem z)
      obtain ⟨q, r, rfl⟩ : ∃ q r, tbl = q :: r := by cases tbl with
        | nil => cases e0
        | cons q r => exact ⟨q, r, rfl⟩
      have m := (h.eo _ _ _ (e5 q List.mem_cons_self)).2.2
      unfold dE
      exact e_isx (h.bln e3).1 (h.bln e3).2 e6 (pe_glob (v := .ref _) (h.glo e4).1 m rfl (h.glo e4).2) (fun u z => z) (fun d b z => ⟨(h.eo _ _ _ (tb d b z)).1, (h.eo _ _ _ (tb d b z)).2.1⟩) (e_ok a c X W _ h e7)
    · cases hk
  | .isb t tbl a, c, X, W, e, h, hk => by
    unfold ckE at hk
    split at hk
    · simp only [Bool.and_eq_true, decide_eq_true_eq, List.all_eq_true] at hk
      obtain ⟨e1, e2, e3, e4, e5, e6, e7⟩ := hk
      subst e1 e2
      unfold dE
      exact e_isx (cv := .type t.ty) (h.bln e3).1 (h.bln e3).2 e6 (pe_bltn (v := .ty t.ty) (h.bln e4).1 (h.bln e4).2 t.boot.1 rfl t.boot.2.1 t.boot.2.2) (fun u z => z) (fun d b z => h.eb _ _ _ (e5 _ (lookup_mem z))) (e_ok a c X W _ h e7)
    · cases hk
  | .erf f cs a, c, X, W, e, h, hk => by
    unfold ckE at hk
    split at hk
    · simp only [Bool.and_eq_true, decide_eq_true_eq, List.all_eq_true] at hk
      obtain ⟨e1, e2, e3, e4⟩ := hk
      subst e1
      unfold dE
      exact e_erf e3 (fun d z => h.ef _ _ (e2 d z)) (e_ok a c X W _ h e4)
    · cases hk
  | .isc d a, c, X, W, e, h, hk => by
    unfold ckE at hk
    split at hk
    · simp only [Bool.and_eq_true, decide_eq_true_eq] at hk
      obtain ⟨e1, e2, e3, e4, e5, e6, e7⟩ := hk
      subst e1 e2
      obtain ⟨g1, g2, _⟩ := h.cs _ e5
      unfold dE
      exact e_isc g1 (h.bln e3).1 (h.bln e3).2 e6 (h.glo e4).1 g2 (h.glo e4).2 (e_ok a c X W _ h e7)
    · cases hk
  | .rev a, c, X, W, e, h, hk => by
    unfold ckE at hk
    split at hk
    · unfold dE; exact e_rev (e_ok a c X W _ h hk)
    · cases hk
  | .emp, c, X, W, e, h, hk => by
    unfold ckE at hk
    split at hk
    · unfold dE; exact e_emp
    · cases hk
  | .addC a b, c, X, W, e, h, hk => by
    unfold ckE at hk
    split at hk
    · simp only [Bool.and_eq_true] at hk
      unfold dE; exact e_addC (e_ok a c X W _ h hk.1) (e_ok b c X W _ h hk.2)
    · cases hk
  | .lidx o a, c, X, W, e, h, hk => by
    unfold ckE at hk
    split at hk
    · simp only [Bool.and_eq_true, decide_eq_true_eq] at hk
      obtain ⟨e1, e2, e3, e4, e5, e6⟩ := hk
      subst e1
      unfold dE; exact e_lidx e2 e3 e4 (e_ok o c X W _ h e5) (e_ok a c X W _ h e6)
    · cases hk
  | .lcnt o a, c, X, W, e, h, hk => by
    unfold ckE at hk
    split at hk
    · simp only [Bool.and_eq_true, decide_eq_true_eq] at hk
      obtain ⟨e1, e2, e3, e4, e5, e6⟩ := hk
      subst e1
      unfold dE; exact e_lcnt e2 e3 e4 (e_ok o c X W _ h e5) (e_ok a c X W _ h e6)
    · cases hk
  | .caught x srt cm a, c, X, W, e, h, hk => by
    unfold ckE at hk
    split at hk
    · rename_i y py params body scope plam pos
      simp only [Bool.and_eq_true, decide_eq_true_eq, Bool.not_eq_true'] at hk
      obtain ⟨e1, e2, e3, e4, e5, e6, e7, e8⟩ := hk
      subst e1
      obtain ⟨act, gave, err, x1, x2, x3, c1, c2, c3, g, aS, fd, fdS, psS, pg, bg, sg, kws, d1, d2, d3, d4, d5, d6, d7, d8, d9, d10, d11, d12, d13⟩ := (h.ca _ _ _ e3).ex
      have lm := h.lam e4
      obtain ⟨cc, P, t1, t2, t3, t4⟩ := lm.ex
      have L : LamX.LamS X.env.scope scope := LamX.lamS_by (by rw [h.sc]; exact e7)
      have pn : params = ⟨[], [], none, [], [], none, []⟩ := by
        unfold noPar at e6
        split at e6
        · rfl
        · cases e6
      subst pn
      unfold dE
      exact e_caught (h.glo e2).1 d1 d2.kp d2 d3 d4 d5 d6 d7 d8 d9 (d10.mono (by omega)) d11 d12 d13 t1 t2 t3 t4 lm.room h.free L rfl (fun q cl pm cv ctv => by rfl) (fun A outer s H E f c' hr hf => e_ok a (c.lamc scope) (LamX.lamCx X A outer s H E scope f c') E body (h.lamK A outer s H E scope f c' e5 hr hf) e8) (h.glo e2).2
    · cases hk
theorem k_ok {T : Tab} {k : Nat} : ∀ (l : Tl) (c : Ct) (X : Cx) (W : XK) (ks : List Keyword), Kn X W T c k → ckK c l ks = true → PK X ks (tA X.K W (dL T l))
  | .nil, c, X, W, ks, h, hk => by
    unfold ckK at hk
    split at hk
    · unfold dL; exact k_nil
    · cases hk
  | .cons a l, c, X, W, ks, h, hk => by
    unfold ckK at hk
    split at hk
    · simp only [Bool.and_eq_true] at hk
      unfold dL; exact k_cons (e_ok a c X W _ h hk.1) (k_ok l c X W _ h hk.2)
    · cases hk
theorem f_ok {T : Tab} {k : Nat} : ∀ (l : Tf) (c : Ct) (X : Cx) (W : XK) (es : List Expr), Kn X W T c k → ckF c l es = true → PJ X es (tsOf X.K W (dF T l))
  | .nil, c, X, W, es, h, hk => by
    unfold ckF at hk
    split at hk
    · unfold dF; exact .nil
    · cases hk
  | .txt s l, c, X, W, es, h, hk => by
    unfold ckF at hk
    split at hk
    · simp only [Bool.and_eq_true, decide_eq_true_eq] at hk
      obtain ⟨e1, e2⟩ := hk
      subst e1
      unfold dF; exact .cons pe_str (f_ok l c X W _ h e2)
    · cases hk
  | .val a l, c, X, W, es, h, hk => by
    unfold ckF at hk
    split at hk
    · simp only [Bool.and_eq_true] at hk
      unfold dF; exact .cons (pe_fmt (e_ok a c X W _ h hk.1)) (f_ok l c X W _ h hk.2)
    · cases hk
theorem and_ok {T : Tab} {k : Nat} : ∀ (l : Tv) (c : Ct) (X : Cx) (W : XK) (es : List Expr) (pos : Pos), Kn X W T c k → ckV c l es = true → PE X (.BoolOp .And es pos) (tE X.K W (dAnd T l))
  | .one a, c, X, W, es, pos, h, hk => by
    unfold ckV at hk
    split at hk
    · unfold dAnd; exact e_one (e_ok a c X W _ h hk)
    · cases hk
  | .more a l, c, X, W, es, pos, h, hk => by
    unfold ckV at hk
    split at hk
    · simp only [Bool.and_eq_true] at hk
      unfold dAnd; exact e_and (e_ok a c X W _ h hk.1) (and_ok l c X W _ pos h hk.2)
    · cases hk
theorem or_ok {T : Tab} {k : Nat} : ∀ (l : Tv) (c : Ct) (X : Cx) (W : XK) (es : List Expr) (pos : Pos), Kn X W T c k → ckV c l es = true → PE X (.BoolOp .Or es pos) (tE X.K W (dOr T l))
  | .one a, c, X, W, es, pos, h, hk => by
    unfold ckV at hk
    split at hk
    · unfold dOr; exact e_one (e_ok a c X W _ h hk)
    · cases hk
  | .more a l, c, X, W, es, pos, h, hk => by
    unfold ckV at hk
    split at hk
    · simp only [Bool.and_eq_true] at hk
      unfold dOr; exact e_or (e_ok a c X W _ h hk.1) (or_ok l c X W _ pos h hk.2)
    · cases hk
theorem t_ok {T : Tab} {k : Nat} : ∀ (t : Tt) (c : Ct) (X : Cx) (W : XK) (e : Expr), Kn X W T c k → ckT c t e = true → PT X e (tT X.K W (dT T t))
  | .tru a, c, X, W, e, h, hk => by
    unfold ckT at hk
    simp only [Bool.and_eq_true] at hk
    unfold dT; exact t_tru (plainT_ok hk.1) (e_ok a c X W _ h hk.2)
  | .cmp o a b, c, X, W, e, h, hk => by
    unfold ckT at hk
    split at hk
    · simp only [Bool.and_eq_true, decide_eq_true_eq, Bool.not_eq_true'] at hk
      obtain ⟨e1, e0, e2, e3⟩ := hk
      subst e1
      unfold dT
      exact t_cmp o h.un e0 (e_ok a c X W _ h e2) (e_ok b c X W _ h e3)
    · cases hk
  | .cmp2 o o' a b d, c, X, W, e, h, hk => by
    unfold ckT at hk
    split at hk
    · simp only [Bool.and_eq_true, decide_eq_true_eq, Bool.not_eq_true'] at hk
      obtain ⟨⟨e1, e1'⟩, e0, e2, e3, e4⟩ := hk
      subst e1 e1'
      unfold dT
      exact t_cmp2 o o' h.un e0 (e_ok a c X W _ h e2) (e_ok b c X W _ h e3) (e_ok d c X W _ h e4)
    · cases hk
  | .not_ t, c, X, W, e, h, hk => by
    unfold ckT at hk
    split at hk
    · unfold dT; exact t_not (t_ok t c X W _ h hk)
    · cases hk
  | .and_ l, c, X, W, e, h, hk => by
    unfold ckT at hk
    split at hk
    · unfold dT; exact (andT_ok l c X W _ _ h hk).pt
    · cases hk
  | .or_ l, c, X, W, e, h, hk => by
    unfold ckT at hk
    split at hk
    · unfold dT; exact (orT_ok l c X W _ _ h hk).pt
    · cases hk
  | .ocmp neg d key a b, c, X, W, e, h, hk => by
    unfold ckT at hk
    split at hk
    · simp only [Bool.and_eq_true, decide_eq_true_eq, Bool.not_eq_true'] at hk
      obtain ⟨e1, e0, e2, e3, e4⟩ := hk
      subst e1
      unfold dT
      exact t_ocmp neg e0 (h.eq _ _ e2) ((h.room (h.nh e2 fun z y => by rw [z.2.2.1] at y; cases y)).mono (by omega)) h.free (e_ok a c X W _ h e3) (e_ok b c X W _ h e4)
    · cases hk
  | .otru d a, c, X, W, e, h, hk => by
    unfold ckT at hk
    simp only [Bool.and_eq_true, decide_eq_true_eq] at hk
    obtain ⟨e1, e2, e3⟩ := hk
    obtain ⟨_, _, g1, g2⟩ := h.cs _ e2
    unfold dT
    exact t_otru e1 g1 g2 (e_ok a c X W _ h e3)
theorem andT_ok {T : Tab} {k : Nat} : ∀ (l : Tb) (c : Ct) (X : Cx) (W : XK) (es : List Expr) (pos : Pos), Kn X W T c k → ckB c l es = true → PW X (.BoolOp .And es pos) (tT X.K W (dAndT T l))
  | .one t, c, X, W, es, pos, h, hk => by
    unfold ckB at hk
    split at hk
    · unfold dAndT; exact w_and1 (t_ok t c X W _ h hk)
    · cases hk
  | .more t l, c, X, W, es, pos, h, hk => by
    unfold ckB at hk
    split at hk
    · simp only [Bool.and_eq_true] at hk
      unfold dAndT; exact w_and (t_ok t c X W _ h hk.1) (andT_ok l c X W _ pos h hk.2)
    · cases hk
theorem orT_ok {T : Tab} {k : Nat} : ∀ (l : Tb) (c : Ct) (X : Cx) (W : XK) (es : List Expr) (pos : Pos), Kn X W T c k → ckB c l es = true → PW X (.BoolOp .Or es pos) (tT X.K W (dOrT T l))
  | .one t, c, X, W, es, pos, h, hk => by
    unfold ckB at hk
    split at hk
    · unfold dOrT; exact w_or1 (t_ok t c X W _ h hk)
    · cases hk
  | .more t l, c, X, W, es, pos, h, hk => by
    unfold ckB at hk
    split at hk
    · simp only [Bool.and_eq_true] at hk
      unfold dOrT; exact w_or (t_ok t c X W _ h hk.1) (orT_ok l c X W _ pos h hk.2)
    · cases hk
theorem l_ok {T : Tab} {k : Nat} : ∀ (l : Tl) (c : Ct) (X : Cx) (W : XK) (es : List Expr), Kn X W T c k → ckL c l es = true → PA X es (tA X.K W (dL T l))
  | .nil, c, X, W, es, h, hk => by
    unfold ckL at hk
    split at hk
    · unfold dL; exact a_nil
    · cases hk
  | .cons a l, c, X, W, es, h, hk => by
    unfold ckL at hk
    split at hk
    · simp only [Bool.and_eq_true] at hk
      unfold dL; exact a_cons hk.1 (e_ok a c X W _ h hk.2.1) (l_ok l c X W _ h hk.2.2)
    · cases hk
theorem o_ok {T : Tab} {k : Nat} : ∀ (o : To) (c : Ct) (X : Cx) (W : XK) (e : Option Expr), Kn X W T c k → ckO c o e = true → PO X e (tO X.K W (dO T o))
  | .no, c, X, W, e, h, hk => by
    unfold ckO at hk
    split at hk
    · unfold dO; exact o_no
    · cases hk
  | .so a, c, X, W, e, h, hk => by
    unfold ckO at hk
    split at hk
    · unfold dO; exact o_so (e_ok a c X W _ h hk)
    · cases hk
theorem c_ok {T : Tab} {k : Nat} : ∀ (t : Tc) (c : Ct) (X : Cx) (W : XK) (es : List Expr), Kn X W T c k → ckC c t es = true → PTs X es (tT X.K W (dC T t))
  | .no, c, X, W, es, h, hk => by
    unfold ckC at hk
    split at hk
    · unfold dC; exact ts_nil
    · cases hk
  | .so t, c, X, W, es, h, hk => by
    unfold ckC at hk
    split at hk
    · unfold dC; exact ts_one (t_ok t c X W _ h hk)
    · cases hk
theorem i_ok {T : Tab} {k : Nat} : ∀ (i : Ti) (c : Ct) (X : Cx) (W : XK) (tg e : Expr), Kn X W T c k → ckI c i tg e = true → PI X tg e (tI X.K W (dI T i))
  | .seq a, c, X, W, tg, e, h, hk => by
    unfold ckI at hk
    unfold dI; exact i_seq (e_ok a c X W _ h hk)
  | .rng1 l, c, X, W, tg, e, h, hk => by
    unfold ckI at hk
    split at hk
    · simp only [Bool.and_eq_true, decide_eq_true_eq] at hk
      obtain ⟨e1, e2, e3⟩ := hk
      subst e1
      have st := ckL_star l _ e3
      unfold dI; exact i_rng1 (h.bln e2).1 (h.bln e2).2 (star1 st) (l_ok l c X W _ h e3)
    · cases hk
  | .rng2 l, c, X, W, tg, e, h, hk => by
    unfold ckI at hk
    split at hk
    · simp only [Bool.and_eq_true, decide_eq_true_eq] at hk
      obtain ⟨e1, e2, e3⟩ := hk
      subst e1
      have st := ckL_star l _ e3
      simp only [List.all_cons, Bool.and_eq_true] at st
      unfold dI; exact i_rng2 (h.bln e2).1 (h.bln e2).2 st.1 st.2.1 (l_ok l c X W _ h e3)
    · cases hk
  | .zip l, c, X, W, tg, e, h, hk => by
    unfold ckI at hk
    split at hk
    · simp only [Bool.and_eq_true, decide_eq_true_eq] at hk
      obtain ⟨e1, e2, e3⟩ := hk
      subst e1
      have st := ckL_star l _ e3
      simp only [List.all_cons, Bool.and_eq_true] at st
      unfold dI; exact i_zip (h.bln e2).1 (h.bln e2).2 st.1 st.2.1 (l_ok l c X W _ h e3)
    · cases hk
  | .enum l, c, X, W, tg, e, h, hk => by
    unfold ckI at hk
    split at hk
    · simp only [Bool.and_eq_true, decide_eq_true_eq] at hk
      obtain ⟨e1, e2, e3⟩ := hk
      subst e1
      have st := ckL_star l _ e3
      unfold dI; exact i_enum (h.bln e2).1 (h.bln e2).2 (star1 st) (l_ok l c X W _ h e3)
    · cases hk
end
end Ev
end
section
set_option Elab.async false
set_option linter.all false
set_option maxRecDepth 100000
set_option maxHeartbeats 4000000
/-! terms for statements -/
namespace Ev
open PySem PySem.Spec PyProof.Rows L2
mutual
inductive T1 where
  | pass | brk | cont | ret (a : Te) | retN | if_ (t : Tt) (a b : Ts)
  | set (i : Nat) (a : Te) | setK (i : Nat) (cell : Bool) (own : List (Str × Nat)) (t : Tg) (it : Ti) (c : Tc) (a : Te)
  | asg (t : Tg) (a : Te) | drop (a : Te) | par (i j : Nat) (l : Tl)
  | for_ (t : Tg) (it : Ti) (b : Ts) | while_ (fu : En → Sto → Nat) (t : Tt) (b : Ts)
  | skip
  | setI (o i a : Te) | setIN (o i : Te) (j : Nat) (a : Te) | augI (o i a : Te)
  | raise_ (d f : Str) (a : Te)
inductive Ts where
  | nil | cons (a : T1) (l : Ts)
end
def fWhlF (fu : En → Sto → Nat) (t : FT) (b : FS) : FS := fun ρ S => whlL t b (fu ρ S) ρ S
mutual
def d1 (T : Tab) : T1 → FS
  | .pass => fNext
  | .brk => fun ρ S => some (.ok (.bk ρ) S)
  | .cont => fun ρ S => some (.ok (.ct ρ) S)
  | .ret a => fRet (dE T a)
  | .retN => fRetN
  | .if_ t a b => fIf (dT T t) (dS T a) (dS T b)
  | .set i a => fSet i (dE T a)
  | .setK i cell own t it c a => fSet i (fComp cell (own.map (·.2)) (dE T a) t (dI T it) (dC T c))
  | .asg t a => fAsg t (dE T a)
  | .drop a => fDrop (dE T a)
  | .par i j l => fPar i j (dL T l)
  | .for_ t it b => fFor t (dI T it) (dS T b)
  | .while_ fu t b => fWhlF fu (dT T t) (dS T b)
  | .skip => fun _ _ => none
  | .setI o i a => fSetI (dE T o) (dE T i) (dE T a)
  | .setIN o i j a => fSetIN (dE T o) (dE T i) j (dE T a)
  | .augI o i a => fAugI (dE T o) (dE T i) (dE T a)
  | .raise_ d f a => fRaise d f (dE T a)
def dS (T : Tab) : Ts → FS
  | .nil => fNext
  | .cons a l => fSeqS (d1 T a) (dS T l)
end
/-- which names two or three plain stores on one line set, in the order of the names -/
def swapNT (sc : Scope) (ts vs : List Expr) : Option (Option (List Str)) :=
    if (!(ts.length == 2 || ts.length == 3) || vs.length != ts.length || sc.kind != .function) = true then some none else
    if (vs.any fun | .Starred .. => true | _ => false) = true then some none else
    let names := ts.filterMap fun
      | .Name id pos => if (sc.names.lookup id == some .local && pos.line == (ts.head?.map (·.pos.line)).getD 0) = true then some id else none
      | _ => none
    if (names.length != ts.length || names.eraseDups.length != names.length) = true then some none else
    if (vs.all (foldedForSure 8)) = true then some none else
    if (vs.all (constantsAlone 8)) = true then none else some (some names)
def swapN (sc : Scope) (targets : List Expr) (value : Expr) : Option (Option (List Str)) := match targets with
  | [.Tuple ts _ _] => match value with
    | .Tuple vs _ _ => swapNT sc ts vs
    | _ => some none
  | _ => none
theorem swapNT_ok {env : Env} {ts vs : List Expr} {k1 k2 : Nat} {p1 p2 : Pos} {r : Option (List Str)} (hk : env.blockKind = env.scope.kind) (h : swapNT env.scope ts vs = some r) : swappedStores [.Tuple ts k1 p1] (.Tuple vs k2 p2) env = pure r := by
  unfold swapNT at h
  unfold swappedStores
  dsimp only [] at h ⊢
  rw [hk]
  have ek : ∀ id, env.kindOf id = env.scope.names.lookup id := fun _ => rfl
  simp only [ek]
  split at h
  · rename_i c1
    rw [if_pos c1]; cases h; rfl
  · rename_i c1
    rw [if_neg c1]
    split at h
    · rename_i c2
      erw [if_pos c2]; cases h; rfl
    · rename_i c2
      erw [if_neg c2]
      split at h
      · rename_i c3
        erw [if_pos c3]; cases h; rfl
      · rename_i c3
        erw [if_neg c3]
        split at h
        · rename_i c4
          erw [if_pos c4]; cases h; rfl
        · rename_i c4
          erw [if_neg c4]
          split at h
          · cases h
          · rename_i c5
            erw [if_neg c5]; cases h; rfl
theorem swapN_ok {env : Env} {targets : List Expr} {value : Expr} {r : Option (List Str)} (hk : env.blockKind = env.scope.kind) (h : swapN env.scope targets value = some r) : swappedStores targets value env = pure r := by
  unfold swapN at h
  split at h
  · split at h
    · exact swapNT_ok hk h
    · rename_i hn
      cases h
      unfold swappedStores
      cases value <;> first | rfl | exact absurd rfl (hn _ _ _)
  · cases h
def isFn (c : Ct) : Bool := !c.hot && (match c.sc.kind with
  | .function => true
  | _ => false)
def plainSt : Expr → Bool
  | .Slice _ _ _ _ => false
  | _ => true
mutual
def ck1 (c : Ct) : T1 → Stmt → Bool
  | .pass, s => match s with
    | .Pass _ => true
    | _ => false
  | .brk, s => match s with
    | .Break _ => true
    | _ => false
  | .cont, s => match s with
    | .Continue _ => true
    | _ => false
  | .ret a, s => match s with
    | .Return (some e) _ => ckE c a e
    | _ => false
  | .retN, s => match s with
    | .Return none _ => true
    | _ => false
  | .if_ t a b, s => match s with
    | .If e x y _ => ckT c t e && (ckS c a x && ckS c b y)
    | _ => false
  | .set i a, s => match s with
    | .Assign [.Name x _] e _ => decide (c.N[i]? = some x) && (c.sto x && (noComp e && ckE c a e))
    | _ => false
  | .setK i _ own t it cd a, s => match s with
    | .Assign [.Name x py] (.ListComp elt [⟨tg, iter, ifs, 0⟩] scope pos) _ => isFn c && (decide (c.N[i]? = some x ∧ c.kd x = some .local) && ((py.line == pos.line) && (!(scope.names.any fun (n, k) => n == x && (k == .local || k == .cell)) &&
      (noSet iter && (blkC c.N c.sc scope own && (decide (∀ j ∈ slots t, j ∈ own.map (·.2)) && (ckI c it tg iter && (ckG (c.blk scope) t tg && (ckC (c.blk scope) cd ifs && ckE (c.blk scope) a elt)))))))))
    | _ => false
  | .asg t a, s => match s with
    | .Assign [.Tuple ts kk p] e _ => isFn c && (noComp e && (decide (swapN c.sc [.Tuple ts kk p] e = some none) && (ckG c t (.Tuple ts kk p) && ckE c a e)))
    | _ => false
  | .drop a, s => match s with
    | .Expr e _ => noComp e && ckE c a e
    | _ => false
  | .par i j l, s => match s with
    | .Assign [.Tuple [.Name x px, .Name y py] kt pt] (.Tuple [a, b] k2 pt2) _ => isFn c && (decide (c.N[i]? = some x ∧ c.N[j]? = some y ∧ i ≠ j ∧ c.kd x = some .local ∧ c.kd y = some .local) &&
      (decide (swapN c.sc [.Tuple [.Name x px, .Name y py] kt pt] (.Tuple [a, b] k2 pt2) = some (some [x, y])) && ckL c l [a, b]))
    | _ => false
  | .for_ t it b, s => match s with
    | .For tg e body [] _ => !c.hot && noSet e && (ckI c it tg e && (ckG c t tg && ckS c b body))
    | _ => false
  | .while_ _ t b, s => match s with
    | .While e body [] _ => ckT c t e && ckS c b body
    | _ => false
  | .skip, _ => true
  | .setI o i a, s => match s with
    | .Assign [.Subscript eo ei _] e _ => noSlice ei && (noComp e && (ckE c o eo && (ckE c i ei && ckE c a e)))
    | _ => false
  | .setIN o i j a, s => match s with
    | .Assign [.Tuple [.Subscript eo ei p, .Name x p1] kk p2] e _ => isFn c && (decide (c.N[j]? = some x) && (c.sto x && (noSlice ei && (noComp e && (decide (swapN c.sc [.Tuple [.Subscript eo ei p, .Name x p1] kk p2] e = some none) && (ckE c o eo && (ckE c i ei && ckE c a e)))))))
    | _ => false
  | .augI o i a, s => match s with
    | .AugAssign (.Subscript eo ei _) .Add e _ => noSlice ei && (ckE c o eo && (ckE c i ei && ckE c a e))
    | _ => false
  | .raise_ d f a, s => match s with
    | .Raise (some (.Call (.Name x _) [e] [] _)) none _ => decide (x = d) && (c.glo d && ((c.oc.er.any fun q => decide (q.1 = d ∧ q.2.1 = f)) && (noStar e && ckE c a e)))
    | _ => false
def ckS (c : Ct) : Ts → List Stmt → Bool
  | .nil, l => match l with
    | [] => true
    | _ => false
  | .cons a r, l => match l with
    | s :: l => ck1 c a s && ckS c r l
    | _ => false
end
theorem noSlice_aug {i : Expr} (h : noSlice i = true) : ∀ ov iv new, augStore i ov iv new = (do holding [new, ov, iv] (setItem ov iv new); release [new, ov, iv] []; pure .next) := by
  intro ov iv new
  cases i <;> first | rfl | (cases h; done)
section
variable {X : Cx} {W : XK} {T : Tab} {c : Ct} {k : Nat}
theorem Kn.fun_ (h : Kn X W T c k) (e : isFn c = true) : X.env.scope.kind = .function := by
  unfold isFn at e
  rw [Bool.and_eq_true] at e
  have e := e.2
  rw [h.sc]
  split at e
  · assumption
  · cases e
theorem Kn.calm_ (h : Kn X W T c k) (e : isFn c = true) : X.calm = true := h.calm (by
  unfold isFn at e
  rw [Bool.and_eq_true] at e
  simpa using e.1)
theorem Kn.bk (h : Kn X W T c k) (e : isFn c = true) : X.env.blockKind = X.env.scope.kind := by
  have q := h.fun_ e
  unfold Env.blockKind
  rw [q]
  rfl
theorem Kn.swap (h : Kn X W T c k) (e : isFn c = true) {ts : List Expr} {v : Expr} {r : Option (List Str)} (q : swapN c.sc ts v = some r) : swappedStores ts v X.env = pure r := swapN_ok (h.bk e) (by rw [h.sc]; exact q)
end
theorem tup_sole {ts : List Expr} {kk : Nat} {p : Pos} {e : Expr} {env : Env} : (assignEach [.Tuple ts kk p] env).map (·.2) = [assign (.Tuple ts kk p) env] := rfl
theorem s_whileF {X : Cx} {W : XK} {pos : Pos} {c : Expr} {body : List Stmt} {ft : FT} {fb : FS} (fu : En → Sto → Nat) (hp : PassesOwn (model X.prog X.w) X.A X.env X.xe) (ht : PT X c (tT X.K W ft)) (hb : PSs X body (tS X.K W fb)) : PS X (.While c body [] pos) (tS X.K W (fWhlF fu ft fb)) :=
  ⟨fun pins s σ H D I ⟨ρ, α, S, hE, cs, h⟩ => (s_while (fu ρ S) hp ht hb).run pins s σ H D I ⟨ρ, α, S, hE, cs, h⟩⟩
mutual
theorem s1_ok {T : Tab} {k : Nat} {X : Cx} {W : XK} {c : Ct} (h : Kn X W T c k) (hp : PassesOwn (model X.prog X.w) X.A X.env X.xe) : ∀ (t : T1) (s : Stmt), ck1 c t s = true → PS X s (tS X.K W (d1 T t))
  | .pass, s, hk => by
    unfold ck1 at hk
    split at hk
    · unfold d1; exact s_pass
    · cases hk
  | .brk, s, hk => by
    unfold ck1 at hk
    split at hk
    · unfold d1; exact s_break
    · cases hk
  | .cont, s, hk => by
    unfold ck1 at hk
    split at hk
    · unfold d1; exact s_cont
    · cases hk
  | .ret a, s, hk => by
    unfold ck1 at hk
    split at hk
    · unfold d1; exact s_ret (e_ok a c X W _ h hk)
    · cases hk
  | .retN, s, hk => by
    unfold ck1 at hk
    split at hk
    · unfold d1; exact s_retN
    · cases hk
  | .if_ t a b, s, hk => by
    unfold ck1 at hk
    split at hk
    · simp only [Bool.and_eq_true] at hk
      unfold d1; exact s_if (t_ok t c X W _ h hk.1) (ss_ok h hp a _ hk.2.1) (ss_ok h hp b _ hk.2.2)
    · cases hk
  | .set i a, s, hk => by
    unfold ck1 at hk
    split at hk
    · simp only [Bool.and_eq_true, decide_eq_true_eq] at hk
      obtain ⟨e1, e2, e3, e4⟩ := hk
      unfold d1; exact s_set h.nodup (h.name e1) (h.sto e2).1 (h.sto e2).2 e3 (e_ok a c X W _ h e4)
    · cases hk
  | .setK i cell own t it cd a, s, hk => by
    unfold ck1 at hk
    split at hk
    · rename_i x py elt tg iter ifs scope pos spos
      simp only [Bool.and_eq_true, decide_eq_true_eq, Bool.not_eq_true'] at hk
      obtain ⟨e0, ⟨n1, n2⟩, n3, n4, e1, e2, e3, e4, e5, e6, e7⟩ := hk
      have ok : BlkOk X.N X.env.scope scope own := by rw [h.hN, h.sc]; exact blkOk_by e2
      have hl : X.env.scope.names.lookup x = some .local := by rw [h.sc]; exact n2
      unfold d1
      exact s_setComp cell (h.calm_ e0) h.nodup (h.name n1) hl (sw_true (h.fun_ e0) hl n3 n4) e1 ok e3 (i_ok it c X W tg iter h e4) (fun s H C cl fp => g_ok (h.blk s H scope cl C fp) t tg e5) (fun s H C cl fp => c_ok cd _ _ _ ifs (h.blk s H scope cl C fp) e6) fun s H C cl fp => e_ok a _ _ _ elt (h.blk s H scope cl C fp) e7
    · cases hk
  | .asg t a, s, hk => by
    unfold ck1 at hk
    split at hk
    · simp only [Bool.and_eq_true, decide_eq_true_eq] at hk
      obtain ⟨e0, e1, e2, e3, e4⟩ := hk
      unfold d1; exact s_asg (e_ok a c X W _ h e4) (g_ok h t _ e3) (comp_sole e1) (h.swap e0 e2) rfl
    · cases hk
  | .drop a, s, hk => by
    unfold ck1 at hk
    split at hk
    · simp only [Bool.and_eq_true] at hk
      unfold d1; exact s_drop hk.1 (e_ok a c X W _ h hk.2)
    · cases hk
  | .par i j l, s, hk => by
    unfold ck1 at hk
    split at hk
    · simp only [Bool.and_eq_true, decide_eq_true_eq] at hk
      obtain ⟨e0, ⟨n1, n2, n3, n4, n5⟩, e1, e2⟩ := hk
      unfold d1
      exact s_par (h.calm_ e0) h.nodup (h.name n1) (h.name n2) n3 (by rw [h.sc]; exact n4) (by rw [h.sc]; exact n5) (l_ok l c X W _ h e2) (h.swap e0 e1) (comp_sole rfl)
    · cases hk
  | .for_ t it b, s, hk => by
    unfold ck1 at hk
    split at hk
    · simp only [Bool.and_eq_true] at hk
      obtain ⟨⟨e0, e1⟩, e2, e3, e4⟩ := hk
      unfold d1
      exact s_for hp (h.calm (by simpa using e0)) e1 (i_ok it c X W _ _ h e2) (g_ok h t _ e3) (ss_ok h hp b _ e4)
    · cases hk
  | .while_ fu t b, s, hk => by
    unfold ck1 at hk
    split at hk
    · simp only [Bool.and_eq_true] at hk
      unfold d1
      exact s_whileF fu hp (t_ok t c X W _ h hk.1) (ss_ok h hp b _ hk.2)
    · cases hk
  | .raise_ d f a, s, hk => by
    unfold ck1 at hk
    split at hk
    · simp only [Bool.and_eq_true, decide_eq_true_eq, List.any_eq_true] at hk
      obtain ⟨rfl, k2, ⟨⟨d', f', key⟩, hm, rfl, rfl⟩, k4, k5⟩ := hk
      obtain ⟨g1, g2⟩ := h.glo k2
      obtain ⟨mg, T1, fI, fd, ps, e1, e2, e3, e4⟩ := h.er _ _ _ hm
      exact s_raise (h.calm (h.nh hm fun z y => by rw [z.2.2.2.2.2.2.2] at y; cases y)) h.tk T1 e1 e2 e3 ((h.room (h.nh hm fun z y => by rw [z.2.2.2.2.2.2.2] at y; cases y)).mono (by omega)) e4 (L2.passes_call h.tk fun _ _ _ _ z => z.elim) g1 mg g2 k4 (e_ok a _ X W _ h k5)
    · cases hk
  | .skip, s, hk => ⟨fun pins s σ H D I ⟨ρ, α, S, hE, c, h⟩ => False.elim (show False from h)⟩
  | .setI o i a, s, hk => by
    unfold ck1 at hk
    split at hk
    · simp only [Bool.and_eq_true] at hk
      obtain ⟨e1, e2, e3, e4, e5⟩ := hk
      unfold d1
      exact s_setI e1 e2 (e_ok o c X W _ h e3) (e_ok i c X W _ h e4) (e_ok a c X W _ h e5)
    · cases hk
  | .setIN o i j a, s, hk => by
    unfold ck1 at hk
    split at hk
    · simp only [Bool.and_eq_true, decide_eq_true_eq] at hk
      obtain ⟨e0, n1, n2, e1, e2, e6, e3, e4, e5⟩ := hk
      unfold d1
      exact s_setIN h.nodup (h.name n1) (h.sto n2).1 (h.sto n2).2 (h.calm_ e0) e1 e2 (h.swap e0 e6) (e_ok o c X W _ h e3) (e_ok i c X W _ h e4) (e_ok a c X W _ h e5)
    · cases hk
  | .augI o i a, s, hk => by
    unfold ck1 at hk
    split at hk
    · simp only [Bool.and_eq_true] at hk
      obtain ⟨e1, e3, e4, e5⟩ := hk
      unfold d1
      exact s_augI (noSlice_aug e1) (e_ok o c X W _ h e3) (e_ok i c X W _ h e4) (e_ok a c X W _ h e5)
    · cases hk
theorem ss_ok {T : Tab} {k : Nat} {X : Cx} {W : XK} {c : Ct} (h : Kn X W T c k) (hp : PassesOwn (model X.prog X.w) X.A X.env X.xe) : ∀ (t : Ts) (l : List Stmt), ckS c t l = true → PSs X l (tS X.K W (dS T t))
  | .nil, l, hk => by
    unfold ckS at hk
    split at hk
    · unfold dS; exact ss_nil
    · cases hk
  | .cons a r, l, hk => by
    unfold ckS at hk
    split at hk
    · simp only [Bool.and_eq_true] at hk
      unfold dS; exact ss_cons (s1_ok h hp a _ hk.1) (ss_ok h hp r _ hk.2)
    · cases hk
end
end Ev
end
section
set_option Elab.async false
set_option linter.all false
set_option maxRecDepth 100000
set_option maxHeartbeats 2000000
/-! __init__ of own classes -/
namespace Ev
open PySem PySem.Spec PyProof.Rows L2
/-! ### __init__: expressions for their refusals, then fields set to parameters -/
inductive Is1 where
  | ex (a : Te) | fld (f : Str) (i : Nat)
def runI (T : Tab) : List Is1 → En → List (Str × Nat) → Option (List (Str × Nat))
  | [], _, acc => some acc
  | .ex a :: l, ρ, acc => match dE T a ρ [] with
    | some (.ok _ _) => runI T l ρ acc
    | _ => none
  | .fld f i :: l, ρ, acc => if f ∈ acc.map (·.1) ∨ 900 ≤ acc.length then none else runI T l ρ (acc ++ [(f, i)])
def ckI1 (c : Ct) : List Is1 → List Stmt → Bool
  | [], l => match l with
    | [] => true
    | _ => false
  | .ex a :: r, l => match l with
    | .Expr e _ :: l => noComp e && (ckE c a e && ckI1 c r l)
    | _ => false
  | .fld f i :: r, l => match l with
    | .Assign [.Attribute (.Name s _) g _] (.Name p _) _ :: l => decide (g = f) && (decide (c.N[0]? = some s) && (decide (c.N[i]? = some p) && (c.vis s && (c.vis p && (!(s == ("__debug__" : Str)) && (!(s == ("__classdict__" : Str)) && (!(p == ("__debug__" : Str)) && (!(p == ("__classdict__" : Str)) && ckI1 c r l))))))))
    | _ => false
theorem putF_new : ∀ {fs : List (Str × V)} {f : Str} {v : V}, f ∉ fs.map (·.1) → putF f v fs = fs ++ [(f, v)]
  | [], f, v, _ => rfl
  | (g, x) :: r, f, v, h => by
    have h1 : g ≠ f := fun e => h (by simp [e])
    have h2 : f ∉ r.map (·.1) := fun e => h (List.mem_cons_of_mem _ e)
    show (if g = f then _ else _) = _
    rw [if_neg h1, putF_new h2]
    rfl
theorem valsI_app {σ : L2.St} {f : Str} {i : Nat} {v : V} (hv : σ[i]? = some (some v)) : ∀ {acc : List (Str × Nat)} {fs : List (Str × V)}, valsI σ acc = some fs → valsI σ (acc ++ [(f, i)]) = some (fs ++ [(f, v)])
  | [], fs, e => by
    cases e
    show (match σ[i]?, some [] with
      | some (some v), some r => some ((f, v) :: r)
      | _, _ => none) = _
    rw [hv]
    rfl
  | (g, j) :: acc, fs, e => by
    have e : (match σ[j]?, valsI σ acc with
      | some (some v), some r => some ((g, v) :: r)
      | _, _ => none) = some fs := e
    show (match σ[j]?, valsI σ (acc ++ [(f, i)]) with
      | some (some v), some r => some ((g, v) :: r)
      | _, _ => none) = _
    split at e
    · rename_i w r e1 e2
      cases e
      rw [e1, valsI_app hv e2]
      rfl
    · cases e
theorem valsI_names {σ : L2.St} : ∀ {acc : List (Str × Nat)} {fs : List (Str × V)}, valsI σ acc = some fs → fs.map (·.1) = acc.map (·.1)
  | [], fs, e => by cases e; rfl
  | (g, j) :: acc, fs, e => by
    have e : (match σ[j]?, valsI σ acc with
      | some (some v), some r => some ((g, v) :: r)
      | _, _ => none) = some fs := e
    split at e
    · rename_i w r e1 e2
      cases e
      rw [List.map_cons, List.map_cons, valsI_names e2]
    · cases e
/-- a field more of an object that was not there before -/
theorem ExtT.ins {K : PySem.W.Frag} {H1 H : Hp} {x C dx : Addr} {fs gs : List (Str × V)} (e : ExtT K H1 H) (h : H x = some (.ins C dx fs)) (hx : H1 x = none) : ExtT K H1 (upd H x (.ins C dx gs)) := by
  have ne : ∀ {b : Addr} {o : HO}, H b = some o → (∀ fs, o ≠ .ins C dx fs) → upd H x (.ins C dx gs) b = some o := fun {b o} z n => by
    have hb : b ≠ x := fun w => by
      rw [w, h] at z
      exact n fs (Option.some.inj z).symm
    rw [upd_ne hb]; exact z
  refine ⟨fun b o z n => ?_, fun t p hp => ?_⟩
  · have hb : b ≠ x := fun w => by rw [w, hx] at z; cases z
    rw [upd_ne hb]
    exact e.old b o z n
  · obtain ⟨ps, h1, h2, h3⟩ := e.tb t p hp
    refine ⟨ps, ne h1 (fun _ z => by cases z), h2, fun pos cv hc => ?_⟩
    obtain ⟨k, e1, e2⟩ := h3 pos cv hc
    exact ⟨k, e1, ne e2 fun _ z => by unfold LamX.CodeO at z; cases z⟩
theorem init_go {X : Cx} {W : XK} {T : Tab} {c : Ct} {k : Nat} {C x dx : Addr} (h : Kn X W T c k) (hcl : Cls X.K C) {ρ : En} {σ : L2.St} {H1 : Hp} (h0 : σ[0]? = some (some (.ref x))) (hE : ∀ H, ExtT X.K H1 H → IsE X.K [] (hid [] H) ρ σ) (hT : LamX.Tabs (tbK X.K) H1) (hx1 : H1 x = none) : ∀ (l : List Is1) (sts : List Stmt), ckI1 c l sts = true → (∀ f i, Is1.fld f i ∈ l → NoAttr X.K C f ∧ ∃ v, σ[i]? = some (some v)) →
    ∃ t, PSs X sts t ∧ ∀ (D : Ends) (H : Hp) (acc fl : List (Str × Nat)) (fs : List (Str × V)), ExtT X.K H1 H → H x = some (.ins C dx fs) → valsI σ acc = some fs → runI T l ρ acc = some fl →
      (∀ H' fs', ExtT X.K H1 H' → H' x = some (.ins C dx fs') → valsI σ fl = some fs' → D.nx σ H') → t D σ H
  | [], sts, hk, _ => by
    unfold ckI1 at hk
    split at hk
    · refine ⟨_, pss_nil, fun D H acc fl fs e1 e2 e3 e4 q => ?_⟩
      unfold runI at e4
      cases e4
      exact q H fs e1 e2 e3
    · cases hk
  | .ex a :: l, sts, hk, hf => by
    unfold ckI1 at hk
    split at hk
    · simp only [Bool.and_eq_true] at hk
      obtain ⟨k1, k2, k3⟩ := hk
      obtain ⟨t, ht, hq⟩ := init_go h hcl h0 hE hT hx1 l _ k3 fun f i z => hf f i (List.mem_cons_of_mem _ z)
      refine ⟨_, pss_cons (ps_expr (e_ok a c X W _ h k2) (comp_free k1)) ht, fun D H acc fl fs e1 e2 e3 e4 q => ?_⟩
      unfold runI at e4
      split at e4
      · rename_i u S1 e5
        refine ⟨ρ, [], [], hE H e1, ⟨List.nodup_nil, rfl, fun n a l z => by simp at z, e1.tb hT⟩, ?_⟩
        rw [e5]
        intro β H' af v _
        have ex : ExtT X.K H H' := af.extT
        exact hq D H' acc fl fs (e1.trans ex) (ex.old _ _ e2 fun _ z => by cases z) e3 e4 q
      · cases e4
    · cases hk
  | .fld f i :: l, sts, hk, hf => by
    unfold ckI1 at hk
    split at hk
    · simp only [Bool.and_eq_true, decide_eq_true_eq, Bool.not_eq_true'] at hk
      obtain ⟨k1, k2, k3, k4, k5, k6, k7, k8, k9, k10⟩ := hk
      subst k1
      obtain ⟨t, ht, hq⟩ := init_go h hcl h0 hE hT hx1 l _ k10 fun f i z => hf f i (List.mem_cons_of_mem _ z)
      obtain ⟨hn, v, hv⟩ := hf _ i List.mem_cons_self
      refine ⟨_, pss_cons (ps_fld (pe_var (h.name k2) (h.vis k4) k6 k7) (pe_var (h.name k3) (h.vis k5) k8 k9) rfl) ht, fun D H acc fl fs e1 e2 e3 e4 q => ?_⟩
      unfold runI at e4
      split at e4
      · cases e4
      · rename_i hno
        have n1 := not_or.mp hno
        have en := valsI_names e3
        have hlen : fs.length = acc.length := by
          have := congrArg List.length en
          simpa using this
        refine ⟨v, hv, .ref x, h0, x, C, dx, fs, rfl, e2, hcl, hn, by omega, ?_⟩
        rw [putF_new (by rw [en]; exact n1.1)]
        refine hq D _ _ fl _ (e1.ins e2 hx1) upd_same (valsI_app hv e3) e4 q
    · cases hk

def envI (n : Nat) (N : Nat) (ps : List P) : En := none :: ps.map (fun p => some (.p p)) ++ List.replicate (N - (n + 1)) none
theorem isE_init {K : PySem.W.Frag} {N : List Str} {x : Addr} {H1 H : Hp} {ps : List P} {ws : List V} (h : IsA K (hid [] H1) ps ws) (e : ExtT K H1 H) : IsE K [] (hid [] H) (envI ws.length N.length ps) (L2.start N (.ref x :: ws)) := by
  have hl := h.length
  have e0 : Ext (hid [] H1) (hid [] H) := e.hid
  have h2 := h.ext e0
  refine ⟨by simp [envI, L2.start, hl], fun i u z => ?_⟩
  cases i with
  | zero => cases z
  | succ i =>
    unfold envI at z
    rw [List.cons_append, List.getElem?_cons_succ] at z
    unfold L2.start
    rw [List.map_cons, List.cons_append, List.getElem?_cons_succ]
    by_cases hi : i < ps.length
    · rw [List.getElem?_append_left (by simpa using hi), List.getElem?_map] at z
      cases q : ps[i]? with
      | none => rw [q] at z; cases z
      | some p =>
        rw [q] at z
        cases z
        obtain ⟨v, h3, h4⟩ := h2.get q
        refine ⟨v, ?_, h4⟩
        rw [List.getElem?_append_left (by rw [List.length_map, ← hl]; exact hi), List.getElem?_map, h3]
        rfl
    · rw [List.getElem?_append_right (by simpa using hi), List.getElem?_replicate] at z
      split at z <;> cases z
theorem fn_init {P : Program} {w : World} {K : PySem.W.Frag} {mg : Str → Option Value} {base : Heap} {x qual : Str} {params : Arguments} {body : List Stmt} {scope : Scope} {dvs : List V} {kws : List (Str × V)} {f C : Addr} {fd : FuncData} {N ps : List Str} {j k n : Nat} {T : Tab} {l : List Is1} {c : Ct}
    (F : FunD K x qual params body scope dvs kws f fd) (Sc : FnScope N ps scope) (hn : ps.length = n + 1) (hcl : Cls K C) (hk : ckI1 c l body = true) (hf : ∀ f i, Is1.fld f i ∈ l → NoAttr K C f ∧ 1 ≤ i ∧ i ≤ n)
    (hb : ∀ (cdv : Value) (A : Around) (outer : List Env) (s : Shared) (H : Hp) (E : XK), fd.code = cdv → Room k (A.deeper (envOfC qual scope s.heap.objs.size f cdv)) → Free (A.deeper (envOfC qual scope s.heap.objs.size f cdv)) →
      Kn (cxOf (L2.CX P w) P w K mg base N qual scope f cdv A outer s H E) E T c j) :
    FnG P w K mg base (L2.CX P w) (k + 1) f fd ps (spI K C n N fun pa => runI T l (envI n N.length pa) []) := by
  refine fnG_of F Sc (fun vs H Q E ⟨x, dx, ws, pa, fl, H1, e1, e2, _⟩ => by rw [e1, List.length_cons, e2, hn]) fun cdv A outer s H vs Q E hc hr hfr hs => ?_
  obtain ⟨x, dx, ws, pa, fl, H1, rfl, e2, n1, n2, n3, rfl, ha, hT, hrun, hq⟩ := hs
  subst e2
  have hσ : ∀ i, 1 ≤ i → i ≤ ws.length → ∃ v, (L2.start N (.ref x :: ws))[i]? = some (some v) := fun i h1 h2 => by
    obtain ⟨j, rfl⟩ : ∃ j, i = j + 1 := ⟨i - 1, by omega⟩
    unfold L2.start
    rw [List.map_cons, List.cons_append, List.getElem?_cons_succ, List.getElem?_append_left (by rw [List.length_map]; omega), List.getElem?_map, List.getElem?_eq_getElem (by omega)]
    exact ⟨_, rfl⟩
  have ex : ExtT K H1 (upd (upd H1 dx (.own x)) x (.ins C dx [])) := .of fun b o z => by
    have h1 : b ≠ x := fun w => by rw [w, n1] at z; cases z
    have h2 : b ≠ dx := fun w => by rw [w, n2] at z; cases z
    rw [upd_ne h1, upd_ne h2]
    exact z
  obtain ⟨t, ht, hgo⟩ := init_go (C := C) (x := x) (dx := dx) (ρ := envI ws.length N.length pa) (σ := L2.start N (.ref x :: ws)) (H1 := H1) (hb cdv A outer s _ E hc hr hfr) hcl rfl (fun H e => isE_init ha e) hT n1 l body hk fun f i z => ⟨(hf f i z).1, hσ i (hf f i z).2.1 (hf f i z).2.2⟩
  refine ⟨t, ht, hgo _ _ [] fl [] ex upd_same rfl hrun fun H' fs' e3 e4 e5 => hq H' fs' e3 e4 e5⟩
end Ev
end
section
set_option Elab.async false
set_option linter.all false
set_option maxRecDepth 100000
set_option maxHeartbeats 4000000
/-! the table of a text's defs, methods and classes -/
namespace Ev
open PySem PySem.Spec PyProof.Rows L2
/-- a def: its name (or a method's key), its parameters, all its names, its body; top: a name of the module; init: the class whose __init__ it is, and its steps; exi: the class of errors whose __init__ it is, and what it sets -/
structure Dn where
  name : Str
  ps : List Str
  N : List Str
  body : Ts
  top : Bool := true
  init : Option (Str × List Is1) := none
  exi : Option (Str × Str) := none
  hot : Bool := false
  lam : Bool := false
def initR (T : Tab) (n N : Nat) (st : List Is1) (pa : List P) : Option (List (Str × Nat)) := runI T st (envI n N pa) []
def tabOf : List Dn → Tab
  | [] => fun _ _ _ => none
  | d :: l => fun x => if x = d.name then (match d.init with
    | none => fDef d.N.length (dS (tabOf l) d.body)
    | some (c, st) => fun us S => lift (makeP (initR (tabOf l) (d.ps.length - 1) d.N.length st) c (d.ps.length - 1) us) S) else tabOf l x
def Dn.plain (d : Dn) : Bool := d.top && (d.init.isNone && d.exi.isNone) && !d.hot
/-- a def that catches what a lambda raises: its names, the sorter, the classes that are caught -/
structure CaG where
  x : Str
  srt : Str
  cm : List (Str × Bool)
  act : Str
  gave : Str
  err : Str
  x1 : Str
  x2 : Str
  x3 : Str
  d : He5.DefA
def arOf : List Dn → List (Str × Nat)
  | [] => []
  | d :: l => if d.plain = true then (d.name, d.ps.length) :: arOf l else arOf l
/-- what is known of the module: built-ins not hidden, gcd, constants, classes -/
structure Gt where
  bl : List Str
  gc : Bool
  gl : List (Str × P)
  oc : Oc := {}
  ca : List CaG := []
/-- a method of so many parameters is there -/
def hasM (l : List Dn) (key : Str) (n : Nat) : Bool := l.any fun d => decide (d.name = key ∧ d.ps.length = n) && (d.init.isNone && d.exi.isNone && !d.hot)
def ocOf (g : Gt) (l : List Dn) : Oc where
  cs := g.oc.cs
  fl := g.oc.fl
  pr := g.oc.pr.filter fun q => hasM l q.2.2 1
  eq := g.oc.eq.filter fun q => hasM l q.2 2
  st := g.oc.st.filter fun q => hasM l q.2 1
  rp := g.oc.rp.filter fun q => hasM l q.2 1
  mk_ := g.oc.mk_.filter fun q => l.any fun d => decide (d.name = q.2.1 ∧ d.init.map (·.1) = some q.1 ∧ d.ps.tail = q.2.2 ∧ d.ps.length = q.2.2.length + 1) && d.exi.isNone
  kf := (l.filter (·.plain)).map fun d => (d.name, d.ps)
  eo := g.oc.eo
  eb := g.oc.eb
  ef := g.oc.ef
  er := g.oc.er.filter fun q => l.any fun d => decide (d.name = q.2.2 ∧ d.exi = some (q.1, q.2.1))
/-- the sorters are there -/
def caOf (g : Gt) (l : List Dn) : List (Str × Str × List (Str × Bool)) := (g.ca.filter fun q => l.any fun d => decide (d.name = q.srt ∧ d.ps.length = 1 ∧ d.hot = true) && (d.init.isNone && d.exi.isNone)).map fun q => (q.x, q.srt, q.cm)
def ctH (g : Gt) (d : Dn) (sc : Scope) : Ct := { oc := { eo := g.oc.eo, eb := g.oc.eb, ef := g.oc.ef }, N := d.N, sc := sc, fnc := true, bl := g.bl, gc := false, ar := [], gl := g.gl, hot := true }
def ctN (g : Gt) (d : Dn) (sc : Scope) (l : List Dn) : Ct := { oc := ocOf g l, N := d.N, sc := sc, fnc := true, bl := g.bl, gc := g.gc, ar := arOf l, gl := g.gl, hot := false, lam := d.lam, ca := caOf g l }
def ctOf (g : Gt) (d : Dn) (sc : Scope) (l : List Dn) : Ct := if d.hot = true then ctH g d sc else ctN g d sc l
def lev : List (Dn × He5.DefA) → Nat
  | [] => 0
  | (d, _) :: l => lev l + (if d.lam = true then 5 else 3)
def scB (N ps : List Str) (sc : Scope) : Bool := (match sc.kind with | .function => true | _ => false) && (!sc.isCoroutine && (!sc.isGenerator && (decide N.Nodup && (decide (N.take ps.length = ps) &&
  (ps.all (fun x => match sc.names.lookup x with | some .local => true | some .cell => true | _ => false) && sc.names.all fun y => match y.2 with | .free => false | _ => true)))))
theorem scB_ok {N ps : List Str} {sc : Scope} (h : scB N ps sc = true) : FnScope N ps sc := by
  unfold scB at h
  simp only [Bool.and_eq_true, Bool.not_eq_true', decide_eq_true_eq, List.all_eq_true] at h
  obtain ⟨h1, h2, h3, h4, h5, h6, h7⟩ := h
  refine ⟨?_, h2, h3, h4, h5, fun x hx => ?_, fun y hy e => ?_⟩
  · split at h1
    · assumption
    · cases h1
  · have := h6 x hx
    split at this
    · rename_i q; exact .inl q
    · rename_i q; exact .inr q
    · cases this
  · have := h7 y hy
    rw [e] at this
    cases this
abbrev Ld : Type := List (Dn × He5.DefA)
def glB (sc : Scope) (x : Str) : Bool := match sc.names.lookup x with
  | some .globalImplicit => true
  | _ => false
def loB (sc : Scope) (x : Str) : Bool := match sc.names.lookup x with
  | some .local => true
  | _ => false
/-- the text of a def that catches -/
def caB (q : CaG) : Bool := (match q.d.body with
  | [.Try [.Assign [.Name g1 _] (.Call (.Name a1 _) [] [] _) _] [.ExceptHandler (some (.Tuple [.Name y1 _, .Name y2 _, .Name y3 _] _ _)) (some e1) [.Return (some (.Call (.Name s1 _) [.Name e2 _] [] _)) _] _] [] [] _, .Return (some (.List [.Constant (.str t) _ _, .Call (.Name r _) [.Name g2 _] [] _] _)) _] =>
    decide (g1 = q.gave ∧ a1 = q.act ∧ y1 = q.x1 ∧ y2 = q.x2 ∧ y3 = q.x3 ∧ e1 = q.err ∧ s1 = q.srt ∧ e2 = q.err ∧ t = "gave" ∧ r = "repr" ∧ g2 = q.gave)
  | _ => false) && (scB [q.act, q.gave, q.err] [q.act] q.d.scope && (loB q.d.scope q.act && (loB q.d.scope q.gave && (loB q.d.scope q.err && (glB q.d.scope q.x1 && (glB q.d.scope q.x2 && (glB q.d.scope q.x3 && (glB q.d.scope q.srt && (glB q.d.scope "repr" &&
    ([q.act, q.gave, q.err, q.srt, q.x1, q.x2, q.x3].all fun x => !(x == ("__debug__" : Str)) && !(x == ("__classdict__" : Str))))))))))))
theorem caB_ok {q : CaG} (h : caB q = true) : CaT q.act q.gave q.err q.srt q.x1 q.x2 q.x3 q.d.body q.d.scope := by
  unfold caB at h
  simp only [Bool.and_eq_true, List.all_eq_true, Bool.not_eq_true'] at h
  obtain ⟨h0, h1, h2, h3, h4, h5, h6, h7, h8, h9, h10⟩ := h
  have lo : ∀ {x : Str}, loB q.d.scope x = true → q.d.scope.names.lookup x = some .local := fun {x} e => by
    unfold loB at e
    split at e
    · assumption
    · cases e
  have gl : ∀ {x : Str}, glB q.d.scope x = true → q.d.scope.names.lookup x = some .globalImplicit := fun {x} e => by
    unfold glB at e
    split at e
    · assumption
    · cases e
  refine ⟨?_, scB_ok h1, .inl (lo h2), lo h3, lo h4, gl h5, gl h6, gl h7, gl h8, gl h9, h10⟩
  split at h0
  · rename_i eb
    simp only [decide_eq_true_eq] at h0
    obtain ⟨rfl, rfl, rfl, rfl, rfl, rfl, rfl, z, rfl, rfl, z2⟩ := h0
    rw [eb, z, z2]
    exact ⟨_, _, _, _, _, _, _, _, default, _, _, _, _, _, _, _, _, _, _, _, _, _, _, rfl⟩
  · cases h0
/-- self.f = y -/
def exiOk (g : Gt) (d : Dn) (e : He5.DefA) (c f : Str) : Bool := decide ((c, f, d.name) ∈ g.oc.er) && (match e.body, d.ps with
  | [.Assign [.Attribute (.Name s _) f' _] (.Name y _) _], [s', y'] => decide (f' = f ∧ s' = s ∧ y' = y ∧ d.N[0]? = some s ∧ d.N[1]? = some y) && (!(s == ("__debug__" : Str)) && (!(s == ("__classdict__" : Str)) && (!(y == ("__debug__" : Str)) && !(y == ("__classdict__" : Str)))))
  | _, _ => false)
def bodyOk (g : Gt) (d : Dn) (e : He5.DefA) (l : List Dn) : Bool := match d.exi with
  | some (c, f) => exiOk g d e c f
  | none => match d.init with
  | none => ckS (ctOf g d e.scope l) d.body e.body
  | some (c, st) => decide (1 ≤ d.ps.length ∧ c ∈ g.oc.cs) && (ckI1 (ctOf g d e.scope l) st e.body && st.all fun
    | .fld f i => decide ((c, f) ∈ g.oc.fl ∧ 1 ≤ i ∧ i ≤ d.ps.length - 1)
    | _ => true)
def tabOk (g : Gt) : Ld → Bool
  | [] => true
  | (d, e) :: l => decide (d.name ∉ l.map fun q => q.1.name) && ((!d.plain || decide (e.name = d.name)) && (e.dfl.isEmpty && (e.kwd.isEmpty && (parB d.ps e.params && (scB d.N d.ps e.scope && ((!d.lam || (decide (e.qual = d.name ∧ lamNames = [d.name]) && d.plain)) && ((!d.hot || (decide (e.name = d.name) && (d.top && (d.init.isNone && d.exi.isNone)))) && (bodyOk g d e (l.map (·.1)) && tabOk g l))))))))
/-- what is known of a class, by the written part alone -/
structure IsK (K : PySem.W.Frag) (c : Str) : Prop where
  cl : Cls K (He.ga K c)
  ha : PySem.W.findIn K (.ref (He.ga K c)) "__class__" = some (some (.builtin "object.__class__"))
  hn : PySem.W.specialIn K (.builtin "object.__class__") "__get__" = some (some (.builtin "getset_descriptor.__get__"))
  htk : PySem.W.takesIn K (.builtin "object.__class__") = some true
  hm : PySem.W.mroIn K (He.ga K c) (.type "object") = some true
  no : ∀ n ∈ tyNames, PySem.W.kitOne K (.type n) (.ref (He.ga K c)) = some false
  yes : PySem.W.kitOne K (.ref (He.ga K c)) (.ref (He.ga K c)) = some true
  bo : PySem.W.findIn K (.ref (He.ga K c)) "__bool__" = some none
  le : PySem.W.findIn K (.ref (He.ga K c)) "__len__" = some none
structure Gk (K : PySem.W.Frag) (mg : Str → Option Value) (g : Gt) (l : Ld) : Prop where
  bl : ∀ x ∈ g.bl, mg x = none
  gc : g.gc = true → mg "gcd" = some (.builtin "math.gcd")
  gl : ∀ x p, g.gl.lookup x = some p → ∃ (v : V) (u : Value), mg x = some u ∧ RelV v u ∧ ∀ G, Is K G p v
  fn : ∀ q ∈ l, ∃ fd, FunD K q.2.name q.2.qual q.2.params q.2.body q.2.scope (q.2.dvs K) (q.2.kws K) (q.2.at_ K) fd
  top : ∀ q ∈ l, q.1.plain = true → mg q.2.name = some (.ref (q.2.at_ K))
  cs : ∀ x ∈ g.oc.cs, IsK K x ∧ mg x = some (.ref (He.ga K x))
  fl : ∀ d f, (d, f) ∈ g.oc.fl → Cls K (He.ga K d) ∧ NoAttr K (He.ga K d) f
  pr : ∀ d f key, (d, f, key) ∈ g.oc.pr → Cls K (He.ga K d) ∧ ∀ q ∈ l, q.1.name = key → ∃ p, PropOf K (He.ga K d) f p (q.2.at_ K)
  eq : ∀ d key, (d, key) ∈ g.oc.eq → (∀ n ∈ tyNames, PySem.W.notFirst K (He.ga K d) (.type n) = true) ∧ PySem.W.findIn K (.ref (He.ga K d)) "__ne__" = some (some (.builtin "object.__ne__")) ∧ PySem.W.mroIn K (He.ga K d) (.type "object") = some true ∧
    ∀ q ∈ l, q.1.name = key → PySem.W.findIn K (.ref (He.ga K d)) "__eq__" = some (some (.ref (q.2.at_ K))) ∧ PySem.W.isFn K (.ref (q.2.at_ K)) = true
  st : ∀ d key, (d, key) ∈ g.oc.st → ∀ q ∈ l, q.1.name = key → PySem.W.findIn K (.ref (He.ga K d)) "__str__" = some (some (.ref (q.2.at_ K))) ∧ PySem.W.isFn K (.ref (q.2.at_ K)) = true
  rp : ∀ d key, (d, key) ∈ g.oc.rp → ∀ q ∈ l, q.1.name = key → PySem.W.findIn K (.ref (He.ga K d)) "__repr__" = some (some (.ref (q.2.at_ K))) ∧ PySem.W.isFn K (.ref (q.2.at_ K)) = true
  mk_ : ∀ d key rest, (d, key, rest) ∈ g.oc.mk_ → mg d = some (.ref (He.ga K d)) ∧ ∀ q ∈ l, q.1.name = key → Mk K (He.ga K d) (q.2.at_ K)
  eo : ∀ d t b, (d, t, b) ∈ g.oc.eo → ErC K (He.ga K d) ∧ PySem.W.kitOne K (.ref (He.ga K d)) (.ref (He.ga K t)) = some b ∧ mg t = some (.ref (He.ga K t))
  eb : ∀ d t b, (d, t, b) ∈ g.oc.eb → ErC K (He.ga K d) ∧ PySem.W.kitOne K (.ref (He.ga K d)) (.type t.ty) = some b
  ef : ∀ d f, (d, f) ∈ g.oc.ef → ErC K (He.ga K d) ∧ PySem.W.findIn K (.ref (He.ga K d)) f = some none
  hot : ∀ q ∈ l, q.1.hot = true → q.1.top = true → mg q.2.name = some (.ref (q.2.at_ K))
  lamC : ∀ q ∈ l, q.1.lam = true → ∃ (c P : Addr), PySem.W.tabIn K q.1.name = some (c, P) ∧ ∀ fd qual params body scope dvs kws, FunD K q.2.name qual params body scope dvs kws (q.2.at_ K) fd → fd.code = .ref c
  ca : ∀ q ∈ g.ca, caB q = true ∧ q.d.name = q.x ∧ q.d.qual = q.x ∧ (∃ fd, FunD K q.d.name q.d.qual q.d.params q.d.body q.d.scope (q.d.dvs K) (q.d.kws K) (q.d.at_ K) fd) ∧ q.d.dfl = [] ∧ parB [q.act] q.d.params = true ∧ mg q.x = some (.ref (q.d.at_ K)) ∧ mg q.x1 = some (.ref (He.ga K q.x1)) ∧ mg q.x2 = some (.ref (He.ga K q.x2)) ∧
    mg q.x3 = some (.ref (He.ga K q.x3)) ∧ mg "repr" = none ∧ ∀ d, q.cm.lookup d = some true → PySem.W.exmAny K (.ref (He.ga K d)) [.ref (He.ga K q.x1), .ref (He.ga K q.x2), .ref (He.ga K q.x3)] = some true
  er : ∀ d f key, (d, f, key) ∈ g.oc.er → mg d = some (.ref (He.ga K d)) ∧ L2.OexC K (He.ga K d) ∧ PySem.W.findIn K (.ref (He.ga K d)) f = some none ∧
    ∀ q ∈ l, q.1.name = key → PySem.W.findIn K (.ref (He.ga K d)) "__init__" = some (some (.ref (q.2.at_ K))) ∧ PySem.W.typeIn K (.ref (q.2.at_ K)) = some (.type "function")
theorem Gk.tail {K : PySem.W.Frag} {mg : Str → Option Value} {g : Gt} {q : Dn × He5.DefA} {l : Ld} (h : Gk K mg g (q :: l)) : Gk K mg g l where
  bl := h.bl
  gc := h.gc
  gl := h.gl
  fn := fun q hq => h.fn q (List.mem_cons_of_mem _ hq)
  top := fun q hq => h.top q (List.mem_cons_of_mem _ hq)
  cs := h.cs
  fl := h.fl
  pr := fun d f key z => ⟨(h.pr d f key z).1, fun q hq => (h.pr d f key z).2 q (List.mem_cons_of_mem _ hq)⟩
  eq := fun d key z => let ⟨a, b, c, e⟩ := h.eq d key z; ⟨a, b, c, fun q hq => e q (List.mem_cons_of_mem _ hq)⟩
  st := fun d key z q hq => h.st d key z q (List.mem_cons_of_mem _ hq)
  rp := fun d key z q hq => h.rp d key z q (List.mem_cons_of_mem _ hq)
  mk_ := fun d key rest z => ⟨(h.mk_ d key rest z).1, fun q hq => (h.mk_ d key rest z).2 q (List.mem_cons_of_mem _ hq)⟩
  eo := h.eo
  eb := h.eb
  ef := h.ef
  hot := fun q hq => h.hot q (List.mem_cons_of_mem _ hq)
  lamC := fun q hq => h.lamC q (List.mem_cons_of_mem _ hq)
  ca := h.ca
  er := fun d f key z => let ⟨a, b, c, e⟩ := h.er d f key z; ⟨a, b, c, fun q hq => e q (List.mem_cons_of_mem _ hq)⟩
/-- a def of the table keeps its promise -/
def FnT (P : Program) (w : World) (K : PySem.W.Frag) (mg : Str → Option Value) (base : Heap) (T : Tab) (k : Nat) (q : Dn × He5.DefA) : Prop :=
  ∃ fd : FuncData, FunD K q.2.name q.2.qual q.2.params q.2.body q.2.scope [] (q.2.kws K) (q.2.at_ K) fd ∧ parB q.1.ps q.2.params = true ∧ match q.1.exi with
    | some (c, f) => FnOk P w K mg base (L2.CX P w) k (q.2.at_ K) fd q.1.ps (spX (He.ga K c) f)
    | none => match q.1.init with
    | none => if q.1.hot = true then FnW P w K mg base (L2.CX P w) k (q.2.at_ K) fd q.1.ps (spF K q.1.ps.length (T q.1.name)) else FnG P w K mg base (L2.CX P w) k (q.2.at_ K) fd q.1.ps (spF K q.1.ps.length (T q.1.name))
    | some (c, _) => ∃ R : List Ev.P → Option (List (Str × Nat)), T q.1.name = (fun us S => lift (makeP R c (q.1.ps.length - 1) us) S) ∧ FnG P w K mg base (L2.CX P w) k (q.2.at_ K) fd q.1.ps (spI K (He.ga K c) (q.1.ps.length - 1) q.1.N R)
theorem ar_mem : ∀ {l : Ld} {f : Str} {n : Nat}, (arOf (l.map (·.1))).lookup f = some n → ∃ q ∈ l, q.1.plain = true ∧ q.1.name = f ∧ q.1.ps.length = n
  | [], f, n, e => by simp [arOf] at e
  | (d, e0) :: l, f, n, e => by
    have e : List.lookup f (if d.plain = true then (d.name, d.ps.length) :: arOf (l.map (·.1)) else arOf (l.map (·.1))) = some n := e
    split at e
    · rename_i ht
      rw [List.lookup_cons] at e
      split at e
      · rename_i hb
        cases e
        exact ⟨(d, e0), List.mem_cons_self, ht, (by simpa using hb : f = d.name).symm, rfl⟩
      · obtain ⟨q, hq, h⟩ := ar_mem e
        exact ⟨q, List.mem_cons_of_mem _ hq, h⟩
    · obtain ⟨q, hq, h⟩ := ar_mem e
      exact ⟨q, List.mem_cons_of_mem _ hq, h⟩
theorem tabOk_name {g : Gt} : ∀ {l : Ld}, tabOk g l = true → ∀ q ∈ l, q.1.plain = true → q.2.name = q.1.name
  | [], _, q, hq, _ => by simp at hq
  | (d, e) :: l, h, q, hq, ht => by
    unfold tabOk at h
    simp only [Bool.and_eq_true, Bool.or_eq_true, decide_eq_true_eq, Bool.not_eq_true'] at h
    rcases List.mem_cons.mp hq with z | z
    · subst z
      rcases h.2.1 with q | q
      · rw [show d.plain = true from ht] at q; cases q
      · exact q
    · exact tabOk_name h.2.2.2.2.2.2.2.2.2 q z ht
theorem tabOk_hot {g : Gt} : ∀ {l : Ld}, tabOk g l = true → ∀ q ∈ l, q.1.hot = true → q.1.top = true ∧ q.2.name = q.1.name
  | [], _, q, hq, _ => by simp at hq
  | (d, e) :: l, h, q, hq, ht => by
    unfold tabOk at h
    simp only [Bool.and_eq_true, Bool.or_eq_true, decide_eq_true_eq, Bool.not_eq_true'] at h
    obtain ⟨_, _, _, _, _, _, _, h8, _, h10⟩ := h
    rcases List.mem_cons.mp hq with z | z
    · subst z
      rcases h8 with q | q
      · rw [show d.hot = true from ht] at q; cases q
      · exact ⟨q.2.1, q.1⟩
    · exact tabOk_hot h10 q z ht
theorem hasM_mem {l : Ld} {key : Str} {n : Nat} (h : hasM (l.map (·.1)) key n = true) : ∃ q ∈ l, q.1.name = key ∧ q.1.ps.length = n ∧ q.1.init = none ∧ q.1.exi = none ∧ q.1.hot = false := by
  unfold hasM at h
  simp only [List.any_eq_true, List.mem_map, Bool.and_eq_true, decide_eq_true_eq, Option.isNone_iff_eq_none, Bool.not_eq_true'] at h
  obtain ⟨d, ⟨q, hq, rfl⟩, ⟨h1, h2⟩, ⟨h3, h4⟩, h5⟩ := h
  exact ⟨q, hq, h1, h2, h3, h4, h5⟩
section
variable {P : Program} {w : World} {K : PySem.W.Frag} {mg : Str → Option Value} {base : Heap} {g : Gt} {T : Tab} {k : Nat}
theorem FnT.plain {q : Dn × He5.DefA} (h : FnT P w K mg base T k q) (hi : q.1.init = none ∧ q.1.exi = none ∧ q.1.hot = false) : ∃ fd, FunD K q.2.name q.2.qual q.2.params q.2.body q.2.scope [] (q.2.kws K) (q.2.at_ K) fd ∧ parB q.1.ps q.2.params = true ∧ FnG P w K mg base (L2.CX P w) k (q.2.at_ K) fd q.1.ps (spF K q.1.ps.length (T q.1.name)) := by
  obtain ⟨fd, h1, h2, h3⟩ := h
  rw [hi.2.1, hi.1] at h3
  dsimp only at h3
  rw [if_neg (by rw [hi.2.2]; decide)] at h3
  exact ⟨fd, h1, h2, h3⟩
/-- what is known where a def's body stands -/
theorem kn_of {X : Cx} {E : XK} {l : Ld} {d : Dn} {sc : Scope} (G : Gk X.K X.mg g l) (hk : tabOk g l = true) (ih : ∀ q ∈ l, FnT X.prog X.w X.K X.mg X.base T k q) (hN : X.N = d.N) (hsc : X.env.scope = sc) (nd : d.N.Nodup) (hfn : ∀ x, X.fn x = true) (hc : X.calm = true) (hr : Room (k + 2) X.A) (hf : Free X.A)
    (tk : Takes X fun cls d _ H => E cls d H) (hl : d.lam = true → LmD X k) : Kn X E T (ctN g d sc (l.map (·.1))) k where
  hN := hN
  sc := hsc
  nd := nd
  fnc := fun _ => hfn
  calm := fun _ => hc
  roomH := L2H.roomH_of hr
  cool := fun _ => hr.hd
  emp := fun z => by cases z
  free := hf
  tk := tk
  bl := G.bl
  gc := G.gc
  ar := fun f n z => by
    obtain ⟨q, hq, ht, en, el⟩ := ar_mem z
    have hi : q.1.init = none ∧ q.1.exi = none ∧ q.1.hot = false := by
      unfold Dn.plain at ht
      simp only [Bool.and_eq_true, Option.isNone_iff_eq_none, Bool.not_eq_true'] at ht
      exact ⟨ht.1.2.1, ht.1.2.2, ht.2⟩
    obtain ⟨fd, k1, k2, k3⟩ := (ih q hq).plain hi
    subst en el
    have m := G.top q hq ht
    rw [tabOk_name hk q hq ht] at m
    exact ⟨_, fd, _, k3, m, k1.kp, binds_of k1 k2⟩
  gl := G.gl
  cs := fun x hx => by
    obtain ⟨h, m⟩ := G.cs x hx
    exact ⟨⟨h.cl, h.ha, h.hn, h.htk, h.hm, h.no, h.yes⟩, m, h.bo, h.le⟩
  fl := G.fl
  pr := fun d f key z => by
    obtain ⟨z1, z2⟩ := List.mem_filter.mp z
    obtain ⟨q, hq, en, el, hi⟩ := hasM_mem z2
    obtain ⟨c1, c2⟩ := G.pr d f key z1
    obtain ⟨p, hp⟩ := c2 q hq en
    obtain ⟨fd, k1, k2, k3⟩ := (ih q hq).plain hi
    rw [el, en] at k3
    exact ⟨c1, p, _, fd, _, hp, k3, binds_of k1 k2⟩
  eq := fun d key z => by
    obtain ⟨z1, z2⟩ := List.mem_filter.mp z
    obtain ⟨q, hq, en, el, hi⟩ := hasM_mem z2
    obtain ⟨c1, c2, c3, c4⟩ := G.eq d key z1
    obtain ⟨c5, c6⟩ := c4 q hq en
    obtain ⟨fd, k1, k2, k3⟩ := (ih q hq).plain hi
    rw [el, en] at k3
    exact ⟨⟨_, fd, _, c5, c6, k3, binds_of k1 k2⟩, c1, c2, c3⟩
  st := fun d key z => by
    obtain ⟨z1, z2⟩ := List.mem_filter.mp z
    obtain ⟨q, hq, en, el, hi⟩ := hasM_mem z2
    obtain ⟨c5, c6⟩ := G.st d key z1 q hq en
    obtain ⟨fd, k1, k2, k3⟩ := (ih q hq).plain hi
    rw [el, en] at k3
    exact ⟨_, fd, _, c5, c6, k3, binds_of k1 k2⟩
  rp := fun d key z => by
    obtain ⟨z1, z2⟩ := List.mem_filter.mp z
    obtain ⟨q, hq, en, el, hi⟩ := hasM_mem z2
    obtain ⟨c5, c6⟩ := G.rp d key z1 q hq en
    obtain ⟨fd, k1, k2, k3⟩ := (ih q hq).plain hi
    rw [el, en] at k3
    exact ⟨_, fd, _, c5, c6, k3, binds_of k1 k2⟩
  mk_ := fun d key rest z => by
    obtain ⟨z1, z2⟩ := List.mem_filter.mp z
    simp only [List.any_eq_true, List.mem_map, Bool.and_eq_true, decide_eq_true_eq, Option.isNone_iff_eq_none] at z2
    obtain ⟨dn, ⟨q, hq, rfl⟩, ⟨y1, y2, y3, y4⟩, y5⟩ := z2
    obtain ⟨m, c1⟩ := G.mk_ d key rest z1
    obtain ⟨fd, k1, k2, k3⟩ := ih q hq
    obtain ⟨⟨c, st⟩, ei, ec⟩ := Option.map_eq_some_iff.mp y2
    have ec : c = d := ec
    subst ec
    rw [y5, ei] at k3
    obtain ⟨R, e1, e2⟩ := k3
    have el : q.1.ps.length - 1 = rest.length := by omega
    obtain ⟨self, ep⟩ : ∃ self, q.1.ps = self :: rest := by
      cases hp : q.1.ps with
      | nil => rw [hp] at y4; simp at y4
      | cons a b => rw [hp] at y3; exact ⟨a, by rw [← y3]; rfl⟩
    rw [el] at e1 e2
    rw [ep] at e2 k2
    rw [y1] at e1
    exact ⟨m, _, fd, self, q.1.N, R, _, _, _, _, _, _, c1 q hq y1, e2, k1, k2, e1⟩
  kf := fun f ps z => by
    obtain ⟨dn, z1, z2⟩ := List.mem_map.mp z
    obtain ⟨z3, z4⟩ := List.mem_filter.mp z1
    obtain ⟨q, hq, rfl⟩ := List.mem_map.mp z3
    have hi : q.1.init = none ∧ q.1.exi = none ∧ q.1.hot = false := by
      unfold Dn.plain at z4
      simp only [Bool.and_eq_true, Option.isNone_iff_eq_none, Bool.not_eq_true'] at z4
      exact ⟨z4.1.2.1, z4.1.2.2, z4.2⟩
    obtain ⟨fd, k1, k2, k3⟩ := (ih q hq).plain hi
    cases z2
    have m := G.top q hq z4
    rw [tabOk_name hk q hq z4] at m
    exact ⟨_, fd, _, _, _, _, _, _, k3, k1, k2, m⟩
  eo := G.eo
  eb := G.eb
  ef := G.ef
  er := fun d f key z => by
    obtain ⟨z1, z2⟩ := List.mem_filter.mp z
    simp only [List.any_eq_true, List.mem_map, decide_eq_true_eq] at z2
    obtain ⟨dn, ⟨q, hq, rfl⟩, y1, y2⟩ := z2
    obtain ⟨m, c1, c2, c3⟩ := G.er d f key z1
    obtain ⟨fd, k1, k2, k3⟩ := ih q hq
    rw [y2] at k3
    obtain ⟨c4, c5⟩ := c3 q hq y1
    exact ⟨m, c1, _, fd, _, c4, c5, k3, binds_of k1 k2⟩
  lam := hl
  ca := fun x srt cm z => by
    obtain ⟨q, z1, z2⟩ := List.mem_map.mp z
    obtain ⟨z3, z4⟩ := List.mem_filter.mp z1
    simp only [List.any_eq_true, List.mem_map, Bool.and_eq_true, decide_eq_true_eq, Option.isNone_iff_eq_none] at z4
    obtain ⟨dn, ⟨p, hp, rfl⟩, ⟨y1, y2, y3⟩, y4, y5⟩ := z4
    cases z2
    obtain ⟨b1, b2, b3, ⟨fd, b4⟩, b5, b6, b7, b8, b9, b10, b11, b12⟩ := G.ca q z3
    obtain ⟨fdS, k1, k2, k3⟩ := ih p hp
    rw [y5, y4] at k3
    dsimp only at k3
    rw [if_pos y3, y2, y1] at k3
    have dv : q.d.dvs X.K = [] := by unfold He5.DefA.dvs; rw [b5]; rfl
    rw [dv, b2, b3] at b4
    have mt := G.hot p hp y3 (tabOk_hot hk p hp y3).1
    rw [(tabOk_hot hk p hp y3).2, y1] at mt
    exact ⟨q.act, q.gave, q.err, q.x1, q.x2, q.x3, _, _, _, _, _, fd, fdS, _, _, _, _, _, b7, b4, b6, caB_ok b1, b8, b9, b10, mt, b11, k3, k1.kp, binds_of k1 k2, b12⟩
/-- what is known where a def's body stands that may be called where an error is held -/
theorem kn_hot {X : Cx} {E : XK} {l : Ld} {d : Dn} {sc : Scope} (G : Gk X.K X.mg g l) (hN : X.N = d.N) (hsc : X.env.scope = sc) (nd : d.N.Nodup) (hfn : ∀ x, X.fn x = true) (hr : L2H.RoomH (k + 2) X.A) (hf : Free X.A)
    (tk : Takes X fun cls d _ H => E cls d H) : Kn X E T (ctH g d sc) k where
  hN := hN
  sc := hsc
  nd := nd
  fnc := fun _ => hfn
  calm := fun z => by cases z
  roomH := hr
  cool := fun z => by cases z
  emp := fun _ => ⟨rfl, rfl, rfl, rfl, rfl, rfl, rfl, rfl⟩
  free := hf
  tk := tk
  bl := G.bl
  gc := fun z => by cases z
  ar := fun f n z => by cases z
  gl := G.gl
  cs := fun x hx => absurd hx (by simp [ctH])
  fl := fun d f z => absurd z (by simp [ctH])
  pr := fun d f key z => absurd z (by simp [ctH])
  eq := fun d key z => absurd z (by simp [ctH])
  st := fun d key z => absurd z (by simp [ctH])
  rp := fun d key z => absurd z (by simp [ctH])
  mk_ := fun d key rest z => absurd z (by simp [ctH])
  kf := fun f ps z => absurd z (by simp [ctH])
  eo := G.eo
  eb := G.eb
  ef := G.ef
  lam := fun z => by cases z
  ca := fun x srt cm z => absurd z (by simp [ctH])
  er := fun d f key z => absurd z (by simp [ctH])
end
theorem tabOf_head {l : Ld} {d : Dn} {e : He5.DefA} : tabOf (((d, e) :: l).map (·.1)) d.name = (match d.init with
    | none => fDef d.N.length (dS (tabOf (l.map (·.1))) d.body)
    | some (c, st) => fun us S => lift (makeP (initR (tabOf (l.map (·.1))) (d.ps.length - 1) d.N.length st) c (d.ps.length - 1) us) S) := by
  show (if d.name = d.name then _ else _) = _
  rw [if_pos rfl]
/-- what is known where the maker of lambdas stands -/
theorem lm_of {P : Program} {w : World} {K : PySem.W.Frag} {mg : Str → Option Value} {base : Heap} {N : List Str} {nm qual : Str} {scope : Scope} {f c Pt : Addr} {cdv : Value} {A : Around} {outer : List Env} {s : Shared} {H : Hp} {E : XK} {k : Nat}
    (TB : LamX.TabB base mg c Pt) (hc : cdv = .ref c) (ht : PySem.W.tabIn K nm = some (c, Pt)) (hq : qual = nm) (hn : lamNames = [nm]) (hr : Room (k + 4) (A.deeper (envOfC qual scope s.heap.objs.size f cdv))) :
    LmD (cxOf (L2.CX P w) P w K mg base N qual scope f cdv A outer s H E) k := by
  have et : tbK K = [(Pt, nm ++ ".<locals>." ++ "<lambda>")] := by
    unfold tbK
    rw [hn]
    simp only [List.filterMap_cons, ht, Option.map_some, List.filterMap_nil]
  have eq : (cxOf (L2.CX P w) P w K mg base N qual scope f cdv A outer s H E).env.qual ++ ("<lambda>" : Str) = nm ++ ".<locals>." ++ "<lambda>" := by
    show (qual ++ ".<locals>.") ++ ("<lambda>" : Str) = _
    rw [hq]
  refine ⟨hr, c, Pt, TB, hc, ?_, fun p hp e => ?_⟩
  · rw [eq]
    show _ ∈ tbK K
    rw [et]
    exact List.mem_singleton.mpr rfl
  · rw [eq]
    have hp : p ∈ tbK K := hp
    rw [et] at hp
    rw [List.mem_singleton.mp hp]
/-- what the checked table of a module gives -/
theorem tab_ok {P : Program} {w : World} {K : PySem.W.Frag} {mg : Str → Option Value} {base : Heap} {g : Gt} (TB : ∀ x ∈ lamNames, ∀ q, PySem.W.tabIn K x = some q → LamX.TabB base mg q.1 q.2) : ∀ (l : Ld), Gk K mg g l → tabOk g l = true →
    ∀ q ∈ l, FnT P w K mg base (tabOf (l.map (·.1))) (lev l) q
  | [], _, _, q, hq => by simp at hq
  | (d, e) :: l, G, hk, q, hq => by
    have hk0 := hk
    unfold tabOk at hk
    simp only [Bool.and_eq_true, decide_eq_true_eq, List.isEmpty_iff] at hk
    obtain ⟨h0, h1, h2, h3, h4, h5, hlm, hht, h6, h7⟩ := hk
    have ih := tab_ok (P := P) (w := w) (base := base) TB l G.tail h7
    have hlev : lev l + (if d.lam = true then 4 else 2) + 1 = lev ((d, e) :: l) := by
      show _ = lev l + (if d.lam = true then 5 else 3)
      split <;> omega
    rcases List.mem_cons.mp hq with hq | hq
    · subst hq
      obtain ⟨fd, F⟩ := G.fn _ List.mem_cons_self
      have hd : e.dvs K = [] := by unfold He5.DefA.dvs; rw [h2]; rfl
      have F : FunD K e.name e.qual e.params e.body e.scope [] (e.kws K) (e.at_ K) fd := by rw [← hd]; exact F
      refine ⟨fd, F, h4, ?_⟩
      rw [tabOf_head]
      unfold bodyOk at h6
      cases hx : d.exi with
      | some cf =>
        obtain ⟨c, f⟩ := cf
        rw [hx] at h6
        dsimp only at h6 ⊢
        unfold exiOk at h6
        simp only [Bool.and_eq_true, decide_eq_true_eq] at h6
        obtain ⟨h8, h9⟩ := h6
        obtain ⟨m, c1, c2, c3⟩ := G.er c f d.name h8
        split at h9
        · rename_i s p1 f' p2 y p3 p4 s' y' eb ep
          simp only [Bool.and_eq_true, decide_eq_true_eq, Bool.not_eq_true'] at h9
          obtain ⟨⟨rfl, rfl, rfl, n0, n1⟩, d1, d2, d3, d4⟩ := h9
          rw [eb] at F
          have sc := scB_ok h5
          rw [ep] at sc ⊢
          exact (fn_xinit (mg := mg) (base := base) (k := lev l + (if d.lam = true then 4 else 2)) F sc n0 n1 d1 d2 d3 d4 c1 c2).mono (by omega)
        · cases h9
      | none =>
      rw [hx] at h6
      dsimp only at h6 ⊢
      cases hot : d.hot with
      | true =>
        rw [hot] at hht
        simp only [Bool.not_true, Bool.false_or, Bool.and_eq_true, decide_eq_true_eq, Option.isNone_iff_eq_none] at hht
        obtain ⟨_, _, hi, _⟩ := hht
        rw [hi] at h6 ⊢
        dsimp only at h6 ⊢
        rw [if_pos rfl]
        have ct : ctOf g d e.scope (l.map (·.1)) = ctH g d e.scope := by unfold ctOf; rw [if_pos hot]
        rw [ct] at h6
        refine (fn_evW (P := P) (w := w) (mg := mg) (base := base) (k := lev l + (if d.lam = true then 4 else 2)) F (scB_ok h5) fun cdv A outer s H E hr hfr => ?_).mono (by omega)
        exact ss_ok (kn_hot (k := lev l) (X := cxW (L2.CX P w) P w K mg base d.N e.qual e.scope (e.at_ K) cdv A outer s H E) G.tail rfl rfl (scB_ok h5).nd (fun _ => rfl) (L2H.RoomH.mono hr (by split <;> omega)) hfr (L2.takes_of rfl rfl rfl rfl)) (L2.passes_of rfl) d.body e.body h6
      | false =>
      have kn : ∀ (cdv : Value) (A : Around) (outer : List Env) (s : Shared) (H : Hp) (E : XK), fd.code = cdv → Room (lev l + (if d.lam = true then 4 else 2)) (A.deeper (envOfC e.qual e.scope s.heap.objs.size (e.at_ K) cdv)) → Free (A.deeper (envOfC e.qual e.scope s.heap.objs.size (e.at_ K) cdv)) →
          Kn (cxOf (L2.CX P w) P w K mg base d.N e.qual e.scope (e.at_ K) cdv A outer s H E) E (tabOf (l.map (·.1))) (ctN g d e.scope (l.map (·.1))) (lev l) := fun cdv A outer s H E hcd hr hfr =>
        kn_of (X := cxOf (L2.CX P w) P w K mg base d.N e.qual e.scope (e.at_ K) cdv A outer s H E) G.tail h7 ih rfl rfl (scB_ok h5).nd (fun _ => rfl) rfl (hr.mono (by split <;> omega)) hfr (L2.takes_of rfl rfl rfl rfl) fun hl => by
          rw [hl] at hlm
          simp only [Bool.not_true, Bool.false_or, Bool.and_eq_true, decide_eq_true_eq] at hlm
          obtain ⟨⟨q1, q2⟩, _⟩ := hlm
          obtain ⟨c, Pt, t1, t2⟩ := G.lamC _ List.mem_cons_self hl
          rw [if_pos hl] at hr
          exact lm_of (TB _ (by rw [q2]; exact List.mem_singleton.mpr rfl) _ t1) (by rw [← hcd]; exact t2 _ _ _ _ _ _ _ F) t1 q1 q2 hr
      have ct : ctOf g d e.scope (l.map (·.1)) = ctN g d e.scope (l.map (·.1)) := by unfold ctOf; rw [if_neg (by rw [hot]; decide)]
      cases hi : d.init with
      | none =>
        rw [hi] at h6
        dsimp only at h6 ⊢
        rw [if_neg (by decide)]
        rw [ct] at h6
        have := fn_ev (P := P) (w := w) (mg := mg) (base := base) F (scB_ok h5) fun cdv A outer s H E hcd hr hfr => ss_ok (kn cdv A outer s H E hcd hr hfr) (L2.passes_of rfl) d.body e.body h6
        exact this.mono (by omega)
      | some cs =>
        obtain ⟨c, st⟩ := cs
        rw [hi] at h6
        simp only [Bool.and_eq_true, decide_eq_true_eq, List.all_eq_true] at h6
        obtain ⟨⟨h8, hcs⟩, h9, h10⟩ := h6
        rw [ct] at h9
        have hf : ∀ f i, Is1.fld f i ∈ st → Cls K (He.ga K c) ∧ NoAttr K (He.ga K c) f ∧ 1 ≤ i ∧ i ≤ d.ps.length - 1 := fun f i z => by
          have := h10 _ z
          simp only [decide_eq_true_eq] at this
          exact ⟨(G.fl c f this.1).1, (G.fl c f this.1).2, this.2⟩
        refine ⟨_, rfl, ?_⟩
        exact (fn_init F (scB_ok h5) (by omega) (G.cs c hcs).1.cl h9 (fun f i z => (hf f i z).2) kn).mono (by omega)
    · obtain ⟨fd, k1, k2, k3⟩ := ih q hq
      refine ⟨fd, k1, k2, ?_⟩
      have hf : q.1.name ≠ d.name := fun z => h0 (by rw [← z]; exact List.mem_map_of_mem (f := fun q => q.1.name) hq)
      have et : tabOf (((d, e) :: l).map (·.1)) q.1.name = tabOf (l.map (·.1)) q.1.name := by
        show (if q.1.name = d.name then _ else _) = _
        rw [if_neg hf]
      rw [et]
      have hlev : lev l ≤ lev ((d, e) :: l) := by omega
      cases hx : q.1.exi with
      | some cf =>
        rw [hx] at k3
        exact k3.mono hlev
      | none =>
      rw [hx] at k3
      dsimp only at k3 ⊢
      cases hi : q.1.init with
      | none =>
        rw [hi] at k3
        dsimp only at k3 ⊢
        split at k3
        · rename_i ht
          rw [if_pos ht]; exact k3.mono hlev
        · rename_i ht
          rw [if_neg ht]; exact k3.mono hlev
      | some cs =>
        rw [hi] at k3
        obtain ⟨R, e1, e2⟩ := k3
        exact ⟨R, e1, e2.mono hlev⟩
end Ev
end
section
set_option Elab.async false
set_option linter.all false
set_option maxRecDepth 100000
set_option maxHeartbeats 2000000
/-! the end of a law's row, from a promise for calls where no repr is under way -/
namespace Ev
open PySem PySem.Spec PyProof.Rows L2
/-- the script lies in the heap, or in the written part: a heap of what is followed -/
theorem script_heap {P : Program} {w : World} {K : PySem.W.Frag} {s₁ : Shared} {a : Addr} {vs : List Value} {ns : List Int} (KX : K.In s₁.heap) (ha : s₁.heap.get? a = some { cls := .type "list", data := .seq vs.toArray }) (rv : Vals (ns.map V.int) vs) (hl : ns.length ≤ sizeLine) :
    ∃ H : Hp, Only H ∧ SqL K H a (ns.map V.int) ∧ HOk P w H s₁.heap ∧ (∀ b, H b ≠ none → b = a) ∧ (H a ≠ none → K.lookup a = none) := by
  have lenV := rv.length
  rw [List.length_map] at lenV
  cases hk : K.lookup a with
  | some o =>
    have e := KX a o hk
    rw [ha] at e
    cases e
    exact ⟨fun _ => none, fun _ => .inl rfl, .inr ⟨_, vs.toArray, _, hk, rfl, rfl, rfl, by rw [List.size_toArray, ← lenV]; exact hl, by simpa using rv⟩, fun b u z => absurd (show (none : Option HO) = some u from z) (by simp), fun b z => absurd rfl z, fun z => absurd rfl z⟩
  | none =>
    refine ⟨fun b => if b = a then some (.frz { cls := .type "list", data := .seq vs.toArray } (.lst (ns.map V.int))) else none, fun b => ?_, .inl (.inr ⟨{ cls := .type "list", data := .seq vs.toArray }, if_pos rfl⟩), fun b u z => ?_, fun b z => ?_, fun _ => rfl⟩
    · by_cases hb : b = a
      · exact .inr ⟨_, _, if_pos hb⟩
      · exact .inl (if_neg hb)
    · by_cases hb : b = a
      · have z' := (if_pos hb).symm.trans z
        cases z'
        subst hb
        exact ⟨ha, by rw [List.length_map]; exact hl, vs, _, rv, ha⟩
      · cases (if_neg hb).symm.trans z
    · exact Classical.byContradiction fun hb => z (if_neg hb)
theorem law_callG {P : Program} {w : World} {K : PySem.W.Frag} {mg mb : Str → Option Value} {CX : CXT} {k : Nat} {fa a : Addr} {fd : FuncData} {x : Str} {sp : Sp} {s₁ : Shared} {vs : List Value} {ns : List Int}
    (KX : K.In s₁.heap) (hns : s₁.heap.Ns mainGlobals mg) (hb : s₁.heap.Ns builtinsNs mb) (hbb : ∀ x : Str, x ≠ "__name__" → mb x = bootBuiltins x) (hlim : s₁.heap.NoLimit) (hg : s₁.gens = #[])
    (ha : s₁.heap.get? a = some { cls := .type "list", data := .seq vs.toArray }) (hi : IntsAre vs ns) (hl : ns.length ≤ sizeLine) (hr : Room k callerA)
    (F : ∀ base : Heap, K.In base → base.Ns mainGlobals mg → FnG P w K mg base CX k fa fd [x] sp) (hbind : ∀ (s : Shared) (u : Value), BindsTo s fd ⟨[u], []⟩ [(x, u)])
    (hsp : ∀ H : Hp, Only H → SqL K H a (ns.map V.int) → sp [.ref a] H (fun v _ => v = .bl true) fun _ _ _ => False)
    (hCX : ∀ H e s', CX [] H s₁ (fun _ _ _ => False) e s' → False) :
    codeAny (model P w) callerA (.call (.ref fa) ⟨[.ref a], []⟩) (fun r s' => r = .ok (.ret (.bool true)) ∧ OldK s₁.heap s'.heap ∧ s'.os = s₁.os ∧ AllBare s'.gens) s₁ := by
  obtain ⟨H, hO, hS, hok, hA, hK⟩ := script_heap (P := P) (w := w) KX ha (vals_ints hi) hl
  have notA : ∀ {b : Addr} {o : Obj}, s₁.heap.get? b = some o → b ≠ a → (hidT s₁.heap H).get? b = some o := fun {b o} e n => hidT_get e (Classical.byContradiction fun q => n (hA b q))
  have noDict : ∀ {b : Addr} {o : Obj} {es : Array DictEntry} {ep : Nat}, s₁.heap.get? b = some o → o.data = .dict es ep → b ≠ a := fun {b o es ep} e d z => by
    subst z
    rw [ha] at e
    cases e
    cases (show Data.seq vs.toArray _ = Data.dict es ep from d)
  have nsK : ∀ {b : Addr} {m : Str → Option Value}, s₁.heap.Ns b m → (hidT s₁.heap H).Ns b m := fun {b m} ⟨o, es, ep, e, d, r⟩ => ⟨o, es, ep, notA e (noDict e d), d, r⟩
  have hKb : K.In (hidT s₁.heap H) := fun b o e => hidT_get (KX b o e) (Classical.byContradiction fun q => by
    have z := hA b q
    subst z
    rw [hK q] at e
    cases e)
  have hM : Mod K mg (hidT s₁.heap H) := ⟨hKb, nsK hns, ⟨mb, nsK hb, hbb⟩, let ⟨mc, h1, h2⟩ := hlim; ⟨mc, nsK h1, h2⟩⟩
  have e0 : Env0 P w K mg (hidT s₁.heap H) callerA [] s₁ H := ⟨rfl, hM, fun b o e => of_hidT e, Nat.le_of_eq (hidT_size _ _), trivial, fun b hb => absurd (show b ∈ ([] : List Addr) from hb) (by simp), hok, .of_eq hg⟩
  refine codeAny_mono ((F _ hKb (nsK hns)).run callerA [] s₁ H ⟨[.ref a], []⟩ [.ref a] [.ref a] _ _ hr rfl e0 (hbind s₁ (.ref a)) (.cons rfl .nil) (hsp H hO hS)) fun r s' h => ?_
  cases r with
  | error e => exact (hCX H e s' h).elim
  | ok fl =>
    cases fl with
    | next => exact False.elim h
    | brk => exact False.elim h
    | cont => exact False.elim h
    | ret u =>
      obtain ⟨v, H', os, bare, un, hok', r', q⟩ := h
      cases (show v = .bl true from q)
      obtain rfl : u = Value.bool true := r'
      refine ⟨rfl, OldK.of_keep fun b o e => ?_, os, bare⟩
      rcases hO b with z | ⟨ob, xs, z⟩
      · exact un.keep b o e z (by intro q; exact absurd (show b ∈ ([] : List Addr) from q) (by simp)) (by simp)
      · obtain ⟨e1, _⟩ := hok b _ z
        obtain ⟨e2, _⟩ := hok' b _ (un.frzs b ob _ z)
        rw [e] at e1
        cases e1
        exact e2
/-- with empty tables of code objects besides the script -/
def withT (ts : List Addr) (H : Hp) : Hp := fun b => if b ∈ ts then some (.tbl #[]) else H b
theorem withT_in {ts : List Addr} {H : Hp} {b : Addr} (h : b ∈ ts) : withT ts H b = some (.tbl #[]) := if_pos h
theorem withT_out {ts : List Addr} {H : Hp} {b : Addr} (h : b ∉ ts) : withT ts H b = H b := if_neg h
/-- what the head leaves of makers of lambdas: code objects and their tables -/
structure TabF (P : Program) (K : PySem.W.Frag) (h : Heap) (cs : List (Addr × Addr)) : Prop where
  tab : ∀ p ∈ cs, h.get? p.2 = some (PySem.W.tabObj #[])
  out : ∀ p ∈ cs, K.lookup p.2 = none
  code : ∀ p ∈ cs, PySem.W.CodeHd h p.1 p.2
theorem law_callT {P : Program} {w : World} {K : PySem.W.Frag} {mg mb : Str → Option Value} {CX : CXT} {k : Nat} {fa a : Addr} {cs : List (Addr × Addr)} {fd : FuncData} {x : Str} {sp : Sp} {s₁ : Shared} {vs : List Value} {ns : List Int}
    (KX : K.In s₁.heap) (hns : s₁.heap.Ns mainGlobals mg) (hb : s₁.heap.Ns builtinsNs mb) (hbb : ∀ x : Str, x ≠ "__name__" → mb x = bootBuiltins x) (hlim : s₁.heap.NoLimit) (hg : s₁.gens = #[]) (Tf : TabF P K s₁.heap cs)
    (bmain : ∃ (bm : Addr) (ob : Obj), mg "__builtins__" = some (.ref bm) ∧ bm ≠ builtinsNs ∧ s₁.heap.get? bm = some ob ∧ ob.cls = .type "module" ∧ ob.dict = some builtinsNs ∧ ob.data = .plain)
    (ha : s₁.heap.get? a = some { cls := .type "list", data := .seq vs.toArray }) (hi : IntsAre vs ns) (hl : ns.length ≤ sizeLine) (hr : Room k callerA)
    (F : ∀ base : Heap, K.In base → base.Ns mainGlobals mg → (∀ p ∈ cs, LamX.TabB base mg p.1 p.2) → FnG P w K mg base CX k fa fd [x] sp) (hbind : ∀ (s : Shared) (u : Value), BindsTo s fd ⟨[u], []⟩ [(x, u)])
    (hsp : ∀ H : Hp, (∀ p ∈ cs, H p.2 = some (.tbl #[])) → SqL K H a (ns.map V.int) → sp [.ref a] H (fun v _ => v = .bl true) fun _ _ _ => False)
    (hCX : ∀ H e s', CX [] H s₁ (fun _ _ _ => False) e s' → False) :
    codeAny (model P w) callerA (.call (.ref fa) ⟨[.ref a], []⟩) (fun r s' => r = .ok (.ret (.bool true)) ∧ OldK s₁.heap s'.heap ∧ s'.os = s₁.os ∧ AllBare s'.gens) s₁ := by
  obtain ⟨H0, hO, hS, hok, hA, hK⟩ := script_heap (P := P) (w := w) KX ha (vals_ints hi) hl
  have isT : ∀ b ∈ cs.map (·.2), s₁.heap.get? b = some (PySem.W.tabObj #[]) := fun b hb => by
    obtain ⟨p, hp, rfl⟩ := List.mem_map.mp hb
    exact Tf.tab p hp
  have aT : a ∉ cs.map (·.2) := fun z => by
    have q := isT a z
    rw [ha] at q
    cases congrArg Obj.data (Option.some.inj q)
  have n0 : ∀ b, b ≠ a → H0 b = none := fun b hb => Classical.byContradiction fun z => hb (hA b z)
  have hS1 : SqL K (withT (cs.map (·.2)) H0) a (ns.map V.int) := sqL_ext (fun b o e => by
    have eb : b = a := hA b (by rw [e]; simp)
    subst eb
    rw [withT_out aT]; exact e) hS
  have ok1 : HOk P w (withT (cs.map (·.2)) H0) s₁.heap := fun b u e => by
    by_cases hb : b ∈ cs.map (·.2)
    · rw [withT_in hb] at e
      cases e
      exact isT b hb
    · rw [withT_out hb] at e
      rcases hO b with z | ⟨o, xs, z⟩
      · rw [e] at z; cases z
      · rw [e] at z
        cases z
        exact hok b _ e
  -- what is seen of the written part
  have see : ∀ {b : Addr} {o : Obj}, s₁.heap.get? b = some o → b ≠ a → b ∉ cs.map (·.2) → (hidT s₁.heap (withT (cs.map (·.2)) H0)).get? b = some o := fun {b o} e h1 h2 => hidT_get e (by rw [withT_out h2]; exact n0 b h1)
  have apart : ∀ {b : Addr} {o : Obj}, s₁.heap.get? b = some o → (∀ vs n, o.data ≠ .seq vs n) → o.data ≠ .fields #[] → b ≠ a ∧ b ∉ cs.map (·.2) := fun {b o} e h1 h2 => ⟨fun z => by
      rw [z, ha] at e
      cases e
      exact h1 _ _ rfl, fun z => by
      rw [isT b z] at e
      cases e
      exact h2 rfl⟩
  have seen : ∀ {b : Addr} {o : Obj}, s₁.heap.get? b = some o → (∀ vs n, o.data ≠ .seq vs n) → o.data ≠ .fields #[] → (hidT s₁.heap (withT (cs.map (·.2)) H0)).get? b = some o := fun {b o} e h1 h2 => see e (apart e h1 h2).1 (apart e h1 h2).2
  have dict : ∀ {b : Addr} {o : Obj} {es : Array DictEntry} {ep : Nat}, s₁.heap.get? b = some o → o.data = .dict es ep → (hidT s₁.heap (withT (cs.map (·.2)) H0)).get? b = some o := fun {b o es ep} e d => seen e (fun _ _ z => by rw [d] at z; cases z) fun z => by rw [d] at z; cases z
  have nsK : ∀ {b : Addr} {m : Str → Option Value}, s₁.heap.Ns b m → (hidT s₁.heap (withT (cs.map (·.2)) H0)).Ns b m := fun {b m} ⟨o, es, ep, e, d, r⟩ => ⟨o, es, ep, dict e d, d, r⟩
  have hKb : K.In (hidT s₁.heap (withT (cs.map (·.2)) H0)) := fun b o e => by
    have nt : b ∉ cs.map (·.2) := fun z => by
      obtain ⟨p, hp, rfl⟩ := List.mem_map.mp z
      rw [Tf.out p hp] at e
      cases e
    refine hidT_get (KX b o e) ?_
    rw [withT_out nt]
    exact Classical.byContradiction fun q => by
      have z := hA b q
      subst z
      rw [hK q] at e
      cases e
  have hM : Mod K mg (hidT s₁.heap (withT (cs.map (·.2)) H0)) := ⟨hKb, nsK hns, ⟨mb, nsK hb, hbb⟩, let ⟨mc, h1, h2⟩ := hlim; ⟨mc, nsK h1, h2⟩⟩
  have TB : ∀ p ∈ cs, LamX.TabB (hidT s₁.heap (withT (cs.map (·.2)) H0)) mg p.1 p.2 := fun p hp => by
    have pT := Tf.tab p hp
    refine ⟨?_, ?_, fun z => ?_⟩
    · obtain ⟨o, us, file, tf, fl, tg, b1, n1, tt, e1, r1, r2, r3, r⟩ := Tf.code p hp
      exact ⟨o, us, file, tf, fl, tg, b1, n1, tt, seen e1 (fun _ _ z => by rw [r2] at z; cases z) (fun z => by rw [r2] at z; cases z; simp at r3), r1, r2, r3, r⟩
    · obtain ⟨bm, ob, b1, b2, b3, b4, b5, b6⟩ := bmain
      refine ⟨bm, ob, b1, b2, fun q => ?_, fun q => ?_, seen b3 (fun _ _ z => by rw [b6] at z; cases z) (fun z => by rw [b6] at z; cases z), b4, b5, b6⟩
      · obtain ⟨o, es, ep, e, hd, _⟩ := hns
        rw [q, e] at b3
        cases b3
        rw [hd] at b6
        cases b6
      · rw [q, pT] at b3
        cases b3
        cases b6
    · obtain ⟨o, es, ep, e, hd, _⟩ := hns
      rw [z, pT] at e
      cases e
      cases hd
  have e0 : Env0 P w K mg (hidT s₁.heap (withT (cs.map (·.2)) H0)) callerA [] s₁ (withT (cs.map (·.2)) H0) := ⟨rfl, hM, fun b o e => of_hidT e, Nat.le_of_eq (hidT_size _ _), trivial, fun b hb => absurd (show b ∈ ([] : List Addr) from hb) (by simp), ok1, .of_eq hg⟩
  refine codeAny_mono ((F _ hKb (nsK hns) TB).run callerA [] s₁ _ ⟨[.ref a], []⟩ [.ref a] [.ref a] _ _ hr rfl e0 (hbind s₁ (.ref a)) (.cons rfl .nil) (hsp _ (fun p hp => withT_in (List.mem_map_of_mem hp)) hS1)) fun r s' h => ?_
  cases r with
  | error e => exact (hCX _ e s' h).elim
  | ok fl =>
    cases fl with
    | next => exact False.elim h
    | brk => exact False.elim h
    | cont => exact False.elim h
    | ret u =>
      obtain ⟨v, H', os, bare, un, hok', r', q⟩ := h
      cases (show v = .bl true from q)
      obtain rfl : u = Value.bool true := r'
      have same : ∀ b o, b ∉ cs.map (·.2) → s₁.heap.get? b = some o → s'.heap.get? b = some o := fun b o nb e => by
        rcases hO b with z | ⟨ob, xs, z⟩
        · exact un.keep b o e (by rw [withT_out nb]; exact z) (by intro q; exact absurd (show b ∈ ([] : List Addr) from q) (by simp)) (by simp)
        · obtain ⟨e1, _⟩ := hok b _ z
          obtain ⟨e2, _⟩ := hok' b _ (un.frzs b ob _ (by rw [withT_out nb]; exact z))
          rw [e] at e1
          cases e1
          exact e2
      have more : ∀ p ∈ cs, ∃ ps : Array Value, s'.heap.get? p.2 = some { cls := .none, data := .fields ps } := fun p hp => by
        obtain ⟨ps, z⟩ := un.tbls p.2 #[] (withT_in (List.mem_map_of_mem hp))
        exact ⟨_, hok' p.2 _ z⟩
      refine ⟨rfl, ⟨fun b o e => ?_, fun b o e => ?_⟩, os, bare⟩
      · by_cases hb : b ∈ cs.map (·.2)
        · obtain ⟨p, hp, rfl⟩ := List.mem_map.mp hb
          obtain ⟨ps, z⟩ := more p hp
          rw [Tf.tab p hp] at e
          cases e
          exact .inr (.inl ⟨((Tf.code p hp).tab (Tf.tab p hp)).isCodeTable, rfl, #[], ps, rfl, by rw [Array.empty_append]; exact z⟩)
        · exact .inl (same b o hb e)
      · by_cases hb : b ∈ cs.map (·.2)
        · obtain ⟨p, hp, rfl⟩ := List.mem_map.mp hb
          obtain ⟨ps, z⟩ := more p hp
          exact ⟨_, z⟩
        · exact ⟨o, same b o hb e⟩
/-- a law whose defs may make lambdas -/
theorem walk_ofT {l : PySem.W.OpenLaw} {n k : Nat} {q : Program} {loose : List Str} {XP : (Str → Option Value) → Heap → Prop} {YP : World → Heap → Prop} {d : DefRec} {CX : World → CXT} {x : Str}
    (hn : l.most = some n) (hn2 : n ≤ sizeLine) (hdf : d.params.defaults = []) (hr : Room k callerA)
    (F : ∀ (w : World) (mg : Str → Option Value) (fa : Addr) (h : Heap), YP w h → h.Ns mainGlobals mg → mg d.name = some (.ref fa) →
      ∃ (K : PySem.W.Frag) (fd : FuncData) (cs : List (Addr × Addr)) (sp : Sp), K.In h ∧ TabF l.prog K h cs ∧ (∀ (s : Shared) (u : Value), BindsTo s fd ⟨[u], []⟩ [(x, u)]) ∧
        (∀ (H : Hp) (a : Addr) (ns : List Int), ns.length ≤ n → (∀ z ∈ ns, Builtin.Int.intBits z ≤ 1048576) → (∀ p ∈ cs, H p.2 = some (.tbl #[])) → SqL K H a (ns.map V.int) → sp [.ref a] H (fun v _ => v = .bl true) fun _ _ _ => False) ∧
        ∀ base : Heap, K.In base → base.Ns mainGlobals mg → (∀ p ∈ cs, LamX.TabB base mg p.1 p.2) → FnG l.prog w K mg base (CX w) k fa fd [x] sp)
    (hCX : ∀ (w : World) (H : Hp) (s : Shared) (e : Value) (s' : Shared), CX w [] H s (fun _ _ _ => False) e s' → False) :
    PySem.W.WalkO q loose XP YP l.row.toRowW d [] (fun f vs => PySem.call f vs) := by
  refine Att.attach_callB hn hdf fun w s₀ s₁ mg mb fa o pm cd doc a vs ns G Y ho hd hcd hmg hobj hints hlen hbits hg => ?_
  obtain ⟨K, fd, cs, sp, KX, Tf, hb, hsp, hF⟩ := F w mg fa _ Y G.T.g hmg
  exact law_callT KX G.T.g G.T.b G.T.builtins G.T.nolimit hg Tf G.T.bmain hobj hints (Nat.le_trans hlen hn2) hr hF hb (fun H hH hS => hsp H a ns hlen hbits hH hS) fun H e s' => hCX w H s₁ e s'
/-- a law: the written part, the function object, the promise over every base -/
theorem walk_ofG {l : PySem.W.OpenLaw} {n k : Nat} {q : Program} {loose : List Str} {XP : (Str → Option Value) → Heap → Prop} {YP : World → Heap → Prop} {d : DefRec} {CX : World → CXT} {x : Str}
    (hn : l.most = some n) (hn2 : n ≤ sizeLine) (hdf : d.params.defaults = []) (hr : Room k callerA)
    (F : ∀ (w : World) (mg : Str → Option Value) (fa : Addr) (h : Heap), YP w h → h.Ns mainGlobals mg → mg d.name = some (.ref fa) →
      ∃ (K : PySem.W.Frag) (fd : FuncData) (sp : Sp), K.In h ∧ (∀ (s : Shared) (u : Value), BindsTo s fd ⟨[u], []⟩ [(x, u)]) ∧
        (∀ (H : Hp) (a : Addr) (ns : List Int), ns.length ≤ n → (∀ z ∈ ns, Builtin.Int.intBits z ≤ 1048576) → Only H → SqL K H a (ns.map V.int) → sp [.ref a] H (fun v _ => v = .bl true) fun _ _ _ => False) ∧
        ∀ base : Heap, K.In base → base.Ns mainGlobals mg → FnG l.prog w K mg base (CX w) k fa fd [x] sp)
    (hCX : ∀ (w : World) (H : Hp) (s : Shared) (e : Value) (s' : Shared), CX w [] H s (fun _ _ _ => False) e s' → False) :
    PySem.W.WalkO q loose XP YP l.row.toRowW d [] (fun f vs => PySem.call f vs) := by
  refine Att.attach_callB hn hdf fun w s₀ s₁ mg mb fa o pm cd doc a vs ns G Y ho hd hcd hmg hobj hints hlen hbits hg => ?_
  obtain ⟨K, fd, sp, KX, hb, hsp, hF⟩ := F w mg fa _ Y G.T.g hmg
  exact law_callG KX G.T.g G.T.b G.T.builtins G.T.nolimit hg hobj hints (Nat.le_trans hlen hn2) hr hF hb (fun H hO hS => hsp H a ns hlen hbits hO hS) fun H e s' => hCX w H s₁ e s'
end Ev
end
section
set_option Elab.async false
set_option linter.all false
set_option maxRecDepth 100000
set_option maxHeartbeats 2000000
/-! what the module's top leaves, read by a Hook; a law's end -/
namespace Ev
open PySem PySem.Spec PyProof.Rows L2
/-! ### constants -/
mutual
def cstK (K : PySem.W.Frag) : P → Value → Bool
  | .non, u => match u with
    | .none => true
    | _ => false
  | .bl b, u => match u with
    | .bool c => decide (b = c)
    | _ => false
  | .int i, u => match u with
    | .int j _ => decide (i = j)
    | _ => false
  | .str x, u => match u with
    | .str y _ => decide (x = y)
    | _ => false
  | .tup l, u => match u with
    | .ref a => (match K.lookup a with
      | some o => (match o.data with
        | .seq its _ => decide (o.cls = .type "tuple") && (decide (its.size ≤ 1000) && cstKs K l its.toList)
        | _ => false)
      | none => false)
    | _ => false
  | _, _ => false
def cstKs (K : PySem.W.Frag) : List P → List Value → Bool
  | [], us => match us with
    | [] => true
    | _ => false
  | p :: l, us => match us with
    | u :: us => cstK K p u && cstKs K l us
    | _ => false
end
mutual
theorem cstK_ok {K : PySem.W.Frag} : ∀ (p : P) (u : Value), cstK K p u = true → ∃ v, RelV v u ∧ ∀ G, Is K G p v
  | .non, u, h => by
    unfold cstK at h
    split at h
    · exact ⟨.non, rfl, fun G => .non⟩
    · cases h
  | .bl b, u, h => by
    unfold cstK at h
    split at h
    · simp only [decide_eq_true_eq] at h; subst h; exact ⟨.bl b, rfl, fun G => .bl b⟩
    · cases h
  | .int i, u, h => by
    unfold cstK at h
    split at h
    · simp only [decide_eq_true_eq] at h; subst h; exact ⟨.int i, ⟨_, rfl⟩, fun G => .int i⟩
    · cases h
  | .str x, u, h => by
    unfold cstK at h
    split at h
    · simp only [decide_eq_true_eq] at h; subst h; exact ⟨.str x, ⟨_, rfl⟩, fun G => .str x⟩
    · cases h
  | .tup l, u, h => by
    unfold cstK at h
    split at h
    · rename_i a
      split at h
      · rename_i o e1
        split at h
        · rename_i its n e2
          simp only [Bool.and_eq_true, decide_eq_true_eq] at h
          obtain ⟨h1, h2, h3⟩ := h
          obtain ⟨xs, r, hx⟩ := cstKs_ok l _ h3
          exact ⟨.ref a, rfl, fun G => .tup (.inr ⟨o, its, n, e1, h1, e2, by rw [sizeLine_eq]; omega, r⟩) (hx G)⟩
        · cases h
      · cases h
    · cases h
  | .lst _, _, h => by unfold cstK at h; cases h
  | .scr _, _, h => by unfold cstK at h; cases h
  | .obj _ _, _, h => by unfold cstK at h; cases h
  | .emp, _, h => by unfold cstK at h; cases h
theorem cstKs_ok {K : PySem.W.Frag} : ∀ (l : List P) (us : List Value), cstKs K l us = true → ∃ xs, Vals xs us ∧ ∀ G, IsA K G l xs
  | [], us, h => by
    unfold cstKs at h
    split at h
    · exact ⟨[], .nil, fun G => .nil⟩
    · cases h
  | p :: l, us, h => by
    unfold cstKs at h
    split at h
    · simp only [Bool.and_eq_true] at h
      obtain ⟨v, r, hv⟩ := cstK_ok p _ h.1
      obtain ⟨xs, rs, hx⟩ := cstKs_ok l _ h.2
      exact ⟨v :: xs, .cons r rs, fun G => .cons (hv G) (hx G)⟩
    · cases h
end
/-! ### facts -/
def clsB (K : PySem.W.Frag) (c : Str) : Bool := (He.Fa.cls c).ok K
def isKB (K : PySem.W.Frag) (c : Str) : Bool := clsB K c && (He.eqO (PySem.W.findIn K (.ref (He.ga K c)) "__class__") (some (some (.builtin "object.__class__"))) && (He.eqO (PySem.W.specialIn K (.builtin "object.__class__") "__get__") (some (some (.builtin "getset_descriptor.__get__"))) &&
  (decide (PySem.W.takesIn K (.builtin "object.__class__") = some true) && (decide (PySem.W.mroIn K (He.ga K c) (.type "object") = some true) && ((tyNames.all fun n => decide (PySem.W.kitOne K (.type n) (.ref (He.ga K c)) = some false)) &&
    (decide (PySem.W.kitOne K (.ref (He.ga K c)) (.ref (He.ga K c)) = some true) && (He.eqO (PySem.W.findIn K (.ref (He.ga K c)) "__bool__") (some none) && He.eqO (PySem.W.findIn K (.ref (He.ga K c)) "__len__") (some none))))))))
theorem isKB_ok {K : PySem.W.Frag} {c : Str} (h : isKB K c = true) : IsK K c := by
  unfold isKB at h
  simp only [Bool.and_eq_true, decide_eq_true_eq, List.all_eq_true] at h
  obtain ⟨h1, h2, h3, h4, h5, h6, h7, h8, h9⟩ := h
  exact ⟨He.cls_ok h1, He.eqO_ok h2, He.eqO_ok h3, h4, h5, h6, h7, He.eqO_ok h8, He.eqO_ok h9⟩
def propB (K : PySem.W.Frag) (C : Addr) (f : Str) (g : Addr) : Bool := match PySem.W.findIn K (.ref C) f with
  | some (some (.ref p)) => He.eqO (PySem.W.specialIn K (.ref p) "__get__") (some (some (.builtin "property.__get__"))) && (decide (PySem.W.takesIn K (.ref p) = some true) && (match PySem.W.recIn K p "property" with
    | some (.ref g' :: _) => decide (g' = g)
    | _ => false))
  | _ => false
theorem propB_ok {K : PySem.W.Frag} {C : Addr} {f : Str} {g : Addr} (h : propB K C f g = true) : ∃ p, PropOf K C f p g := by
  unfold propB at h
  split at h
  · rename_i p e
    simp only [Bool.and_eq_true, decide_eq_true_eq] at h
    obtain ⟨h1, h2, h3⟩ := h
    split at h3
    · rename_i g' rest e2
      have h3 : g' = g := of_decide_eq_true h3
      subst h3
      exact ⟨p, e, He.eqO_ok h1, h2, rest, e2⟩
    · cases h3
  · cases h
def atB (l : List (Dn × He5.DefA)) (key : Str) (f : Dn × He5.DefA → Bool) : Bool := l.all fun q => !decide (q.1.name = key) || f q
theorem atB_ok {l : List (Dn × He5.DefA)} {key : Str} {f : Dn × He5.DefA → Bool} (h : atB l key f = true) : ∀ q ∈ l, q.1.name = key → f q = true := fun q hq e => by
  unfold atB at h
  have := List.all_eq_true.mp h q hq
  simpa [e] using this
def dunB (K : PySem.W.Frag) (d m : Str) (q : Dn × He5.DefA) : Bool := He.eqO (PySem.W.findIn K (.ref (He.ga K d)) m) (some (some (.ref (q.2.at_ K)))) && PySem.W.isFn K (.ref (q.2.at_ K))
def ocB (o : Oc) (l : List (Dn × He5.DefA)) (K : PySem.W.Frag) : Bool :=
  (o.cs.all fun x => isKB K x && He.eqO (PySem.W.nsIn K mainGlobals x) (some (some (.ref (He.ga K x))))) && ((o.fl.all fun q => clsB K q.1 && He.eqO (PySem.W.findIn K (.ref (He.ga K q.1)) q.2) (some none)) &&
  ((o.pr.all fun q => clsB K q.1 && atB l q.2.2 fun e => propB K (He.ga K q.1) q.2.1 (e.2.at_ K)) &&
  ((o.eq.all fun q => (tyNames.all fun n => PySem.W.notFirst K (He.ga K q.1) (.type n)) && (He.eqO (PySem.W.findIn K (.ref (He.ga K q.1)) "__ne__") (some (some (.builtin "object.__ne__"))) && (decide (PySem.W.mroIn K (He.ga K q.1) (.type "object") = some true) && atB l q.2 (dunB K q.1 "__eq__")))) &&
  ((o.st.all fun q => atB l q.2 (dunB K q.1 "__str__")) && ((o.rp.all fun q => atB l q.2 (dunB K q.1 "__repr__")) &&
  ((o.mk_.all fun q => He.eqO (PySem.W.nsIn K mainGlobals q.1) (some (some (.ref (He.ga K q.1)))) && atB l q.2.1 fun e => PySem.W.makesIn K (He.ga K q.1) && (dunB K q.1 "__init__" e && PySem.W.keepIn K (.ref (He.ga K q.1)))) &&
  o.er.all fun q => He.eqO (PySem.W.nsIn K mainGlobals q.1) (some (some (.ref (He.ga K q.1)))) && (oexB K (He.ga K q.1) && (He.eqO (PySem.W.findIn K (.ref (He.ga K q.1)) q.2.1) (some none) && atB l q.2.2 fun e => He.eqO (PySem.W.findIn K (.ref (He.ga K q.1)) "__init__") (some (some (.ref (e.2.at_ K)))) && decide (PySem.W.typeIn K (.ref (e.2.at_ K)) = some (.type "function"))))))))))
def ocX (o : Oc) (K : PySem.W.Frag) : Bool := (o.eo.all fun q => erCB K (He.ga K q.1) && (decide (PySem.W.kitOne K (.ref (He.ga K q.1)) (.ref (He.ga K q.2.1)) = some q.2.2) && He.eqO (PySem.W.nsIn K mainGlobals q.2.1) (some (some (.ref (He.ga K q.2.1)))))) &&
  ((o.eb.all fun q => erCB K (He.ga K q.1) && decide (PySem.W.kitOne K (.ref (He.ga K q.1)) (.type q.2.1.ty) = some q.2.2)) && (o.ef.all fun q => erCB K (He.ga K q.1) && He.eqO (PySem.W.findIn K (.ref (He.ga K q.1)) q.2) (some none)))
def gtB (g : Gt) (l : Ld) (K : PySem.W.Frag) : Bool :=
  (g.bl.all fun x => He.eqO (PySem.W.nsIn K mainGlobals x) (some none)) && ((!g.gc || He.eqO (PySem.W.nsIn K mainGlobals "gcd") (some (some (.builtin "math.gcd")))) &&
    ((g.gl.all fun q => match PySem.W.nsIn K mainGlobals q.1 with
      | some (some u) => cstK K q.2 u
      | _ => false) && l.all fun q => (!q.1.plain && !(q.1.hot && q.1.top)) || He.eqO (PySem.W.nsIn K mainGlobals q.2.name) (some (some (.ref (q.2.at_ K))))))
/-- the code object of a maker of lambdas, and its table -/
def lamB (K : PySem.W.Frag) (q : Dn × He5.DefA) : Bool := !q.1.lam || (match PySem.W.tabIn K q.1.name, K.lookup (q.2.at_ K) with
  | some (c, _), some ⟨_, _, .func fd, _⟩ => (match fd.code with
    | .ref c' => decide (c' = c)
    | _ => false)
  | _, _ => false)
/-- what is asked of a def that catches -/
def caKB (K : PySem.W.Frag) (q : CaG) : Bool := caB q && (decide (q.d.name = q.x ∧ q.d.qual = q.x) && (q.d.dfl.isEmpty && (parB [q.act] q.d.params && (q.d.ok K && (He.eqO (PySem.W.nsIn K mainGlobals q.x) (some (some (.ref (q.d.at_ K)))) && (He.eqO (PySem.W.nsIn K mainGlobals q.x1) (some (some (.ref (He.ga K q.x1)))) &&
  (He.eqO (PySem.W.nsIn K mainGlobals q.x2) (some (some (.ref (He.ga K q.x2)))) && (He.eqO (PySem.W.nsIn K mainGlobals q.x3) (some (some (.ref (He.ga K q.x3)))) && (He.eqO (PySem.W.nsIn K mainGlobals "repr") (some none) &&
    q.cm.all fun z => !z.2 || decide (PySem.W.exmAny K (.ref (He.ga K z.1)) [.ref (He.ga K q.x1), .ref (He.ga K q.x2), .ref (He.ga K q.x3)] = some true))))))))))
def obsE (g : Gt) (l : Ld) (ex : PySem.W.Frag → Bool) (K : PySem.W.Frag) : He.AlD := (gtB g l K && (ex K && (((ocX g.oc K && ocB g.oc l K) && l.all fun q => q.2.ok K) && (l.all (lamB K) && g.ca.all (caKB K)))), (l.map fun q => He5.fnA K (q.2.at_ K)) ++ g.ca.map fun q => He5.fnA K (q.d.at_ K))
def valE (g : Gt) (l : Ld) : He.AlD := (true, (l.map fun q => q.2.val) ++ g.ca.map fun q => q.d.val)
def SaysE (g : Gt) (l : Ld) (ex : PySem.W.Frag → Bool) (K : PySem.W.Frag) : Prop := obsE g l ex K = valE g l
def isTab0 : Option Obj → Bool
  | some ⟨.none, none, .fields vs, sl⟩ => vs.isEmpty && sl.isEmpty
  | _ => false
theorem isTab0_ok {o : Option Obj} (h : isTab0 o = true) : o = some (PySem.W.tabObj #[]) := by
  unfold isTab0 at h
  split at h
  · simp only [Bool.and_eq_true, Array.isEmpty_iff] at h
    obtain ⟨rfl, rfl⟩ := h
    rfl
  · cases h
/-- numbers, told by first ones and how many follow -/
def runsA : List (Nat × Nat) → List Nat
  | [] => []
  | (a, n) :: l => List.range' a n ++ runsA l
/-- the addresses that are looked at: no empty table among them -/
def asT (gt : Addr → Option Obj) (n : List (Nat × Nat)) : List Addr := (runsA n).filter fun a => !isTab0 (gt a)
def tabsB (gt : Addr → Option Obj) (K : PySem.W.Frag) : Bool := lamNames.all fun x => match PySem.W.tabIn K x with
  | some (c, P) => isTab0 (gt P) && PySem.W.codeHdIn K c P
  | none => true
def Tbs (K : PySem.W.Frag) (h : Heap) : Prop := ∀ x ∈ lamNames, ∀ q, PySem.W.tabIn K x = some q → h.get? q.2 = some (PySem.W.tabObj #[]) ∧ K.lookup q.2 = none ∧ PySem.W.codeHdIn K q.1 q.2 = true
theorem frG_mem {gt : Addr → Option Obj} {a : Addr} {o : Obj} : ∀ {as : List Addr}, (He.frG gt as).lookup a = some o → a ∈ as
  | [], h => by
    have h : List.lookup a ([] : List (Addr × Obj)) = some o := h
    cases h
  | b :: as, h => by
    unfold He.frG at h
    rw [List.filterMap_cons] at h
    cases e : gt b with
    | none =>
      rw [e] at h
      exact List.mem_cons_of_mem _ (frG_mem h)
    | some u =>
      rw [e] at h
      dsimp only [Option.map_some] at h
      rw [List.lookup_cons] at h
      split at h
      · rename_i q
        rw [eq_of_beq q]; exact List.mem_cons_self
      · exact List.mem_cons_of_mem _ (frG_mem h)
theorem tabs_of {gt : Addr → Option Obj} {n : List (Nat × Nat)} (h : tabsB gt (He.frG gt (asT gt n)) = true) : ∀ x ∈ lamNames, ∀ q, PySem.W.tabIn (He.frG gt (asT gt n)) x = some q → gt q.2 = some (PySem.W.tabObj #[]) ∧ (He.frG gt (asT gt n)).lookup q.2 = none ∧ PySem.W.codeHdIn (He.frG gt (asT gt n)) q.1 q.2 = true := fun x hx q e => by
  unfold tabsB at h
  have h1 := List.all_eq_true.mp h x hx
  rw [e] at h1
  dsimp only at h1
  rw [Bool.and_eq_true] at h1
  refine ⟨isTab0_ok h1.1, ?_, h1.2⟩
  cases el : (He.frG gt (asT gt n)).lookup q.2 with
  | none => rfl
  | some o =>
    have m := frG_mem el
    unfold asT at m
    rw [List.mem_filter, h1.1] at m
    cases m.2
def obsEG (n : List (Nat × Nat)) (g : Gt) (l : Ld) (ex : PySem.W.Frag → Bool) (gt : Addr → Option Obj) : He.AlD := ((obsE g l ex (He.frG gt (asT gt n))).1 && tabsB gt (He.frG gt (asT gt n)), (obsE g l ex (He.frG gt (asT gt n))).2)
def hookE (n : List (Nat × Nat)) (g : Gt) (l : Ld) (ex : PySem.W.Frag → Bool) : PySem.W.Hook where
  α := He.AlD
  obs := fun s => obsEG n g l ex s.heap.get?
  val := fun _ => valE g l
  says := fun _ h => ∃ K : PySem.W.Frag, K.In h ∧ SaysE g l ex K ∧ Tbs K h
  of := fun _ s e => by
    have e1 : (obsEG n g l ex s.heap.get?).1 = true := congrArg (fun z : He.AlD => z.1) e
    unfold obsEG at e1
    have e2 : (obsEG n g l ex s.heap.get?).2 = (valE g l).2 := congrArg (fun z : He.AlD => z.2) e
    rw [Bool.and_eq_true] at e1
    exact ⟨_, He.frG_in, Prod.ext e1.1 e2, tabs_of e1.2⟩
  keeps := fun _ _ _ ⟨K, hK, c, t⟩ k => ⟨K, PySem.W.Frag.In.keeps hK k, c, fun x hx q e => let ⟨a, b⟩ := t x hx q e; ⟨k _ _ a, b⟩⟩
theorem obsEG_eq {n : List (Nat × Nat)} {g : Gt} {l : Ld} {ex : PySem.W.Frag → Bool} {gt : Addr → Option Obj} {s : Shared} (h : ∀ a, gt a = s.heap.get? a) : obsEG n g l ex gt = (hookE n g l ex).obs s := by
  have e : gt = s.heap.get? := funext h
  rw [e] <;> rfl
theorem map_at {A B : Type} {f f' : A → B} : ∀ {l : List A}, l.map f = l.map f' → ∀ q ∈ l, f q = f' q
  | [], _, q, hq => by simp at hq
  | p :: l, h, q, hq => by
    rw [List.map_cons, List.map_cons] at h
    injection h with h1 h2
    rcases List.mem_cons.mp hq with z | z
    · rw [z]; exact h1
    · exact map_at h2 q z
theorem gk_of {K : PySem.W.Frag} {h : Heap} {mg : Str → Option Value} {g : Gt} {l : Ld} {ex : PySem.W.Frag → Bool} (X : K.In h) (G : h.Ns mainGlobals mg) (c : SaysE g l ex K) : Gk K mg g l ∧ ex K = true := by
  have c1 : (gtB g l K && (ex K && (((ocX g.oc K && ocB g.oc l K) && l.all fun q => q.2.ok K) && (l.all (lamB K) && g.ca.all (caKB K))))) = true := congrArg (fun z : He.AlD => z.1) c
  have c0 : ((l.map fun q => He5.fnA K (q.2.at_ K)) ++ g.ca.map fun q => He5.fnA K (q.d.at_ K)) = ((l.map fun q => q.2.val) ++ g.ca.map fun q => q.d.val) := congrArg (fun z : He.AlD => z.2) c
  obtain ⟨c2, c3⟩ := List.append_inj c0 (by simp)
  unfold gtB ocX ocB at c1
  simp only [Bool.and_eq_true, List.all_eq_true, Bool.or_eq_true, Bool.not_eq_true', decide_eq_true_eq] at c1
  obtain ⟨⟨b1, b2, b3, b4⟩, b5, ⟨⟨⟨o9, o10, o11⟩, o1, o2, o3, o4, o5, o6, o7, o8⟩, b6⟩, b7, b8⟩ := c1
  have dun : ∀ {d m : Str} {q : Dn × He5.DefA}, dunB K d m q = true → PySem.W.findIn K (.ref (He.ga K d)) m = some (some (.ref (q.2.at_ K))) ∧ PySem.W.isFn K (.ref (q.2.at_ K)) = true := fun {d m q} z => by
    unfold dunB at z
    rw [Bool.and_eq_true] at z
    exact ⟨He.eqO_ok z.1, z.2⟩
  refine ⟨⟨fun x hx => PySem.W.mg_none_of X G (He.eqO_ok (b1 x hx)), fun e => ?_, fun x p e => ?_, fun q hq => He5.DefA.funD (map_at c2 q hq) (b6 q hq), fun q hq ht => ?_, fun x hx => ?_, fun d f z => ?_, fun d f key z => ?_, fun d key z => ?_, fun d key z q hq e => ?_, fun d key z q hq e => ?_, fun d key rest z => ?_, fun d t b z => ?_, fun d t b z => ?_, fun d f z => ?_, fun q hq ht h2 => ?_, fun q hq hl => ?_, fun q hq => ?_, fun d f key z => ?_⟩, b5⟩
  · rcases b2 with z | z
    · rw [e] at z; cases z
    · exact PySem.W.mg_of X G (He.eqO_ok z)
  · obtain ⟨y, hm, hy⟩ : ∃ y, (y, p) ∈ g.gl ∧ y = x := by
      clear b3
      generalize g.gl = gl at e
      induction gl with
      | nil => cases e
      | cons z r ih =>
        rw [List.lookup_cons] at e
        split at e
        · rename_i hb
          cases e
          exact ⟨z.1, by simp, (by simpa using hb : x = z.1).symm⟩
        · obtain ⟨y, h1, h2⟩ := ih e
          exact ⟨y, List.mem_cons_of_mem _ h1, h2⟩
    subst hy
    have q := b3 (y, p) hm
    dsimp only at q
    split at q
    · rename_i u eu
      obtain ⟨v, r, hv⟩ := cstK_ok p u q
      exact ⟨v, u, PySem.W.mg_of X G eu, r, hv⟩
    · cases q
  · rcases b4 q hq with z | z
    · rw [ht] at z; cases z.1
    · exact PySem.W.mg_of X G (He.eqO_ok z)
  · exact ⟨isKB_ok (o1 x hx).1, PySem.W.mg_of X G (He.eqO_ok (o1 x hx).2)⟩
  · exact ⟨He.cls_ok (o2 _ z).1, He.eqO_ok (o2 _ z).2⟩
  · exact ⟨He.cls_ok (o3 _ z).1, fun q hq e => propB_ok (atB_ok (o3 _ z).2 q hq e)⟩
  · obtain ⟨z1, z2, z3, z4⟩ := o4 _ z
    exact ⟨z1, He.eqO_ok z2, z3, fun q hq e => dun (atB_ok z4 q hq e)⟩
  · exact dun (atB_ok (o5 _ z) q hq e)
  · exact dun (atB_ok (o6 _ z) q hq e)
  · obtain ⟨z1, z2⟩ := o7 _ z
    refine ⟨PySem.W.mg_of X G (He.eqO_ok z1), fun q hq e => ?_⟩
    have y := atB_ok z2 q hq e
    simp only [Bool.and_eq_true] at y
    obtain ⟨y1, y2, y3⟩ := y
    obtain ⟨y4, y5⟩ := dun y2
    exact ⟨y1, y4, y5, y3⟩
  · obtain ⟨z1, z2, z3⟩ := o9 _ z
    exact ⟨erCB_ok z1, z2, PySem.W.mg_of X G (He.eqO_ok z3)⟩
  · obtain ⟨z1, z2⟩ := o10 _ z
    exact ⟨erCB_ok z1, z2⟩
  · obtain ⟨z1, z2⟩ := o11 _ z
    exact ⟨erCB_ok z1, He.eqO_ok z2⟩
  · rcases b4 q hq with z | z
    · rw [ht, h2] at z
      simp at z
    · exact PySem.W.mg_of X G (He.eqO_ok z)
  · have z := b7 q hq
    unfold lamB at z
    rw [hl] at z
    simp only [Bool.not_true, Bool.false_or] at z
    split at z
    · rename_i c P oc od fd sl e1 e2
      split at z
      · rename_i c' e3
        have z : c' = c := of_decide_eq_true z
        subst z
        refine ⟨c', P, e1, fun fd2 qual params body scope dvs kws F => ?_⟩
        obtain ⟨_, _, _, _, _, _, _, _, _, _, rfl, lk, _⟩ := F.ex
        rw [e2] at lk
        cases lk
        exact e3
      · cases z
    · cases z
  · have z := b8 q hq
    unfold caKB at z
    simp only [Bool.and_eq_true, decide_eq_true_eq, List.isEmpty_iff, List.all_eq_true, Bool.or_eq_true, Bool.not_eq_true'] at z
    obtain ⟨z1, ⟨z2, z3⟩, z4, z5, z6, z7, z8, z9, z10, z11, z12⟩ := z
    refine ⟨z1, z2, z3, He5.DefA.funD (map_at c3 q hq) z6, z4, z5, PySem.W.mg_of X G (He.eqO_ok z7), PySem.W.mg_of X G (He.eqO_ok z8), PySem.W.mg_of X G (He.eqO_ok z9), PySem.W.mg_of X G (He.eqO_ok z10), PySem.W.mg_none_of X G (He.eqO_ok z11), fun d e => ?_⟩
    rcases z12 _ (lookup_mem e) with w | w
    · cases w
    · exact w
  · obtain ⟨z1, z2, z3, z4⟩ := o8 _ z
    refine ⟨PySem.W.mg_of X G (He.eqO_ok z1), oexB_ok z2, He.eqO_ok z3, fun q hq e => ?_⟩
    have y := atB_ok z4 q hq e
    simp only [Bool.and_eq_true, decide_eq_true_eq] at y
    exact ⟨He.eqO_ok y.1, y.2⟩
/-- as many turns as the i-th name's number, and one more -/
def fuelAt (i : Nat) : En → Sto → Nat := fun ρ _ => match ρ[i]? with
  | some (some (.p (.int b))) => b.natAbs + 1
  | _ => 0
/-- a property's getter -/
def getA (K : PySem.W.Frag) (C : Addr) (f : Str) : Addr := match PySem.W.findIn K (.ref C) f with
  | some (some (.ref p)) => (match PySem.W.recIn K p "property" with
    | some (.ref g :: _) => g
    | _ => 0)
  | _ => 0
/-! ### a law's end -/
/-- the script as data: what the law's def is handed -/
theorem script_is {K : PySem.W.Frag} {H : Hp} {a : Addr} {ns : List Int} (h : SqL K H a (ns.map V.int)) : Is K (hid [] H) (.scr ns) (.ref a) := by
  exact .scr (h.elim (fun r => .inl (r.elim (fun z => .inl (hid_out (by simp) z fun _ z => by cases z)) fun ⟨o, z⟩ => .inr ⟨o, hid_out (by simp) z fun _ z => by cases z⟩)) .inr)
/-- the law holds if what its def computes is True for every script -/
theorem law_says {K : PySem.W.Frag} {F : List U → Sto → M U} {n : Nat} (hF : ∀ ns : List Int, ns.length ≤ n → (∀ z ∈ ns, Builtin.Int.intBits z ≤ 1048576) → F [.p (.scr ns)] [] = some (.ok (.p (.bl true)) [])) (H : Hp) (a : Addr) (ns : List Int) (hn : ns.length ≤ n) (hz : ∀ z ∈ ns, Builtin.Int.intBits z ≤ 1048576)
    (hT : LamX.Tabs (tbK K) H) (hS : SqL K H a (ns.map V.int)) : spF K 1 F [.ref a] H (fun v _ => v = .bl true) fun _ _ _ => False := by
  refine ⟨[], [], [.p (.scr ns)], ⟨List.nodup_nil, rfl, fun n a l h => by simp at h, hT⟩, rfl, .cons (script_is hS) .nil, ?_⟩
  rw [hF ns hn hz]
  intro β H' af v hv
  cases hv
  rfl
/-- code objects and tables of the makers of lambdas -/
def csK (K : PySem.W.Frag) : List (Addr × Addr) := lamNames.filterMap fun x => PySem.W.tabIn K x
theorem tabF_of {P : Program} {K : PySem.W.Frag} {h : Heap} (X : K.In h) (t : Tbs K h) : TabF P K h (csK K) := by
  have key : ∀ p ∈ csK K, ∃ x ∈ lamNames, PySem.W.tabIn K x = some p := fun p hp => by
    obtain ⟨x, hx, e⟩ := List.mem_filterMap.mp hp
    exact ⟨x, hx, e⟩
  exact ⟨fun p hp => let ⟨x, hx, e⟩ := key p hp; (t x hx p e).1, fun p hp => let ⟨x, hx, e⟩ := key p hp; (t x hx p e).2.1, fun p hp => let ⟨x, hx, e⟩ := key p hp; PySem.W.codeHd_of_K X (t x hx p e).2.2⟩
theorem tabs0 {K : PySem.W.Frag} {H : Hp} (h : ∀ p ∈ csK K, H p.2 = some (.tbl #[])) : LamX.Tabs (tbK K) H := fun p hp => by
  obtain ⟨x, hx, e⟩ := List.mem_filterMap.mp hp
  obtain ⟨q, e1, rfl⟩ := Option.map_eq_some_iff.mp e
  exact LamX.TabS.nil (h q (List.mem_filterMap.mpr ⟨x, hx, e1⟩))
end Ev
end
section
set_option Elab.async false
set_option linter.all false
set_option maxRecDepth 100000
set_option maxHeartbeats 2000000
/-! what a module's top leaves, looked at piece by piece: each piece runs it anew, and needs less room -/
namespace Ev
open PySem PySem.Spec PyProof.Rows L2
def Got {A B : Type} (o : Option A) (f : A → B) (v : B) : Prop := o.map f = some v
theorem Got.get {A B : Type} {o : Option A} {f : A → B} {v : B} (h : Got o f v) : ∃ x, o = some x ∧ f x = v := by
  unfold Got at h
  cases o with
  | none => cases h
  | some x => exact ⟨x, rfl, Option.some.inj h⟩
theorem Got.at_ {A B : Type} {o : Option A} {f : A → B} {v : B} {x : A} (h : Got o f v) (e : o = some x) : f x = v := by
  subst e
  exact Option.some.inj h
theorem got_app {A B C : Type} {o : Option A} {f : A → B → C} {v : B → C} {l m : List B} (h1 : Got o (fun x => l.map (f x)) (l.map v)) (h2 : Got o (fun x => m.map (f x)) (m.map v)) : Got o (fun x => (l ++ m).map (f x)) ((l ++ m).map v) := by
  obtain ⟨x, e, h⟩ := h1.get
  have h3 := h2.at_ e
  subst e
  show some ((l ++ m).map (f x)) = some ((l ++ m).map v)
  rw [List.map_append, List.map_append, h, h3]
theorem got_all {A B : Type} {o : Option A} {f : A → B → Bool} {l m : List B} (h1 : Got o (fun x => l.all (f x)) true) (h2 : Got o (fun x => m.all (f x)) true) : Got o (fun x => (l ++ m).all (f x)) true := by
  obtain ⟨x, e, h⟩ := h1.get
  have h3 := h2.at_ e
  subst e
  show some ((l ++ m).all (f x)) = some true
  rw [List.all_append, h, h3]; rfl
noncomputable abbrev oR (r : PySem.W.OpenRow) (M : Nat) (w : World) := HandSHeadRun.wholeF (fun p => HandSHeadRun.stepQ (HandSHeadRun.denQ HandSHeadRun.tabQ) p w) HandSHeadRun.fenceQ M r.prog
abbrev frT (n : List (Nat × Nat)) (s : PySem.W.SharedT) : PySem.W.Frag := He.frG (HandSHeadRun.getT s) (asT (HandSHeadRun.getT s) n)
theorem run_of {r : PySem.W.OpenRow} {q : Program} {n : List (Nat × Nat)} {g : Gt} {l : Ld} {ex : PySem.W.Frag → Bool} {M : Nat} {loose : List Str} {w : World}
    (h1 : Got (oR r M w) (fun x => HandSHeadRun.looksF r.prog x.1.heap x.2.abs) true)
    (h2 : Got (oR r M w) (fun x => HandSHeadRun.seenQ q loose (importedModules r.prog.main.body) (fun s => PySem.W.xlAt q [] s && PySem.W.recOk r.records s) x.2.abs) (PySem.W.openGood q loose))
    (h3 : Got (oR r M w) (fun x => gtB g l (frT n x.2)) true)
    (h4 : Got (oR r M w) (fun x => ex (frT n x.2) && (ocX g.oc (frT n x.2) && ocB g.oc l (frT n x.2))) true)
    (h5 : Got (oR r M w) (fun x => l.all fun q => q.2.ok (frT n x.2)) true)
    (h6 : Got (oR r M w) (fun x => (l.all (lamB (frT n x.2)) && g.ca.all (caKB (frT n x.2))) && tabsB (HandSHeadRun.getT x.2) (frT n x.2)) true)
    (h7 : Got (oR r M w) (fun x => l.map fun q => He5.fnA (frT n x.2) (q.2.at_ (frT n x.2))) (l.map fun q => q.2.val))
    (h8 : Got (oR r M w) (fun x => g.ca.map fun q => He5.fnA (frT n x.2) (q.d.at_ (frT n x.2))) (g.ca.map fun q => q.d.val)) :
    HandSHeadRun.RunEqI r q (hookE n g l ex) (fun s => obsEG n g l ex (HandSHeadRun.getT s)) M loose w := by
  obtain ⟨x, e, k1⟩ := h1.get
  have k2 := h2.at_ e
  have k3 := h3.at_ e
  have k4 := h4.at_ e
  have k5 := h5.at_ e
  have k6 := h6.at_ e
  have k7 := h7.at_ e
  have k8 := h8.at_ e
  simp only [Bool.and_eq_true] at k3 k4 k5 k6
  obtain ⟨k41, k42, k43⟩ := k4
  obtain ⟨⟨k61, k62⟩, k63⟩ := k6
  unfold HandSHeadRun.RunEqI
  unfold oR at e
  rw [e]
  show some (_, _, _) = some (_, _, _)
  refine congrArg some (Prod.ext k1 (Prod.ext k2 ?_))
  show (_, _) = (_, _)
  refine Prod.ext ?_ ?_
  · show ((gtB g l (frT n x.2) && (ex (frT n x.2) && (((ocX g.oc (frT n x.2) && ocB g.oc l (frT n x.2)) && l.all fun q => q.2.ok (frT n x.2)) && (l.all (lamB (frT n x.2)) && g.ca.all (caKB (frT n x.2)))))) && tabsB (HandSHeadRun.getT x.2) (frT n x.2)) = true
    rw [k3, k41, k42, k43, k5, k61, k62, k63]; rfl
  · show ((l.map fun q => He5.fnA (frT n x.2) (q.2.at_ (frT n x.2))) ++ (g.ca.map fun q => He5.fnA (frT n x.2) (q.d.at_ (frT n x.2)))) = ((l.map fun q => q.2.val) ++ g.ca.map fun q => q.d.val)
    rw [k7, k8]
theorem Got.both {A B C : Type} {o : Option A} {f : A → B} {g : A → C} {v : B} {w : C} (h : Got o (fun x => (f x, g x)) (v, w)) : Got o f v ∧ Got o g w := by
  obtain ⟨x, e, k⟩ := h.get
  subst e
  exact ⟨congrArg some (congrArg Prod.fst k), congrArg some (congrArg Prod.snd k)⟩
theorem Got.and {A : Type} {o : Option A} {f g : A → Bool} (h : Got o (fun x => f x && g x) true) : Got o f true ∧ Got o g true := by
  obtain ⟨x, e, k⟩ := h.get
  subst e
  simp only [Bool.and_eq_true] at k
  exact ⟨congrArg some k.1, congrArg some k.2⟩
end Ev
end
section
set_option Elab.async false
set_option linter.all false
set_option maxRecDepth 100000
set_option maxHeartbeats 4000000
/-! what a text means depends on the defs alone whose names stand in it -/
namespace Ev
open PySem PySem.Spec PyProof.Rows L2
mutual
def uE (ok : Str → Bool) : Te → Bool
  | .var _ => true
  | .glo _ _ => true
  | .cst _ => true
  | .bin _ a b => uE ok a && uE ok b
  | .neg a => uE ok a
  | .cmp _ a b => uE ok a && uE ok b
  | .cmp2 _ _ a b c => uE ok a && (uE ok b && uE ok c)
  | .and_ l => uV ok l
  | .or_ l => uV ok l
  | .not_ a => uE ok a
  | .ite t a b => uT ok t && (uE ok a && uE ok b)
  | .blt _ l => uL ok l
  | .gcd l => uL ok l
  | .call f l => ok f && uL ok l
  | .tup l => uL ok l
  | .lst l => uL ok l
  | .cel l => uL ok l
  | .idx a b => uE ok a && uE ok b
  | .sli a b c => uE ok a && (uO ok b && uO ok c)
  | .comp _ _ _ i c a => uI ok i && (uC ok c && uE ok a)
  | .app o a => uE ok o && uE ok a
  | .isx _ _ a => uE ok a
  | .isb _ _ a => uE ok a
  | .erf _ _ a => uE ok a
  | .isi _ a => uE ok a
  | .repr l => uL ok l
  | .join o a => uE ok o && uE ok a
  | .fstr l => uF ok l
  | .fld _ _ a => uE ok a
  | .prop _ _ k a => ok k && uE ok a
  | .make _ k l => ok k && uL ok l
  | .makeK _ k _ _ l => ok k && uL ok l
  | .callK f _ _ l => ok f && uL ok l
  | .ocmp _ _ k a b => ok k && (uE ok a && uE ok b)
  | .ostr _ k a => ok k && uE ok a
  | .orepr _ k a => ok k && uE ok a
  | .isc _ a => uE ok a
  | .rev a => uE ok a
  | .emp => true
  | .addC a b => uE ok a && uE ok b
  | .lidx o a => uE ok o && uE ok a
  | .lcnt o a => uE ok o && uE ok a
  | .caught _ s _ a => ok s && uE ok a
def uF (ok : Str → Bool) : Tf → Bool
  | .nil => true
  | .txt _ l => uF ok l
  | .val a l => uE ok a && uF ok l
def uV (ok : Str → Bool) : Tv → Bool
  | .one a => uE ok a
  | .more a l => uE ok a && uV ok l
def uT (ok : Str → Bool) : Tt → Bool
  | .tru a => uE ok a
  | .cmp _ a b => uE ok a && uE ok b
  | .cmp2 _ _ a b c => uE ok a && (uE ok b && uE ok c)
  | .not_ t => uT ok t
  | .and_ l => uB ok l
  | .or_ l => uB ok l
  | .ocmp _ _ k a b => ok k && (uE ok a && uE ok b)
  | .otru _ a => uE ok a
def uB (ok : Str → Bool) : Tb → Bool
  | .one t => uT ok t
  | .more t l => uT ok t && uB ok l
def uL (ok : Str → Bool) : Tl → Bool
  | .nil => true
  | .cons a l => uE ok a && uL ok l
def uO (ok : Str → Bool) : To → Bool
  | .no => true
  | .so a => uE ok a
def uC (ok : Str → Bool) : Tc → Bool
  | .no => true
  | .so t => uT ok t
def uI (ok : Str → Bool) : Ti → Bool
  | .seq a => uE ok a
  | .rng1 l => uL ok l
  | .rng2 l => uL ok l
  | .zip l => uL ok l
  | .enum l => uL ok l
end
mutual
def u1 (ok : Str → Bool) : T1 → Bool
  | .pass => true
  | .brk => true
  | .cont => true
  | .ret a => uE ok a
  | .retN => true
  | .if_ t a b => uT ok t && (uS ok a && uS ok b)
  | .set _ a => uE ok a
  | .setK _ _ _ _ u c a => uI ok u && (uC ok c && uE ok a)
  | .asg _ a => uE ok a
  | .drop a => uE ok a
  | .par _ _ l => uL ok l
  | .for_ _ u b => uI ok u && uS ok b
  | .while_ _ t b => uT ok t && uS ok b
  | .skip => true
  | .setI o i a => uE ok o && (uE ok i && uE ok a)
  | .setIN o i _ a => uE ok o && (uE ok i && uE ok a)
  | .augI o i a => uE ok o && (uE ok i && uE ok a)
  | .raise_ _ _ a => uE ok a
def uS (ok : Str → Bool) : Ts → Bool
  | .nil => true
  | .cons a l => u1 ok a && uS ok l
end
mutual
theorem c_dE {T T' : Tab} {ok : Str → Bool} (e : ∀ x, ok x = true → T x = T' x) : ∀ (a : Te), uE ok a = true → dE T a = dE T' a
  | .var i, h => rfl
  | .glo x p, h => rfl
  | .cst p, h => rfl
  | .bin o a b, h => by
    simp only [uE, Bool.and_eq_true] at h
    obtain ⟨h0, h1⟩ := h
    simp only [dE, c_dE e a h0, c_dE e b h1]
  | .neg a, h => by
    have h0 : uE ok a = true := h
    simp only [dE, c_dE e a h0]
  | .cmp o a b, h => by
    simp only [uE, Bool.and_eq_true] at h
    obtain ⟨h0, h1⟩ := h
    simp only [dE, c_dE e a h0, c_dE e b h1]
  | .cmp2 o p a b c, h => by
    simp only [uE, Bool.and_eq_true] at h
    obtain ⟨h0, h1, h2⟩ := h
    simp only [dE, c_dE e a h0, c_dE e b h1, c_dE e c h2]
  | .and_ l, h => by
    have h0 : uV ok l = true := h
    simp only [dE, c_dAnd e l h0]
  | .or_ l, h => by
    have h0 : uV ok l = true := h
    simp only [dE, c_dOr e l h0]
  | .not_ a, h => by
    have h0 : uE ok a = true := h
    simp only [dE, c_dE e a h0]
  | .ite t a b, h => by
    simp only [uE, Bool.and_eq_true] at h
    obtain ⟨h0, h1, h2⟩ := h
    simp only [dE, c_dT e t h0, c_dE e a h1, c_dE e b h2]
  | .blt k l, h => by
    have h0 : uL ok l = true := h
    simp only [dE, c_dL e l h0]
  | .gcd l, h => by
    have h0 : uL ok l = true := h
    simp only [dE, c_dL e l h0]
  | .call f l, h => by
    simp only [uE, Bool.and_eq_true] at h
    obtain ⟨h0, h1⟩ := h
    simp only [dE, e f h0, c_dL e l h1]
  | .tup l, h => by
    have h0 : uL ok l = true := h
    simp only [dE, c_dL e l h0]
  | .lst l, h => by
    have h0 : uL ok l = true := h
    simp only [dE, c_dL e l h0]
  | .cel l, h => by
    have h0 : uL ok l = true := h
    simp only [dE, c_dL e l h0]
  | .idx a b, h => by
    simp only [uE, Bool.and_eq_true] at h
    obtain ⟨h0, h1⟩ := h
    simp only [dE, c_dE e a h0, c_dE e b h1]
  | .sli a b c, h => by
    simp only [uE, Bool.and_eq_true] at h
    obtain ⟨h0, h1, h2⟩ := h
    simp only [dE, c_dE e a h0, c_dO e b h1, c_dO e c h2]
  | .comp k w t i c a, h => by
    simp only [uE, Bool.and_eq_true] at h
    obtain ⟨h0, h1, h2⟩ := h
    simp only [dE, c_dI e i h0, c_dC e c h1, c_dE e a h2]
  | .app o a, h => by
    simp only [uE, Bool.and_eq_true] at h
    obtain ⟨h0, h1⟩ := h
    simp only [dE, c_dE e o h0, c_dE e a h1]
  | .isx t k a, h => by
    have h0 : uE ok a = true := h
    simp only [dE, c_dE e a h0]
  | .isb t k a, h => by
    have h0 : uE ok a = true := h
    simp only [dE, c_dE e a h0]
  | .erf f k a, h => by
    have h0 : uE ok a = true := h
    simp only [dE, c_dE e a h0]
  | .isi k a, h => by
    have h0 : uE ok a = true := h
    simp only [dE, c_dE e a h0]
  | .repr l, h => by
    have h0 : uL ok l = true := h
    simp only [dE, c_dL e l h0]
  | .join o a, h => by
    simp only [uE, Bool.and_eq_true] at h
    obtain ⟨h0, h1⟩ := h
    simp only [dE, c_dE e o h0, c_dE e a h1]
  | .fstr l, h => by
    have h0 : uF ok l = true := h
    simp only [dE, c_dF e l h0]
  | .fld d f a, h => by
    have h0 : uE ok a = true := h
    simp only [dE, c_dE e a h0]
  | .prop d f k a, h => by
    simp only [uE, Bool.and_eq_true] at h
    obtain ⟨h0, h1⟩ := h
    simp only [dE, e k h0, c_dE e a h1]
  | .make d k l, h => by
    simp only [uE, Bool.and_eq_true] at h
    obtain ⟨h0, h1⟩ := h
    simp only [dE, e k h0, c_dL e l h1]
  | .makeK d k s r l, h => by
    simp only [uE, Bool.and_eq_true] at h
    obtain ⟨h0, h1⟩ := h
    simp only [dE, e k h0, c_dL e l h1]
  | .callK f s p l, h => by
    simp only [uE, Bool.and_eq_true] at h
    obtain ⟨h0, h1⟩ := h
    simp only [dE, e f h0, c_dL e l h1]
  | .ocmp g d k a b, h => by
    simp only [uE, Bool.and_eq_true] at h
    obtain ⟨h0, h1, h2⟩ := h
    simp only [dE, e k h0, c_dE e a h1, c_dE e b h2]
  | .ostr d k a, h => by
    simp only [uE, Bool.and_eq_true] at h
    obtain ⟨h0, h1⟩ := h
    simp only [dE, e k h0, c_dE e a h1]
  | .orepr d k a, h => by
    simp only [uE, Bool.and_eq_true] at h
    obtain ⟨h0, h1⟩ := h
    simp only [dE, e k h0, c_dE e a h1]
  | .isc d a, h => by
    have h0 : uE ok a = true := h
    simp only [dE, c_dE e a h0]
  | .rev a, h => by
    have h0 : uE ok a = true := h
    simp only [dE, c_dE e a h0]
  | .emp, h => rfl
  | .addC a b, h => by
    simp only [uE, Bool.and_eq_true] at h
    obtain ⟨h0, h1⟩ := h
    simp only [dE, c_dE e a h0, c_dE e b h1]
  | .lidx o a, h => by
    simp only [uE, Bool.and_eq_true] at h
    obtain ⟨h0, h1⟩ := h
    simp only [dE, c_dE e o h0, c_dE e a h1]
  | .lcnt o a, h => by
    simp only [uE, Bool.and_eq_true] at h
    obtain ⟨h0, h1⟩ := h
    simp only [dE, c_dE e o h0, c_dE e a h1]
  | .caught x s m a, h => by
    simp only [uE, Bool.and_eq_true] at h
    obtain ⟨h0, h1⟩ := h
    simp only [dE, e s h0, c_dE e a h1]
theorem c_dF {T T' : Tab} {ok : Str → Bool} (e : ∀ x, ok x = true → T x = T' x) : ∀ (a : Tf), uF ok a = true → dF T a = dF T' a
  | .nil, h => rfl
  | .txt s l, h => by
    have h0 : uF ok l = true := h
    simp only [dF, c_dF e l h0]
  | .val a l, h => by
    simp only [uF, Bool.and_eq_true] at h
    obtain ⟨h0, h1⟩ := h
    simp only [dF, c_dE e a h0, c_dF e l h1]
theorem c_dAnd {T T' : Tab} {ok : Str → Bool} (e : ∀ x, ok x = true → T x = T' x) : ∀ (a : Tv), uV ok a = true → dAnd T a = dAnd T' a
  | .one a, h => by
    have h0 : uE ok a = true := h
    simp only [dAnd, c_dE e a h0]
  | .more a l, h => by
    simp only [uV, Bool.and_eq_true] at h
    obtain ⟨h0, h1⟩ := h
    simp only [dAnd, c_dE e a h0, c_dAnd e l h1]
theorem c_dOr {T T' : Tab} {ok : Str → Bool} (e : ∀ x, ok x = true → T x = T' x) : ∀ (a : Tv), uV ok a = true → dOr T a = dOr T' a
  | .one a, h => by
    have h0 : uE ok a = true := h
    simp only [dOr, c_dE e a h0]
  | .more a l, h => by
    simp only [uV, Bool.and_eq_true] at h
    obtain ⟨h0, h1⟩ := h
    simp only [dOr, c_dE e a h0, c_dOr e l h1]
theorem c_dT {T T' : Tab} {ok : Str → Bool} (e : ∀ x, ok x = true → T x = T' x) : ∀ (a : Tt), uT ok a = true → dT T a = dT T' a
  | .tru a, h => by
    have h0 : uE ok a = true := h
    simp only [dT, c_dE e a h0]
  | .cmp o a b, h => by
    simp only [uT, Bool.and_eq_true] at h
    obtain ⟨h0, h1⟩ := h
    simp only [dT, c_dE e a h0, c_dE e b h1]
  | .cmp2 o p a b c, h => by
    simp only [uT, Bool.and_eq_true] at h
    obtain ⟨h0, h1, h2⟩ := h
    simp only [dT, c_dE e a h0, c_dE e b h1, c_dE e c h2]
  | .not_ t, h => by
    have h0 : uT ok t = true := h
    simp only [dT, c_dT e t h0]
  | .and_ l, h => by
    have h0 : uB ok l = true := h
    simp only [dT, c_dAndT e l h0]
  | .or_ l, h => by
    have h0 : uB ok l = true := h
    simp only [dT, c_dOrT e l h0]
  | .ocmp g d k a b, h => by
    simp only [uT, Bool.and_eq_true] at h
    obtain ⟨h0, h1, h2⟩ := h
    simp only [dT, e k h0, c_dE e a h1, c_dE e b h2]
  | .otru d a, h => by
    have h0 : uE ok a = true := h
    simp only [dT, c_dE e a h0]
theorem c_dAndT {T T' : Tab} {ok : Str → Bool} (e : ∀ x, ok x = true → T x = T' x) : ∀ (a : Tb), uB ok a = true → dAndT T a = dAndT T' a
  | .one t, h => by
    have h0 : uT ok t = true := h
    simp only [dAndT, c_dT e t h0]
  | .more t l, h => by
    simp only [uB, Bool.and_eq_true] at h
    obtain ⟨h0, h1⟩ := h
    simp only [dAndT, c_dT e t h0, c_dAndT e l h1]
theorem c_dOrT {T T' : Tab} {ok : Str → Bool} (e : ∀ x, ok x = true → T x = T' x) : ∀ (a : Tb), uB ok a = true → dOrT T a = dOrT T' a
  | .one t, h => by
    have h0 : uT ok t = true := h
    simp only [dOrT, c_dT e t h0]
  | .more t l, h => by
    simp only [uB, Bool.and_eq_true] at h
    obtain ⟨h0, h1⟩ := h
    simp only [dOrT, c_dT e t h0, c_dOrT e l h1]
theorem c_dL {T T' : Tab} {ok : Str → Bool} (e : ∀ x, ok x = true → T x = T' x) : ∀ (a : Tl), uL ok a = true → dL T a = dL T' a
  | .nil, h => rfl
  | .cons a l, h => by
    simp only [uL, Bool.and_eq_true] at h
    obtain ⟨h0, h1⟩ := h
    simp only [dL, c_dE e a h0, c_dL e l h1]
theorem c_dO {T T' : Tab} {ok : Str → Bool} (e : ∀ x, ok x = true → T x = T' x) : ∀ (a : To), uO ok a = true → dO T a = dO T' a
  | .no, h => rfl
  | .so a, h => by
    have h0 : uE ok a = true := h
    simp only [dO, c_dE e a h0]
theorem c_dC {T T' : Tab} {ok : Str → Bool} (e : ∀ x, ok x = true → T x = T' x) : ∀ (a : Tc), uC ok a = true → dC T a = dC T' a
  | .no, h => rfl
  | .so t, h => by
    have h0 : uT ok t = true := h
    simp only [dC, c_dT e t h0]
theorem c_dI {T T' : Tab} {ok : Str → Bool} (e : ∀ x, ok x = true → T x = T' x) : ∀ (a : Ti), uI ok a = true → dI T a = dI T' a
  | .seq a, h => by
    have h0 : uE ok a = true := h
    simp only [dI, c_dE e a h0]
  | .rng1 l, h => by
    have h0 : uL ok l = true := h
    simp only [dI, c_dL e l h0]
  | .rng2 l, h => by
    have h0 : uL ok l = true := h
    simp only [dI, c_dL e l h0]
  | .zip l, h => by
    have h0 : uL ok l = true := h
    simp only [dI, c_dL e l h0]
  | .enum l, h => by
    have h0 : uL ok l = true := h
    simp only [dI, c_dL e l h0]
end
mutual
theorem c_d1 {T T' : Tab} {ok : Str → Bool} (e : ∀ x, ok x = true → T x = T' x) : ∀ (a : T1), u1 ok a = true → d1 T a = d1 T' a
  | .pass, h => rfl
  | .brk, h => rfl
  | .cont, h => rfl
  | .ret a, h => by
    have h0 : uE ok a = true := h
    simp only [d1, c_dE e a h0]
  | .retN, h => rfl
  | .if_ t a b, h => by
    simp only [u1, Bool.and_eq_true] at h
    obtain ⟨h0, h1, h2⟩ := h
    simp only [d1, c_dT e t h0, c_dS e a h1, c_dS e b h2]
  | .set i a, h => by
    have h0 : uE ok a = true := h
    simp only [d1, c_dE e a h0]
  | .setK i k w t u c a, h => by
    simp only [u1, Bool.and_eq_true] at h
    obtain ⟨h0, h1, h2⟩ := h
    simp only [d1, c_dI e u h0, c_dC e c h1, c_dE e a h2]
  | .asg t a, h => by
    have h0 : uE ok a = true := h
    simp only [d1, c_dE e a h0]
  | .drop a, h => by
    have h0 : uE ok a = true := h
    simp only [d1, c_dE e a h0]
  | .par i j l, h => by
    have h0 : uL ok l = true := h
    simp only [d1, c_dL e l h0]
  | .for_ t u b, h => by
    simp only [u1, Bool.and_eq_true] at h
    obtain ⟨h0, h1⟩ := h
    simp only [d1, c_dI e u h0, c_dS e b h1]
  | .while_ f t b, h => by
    simp only [u1, Bool.and_eq_true] at h
    obtain ⟨h0, h1⟩ := h
    simp only [d1, c_dT e t h0, c_dS e b h1]
  | .skip, h => rfl
  | .setI o i a, h => by
    simp only [u1, Bool.and_eq_true] at h
    obtain ⟨h0, h1, h2⟩ := h
    simp only [d1, c_dE e o h0, c_dE e i h1, c_dE e a h2]
  | .setIN o i j a, h => by
    simp only [u1, Bool.and_eq_true] at h
    obtain ⟨h0, h1, h2⟩ := h
    simp only [d1, c_dE e o h0, c_dE e i h1, c_dE e a h2]
  | .augI o i a, h => by
    simp only [u1, Bool.and_eq_true] at h
    obtain ⟨h0, h1, h2⟩ := h
    simp only [d1, c_dE e o h0, c_dE e i h1, c_dE e a h2]
  | .raise_ d f a, h => by
    have h0 : uE ok a = true := h
    simp only [d1, c_dE e a h0]
theorem c_dS {T T' : Tab} {ok : Str → Bool} (e : ∀ x, ok x = true → T x = T' x) : ∀ (a : Ts), uS ok a = true → dS T a = dS T' a
  | .nil, h => rfl
  | .cons a l, h => by
    simp only [uS, Bool.and_eq_true] at h
    obtain ⟨h0, h1⟩ := h
    simp only [dS, c_d1 e a h0, c_dS e l h1]
end
def uIs (ok : Str → Bool) : List Is1 → Bool
  | [] => true
  | .ex a :: l => uE ok a && uIs ok l
  | .fld _ _ :: l => uIs ok l
theorem c_runI {T T' : Tab} {ok : Str → Bool} (e : ∀ x, ok x = true → T x = T' x) : ∀ (l : List Is1) (ρ : En) (acc : List (Str × Nat)), uIs ok l = true → runI T l ρ acc = runI T' l ρ acc
  | [], _, _, _ => rfl
  | .ex a :: l, ρ, acc, h => by
    simp only [uIs, Bool.and_eq_true] at h
    unfold runI
    rw [c_dE e a h.1]
    split
    · exact c_runI e l ρ acc h.2
    · rfl
  | .fld f i :: l, ρ, acc, h => by
    have h : uIs ok l = true := h
    unfold runI
    split
    · rfl
    · exact c_runI e l ρ _ h
/-- what a def of a table stands for, by a table T -/
def valD (T : Tab) (d : Dn) : List U → Sto → M U := match d.init with
  | none => fDef d.N.length (dS T d.body)
  | some (c, st) => fun us S => lift (makeP (initR T (d.ps.length - 1) d.N.length st) c (d.ps.length - 1) us) S
def uD (ok : Str → Bool) (d : Dn) : Bool := match d.init with
  | none => uS ok d.body
  | some (_, st) => uIs ok st
/-- names differ, and each body calls what stands behind it -/
def okTab : List Dn → Bool
  | [] => true
  | d :: l => uD (fun x => l.any fun q => decide (q.name = x)) d && ((l.all fun q => !decide (q.name = d.name)) && okTab l)
theorem c_valD {T T' : Tab} {ok : Str → Bool} (e : ∀ x, ok x = true → T x = T' x) (d : Dn) (h : uD ok d = true) : valD T d = valD T' d := by
  unfold valD
  unfold uD at h
  split
  · rename_i c
    rw [c] at h
    rw [c_dS e _ h]
  · rename_i c
    rw [c] at h
    funext us S
    unfold initR
    congr 2
    exact funext fun p => c_runI e _ _ _ h
theorem tabOf_cons {d : Dn} {l : List Dn} {x : Str} : tabOf (d :: l) x = if x = d.name then valD (tabOf l) d else tabOf l x := by
  show (if x = d.name then _ else _) = _
  unfold valD
  rfl
theorem tabOf_eq0 {T : Tab} : ∀ (l : List Dn), okTab l = true → (∀ q ∈ l, T q.name = tabOf l q.name) → ∀ d ∈ l, T d.name = valD T d
  | [], _, _, d, m => by cases m
  | c :: l, h, k, d, m => by
    simp only [okTab, Bool.and_eq_true, List.all_eq_true] at h
    obtain ⟨h1, h2, h3⟩ := h
    have key : ∀ q ∈ l, T q.name = tabOf l q.name := fun q mq => by
      have ne : q.name ≠ c.name := fun z => by
        have := h2 q mq
        rw [decide_eq_true z] at this
        cases this
      rw [k q (List.mem_cons_of_mem _ mq), tabOf_cons, if_neg ne]
    rcases List.mem_cons.mp m with rfl | m
    · rw [k _ m, tabOf_cons, if_pos rfl]
      refine c_valD (fun x hx => ?_) _ h1
      obtain ⟨q, mq, eq⟩ := List.any_eq_true.mp hx
      rw [← of_decide_eq_true eq]
      exact (key q mq).symm
    · exact tabOf_eq0 l h3 key d m
theorem tabOf_eq (l : List Dn) (h : okTab l = true) : ∀ d ∈ l, tabOf l d.name = valD (tabOf l) d := tabOf_eq0 l h fun _ _ => rfl
end Ev
end
section
set_option Elab.async false
set_option linter.all false
set_option maxRecDepth 100000
set_option maxHeartbeats 1000000
/-! what a computation leads to: rules -/
namespace Ev
open PySem L2
def Wd {A : Type} (m : M A) (Q : A → Sto → Prop) (E : Xn → Sto → Prop) : Prop := match m with
  | some (.ok a S) => Q a S
  | some (.ex x S) => E x S
  | none => False
/-- a structure, so that nothing looks into it by itself -/
structure W {A : Type} (m : M A) (Q : A → Sto → Prop) (E : Xn → Sto → Prop) : Prop where
  out : Wd m Q E
theorem W_Wd {A : Type} {m : M A} {Q : A → Sto → Prop} {E : Xn → Sto → Prop} : W m Q E = Wd m Q E := propext ⟨fun h => h.out, fun h => ⟨h⟩⟩
abbrev NoX : Xn → Sto → Prop := fun _ _ => False
section
variable {A B : Type} {Q Q' : A → Sto → Prop} {E E' : Xn → Sto → Prop}
theorem W_ok {a : A} {S : Sto} : W (some (.ok a S)) Q E = Q a S := W_Wd
theorem W_mk {a : A} {S : Sto} (h : Q a S) : W (some (.ok a S)) Q E := ⟨h⟩
theorem W_ex {x : Xn} {S : Sto} : W (some (.ex x S)) Q E = E x S := W_Wd
theorem W_none : W (none : M A) Q E = False := W_Wd
theorem W_bind {m : M B} {f : B → Sto → M A} : W (m.bind f) Q E = W m (fun a S => W (f a S) Q E) E := by
  simp only [W_Wd] at *
  cases m with
  | none => rfl
  | some r => cases r <;> rfl
theorem W_mono {m : M A} (h : W m Q E) (f : ∀ a S, Q a S → Q' a S) (g : ∀ x S, E x S → E' x S) : W m Q' E' := by
  simp only [W_Wd] at *
  cases m with
  | none => exact h
  | some r => cases r with
    | ok a S => exact f a S h
    | ex x S => exact g x S h
theorem W_imp {m : M A} (h : W m Q E) (f : ∀ a S, Q a S → Q' a S) : W m Q' E := W_mono h f fun _ _ z => z
/-- a call without errors, in the midst of a run -/
theorem W_use {m : M A} (h : W m Q NoX) (f : ∀ a S, Q a S → Q' a S) : W m Q' E := W_mono h f fun _ _ z => z.elim
theorem W_eq {m : M A} (h : W m Q NoX) : ∃ a S, m = some (.ok a S) ∧ Q a S := by
  simp only [W_Wd] at *
  cases m with
  | none => exact h.elim
  | some r => cases r with
    | ok a S => exact ⟨a, S, rfl, h⟩
    | ex x S => exact h.elim
theorem W_of {m : M A} {a : A} {S : Sto} (e : m = some (.ok a S)) (q : Q a S) : W m Q E := by rw [e]; exact W_mk q
theorem W_ite {c : Prop} [Decidable c] {m m' : M A} : W (if c then m else m') Q E = if c then W m Q E else W m' Q E := by split <;> rfl
theorem W_lift {Q : U → Sto → Prop} {z : P} {S : Sto} : W (lift (some z) S) Q E = Q (.p z) S := W_Wd
theorem W_liftB {Q : Bool → Sto → Prop} {z : Bool} {S : Sto} : W (liftB (some z) S) Q E = Q z S := W_Wd
/-- what is left of the store behind a call -/
def TrQ (n : Nat) (Q : U → Sto → Prop) : U → Sto → Prop := fun u S => match u with
  | .p x => Q (.p x) (S.take n)
  | .c k => if k < n then Q (.c k) (S.take n) else ∃ l, S[k]? = some l ∧ Q (.c n) (S.take n ++ [l])
theorem W_trunc {n : Nat} {m : M U} {Q : U → Sto → Prop} (h : W m (TrQ n Q) fun x S => E x (S.take n)) : W (trunc n m) Q E := by
  simp only [W_Wd] at *
  cases m with
  | none => exact h
  | some r => cases r with
    | ex x S => exact h
    | ok u S =>
      cases u with
      | p x => exact h
      | c k =>
        unfold trunc
        have h : TrQ n Q (.c k) S := h
        unfold TrQ at h
        dsimp only at h ⊢
        split at h
        · rename_i hk; rw [if_pos hk]; exact h
        · rename_i hk
          obtain ⟨l, e, q⟩ := h
          rw [if_neg hk, e]; exact q
def OutQ (Q : U → Sto → Prop) : Out → Sto → Prop := fun o S => match o with
  | .nx _ => Q (.p .non) S
  | .rt u => Q u S
  | _ => False
theorem W_def {n : Nat} {fb : FS} {us : List U} {S : Sto} {Q : U → Sto → Prop} (h : W (fb (us.map some ++ List.replicate (n - us.length) none) S) (OutQ (TrQ S.length Q)) fun x S' => E x (S'.take S.length)) : W (fDef n fb us S) Q E := by
  refine W_trunc ?_
  unfold runB
  rw [W_bind]
  refine W_imp h fun o S' q => ?_
  cases o <;> first | exact W_mk q | exact q.elim
def SeqQ (fb : FS) (Q : Out → Sto → Prop) (E : Xn → Sto → Prop) : Out → Sto → Prop := fun o S => match o with
  | .nx ρ => W (fb ρ S) Q E
  | o => Q o S
theorem W_seq {fa fb : FS} {ρ : En} {S : Sto} {Q : Out → Sto → Prop} : W (fSeqS fa fb ρ S) Q E = W (fa ρ S) (SeqQ fb Q E) E := by
  unfold fSeqS
  rw [W_bind]
  congr 1
  funext o S'
  cases o <;> first | rfl | exact W_ok
theorem SeqQ_nx {fb : FS} {Q : Out → Sto → Prop} {ρ : En} {S : Sto} : SeqQ fb Q E (.nx ρ) S = W (fb ρ S) Q E := (rfl)
theorem SeqQ_rt {fb : FS} {Q : Out → Sto → Prop} {u : U} {S : Sto} : SeqQ fb Q E (.rt u) S = Q (.rt u) S := (rfl)
theorem SeqQ_bk {fb : FS} {Q : Out → Sto → Prop} {u : En} {S : Sto} : SeqQ fb Q E (.bk u) S = Q (.bk u) S := (rfl)
theorem SeqQ_ct {fb : FS} {Q : Out → Sto → Prop} {u : En} {S : Sto} : SeqQ fb Q E (.ct u) S = Q (.ct u) S := (rfl)
theorem OutQ_nx {Q : U → Sto → Prop} {ρ : En} {S : Sto} : OutQ Q (.nx ρ) S = Q (.p .non) S := (rfl)
theorem OutQ_rt {Q : U → Sto → Prop} {u : U} {S : Sto} : OutQ Q (.rt u) S = Q u S := (rfl)
theorem TrQ_p {Q : U → Sto → Prop} {n : Nat} {x : P} {S : Sto} : TrQ n Q (.p x) S = Q (.p x) (S.take n) := (rfl)
/-! loops -/
def ForQ (I : En → Sto → Prop) (so : Sto → Prop) (Q : Out → Sto → Prop) : Out → Sto → Prop := fun o S => match o with
  | .nx ρ => so S ∧ I ρ S
  | .ct ρ => so S ∧ I ρ S
  | .bk ρ => Q (.nx ρ) S
  | .rt u => Q (.rt u) S
theorem W_forL {tg : Tg} {body : FS} {q : Sq} {Q : Out → Sto → Prop} (I : List P → En → Sto → Prop) : ∀ (items : List P) (ρ : En) (S : Sto), I items ρ S →
    (∀ x r ρ S, I (x :: r) ρ S → ∃ ρ1, asg tg x ρ = some ρ1 ∧ W (body ρ1 S) (ForQ (I r) (srcOk q) Q) E) → (∀ ρ S, I [] ρ S → Q (.nx ρ) S) → W (forL tg body q items ρ S) Q E
  | [], ρ, S, h, _, he => W_mk (he ρ S h)
  | x :: r, ρ, S, h, hs, he => by
    obtain ⟨ρ1, e1, h1⟩ := hs x r ρ S h
    unfold forL
    rw [e1]
    dsimp only
    rw [W_bind]
    refine W_imp h1 fun o S2 z => ?_
    cases o with
    | nx ρ2 =>
      obtain ⟨z1, z2⟩ := z
      dsimp only
      rw [if_pos z1]
      exact W_forL I r ρ2 S2 z2 hs he
    | ct ρ2 =>
      obtain ⟨z1, z2⟩ := z
      dsimp only
      rw [if_pos z1]
      exact W_forL I r ρ2 S2 z2 hs he
    | bk ρ2 => exact W_mk z
    | rt u => exact W_mk z
theorem srcOk_nn {l : List P} {S : Sto} : srcOk ⟨l, none⟩ S := fun n e => by cases e
theorem W_for {tg : Tg} {it : FI} {body : FS} {ρ : En} {S : Sto} {Q : Out → Sto → Prop} : W (fFor tg it body ρ S) Q E = W (it ρ S) (fun q S1 => W (forL tg body q q.items ρ S1) Q E) E := by
  unfold fFor
  rw [W_bind]
def WhlQ (I : En → Sto → Prop) (Q : Out → Sto → Prop) : Out → Sto → Prop := fun o S => match o with
  | .nx ρ => I ρ S
  | .ct ρ => I ρ S
  | .bk ρ => Q (.nx ρ) S
  | .rt u => Q (.rt u) S
theorem W_whlL {t : FT} {body : FS} {Q : Out → Sto → Prop} (I : Nat → En → Sto → Prop) : ∀ (k : Nat) (ρ : En) (S : Sto), I k ρ S →
    (∀ k ρ S, I k ρ S → ∃ k', k = k' + 1 ∧ W (t ρ S) (fun b S1 => if b = true then W (body ρ S1) (WhlQ (I k') Q) E else Q (.nx ρ) S1) E) → W (whlL t body k ρ S) Q E
  | 0, ρ, S, h, hs => by obtain ⟨k', e, _⟩ := hs 0 ρ S h; cases e
  | k + 1, ρ, S, h, hs => by
    obtain ⟨k', e, h1⟩ := hs _ ρ S h
    cases e
    unfold whlL
    rw [W_bind]
    refine W_imp h1 fun b S1 z => ?_
    split at z
    · rename_i hb
      rw [if_pos hb, W_bind]
      refine W_imp z fun o S2 z => ?_
      cases o with
      | nx ρ2 => exact W_whlL I k ρ2 S2 z hs
      | ct ρ2 => exact W_whlL I k ρ2 S2 z hs
      | bk ρ2 => exact W_mk z
      | rt u => exact W_mk z
    · rename_i hb
      rw [if_neg hb]
      exact W_mk z
/-! comprehensions -/
theorem W_noex {m : M A} (h : W m Q NoX) : W (noex m) Q E := by
  simp only [W_Wd] at *
  cases m with
  | none => exact h.elim
  | some r => cases r with
    | ok a S => exact h
    | ex x S => exact h.elim
/-- all items; the list grows at n -/
theorem W_compL {tg : Tg} {cond : FT} {elt : FE} {q : Sq} {n : Nat} {ρ0 : En} {Q : Unit → Sto → Prop} (I : List P → List P → Sto → Prop) (hq : q.src = none) : ∀ (items acc : List P) (S : Sto), I items acc S →
    (∀ x r acc S, I (x :: r) acc S → S[n]? = some acc → ∃ ρ1, asg tg x ρ0 = some ρ1 ∧ W (cond ρ1 S) (fun b S2 => if b = true then
      W (elt ρ1 S2) (fun u S3 => ∃ y, u = .p y ∧ S3[n]? = some acc ∧ acc.length < 1000000 ∧ I r (acc ++ [y]) (S3.set n (acc ++ [y]))) NoX else S2[n]? = some acc ∧ I r acc S2) NoX) →
    S[n]? = some acc → (∀ acc S, I [] acc S → S[n]? = some acc → Q () S) → W (compL tg cond elt q n items ρ0 S) Q E
  | [], acc, S, h, _, hn, he => W_mk (he acc S h hn)
  | x :: r, acc, S, h, hs, hn, he => by
    obtain ⟨ρ1, e1, h1⟩ := hs x r acc S h hn
    have so : ∀ S', srcOk q S' := fun S' m e => by rw [hq] at e; cases e
    unfold compL
    rw [e1]
    dsimp only
    rw [W_bind]
    refine W_noex (W_imp h1 fun b S2 z => ?_)
    split at z
    · rename_i hb
      rw [if_pos hb, W_bind]
      refine W_noex (W_imp z fun u S3 z => ?_)
      obtain ⟨y, rfl, e3, hl, hI⟩ := z
      dsimp only
      rw [e3]
      dsimp only
      rw [if_pos ⟨hl, so _⟩]
      refine W_compL I hq r (acc ++ [y]) _ hI hs ?_ he
      rw [List.getElem?_set_self (List.getElem?_eq_some_iff.mp e3).1]
    · rename_i hb
      rw [if_neg hb, if_pos (so _)]
      exact W_compL I hq r acc S2 z.2 hs z.1 he
def CmpQ (cell : Bool) (n : Nat) (Q : U → Sto → Prop) (l : List P) (S : Sto) : Prop := if cell = true then Q (.c n) (S.take (n + 1)) else Q (.p (.lst l)) (S.take n)
/-- elements that leave the store as it is but for what P says -/
theorem W_comp {cell : Bool} {own : List Nat} {elt : FE} {tg : Tg} {it : FI} {cond : FT} {ρ : En} {S : Sto} {Q : U → Sto → Prop} (items : List P) (J : List P → List P → Sto → Prop) (S1 : Sto)
    (hi : it ρ S = some (.ok ⟨items, none⟩ S1)) (h0 : J items [] S1) (hl : items.length < 1000000)
    (hs : ∀ x r acc S', J (x :: r) acc S' → S'.length = S1.length → ∃ ρ1, asg tg x (wipeE ρ own) = some ρ1 ∧ W (cond ρ1 (S' ++ [acc])) (fun b S2 => S2 = S' ++ [acc] ∧ if b = true then
      W (elt ρ1 (S' ++ [acc])) (fun u S3 => ∃ y S'', u = .p y ∧ S3 = S'' ++ [acc] ∧ S''.length = S1.length ∧ J r (acc ++ [y]) S'') NoX else J r acc S') NoX)
    (he : ∀ acc S', J [] acc S' → S'.length = S1.length → if cell = true then Q (.c S1.length) (S' ++ [acc]) else Q (.p (.lst acc)) S') : W (fComp cell own elt tg it cond ρ S) Q E := by
  unfold fComp
  rw [hi]
  show W (M.bind (some (.ok _ S1)) _) Q E
  rw [bind_ok, if_pos srcOk_nn, W_bind]
  refine W_compL (fun r acc S => ∃ S', S = S' ++ [acc] ∧ S'.length = S1.length ∧ acc.length + r.length ≤ items.length ∧ J r acc S') rfl items [] _ ⟨S1, rfl, rfl, by simp, h0⟩ ?_ (by simp) ?_
  · rintro x r acc S2 ⟨S', rfl, hl2, hc, hJ⟩ hn
    obtain ⟨ρ1, e1, h1⟩ := hs x r acc S' hJ hl2
    refine ⟨ρ1, e1, W_imp h1 fun b S3 z => ?_⟩
    obtain ⟨rfl, z⟩ := z
    split at z
    · rename_i hb
      rw [if_pos hb]
      refine W_imp z fun u S4 z => ?_
      obtain ⟨y, S'', rfl, rfl, hl3, hJ2⟩ := z
      refine ⟨y, rfl, by rw [← hl3]; simp, by simp at hc; omega, S'', ?_, hl3, by simp at hc ⊢; omega, hJ2⟩
      rw [← hl3]; simp
    · rename_i hb
      rw [if_neg hb]
      exact ⟨hn, S', rfl, hl2, by simp at hc; omega, z⟩
  · rintro acc S2 ⟨S', rfl, hl2, hc, hJ⟩ hn
    have q := he acc S' hJ hl2
    unfold compEnd
    rw [hn]
    dsimp only
    rw [W_ite]
    split at q
    · rename_i hb
      rw [if_pos hb, W_ok, ← hl2]
      rw [← hl2] at q
      rw [show (S' ++ [acc]).take (S'.length + 1) = S' ++ [acc] from List.take_of_length_le (by simp)]
      exact q
    · rename_i hb
      rw [if_neg hb, W_ok, ← hl2]
      rw [show (S' ++ [acc]).take S'.length = S' from List.take_left]
      exact q
end
end Ev
end
section
set_option Elab.async false
set_option linter.all false
set_option maxRecDepth 100000
set_option maxHeartbeats 1000000
/-! what a computation leads to: a rule for each term -/
namespace Ev
open PySem L2
def IfQ (b : Bool) (x y : Prop) : Prop := if b = true then x else y
def LifD (o : Option P) (S : Sto) (Q : U → Sto → Prop) : Prop := match o with
  | some z => Q (.p z) S
  | none => False
structure LifQ (o : Option P) (S : Sto) (Q : U → Sto → Prop) : Prop where
  out : LifD o S Q
theorem LifQ_D {o : Option P} {S : Sto} {Q : U → Sto → Prop} : LifQ o S Q = LifD o S Q := propext ⟨fun h => h.out, fun h => ⟨h⟩⟩
def LibD (o : Option Bool) (S : Sto) (Q : Bool → Sto → Prop) : Prop := match o with
  | some z => Q z S
  | none => False
structure LibQ (o : Option Bool) (S : Sto) (Q : Bool → Sto → Prop) : Prop where
  out : LibD o S Q
theorem LibQ_D {o : Option Bool} {S : Sto} {Q : Bool → Sto → Prop} : LibQ o S Q = LibD o S Q := propext ⟨fun h => h.out, fun h => ⟨h⟩⟩
def AndD (o : Option Bool) (x y : Prop) : Prop := match o with
  | some b => IfQ b x y
  | none => False
structure AndQ (o : Option Bool) (x y : Prop) : Prop where
  out : AndD o x y
theorem AndQ_D {o : Option Bool} {x y : Prop} : AndQ o x y = AndD o x y := propext ⟨fun h => h.out, fun h => ⟨h⟩⟩
def SqD (o : Option Sq) (S : Sto) (Q : Sq → Sto → Prop) : Prop := match o with
  | some q => Q q S
  | none => False
structure SqQ (o : Option Sq) (S : Sto) (Q : Sq → Sto → Prop) : Prop where
  out : SqD o S Q
theorem SqQ_D {o : Option Sq} {S : Sto} {Q : Sq → Sto → Prop} : SqQ o S Q = SqD o S Q := propext ⟨fun h => h.out, fun h => ⟨h⟩⟩
def StoD (o : Option Sto) (Q : Sto → Prop) : Prop := match o with
  | some S => Q S
  | none => False
structure StoQ (o : Option Sto) (Q : Sto → Prop) : Prop where
  out : StoD o Q
theorem StoQ_D {o : Option Sto} {Q : Sto → Prop} : StoQ o Q = StoD o Q := propext ⟨fun h => h.out, fun h => ⟨h⟩⟩
def EnD (o : Option En) (Q : En → Prop) : Prop := match o with
  | some S => Q S
  | none => False
structure EnQ (o : Option En) (Q : En → Prop) : Prop where
  out : EnD o Q
theorem EnQ_D {o : Option En} {Q : En → Prop} : EnQ o Q = EnD o Q := propext ⟨fun h => h.out, fun h => ⟨h⟩⟩
def C2D (o : Option P) (x y : Prop) : Prop := match o with
  | some (.bl true) => x
  | some (.bl false) => y
  | _ => False
structure C2Q (o : Option P) (x y : Prop) : Prop where
  out : C2D o x y
theorem C2Q_D {o : Option P} {x y : Prop} : C2Q o x y = C2D o x y := propext ⟨fun h => h.out, fun h => ⟨h⟩⟩
def OrdD (n k : Nat) (o : Option (List U)) (Q : List U → Prop) : Prop := match o with
  | some us => n = k ∧ Q us
  | none => False
structure OrdQ (n k : Nat) (o : Option (List U)) (Q : List U → Prop) : Prop where
  out : OrdD n k o Q
theorem OrdQ_D {n k : Nat} {o : Option (List U)} {Q : List U → Prop} : OrdQ n k o Q = OrdD n k o Q := propext ⟨fun h => h.out, fun h => ⟨h⟩⟩
def CelD (o : Option (List P)) (S : Sto) (Q : U → Sto → Prop) : Prop := match o with
  | some xs => Q (.c S.length) (S ++ [xs])
  | none => False
structure CelQ (o : Option (List P)) (S : Sto) (Q : U → Sto → Prop) : Prop where
  out : CelD o S Q
theorem CelQ_D {o : Option (List P)} {S : Sto} {Q : U → Sto → Prop} : CelQ o S Q = CelD o S Q := propext ⟨fun h => h.out, fun h => ⟨h⟩⟩
def FmtD (o : Option Str) (Q : Str → Prop) : Prop := match o with
  | some s => Q s
  | none => False
structure FmtQ (o : Option Str) (Q : Str → Prop) : Prop where
  out : FmtD o Q
theorem FmtQ_D {o : Option Str} {Q : Str → Prop} : FmtQ o Q = FmtD o Q := propext ⟨fun h => h.out, fun h => ⟨h⟩⟩
def VarQ (o : Option (Option U)) (S : Sto) (Q : U → Sto → Prop) : Prop := match o with
  | some (some u) => Q u S
  | _ => False
theorem VarQ_some {u : U} {S : Sto} {Q : U → Sto → Prop} : VarQ (some (some u)) S Q = Q u S := by (first | rfl | exact W_none | exact W_ok | (simp only [W_Wd, LifQ_D, LibQ_D, AndQ_D, SqQ_D, StoQ_D, EnQ_D, C2Q_D, OrdQ_D, CelQ_D, FmtQ_D]; done) | (simp only [W_Wd, LifQ_D, LibQ_D, AndQ_D, SqQ_D, StoQ_D, EnQ_D, C2Q_D, OrdQ_D, CelQ_D, FmtQ_D]; (first | rfl | exact W_none | exact W_ok | (simp only [W_Wd, LifQ_D, LibQ_D, AndQ_D, SqQ_D, StoQ_D, EnQ_D, C2Q_D, OrdQ_D, CelQ_D, FmtQ_D]; done) | (simp only [W_Wd, LifQ_D, LibQ_D, AndQ_D, SqQ_D, StoQ_D, EnQ_D, C2Q_D, OrdQ_D, CelQ_D, FmtQ_D]; rfl))))
/-- a value that may fail to be -/
theorem LifQ_some {z : P} {S : Sto} {Q : U → Sto → Prop} : LifQ (some z) S Q = Q (.p z) S := by (first | rfl | exact W_none | exact W_ok | (simp only [W_Wd, LifQ_D, LibQ_D, AndQ_D, SqQ_D, StoQ_D, EnQ_D, C2Q_D, OrdQ_D, CelQ_D, FmtQ_D]; done) | (simp only [W_Wd, LifQ_D, LibQ_D, AndQ_D, SqQ_D, StoQ_D, EnQ_D, C2Q_D, OrdQ_D, CelQ_D, FmtQ_D]; (first | rfl | exact W_none | exact W_ok | (simp only [W_Wd, LifQ_D, LibQ_D, AndQ_D, SqQ_D, StoQ_D, EnQ_D, C2Q_D, OrdQ_D, CelQ_D, FmtQ_D]; done) | (simp only [W_Wd, LifQ_D, LibQ_D, AndQ_D, SqQ_D, StoQ_D, EnQ_D, C2Q_D, OrdQ_D, CelQ_D, FmtQ_D]; rfl))))
theorem LibQ_some {z : Bool} {S : Sto} {Q : Bool → Sto → Prop} : LibQ (some z) S Q = Q z S := by (first | rfl | exact W_none | exact W_ok | (simp only [W_Wd, LifQ_D, LibQ_D, AndQ_D, SqQ_D, StoQ_D, EnQ_D, C2Q_D, OrdQ_D, CelQ_D, FmtQ_D]; done) | (simp only [W_Wd, LifQ_D, LibQ_D, AndQ_D, SqQ_D, StoQ_D, EnQ_D, C2Q_D, OrdQ_D, CelQ_D, FmtQ_D]; (first | rfl | exact W_none | exact W_ok | (simp only [W_Wd, LifQ_D, LibQ_D, AndQ_D, SqQ_D, StoQ_D, EnQ_D, C2Q_D, OrdQ_D, CelQ_D, FmtQ_D]; done) | (simp only [W_Wd, LifQ_D, LibQ_D, AndQ_D, SqQ_D, StoQ_D, EnQ_D, C2Q_D, OrdQ_D, CelQ_D, FmtQ_D]; rfl))))
theorem IfQ_t {x y : Prop} : IfQ true x y = x := by (first | rfl | exact W_none | exact W_ok | (simp only [W_Wd, LifQ_D, LibQ_D, AndQ_D, SqQ_D, StoQ_D, EnQ_D, C2Q_D, OrdQ_D, CelQ_D, FmtQ_D]; done) | (simp only [W_Wd, LifQ_D, LibQ_D, AndQ_D, SqQ_D, StoQ_D, EnQ_D, C2Q_D, OrdQ_D, CelQ_D, FmtQ_D]; (first | rfl | exact W_none | exact W_ok | (simp only [W_Wd, LifQ_D, LibQ_D, AndQ_D, SqQ_D, StoQ_D, EnQ_D, C2Q_D, OrdQ_D, CelQ_D, FmtQ_D]; done) | (simp only [W_Wd, LifQ_D, LibQ_D, AndQ_D, SqQ_D, StoQ_D, EnQ_D, C2Q_D, OrdQ_D, CelQ_D, FmtQ_D]; rfl))))
theorem IfQ_f {x y : Prop} : IfQ false x y = y := by (first | rfl | exact W_none | exact W_ok | (simp only [W_Wd, LifQ_D, LibQ_D, AndQ_D, SqQ_D, StoQ_D, EnQ_D, C2Q_D, OrdQ_D, CelQ_D, FmtQ_D]; done) | (simp only [W_Wd, LifQ_D, LibQ_D, AndQ_D, SqQ_D, StoQ_D, EnQ_D, C2Q_D, OrdQ_D, CelQ_D, FmtQ_D]; (first | rfl | exact W_none | exact W_ok | (simp only [W_Wd, LifQ_D, LibQ_D, AndQ_D, SqQ_D, StoQ_D, EnQ_D, C2Q_D, OrdQ_D, CelQ_D, FmtQ_D]; done) | (simp only [W_Wd, LifQ_D, LibQ_D, AndQ_D, SqQ_D, StoQ_D, EnQ_D, C2Q_D, OrdQ_D, CelQ_D, FmtQ_D]; rfl))))
theorem AndQ_some {b : Bool} {x y : Prop} : AndQ (some b) x y = IfQ b x y := by (first | rfl | exact W_none | exact W_ok | (simp only [W_Wd, LifQ_D, LibQ_D, AndQ_D, SqQ_D, StoQ_D, EnQ_D, C2Q_D, OrdQ_D, CelQ_D, FmtQ_D]; done) | (simp only [W_Wd, LifQ_D, LibQ_D, AndQ_D, SqQ_D, StoQ_D, EnQ_D, C2Q_D, OrdQ_D, CelQ_D, FmtQ_D]; (first | rfl | exact W_none | exact W_ok | (simp only [W_Wd, LifQ_D, LibQ_D, AndQ_D, SqQ_D, StoQ_D, EnQ_D, C2Q_D, OrdQ_D, CelQ_D, FmtQ_D]; done) | (simp only [W_Wd, LifQ_D, LibQ_D, AndQ_D, SqQ_D, StoQ_D, EnQ_D, C2Q_D, OrdQ_D, CelQ_D, FmtQ_D]; rfl))))
theorem SqQ_some {q : Sq} {S : Sto} {Q : Sq → Sto → Prop} : SqQ (some q) S Q = Q q S := by (first | rfl | exact W_none | exact W_ok | (simp only [W_Wd, LifQ_D, LibQ_D, AndQ_D, SqQ_D, StoQ_D, EnQ_D, C2Q_D, OrdQ_D, CelQ_D, FmtQ_D]; done) | (simp only [W_Wd, LifQ_D, LibQ_D, AndQ_D, SqQ_D, StoQ_D, EnQ_D, C2Q_D, OrdQ_D, CelQ_D, FmtQ_D]; (first | rfl | exact W_none | exact W_ok | (simp only [W_Wd, LifQ_D, LibQ_D, AndQ_D, SqQ_D, StoQ_D, EnQ_D, C2Q_D, OrdQ_D, CelQ_D, FmtQ_D]; done) | (simp only [W_Wd, LifQ_D, LibQ_D, AndQ_D, SqQ_D, StoQ_D, EnQ_D, C2Q_D, OrdQ_D, CelQ_D, FmtQ_D]; rfl))))
theorem StoQ_some {S : Sto} {Q : Sto → Prop} : StoQ (some S) Q = Q S := by (first | rfl | exact W_none | exact W_ok | (simp only [W_Wd, LifQ_D, LibQ_D, AndQ_D, SqQ_D, StoQ_D, EnQ_D, C2Q_D, OrdQ_D, CelQ_D, FmtQ_D]; done) | (simp only [W_Wd, LifQ_D, LibQ_D, AndQ_D, SqQ_D, StoQ_D, EnQ_D, C2Q_D, OrdQ_D, CelQ_D, FmtQ_D]; (first | rfl | exact W_none | exact W_ok | (simp only [W_Wd, LifQ_D, LibQ_D, AndQ_D, SqQ_D, StoQ_D, EnQ_D, C2Q_D, OrdQ_D, CelQ_D, FmtQ_D]; done) | (simp only [W_Wd, LifQ_D, LibQ_D, AndQ_D, SqQ_D, StoQ_D, EnQ_D, C2Q_D, OrdQ_D, CelQ_D, FmtQ_D]; rfl))))
theorem EnQ_some {S : En} {Q : En → Prop} : EnQ (some S) Q = Q S := by (first | rfl | exact W_none | exact W_ok | (simp only [W_Wd, LifQ_D, LibQ_D, AndQ_D, SqQ_D, StoQ_D, EnQ_D, C2Q_D, OrdQ_D, CelQ_D, FmtQ_D]; done) | (simp only [W_Wd, LifQ_D, LibQ_D, AndQ_D, SqQ_D, StoQ_D, EnQ_D, C2Q_D, OrdQ_D, CelQ_D, FmtQ_D]; (first | rfl | exact W_none | exact W_ok | (simp only [W_Wd, LifQ_D, LibQ_D, AndQ_D, SqQ_D, StoQ_D, EnQ_D, C2Q_D, OrdQ_D, CelQ_D, FmtQ_D]; done) | (simp only [W_Wd, LifQ_D, LibQ_D, AndQ_D, SqQ_D, StoQ_D, EnQ_D, C2Q_D, OrdQ_D, CelQ_D, FmtQ_D]; rfl))))
section
variable {T : Tab} {ρ : En} {S : Sto} {E : Xn → Sto → Prop}
section
variable {Q : U → Sto → Prop}
theorem q_lift {o : Option P} : W (lift o S) Q E = LifQ o S Q := by cases o <;> (first | rfl | exact W_none | exact W_ok | (simp only [W_Wd, LifQ_D, LibQ_D, AndQ_D, SqQ_D, StoQ_D, EnQ_D, C2Q_D, OrdQ_D, CelQ_D, FmtQ_D]; done) | (simp only [W_Wd, LifQ_D, LibQ_D, AndQ_D, SqQ_D, StoQ_D, EnQ_D, C2Q_D, OrdQ_D, CelQ_D, FmtQ_D]; rfl))
theorem q_liftB {Q : Bool → Sto → Prop} {o : Option Bool} : W (liftB o S) Q E = LibQ o S Q := by cases o <;> (first | rfl | exact W_none | exact W_ok | (simp only [W_Wd, LifQ_D, LibQ_D, AndQ_D, SqQ_D, StoQ_D, EnQ_D, C2Q_D, OrdQ_D, CelQ_D, FmtQ_D]; done) | (simp only [W_Wd, LifQ_D, LibQ_D, AndQ_D, SqQ_D, StoQ_D, EnQ_D, C2Q_D, OrdQ_D, CelQ_D, FmtQ_D]; rfl))
theorem q_var {i : Nat} : W (dE T (.var i) ρ S) Q E = VarQ ρ[i]? S Q := by
  show W (fVar i ρ S) Q E = _
  unfold fVar VarQ
  rcases ρ[i]? with _ | _ | u
  · exact W_none
  · exact W_none
  · exact W_ok
theorem q_glo {x : Str} {p : P} : W (dE T (.glo x p) ρ S) Q E = Q (.p p) S := by (first | rfl | exact W_none | exact W_ok | (simp only [W_Wd, LifQ_D, LibQ_D, AndQ_D, SqQ_D, StoQ_D, EnQ_D, C2Q_D, OrdQ_D, CelQ_D, FmtQ_D]; done) | (simp only [W_Wd, LifQ_D, LibQ_D, AndQ_D, SqQ_D, StoQ_D, EnQ_D, C2Q_D, OrdQ_D, CelQ_D, FmtQ_D]; (first | rfl | exact W_none | exact W_ok | (simp only [W_Wd, LifQ_D, LibQ_D, AndQ_D, SqQ_D, StoQ_D, EnQ_D, C2Q_D, OrdQ_D, CelQ_D, FmtQ_D]; done) | (simp only [W_Wd, LifQ_D, LibQ_D, AndQ_D, SqQ_D, StoQ_D, EnQ_D, C2Q_D, OrdQ_D, CelQ_D, FmtQ_D]; rfl))))
theorem q_cst {p : P} : W (dE T (.cst p) ρ S) Q E = Q (.p p) S := by (first | rfl | exact W_none | exact W_ok | (simp only [W_Wd, LifQ_D, LibQ_D, AndQ_D, SqQ_D, StoQ_D, EnQ_D, C2Q_D, OrdQ_D, CelQ_D, FmtQ_D]; done) | (simp only [W_Wd, LifQ_D, LibQ_D, AndQ_D, SqQ_D, StoQ_D, EnQ_D, C2Q_D, OrdQ_D, CelQ_D, FmtQ_D]; (first | rfl | exact W_none | exact W_ok | (simp only [W_Wd, LifQ_D, LibQ_D, AndQ_D, SqQ_D, StoQ_D, EnQ_D, C2Q_D, OrdQ_D, CelQ_D, FmtQ_D]; done) | (simp only [W_Wd, LifQ_D, LibQ_D, AndQ_D, SqQ_D, StoQ_D, EnQ_D, C2Q_D, OrdQ_D, CelQ_D, FmtQ_D]; rfl))))
theorem q_bin {o : Bop} {a b : Te} : W (dE T (.bin o a b) ρ S) Q E = W (dE T a ρ S) (fun x S1 => W (dE T b ρ S1) (fun y S2 => LifQ (binP o x y S2) S2 Q) E) E := by
  show W (fBin (binP o) (dE T a) (dE T b) ρ S) Q E = _
  unfold fBin; simp only [W_bind, q_lift]
theorem q_neg {a : Te} : W (dE T (.neg a) ρ S) Q E = W (dE T a ρ S) (fun x S1 => LifQ (negP x S1) S1 Q) E := by
  show W (fUn negP (dE T a) ρ S) Q E = _
  unfold fUn; simp only [W_bind, q_lift]
theorem q_cmp {o : Cop} {a b : Te} : W (dE T (.cmp o a b) ρ S) Q E = W (dE T a ρ S) (fun x S1 => W (dE T b ρ S1) (fun y S2 => LifQ (cmpP o x y S2) S2 Q) E) E := by
  show W (fBin (cmpP o) (dE T a) (dE T b) ρ S) Q E = _
  unfold fBin; simp only [W_bind, q_lift]
theorem C2Q_bl {b : Bool} {x y : Prop} : C2Q (some (.bl b)) x y = IfQ b x y := by cases b <;> (first | rfl | exact W_none | exact W_ok | (simp only [W_Wd, LifQ_D, LibQ_D, AndQ_D, SqQ_D, StoQ_D, EnQ_D, C2Q_D, OrdQ_D, CelQ_D, FmtQ_D]; done) | (simp only [W_Wd, LifQ_D, LibQ_D, AndQ_D, SqQ_D, StoQ_D, EnQ_D, C2Q_D, OrdQ_D, CelQ_D, FmtQ_D]; rfl))
theorem q_cmp2 {o o' : Cop} {a b c : Te} : W (dE T (.cmp2 o o' a b c) ρ S) Q E = W (dE T a ρ S) (fun x S1 => W (dE T b ρ S1) (fun y S2 => C2Q (cmpP o x y S2) (W (dE T c ρ S2) (fun z S3 => LifQ (cmpP o' y z S3) S3 Q) E) (Q (.p (.bl false)) S2)) E) E := by
  show W (fCmp2 o o' (dE T a) (dE T b) (dE T c) ρ S) Q E = _
  unfold fCmp2
  simp only [W_bind]
  congr 1; funext x S1; congr 1; funext y S2
  cases cmpP o x y S2 with
  | none => (first | rfl | exact W_none | exact W_ok | (simp only [W_Wd, LifQ_D, LibQ_D, AndQ_D, SqQ_D, StoQ_D, EnQ_D, C2Q_D, OrdQ_D, CelQ_D, FmtQ_D]; done) | (simp only [W_Wd, LifQ_D, LibQ_D, AndQ_D, SqQ_D, StoQ_D, EnQ_D, C2Q_D, OrdQ_D, CelQ_D, FmtQ_D]; rfl))
  | some z => cases z with
    | bl b =>
      rw [C2Q_D]
      cases b
      · exact W_ok
      · show W (M.bind _ _) Q E = W _ _ _
        rw [W_bind]; simp only [q_lift]
    | _ => (first | rfl | exact W_none | exact W_ok | (simp only [W_Wd, LifQ_D, LibQ_D, AndQ_D, SqQ_D, StoQ_D, EnQ_D, C2Q_D, OrdQ_D, CelQ_D, FmtQ_D]; done) | (simp only [W_Wd, LifQ_D, LibQ_D, AndQ_D, SqQ_D, StoQ_D, EnQ_D, C2Q_D, OrdQ_D, CelQ_D, FmtQ_D]; rfl))
theorem q_and {l : Tv} : W (dE T (.and_ l) ρ S) Q E = W (dAnd T l ρ S) Q E := by (first | rfl | exact W_none | exact W_ok | (simp only [W_Wd, LifQ_D, LibQ_D, AndQ_D, SqQ_D, StoQ_D, EnQ_D, C2Q_D, OrdQ_D, CelQ_D, FmtQ_D]; done) | (simp only [W_Wd, LifQ_D, LibQ_D, AndQ_D, SqQ_D, StoQ_D, EnQ_D, C2Q_D, OrdQ_D, CelQ_D, FmtQ_D]; (first | rfl | exact W_none | exact W_ok | (simp only [W_Wd, LifQ_D, LibQ_D, AndQ_D, SqQ_D, StoQ_D, EnQ_D, C2Q_D, OrdQ_D, CelQ_D, FmtQ_D]; done) | (simp only [W_Wd, LifQ_D, LibQ_D, AndQ_D, SqQ_D, StoQ_D, EnQ_D, C2Q_D, OrdQ_D, CelQ_D, FmtQ_D]; rfl))))
theorem q_and1 {a : Te} : W (dAnd T (.one a) ρ S) Q E = W (dE T a ρ S) Q E := by (first | rfl | exact W_none | exact W_ok | (simp only [W_Wd, LifQ_D, LibQ_D, AndQ_D, SqQ_D, StoQ_D, EnQ_D, C2Q_D, OrdQ_D, CelQ_D, FmtQ_D]; done) | (simp only [W_Wd, LifQ_D, LibQ_D, AndQ_D, SqQ_D, StoQ_D, EnQ_D, C2Q_D, OrdQ_D, CelQ_D, FmtQ_D]; (first | rfl | exact W_none | exact W_ok | (simp only [W_Wd, LifQ_D, LibQ_D, AndQ_D, SqQ_D, StoQ_D, EnQ_D, C2Q_D, OrdQ_D, CelQ_D, FmtQ_D]; done) | (simp only [W_Wd, LifQ_D, LibQ_D, AndQ_D, SqQ_D, StoQ_D, EnQ_D, C2Q_D, OrdQ_D, CelQ_D, FmtQ_D]; rfl))))
theorem q_andm {a : Te} {l : Tv} : W (dAnd T (.more a l) ρ S) Q E = W (dE T a ρ S) (fun x S1 => AndQ (blOf x) (W (dAnd T l ρ S1) Q E) (Q (.p (.bl false)) S1)) E := by
  show W (fAnd (dE T a) (dAnd T l) ρ S) Q E = _
  unfold fAnd; rw [W_bind]
  congr 1; funext x S1
  cases blOf x with
  | none => (first | rfl | exact W_none | exact W_ok | (simp only [W_Wd, LifQ_D, LibQ_D, AndQ_D, SqQ_D, StoQ_D, EnQ_D, C2Q_D, OrdQ_D, CelQ_D, FmtQ_D]; done) | (simp only [W_Wd, LifQ_D, LibQ_D, AndQ_D, SqQ_D, StoQ_D, EnQ_D, C2Q_D, OrdQ_D, CelQ_D, FmtQ_D]; rfl))
  | some b => cases b <;> (first | rfl | exact W_none | exact W_ok | (simp only [W_Wd, LifQ_D, LibQ_D, AndQ_D, SqQ_D, StoQ_D, EnQ_D, C2Q_D, OrdQ_D, CelQ_D, FmtQ_D]; done) | (simp only [W_Wd, LifQ_D, LibQ_D, AndQ_D, SqQ_D, StoQ_D, EnQ_D, C2Q_D, OrdQ_D, CelQ_D, FmtQ_D]; rfl))
theorem q_or {l : Tv} : W (dE T (.or_ l) ρ S) Q E = W (dOr T l ρ S) Q E := by (first | rfl | exact W_none | exact W_ok | (simp only [W_Wd, LifQ_D, LibQ_D, AndQ_D, SqQ_D, StoQ_D, EnQ_D, C2Q_D, OrdQ_D, CelQ_D, FmtQ_D]; done) | (simp only [W_Wd, LifQ_D, LibQ_D, AndQ_D, SqQ_D, StoQ_D, EnQ_D, C2Q_D, OrdQ_D, CelQ_D, FmtQ_D]; (first | rfl | exact W_none | exact W_ok | (simp only [W_Wd, LifQ_D, LibQ_D, AndQ_D, SqQ_D, StoQ_D, EnQ_D, C2Q_D, OrdQ_D, CelQ_D, FmtQ_D]; done) | (simp only [W_Wd, LifQ_D, LibQ_D, AndQ_D, SqQ_D, StoQ_D, EnQ_D, C2Q_D, OrdQ_D, CelQ_D, FmtQ_D]; rfl))))
theorem q_or1 {a : Te} : W (dOr T (.one a) ρ S) Q E = W (dE T a ρ S) Q E := by (first | rfl | exact W_none | exact W_ok | (simp only [W_Wd, LifQ_D, LibQ_D, AndQ_D, SqQ_D, StoQ_D, EnQ_D, C2Q_D, OrdQ_D, CelQ_D, FmtQ_D]; done) | (simp only [W_Wd, LifQ_D, LibQ_D, AndQ_D, SqQ_D, StoQ_D, EnQ_D, C2Q_D, OrdQ_D, CelQ_D, FmtQ_D]; (first | rfl | exact W_none | exact W_ok | (simp only [W_Wd, LifQ_D, LibQ_D, AndQ_D, SqQ_D, StoQ_D, EnQ_D, C2Q_D, OrdQ_D, CelQ_D, FmtQ_D]; done) | (simp only [W_Wd, LifQ_D, LibQ_D, AndQ_D, SqQ_D, StoQ_D, EnQ_D, C2Q_D, OrdQ_D, CelQ_D, FmtQ_D]; rfl))))
theorem q_orm {a : Te} {l : Tv} : W (dOr T (.more a l) ρ S) Q E = W (dE T a ρ S) (fun x S1 => AndQ (blOf x) (Q (.p (.bl true)) S1) (W (dOr T l ρ S1) Q E)) E := by
  show W (fOr (dE T a) (dOr T l) ρ S) Q E = _
  unfold fOr; rw [W_bind]
  congr 1; funext x S1
  cases blOf x with
  | none => (first | rfl | exact W_none | exact W_ok | (simp only [W_Wd, LifQ_D, LibQ_D, AndQ_D, SqQ_D, StoQ_D, EnQ_D, C2Q_D, OrdQ_D, CelQ_D, FmtQ_D]; done) | (simp only [W_Wd, LifQ_D, LibQ_D, AndQ_D, SqQ_D, StoQ_D, EnQ_D, C2Q_D, OrdQ_D, CelQ_D, FmtQ_D]; rfl))
  | some b => cases b <;> (first | rfl | exact W_none | exact W_ok | (simp only [W_Wd, LifQ_D, LibQ_D, AndQ_D, SqQ_D, StoQ_D, EnQ_D, C2Q_D, OrdQ_D, CelQ_D, FmtQ_D]; done) | (simp only [W_Wd, LifQ_D, LibQ_D, AndQ_D, SqQ_D, StoQ_D, EnQ_D, C2Q_D, OrdQ_D, CelQ_D, FmtQ_D]; rfl))
theorem q_not {a : Te} : W (dE T (.not_ a) ρ S) Q E = W (dE T a ρ S) (fun x S1 => LibQ (truU x S1) S1 fun b S2 => Q (.p (.bl (!b))) S2) E := by
  show W (fNotV (fTru (dE T a)) ρ S) Q E = _
  unfold fNotV fTru; simp only [W_bind, q_liftB]; (first | rfl | exact W_none | exact W_ok | (simp only [W_Wd, LifQ_D, LibQ_D, AndQ_D, SqQ_D, StoQ_D, EnQ_D, C2Q_D, OrdQ_D, CelQ_D, FmtQ_D]; done) | (simp only [W_Wd, LifQ_D, LibQ_D, AndQ_D, SqQ_D, StoQ_D, EnQ_D, C2Q_D, OrdQ_D, CelQ_D, FmtQ_D]; rfl))
theorem q_ite {t : Tt} {a b : Te} : W (dE T (.ite t a b) ρ S) Q E = W (dT T t ρ S) (fun c S1 => IfQ c (W (dE T a ρ S1) Q E) (W (dE T b ρ S1) Q E)) E := by
  show W (fIte (dT T t) (dE T a) (dE T b) ρ S) Q E = _
  unfold fIte; simp only [W_bind, W_ite]; (first | rfl | exact W_none | exact W_ok | (simp only [W_Wd, LifQ_D, LibQ_D, AndQ_D, SqQ_D, StoQ_D, EnQ_D, C2Q_D, OrdQ_D, CelQ_D, FmtQ_D]; done) | (simp only [W_Wd, LifQ_D, LibQ_D, AndQ_D, SqQ_D, StoQ_D, EnQ_D, C2Q_D, OrdQ_D, CelQ_D, FmtQ_D]; rfl))
theorem q_blt {b : Bl} {l : Tl} : W (dE T (.blt b l) ρ S) Q E = W (dL T l ρ S) (fun us S1 => LifQ (bltP b us S1) S1 Q) E := by
  show W (fBlt (bltP b) (dL T l) ρ S) Q E = _
  unfold fBlt; simp only [W_bind, q_lift]
theorem q_gcd {l : Tl} : W (dE T (.gcd l) ρ S) Q E = W (dL T l ρ S) (fun us S1 => LifQ (gcdP us S1) S1 Q) E := by
  show W (fBlt gcdP (dL T l) ρ S) Q E = _
  unfold fBlt; simp only [W_bind, q_lift]
theorem q_call {f : Str} {l : Tl} : W (dE T (.call f l) ρ S) Q E = W (dL T l ρ S) (fun us S1 => W (T f us S1) Q E) E := by
  show W (fApp (T f) (dL T l) ρ S) Q E = _
  unfold fApp; simp only [W_bind]
theorem q_make {d f : Str} {l : Tl} : W (dE T (.make d f l) ρ S) Q E = W (dL T l ρ S) (fun us S1 => W (T f us S1) Q E) E := by
  show W (fApp (T f) (dL T l) ρ S) Q E = _
  unfold fApp; simp only [W_bind]
theorem OrdQ_some {n k : Nat} {us : List U} {Q : List U → Prop} : OrdQ n k (some us) Q = (n = k ∧ Q us) := by (first | rfl | exact W_none | exact W_ok | (simp only [W_Wd, LifQ_D, LibQ_D, AndQ_D, SqQ_D, StoQ_D, EnQ_D, C2Q_D, OrdQ_D, CelQ_D, FmtQ_D]; done) | (simp only [W_Wd, LifQ_D, LibQ_D, AndQ_D, SqQ_D, StoQ_D, EnQ_D, C2Q_D, OrdQ_D, CelQ_D, FmtQ_D]; (first | rfl | exact W_none | exact W_ok | (simp only [W_Wd, LifQ_D, LibQ_D, AndQ_D, SqQ_D, StoQ_D, EnQ_D, C2Q_D, OrdQ_D, CelQ_D, FmtQ_D]; done) | (simp only [W_Wd, LifQ_D, LibQ_D, AndQ_D, SqQ_D, StoQ_D, EnQ_D, C2Q_D, OrdQ_D, CelQ_D, FmtQ_D]; rfl))))
theorem q_ord {g : List U → Sto → M U} {ks ps : List Str} {l : FA} : W (fApp g (fOrd ks ps l) ρ S) Q E = W (l ρ S) (fun us S1 => OrdQ us.length ks.length (inOrd ks us ps) fun vs => W (g vs S1) Q E) E := by
  unfold fApp fOrd
  simp only [W_bind]
  congr 1; funext us S1
  rw [OrdQ_D]
  rcases inOrd ks us ps with _ | r
  · exact W_none
  · show W (if us.length = ks.length then _ else _) _ _ = _
    rw [W_ite]
    by_cases h : us.length = ks.length
    · rw [if_pos h]
      exact propext ⟨fun z => ⟨h, by rw [W_ok] at z; exact z⟩, fun z => by rw [W_ok]; exact z.2⟩
    · rw [if_neg h]
      exact propext ⟨fun z => by rw [W_none] at z; exact z.elim, fun z => (h z.1).elim⟩
theorem q_callK {f : Str} {ks ps : List Str} {l : Tl} : W (dE T (.callK f ks ps l) ρ S) Q E = W (dL T l ρ S) (fun us S1 => OrdQ us.length ks.length (inOrd ks us ps) fun vs => W (T f vs S1) Q E) E := q_ord
theorem q_makeK {d f : Str} {ks ps : List Str} {l : Tl} : W (dE T (.makeK d f ks ps l) ρ S) Q E = W (dL T l ρ S) (fun us S1 => OrdQ us.length ks.length (inOrd ks us ps) fun vs => W (T f vs S1) Q E) E := q_ord
theorem q_tup {l : Tl} : W (dE T (.tup l) ρ S) Q E = W (dL T l ρ S) (fun us S1 => LifQ ((puresS us).map .tup) S1 Q) E := by
  show W (fTup (dL T l) ρ S) Q E = _
  unfold fTup fBlt; simp only [W_bind, q_lift]
theorem q_lst {l : Tl} : W (dE T (.lst l) ρ S) Q E = W (dL T l ρ S) (fun us S1 => LifQ ((puresS us).map .lst) S1 Q) E := by
  show W (fLst (dL T l) ρ S) Q E = _
  unfold fLst fBlt; simp only [W_bind, q_lift]
theorem CelQ_some {xs : List P} {S : Sto} : CelQ (some xs) S Q = Q (.c S.length) (S ++ [xs]) := by (first | rfl | exact W_none | exact W_ok | (simp only [W_Wd, LifQ_D, LibQ_D, AndQ_D, SqQ_D, StoQ_D, EnQ_D, C2Q_D, OrdQ_D, CelQ_D, FmtQ_D]; done) | (simp only [W_Wd, LifQ_D, LibQ_D, AndQ_D, SqQ_D, StoQ_D, EnQ_D, C2Q_D, OrdQ_D, CelQ_D, FmtQ_D]; (first | rfl | exact W_none | exact W_ok | (simp only [W_Wd, LifQ_D, LibQ_D, AndQ_D, SqQ_D, StoQ_D, EnQ_D, C2Q_D, OrdQ_D, CelQ_D, FmtQ_D]; done) | (simp only [W_Wd, LifQ_D, LibQ_D, AndQ_D, SqQ_D, StoQ_D, EnQ_D, C2Q_D, OrdQ_D, CelQ_D, FmtQ_D]; rfl))))
theorem q_cel {l : Tl} : W (dE T (.cel l) ρ S) Q E = W (dL T l ρ S) (fun us S1 => CelQ (puresS us) S1 Q) E := by
  show W (fCel (dL T l) ρ S) Q E = _
  unfold fCel fApp; simp only [W_bind]
  congr 1; funext us S1
  cases puresS us <;> (first | rfl | exact W_none | exact W_ok | (simp only [W_Wd, LifQ_D, LibQ_D, AndQ_D, SqQ_D, StoQ_D, EnQ_D, C2Q_D, OrdQ_D, CelQ_D, FmtQ_D]; done) | (simp only [W_Wd, LifQ_D, LibQ_D, AndQ_D, SqQ_D, StoQ_D, EnQ_D, C2Q_D, OrdQ_D, CelQ_D, FmtQ_D]; rfl))
theorem q_idx {a b : Te} : W (dE T (.idx a b) ρ S) Q E = W (dE T a ρ S) (fun x S1 => W (dE T b ρ S1) (fun y S2 => LifQ (idxP x y S2) S2 Q) E) E := by
  show W (fBin idxP (dE T a) (dE T b) ρ S) Q E = _
  unfold fBin; simp only [W_bind, q_lift]
theorem q_sli {a : Te} {lo hi : To} : W (dE T (.sli a lo hi) ρ S) Q E = W (dE T a ρ S) (fun x S1 => W (dO T lo ρ S1) (fun l S2 => W (dO T hi ρ S2) (fun u S3 => LifQ (cutU x l u S3) S3 Q) E) E) E := by
  show W (fSli (dE T a) (dO T lo) (dO T hi) ρ S) Q E = _
  unfold fSli; simp only [W_bind, q_lift]
theorem q_comp {cell : Bool} {own : List (Str × Nat)} {t : Tg} {it : Ti} {c : Tc} {a : Te} : W (dE T (.comp cell own t it c a) ρ S) Q E = W (fComp cell (own.map (·.2)) (dE T a) t (dI T it) (dC T c) ρ S) Q E := by (first | rfl | exact W_none | exact W_ok | (simp only [W_Wd, LifQ_D, LibQ_D, AndQ_D, SqQ_D, StoQ_D, EnQ_D, C2Q_D, OrdQ_D, CelQ_D, FmtQ_D]; done) | (simp only [W_Wd, LifQ_D, LibQ_D, AndQ_D, SqQ_D, StoQ_D, EnQ_D, C2Q_D, OrdQ_D, CelQ_D, FmtQ_D]; (first | rfl | exact W_none | exact W_ok | (simp only [W_Wd, LifQ_D, LibQ_D, AndQ_D, SqQ_D, StoQ_D, EnQ_D, C2Q_D, OrdQ_D, CelQ_D, FmtQ_D]; done) | (simp only [W_Wd, LifQ_D, LibQ_D, AndQ_D, SqQ_D, StoQ_D, EnQ_D, C2Q_D, OrdQ_D, CelQ_D, FmtQ_D]; rfl))))
theorem q_app {o a : Te} : W (dE T (.app o a) ρ S) Q E = W (dE T o ρ S) (fun x S1 => match x with
    | .c n => W (dE T a ρ S1) (fun y S2 => W (appC n y S2) Q E) E
    | .p _ => False) E := by
  show W (fAppend (dE T o) (dE T a) ρ S) Q E = _
  unfold fAppend; rw [W_bind]
  congr 1; funext x S1
  cases x with
  | p z => (first | rfl | exact W_none | exact W_ok | (simp only [W_Wd, LifQ_D, LibQ_D, AndQ_D, SqQ_D, StoQ_D, EnQ_D, C2Q_D, OrdQ_D, CelQ_D, FmtQ_D]; done) | (simp only [W_Wd, LifQ_D, LibQ_D, AndQ_D, SqQ_D, StoQ_D, EnQ_D, C2Q_D, OrdQ_D, CelQ_D, FmtQ_D]; rfl))
  | c n => simp only [W_bind]
theorem q_isi {b : Bt} {a : Te} : W (dE T (.isi b a) ρ S) Q E = W (dE T a ρ S) (fun x S1 => LifQ ((isiP b.ty x).map .bl) S1 Q) E := by
  show W (fIsi b.ty (dE T a) ρ S) Q E = _
  unfold fIsi fUn; simp only [W_bind, q_lift]
theorem q_repr {l : Tl} : W (dE T (.repr l) ρ S) Q E = W (dL T l ρ S) (fun us S1 => LifQ (reprP us S1) S1 Q) E := by
  show W (fBlt reprP (dL T l) ρ S) Q E = _
  unfold fBlt; simp only [W_bind, q_lift]
theorem q_fld {d f : Str} {a : Te} : W (dE T (.fld d f a) ρ S) Q E = W (dE T a ρ S) (fun x S1 => LifQ (fldP d f x S1) S1 Q) E := by
  show W (fUn (fldP d f) (dE T a) ρ S) Q E = _
  unfold fUn; simp only [W_bind, q_lift]
theorem q_isc {d : Str} {a : Te} : W (dE T (.isc d a) ρ S) Q E = W (dE T a ρ S) (fun x S1 => LifQ (iscP d x S1) S1 Q) E := by
  show W (fUn (iscP d) (dE T a) ρ S) Q E = _
  unfold fUn; simp only [W_bind, q_lift]
theorem q_isx {t : Str} {tbl : List (Str × Bool)} {a : Te} : W (dE T (.isx t tbl a) ρ S) Q E = W (dE T a ρ S) (fun x S1 => LifQ (isxP tbl x S1) S1 Q) E := by
  show W (fUn (isxP tbl) (dE T a) ρ S) Q E = _
  unfold fUn; simp only [W_bind, q_lift]
theorem q_isb {t : Eb} {tbl : List (Str × Bool)} {a : Te} : W (dE T (.isb t tbl a) ρ S) Q E = W (dE T a ρ S) (fun x S1 => LifQ (isxP tbl x S1) S1 Q) E := by
  show W (fUn (isxP tbl) (dE T a) ρ S) Q E = _
  unfold fUn; simp only [W_bind, q_lift]
theorem q_erf {f : Str} {cs : List Str} {a : Te} : W (dE T (.erf f cs a) ρ S) Q E = W (dE T a ρ S) (fun x S1 => LifQ (erfP f cs x S1) S1 Q) E := by
  show W (fUn (erfP f cs) (dE T a) ρ S) Q E = _
  unfold fUn; simp only [W_bind, q_lift]
theorem q_rev {a : Te} : W (dE T (.rev a) ρ S) Q E = W (dE T a ρ S) (fun x S1 => LifQ (revP x S1) S1 Q) E := by
  show W (fUn revP (dE T a) ρ S) Q E = _
  unfold fUn; simp only [W_bind, q_lift]
theorem q_fstr {l : Tf} : W (dE T (.fstr l) ρ S) Q E = W (fJ (dF T l) Str.empty ρ S) (fun s S1 => Q (.p (.str s)) S1) E := by
  show W (fFs (dF T l) ρ S) Q E = _
  unfold fFs; rw [W_bind]; (first | rfl | exact W_none | exact W_ok | (simp only [W_Wd, LifQ_D, LibQ_D, AndQ_D, SqQ_D, StoQ_D, EnQ_D, C2Q_D, OrdQ_D, CelQ_D, FmtQ_D]; done) | (simp only [W_Wd, LifQ_D, LibQ_D, AndQ_D, SqQ_D, StoQ_D, EnQ_D, C2Q_D, OrdQ_D, CelQ_D, FmtQ_D]; rfl))
theorem q_fnil {acc : Str} {Q : Str → Sto → Prop} : W (fJ (dF T .nil) acc ρ S) Q E = Q acc S := by (first | rfl | exact W_none | exact W_ok | (simp only [W_Wd, LifQ_D, LibQ_D, AndQ_D, SqQ_D, StoQ_D, EnQ_D, C2Q_D, OrdQ_D, CelQ_D, FmtQ_D]; done) | (simp only [W_Wd, LifQ_D, LibQ_D, AndQ_D, SqQ_D, StoQ_D, EnQ_D, C2Q_D, OrdQ_D, CelQ_D, FmtQ_D]; (first | rfl | exact W_none | exact W_ok | (simp only [W_Wd, LifQ_D, LibQ_D, AndQ_D, SqQ_D, StoQ_D, EnQ_D, C2Q_D, OrdQ_D, CelQ_D, FmtQ_D]; done) | (simp only [W_Wd, LifQ_D, LibQ_D, AndQ_D, SqQ_D, StoQ_D, EnQ_D, C2Q_D, OrdQ_D, CelQ_D, FmtQ_D]; rfl))))
theorem q_ftxt {acc s : Str} {l : Tf} {Q : Str → Sto → Prop} : W (fJ (dF T (.txt s l)) acc ρ S) Q E = if (acc ++ s).length ≤ 16777216 then W (fJ (dF T l) (acc ++ s) ρ S) Q E else False := by
  have e : fJ (dF T (.txt s l)) acc ρ S = if (acc ++ s).length ≤ 16777216 then fJ (dF T l) (acc ++ s) ρ S else none := rfl
  rw [e, W_ite]; (first | rfl | exact W_none | exact W_ok | (simp only [W_Wd, LifQ_D, LibQ_D, AndQ_D, SqQ_D, StoQ_D, EnQ_D, C2Q_D, OrdQ_D, CelQ_D, FmtQ_D]; done) | (simp only [W_Wd, LifQ_D, LibQ_D, AndQ_D, SqQ_D, StoQ_D, EnQ_D, C2Q_D, OrdQ_D, CelQ_D, FmtQ_D]; rfl))
theorem FmtQ_some {s : Str} {Q : Str → Prop} : FmtQ (some s) Q = Q s := by (first | rfl | exact W_none | exact W_ok | (simp only [W_Wd, LifQ_D, LibQ_D, AndQ_D, SqQ_D, StoQ_D, EnQ_D, C2Q_D, OrdQ_D, CelQ_D, FmtQ_D]; done) | (simp only [W_Wd, LifQ_D, LibQ_D, AndQ_D, SqQ_D, StoQ_D, EnQ_D, C2Q_D, OrdQ_D, CelQ_D, FmtQ_D]; (first | rfl | exact W_none | exact W_ok | (simp only [W_Wd, LifQ_D, LibQ_D, AndQ_D, SqQ_D, StoQ_D, EnQ_D, C2Q_D, OrdQ_D, CelQ_D, FmtQ_D]; done) | (simp only [W_Wd, LifQ_D, LibQ_D, AndQ_D, SqQ_D, StoQ_D, EnQ_D, C2Q_D, OrdQ_D, CelQ_D, FmtQ_D]; rfl))))
theorem q_fval {acc : Str} {a : Te} {l : Tf} {Q : Str → Sto → Prop} : W (fJ (dF T (.val a l)) acc ρ S) Q E = W (dE T a ρ S) (fun u S1 => FmtQ (fmtU u) fun s => if (acc ++ s).length ≤ 16777216 then W (fJ (dF T l) (acc ++ s) ρ S1) Q E else False) E := by
  have e : fJ (dF T (.val a l)) acc ρ S = (dE T a ρ S).bind fun u S1 => match fmtU u with
    | some s => if (acc ++ s).length ≤ 16777216 then fJ (dF T l) (acc ++ s) ρ S1 else none
    | none => none := rfl
  rw [e, W_bind]
  congr 1; funext u S1
  cases fmtU u with
  | none => (first | rfl | exact W_none | exact W_ok | (simp only [W_Wd, LifQ_D, LibQ_D, AndQ_D, SqQ_D, StoQ_D, EnQ_D, C2Q_D, OrdQ_D, CelQ_D, FmtQ_D]; done) | (simp only [W_Wd, LifQ_D, LibQ_D, AndQ_D, SqQ_D, StoQ_D, EnQ_D, C2Q_D, OrdQ_D, CelQ_D, FmtQ_D]; rfl))
  | some s => simp only [W_ite]; (first | rfl | exact W_none | exact W_ok | (simp only [W_Wd, LifQ_D, LibQ_D, AndQ_D, SqQ_D, StoQ_D, EnQ_D, C2Q_D, OrdQ_D, CelQ_D, FmtQ_D]; done) | (simp only [W_Wd, LifQ_D, LibQ_D, AndQ_D, SqQ_D, StoQ_D, EnQ_D, C2Q_D, OrdQ_D, CelQ_D, FmtQ_D]; rfl))
end
section
variable {Q : List U → Sto → Prop}
theorem q_nil : W (dL T .nil ρ S) Q E = Q [] S := by (first | rfl | exact W_none | exact W_ok | (simp only [W_Wd, LifQ_D, LibQ_D, AndQ_D, SqQ_D, StoQ_D, EnQ_D, C2Q_D, OrdQ_D, CelQ_D, FmtQ_D]; done) | (simp only [W_Wd, LifQ_D, LibQ_D, AndQ_D, SqQ_D, StoQ_D, EnQ_D, C2Q_D, OrdQ_D, CelQ_D, FmtQ_D]; (first | rfl | exact W_none | exact W_ok | (simp only [W_Wd, LifQ_D, LibQ_D, AndQ_D, SqQ_D, StoQ_D, EnQ_D, C2Q_D, OrdQ_D, CelQ_D, FmtQ_D]; done) | (simp only [W_Wd, LifQ_D, LibQ_D, AndQ_D, SqQ_D, StoQ_D, EnQ_D, C2Q_D, OrdQ_D, CelQ_D, FmtQ_D]; rfl))))
theorem q_cons {a : Te} {l : Tl} : W (dL T (.cons a l) ρ S) Q E = W (dE T a ρ S) (fun x S1 => W (dL T l ρ S1) (fun xs S2 => Q (x :: xs) S2) E) E := by
  show W (fCons (dE T a) (dL T l) ρ S) Q E = _
  unfold fCons; simp only [W_bind]; (first | rfl | exact W_none | exact W_ok | (simp only [W_Wd, LifQ_D, LibQ_D, AndQ_D, SqQ_D, StoQ_D, EnQ_D, C2Q_D, OrdQ_D, CelQ_D, FmtQ_D]; done) | (simp only [W_Wd, LifQ_D, LibQ_D, AndQ_D, SqQ_D, StoQ_D, EnQ_D, C2Q_D, OrdQ_D, CelQ_D, FmtQ_D]; rfl))
end
section
variable {Q : Option Int → Sto → Prop}
theorem q_no : W (dO T .no ρ S) Q E = Q none S := by (first | rfl | exact W_none | exact W_ok | (simp only [W_Wd, LifQ_D, LibQ_D, AndQ_D, SqQ_D, StoQ_D, EnQ_D, C2Q_D, OrdQ_D, CelQ_D, FmtQ_D]; done) | (simp only [W_Wd, LifQ_D, LibQ_D, AndQ_D, SqQ_D, StoQ_D, EnQ_D, C2Q_D, OrdQ_D, CelQ_D, FmtQ_D]; (first | rfl | exact W_none | exact W_ok | (simp only [W_Wd, LifQ_D, LibQ_D, AndQ_D, SqQ_D, StoQ_D, EnQ_D, C2Q_D, OrdQ_D, CelQ_D, FmtQ_D]; done) | (simp only [W_Wd, LifQ_D, LibQ_D, AndQ_D, SqQ_D, StoQ_D, EnQ_D, C2Q_D, OrdQ_D, CelQ_D, FmtQ_D]; rfl))))
theorem q_so {a : Te} : W (dO T (.so a) ρ S) Q E = W (dE T a ρ S) (fun x S1 => match x with
    | .p (.int i) => Q (some i) S1
    | _ => False) E := by
  show W (fSoP (dE T a) ρ S) Q E = _
  unfold fSoP; rw [W_bind]
  congr 1; funext x S1
  cases x with
  | c n => (first | rfl | exact W_none | exact W_ok | (simp only [W_Wd, LifQ_D, LibQ_D, AndQ_D, SqQ_D, StoQ_D, EnQ_D, C2Q_D, OrdQ_D, CelQ_D, FmtQ_D]; done) | (simp only [W_Wd, LifQ_D, LibQ_D, AndQ_D, SqQ_D, StoQ_D, EnQ_D, C2Q_D, OrdQ_D, CelQ_D, FmtQ_D]; rfl))
  | p z => cases z <;> (first | rfl | exact W_none | exact W_ok | (simp only [W_Wd, LifQ_D, LibQ_D, AndQ_D, SqQ_D, StoQ_D, EnQ_D, C2Q_D, OrdQ_D, CelQ_D, FmtQ_D]; done) | (simp only [W_Wd, LifQ_D, LibQ_D, AndQ_D, SqQ_D, StoQ_D, EnQ_D, C2Q_D, OrdQ_D, CelQ_D, FmtQ_D]; rfl))
end
section
variable {Q : Bool → Sto → Prop}
theorem q_tru {a : Te} : W (dT T (.tru a) ρ S) Q E = W (dE T a ρ S) (fun x S1 => LibQ (truU x S1) S1 Q) E := by
  show W (fTru (dE T a) ρ S) Q E = _
  unfold fTru; simp only [W_bind, q_liftB]
theorem q_tcmp {o : Cop} {a b : Te} : W (dT T (.cmp o a b) ρ S) Q E = W (dE T a ρ S) (fun x S1 => W (dE T b ρ S1) (fun y S2 => LifQ (cmpP o x y S2) S2 fun u S3 => LibQ (blOf u) S3 Q) E) E := by
  show W (fBl (fBin (cmpP o) (dE T a) (dE T b)) ρ S) Q E = _
  unfold fBl fBin; simp only [W_bind, q_lift, q_liftB]
theorem q_tcmp2 {o o' : Cop} {a b c : Te} : W (dT T (.cmp2 o o' a b c) ρ S) Q E = W (dE T (.cmp2 o o' a b c) ρ S) (fun u S3 => LibQ (blOf u) S3 Q) E := by
  show W (fBl (dE T (.cmp2 o o' a b c)) ρ S) Q E = _
  unfold fBl; simp only [W_bind, q_liftB]
theorem q_tnot {t : Tt} : W (dT T (.not_ t) ρ S) Q E = W (dT T t ρ S) (fun b S1 => Q (!b) S1) E := by
  show W (fNotT (dT T t) ρ S) Q E = _
  unfold fNotT; simp only [W_bind]; (first | rfl | exact W_none | exact W_ok | (simp only [W_Wd, LifQ_D, LibQ_D, AndQ_D, SqQ_D, StoQ_D, EnQ_D, C2Q_D, OrdQ_D, CelQ_D, FmtQ_D]; done) | (simp only [W_Wd, LifQ_D, LibQ_D, AndQ_D, SqQ_D, StoQ_D, EnQ_D, C2Q_D, OrdQ_D, CelQ_D, FmtQ_D]; rfl))
theorem q_tand {l : Tb} : W (dT T (.and_ l) ρ S) Q E = W (dAndT T l ρ S) Q E := by (first | rfl | exact W_none | exact W_ok | (simp only [W_Wd, LifQ_D, LibQ_D, AndQ_D, SqQ_D, StoQ_D, EnQ_D, C2Q_D, OrdQ_D, CelQ_D, FmtQ_D]; done) | (simp only [W_Wd, LifQ_D, LibQ_D, AndQ_D, SqQ_D, StoQ_D, EnQ_D, C2Q_D, OrdQ_D, CelQ_D, FmtQ_D]; (first | rfl | exact W_none | exact W_ok | (simp only [W_Wd, LifQ_D, LibQ_D, AndQ_D, SqQ_D, StoQ_D, EnQ_D, C2Q_D, OrdQ_D, CelQ_D, FmtQ_D]; done) | (simp only [W_Wd, LifQ_D, LibQ_D, AndQ_D, SqQ_D, StoQ_D, EnQ_D, C2Q_D, OrdQ_D, CelQ_D, FmtQ_D]; rfl))))
theorem q_tor {l : Tb} : W (dT T (.or_ l) ρ S) Q E = W (dOrT T l ρ S) Q E := by (first | rfl | exact W_none | exact W_ok | (simp only [W_Wd, LifQ_D, LibQ_D, AndQ_D, SqQ_D, StoQ_D, EnQ_D, C2Q_D, OrdQ_D, CelQ_D, FmtQ_D]; done) | (simp only [W_Wd, LifQ_D, LibQ_D, AndQ_D, SqQ_D, StoQ_D, EnQ_D, C2Q_D, OrdQ_D, CelQ_D, FmtQ_D]; (first | rfl | exact W_none | exact W_ok | (simp only [W_Wd, LifQ_D, LibQ_D, AndQ_D, SqQ_D, StoQ_D, EnQ_D, C2Q_D, OrdQ_D, CelQ_D, FmtQ_D]; done) | (simp only [W_Wd, LifQ_D, LibQ_D, AndQ_D, SqQ_D, StoQ_D, EnQ_D, C2Q_D, OrdQ_D, CelQ_D, FmtQ_D]; rfl))))
theorem q_tand1 {t : Tt} : W (dAndT T (.one t) ρ S) Q E = W (dT T t ρ S) Q E := by (first | rfl | exact W_none | exact W_ok | (simp only [W_Wd, LifQ_D, LibQ_D, AndQ_D, SqQ_D, StoQ_D, EnQ_D, C2Q_D, OrdQ_D, CelQ_D, FmtQ_D]; done) | (simp only [W_Wd, LifQ_D, LibQ_D, AndQ_D, SqQ_D, StoQ_D, EnQ_D, C2Q_D, OrdQ_D, CelQ_D, FmtQ_D]; (first | rfl | exact W_none | exact W_ok | (simp only [W_Wd, LifQ_D, LibQ_D, AndQ_D, SqQ_D, StoQ_D, EnQ_D, C2Q_D, OrdQ_D, CelQ_D, FmtQ_D]; done) | (simp only [W_Wd, LifQ_D, LibQ_D, AndQ_D, SqQ_D, StoQ_D, EnQ_D, C2Q_D, OrdQ_D, CelQ_D, FmtQ_D]; rfl))))
theorem q_tor1 {t : Tt} : W (dOrT T (.one t) ρ S) Q E = W (dT T t ρ S) Q E := by (first | rfl | exact W_none | exact W_ok | (simp only [W_Wd, LifQ_D, LibQ_D, AndQ_D, SqQ_D, StoQ_D, EnQ_D, C2Q_D, OrdQ_D, CelQ_D, FmtQ_D]; done) | (simp only [W_Wd, LifQ_D, LibQ_D, AndQ_D, SqQ_D, StoQ_D, EnQ_D, C2Q_D, OrdQ_D, CelQ_D, FmtQ_D]; (first | rfl | exact W_none | exact W_ok | (simp only [W_Wd, LifQ_D, LibQ_D, AndQ_D, SqQ_D, StoQ_D, EnQ_D, C2Q_D, OrdQ_D, CelQ_D, FmtQ_D]; done) | (simp only [W_Wd, LifQ_D, LibQ_D, AndQ_D, SqQ_D, StoQ_D, EnQ_D, C2Q_D, OrdQ_D, CelQ_D, FmtQ_D]; rfl))))
theorem q_tandm {t : Tt} {l : Tb} : W (dAndT T (.more t l) ρ S) Q E = W (dT T t ρ S) (fun b S1 => IfQ b (W (dAndT T l ρ S1) Q E) (Q false S1)) E := by
  show W (fAndT (dT T t) (dAndT T l) ρ S) Q E = _
  unfold fAndT; simp only [W_bind, W_ite]; (first | rfl | exact W_none | exact W_ok | (simp only [W_Wd, LifQ_D, LibQ_D, AndQ_D, SqQ_D, StoQ_D, EnQ_D, C2Q_D, OrdQ_D, CelQ_D, FmtQ_D]; done) | (simp only [W_Wd, LifQ_D, LibQ_D, AndQ_D, SqQ_D, StoQ_D, EnQ_D, C2Q_D, OrdQ_D, CelQ_D, FmtQ_D]; rfl))
theorem q_torm {t : Tt} {l : Tb} : W (dOrT T (.more t l) ρ S) Q E = W (dT T t ρ S) (fun b S1 => IfQ b (Q true S1) (W (dOrT T l ρ S1) Q E)) E := by
  show W (fOrT (dT T t) (dOrT T l) ρ S) Q E = _
  unfold fOrT; simp only [W_bind, W_ite]; (first | rfl | exact W_none | exact W_ok | (simp only [W_Wd, LifQ_D, LibQ_D, AndQ_D, SqQ_D, StoQ_D, EnQ_D, C2Q_D, OrdQ_D, CelQ_D, FmtQ_D]; done) | (simp only [W_Wd, LifQ_D, LibQ_D, AndQ_D, SqQ_D, StoQ_D, EnQ_D, C2Q_D, OrdQ_D, CelQ_D, FmtQ_D]; rfl))
theorem q_cno : W (dC T .no ρ S) Q E = Q true S := by (first | rfl | exact W_none | exact W_ok | (simp only [W_Wd, LifQ_D, LibQ_D, AndQ_D, SqQ_D, StoQ_D, EnQ_D, C2Q_D, OrdQ_D, CelQ_D, FmtQ_D]; done) | (simp only [W_Wd, LifQ_D, LibQ_D, AndQ_D, SqQ_D, StoQ_D, EnQ_D, C2Q_D, OrdQ_D, CelQ_D, FmtQ_D]; (first | rfl | exact W_none | exact W_ok | (simp only [W_Wd, LifQ_D, LibQ_D, AndQ_D, SqQ_D, StoQ_D, EnQ_D, C2Q_D, OrdQ_D, CelQ_D, FmtQ_D]; done) | (simp only [W_Wd, LifQ_D, LibQ_D, AndQ_D, SqQ_D, StoQ_D, EnQ_D, C2Q_D, OrdQ_D, CelQ_D, FmtQ_D]; rfl))))
theorem q_cso {t : Tt} : W (dC T (.so t) ρ S) Q E = W (dT T t ρ S) Q E := by (first | rfl | exact W_none | exact W_ok | (simp only [W_Wd, LifQ_D, LibQ_D, AndQ_D, SqQ_D, StoQ_D, EnQ_D, C2Q_D, OrdQ_D, CelQ_D, FmtQ_D]; done) | (simp only [W_Wd, LifQ_D, LibQ_D, AndQ_D, SqQ_D, StoQ_D, EnQ_D, C2Q_D, OrdQ_D, CelQ_D, FmtQ_D]; (first | rfl | exact W_none | exact W_ok | (simp only [W_Wd, LifQ_D, LibQ_D, AndQ_D, SqQ_D, StoQ_D, EnQ_D, C2Q_D, OrdQ_D, CelQ_D, FmtQ_D]; done) | (simp only [W_Wd, LifQ_D, LibQ_D, AndQ_D, SqQ_D, StoQ_D, EnQ_D, C2Q_D, OrdQ_D, CelQ_D, FmtQ_D]; rfl))))
end
section
variable {Q : Sq → Sto → Prop}
theorem q_iseq {a : Te} : W (dI T (.seq a) ρ S) Q E = W (dE T a ρ S) (fun u S1 => SqQ (seqOf u S1) S1 Q) E := by
  show W (fSeq (dE T a) ρ S) Q E = _
  unfold fSeq; rw [W_bind]
  congr 1; funext u S1
  cases seqOf u S1 <;> (first | rfl | exact W_none | exact W_ok | (simp only [W_Wd, LifQ_D, LibQ_D, AndQ_D, SqQ_D, StoQ_D, EnQ_D, C2Q_D, OrdQ_D, CelQ_D, FmtQ_D]; done) | (simp only [W_Wd, LifQ_D, LibQ_D, AndQ_D, SqQ_D, StoQ_D, EnQ_D, C2Q_D, OrdQ_D, CelQ_D, FmtQ_D]; rfl))
theorem q_all {g : List U → Sto → Option Sq} {l : FA} : W (fAll g l ρ S) Q E = W (l ρ S) (fun us S1 => SqQ (g us S1) S1 Q) E := by
  unfold fAll; rw [W_bind]
  congr 1; funext u S1
  cases g u S1 <;> (first | rfl | exact W_none | exact W_ok | (simp only [W_Wd, LifQ_D, LibQ_D, AndQ_D, SqQ_D, StoQ_D, EnQ_D, C2Q_D, OrdQ_D, CelQ_D, FmtQ_D]; done) | (simp only [W_Wd, LifQ_D, LibQ_D, AndQ_D, SqQ_D, StoQ_D, EnQ_D, C2Q_D, OrdQ_D, CelQ_D, FmtQ_D]; rfl))
theorem q_rng1 {l : Tl} : W (dI T (.rng1 l) ρ S) Q E = W (dL T l ρ S) (fun us S1 => SqQ (rng1Of us S1) S1 Q) E := q_all
theorem q_rng2 {l : Tl} : W (dI T (.rng2 l) ρ S) Q E = W (dL T l ρ S) (fun us S1 => SqQ (rng2Of us S1) S1 Q) E := q_all
theorem q_zip {l : Tl} : W (dI T (.zip l) ρ S) Q E = W (dL T l ρ S) (fun us S1 => SqQ (zipOf us S1) S1 Q) E := q_all
theorem q_enum {l : Tl} : W (dI T (.enum l) ρ S) Q E = W (dL T l ρ S) (fun us S1 => SqQ (enumOf us S1) S1 Q) E := q_all
end
section
variable {Q : Out → Sto → Prop}
theorem q_snil : W (dS T .nil ρ S) Q E = Q (.nx ρ) S := by (first | rfl | exact W_none | exact W_ok | (simp only [W_Wd, LifQ_D, LibQ_D, AndQ_D, SqQ_D, StoQ_D, EnQ_D, C2Q_D, OrdQ_D, CelQ_D, FmtQ_D]; done) | (simp only [W_Wd, LifQ_D, LibQ_D, AndQ_D, SqQ_D, StoQ_D, EnQ_D, C2Q_D, OrdQ_D, CelQ_D, FmtQ_D]; (first | rfl | exact W_none | exact W_ok | (simp only [W_Wd, LifQ_D, LibQ_D, AndQ_D, SqQ_D, StoQ_D, EnQ_D, C2Q_D, OrdQ_D, CelQ_D, FmtQ_D]; done) | (simp only [W_Wd, LifQ_D, LibQ_D, AndQ_D, SqQ_D, StoQ_D, EnQ_D, C2Q_D, OrdQ_D, CelQ_D, FmtQ_D]; rfl))))
theorem q_scons {a : T1} {l : Ts} : W (dS T (.cons a l) ρ S) Q E = W (d1 T a ρ S) (SeqQ (dS T l) Q E) E := W_seq
theorem q_pass : W (d1 T .pass ρ S) Q E = Q (.nx ρ) S := by (first | rfl | exact W_none | exact W_ok | (simp only [W_Wd, LifQ_D, LibQ_D, AndQ_D, SqQ_D, StoQ_D, EnQ_D, C2Q_D, OrdQ_D, CelQ_D, FmtQ_D]; done) | (simp only [W_Wd, LifQ_D, LibQ_D, AndQ_D, SqQ_D, StoQ_D, EnQ_D, C2Q_D, OrdQ_D, CelQ_D, FmtQ_D]; (first | rfl | exact W_none | exact W_ok | (simp only [W_Wd, LifQ_D, LibQ_D, AndQ_D, SqQ_D, StoQ_D, EnQ_D, C2Q_D, OrdQ_D, CelQ_D, FmtQ_D]; done) | (simp only [W_Wd, LifQ_D, LibQ_D, AndQ_D, SqQ_D, StoQ_D, EnQ_D, C2Q_D, OrdQ_D, CelQ_D, FmtQ_D]; rfl))))
theorem q_brk : W (d1 T .brk ρ S) Q E = Q (.bk ρ) S := by (first | rfl | exact W_none | exact W_ok | (simp only [W_Wd, LifQ_D, LibQ_D, AndQ_D, SqQ_D, StoQ_D, EnQ_D, C2Q_D, OrdQ_D, CelQ_D, FmtQ_D]; done) | (simp only [W_Wd, LifQ_D, LibQ_D, AndQ_D, SqQ_D, StoQ_D, EnQ_D, C2Q_D, OrdQ_D, CelQ_D, FmtQ_D]; (first | rfl | exact W_none | exact W_ok | (simp only [W_Wd, LifQ_D, LibQ_D, AndQ_D, SqQ_D, StoQ_D, EnQ_D, C2Q_D, OrdQ_D, CelQ_D, FmtQ_D]; done) | (simp only [W_Wd, LifQ_D, LibQ_D, AndQ_D, SqQ_D, StoQ_D, EnQ_D, C2Q_D, OrdQ_D, CelQ_D, FmtQ_D]; rfl))))
theorem q_cont : W (d1 T .cont ρ S) Q E = Q (.ct ρ) S := by (first | rfl | exact W_none | exact W_ok | (simp only [W_Wd, LifQ_D, LibQ_D, AndQ_D, SqQ_D, StoQ_D, EnQ_D, C2Q_D, OrdQ_D, CelQ_D, FmtQ_D]; done) | (simp only [W_Wd, LifQ_D, LibQ_D, AndQ_D, SqQ_D, StoQ_D, EnQ_D, C2Q_D, OrdQ_D, CelQ_D, FmtQ_D]; (first | rfl | exact W_none | exact W_ok | (simp only [W_Wd, LifQ_D, LibQ_D, AndQ_D, SqQ_D, StoQ_D, EnQ_D, C2Q_D, OrdQ_D, CelQ_D, FmtQ_D]; done) | (simp only [W_Wd, LifQ_D, LibQ_D, AndQ_D, SqQ_D, StoQ_D, EnQ_D, C2Q_D, OrdQ_D, CelQ_D, FmtQ_D]; rfl))))
theorem q_ret {a : Te} : W (d1 T (.ret a) ρ S) Q E = W (dE T a ρ S) (fun u S1 => Q (.rt u) S1) E := by
  show W (fRet (dE T a) ρ S) Q E = _
  unfold fRet; rw [W_bind]; (first | rfl | exact W_none | exact W_ok | (simp only [W_Wd, LifQ_D, LibQ_D, AndQ_D, SqQ_D, StoQ_D, EnQ_D, C2Q_D, OrdQ_D, CelQ_D, FmtQ_D]; done) | (simp only [W_Wd, LifQ_D, LibQ_D, AndQ_D, SqQ_D, StoQ_D, EnQ_D, C2Q_D, OrdQ_D, CelQ_D, FmtQ_D]; rfl))
theorem q_raise {d f : Str} {a : Te} : W (d1 T (.raise_ d f a) ρ S) Q E = W (dE T a ρ S) (fun u S1 => match u with
    | .p y => E ⟨d, some (f, y)⟩ S1
    | .c _ => False) E := by
  show W (fRaise d f (dE T a) ρ S) Q E = _
  unfold fRaise; rw [W_bind]
  congr 1; funext u S1
  cases u with
  | c n => exact W_none
  | p y => exact W_ex
theorem q_retN : W (d1 T .retN ρ S) Q E = Q (.rt (.p .non)) S := by (first | rfl | exact W_none | exact W_ok | (simp only [W_Wd, LifQ_D, LibQ_D, AndQ_D, SqQ_D, StoQ_D, EnQ_D, C2Q_D, OrdQ_D, CelQ_D, FmtQ_D]; done) | (simp only [W_Wd, LifQ_D, LibQ_D, AndQ_D, SqQ_D, StoQ_D, EnQ_D, C2Q_D, OrdQ_D, CelQ_D, FmtQ_D]; (first | rfl | exact W_none | exact W_ok | (simp only [W_Wd, LifQ_D, LibQ_D, AndQ_D, SqQ_D, StoQ_D, EnQ_D, C2Q_D, OrdQ_D, CelQ_D, FmtQ_D]; done) | (simp only [W_Wd, LifQ_D, LibQ_D, AndQ_D, SqQ_D, StoQ_D, EnQ_D, C2Q_D, OrdQ_D, CelQ_D, FmtQ_D]; rfl))))
theorem q_if {t : Tt} {a b : Ts} : W (d1 T (.if_ t a b) ρ S) Q E = W (dT T t ρ S) (fun c S1 => IfQ c (W (dS T a ρ S1) Q E) (W (dS T b ρ S1) Q E)) E := by
  show W (fIf (dT T t) (dS T a) (dS T b) ρ S) Q E = _
  unfold fIf; simp only [W_bind, W_ite]; (first | rfl | exact W_none | exact W_ok | (simp only [W_Wd, LifQ_D, LibQ_D, AndQ_D, SqQ_D, StoQ_D, EnQ_D, C2Q_D, OrdQ_D, CelQ_D, FmtQ_D]; done) | (simp only [W_Wd, LifQ_D, LibQ_D, AndQ_D, SqQ_D, StoQ_D, EnQ_D, C2Q_D, OrdQ_D, CelQ_D, FmtQ_D]; rfl))
theorem q_set {i : Nat} {a : Te} : W (d1 T (.set i a) ρ S) Q E = W (dE T a ρ S) (fun u S1 => Q (.nx (ρ.set i (some u))) S1) E := by
  show W (fSet i (dE T a) ρ S) Q E = _
  unfold fSet; rw [W_bind]; (first | rfl | exact W_none | exact W_ok | (simp only [W_Wd, LifQ_D, LibQ_D, AndQ_D, SqQ_D, StoQ_D, EnQ_D, C2Q_D, OrdQ_D, CelQ_D, FmtQ_D]; done) | (simp only [W_Wd, LifQ_D, LibQ_D, AndQ_D, SqQ_D, StoQ_D, EnQ_D, C2Q_D, OrdQ_D, CelQ_D, FmtQ_D]; rfl))
theorem q_setK {i : Nat} {cell : Bool} {own : List (Str × Nat)} {t : Tg} {it : Ti} {c : Tc} {a : Te} : W (d1 T (.setK i cell own t it c a) ρ S) Q E = W (fComp cell (own.map (·.2)) (dE T a) t (dI T it) (dC T c) ρ S) (fun u S1 => Q (.nx (ρ.set i (some u))) S1) E := by
  show W (fSet i _ ρ S) Q E = _
  unfold fSet; rw [W_bind]; (first | rfl | exact W_none | exact W_ok | (simp only [W_Wd, LifQ_D, LibQ_D, AndQ_D, SqQ_D, StoQ_D, EnQ_D, C2Q_D, OrdQ_D, CelQ_D, FmtQ_D]; done) | (simp only [W_Wd, LifQ_D, LibQ_D, AndQ_D, SqQ_D, StoQ_D, EnQ_D, C2Q_D, OrdQ_D, CelQ_D, FmtQ_D]; rfl))
theorem q_asg {t : Tg} {a : Te} : W (d1 T (.asg t a) ρ S) Q E = W (dE T a ρ S) (fun u S1 => match u with
    | .p x => EnQ (asg t x ρ) fun ρ1 => Q (.nx ρ1) S1
    | .c _ => False) E := by
  show W (fAsg t (dE T a) ρ S) Q E = _
  unfold fAsg; rw [W_bind]
  congr 1; funext u S1
  cases u with
  | c n => (first | rfl | exact W_none | exact W_ok | (simp only [W_Wd, LifQ_D, LibQ_D, AndQ_D, SqQ_D, StoQ_D, EnQ_D, C2Q_D, OrdQ_D, CelQ_D, FmtQ_D]; done) | (simp only [W_Wd, LifQ_D, LibQ_D, AndQ_D, SqQ_D, StoQ_D, EnQ_D, C2Q_D, OrdQ_D, CelQ_D, FmtQ_D]; rfl))
  | p x =>
    dsimp only
    cases asg t x ρ <;> (first | rfl | exact W_none | exact W_ok | (simp only [W_Wd, LifQ_D, LibQ_D, AndQ_D, SqQ_D, StoQ_D, EnQ_D, C2Q_D, OrdQ_D, CelQ_D, FmtQ_D]; done) | (simp only [W_Wd, LifQ_D, LibQ_D, AndQ_D, SqQ_D, StoQ_D, EnQ_D, C2Q_D, OrdQ_D, CelQ_D, FmtQ_D]; rfl))
theorem q_drop {a : Te} : W (d1 T (.drop a) ρ S) Q E = W (dE T a ρ S) (fun _ S1 => Q (.nx ρ) S1) E := by
  show W (fDrop (dE T a) ρ S) Q E = _
  unfold fDrop; rw [W_bind]; (first | rfl | exact W_none | exact W_ok | (simp only [W_Wd, LifQ_D, LibQ_D, AndQ_D, SqQ_D, StoQ_D, EnQ_D, C2Q_D, OrdQ_D, CelQ_D, FmtQ_D]; done) | (simp only [W_Wd, LifQ_D, LibQ_D, AndQ_D, SqQ_D, StoQ_D, EnQ_D, C2Q_D, OrdQ_D, CelQ_D, FmtQ_D]; rfl))
def ParQ (i j : Nat) (ρ : En) (Q : Out → Sto → Prop) : List U → Sto → Prop := fun us S => match us with
  | [x, y] => Q (.nx ((ρ.set i (some x)).set j (some y))) S
  | _ => False
theorem ParQ_2 {i j : Nat} {x y : U} : ParQ i j ρ Q [x, y] S = Q (.nx ((ρ.set i (some x)).set j (some y))) S := by (first | rfl | exact W_none | exact W_ok | (simp only [W_Wd, LifQ_D, LibQ_D, AndQ_D, SqQ_D, StoQ_D, EnQ_D, C2Q_D, OrdQ_D, CelQ_D, FmtQ_D]; done) | (simp only [W_Wd, LifQ_D, LibQ_D, AndQ_D, SqQ_D, StoQ_D, EnQ_D, C2Q_D, OrdQ_D, CelQ_D, FmtQ_D]; (first | rfl | exact W_none | exact W_ok | (simp only [W_Wd, LifQ_D, LibQ_D, AndQ_D, SqQ_D, StoQ_D, EnQ_D, C2Q_D, OrdQ_D, CelQ_D, FmtQ_D]; done) | (simp only [W_Wd, LifQ_D, LibQ_D, AndQ_D, SqQ_D, StoQ_D, EnQ_D, C2Q_D, OrdQ_D, CelQ_D, FmtQ_D]; rfl))))
theorem q_par {i j : Nat} {l : Tl} : W (d1 T (.par i j l) ρ S) Q E = W (dL T l ρ S) (ParQ i j ρ Q) E := by
  show W (fPar i j (dL T l) ρ S) Q E = _
  unfold fPar; rw [W_bind]
  congr 1; funext us S1
  match us with
  | [] => (first | rfl | exact W_none | exact W_ok | (simp only [W_Wd, LifQ_D, LibQ_D, AndQ_D, SqQ_D, StoQ_D, EnQ_D, C2Q_D, OrdQ_D, CelQ_D, FmtQ_D]; done) | (simp only [W_Wd, LifQ_D, LibQ_D, AndQ_D, SqQ_D, StoQ_D, EnQ_D, C2Q_D, OrdQ_D, CelQ_D, FmtQ_D]; rfl))
  | [_] => (first | rfl | exact W_none | exact W_ok | (simp only [W_Wd, LifQ_D, LibQ_D, AndQ_D, SqQ_D, StoQ_D, EnQ_D, C2Q_D, OrdQ_D, CelQ_D, FmtQ_D]; done) | (simp only [W_Wd, LifQ_D, LibQ_D, AndQ_D, SqQ_D, StoQ_D, EnQ_D, C2Q_D, OrdQ_D, CelQ_D, FmtQ_D]; rfl))
  | [_, _] => (first | rfl | exact W_none | exact W_ok | (simp only [W_Wd, LifQ_D, LibQ_D, AndQ_D, SqQ_D, StoQ_D, EnQ_D, C2Q_D, OrdQ_D, CelQ_D, FmtQ_D]; done) | (simp only [W_Wd, LifQ_D, LibQ_D, AndQ_D, SqQ_D, StoQ_D, EnQ_D, C2Q_D, OrdQ_D, CelQ_D, FmtQ_D]; rfl))
  | _ :: _ :: _ :: _ => (first | rfl | exact W_none | exact W_ok | (simp only [W_Wd, LifQ_D, LibQ_D, AndQ_D, SqQ_D, StoQ_D, EnQ_D, C2Q_D, OrdQ_D, CelQ_D, FmtQ_D]; done) | (simp only [W_Wd, LifQ_D, LibQ_D, AndQ_D, SqQ_D, StoQ_D, EnQ_D, C2Q_D, OrdQ_D, CelQ_D, FmtQ_D]; rfl))
theorem q_for {t : Tg} {it : Ti} {b : Ts} : W (d1 T (.for_ t it b) ρ S) Q E = W (dI T it ρ S) (fun q S1 => W (forL t (dS T b) q q.items ρ S1) Q E) E := W_for
theorem q_while {fu : En → Sto → Nat} {t : Tt} {b : Ts} : W (d1 T (.while_ fu t b) ρ S) Q E = W (whlL (dT T t) (dS T b) (fu ρ S) ρ S) Q E := by (first | rfl | exact W_none | exact W_ok | (simp only [W_Wd, LifQ_D, LibQ_D, AndQ_D, SqQ_D, StoQ_D, EnQ_D, C2Q_D, OrdQ_D, CelQ_D, FmtQ_D]; done) | (simp only [W_Wd, LifQ_D, LibQ_D, AndQ_D, SqQ_D, StoQ_D, EnQ_D, C2Q_D, OrdQ_D, CelQ_D, FmtQ_D]; (first | rfl | exact W_none | exact W_ok | (simp only [W_Wd, LifQ_D, LibQ_D, AndQ_D, SqQ_D, StoQ_D, EnQ_D, C2Q_D, OrdQ_D, CelQ_D, FmtQ_D]; done) | (simp only [W_Wd, LifQ_D, LibQ_D, AndQ_D, SqQ_D, StoQ_D, EnQ_D, C2Q_D, OrdQ_D, CelQ_D, FmtQ_D]; rfl))))
theorem q_sub {a b : FE} {z : P} {Q : Unit → Sto → Prop} : W (fSub a b z ρ S) Q E = W (a ρ S) (fun x S1 => W (b ρ S1) (fun i S2 => StoQ (setC x i z S2) fun S3 => Q () S3) E) E := by
  unfold fSub
  simp only [W_bind]
  congr 1; funext x S1; congr 1; funext i S2
  cases setC x i z S2 <;> (first | rfl | exact W_none | exact W_ok | (simp only [W_Wd, LifQ_D, LibQ_D, AndQ_D, SqQ_D, StoQ_D, EnQ_D, C2Q_D, OrdQ_D, CelQ_D, FmtQ_D]; done) | (simp only [W_Wd, LifQ_D, LibQ_D, AndQ_D, SqQ_D, StoQ_D, EnQ_D, C2Q_D, OrdQ_D, CelQ_D, FmtQ_D]; rfl))
theorem q_setI {o i a : Te} : W (d1 T (.setI o i a) ρ S) Q E = W (dE T a ρ S) (fun u S1 => match u with
    | .p z => W (dE T o ρ S1) (fun x S2 => W (dE T i ρ S2) (fun k S3 => StoQ (setC x k z S3) fun S4 => Q (.nx ρ) S4) E) E
    | .c _ => False) E := by
  show W (fSetI (dE T o) (dE T i) (dE T a) ρ S) Q E = _
  unfold fSetI; rw [W_bind]
  congr 1; funext u S1
  cases u with
  | c n => (first | rfl | exact W_none | exact W_ok | (simp only [W_Wd, LifQ_D, LibQ_D, AndQ_D, SqQ_D, StoQ_D, EnQ_D, C2Q_D, OrdQ_D, CelQ_D, FmtQ_D]; done) | (simp only [W_Wd, LifQ_D, LibQ_D, AndQ_D, SqQ_D, StoQ_D, EnQ_D, C2Q_D, OrdQ_D, CelQ_D, FmtQ_D]; rfl))
  | p z => simp only [W_bind, q_sub]; (first | rfl | exact W_none | exact W_ok | (simp only [W_Wd, LifQ_D, LibQ_D, AndQ_D, SqQ_D, StoQ_D, EnQ_D, C2Q_D, OrdQ_D, CelQ_D, FmtQ_D]; done) | (simp only [W_Wd, LifQ_D, LibQ_D, AndQ_D, SqQ_D, StoQ_D, EnQ_D, C2Q_D, OrdQ_D, CelQ_D, FmtQ_D]; rfl))
theorem q_setIN {o i a : Te} {j : Nat} : W (d1 T (.setIN o i j a) ρ S) Q E = W (dE T a ρ S) (fun u S1 => match asTup u with
    | some [y, z] => W (dE T o ρ S1) (fun x S2 => W (dE T i ρ S2) (fun k S3 => StoQ (setC x k y S3) fun S4 => Q (.nx (ρ.set j (some (.p z)))) S4) E) E
    | _ => False) E := by
  show W (fSetIN (dE T o) (dE T i) j (dE T a) ρ S) Q E = _
  unfold fSetIN; rw [W_bind]
  congr 1; funext u S1
  rcases asTup u with _ | l
  · exact W_none
  · match l with
    | [] => (first | rfl | exact W_none | exact W_ok | (simp only [W_Wd, LifQ_D, LibQ_D, AndQ_D, SqQ_D, StoQ_D, EnQ_D, C2Q_D, OrdQ_D, CelQ_D, FmtQ_D]; done) | (simp only [W_Wd, LifQ_D, LibQ_D, AndQ_D, SqQ_D, StoQ_D, EnQ_D, C2Q_D, OrdQ_D, CelQ_D, FmtQ_D]; rfl))
    | [_] => (first | rfl | exact W_none | exact W_ok | (simp only [W_Wd, LifQ_D, LibQ_D, AndQ_D, SqQ_D, StoQ_D, EnQ_D, C2Q_D, OrdQ_D, CelQ_D, FmtQ_D]; done) | (simp only [W_Wd, LifQ_D, LibQ_D, AndQ_D, SqQ_D, StoQ_D, EnQ_D, C2Q_D, OrdQ_D, CelQ_D, FmtQ_D]; rfl))
    | [_, _] => simp only [W_bind, q_sub]; (first | rfl | exact W_none | exact W_ok | (simp only [W_Wd, LifQ_D, LibQ_D, AndQ_D, SqQ_D, StoQ_D, EnQ_D, C2Q_D, OrdQ_D, CelQ_D, FmtQ_D]; done) | (simp only [W_Wd, LifQ_D, LibQ_D, AndQ_D, SqQ_D, StoQ_D, EnQ_D, C2Q_D, OrdQ_D, CelQ_D, FmtQ_D]; rfl))
    | _ :: _ :: _ :: _ => (first | rfl | exact W_none | exact W_ok | (simp only [W_Wd, LifQ_D, LibQ_D, AndQ_D, SqQ_D, StoQ_D, EnQ_D, C2Q_D, OrdQ_D, CelQ_D, FmtQ_D]; done) | (simp only [W_Wd, LifQ_D, LibQ_D, AndQ_D, SqQ_D, StoQ_D, EnQ_D, C2Q_D, OrdQ_D, CelQ_D, FmtQ_D]; rfl))
theorem q_augI {o i a : Te} : W (d1 T (.augI o i a) ρ S) Q E = W (dE T o ρ S) (fun x S1 => W (dE T i ρ S1) (fun k S2 => match cellAt x k S2 with
    | some (.int m) => W (dE T a ρ S2) (fun u S3 => match u with
      | .p (.int n) => StoQ (setC x k (.int (m + n)) S3) fun S4 => Q (.nx ρ) S4
      | _ => False) E
    | _ => False) E) E := by
  show W (fAugI (dE T o) (dE T i) (dE T a) ρ S) Q E = _
  unfold fAugI; simp only [W_bind]
  congr 1; funext x S1; congr 1; funext k S2
  rcases cellAt x k S2 with _ | l
  · exact W_none
  · cases l with
    | int m =>
      dsimp only
      rw [W_bind]
      congr 1; funext u S3
      cases u with
      | c n => (first | rfl | exact W_none | exact W_ok | (simp only [W_Wd, LifQ_D, LibQ_D, AndQ_D, SqQ_D, StoQ_D, EnQ_D, C2Q_D, OrdQ_D, CelQ_D, FmtQ_D]; done) | (simp only [W_Wd, LifQ_D, LibQ_D, AndQ_D, SqQ_D, StoQ_D, EnQ_D, C2Q_D, OrdQ_D, CelQ_D, FmtQ_D]; rfl))
      | p z => cases z with
        | int n =>
          dsimp only
          cases setC x k _ S3 <;> (first | rfl | exact W_none | exact W_ok | (simp only [W_Wd, LifQ_D, LibQ_D, AndQ_D, SqQ_D, StoQ_D, EnQ_D, C2Q_D, OrdQ_D, CelQ_D, FmtQ_D]; done) | (simp only [W_Wd, LifQ_D, LibQ_D, AndQ_D, SqQ_D, StoQ_D, EnQ_D, C2Q_D, OrdQ_D, CelQ_D, FmtQ_D]; rfl))
        | _ => (first | rfl | exact W_none | exact W_ok | (simp only [W_Wd, LifQ_D, LibQ_D, AndQ_D, SqQ_D, StoQ_D, EnQ_D, C2Q_D, OrdQ_D, CelQ_D, FmtQ_D]; done) | (simp only [W_Wd, LifQ_D, LibQ_D, AndQ_D, SqQ_D, StoQ_D, EnQ_D, C2Q_D, OrdQ_D, CelQ_D, FmtQ_D]; rfl))
    | _ => (first | rfl | exact W_none | exact W_ok | (simp only [W_Wd, LifQ_D, LibQ_D, AndQ_D, SqQ_D, StoQ_D, EnQ_D, C2Q_D, OrdQ_D, CelQ_D, FmtQ_D]; done) | (simp only [W_Wd, LifQ_D, LibQ_D, AndQ_D, SqQ_D, StoQ_D, EnQ_D, C2Q_D, OrdQ_D, CelQ_D, FmtQ_D]; rfl))
end
end
section
variable {T : Tab} {E : Xn → Sto → Prop}
/-- elements made by a computation; the store grows as J says -/
theorem W_compA {cell : Bool} {own : List Nat} {elt : FE} {tg : Tg} {it : FI} {ρ : En} {S : Sto} {Q : U → Sto → Prop} (items : List P) (J : List P → List P → Sto → Prop) (S1 : Sto)
    (hi : W (it ρ S) (fun q S2 => q = ⟨items, none⟩ ∧ S2 = S1) NoX) (h0 : J items [] S1) (hl : items.length < 1000000)
    (hs : ∀ x r acc S', J (x :: r) acc S' → S'.length = S1.length → ∃ ρ1, asg tg x (wipeE ρ own) = some ρ1 ∧
      W (elt ρ1 (S' ++ [acc])) (fun u S3 => ∃ y S'', u = .p y ∧ S3 = S'' ++ [acc] ∧ S''.length = S1.length ∧ J r (acc ++ [y]) S'') NoX)
    (he : ∀ acc S', J [] acc S' → S'.length = S1.length → if cell = true then Q (.c S1.length) (S' ++ [acc]) else Q (.p (.lst acc)) S') : W (fComp cell own elt tg it (dC T .no) ρ S) Q E := by
  obtain ⟨q, S2, e, rfl, rfl⟩ := W_eq hi
  refine W_comp items J _ e h0 hl (fun x r acc S' hJ hl' => ?_) he
  obtain ⟨ρ1, e1, h1⟩ := hs x r acc S' hJ hl'
  refine ⟨ρ1, e1, ?_⟩
  rw [q_cno]
  exact ⟨rfl, by rw [if_pos rfl]; exact h1⟩
/-- elements that are told by a function -/
theorem W_map {cell : Bool} {own : List Nat} {elt : FE} {tg : Tg} {it : FI} {ρ : En} {S : Sto} {Q : U → Sto → Prop} (items : List P) (g : P → P)
    (hi : W (it ρ S) (fun q S2 => q = ⟨items, none⟩ ∧ S2 = S) NoX) (hl : items.length < 1000000)
    (hs : ∀ x ∈ items, ∀ acc, ∃ ρ1, asg tg x (wipeE ρ own) = some ρ1 ∧ W (elt ρ1 (S ++ [acc])) (fun u S3 => u = .p (g x) ∧ S3 = S ++ [acc]) NoX)
    (he : if cell = true then Q (.c S.length) (S ++ [items.map g]) else Q (.p (.lst (items.map g))) S) : W (fComp cell own elt tg it (dC T .no) ρ S) Q E := by
  refine W_compA items (fun r acc S' => S' = S ∧ ∃ l, items = l ++ r ∧ acc = l.map g) S hi ⟨rfl, [], rfl, rfl⟩ hl ?_ ?_
  · rintro x r acc S' ⟨rfl, l, rfl, rfl⟩ _
    obtain ⟨ρ1, e1, h1⟩ := hs x (by simp) (l.map g)
    refine ⟨ρ1, e1, W_imp h1 fun u S3 z => ?_⟩
    obtain ⟨rfl, rfl⟩ := z
    exact ⟨_, _, rfl, rfl, rfl, rfl, l ++ [x], by simp, by simp⟩
  · rintro acc S' ⟨rfl, l, e, rfl⟩ _
    have : l = items := by simpa using e.symm
    subst this
    exact he
/-- with a condition -/
theorem W_filt {cell : Bool} {own : List Nat} {elt : FE} {tg : Tg} {it : FI} {cond : FT} {ρ : En} {S : Sto} {Q : U → Sto → Prop} (items : List P) (f : P → Bool) (g : P → P)
    (hi : W (it ρ S) (fun q S2 => q = ⟨items, none⟩ ∧ S2 = S) NoX) (hl : items.length < 1000000)
    (hs : ∀ x ∈ items, ∀ acc, ∃ ρ1, asg tg x (wipeE ρ own) = some ρ1 ∧ W (cond ρ1 (S ++ [acc])) (fun b S2 => b = f x ∧ S2 = S ++ [acc]) NoX ∧ (f x = true → W (elt ρ1 (S ++ [acc])) (fun u S3 => u = .p (g x) ∧ S3 = S ++ [acc]) NoX))
    (he : if cell = true then Q (.c S.length) (S ++ [(items.filter f).map g]) else Q (.p (.lst ((items.filter f).map g))) S) : W (fComp cell own elt tg it cond ρ S) Q E := by
  obtain ⟨q, S2, e, rfl, rfl⟩ := W_eq hi
  refine W_comp items (fun r acc S' => S' = S2 ∧ ∃ l, items = l ++ r ∧ acc = (l.filter f).map g) _ e ⟨rfl, [], rfl, rfl⟩ hl ?_ ?_
  · rintro x r acc S' ⟨rfl, l, rfl, rfl⟩ _
    obtain ⟨ρ1, e1, h1, h2⟩ := hs x (by simp) ((l.filter f).map g)
    refine ⟨ρ1, e1, W_imp h1 fun b S3 z => ?_⟩
    obtain ⟨rfl, rfl⟩ := z
    refine ⟨rfl, ?_⟩
    by_cases hb : f x = true
    · rw [if_pos hb]
      refine W_imp (h2 hb) fun u S3 z => ?_
      obtain ⟨rfl, rfl⟩ := z
      exact ⟨_, _, rfl, rfl, rfl, rfl, l ++ [x], by simp, by simp [hb]⟩
    · rw [if_neg hb]
      exact ⟨rfl, l ++ [x], by simp, by simp [hb]⟩
  · rintro acc S' ⟨rfl, l, e, rfl⟩ _
    have : l = items := by simpa using e.symm
    subst this
    exact he
end
section
variable {T : Tab} {ρ : En} {S : Sto} {E : Xn → Sto → Prop} {Q : U → Sto → Prop}
theorem q_emp : W (dE T .emp ρ S) Q E = Q (.p .emp) S := by
  show W (fEmp ρ S) Q E = _
  unfold fEmp; exact W_ok
def AddQ (o o' : Option (List P)) (S : Sto) (Q : U → Sto → Prop) : Prop := match o, o' with
  | some l, some m => l.length + m.length ≤ sizeLine ∧ Q (.c S.length) (S ++ [l ++ m])
  | _, _ => False
theorem q_addC {a b : Te} : W (dE T (.addC a b) ρ S) Q E = W (dE T a ρ S) (fun x S1 => W (dE T b ρ S1) (fun y S2 => AddQ (asList x S2) (asList y S2) S2 Q) E) E := by
  show W (fAddC (dE T a) (dE T b) ρ S) Q E = _
  unfold fAddC
  rw [W_bind]
  congr 1; funext x S1
  rw [W_bind]
  congr 1; funext y S2
  unfold AddQ
  cases asList x S2 with
  | none => exact W_none
  | some l =>
    cases asList y S2 with
    | none => exact W_none
    | some m =>
      dsimp only
      by_cases h : l.length + m.length ≤ sizeLine
      · rw [if_pos h, W_ok]; exact propext ⟨fun z => ⟨h, z⟩, fun z => z.2⟩
      · rw [if_neg h, W_none]; exact propext ⟨fun z => z.elim, fun z => (h z.1).elim⟩
theorem AddQ_some {l m : List P} : AddQ (some l) (some m) S Q = (l.length + m.length ≤ sizeLine ∧ Q (.c S.length) (S ++ [l ++ m])) := rfl
theorem q_lm {g : U → U → Sto → Option P} {fo fa : FE} : W (fLm g fo fa ρ S) Q E = W (fo ρ S) (fun x S1 => IfQ (asList x S1).isSome (W (fa ρ S1) (fun y S2 => LifQ (g x y S2) S2 Q) E) False) E := by
  unfold fLm
  rw [W_bind]
  congr 1; funext x S1
  unfold IfQ
  by_cases h : (asList x S1).isSome = true
  · rw [if_pos h, if_pos h, W_bind]
    congr 1; funext y S2
    exact q_lift
  · rw [if_neg h, if_neg h]; exact W_none
theorem q_lidx {o a : Te} : W (dE T (.lidx o a) ρ S) Q E = W (dE T o ρ S) (fun x S1 => IfQ (asList x S1).isSome (W (dE T a ρ S1) (fun y S2 => LifQ (lidxP x y S2) S2 Q) E) False) E := q_lm
theorem q_lcnt {o a : Te} : W (dE T (.lcnt o a) ρ S) Q E = W (dE T o ρ S) (fun x S1 => IfQ (asList x S1).isSome (W (dE T a ρ S1) (fun y S2 => LifQ (lcntP x y S2) S2 Q) E) False) E := q_lm
end
end Ev
end
section
set_option Elab.async false
set_option linter.all false
set_option maxRecDepth 100000
set_option maxHeartbeats 1000000
/-! values of operators at given data -/
namespace Ev
open PySem L2
section
variable {S : Sto} {i j : Int} {b c : Bool} {n : Nat} {l m : List P} {x y : Str}
theorem W_congr {A : Type} {m m' : M A} {Q : A → Sto → Prop} {E : Xn → Sto → Prop} (h : m = m') : W m Q E = W m' Q E := by rw [h]
theorem VarQ_congr {o o' : Option (Option U)} {S : Sto} {Q : U → Sto → Prop} (h : o = o') : VarQ o S Q = VarQ o' S Q := by rw [h]
theorem LifQ_congr {o o' : Option P} {S : Sto} {Q : U → Sto → Prop} (h : o = o') : LifQ o S Q = LifQ o' S Q := by rw [h]
theorem LibQ_congr {o o' : Option Bool} {S : Sto} {Q : Bool → Sto → Prop} (h : o = o') : LibQ o S Q = LibQ o' S Q := by rw [h]
theorem IfQ_congr {o o' : Bool} {x y : Prop} (h : o = o') : IfQ o x y = IfQ o' x y := by rw [h]
theorem AndQ_congr {o o' : Option Bool} {x y : Prop} (h : o = o') : AndQ o x y = AndQ o' x y := by rw [h]
theorem SqQ_congr {o o' : Option Sq} {Q : Sq → Sto → Prop} (h : o = o') : SqQ o S Q = SqQ o' S Q := by rw [h]
theorem StoQ_congr {o o' : Option Sto} {Q : Sto → Prop} (h : o = o') : StoQ o Q = StoQ o' Q := by rw [h]
theorem EnQ_congr {o o' : Option En} {Q : En → Prop} (h : o = o') : EnQ o Q = EnQ o' Q := by rw [h]
theorem C2Q_congr {o o' : Option P} {x y : Prop} (h : o = o') : C2Q o x y = C2Q o' x y := by rw [h]
theorem OrdQ_congr {n k : Nat} {o o' : Option (List U)} {Q : List U → Prop} (h : o = o') : OrdQ n k o Q = OrdQ n k o' Q := by rw [h]
theorem CelQ_congr {o o' : Option (List P)} {Q : U → Sto → Prop} (h : o = o') : CelQ o S Q = CelQ o' S Q := by rw [h]
theorem FmtQ_congr {o o' : Option Str} {Q : Str → Prop} (h : o = o') : FmtQ o Q = FmtQ o' Q := by rw [h]
theorem b_add : binP .add (.p (.int i)) (.p (.int j)) S = some (.int (i + j)) := (rfl)
theorem b_sub : binP .sub (.p (.int i)) (.p (.int j)) S = some (.int (i - j)) := (rfl)
theorem b_mul {Q : U → Sto → Prop} : LifQ (binP .mul (.p (.int i)) (.p (.int j)) S) S Q = (CMulW i j ∧ Q (.p (.int (i * j))) S) := by
  have e : binP .mul (.p (.int i)) (.p (.int j)) S = if CMulW i j then some (.int (i * j)) else none := by
    show orG _ _ _ _ _ = _
    unfold orG i2
    by_cases h : CMulW i j
    · simp only [if_pos h]
    · simp only [if_neg h]
      rfl
  rw [e]
  by_cases h : CMulW i j
  · rw [if_pos h, LifQ_some]; exact propext ⟨fun z => ⟨h, z⟩, fun z => z.2⟩
  · rw [if_neg h]; exact propext ⟨fun z => (show False from z.out).elim, fun z => (h z.1).elim⟩
theorem b_div {Q : U → Sto → Prop} : LifQ (binP .div (.p (.int i)) (.p (.int j)) S) S Q = (CDivW i j ∧ Q (.p (.int (i / j))) S) := by
  have e : binP .div (.p (.int i)) (.p (.int j)) S = if CDivW i j then some (.int (i / j)) else none := rfl
  rw [e]
  by_cases h : CDivW i j
  · rw [if_pos h, LifQ_some]; exact propext ⟨fun z => ⟨h, z⟩, fun z => z.2⟩
  · rw [if_neg h]; exact propext ⟨fun z => (show False from z.out).elim, fun z => (h z.1).elim⟩
theorem b_mod {Q : U → Sto → Prop} : LifQ (binP .mod (.p (.int i)) (.p (.int j)) S) S Q = (0 < j ∧ Q (.p (.int (i % j))) S) := by
  have e : binP .mod (.p (.int i)) (.p (.int j)) S = if 0 < j then some (.int (i % j)) else none := rfl
  rw [e]
  by_cases h : 0 < j
  · rw [if_pos h, LifQ_some]; exact propext ⟨fun z => ⟨h, z⟩, fun z => z.2⟩
  · rw [if_neg h]; exact propext ⟨fun z => (show False from z.out).elim, fun z => (h z.1).elim⟩
theorem b_addT : binP .add (.p (.tup l)) (.p (.tup m)) S = addTup (.p (.tup l)) (.p (.tup m)) S := (rfl)
theorem c_lt : cmpP .lt (.p (.int i)) (.p (.int j)) S = some (.bl (decide (i < j))) := (rfl)
theorem c_le : cmpP .le (.p (.int i)) (.p (.int j)) S = some (.bl (decide (i ≤ j))) := (rfl)
theorem c_gt : cmpP .gt (.p (.int i)) (.p (.int j)) S = some (.bl (decide (j < i))) := (rfl)
theorem c_ge : cmpP .ge (.p (.int i)) (.p (.int j)) S = some (.bl (decide (j ≤ i))) := (rfl)
theorem shaped_int : SeqAt.shaped (.int i) = true := by unfold SeqAt.shaped; rfl
theorem eqB_int : eqB (.p (.int i)) (.p (.int j)) S = some (decide (i = j)) := by
  show (if SeqAt.shaped (.int i) = true ∧ SeqAt.shaped (.int j) = true then some (PyData.eqv (.int i) (.int j)) else none) = _
  rw [if_pos ⟨shaped_int, shaped_int⟩]
  have : PyData.eqv (.int i) (.int j) = (i == j) := by simp [PyData.eqv]
  rw [this]
  congr 1
theorem c_eq : cmpP .eq (.p (.int i)) (.p (.int j)) S = some (.bl (decide (i = j))) := by
  show (eqB (.p (.int i)) (.p (.int j)) S).map P.bl = _
  rw [eqB_int]; rfl
theorem c_ne : cmpP .ne (.p (.int i)) (.p (.int j)) S = some (.bl (!decide (i = j))) := by
  show ((eqB (.p (.int i)) (.p (.int j)) S).map fun b => P.bl (!b)) = _
  rw [eqB_int]; rfl
theorem bl_of : blOf (.p (.bl b)) = some b := (rfl)
theorem v_neg : negP (.p (.int i)) S = some (.int (-i)) := (rfl)
theorem t_bl : truU (.p (.bl b)) S = some b := (rfl)
theorem t_int : truU (.p (.int i)) S = some (i != 0) := (rfl)
theorem t_tup : truU (.p (.tup l)) S = some (!l.isEmpty) := (rfl)
theorem t_lst : truU (.p (.lst l)) S = some (!l.isEmpty) := (rfl)
theorem t_non : truU (.p .non) S = some false := (rfl)
theorem ix_tup : idxP (.p (.tup l)) (.p (.int i)) S = atI l i := (rfl)
theorem ix_lst : idxP (.p (.lst l)) (.p (.int i)) S = atI l i := (rfl)
theorem ix_scr {ns : List Int} : idxP (.p (.scr ns)) (.p (.int i)) S = atI (ns.map .int) i := (rfl)
theorem ix_c (h : S[n]? = some l) : idxP (.c n) (.p (.int i)) S = atI l i := by
  show (match S[n]? with | some l => atI l i | none => none) = _
  rw [h]
theorem at_nat {A : Type} {l : List A} {k : Nat} (h : k < l.length) : atI l (k : Int) = some l[k] := by
  unfold atI ixN
  rw [if_pos (by omega), if_pos (by omega)]
  show l[(k : Int).toNat]? = _
  rw [Int.toNat_natCast, List.getElem?_eq_getElem h]
theorem at_pos {A : Type} {l : List A} {i : Int} (h0 : 0 ≤ i) (h : i < l.length) : atI l i = some (l[i.toNat]'(by omega)) := by
  obtain ⟨k, rfl⟩ := Int.eq_ofNat_of_zero_le h0
  exact at_nat (by omega)
theorem at_0 {A : Type} {a : A} {l : List A} : atI (a :: l) 0 = some a := at_nat (k := 0) (by simp)
theorem at_1 {A : Type} {a b : A} {l : List A} : atI (a :: b :: l) 1 = some b := at_nat (k := 1) (by simp)
theorem at_2 {A : Type} {a b c : A} {l : List A} : atI (a :: b :: c :: l) 2 = some c := at_nat (k := 2) (by simp)
theorem l_tup : lenP [.p (.tup l)] S = some (.int l.length) := (rfl)
theorem l_lst : lenP [.p (.lst l)] S = some (.int l.length) := (rfl)
theorem l_scr {ns : List Int} : lenP [.p (.scr ns)] S = some (P.int (ns.map P.int).length) := (rfl)
theorem l_c (h : S[n]? = some l) : lenP [.c n] S = some (P.int l.length) := by
  show (match S[n]? with | some l => some (P.int l.length) | none => none) = _
  rw [h]
theorem p_nil : pures [] = some [] := (rfl)
theorem p_cons {z : P} {us : List U} : pures (.p z :: us) = (pures us).map (z :: ·) := (rfl)
theorem ps_of {us : List U} {l : List P} (h : pures us = some l) (hl : l.length ≤ 1000) : puresS us = some l := by
  unfold puresS
  rw [h]
  dsimp only
  rw [if_pos hl]
theorem ps0 : puresS [] = some [] := (rfl)
theorem ps1 {a : P} : puresS [.p a] = some [a] := (rfl)
theorem ps2 {a b : P} : puresS [.p a, .p b] = some [a, b] := (rfl)
theorem ps3 {a b c : P} : puresS [.p a, .p b, .p c] = some [a, b, c] := (rfl)
theorem ps4 {a b c d : P} : puresS [.p a, .p b, .p c, .p d] = some [a, b, c, d] := (rfl)
theorem ps5 {a b c d e : P} : puresS [.p a, .p b, .p c, .p d, .p e] = some [a, b, c, d, e] := (rfl)
theorem ix_n {n k : Nat} (h : k < n) : ixN n (k : Int) = some k := by
  unfold ixN
  rw [if_pos (by omega), if_pos (by omega), Int.toNat_natCast]
theorem set_c {z : P} {k : Nat} (h : S[n]? = some l) (hk : k < l.length) : setC (.c n) (.p (.int k)) z S = some (S.set n (l.set k z)) := by
  unfold setC
  dsimp only
  rw [h]
  dsimp only
  rw [ix_n hk]
theorem as_tup1 : asTup (.p (.tup l)) = some l := (rfl)
theorem set_0 {z a : P} (h : S[n]? = some (a :: l)) : setC (.c n) (.p (.int 0)) z S = some (S.set n (z :: l)) := set_c (k := 0) h (by simp)
theorem set_1 {z a b : P} (h : S[n]? = some (a :: b :: l)) : setC (.c n) (.p (.int 1)) z S = some (S.set n (a :: z :: l)) := set_c (k := 1) h (by simp)
theorem set_2 {z a b c : P} (h : S[n]? = some (a :: b :: c :: l)) : setC (.c n) (.p (.int 2)) z S = some (S.set n (a :: b :: z :: l)) := set_c (k := 2) h (by simp)
theorem get_set (h : S[n]? = some l) : (S.set n m)[n]? = some m := List.getElem?_set_self (List.getElem?_eq_some_iff.mp h).1
theorem if_q {b : Bool} {x y : Prop} (h : b = true → x) (h' : b = false → y) : IfQ b x y := by cases b with
  | true => exact h rfl
  | false => exact h' rfl
theorem asg_nm {i : Nat} {x : P} {ρ : En} : asg (.nm i) x ρ = some (ρ.set i (some (.p x))) := (rfl)
theorem asg_tp {l : List Tg} {xs : List P} {ρ : En} : asg (.tp l) (.tup xs) ρ = asgs l xs ρ := (rfl)
theorem asgs_nil {ρ : En} : asgs [] [] ρ = some ρ := (rfl)
theorem asgs_cons {t : Tg} {ts : List Tg} {x : P} {xs : List P} {ρ ρ1 : En} (h : asg t x ρ = some ρ1) : asgs (t :: ts) (x :: xs) ρ = asgs ts xs ρ1 := by
  show (match asg t x ρ with | some ρ1 => asgs ts xs ρ1 | none => none) = _
  rw [h]
theorem asgs_c1 {i : Nat} {ts : List Tg} {x : P} {xs : List P} {ρ : En} : asgs (.nm i :: ts) (x :: xs) ρ = asgs ts xs (ρ.set i (some (.p x))) := (rfl)
theorem len_blt : bltP .len = lenP := (rfl)
theorem abs_blt : bltP .abs [.p (.int i)] S = some (.int (if i < 0 then -i else i)) := (rfl)
theorem max_blt : bltP .max [.p (.int i), .p (.int j)] S = some (.int (if j > i then j else i)) := (rfl)
theorem min_blt : bltP .min [.p (.int i), .p (.int j)] S = some (.int (if j < i then j else i)) := (rfl)
theorem int_blt : bltP .int [.p (.int i)] S = some (.int i) := (rfl)
theorem tup_blt : bltP .tuple [.p (.lst l)] S = some (.tup l) := (rfl)
theorem lst_blt : bltP .list [.p (.tup l)] S = some (.lst l) := (rfl)
theorem dm_blt {Q : U → Sto → Prop} : LifQ (bltP .divmod [.p (.int i), .p (.int j)] S) S Q = (CDiv i j ∧ Q (.p (.tup [.int (i / j), .int (i % j)])) S) := by
  have e : bltP .divmod [.p (.int i), .p (.int j)] S = if CDiv i j then some (.tup [.int (i / j), .int (i % j)]) else none := rfl
  rw [e]
  by_cases h : CDiv i j
  · rw [if_pos h, LifQ_some]; exact propext ⟨fun z => ⟨h, z⟩, fun z => z.2⟩
  · rw [if_neg h]; exact propext ⟨fun z => (show False from z.out).elim, fun z => (h z.1).elim⟩
theorem gcd_int : gcdP [.p (.int i), .p (.int j)] S = some (.int (Nat.gcd i.natAbs j.natAbs : Nat)) := (rfl)
theorem take_all : S.take S.length = S := List.take_length
theorem take_setS {a : List P} : (S.set n a).take S.length = S.set n a := List.take_of_length_le (by simp)
theorem take_app {t : Sto} : (S ++ t).take S.length = S := List.take_left
theorem take_setapp {a : List P} {t : Sto} : (S.set n a ++ t).take S.length = S.set n a := by
  rw [show S.length = (S.set n a).length by simp]; exact List.take_left
theorem rng_1 {k : Nat} (h : k < 2 ^ 62) : rng1Of [.p (.int k)] S = some ⟨(List.range k).map fun i => .int (i : Nat), none⟩ := by
  unfold rng1Of
  dsimp only
  rw [if_pos (by omega), Int.toNat_natCast]
  simp
theorem seq_tup : seqOf (.p (.tup l)) S = some ⟨l, none⟩ := (rfl)
theorem seq_lst : seqOf (.p (.lst l)) S = some ⟨l, none⟩ := (rfl)
theorem seq_scr {ns : List Int} : seqOf (.p (.scr ns)) S = some ⟨ns.map .int, none⟩ := (rfl)
/-- a number as a text -/
def dec (i : Int) : Str := Str.ofString (toString i)
theorem f_int {Q : Str → Prop} : FmtQ (fmtU (.p (.int i))) Q = (i.natAbs.log2 < 1920 ∧ Q (dec i)) := by
  have e : fmtU (.p (.int i)) = if i.natAbs.log2 < 1920 then some (dec i) else none := rfl
  rw [e]
  by_cases h : i.natAbs.log2 < 1920
  · rw [if_pos h, FmtQ_some]; exact propext ⟨fun z => ⟨h, z⟩, fun z => z.2⟩
  · rw [if_neg h]; exact propext ⟨fun z => (show False from z.out).elim, fun z => (h z.1).elim⟩
theorem f_str {Q : Str → Prop} : FmtQ (fmtU (.p (.str x))) Q = (x.length ≤ 16777216 ∧ Q x) := by
  have e : fmtU (.p (.str x)) = if x.length ≤ 16777216 then some x else none := rfl
  rw [e]
  by_cases h : x.length ≤ 16777216
  · rw [if_pos h, FmtQ_some]; exact propext ⟨fun z => ⟨h, z⟩, fun z => z.2⟩
  · rw [if_neg h]; exact propext ⟨fun z => (show False from z.out).elim, fun z => (h z.1).elim⟩
theorem s_int {Q : U → Sto → Prop} : LifQ (bltP .str [.p (.int i)] S) S Q = (i.natAbs.log2 < 1920 ∧ Q (.p (.str (dec i))) S) := by
  have e : bltP .str [.p (.int i)] S = if i.natAbs.log2 < 1920 then some (.str (dec i)) else none := rfl
  rw [e]
  by_cases h : i.natAbs.log2 < 1920
  · rw [if_pos h, LifQ_some]; exact propext ⟨fun z => ⟨h, z⟩, fun z => z.2⟩
  · rw [if_neg h]; exact propext ⟨fun z => (show False from z.out).elim, fun z => (h z.1).elim⟩
theorem mulw {a b : Nat} (hi : i.natAbs < 2 ^ a) (hj : j.natAbs < 2 ^ b) (h : a + b < 1000000) : CMulW i j := by
  show i.natAbs.log2 + j.natAbs.log2 < 1000000
  have h1 : i.natAbs.log2 ≤ a := by
    by_cases e : i.natAbs = 0
    · rw [e]; simp
    · exact Nat.le_of_lt ((Nat.log2_lt e).mpr hi)
  have h2 : j.natAbs.log2 ≤ b := by
    by_cases e : j.natAbs = 0
    · rw [e]; simp
    · exact Nat.le_of_lt ((Nat.log2_lt e).mpr hj)
  omega
theorem divw {b : Nat} (h0 : 0 < j) (hj : j.natAbs < 2 ^ b) (h : b < 9000) : CDivW i j := by
  refine ⟨h0, ?_⟩
  have h2 : j.natAbs.log2 ≤ b := by
    by_cases e : j.natAbs = 0
    · rw [e]; simp
    · exact Nat.le_of_lt ((Nat.log2_lt e).mpr hj)
  omega
theorem strw {b : Nat} (hj : i.natAbs < 2 ^ b) (h : b < 1920) : i.natAbs.log2 < 1920 := by
  have h2 : i.natAbs.log2 ≤ b := by
    by_cases e : i.natAbs = 0
    · rw [e]; simp
    · exact Nat.le_of_lt ((Nat.log2_lt e).mpr hj)
  omega
end
end Ev
end
section
set_option Elab.async false
set_option linter.all false
set_option maxRecDepth 100000
set_option maxHeartbeats 0
/-! terms of defs that many laws share -/
namespace Lt
open PySem Ev L2
def t_is_integer : Ev.Dn := ⟨"is_integer", ["value"], ["value"],
  (.cons (.ret (.and_ (.more (.isi .int (.var 0)) (.one (.not_ (.isi .bool (.var 0))))))) .nil), true, none, none, false, false⟩
def t_is_integer_from : Ev.Dn := ⟨"is_integer_from", ["value", "low", "high"], ["value", "low", "high"],
  (.cons (.ret (.and_ (.more (.call "is_integer" (.cons (.var 0) .nil)) (.one (.cmp2 .le .le (.var 1) (.var 0) (.var 2)))))) .nil), true, none, none, false, false⟩
def t_is_any_fraction : Ev.Dn := ⟨"is_any_fraction", ["value"], ["value", "top", "bottom"],
  (.cons (.if_ (.or_ (.more (.not_ (.tru (.isi .tuple (.var 0)))) (.one (.cmp .ne (.blt .len (.cons (.var 0) .nil)) (.cst (.int 2)))))) (.cons (.ret (.cst (.bl false))) .nil) .nil) (.cons (.asg (.tp [(.nm 1), (.nm 2)]) (.var 0)) (.cons (.ret (.and_ (.more (.call "is_integer" (.cons (.var 1) .nil)) (.more (.call "is_integer" (.cons (.var 2) .nil)) (.more (.cmp .gt (.var 2) (.cst (.int 0))) (.one (.cmp .eq (.gcd (.cons (.var 1) (.cons (.var 2) .nil))) (.cst (.int 1))))))))) .nil))), true, none, none, false, false⟩
def t_is_ratio : Ev.Dn := ⟨"is_ratio", ["value", "most_top", "most_bottom"], ["value", "most_top", "most_bottom"],
  (.cons (.ret (.and_ (.more (.call "is_any_fraction" (.cons (.var 0) .nil)) (.more (.cmp2 .le .le (.neg (.var 1)) (.idx (.var 0) (.cst (.int 0))) (.var 1)) (.one (.cmp .le (.idx (.var 0) (.cst (.int 1))) (.var 2))))))) .nil), true, none, none, false, false⟩
def t_is_price : Ev.Dn := ⟨"is_price", ["value"], ["value"],
  (.cons (.ret (.call "is_ratio" (.cons (.var 0) (.cons (.glo "MOST_PRICE_TOP" (.int 1000000)) (.cons (.glo "MOST_PRICE_BOTTOM" (.int 1000)) .nil))))) .nil), true, none, none, false, false⟩
def t_is_outcome_number : Ev.Dn := ⟨"is_outcome_number", ["value"], ["value"],
  (.cons (.ret (.call "is_integer_from" (.cons (.var 0) (.cons (.cst (.int 2)) (.cons (.glo "MOST_OUTCOMES" (.int 6)) .nil))))) .nil), true, none, none, false, false⟩
def t_is_payoff : Ev.Dn := ⟨"is_payoff", ["value", "outcomes"], ["value", "outcomes", ".0", "number"],
  (.cons (.if_ (.or_ (.more (.not_ (.tru (.isi .tuple (.var 0)))) (.one (.cmp .ne (.blt .len (.cons (.var 0) .nil)) (.var 1))))) (.cons (.ret (.cst (.bl false))) .nil) .nil) (.cons (.ret (.blt .all (.cons (.comp false [(".0", 2), ("number", 3)] (.nm 3) (.seq (.var 0)) .no (.call "is_integer_from" (.cons (.var 3) (.cons (.neg (.glo "MOST_NUMBER" (.int 1000))) (.cons (.glo "MOST_NUMBER" (.int 1000)) .nil))))) .nil))) .nil)), true, none, none, false, false⟩
def t_is_quote : Ev.Dn := ⟨"is_quote", ["value", "outcomes"], ["value", "outcomes"],
  (.cons (.if_ (.or_ (.more (.not_ (.tru (.isi .tuple (.var 0)))) (.one (.cmp .ne (.blt .len (.cons (.var 0) .nil)) (.cst (.int 2)))))) (.cons (.ret (.cst (.bl false))) .nil) .nil) (.cons (.ret (.and_ (.more (.call "is_payoff" (.cons (.idx (.var 0) (.cst (.int 0))) (.cons (.var 1) .nil))) (.one (.call "is_price" (.cons (.idx (.var 0) (.cst (.int 1))) .nil)))))) .nil)), true, none, none, false, false⟩
def t_check_outcomes : Ev.Dn := ⟨"check_outcomes", ["given"], ["given"],
  (.cons (.if_ (.not_ (.tru (.call "is_outcome_number" (.cons (.var 0) .nil)))) (.cons .skip .nil) .nil) .nil), true, none, none, false, false⟩
def t_check_quotes : Ev.Dn := ⟨"check_quotes", ["given", "outcomes"], ["given", "outcomes", "at", "quote"],
  (.cons (.if_ (.not_ (.tru (.isi .tuple (.var 0)))) (.cons .skip .nil) .nil) (.cons (.for_ (.tp [(.nm 2), (.nm 3)]) (.enum (.cons (.var 0) .nil)) (.cons (.if_ (.or_ (.more (.cmp .eq (.var 2) (.glo "MOST_QUOTES" (.int 32))) (.one (.not_ (.tru (.call "is_quote" (.cons (.var 3) (.cons (.var 1) .nil)))))))) (.cons .skip .nil) .nil) .nil)) .nil)), true, none, none, false, false⟩
def t_fraction_text : Ev.Dn := ⟨"fraction_text", ["fraction"], ["fraction", "top", "bottom"],
  (.cons (.asg (.tp [(.nm 1), (.nm 2)]) (.var 0)) (.cons (.ret (.fstr (.val (.var 1) (.txt "/" (.val (.var 2) .nil))))) .nil)), true, none, none, false, false⟩
def t_payoff_text : Ev.Dn := ⟨"payoff_text", ["payoff"], ["payoff", ".0", "number"],
  (.cons (.ret (.join (.cst (.str ",")) (.comp false [(".0", 1), ("number", 2)] (.nm 2) (.seq (.var 0)) .no (.blt .str (.cons (.var 2) .nil))))) .nil), true, none, none, false, false⟩
def t_book_words : Ev.Dn := ⟨"book_words", ["outcomes", "quotes"], ["outcomes", "quotes", "quoted", ".0", "payoff", "price"],
  (.cons (.setK 2 false [(".0", 3), ("payoff", 4), ("price", 5)] (.tp [(.nm 4), (.nm 5)]) (.seq (.var 1)) .no (.fstr (.val (.call "payoff_text" (.cons (.var 4) .nil)) (.txt ">=" (.val (.call "fraction_text" (.cons (.var 5) .nil)) .nil))))) (.cons (.ret (.bin .add (.lst (.cons (.fstr (.val (.var 0) (.txt ":" .nil))) .nil)) (.var 2))) .nil)), true, none, none, false, false⟩
def t_Book___init__ : Ev.Dn := ⟨"Book.__init__", ["self", "outcomes", "quotes"], ["self", "outcomes", "quotes"], .nil, false, some ("Book", [.ex (.call "check_outcomes" (.cons (.var 1) .nil)), .ex (.call "check_quotes" (.cons (.var 2) (.cons (.var 1) .nil))), .fld "_outcomes" 1, .fld "_quotes" 2]), none, false, false⟩
def t_Book_outcomes : Ev.Dn := ⟨"Book.outcomes", ["self"], ["self"],
  (.cons (.ret (.fld "Book" "_outcomes" (.var 0))) .nil), false, none, none, false, false⟩
def t_Book_quotes : Ev.Dn := ⟨"Book.quotes", ["self"], ["self"],
  (.cons (.ret (.fld "Book" "_quotes" (.var 0))) .nil), false, none, none, false, false⟩
def t_Book___str__ : Ev.Dn := ⟨"Book.__str__", ["self"], ["self"],
  (.cons (.ret (.join (.cst (.str " ")) (.call "book_words" (.cons (.fld "Book" "_outcomes" (.var 0)) (.cons (.fld "Book" "_quotes" (.var 0)) .nil))))) .nil), false, none, none, false, false⟩
def t_Book___repr__ : Ev.Dn := ⟨"Book.__repr__", ["self"], ["self"],
  (.cons (.ret (.fstr (.txt "Book of " (.val (.blt .len (.cons (.fld "Book" "_quotes" (.var 0)) .nil)) (.txt " quotes" .nil))))) .nil), false, none, none, false, false⟩
def t_Book___eq__ : Ev.Dn := ⟨"Book.__eq__", ["self", "other"], ["self", "other"],
  (.cons (.ret (.and_ (.more (.isc "Book" (.var 1)) (.more (.cmp .eq (.fld "Book" "_outcomes" (.var 0)) (.fld "Book" "_outcomes" (.var 1))) (.one (.cmp .eq (.fld "Book" "_quotes" (.var 0)) (.fld "Book" "_quotes" (.var 1)))))))) .nil), false, none, none, false, false⟩
def t__law_jar : Ev.Dn := ⟨"_law_jar", ["_law_cells", "_law_turn"], ["_law_cells", "_law_turn", "_law_cell", "_law_mixed", "_law_each"],
  (.cons (.set 2 (.ite (.cmp .lt (.var 1) (.blt .len (.cons (.var 0) .nil))) (.idx (.var 0) (.var 1)) (.bin .add (.bin .mul (.cst (.int 53)) (.var 1)) (.cst (.int 4))))) (.cons (.set 3 (.bin .add (.cst (.int 40009)) (.bin .mul (.cst (.int 9011)) (.var 1)))) (.cons (.for_ (.nm 4) (.seq (.bin .add (.sli (.var 0) .no (.so (.cst (.int 5)))) (.lst (.cons (.var 2) .nil)))) (.cons (.set 3 (.bin .mod (.blt .int (.cons (.bin .add (.bin .mul (.var 3) (.cst (.int 20021))) (.var 4)) .nil)) (.cst (.int 2147482951)))) .nil)) (.cons (.ret (.cel (.cons (.ite (.or_ (.more (.cmp .lt (.var 2) (.cst (.int 0))) (.one (.cmp .ge (.var 2) (.bin .pow (.cst (.int 10)) (.cst (.int 18))))))) (.blt .abs (.cons (.var 2) .nil)) (.cst (.int 0))) (.cons (.var 3) (.cons (.cst (.int 0)) .nil))))) .nil)))), true, none, none, false, false⟩
def t__law_dip : Ev.Dn := ⟨"_law_dip", ["_law_jar_here", "_law_top"], ["_law_jar_here", "_law_top", "_law_digit"],
  (.cons (.setI (.var 0) (.cst (.int 2)) (.bin .add (.idx (.var 0) (.cst (.int 2))) (.cst (.int 1)))) (.cons (.if_ (.cmp .gt (.idx (.var 0) (.cst (.int 0))) (.cst (.int 0))) (.cons (.setIN (.var 0) (.cst (.int 0)) 2 (.blt .divmod (.cons (.idx (.var 0) (.cst (.int 0))) (.cons (.var 1) .nil)))) (.cons (.ret (.var 2)) .nil)) .nil) (.cons (.setI (.var 0) (.cst (.int 1)) (.bin .mod (.blt .int (.cons (.bin .add (.bin .mul (.idx (.var 0) (.cst (.int 1))) (.cst (.int 48271))) (.bin .mul (.cst (.int 30011)) (.idx (.var 0) (.cst (.int 2))))) .nil)) (.cst (.int 2147483399)))) (.cons (.ret (.bin .mod (.blt .int (.cons (.bin .div (.idx (.var 0) (.cst (.int 1))) (.cst (.int 512))) .nil)) (.var 1))) .nil)))), true, none, none, false, false⟩
def t__law_one_of : Ev.Dn := ⟨"_law_one_of", ["_law_jar_here", "_law_some"], ["_law_jar_here", "_law_some"],
  (.cons (.ret (.idx (.var 1) (.call "_law_dip" (.cons (.var 0) (.cons (.blt .len (.cons (.var 1) .nil)) .nil))))) .nil), true, none, none, false, false⟩
def t__law_common : Ev.Dn := ⟨"_law_common", ["_law_a", "_law_b"], ["_law_a", "_law_b"],
  (.cons (.par 0 1 (.cons (.blt .abs (.cons (.var 0) .nil)) (.cons (.blt .abs (.cons (.var 1) .nil)) .nil))) (.cons (.while_ (fuelAt 1) (.cmp .gt (.var 1) (.cst (.int 0))) (.cons (.par 0 1 (.cons (.var 1) (.cons (.bin .mod (.blt .int (.cons (.var 0) .nil)) (.var 1)) .nil))) .nil)) (.cons (.ret (.var 0)) .nil))), true, none, none, false, false⟩
def t__law_low : Ev.Dn := ⟨"_law_low", ["_law_top", "_law_bottom"], ["_law_top", "_law_bottom", "_law_shared"],
  (.cons (.set 2 (.call "_law_common" (.cons (.var 0) (.cons (.var 1) .nil)))) (.cons (.ret (.tup (.cons (.bin .div (.var 0) (.var 2)) (.cons (.bin .div (.var 1) (.var 2)) .nil)))) .nil)), true, none, none, false, false⟩
def t__law_plus : Ev.Dn := ⟨"_law_plus", ["_law_one", "_law_two"], ["_law_one", "_law_two"],
  (.cons (.ret (.call "_law_low" (.cons (.bin .add (.bin .mul (.idx (.var 0) (.cst (.int 0))) (.idx (.var 1) (.cst (.int 1)))) (.bin .mul (.idx (.var 1) (.cst (.int 0))) (.idx (.var 0) (.cst (.int 1))))) (.cons (.bin .mul (.idx (.var 0) (.cst (.int 1))) (.idx (.var 1) (.cst (.int 1)))) .nil)))) .nil), true, none, none, false, false⟩
def t__law_times : Ev.Dn := ⟨"_law_times", ["_law_one", "_law_two"], ["_law_one", "_law_two"],
  (.cons (.ret (.call "_law_low" (.cons (.bin .mul (.idx (.var 0) (.cst (.int 0))) (.idx (.var 1) (.cst (.int 0)))) (.cons (.bin .mul (.idx (.var 0) (.cst (.int 1))) (.idx (.var 1) (.cst (.int 1)))) .nil)))) .nil), true, none, none, false, false⟩
def t__law_worth : Ev.Dn := ⟨"_law_worth", ["_law_payoff_here", "_law_chance_here"], ["_law_payoff_here", "_law_chance_here", "_law_found", "_law_k"],
  (.cons (.set 2 (.tup (.cons (.cst (.int 0)) (.cons (.cst (.int 1)) .nil)))) (.cons (.for_ (.nm 3) (.rng1 (.cons (.blt .len (.cons (.var 0) .nil)) .nil)) (.cons (.set 2 (.call "_law_plus" (.cons (.var 2) (.cons (.call "_law_times" (.cons (.tup (.cons (.idx (.var 0) (.var 3)) (.cons (.cst (.int 1)) .nil))) (.cons (.idx (.var 1) (.var 3)) .nil))) .nil)))) .nil)) (.cons (.ret (.var 2)) .nil))), true, none, none, false, false⟩
def t__law_payoff : Ev.Dn := ⟨"_law_payoff", ["_law_jar_here", "_law_size", "_law_top"], ["_law_jar_here", "_law_size", "_law_top", ".0", "_law_k"],
  (.cons (.ret (.blt .tuple (.cons (.comp false [(".0", 3), ("_law_k", 4)] (.nm 4) (.rng1 (.cons (.var 1) .nil)) .no (.bin .sub (.call "_law_dip" (.cons (.var 0) (.cons (.bin .add (.bin .mul (.cst (.int 2)) (.var 2)) (.cst (.int 1))) .nil))) (.var 2))) .nil))) .nil), true, none, none, false, false⟩
def t__law_chance : Ev.Dn := ⟨"_law_chance", ["_law_jar_here", "_law_size"], ["_law_jar_here", "_law_size", "_law_parts_here", "_law_whole", ".0", "_law_k", "_law_each"],
  (.cons (.setK 2 true [(".0", 4), ("_law_k", 5)] (.nm 5) (.rng1 (.cons (.var 1) .nil)) .no (.call "_law_dip" (.cons (.var 0) (.cons (.cst (.int 6)) .nil)))) (.cons (.augI (.var 2) (.call "_law_dip" (.cons (.var 0) (.cons (.var 1) .nil))) (.bin .add (.cst (.int 1)) (.call "_law_dip" (.cons (.var 0) (.cons (.cst (.int 3)) .nil))))) (.cons (.set 3 (.blt .sum (.cons (.var 2) .nil))) (.cons (.ret (.blt .tuple (.cons (.comp false [(".0", 4), ("_law_each", 6)] (.nm 6) (.seq (.var 2)) .no (.call "_law_low" (.cons (.var 6) (.cons (.var 3) .nil)))) .nil))) .nil)))), true, none, none, false, false⟩
def t__law_quotes : Ev.Dn := ⟨"_law_quotes", ["_law_jar_here", "_law_size", "_law_many", "_law_slack"], ["_law_jar_here", "_law_size", "_law_many", "_law_slack", "_law_middle", "_law_found", "_law_turn", "_law_payoff_here", "_law_top", "_law_bottom", "_law_less"],
  (.cons (.par 4 5 (.cons (.call "_law_chance" (.cons (.var 0) (.cons (.var 1) .nil))) (.cons (.cel .nil) .nil))) (.cons (.for_ (.nm 6) (.rng1 (.cons (.var 2) .nil)) (.cons (.set 7 (.call "_law_payoff" (.cons (.var 0) (.cons (.var 1) (.cons (.call "_law_one_of" (.cons (.var 0) (.cons (.lst (.cons (.cst (.int 1)) (.cons (.cst (.int 1)) (.cons (.cst (.int 2)) (.cons (.cst (.int 5)) .nil))))) .nil))) .nil))))) (.cons (.asg (.tp [(.nm 8), (.nm 9)]) (.call "_law_worth" (.cons (.var 7) (.cons (.var 4) .nil)))) (.cons (.set 10 (.call "_law_one_of" (.cons (.var 0) (.cons (.lst (.cons (.cst (.int 0)) (.cons (.cst (.int 0)) (.cons (.cst (.int 1)) (.cons (.cst (.int 2)) (.cons (.cst (.int 5)) .nil)))))) .nil)))) (.cons (.if_ (.and_ (.more (.cmp .gt (.var 3) (.cst (.int 0))) (.one (.cmp .eq (.call "_law_dip" (.cons (.var 0) (.cons (.var 3) .nil))) (.cst (.int 0)))))) (.cons (.set 10 (.bin .sub (.bin .sub (.cst (.int 0)) (.cst (.int 1))) (.call "_law_dip" (.cons (.var 0) (.cons (.cst (.int 3)) .nil))))) .nil) .nil) (.cons (.drop (.app (.var 5) (.tup (.cons (.var 7) (.cons (.call "_law_low" (.cons (.bin .sub (.bin .mul (.var 8) (.cst (.int 4))) (.bin .mul (.var 10) (.var 9))) (.cons (.bin .mul (.var 9) (.cst (.int 4))) .nil))) .nil))))) .nil)))))) (.cons (.ret (.blt .tuple (.cons (.var 5) .nil))) .nil))), true, none, none, false, false⟩
def t__law_page : Ev.Dn := ⟨"_law_page", ["_law_size", "_law_quotes_here"], ["_law_size", "_law_quotes_here", "_law_words", "_law_payoff_here", "_law_price_here", "_law_numbers", ".0", "_law_each"],
  (.cons (.set 2 (.cel (.cons (.bin .add (.blt .str (.cons (.var 0) .nil)) (.cst (.str ":"))) .nil))) (.cons (.for_ (.tp [(.nm 3), (.nm 4)]) (.seq (.var 1)) (.cons (.set 5 (.join (.cst (.str ",")) (.comp false [(".0", 6), ("_law_each", 7)] (.nm 7) (.seq (.var 3)) .no (.blt .str (.cons (.var 7) .nil))))) (.cons (.drop (.app (.var 2) (.bin .add (.bin .add (.bin .add (.bin .add (.var 5) (.cst (.str ">="))) (.blt .str (.cons (.idx (.var 4) (.cst (.int 0))) .nil))) (.cst (.str "/"))) (.blt .str (.cons (.idx (.var 4) (.cst (.int 1))) .nil))))) .nil))) (.cons (.ret (.join (.cst (.str " ")) (.var 2))) .nil))), true, none, none, false, false⟩
def t__law_turned : Ev.Dn := ⟨"_law_turned", ["_law_jar_here", "_law_size", "_law_quotes_here"], ["_law_jar_here", "_law_size", "_law_quotes_here", "_law_k", "_law_way", "_law_payoff_here", "_law_price_here", "_law_fresh"],
  (.cons (.par 3 4 (.cons (.call "_law_dip" (.cons (.var 0) (.cons (.blt .max (.cons (.cst (.int 1)) (.cons (.blt .len (.cons (.var 2) .nil)) .nil))) .nil))) (.cons (.call "_law_dip" (.cons (.var 0) (.cons (.cst (.int 6)) .nil))) .nil))) (.cons (.if_ (.or_ (.more (.cmp .eq (.var 2) (.tup .nil)) (.one (.cmp .eq (.var 4) (.cst (.int 0)))))) (.cons (.ret (.tup (.cons (.var 1) (.cons (.bin .add (.var 2) (.tup (.cons (.tup (.cons (.call "_law_payoff" (.cons (.var 0) (.cons (.var 1) (.cons (.cst (.int 1)) .nil)))) (.cons (.tup (.cons (.cst (.int 0)) (.cons (.cst (.int 1)) .nil))) .nil))) .nil))) .nil)))) .nil) .nil) (.cons (.asg (.tp [(.nm 5), (.nm 6)]) (.idx (.var 2) (.var 3))) (.cons (.if_ (.cmp .eq (.var 4) (.cst (.int 1))) (.cons (.ret (.tup (.cons (.var 1) (.cons (.bin .add (.sli (.var 2) .no (.so (.var 3))) (.sli (.var 2) (.so (.bin .add (.var 3) (.cst (.int 1)))) .no)) .nil)))) .nil) .nil) (.cons (.if_ (.cmp .eq (.var 4) (.cst (.int 2))) (.cons (.ret (.tup (.cons (.var 1) (.cons (.rev (.var 2)) .nil)))) .nil) .nil) (.cons (.if_ (.cmp .eq (.var 4) (.cst (.int 3))) (.cons (.set 7 (.tup (.cons (.var 5) (.cons (.call "_law_plus" (.cons (.var 6) (.cons (.tup (.cons (.call "_law_one_of" (.cons (.var 0) (.cons (.lst (.cons (.cst (.int 1)) (.cons (.neg (.cst (.int 1))) .nil))) .nil))) (.cons (.cst (.int 1)) .nil))) .nil))) .nil)))) (.cons (.ret (.tup (.cons (.var 1) (.cons (.bin .add (.bin .add (.sli (.var 2) .no (.so (.var 3))) (.tup (.cons (.var 7) .nil))) (.sli (.var 2) (.so (.bin .add (.var 3) (.cst (.int 1)))) .no)) .nil)))) .nil)) .nil) (.cons (.if_ (.cmp .eq (.var 4) (.cst (.int 4))) (.cons (.ret (.tup (.cons (.var 1) (.cons (.bin .add (.bin .add (.sli (.var 2) .no (.so (.var 3))) (.tup (.cons (.tup (.cons (.bin .add (.sli (.var 5) (.so (.cst (.int 1))) .no) (.sli (.var 5) .no (.so (.cst (.int 1))))) (.cons (.var 6) .nil))) .nil))) (.sli (.var 2) (.so (.bin .add (.var 3) (.cst (.int 1)))) .no)) .nil)))) .nil) .nil) (.cons (.ret (.tup (.cons (.var 1) (.cons (.var 2) .nil)))) .nil)))))))), true, none, none, false, false⟩
def t__law_right : Ev.Dn := ⟨"_law_right", ["_law_jar_here"], ["_law_jar_here", "_law_turn", "_law_size", "_law_quotes_here", "_law_mine", "_law_text_here", "_law_each", "_law_told", "_law_far_size", "_law_far_quotes", "_law_far", "_law_is_same"],
  (.cons (.for_ (.nm 1) (.rng1 (.cons (.cst (.int 3)) .nil)) (.cons (.set 2 (.call "_law_one_of" (.cons (.var 0) (.cons (.lst (.cons (.cst (.int 2)) (.cons (.cst (.int 3)) (.cons (.cst (.int 4)) (.cons (.cst (.int 5)) (.cons (.cst (.int 6)) .nil)))))) .nil)))) (.cons (.set 3 (.call "_law_quotes" (.cons (.var 0) (.cons (.var 2) (.cons (.call "_law_dip" (.cons (.var 0) (.cons (.cst (.int 7)) .nil))) (.cons (.cst (.int 3)) .nil)))))) (.cons (.par 4 5 (.cons (.make "Book" "Book.__init__" (.cons (.var 2) (.cons (.var 3) .nil))) (.cons (.call "_law_page" (.cons (.var 2) (.cons (.var 3) .nil))) .nil))) (.cons (.for_ (.nm 6) (.seq (.lst (.cons (.var 4) (.cons (.makeK "Book" "Book.__init__" ["quotes", "outcomes"] ["outcomes", "quotes"] (.cons (.var 3) (.cons (.var 2) .nil))) .nil)))) (.cons (.set 7 (.lst (.cons (.prop "Book" "outcomes" "Book.outcomes" (.var 6)) (.cons (.prop "Book" "quotes" "Book.quotes" (.var 6)) (.cons (.ostr "Book" "Book.__str__" (.var 6)) (.cons (.orepr "Book" "Book.__repr__" (.var 6)) .nil)))))) (.cons (.if_ (.cmp .ne (.repr (.cons (.var 7) .nil)) (.repr (.cons (.lst (.cons (.var 2) (.cons (.var 3) (.cons (.var 5) (.cons (.bin .add (.bin .add (.cst (.str "Book of ")) (.blt .str (.cons (.blt .len (.cons (.var 3) .nil)) .nil))) (.cst (.str " quotes"))) .nil))))) .nil))) (.cons (.ret (.cst (.bl false))) .nil) .nil) (.cons (.if_ (.or_ (.more (.ocmp true "Book" "Book.__eq__" (.var 6) (.var 4)) (.more (.not_ (.ocmp false "Book" "Book.__eq__" (.var 6) (.var 4))) (.one (.not_ (.otru "Book" (.var 6))))))) (.cons (.ret (.cst (.bl false))) .nil) .nil) .nil)))) (.cons (.asg (.tp [(.nm 8), (.nm 9)]) (.call "_law_turned" (.cons (.var 0) (.cons (.var 2) (.cons (.var 3) .nil))))) (.cons (.par 10 11 (.cons (.make "Book" "Book.__init__" (.cons (.var 8) (.cons (.var 9) .nil))) (.cons (.cmp .eq (.var 9) (.var 3)) .nil))) (.cons (.if_ (.or_ (.more (.cmp .ne (.ocmp false "Book" "Book.__eq__" (.var 4) (.var 10)) (.var 11)) (.more (.cmp .eq (.ocmp true "Book" "Book.__eq__" (.var 4) (.var 10)) (.var 11)) (.one (.cmp .ne (.cmp .eq (.ostr "Book" "Book.__str__" (.var 4)) (.ostr "Book" "Book.__str__" (.var 10))) (.var 11)))))) (.cons (.ret (.cst (.bl false))) .nil) .nil) (.cons (.if_ (.or_ (.more (.ocmp false "Book" "Book.__eq__" (.var 4) (.var 5)) (.more (.ocmp false "Book" "Book.__eq__" (.var 4) (.tup (.cons (.var 2) (.cons (.var 3) .nil)))) (.more (.ocmp false "Book" "Book.__eq__" (.var 4) (.var 3)) (.more (.not_ (.ocmp true "Book" "Book.__eq__" (.var 4) (.cst .non))) (.one (.ocmp false "Book" "Book.__eq__" (.var 4) (.cst (.int 5))))))))) (.cons (.ret (.cst (.bl false))) .nil) .nil) (.cons (.if_ (.and_ (.more (.cmp .lt (.var 2) (.cst (.int 6))) (.one (.ocmp false "Book" "Book.__eq__" (.var 4) (.make "Book" "Book.__init__" (.cons (.bin .add (.var 2) (.cst (.int 1))) (.cons (.tup .nil) .nil))))))) (.cons (.ret (.cst (.bl false))) .nil) .nil) .nil)))))))))) (.cons (.ret (.cst (.bl true))) .nil)), true, none, none, false, false⟩
def t_law : Ev.Dn := ⟨"law", ["_law_cells"], ["_law_cells", ".0", "_law_turn"],
  (.cons (.ret (.blt .all (.cons (.comp false [(".0", 1), ("_law_turn", 2)] (.nm 2) (.rng1 (.cons (.blt .max (.cons (.cst (.int 2)) (.cons (.blt .min (.cons (.blt .len (.cons (.var 0) .nil)) (.cons (.cst (.int 5)) .nil))) .nil))) .nil)) .no (.call "_law_right" (.cons (.call "_law_jar" (.cons (.var 0) (.cons (.var 2) .nil))) .nil))) .nil))) .nil), true, none, none, false, false⟩
end Lt
end
section
set_option Elab.async false
set_option linter.all false
set_option maxRecDepth 100000
set_option maxHeartbeats 0
/-! terms of defs -/
namespace Lt
open PySem Ev L2
def t_is_any_payoff : Ev.Dn := ⟨"is_any_payoff", ["value"], ["value", ".0", "outcomes"],
  (.cons (.ret (.blt .any (.cons (.comp false [(".0", 1), ("outcomes", 2)] (.nm 2) (.rng2 (.cons (.cst (.int 2)) (.cons (.bin .add (.glo "MOST_OUTCOMES" (.int 6)) (.cst (.int 1))) .nil))) .no (.call "is_payoff" (.cons (.var 0) (.cons (.var 2) .nil)))) .nil))) .nil), true, none, none, false, false⟩
def t_check_any_payoff : Ev.Dn := ⟨"check_any_payoff", ["given"], ["given"],
  (.cons (.if_ (.not_ (.tru (.call "is_any_payoff" (.cons (.var 0) .nil)))) (.cons (.raise_ "InvalidPayoff" "given" (.var 0)) .nil) .nil) .nil), true, none, none, false, false⟩
def t_is_fraction : Ev.Dn := ⟨"is_fraction", ["value"], ["value"],
  (.cons (.ret (.call "is_ratio" (.cons (.var 0) (.cons (.glo "MOST_TOP" (.int 1000000000)) (.cons (.glo "MOST_BOTTOM" (.int 1000000)) .nil))))) .nil), true, none, none, false, false⟩
def t_is_share : Ev.Dn := ⟨"is_share", ["value"], ["value"],
  (.cons (.ret (.and_ (.more (.call "is_fraction" (.cons (.var 0) .nil)) (.one (.cmp2 .le .le (.cst (.int 0)) (.idx (.var 0) (.cst (.int 0))) (.idx (.var 0) (.cst (.int 1)))))))) .nil), true, none, none, false, false⟩
def t_is_below : Ev.Dn := ⟨"is_below", ["one", "two"], ["one", "two"],
  (.cons (.ret (.cmp .lt (.bin .mul (.idx (.var 0) (.cst (.int 0))) (.idx (.var 1) (.cst (.int 1)))) (.bin .mul (.idx (.var 1) (.cst (.int 0))) (.idx (.var 0) (.cst (.int 1)))))) .nil), true, none, none, false, false⟩
def t_plus : Ev.Dn := ⟨"plus", ["one", "two"], ["one", "two"],
  (.cons (.ret (.call "ratio" (.cons (.bin .add (.bin .mul (.idx (.var 0) (.cst (.int 0))) (.idx (.var 1) (.cst (.int 1)))) (.bin .mul (.idx (.var 1) (.cst (.int 0))) (.idx (.var 0) (.cst (.int 1))))) (.cons (.bin .mul (.idx (.var 0) (.cst (.int 1))) (.idx (.var 1) (.cst (.int 1)))) .nil)))) .nil), true, none, none, false, false⟩
def t_ratio : Ev.Dn := ⟨"ratio", ["top", "bottom"], ["top", "bottom", "shared"],
  (.cons (.set 2 (.gcd (.cons (.var 0) (.cons (.var 1) .nil)))) (.cons (.ret (.tup (.cons (.bin .div (.var 0) (.var 2)) (.cons (.bin .div (.var 1) (.var 2)) .nil)))) .nil)), true, none, none, false, false⟩
def t_check_chance : Ev.Dn := ⟨"check_chance", ["given", "outcomes"], ["given", "outcomes", "so_far", "at", "share"],
  (.cons (.if_ (.or_ (.more (.not_ (.tru (.isi .tuple (.var 0)))) (.one (.cmp .ne (.blt .len (.cons (.var 0) .nil)) (.var 1))))) (.cons (.raise_ "InvalidChance" "index" (.cst .non)) .nil) .nil) (.cons (.set 2 (.glo "ZERO" (.tup [(.int 0), (.int 1)]))) (.cons (.for_ (.tp [(.nm 3), (.nm 4)]) (.enum (.cons (.var 0) .nil)) (.cons (.if_ (.not_ (.tru (.call "is_share" (.cons (.var 4) .nil)))) (.cons (.raise_ "InvalidChance" "index" (.var 3)) .nil) .nil) (.cons (.set 2 (.call "plus" (.cons (.var 2) (.cons (.var 4) .nil)))) (.cons (.if_ (.tru (.call "is_below" (.cons (.glo "ONE" (.tup [(.int 1), (.int 1)])) (.cons (.var 2) .nil)))) (.cons (.raise_ "InvalidChance" "index" (.var 3)) .nil) .nil) .nil)))) (.cons (.if_ (.tru (.call "is_below" (.cons (.var 2) (.cons (.glo "ONE" (.tup [(.int 1), (.int 1)])) .nil)))) (.cons (.raise_ "InvalidChance" "index" (.cst .non)) .nil) .nil) .nil)))), true, none, none, false, false⟩
def t_total : Ev.Dn := ⟨"total", ["parts"], ["parts", "so_far", "part"],
  (.cons (.set 1 (.glo "ZERO" (.tup [(.int 0), (.int 1)]))) (.cons (.for_ (.nm 2) (.seq (.var 0)) (.cons (.set 1 (.call "plus" (.cons (.var 1) (.cons (.var 2) .nil)))) .nil)) (.cons (.ret (.var 1)) .nil))), true, none, none, false, false⟩
def t_weighed : Ev.Dn := ⟨"weighed", ["numbers", "parts"], ["numbers", "parts", ".0", "number", "top", "bottom"],
  (.cons (.ret (.call "total" (.cons (.comp false [(".0", 2), ("number", 3), ("top", 4), ("bottom", 5)] (.tp [(.nm 3), (.tp [(.nm 4), (.nm 5)])]) (.zip (.cons (.var 0) (.cons (.var 1) .nil))) .no (.call "ratio" (.cons (.bin .mul (.var 3) (.var 4)) (.cons (.var 5) .nil)))) .nil))) .nil), true, none, none, false, false⟩
def t_worth : Ev.Dn := ⟨"worth", ["payoff", "chance"], ["payoff", "chance"],
  (.cons (.drop (.call "check_any_payoff" (.cons (.var 0) .nil))) (.cons (.drop (.call "check_chance" (.cons (.var 1) (.cons (.blt .len (.cons (.var 0) .nil)) .nil)))) (.cons (.ret (.call "weighed" (.cons (.var 0) (.cons (.var 1) .nil)))) .nil))), true, none, none, false, false⟩
def t__law_less : Ev.Dn := ⟨"_law_less", ["_law_one", "_law_two"], ["_law_one", "_law_two"],
  (.cons (.ret (.cmp .lt (.bin .mul (.idx (.var 0) (.cst (.int 0))) (.idx (.var 1) (.cst (.int 1)))) (.bin .mul (.idx (.var 1) (.cst (.int 0))) (.idx (.var 0) (.cst (.int 1)))))) .nil), true, none, none, false, false⟩
def t__law_minus : Ev.Dn := ⟨"_law_minus", ["_law_one"], ["_law_one"],
  (.cons (.ret (.tup (.cons (.bin .sub (.cst (.int 0)) (.idx (.var 0) (.cst (.int 0)))) (.cons (.idx (.var 0) (.cst (.int 1))) .nil)))) .nil), true, none, none, false, false⟩
def t__law_is_int : Ev.Dn := ⟨"_law_is_int", ["_law_thing", "_law_least", "_law_most"], ["_law_thing", "_law_least", "_law_most"],
  (.cons (.ret (.and_ (.more (.isi .int (.var 0)) (.more (.not_ (.isi .bool (.var 0))) (.one (.cmp2 .le .le (.var 1) (.var 0) (.var 2))))))) .nil), true, none, none, false, false⟩
def t__law_is_pair : Ev.Dn := ⟨"_law_is_pair", ["_law_thing", "_law_most", "_law_bottom_most"], ["_law_thing", "_law_most", "_law_bottom_most"],
  (.cons (.if_ (.or_ (.more (.not_ (.tru (.isi .tuple (.var 0)))) (.one (.cmp .ne (.blt .len (.cons (.var 0) .nil)) (.cst (.int 2)))))) (.cons (.ret (.cst (.bl false))) .nil) .nil) (.cons (.if_ (.or_ (.more (.not_ (.tru (.call "_law_is_int" (.cons (.idx (.var 0) (.cst (.int 0))) (.cons (.bin .sub (.cst (.int 0)) (.var 1)) (.cons (.var 1) .nil)))))) (.one (.not_ (.tru (.call "_law_is_int" (.cons (.idx (.var 0) (.cst (.int 1))) (.cons (.cst (.int 1)) (.cons (.var 2) .nil))))))))) (.cons (.ret (.cst (.bl false))) .nil) .nil) (.cons (.ret (.cmp .eq (.call "_law_common" (.cons (.idx (.var 0) (.cst (.int 0))) (.cons (.idx (.var 0) (.cst (.int 1))) .nil))) (.cst (.int 1)))) .nil))), true, none, none, false, false⟩
def t__law_is_gain : Ev.Dn := ⟨"_law_is_gain", ["_law_thing", "_law_size"], ["_law_thing", "_law_size", ".0", "_law_x"],
  (.cons (.ret (.and_ (.more (.isi .tuple (.var 0)) (.more (.cmp .eq (.blt .len (.cons (.var 0) .nil)) (.var 1)) (.one (.blt .all (.cons (.comp false [(".0", 2), ("_law_x", 3)] (.nm 3) (.seq (.var 0)) .no (.call "_law_is_int" (.cons (.var 3) (.cons (.neg (.cst (.int 1000))) (.cons (.cst (.int 1000)) .nil))))) .nil))))))) .nil), true, none, none, false, false⟩
def t__law_chance_fault : Ev.Dn := ⟨"_law_chance_fault", ["_law_thing", "_law_size"], ["_law_thing", "_law_size", "_law_total", "_law_k"],
  (.cons (.if_ (.or_ (.more (.not_ (.tru (.isi .tuple (.var 0)))) (.one (.cmp .ne (.blt .len (.cons (.var 0) .nil)) (.var 1))))) (.cons (.ret (.lst (.cons (.cst .non) .nil))) .nil) .nil) (.cons (.set 2 (.tup (.cons (.cst (.int 0)) (.cons (.cst (.int 1)) .nil)))) (.cons (.for_ (.nm 3) (.rng1 (.cons (.var 1) .nil)) (.cons (.if_ (.or_ (.more (.not_ (.tru (.call "_law_is_pair" (.cons (.idx (.var 0) (.var 3)) (.cons (.bin .pow (.cst (.int 10)) (.cst (.int 9))) (.cons (.bin .pow (.cst (.int 10)) (.cst (.int 6))) .nil)))))) (.more (.cmp .lt (.idx (.idx (.var 0) (.var 3)) (.cst (.int 0))) (.cst (.int 0))) (.one (.cmp .gt (.idx (.idx (.var 0) (.var 3)) (.cst (.int 0))) (.idx (.idx (.var 0) (.var 3)) (.cst (.int 1)))))))) (.cons (.ret (.lst (.cons (.var 3) .nil))) .nil) .nil) (.cons (.set 2 (.call "_law_plus" (.cons (.var 2) (.cons (.idx (.var 0) (.var 3)) .nil)))) (.cons (.if_ (.tru (.call "_law_less" (.cons (.tup (.cons (.cst (.int 1)) (.cons (.cst (.int 1)) .nil))) (.cons (.var 2) .nil)))) (.cons (.ret (.lst (.cons (.var 3) .nil))) .nil) .nil) .nil)))) (.cons (.ret (.ite (.cmp .eq (.var 2) (.tup (.cons (.cst (.int 1)) (.cons (.cst (.int 1)) .nil)))) (.lst .nil) (.lst (.cons (.cst .non) .nil)))) .nil)))), true, none, none, false, false⟩
def t__law_odd : Ev.Dn := ⟨"_law_odd", ["_law_jar_here"], ["_law_jar_here", "_law_some"],
  (.cons (.set 1 (.lst (.cons (.cst .non) (.cons (.cst (.bl true)) (.cons (.cst (.bl false)) (.cons (.cst (.int 0)) (.cons (.cst (.int 1)) (.cons (.neg (.cst (.int 1))) (.cons (.cst (.str "")) (.cons (.cst (.str "2:")) (.cons (.tup .nil) (.cons (.tup (.cons (.cst (.int 0)) .nil)) (.cons (.lst .nil) (.cons .emp (.cons (.tup (.cons (.cst (.int 1)) (.cons (.cst (.int 1)) .nil))) (.cons (.tup (.cons (.cst (.int 0)) (.cons (.cst (.int 1)) .nil))) (.cons (.tup (.cons (.cst (.int 2)) (.cons (.cst (.int 4)) .nil))) (.cons (.bin .pow (.cst (.int 10)) (.cst (.int 12))) (.cons (.tup (.cons (.tup (.cons (.cst (.int 1)) (.cons (.cst (.int 0)) .nil))) (.cons (.tup (.cons (.cst (.int 1)) (.cons (.cst (.int 2)) .nil))) .nil))) .nil))))))))))))))))))) (.cons (.ret (.call "_law_one_of" (.cons (.var 0) (.cons (.bin .add (.var 1) (.lst (.cons (.cst (.str "1/2")) (.cons (.tup (.cons (.cst (.int 1)) (.cons (.cst (.int 0)) .nil))) (.cons (.tup (.cons (.tup (.cons (.cst (.int 1)) (.cons (.cst (.int 2)) .nil))) (.cons (.tup (.cons (.cst (.int 1)) (.cons (.cst (.int 2)) .nil))) .nil))) (.cons (.lst (.cons (.cst (.int 1)) (.cons (.cst (.int 0)) .nil))) (.cons (.tup (.cons (.cst .non) .nil)) .nil))))))) .nil)))) .nil)), true, none, none, false, false⟩
end Lt
end
section
set_option Elab.async false
set_option linter.all false
set_option maxRecDepth 100000
set_option maxHeartbeats 0
/-! terms of defs -/
namespace Lt6
open PySem Ev L2
def t__law_sort : Ev.Dn := ⟨"_law_sort", ["_law_e"], ["_law_e", "_law_flags", "_law_words", "_law_at", "_law_own", "_law_plain"],
  (.cons (.set 1 (.cel (.cons (.isx "InvalidNumber" [("InvalidPayoff", false), ("InvalidChance", false)] (.var 0)) (.cons (.isx "InvalidText" [("InvalidPayoff", false), ("InvalidChance", false)] (.var 0)) (.cons (.isx "InvalidPayoff" [("InvalidPayoff", true), ("InvalidChance", false)] (.var 0)) .nil))))) (.cons (.set 1 (.addC (.var 1) (.lst (.cons (.isx "InvalidFraction" [("InvalidPayoff", false), ("InvalidChance", false)] (.var 0)) (.cons (.isx "InvalidIndex" [("InvalidPayoff", false), ("InvalidChance", false)] (.var 0)) (.cons (.isx "InvalidLot" [("InvalidPayoff", false), ("InvalidChance", false)] (.var 0)) .nil)))))) (.cons (.set 1 (.addC (.var 1) (.lst (.cons (.isx "NotABook" [("InvalidPayoff", false), ("InvalidChance", false)] (.var 0)) (.cons (.isx "InvalidQuotes" [("InvalidPayoff", false), ("InvalidChance", false)] (.var 0)) (.cons (.isx "InvalidChance" [("InvalidPayoff", false), ("InvalidChance", true)] (.var 0)) .nil)))))) (.cons (.set 1 (.addC (.var 1) (.lst (.cons (.isx "InvalidSale" [("InvalidPayoff", false), ("InvalidChance", false)] (.var 0)) (.cons (.isx "TooGreat" [("InvalidPayoff", false), ("InvalidChance", false)] (.var 0)) (.cons (.isx "NotSound" [("InvalidPayoff", false), ("InvalidChance", false)] (.var 0)) .nil)))))) (.cons (.drop (.app (.var 1) (.isx "Unlike" [("InvalidPayoff", false), ("InvalidChance", false)] (.var 0)))) (.cons (.set 2 (.lst (.cons (.cst (.str "number")) (.cons (.cst (.str "text")) (.cons (.cst (.str "payoff")) (.cons (.cst (.str "fraction")) (.cons (.cst (.str "index")) (.cons (.cst (.str "lot")) (.cons (.cst (.str "book")) (.cons (.cst (.str "quotes")) (.cons (.cst (.str "chance")) (.cons (.cst (.str "sale")) (.cons (.cst (.str "great")) .nil))))))))))))) (.cons (.set 3 (.ite (.cmp .eq (.lcnt (.var 1) (.cst (.bl true))) (.cst (.int 1))) (.lidx (.var 1) (.cst (.bl true))) (.neg (.cst (.int 1))))) (.cons (.set 4 (.lst (.cons (.isx "WrongValue" [("InvalidPayoff", true), ("InvalidChance", true)] (.var 0)) (.cons (.isx "WrongName" [("InvalidPayoff", false), ("InvalidChance", false)] (.var 0)) (.cons (.isx "NoAnswer" [("InvalidPayoff", false), ("InvalidChance", false)] (.var 0)) .nil))))) (.cons (.set 5 (.lst (.cons (.isb .value [("InvalidPayoff", true), ("InvalidChance", true)] (.var 0)) (.cons (.isb .lookup [("InvalidPayoff", false), ("InvalidChance", false)] (.var 0)) (.cons (.isb .arith [("InvalidPayoff", false), ("InvalidChance", false)] (.var 0)) .nil))))) (.cons (.if_ (.or_ (.more (.cmp .lt (.var 3) (.cst (.int 0))) (.more (.cmp .ne (.var 4) (.var 5)) (.one (.cmp .ne (.var 4) (.lst (.cons (.cmp .lt (.var 3) (.cst (.int 10))) (.cons (.cst (.bl false)) (.cons (.cmp .gt (.var 3) (.cst (.int 9))) .nil))))))))) (.cons (.ret (.lst (.cons (.cst (.str "odd")) (.cons (.cst (.str "")) .nil)))) .nil) .nil) (.cons (.if_ (.cmp .gt (.var 3) (.cst (.int 10))) (.cons (.ret (.lst (.cons (.ite (.cmp .eq (.var 3) (.cst (.int 11))) (.cst (.str "sound")) (.cst (.str "unlike"))) (.cons (.cst (.str "")) .nil)))) .nil) .nil) (.cons (.ret (.lst (.cons (.idx (.var 2) (.var 3)) (.cons (.repr (.cons (.ite (.cmp .in_ (.var 3) (.lst (.cons (.cst (.int 7)) (.cons (.cst (.int 8)) (.cons (.cst (.int 9)) .nil))))) (.erf "index" ["InvalidChance"] (.var 0)) (.erf "given" ["InvalidPayoff"] (.var 0))) .nil)) .nil)))) .nil)))))))))))), true, none, none, true, false⟩
def t__law_bent_chance : Ev.Dn := ⟨"_law_bent_chance", ["_law_jar_here", "_law_row"], ["_law_jar_here", "_law_row", "_law_k", "_law_way", "_law_some", "_law_part"],
  (.cons (.par 2 3 (.cons (.call "_law_dip" (.cons (.var 0) (.cons (.blt .len (.cons (.var 1) .nil)) .nil))) (.cons (.call "_law_dip" (.cons (.var 0) (.cons (.cst (.int 7)) .nil))) .nil))) (.cons (.set 4 (.lst (.cons (.tup (.cons (.cst (.int 0)) (.cons (.cst (.int 1)) .nil))) (.cons (.tup (.cons (.cst (.int 1)) (.cons (.cst (.int 1)) .nil))) (.cons (.tup (.cons (.cst (.int 1)) (.cons (.cst (.int 2)) .nil))) (.cons (.tup (.cons (.cst (.int 2)) (.cons (.cst (.int 4)) .nil))) (.cons (.tup (.cons (.neg (.cst (.int 1))) (.cons (.cst (.int 2)) .nil))) (.cons (.tup (.cons (.cst (.int 3)) (.cons (.cst (.int 2)) .nil))) (.cons (.tup (.cons (.cst (.int 1)) (.cons (.cst (.int 0)) .nil))) (.cons (.tup (.cons (.cst (.int 0)) (.cons (.cst (.int 2)) .nil))) (.cons (.cst (.int 0)) (.cons (.cst (.int 1)) (.cons (.cst .non) (.cons (.cst (.bl true)) (.cons (.cst (.str "1")) (.cons (.lst (.cons (.cst (.int 1)) (.cons (.cst (.int 2)) .nil))) .nil)))))))))))))))) (.cons (.set 5 (.call "_law_one_of" (.cons (.var 0) (.cons (.var 4) .nil)))) (.cons (.if_ (.cmp .lt (.var 3) (.cst (.int 3))) (.cons (.ret (.bin .add (.bin .add (.sli (.var 1) .no (.so (.var 2))) (.tup (.cons (.var 5) .nil))) (.sli (.var 1) (.so (.bin .add (.var 2) (.cst (.int 1)))) .no))) .nil) .nil) (.cons (.if_ (.cmp .eq (.var 3) (.cst (.int 3))) (.cons (.set 4 (.lst (.cons (.sli (.var 1) (.so (.cst (.int 1))) .no) (.cons (.bin .add (.var 1) (.tup (.cons (.tup (.cons (.cst (.int 0)) (.cons (.cst (.int 1)) .nil))) .nil))) (.cons (.blt .list (.cons (.var 1) .nil)) (.cons (.cst .non) (.cons (.tup .nil) (.cons (.rev (.var 1)) (.cons (.bin .add (.tup (.cons (.tup (.cons (.cst (.int 1)) (.cons (.bin .add (.bin .pow (.cst (.int 10)) (.cst (.int 6))) (.cst (.int 1))) .nil))) .nil)) (.sli (.var 1) (.so (.cst (.int 1))) .no)) .nil))))))))) (.cons (.ret (.call "_law_one_of" (.cons (.var 0) (.cons (.bin .add (.var 4) (.lst (.cons (.bin .mul (.tup (.cons (.tup (.cons (.cst (.int 0)) (.cons (.cst (.int 1)) .nil))) .nil)) (.blt .len (.cons (.var 1) .nil))) (.cons (.call "_law_odd" (.cons (.var 0) .nil)) .nil)))) .nil)))) .nil)) .nil) (.cons (.ret (.var 1)) .nil)))))), true, none, none, false, false⟩
def t__law_right : Ev.Dn := ⟨"_law_right", ["_law_jar_here"], ["_law_jar_here", "_law_turn", "_law_size", "_law_some", "_law_is_fine", "_law_due", "_law_fault", "_law_told", "_law_here", "_law_gains", "_law_row", ".0", "_law_x"],
  (.cons (.for_ (.nm 1) (.rng1 (.cons (.cst (.int 8)) .nil)) (.cons (.set 2 (.call "_law_one_of" (.cons (.var 0) (.cons (.lst (.cons (.cst (.int 2)) (.cons (.cst (.int 3)) (.cons (.cst (.int 4)) (.cons (.cst (.int 5)) (.cons (.cst (.int 6)) .nil)))))) .nil)))) (.cons (.set 9 (.call "_law_payoff" (.cons (.var 0) (.cons (.var 2) (.cons (.call "_law_one_of" (.cons (.var 0) (.cons (.lst (.cons (.cst (.int 1)) (.cons (.cst (.int 3)) (.cons (.cst (.int 9)) (.cons (.cst (.int 1000)) .nil))))) .nil))) .nil))))) (.cons (.set 10 (.call "_law_bent_chance" (.cons (.var 0) (.cons (.call "_law_chance" (.cons (.var 0) (.cons (.var 2) .nil))) .nil)))) (.cons (.if_ (.cmp .eq (.call "_law_dip" (.cons (.var 0) (.cons (.cst (.int 5)) .nil))) (.cst (.int 0))) (.cons (.set 3 (.lst (.cons (.sli (.var 9) (.so (.cst (.int 1))) .no) (.cons (.bin .add (.var 9) (.tup (.cons (.cst (.int 0)) .nil))) (.cons (.blt .list (.cons (.var 9) .nil)) (.cons (.bin .mul (.tup (.cons (.cst (.int 1001)) .nil)) (.var 2)) (.cons (.bin .mul (.tup (.cons (.cst (.bl true)) .nil)) (.var 2)) (.cons (.sli (.var 9) .no (.so (.cst (.int 1)))) .nil)))))))) (.cons (.set 9 (.call "_law_one_of" (.cons (.var 0) (.cons (.bin .add (.var 3) (.lst (.cons (.call "_law_odd" (.cons (.var 0) .nil)) .nil))) .nil)))) .nil)) .nil) (.cons (.set 4 (.and_ (.more (.isi .tuple (.var 9)) (.more (.cmp2 .le .le (.cst (.int 2)) (.blt .len (.cons (.var 9) .nil)) (.cst (.int 6))) (.one (.call "_law_is_gain" (.cons (.var 9) (.cons (.blt .len (.cons (.var 9) .nil)) .nil)))))))) (.cons (.set 5 (.lst (.cons (.cst (.str "payoff")) (.cons (.repr (.cons (.var 9) .nil)) .nil)))) (.cons (.if_ (.tru (.var 4)) (.cons (.set 6 (.call "_law_chance_fault" (.cons (.var 10) (.cons (.blt .len (.cons (.var 9) .nil)) .nil)))) (.cons (.set 5 (.ite (.cmp .ne (.var 6) (.lst .nil)) (.lst (.cons (.cst (.str "chance")) (.cons (.repr (.cons (.idx (.var 6) (.cst (.int 0))) .nil)) .nil))) (.lst (.cons (.cst (.str "gave")) (.cons (.repr (.cons (.call "_law_worth" (.cons (.var 9) (.cons (.var 10) .nil))) .nil)) .nil))))) .nil)) .nil) (.cons (.set 7 (.cel (.cons (.caught "_law_caught" "_law_sort" [("InvalidPayoff", true), ("InvalidChance", true)] (.call "worth" (.cons (.var 9) (.cons (.var 10) .nil)))) .nil))) (.cons (.drop (.app (.var 7) (.caught "_law_caught" "_law_sort" [("InvalidPayoff", true), ("InvalidChance", true)] (.callK "worth" ["chance", "payoff"] ["payoff", "chance"] (.cons (.var 10) (.cons (.var 9) .nil)))))) (.cons (.if_ (.cmp .ne (.var 7) (.lst (.cons (.var 5) (.cons (.var 5) .nil)))) (.cons (.ret (.cst (.bl false))) .nil) .nil) (.cons (.if_ (.cmp .eq (.idx (.var 5) (.cst (.int 0))) (.cst (.str "gave"))) (.cons (.set 8 (.call "worth" (.cons (.var 9) (.cons (.var 10) .nil)))) (.cons (.if_ (.cmp .lt (.blt .max (.cons (.comp false [(".0", 11), ("_law_x", 12)] (.nm 12) (.seq (.var 9)) .no (.blt .abs (.cons (.var 12) .nil))) .nil)) (.cst (.int 500))) (.cons (.if_ (.cmp .ne (.call "worth" (.cons (.blt .tuple (.cons (.comp false [(".0", 11), ("_law_x", 12)] (.nm 12) (.seq (.var 9)) .no (.bin .mul (.cst (.int 2)) (.var 12))) .nil)) (.cons (.var 10) .nil))) (.call "_law_times" (.cons (.tup (.cons (.cst (.int 2)) (.cons (.cst (.int 1)) .nil))) (.cons (.var 8) .nil)))) (.cons (.ret (.cst (.bl false))) .nil) .nil) (.cons (.if_ (.cmp .ne (.call "worth" (.cons (.blt .tuple (.cons (.comp false [(".0", 11), ("_law_x", 12)] (.nm 12) (.seq (.var 9)) .no (.bin .add (.var 12) (.cst (.int 3)))) .nil)) (.cons (.var 10) .nil))) (.call "_law_plus" (.cons (.var 8) (.cons (.tup (.cons (.cst (.int 3)) (.cons (.cst (.int 1)) .nil))) .nil)))) (.cons (.ret (.cst (.bl false))) .nil) .nil) .nil)) .nil) (.cons (.if_ (.cmp .ne (.call "worth" (.cons (.blt .tuple (.cons (.comp false [(".0", 11), ("_law_x", 12)] (.nm 12) (.seq (.var 9)) .no (.bin .sub (.cst (.int 0)) (.var 12))) .nil)) (.cons (.var 10) .nil))) (.call "_law_minus" (.cons (.var 8) .nil))) (.cons (.ret (.cst (.bl false))) .nil) .nil) .nil))) .nil) .nil)))))))))))) (.cons (.ret (.cst (.bl true))) .nil)), true, none, none, false, true⟩
end Lt6
end
section
set_option Elab.async false
set_option linter.all false
set_option maxRecDepth 100000
set_option maxHeartbeats 1000000
/-! rules: own objects, texts, tuples cut and put together, lists summed, equal data -/
namespace Ev
open PySem L2
section
variable {T : Tab} {ρ : En} {S : Sto} {E : Xn → Sto → Prop}
def ObQ (d : Str) (x : U) (p : Prop) : Prop := match x with
  | .p (.obj e _) => e = d ∧ p
  | _ => False
theorem ObQ_obj {d : Str} {fs : List (Str × P)} {p : Prop} : ObQ d (.p (.obj d fs)) p = p := propext ⟨fun z => z.2, fun z => ⟨rfl, z⟩⟩
theorem ObQ_congr {d : Str} {x x' : U} {p : Prop} (h : x = x') : ObQ d x p = ObQ d x' p := by rw [h]
def TxQ (x : U) (f : Str → Prop) : Prop := match x with
  | .p (.str s) => f s
  | _ => False
theorem TxQ_str {s : Str} {f : Str → Prop} : TxQ (.p (.str s)) f = f s := (rfl)
section
variable {Q : U → Sto → Prop}
theorem q_prop {d f key : Str} {a : Te} : W (dE T (.prop d f key a) ρ S) Q E = W (dE T a ρ S) (fun x S1 => ObQ d x (W (noex (T key [x] S1)) Q E)) E := by
  show W (fProp d (T key) (dE T a) ρ S) Q E = _
  unfold fProp
  rw [W_bind]
  congr 1; funext x S1
  cases x with
  | c n => (first | rfl | exact W_none | exact propext ⟨fun z => (show False from z.out).elim, fun z => z.elim⟩)
  | p z => cases z with
    | obj e fs =>
      show W (if e = d then _ else _) Q E = (e = d ∧ _)
      rw [W_ite]
      by_cases h : e = d
      · rw [if_pos h]; exact propext ⟨fun z => ⟨h, z⟩, fun z => z.2⟩
      · rw [if_neg h]; exact propext ⟨fun z => (show False from z.out).elim, fun z => (h z.1).elim⟩
    | _ => (first | rfl | exact W_none | exact propext ⟨fun z => (show False from z.out).elim, fun z => z.elim⟩)
theorem q_otx {d : Str} {F : List U → Sto → M U} {a : FE} : W (fOtx d F a ρ S) Q E = W (a ρ S) (fun x S1 => ObQ d x (W (txtB (F [x] S1)) Q E)) E := by
  unfold fOtx
  rw [W_bind]
  congr 1; funext x S1
  cases x with
  | c n => (first | rfl | exact W_none | exact propext ⟨fun z => (show False from z.out).elim, fun z => z.elim⟩)
  | p z => cases z with
    | obj e fs =>
      show W (if e = d then _ else _) Q E = (e = d ∧ _)
      rw [W_ite]
      by_cases h : e = d
      · rw [if_pos h]; exact propext ⟨fun z => ⟨h, z⟩, fun z => z.2⟩
      · rw [if_neg h]; exact propext ⟨fun z => (show False from z.out).elim, fun z => (h z.1).elim⟩
    | _ => (first | rfl | exact W_none | exact propext ⟨fun z => (show False from z.out).elim, fun z => z.elim⟩)
theorem q_ostr {d key : Str} {a : Te} : W (dE T (.ostr d key a) ρ S) Q E = W (dE T a ρ S) (fun x S1 => ObQ d x (W (txtB (T key [x] S1)) Q E)) E := q_otx
theorem q_orepr {d key : Str} {a : Te} : W (dE T (.orepr d key a) ρ S) Q E = W (dE T a ρ S) (fun x S1 => ObQ d x (W (txtB (T key [x] S1)) Q E)) E := q_otx
theorem q_oc {neg : Bool} {d : Str} {F : List U → Sto → M U} {a b : FE} : W (fOcmp neg d F a b ρ S) Q E = W (a ρ S) (fun x S1 => W (b ρ S1) (fun y S2 => ObQ d x (okFor d y = true ∧ W (if neg = true then notB (F [x, y] S2) else truB (F [x, y] S2)) Q E)) E) E := by
  unfold fOcmp
  simp only [W_bind]
  congr 1; funext x S1; congr 1; funext y S2
  cases x with
  | c n => (first | rfl | exact W_none | exact propext ⟨fun z => (show False from z.out).elim, fun z => z.elim⟩)
  | p z => cases z with
    | obj e fs =>
      show W (if e = d ∧ okFor d y = true then _ else _) Q E = (e = d ∧ _)
      rw [W_ite]
      by_cases h : e = d ∧ okFor d y = true
      · rw [if_pos h]; exact propext ⟨fun z => ⟨h.1, h.2, z⟩, fun z => z.2.2⟩
      · rw [if_neg h]; exact propext ⟨fun z => (show False from z.out).elim, fun z => (h ⟨z.1, z.2.1⟩).elim⟩
    | _ => (first | rfl | exact W_none | exact propext ⟨fun z => (show False from z.out).elim, fun z => z.elim⟩)
theorem q_ocmpT {d key : Str} {a b : Te} : W (dE T (.ocmp true d key a b) ρ S) Q E = W (dE T a ρ S) (fun x S1 => W (dE T b ρ S1) (fun y S2 => ObQ d x (okFor d y = true ∧ W (notB (T key [x, y] S2)) Q E)) E) E := q_oc
theorem q_ocmpF {d key : Str} {a b : Te} : W (dE T (.ocmp false d key a b) ρ S) Q E = W (dE T a ρ S) (fun x S1 => W (dE T b ρ S1) (fun y S2 => ObQ d x (okFor d y = true ∧ W (truB (T key [x, y] S2)) Q E)) E) E := q_oc
theorem q_join {o a : Te} : W (dE T (.join o a) ρ S) Q E = W (dE T o ρ S) (fun x S1 => TxQ x fun s => W (dE T a ρ S1) (fun y S2 => LifQ (joinP s y S2) S2 Q) E) E := by
  show W (fJoin (dE T o) (dE T a) ρ S) Q E = _
  unfold fJoin
  rw [W_bind]
  congr 1; funext x S1
  cases x with
  | c n => (first | rfl | exact W_none | exact propext ⟨fun z => (show False from z.out).elim, fun z => z.elim⟩)
  | p z => cases z with
    | str s =>
      show W (M.bind _ _) Q E = W _ _ _
      rw [W_bind]
      simp only [q_lift]
    | _ => (first | rfl | exact W_none | exact propext ⟨fun z => (show False from z.out).elim, fun z => z.elim⟩)
end
section
variable {Q : Bool → Sto → Prop}
theorem q_tocmp {neg : Bool} {d key : Str} {a b : Te} : W (dT T (.ocmp neg d key a b) ρ S) Q E = W (dE T (.ocmp neg d key a b) ρ S) (fun u S3 => LibQ (blOf u) S3 Q) E := by
  show W (fBl (dE T (.ocmp neg d key a b)) ρ S) Q E = _
  unfold fBl; simp only [W_bind, q_liftB]
theorem q_totru {d : Str} {a : Te} : W (dT T (.otru d a) ρ S) Q E = W (dE T a ρ S) (fun x S1 => ObQ d x (Q true S1)) E := by
  show W (fOtru d (dE T a) ρ S) Q E = _
  unfold fOtru
  simp only [W_bind, q_liftB]
  congr 1; funext x S1
  cases x with
  | c n => (first | rfl | exact W_none | exact propext ⟨fun z => (show False from z.out).elim, fun z => z.elim⟩)
  | p z => cases z with
    | obj e fs =>
      show LibQ (if e = d then some true else none) S1 Q = (e = d ∧ _)
      by_cases h : e = d
      · rw [if_pos h]; exact propext ⟨fun z => ⟨h, z.out⟩, fun z => ⟨z.2⟩⟩
      · rw [if_neg h]; exact propext ⟨fun z => (show False from z.out).elim, fun z => (h z.1).elim⟩
    | _ => (first | rfl | exact W_none | exact propext ⟨fun z => (show False from z.out).elim, fun z => z.elim⟩)
end
end
section
variable {S : Sto} {i j : Int} {b c : Bool} {n : Nat} {l m : List P} {x y : Str}
theorem noex_ok {A : Type} {a : A} : noex (some (.ok a S)) = some (.ok a S) := (rfl)
theorem txtB_ok : txtB (some (.ok (.p (.str x)) S)) = some (.ok (.p (.str x)) S) := (rfl)
theorem truB_ok : truB (some (.ok (.p (.bl b)) S)) = some (.ok (.p (.bl b)) S) := (rfl)
theorem notB_ok : notB (some (.ok (.p (.bl b)) S)) = some (.ok (.p (.bl (!b))) S) := (rfl)
theorem ok_obj {d : Str} {fs : List (Str × P)} : okFor d (.p (.obj d fs)) = true := by show decide (d = d) = true; exact decide_eq_true rfl
theorem ok_int {d : Str} : okFor d (.p (.int i)) = true := (rfl)
theorem ok_str {d : Str} : okFor d (.p (.str x)) = true := (rfl)
theorem ok_tup {d : Str} : okFor d (.p (.tup l)) = true := (rfl)
theorem ok_non {d : Str} : okFor d (.p .non) = true := (rfl)
theorem b_addS {Q : U → Sto → Prop} : LifQ (binP .add (.p (.str x)) (.p (.str y)) S) S Q = (x.length + y.length ≤ sizeLine ∧ Q (.p (.str (x ++ y))) S) := by
  have e : binP .add (.p (.str x)) (.p (.str y)) S = if x.length + y.length ≤ sizeLine then some (.str (x ++ y)) else none := by
    show (match (if x.length + y.length ≤ sizeLine then some (P.str (x ++ y)) else none) with | some z => some z | none => none) = _
    by_cases h : x.length + y.length ≤ sizeLine
    · simp only [if_pos h]
    · simp only [if_neg h]
  rw [e]
  by_cases h : x.length + y.length ≤ sizeLine
  · rw [if_pos h, LifQ_some]; exact propext ⟨fun z => ⟨h, z⟩, fun z => z.2⟩
  · rw [if_neg h]; exact propext ⟨fun z => (show False from z.out).elim, fun z => (h z.1).elim⟩
theorem b_addL {Q : U → Sto → Prop} : LifQ (binP .add (.p (.lst l)) (.p (.lst m)) S) S Q = (l.length + m.length ≤ sizeLine ∧ Q (.p (.lst (l ++ m))) S) := by
  have e : binP .add (.p (.lst l)) (.p (.lst m)) S = if l.length + m.length ≤ sizeLine then some (.lst (l ++ m)) else none := by
    show (match (if l.length + m.length ≤ sizeLine then some (P.lst (l ++ m)) else none) with | some z => some z | none => none) = _
    by_cases h : l.length + m.length ≤ sizeLine
    · simp only [if_pos h]
    · simp only [if_neg h]
  rw [e]
  by_cases h : l.length + m.length ≤ sizeLine
  · rw [if_pos h, LifQ_some]; exact propext ⟨fun z => ⟨h, z⟩, fun z => z.2⟩
  · rw [if_neg h]; exact propext ⟨fun z => (show False from z.out).elim, fun z => (h z.1).elim⟩
theorem b_addTQ {Q : U → Sto → Prop} : LifQ (binP .add (.p (.tup l)) (.p (.tup m)) S) S Q = (l.length + m.length ≤ sizeLine ∧ Q (.p (.tup (l ++ m))) S) := by
  rw [b_addT]
  show LifQ (if l.length + m.length ≤ sizeLine then some (P.tup (l ++ m)) else none) S Q = _
  by_cases h : l.length + m.length ≤ sizeLine
  · rw [if_pos h, LifQ_some]; exact propext ⟨fun z => ⟨h, z⟩, fun z => z.2⟩
  · rw [if_neg h]; exact propext ⟨fun z => (show False from z.out).elim, fun z => (h z.1).elim⟩
theorem b_pow18 : binP .pow (.p (.int 10)) (.p (.int 18)) S = some (.int 1000000000000000000) := (by rfl)
theorem cut_tup {lo hi : Option Int} : cutU (.p (.tup l)) lo hi S = some (.tup (cutP l lo hi)) := (rfl)
theorem cut_lst {lo hi : Option Int} : cutU (.p (.lst l)) lo hi S = some (.lst (cutP l lo hi)) := (rfl)
theorem cut_scr {ns : List Int} {lo hi : Option Int} : cutU (.p (.scr ns)) lo hi S = some (.lst (cutP (ns.map .int) lo hi)) := (rfl)
theorem cut_to {A : Type} {l : List A} {k : Int} (h : 0 ≤ k) : cutP l none (some k) = l.take k.toNat := by
  unfold cutP HT.sIx
  dsimp only
  rw [if_neg (by omega)]
  simp only [List.drop_zero, Nat.sub_zero]
  rw [List.take_eq_take_iff]
  omega
theorem cut_from {A : Type} {l : List A} {k : Int} (h : 0 ≤ k) : cutP l (some k) none = l.drop k.toNat := by
  unfold cutP HT.sIx
  dsimp only
  rw [if_neg (by omega)]
  rw [show (l.drop (min k.toNat l.length)).take (l.length - min k.toNat l.length) = l.drop (min k.toNat l.length) from List.take_of_length_le (by simp)]
  by_cases hk : k.toNat ≤ l.length
  · rw [Nat.min_eq_left hk]
  · rw [Nat.min_eq_right (by omega), List.drop_eq_nil_of_le (Nat.le_refl _), List.drop_eq_nil_of_le (by omega)]
theorem rev_tup : revP (.p (.tup l)) S = some (.tup l.reverse) := (rfl)
theorem asInts_map : ∀ ns : List Int, asInts (ns.map .int) = some ns
  | [] => rfl
  | n :: ns => by show (asInts (ns.map .int)).map _ = _; rw [asInts_map ns]; rfl
theorem asBls_map : ∀ ns : List Bool, asBls (ns.map .bl) = some ns
  | [] => rfl
  | n :: ns => by show (asBls (ns.map .bl)).map _ = _; rw [asBls_map ns]; rfl
theorem asStrs_map : ∀ ns : List Str, asStrs (ns.map .str) = some ns
  | [] => rfl
  | n :: ns => by show (asStrs (ns.map .str)).map _ = _; rw [asStrs_map ns]; rfl
theorem sum_c {ns : List Int} (h : S[n]? = some (ns.map .int)) : bltP .sum [.c n] S = some (.int ns.sum) := by
  show ((match asListS (.c n) S with | some l => asInts l | none => none).map _) = _
  show ((match S[n]? with | some l => asInts l | none => none).map _) = _
  rw [h]
  dsimp only
  rw [asInts_map]; rfl
theorem sum_lst {ns : List Int} : bltP .sum [.p (.lst (ns.map .int))] S = some (.int ns.sum) := by
  show ((asInts (ns.map .int)).map _) = _
  rw [asInts_map]; rfl
theorem all_lst {bs : List Bool} : bltP .all [.p (.lst (bs.map .bl))] S = some (.bl (bs.all id)) := by
  show ((asBls (bs.map .bl)).map _) = _
  rw [asBls_map]; rfl
theorem any_lst {bs : List Bool} : bltP .any [.p (.lst (bs.map .bl))] S = some (.bl (bs.any id)) := by
  show ((asBls (bs.map .bl)).map _) = _
  rw [asBls_map]; rfl
theorem tup_c (h : S[n]? = some l) : bltP .tuple [.c n] S = some (.tup l) := by
  show (match asListS (.c n) S with | some l => _ | none => _) = _
  show (match S[n]? with | some l => _ | none => _) = _
  rw [h]
theorem seq_c (h : S[n]? = some l) : seqOf (.c n) S = some ⟨l, some n⟩ := by
  show (S[n]?).map (fun l => (⟨l, some n⟩ : Sq)) = _
  rw [h]; rfl
theorem ap_c {z : P} (h : S[n]? = some l) (hl : l.length < 1000000) : appC n (.p z) S = some (.ok (.p .non) (S.set n (l ++ [z]))) := by
  unfold appC
  dsimp only
  rw [h]
  dsimp only
  rw [if_pos hl]
theorem join_ok {ys : List Str} (hy : (ys.map (·.length)).sum + ys.length * x.length ≤ 16777216) : joinP x (.p (.lst (ys.map .str))) S = some (.str (Txt.join x ys)) := by
  unfold joinP
  show (match asStrs (ys.map .str) with | some ys => _ | none => _) = _
  rw [asStrs_map]
  dsimp only
  rw [if_pos hy]
theorem join_c {ys : List Str} (h : S[n]? = some (ys.map .str)) (hy : (ys.map (·.length)).sum + ys.length * x.length ≤ 16777216) : joinP x (.c n) S = some (.str (Txt.join x ys)) := by
  unfold joinP
  show (match (S[n]?).orElse _ with | some l => _ | none => none) = _
  rw [h]
  show (match asStrs (ys.map .str) with | some ys => _ | none => _) = _
  rw [asStrs_map]
  dsimp only
  rw [if_pos hy]
theorem rng_s {k : Nat} (h : k < 1000000) : rng1Of [.p (.int k)] S = some ⟨(List.range k).map fun i => .int (i : Nat), none⟩ := rng_1 (Nat.lt_trans h (by decide))
theorem enum_tup : enumOf [.p (.tup l)] S = some ⟨nums l, none⟩ := (rfl)
theorem isi_int : isiP "int" (.p (.int i)) = some true := by show kitB "int" "int" = _; decide +kernel
theorem isi_bool : isiP "bool" (.p (.int i)) = some false := by show kitB "int" "bool" = _; decide +kernel
theorem isi_tup : isiP "tuple" (.p (.tup l)) = some true := by show kitB "tuple" "tuple" = _; decide +kernel
theorem ty_int : Bt.ty .int = "int" := (rfl)
theorem ty_bool : Bt.ty .bool = "bool" := (rfl)
theorem ty_tuple : Bt.ty .tuple = "tuple" := (rfl)
end
/-! ### data with a Lean type -/
class Dat (A : Type) [DecidableEq A] where
  toP : A → P
  toD : A → PyData
  py : ∀ a, toPy (toP a) = some (toD a)
  eqv : ∀ a b, PyData.eqv (toD a) (toD b) = decide (a = b)
  lay : ∀ a, (toD a).canLay0 = true
  dep : Nat
  dep_le : ∀ a, (toD a).depth ≤ dep
section
variable {A B : Type} [DecidableEq A] [Dat A] [DecidableEq B] [Dat B]
theorem beq_dec {α : Type} [BEq α] [LawfulBEq α] [DecidableEq α] (a b : α) : (a == b) = decide (a = b) := by
  rw [Bool.eq_iff_iff, beq_iff_eq, decide_eq_true_eq]
instance : Dat Int where
  toP := .int
  toD := .int
  py _ := rfl
  eqv a b := by simp only [PyData.eqv]; exact beq_dec a b
  lay _ := by unfold PyData.canLay0; rfl
  dep := 0
  dep_le _ := Nat.le_refl _
theorem pys_map : ∀ xs : List A, toPys (xs.map Dat.toP) = some (xs.map Dat.toD)
  | [] => rfl
  | x :: xs => by
    rw [List.map_cons]
    unfold toPys
    rw [Dat.py x, pys_map xs]; rfl
theorem lays_map : ∀ xs : List A, PyData.canLayAll0 (xs.map Dat.toD) = true
  | [] => by unfold PyData.canLayAll0; rfl
  | x :: xs => by
    rw [List.map_cons]
    unfold PyData.canLayAll0
    rw [Dat.lay x, lays_map xs]; rfl
theorem deps_map : ∀ xs : List A, PyData.depthAll (xs.map Dat.toD) ≤ Dat.dep A
  | [] => Nat.zero_le _
  | x :: xs => by
    rw [List.map_cons, PyData.depthAll]
    exact Nat.max_le.mpr ⟨Dat.dep_le x, deps_map xs⟩
theorem eqvs_map : ∀ xs ys : List A, PyData.eqvAll (xs.map Dat.toD) (ys.map Dat.toD) = decide (xs = ys)
  | [], [] => by simp only [List.map_nil, PyData.eqvAll, decide_true]
  | [], _ :: _ => by simp [PyData.eqvAll]
  | _ :: _, [] => by simp [PyData.eqvAll]
  | x :: xs, y :: ys => by
    rw [List.map_cons, List.map_cons, PyData.eqvAll, Dat.eqv x y, eqvs_map xs ys, ← Bool.decide_and]
    exact decide_eq_decide.mpr (by rw [List.cons.injEq])
/-- lists stand for tuples -/
instance : Dat (List A) where
  toP xs := .tup (xs.map Dat.toP)
  toD xs := .tuple (xs.map Dat.toD)
  py xs := by unfold toPy; rw [pys_map]; rfl
  eqv xs ys := by simp only [PyData.eqv]; exact eqvs_map xs ys
  lay xs := by unfold PyData.canLay0; exact lays_map xs
  dep := Dat.dep A + 1
  dep_le xs := by simp only [PyData.depth]; exact Nat.succ_le_succ (deps_map xs)
instance : Dat (A × B) where
  toP p := .tup [Dat.toP p.1, Dat.toP p.2]
  toD p := .tuple [Dat.toD p.1, Dat.toD p.2]
  py p := by unfold toPy toPys toPys toPys; rw [Dat.py p.1, Dat.py p.2]; rfl
  eqv p q := by
    simp only [PyData.eqv, PyData.eqvAll]
    rw [Dat.eqv, Dat.eqv, Bool.and_true, ← Bool.decide_and]
    exact decide_eq_decide.mpr ⟨fun e => Prod.ext e.1 e.2, fun e => by rw [e]; exact ⟨rfl, rfl⟩⟩
  lay p := by unfold PyData.canLay0 PyData.canLayAll0 PyData.canLayAll0 PyData.canLayAll0; rw [Dat.lay, Dat.lay]; rfl
  dep := max (Dat.dep A) (Dat.dep B) + 1
  dep_le p := by
    simp only [PyData.depth, PyData.depthAll]
    exact Nat.succ_le_succ (Nat.max_le.mpr ⟨Nat.le_trans (Dat.dep_le p.1) (Nat.le_max_left _ _), Nat.max_le.mpr ⟨Nat.le_trans (Dat.dep_le p.2) (Nat.le_max_right _ _), Nat.zero_le _⟩⟩)
/-- a fraction in lowest terms -/
instance : Dat Rat where
  toP q := .tup [.int q.num, .int q.den]
  toD q := .tuple [.int q.num, .int q.den]
  py q := rfl
  eqv p q := by
    simp only [PyData.eqv, PyData.eqvAll]
    rw [beq_dec, beq_dec, Bool.and_true, ← Bool.decide_and]
    exact decide_eq_decide.mpr ⟨fun e => Rat.ext e.1 (by omega), fun e => by rw [e]; exact ⟨rfl, rfl⟩⟩
  lay p := by unfold PyData.canLay0 PyData.canLayAll0 PyData.canLayAll0 PyData.canLayAll0 PyData.canLay0; rfl
  dep := 1
  dep_le p := by simp only [PyData.depth, PyData.depthAll]; decide
theorem shaped_dat (hd : Dat.dep A ≤ 64) (a : A) : SeqAt.shaped (Dat.toD a) = true := by
  unfold SeqAt.shaped
  rw [Dat.lay a, Bool.true_and]
  exact decide_eq_true (Nat.le_trans (Dat.dep_le a) hd)
theorem eqB_dat (hd : Dat.dep A ≤ 64) (a b : A) (S : Sto) : eqB (.p (Dat.toP a)) (.p (Dat.toP b)) S = some (decide (a = b)) := by
  show (match toPy (Dat.toP a), toPy (Dat.toP b) with | some d, some e => _ | _, _ => none) = _
  rw [Dat.py a, Dat.py b]
  dsimp only
  rw [if_pos ⟨shaped_dat hd a, shaped_dat hd b⟩, Dat.eqv]
theorem c_eqD (hd : Dat.dep A ≤ 64) (a b : A) (S : Sto) : cmpP .eq (.p (Dat.toP a)) (.p (Dat.toP b)) S = some (.bl (decide (a = b))) := by
  show (eqB _ _ S).map P.bl = _
  rw [eqB_dat hd]; rfl
theorem c_neD (hd : Dat.dep A ≤ 64) (a b : A) (S : Sto) : cmpP .ne (.p (Dat.toP a)) (.p (Dat.toP b)) S = some (.bl (!decide (a = b))) := by
  show ((eqB _ _ S).map fun b => P.bl (!b)) = _
  rw [eqB_dat hd]; rfl
theorem eqB_str {x y : Str} (hx : PyData.strOk x = true) (hy : PyData.strOk y = true) (S : Sto) : eqB (.p (.str x)) (.p (.str y)) S = some (decide (x = y)) := by
  have sh : ∀ {x : Str}, PyData.strOk x = true → SeqAt.shaped (.str x) = true := fun {x} h => by
    unfold SeqAt.shaped PyData.canLay0
    rw [h]; rfl
  show (if SeqAt.shaped (.str x) = true ∧ SeqAt.shaped (.str y) = true then some (PyData.eqv (.str x) (.str y)) else none) = _
  rw [if_pos ⟨sh hx, sh hy⟩]
  have : PyData.eqv (.str x) (.str y) = (x == y) := by simp [PyData.eqv]
  rw [this, beq_dec]
theorem c_bl {b c : Bool} {S : Sto} : cmpP .eq (.p (.bl b)) (.p (.bl c)) S = some (.bl (b == c)) := by
  have e : eqB (.p (.bl b)) (.p (.bl c)) S = some (b == c) := by
    have sh : ∀ k : Bool, SeqAt.shaped (.bool k) = true := fun k => by
      unfold SeqAt.shaped PyData.canLay0; rfl
    show (if SeqAt.shaped (.bool b) = true ∧ SeqAt.shaped (.bool c) = true then some (PyData.eqv (.bool b) (.bool c)) else none) = _
    rw [if_pos ⟨sh b, sh c⟩]
    simp [PyData.eqv]
  show (eqB (.p (.bl b)) (.p (.bl c)) S).map P.bl = _
  rw [e]; rfl
theorem c_nbl {b c : Bool} {S : Sto} : cmpP .ne (.p (.bl b)) (.p (.bl c)) S = some (.bl (!(b == c))) := by
  have e : eqB (.p (.bl b)) (.p (.bl c)) S = some (b == c) := by
    have h := c_bl (b := b) (c := c) (S := S)
    have h : (eqB (.p (.bl b)) (.p (.bl c)) S).map P.bl = some (.bl (b == c)) := h
    obtain ⟨z, e1, e2⟩ := Option.map_eq_some_iff.mp h
    cases e2
    exact e1
  show ((eqB (.p (.bl b)) (.p (.bl c)) S).map fun b => P.bl (!b)) = _
  rw [e]; rfl
end

section
variable {T : Tab} {E : Xn → Sto → Prop}
theorem W_compL' {A : Type} {tg : Tg} {cond : FT} {elt : FE} {q : Sq} {n : Nat} {ρ0 : En} {Q : Unit → Sto → Prop} (I : List P → List P → Sto → Prop) (hq : ∀ r acc S, I r acc S → srcOk q S) : ∀ (items acc : List P) (S : Sto), I items acc S →
    (∀ x r acc S, I (x :: r) acc S → S[n]? = some acc → ∃ ρ1, asg tg x ρ0 = some ρ1 ∧ W (cond ρ1 S) (fun b S2 => if b = true then
      W (elt ρ1 S2) (fun u S3 => ∃ y, u = .p y ∧ S3[n]? = some acc ∧ acc.length < 1000000 ∧ I r (acc ++ [y]) (S3.set n (acc ++ [y]))) NoX else S2[n]? = some acc ∧ I r acc S2) NoX) →
    S[n]? = some acc → (∀ acc S, I [] acc S → S[n]? = some acc → Q () S) → W (compL tg cond elt q n items ρ0 S) Q E
  | [], acc, S, h, _, hn, he => by
    unfold compL
    rw [W_ok]
    exact he acc S h hn
  | x :: r, acc, S, h, hs, hn, he => by
    obtain ⟨ρ1, e1, h1⟩ := hs x r acc S h hn
    unfold compL
    rw [e1]
    dsimp only
    rw [W_bind]
    refine W_noex (W_imp h1 fun b S2 z => ?_)
    split at z
    · rename_i hb
      rw [if_pos hb, W_bind]
      refine W_noex (W_imp z fun u S3 z => ?_)
      obtain ⟨y, rfl, e3, hl, hI⟩ := z
      dsimp only
      rw [e3]
      dsimp only
      rw [if_pos ⟨hl, hq _ _ _ hI⟩]
      refine W_compL' (A := A) I hq r (acc ++ [y]) _ hI hs ?_ he
      rw [List.getElem?_set_self (List.getElem?_eq_some_iff.mp e3).1]
    · rename_i hb
      rw [if_neg hb, if_pos (hq _ _ _ z.2)]
      exact W_compL' (A := A) I hq r acc S2 z.2 hs z.1 he
theorem W_mapC {cell : Bool} {own : List Nat} {elt : FE} {tg : Tg} {it : FI} {ρ : En} {S : Sto} {Q : U → Sto → Prop} {m : Nat} (items : List P) (g : P → P) (hm : S[m]? = some items)
    (hi : W (it ρ S) (fun q S2 => q = ⟨items, some m⟩ ∧ S2 = S) NoX) (hl : items.length < 1000000)
    (hs : ∀ x ∈ items, ∀ acc, ∃ ρ1, asg tg x (wipeE ρ own) = some ρ1 ∧ W (elt ρ1 (S ++ [acc])) (fun u S3 => u = .p (g x) ∧ S3 = S ++ [acc]) NoX)
    (he : if cell = true then Q (.c S.length) (S ++ [items.map g]) else Q (.p (.lst (items.map g))) S) : W (fComp cell own elt tg it (dC T .no) ρ S) Q E := by
  have so : ∀ acc : List P, srcOk ⟨items, some m⟩ (S ++ [acc]) := fun acc n e => by
    cases e
    rw [List.getElem?_append_left (List.getElem?_eq_some_iff.mp hm).1]
    exact hm
  obtain ⟨q, S2, e, rfl, rfl⟩ := W_eq hi
  unfold fComp
  rw [e, bind_ok, if_pos (so []), W_bind]
  refine W_compL' (A := Unit) (fun r acc S' => S' = S2 ++ [acc] ∧ ∃ l, items = l ++ r ∧ acc = l.map g) (fun r acc S' z => by rw [z.1]; exact so acc) items [] _ ⟨rfl, [], rfl, rfl⟩ ?_ (by simp) ?_
  · rintro x r acc S' ⟨rfl, l, e, rfl⟩ _
    obtain ⟨ρ1, e1, h1⟩ := hs x (by rw [e]; simp) (l.map g)
    refine ⟨ρ1, e1, ?_⟩
    rw [q_cno, if_pos rfl]
    refine W_imp h1 fun u S3 z => ?_
    obtain ⟨rfl, rfl⟩ := z
    refine ⟨_, rfl, by simp, by rw [e] at hl; simp at hl ⊢; omega, by simp, l ++ [x], by rw [e]; simp, by simp⟩
  · rintro acc S' ⟨rfl, l, e, rfl⟩ _
    have : l = items := by rw [e]; simp
    subst this
    unfold compEnd
    rw [show (S2 ++ [l.map g])[S2.length]? = some (l.map g) by simp]
    dsimp only
    rw [W_ite]
    split at he
    · rename_i hb
      rw [if_pos hb, W_ok, List.take_of_length_le (by simp)]
      exact he
    · rename_i hb
      rw [if_neg hb, W_ok, List.take_left]
      exact he
theorem set_ci {S : Sto} {n : Nat} {l : List P} {z : P} {d : Int} (h : S[n]? = some l) (h0 : 0 ≤ d) (hk : d.toNat < l.length) : setC (.c n) (.p (.int d)) z S = some (S.set n (l.set d.toNat z)) := by
  obtain ⟨k, rfl⟩ := Int.eq_ofNat_of_zero_le h0
  rw [Int.toNat_natCast] at hk ⊢
  exact set_c h hk
end
end Ev
end
section
set_option Elab.async false
set_option linter.all false
set_option maxRecDepth 100000
set_option maxHeartbeats 1000000
/-! texts of numbers, of quotes, of books: each one has just one -/
namespace Lp
open PySem
def tl (s : Str) : List Nat := s.cps.toList
theorem tl_app (a b : Str) : tl (a ++ b) = tl a ++ tl b := by
  show (a.cps ++ b.cps).toList = _
  rw [Array.toList_append]; rfl
theorem tl_inj {a b : Str} (h : tl a = tl b) : a = b := by
  cases a; cases b
  congr 1
  exact Array.toList_inj.mp h
theorem tl_len (a : Str) : (tl a).length = a.length := rfl
theorem app_assoc (a b c : Str) : a ++ b ++ c = a ++ (b ++ c) := tl_inj (by simp only [tl_app, List.append_assoc])
def decT (i : Int) : List Nat := (toString i).toList.map Char.toNat
theorem tl_of (s : String) : tl (Str.ofString s) = s.toList.map Char.toNat := by rw [Str.ofString_eq_toList]; rfl
def natT (n : Nat) : List Nat := (Nat.toDigits 10 n).map Char.toNat
theorem decT_nat (n : Nat) : decT (n : Int) = natT n := by
  unfold decT natT
  rw [show toString (n : Int) = n.repr from rfl, Nat.toList_repr]
theorem decT_neg (n : Nat) : decT (Int.negSucc n) = 45 :: natT (n + 1) := by
  unfold decT natT
  rw [show toString (Int.negSucc n) = "-" ++ (n + 1).repr from rfl, String.toList_append, Nat.toList_repr, List.map_append]
  rfl
theorem digit_nat {c : Char} (h : c.isDigit = true) : 48 ≤ c.toNat ∧ c.toNat ≤ 57 := by
  unfold Char.isDigit at h
  simp only [Bool.and_eq_true, decide_eq_true_eq] at h
  exact ⟨h.1, h.2⟩
theorem natT_digit {n c : Nat} (h : c ∈ natT n) : 48 ≤ c ∧ c ≤ 57 := by
  unfold natT at h
  obtain ⟨d, h1, rfl⟩ := List.mem_map.mp h
  exact digit_nat (Nat.isDigit_of_mem_toDigits (by decide) (by decide) h1)
theorem toNat_inj {l m : List Char} (h : l.map Char.toNat = m.map Char.toNat) : l = m :=
  (List.map_inj_right fun x y e => Char.ext (UInt32.toNat_inj.mp e)).mp h
theorem natT_inj {n m : Nat} (h : natT n = natT m) : n = m := by
  have := toNat_inj h
  rw [← Nat.ofDigitChars_ten_toDigits (n := n), ← Nat.ofDigitChars_ten_toDigits (n := m), this]
theorem natT_ne {n : Nat} : natT n ≠ [] := by
  unfold natT
  intro h
  exact Nat.toDigits_ne_nil (List.map_eq_nil_iff.mp h)
theorem decT_inj : ∀ {i j : Int}, decT i = decT j → i = j
  | .ofNat n, .ofNat m, h => by
    have h : decT (n : Int) = decT (m : Int) := h
    rw [decT_nat, decT_nat] at h
    rw [natT_inj h]
  | .negSucc n, .negSucc m, h => by
    rw [decT_neg, decT_neg] at h
    have := natT_inj (List.cons.inj h).2
    rw [show n = m by omega]
  | .ofNat n, .negSucc m, h => by
    have h : decT (n : Int) = decT (.negSucc m) := h
    rw [decT_nat, decT_neg] at h
    have := natT_digit (n := n) (c := 45) (by rw [h]; simp)
    omega
  | .negSucc m, .ofNat n, h => by
    have h : decT (.negSucc m) = decT (n : Int) := h
    rw [decT_nat, decT_neg] at h
    have := natT_digit (n := n) (c := 45) (by rw [← h]; simp)
    omega
/-- a sign that no number has -/
def Free (c : Nat) : Prop := c ≠ 45 ∧ ¬ (48 ≤ c ∧ c ≤ 57)
theorem decT_free {c : Nat} (h : Free c) : ∀ i : Int, c ∉ decT i
  | .ofNat n => by
    show c ∉ decT (n : Int)
    rw [decT_nat]
    exact fun z => h.2 (natT_digit z)
  | .negSucc n => by
    rw [decT_neg]
    intro z
    rcases List.mem_cons.mp z with z | z
    · exact h.1 z
    · exact h.2 (natT_digit z)
theorem split1 {c : Nat} : ∀ {a a' b b' : List Nat}, c ∉ a → c ∉ a' → a ++ c :: b = a' ++ c :: b' → a = a' ∧ b = b'
  | [], [], _, _, _, _, h => ⟨rfl, (List.cons.inj h).2⟩
  | [], x :: a', _, _, _, h2, h => by
    have := (List.cons.inj h).1
    subst this
    exact (h2 (by simp)).elim
  | x :: a, [], _, _, h1, _, h => by
    have := (List.cons.inj h).1
    subst this
    exact (h1 (by simp)).elim
  | x :: a, x' :: a', _, _, h1, h2, h => by
    obtain ⟨rfl, h3⟩ := List.cons.inj h
    obtain ⟨rfl, rfl⟩ := split1 (fun z => h1 (List.mem_cons_of_mem _ z)) (fun z => h2 (List.mem_cons_of_mem _ z)) h3
    exact ⟨rfl, rfl⟩
/-- lists with a sign between -/
def J (c : Nat) : List (List Nat) → List Nat
  | [] => []
  | [x] => x
  | x :: y :: r => x ++ c :: J c (y :: r)
theorem J_inj {c : Nat} : ∀ {l l' : List (List Nat)}, l ≠ [] → l' ≠ [] → (∀ x ∈ l, c ∉ x) → (∀ x ∈ l', c ∉ x) → J c l = J c l' → l = l'
  | [], _, h, _, _, _, _ => (h rfl).elim
  | _ :: _, [], _, h, _, _, _ => (h rfl).elim
  | [x], [y], _, _, _, _, h => by
    have h : x = y := h
    rw [h]
  | [x], y :: z :: r, _, _, h1, _, h => by
    have h : x = y ++ c :: J c (z :: r) := h
    exact (h1 x (by simp) (by rw [h]; simp)).elim
  | y :: z :: r, [x], _, _, _, h1, h => by
    have h : y ++ c :: J c (z :: r) = x := h
    exact (h1 x (by simp) (by rw [← h]; simp)).elim
  | x :: y :: r, x' :: y' :: r', _, _, h1, h2, h => by
    obtain ⟨rfl, h3⟩ := split1 (h1 x (by simp)) (h2 x' (by simp)) h
    rw [J_inj (by simp) (by simp) (fun z m => h1 z (List.mem_cons_of_mem _ m)) (fun z m => h2 z (List.mem_cons_of_mem _ m)) h3]
theorem J_free {c d : Nat} (hd : d ≠ c) : ∀ {l : List (List Nat)}, (∀ x ∈ l, d ∉ x) → d ∉ J c l
  | [], _ => by simp [J]
  | [x], h => h x (by simp)
  | x :: y :: r, h => by
    show d ∉ x ++ c :: J c (y :: r)
    intro z
    rcases List.mem_append.mp z with z | z
    · exact h x (by simp) z
    · rcases List.mem_cons.mp z with z | z
      · exact hd z
      · exact J_free hd (fun w m => h w (List.mem_cons_of_mem _ m)) z
abbrev Qt := List Int × Rat
def fT (q : Rat) : List Nat := decT q.num ++ 47 :: decT q.den
def qT (q : Qt) : List Nat := J 44 (q.1.map decT) ++ 62 :: 61 :: fT q.2
def pT (n : Int) (qs : List Qt) : List Nat := J 32 ((decT n ++ [58]) :: qs.map qT)
theorem fT_inj {q q' : Rat} (h : fT q = fT q') : q = q' := by
  obtain ⟨h1, h2⟩ := split1 (decT_free (by unfold Free; omega) _) (decT_free (by unfold Free; omega) _) h
  have h2 := decT_inj h2
  exact Rat.ext (decT_inj h1) (by omega)
theorem map_decT_inj {l m : List Int} (h : l.map decT = m.map decT) : l = m := (List.map_inj_right fun _ _ e => decT_inj e).mp h
theorem mem_decT {c : Nat} (hc : Free c) {l : List Int} : ∀ x ∈ l.map decT, c ∉ x := fun x h => by
  obtain ⟨i, _, rfl⟩ := List.mem_map.mp h
  exact decT_free hc i
theorem qT_inj {q q' : Qt} (h0 : q.1 ≠ []) (h0' : q'.1 ≠ []) (h : qT q = qT q') : q = q' := by
  obtain ⟨h1, h2⟩ := split1 (J_free (by decide) (mem_decT (by unfold Free; omega))) (J_free (by decide) (mem_decT (by unfold Free; omega))) h
  have h2 := fT_inj (List.cons.inj h2).2
  have h3 := map_decT_inj (J_inj (by simpa using h0) (by simpa using h0') (mem_decT (by unfold Free; omega)) (mem_decT (by unfold Free; omega)) h1)
  exact Prod.ext h3 h2
theorem fT_free {c : Nat} (hc : Free c) (h : c ≠ 47) (q : Rat) : c ∉ fT q := by
  unfold fT
  intro z
  rcases List.mem_append.mp z with z | z
  · exact decT_free hc _ z
  · rcases List.mem_cons.mp z with z | z
    · exact h z
    · exact decT_free hc _ z
theorem qT_free (q : Qt) : 32 ∉ qT q := by
  unfold qT
  intro z
  rcases List.mem_append.mp z with z | z
  · exact J_free (by decide) (mem_decT (by unfold Free; omega)) z
  · simp only [List.mem_cons] at z
    rcases z with z | z | z
    · omega
    · omega
    · exact fT_free (by unfold Free; omega) (by omega) _ z
theorem pT_inj {n n' : Int} {qs qs' : List Qt} (h0 : ∀ q ∈ qs, q.1 ≠ []) (h0' : ∀ q ∈ qs', q.1 ≠ []) (h : pT n qs = pT n' qs') : n = n' ∧ qs = qs' := by
  have hf : ∀ (n : Int) (qs : List Qt), ∀ x ∈ (decT n ++ [58]) :: qs.map qT, 32 ∉ x := fun n qs x hx => by
    rcases List.mem_cons.mp hx with rfl | hx
    · intro z
      rcases List.mem_append.mp z with z | z
      · exact decT_free (by unfold Free; omega) _ z
      · simp at z
    · obtain ⟨q, _, rfl⟩ := List.mem_map.mp hx
      exact qT_free q
  have := J_inj (by simp) (by simp) (hf n qs) (hf n' qs') h
  obtain ⟨h1, h2⟩ := List.cons.inj this
  refine ⟨decT_inj (List.append_cancel_right h1), ?_⟩
  clear this h h1 hf
  induction qs generalizing qs' with
  | nil => cases qs' with
    | nil => rfl
    | cons q' qs' => cases h2
  | cons q qs ih => cases qs' with
    | nil => cases h2
    | cons q' qs' =>
      obtain ⟨e1, e2⟩ := List.cons.inj h2
      rw [qT_inj (h0 q (by simp)) (h0' q' (by simp)) e1, ih (fun q m => h0 q (List.mem_cons_of_mem _ m)) (fun q m => h0' q (List.mem_cons_of_mem _ m)) e2]
theorem tl_join (s : Nat) (sep : Str) (hs : tl sep = [s]) : ∀ l : List Str, tl (Txt.join sep l) = J s (l.map tl) := by
  intro l
  unfold Txt.join
  rw [StrLaws.glued_eq_join]
  induction l with
  | nil => rfl
  | cons x r ih => cases r with
    | nil => rfl
    | cons y r =>
      show tl (x ++ sep ++ Str.join sep (y :: r)) = _
      rw [tl_app, tl_app, ih, hs, List.append_assoc]; rfl
end Lp
end
section
set_option Elab.async false
set_option linter.all false
set_option maxRecDepth 100000
set_option maxHeartbeats 1000000
local macro_rules
  | `(tactic| simp_arith [$ls,*]) => `(tactic| simp only [↓Ev.q_var, ↓Ev.q_glo, ↓Ev.q_cst, ↓Ev.q_bin, ↓Ev.q_neg, ↓Ev.q_cmp, ↓Ev.q_cmp2, ↓Ev.q_and, ↓Ev.q_and1, ↓Ev.q_andm, ↓Ev.q_or, ↓Ev.q_or1, ↓Ev.q_orm, ↓Ev.q_not, ↓Ev.q_ite, ↓Ev.q_blt, ↓Ev.q_gcd, ↓Ev.q_call, ↓Ev.q_make, ↓Ev.q_callK, ↓Ev.q_makeK, ↓Ev.q_tup, ↓Ev.q_lst, ↓Ev.q_cel, ↓Ev.q_idx, ↓Ev.q_sli, ↓Ev.q_app, ↓Ev.q_isi, ↓Ev.q_repr, ↓Ev.q_fld, ↓Ev.q_isc, ↓Ev.q_isx, ↓Ev.q_isb, ↓Ev.q_erf, ↓Ev.q_rev, ↓Ev.q_fstr, ↓Ev.q_fnil, ↓Ev.q_ftxt, ↓Ev.q_fval, ↓Ev.q_nil, ↓Ev.q_cons, ↓Ev.q_no, ↓Ev.q_so, ↓Ev.q_tru, ↓Ev.q_tcmp, ↓Ev.q_tcmp2, ↓Ev.q_tnot, ↓Ev.q_tand, ↓Ev.q_tor, ↓Ev.q_tand1, ↓Ev.q_tor1, ↓Ev.q_tandm, ↓Ev.q_torm, ↓Ev.q_cno, ↓Ev.q_cso, ↓Ev.q_iseq, ↓Ev.q_rng1, ↓Ev.q_rng2, ↓Ev.q_zip, ↓Ev.q_enum, ↓Ev.q_snil, ↓Ev.q_scons, ↓Ev.q_pass, ↓Ev.q_brk, ↓Ev.q_cont, ↓Ev.q_ret, ↓Ev.q_retN, ↓Ev.q_raise, ↓Ev.q_if, ↓Ev.q_set, ↓Ev.q_asg, ↓Ev.q_drop, ↓Ev.q_par, ↓Ev.q_for, ↓Ev.q_setI, ↓Ev.q_setIN, ↓Ev.q_augI, ↓Ev.q_emp, ↓Ev.q_addC, ↓Ev.q_lidx, ↓Ev.q_lcnt, ↓Ev.AddQ_some, ↓Ev.W_ok, ↓Ev.SeqQ_nx, ↓Ev.SeqQ_rt, ↓Ev.SeqQ_bk, ↓Ev.SeqQ_ct, ↓Ev.OutQ_nx, ↓Ev.OutQ_rt, ↓Ev.TrQ_p, ↓Ev.VarQ_some, ↓Ev.LifQ_some, ↓Ev.LibQ_some, ↓Ev.IfQ_t, ↓Ev.IfQ_f, ↓Ev.AndQ_some, ↓Ev.SqQ_some, ↓Ev.StoQ_some, ↓Ev.EnQ_some, ↓Ev.C2Q_bl, ↓Ev.CelQ_some, ↓Ev.FmtQ_some, ↓Ev.ParQ_2, ↓Ev.b_mul, ↓Ev.b_div, ↓Ev.b_mod, ↓Ev.dm_blt, ↓Ev.f_int, ↓Ev.f_str, ↓Ev.s_int, ↓Ev.q_comp, ↓Ev.q_prop, ↓Ev.q_ostr, ↓Ev.q_orepr, ↓Ev.q_ocmpT, ↓Ev.q_ocmpF, ↓Ev.q_join, ↓Ev.q_tocmp, ↓Ev.q_totru, ↓Ev.b_addS, ↓Ev.b_addL, ↓Ev.b_addTQ, ↓Ev.q_setK, ↓Ev.q_while, Ev.VarQ_some, Ev.LifQ_some, Ev.LibQ_some, Ev.IfQ_t, Ev.IfQ_f, Ev.AndQ_some, Ev.SqQ_some, Ev.StoQ_some, Ev.EnQ_some, Ev.C2Q_bl, Ev.CelQ_some, Ev.OrdQ_some, Ev.FmtQ_some, Ev.ParQ_2, Ev.b_add, Ev.b_sub, Ev.c_lt, Ev.c_le, Ev.c_gt, Ev.c_ge, Ev.c_eq, Ev.c_ne, Ev.bl_of, Ev.v_neg, Ev.t_bl, Ev.t_int, Ev.t_tup, Ev.t_lst, Ev.t_non, Ev.ix_tup, Ev.ix_lst, Ev.ix_scr, Ev.at_0, Ev.at_1, Ev.at_2, Ev.l_tup, Ev.l_lst, Ev.len_blt, Ev.abs_blt, Ev.max_blt, Ev.min_blt, Ev.int_blt, Ev.tup_blt, Ev.lst_blt, Ev.gcd_int, Ev.seq_tup, Ev.seq_lst, Ev.seq_scr, Ev.ps0, Ev.ps1, Ev.ps2, Ev.ps3, Ev.ps4, Ev.ps5, Option.map_some, Option.map_none, List.getElem?_cons_zero, List.getElem?_cons_succ, List.set_cons_zero, List.set_cons_succ, List.map_cons, List.map_nil, List.cons_append, List.nil_append, List.length_cons, List.length_nil, List.length_set, List.replicate_succ, List.replicate_zero, Nat.reduceAdd, Nat.reduceSub, Nat.reduceLT, Nat.reduceLeDiff, Nat.sub_self, Ev.take_all, Ev.take_setS, Ev.take_app, Ev.take_setapp, Ev.ObQ_obj, Ev.TxQ_str, Ev.noex_ok, Ev.txtB_ok, Ev.truB_ok, Ev.notB_ok, Ev.ok_obj, Ev.ok_int, Ev.ok_str, Ev.ok_tup, Ev.ok_non, Ev.b_pow18, Ev.cut_tup, Ev.cut_lst, Ev.cut_scr, Ev.rev_tup, Ev.as_tup1, List.set_set, Ev.wipeE, Ev.asg_nm, Ev.asg_tp, Ev.asgs_nil, Ev.asgs_c1, $ls,*])
  | `(tactic| simp_arith [$ls,*] at $h:ident) => `(tactic| simp only [↓Ev.q_var, ↓Ev.q_glo, ↓Ev.q_cst, ↓Ev.q_bin, ↓Ev.q_neg, ↓Ev.q_cmp, ↓Ev.q_cmp2, ↓Ev.q_and, ↓Ev.q_and1, ↓Ev.q_andm, ↓Ev.q_or, ↓Ev.q_or1, ↓Ev.q_orm, ↓Ev.q_not, ↓Ev.q_ite, ↓Ev.q_blt, ↓Ev.q_gcd, ↓Ev.q_call, ↓Ev.q_make, ↓Ev.q_callK, ↓Ev.q_makeK, ↓Ev.q_tup, ↓Ev.q_lst, ↓Ev.q_cel, ↓Ev.q_idx, ↓Ev.q_sli, ↓Ev.q_app, ↓Ev.q_isi, ↓Ev.q_repr, ↓Ev.q_fld, ↓Ev.q_isc, ↓Ev.q_isx, ↓Ev.q_isb, ↓Ev.q_erf, ↓Ev.q_rev, ↓Ev.q_fstr, ↓Ev.q_fnil, ↓Ev.q_ftxt, ↓Ev.q_fval, ↓Ev.q_nil, ↓Ev.q_cons, ↓Ev.q_no, ↓Ev.q_so, ↓Ev.q_tru, ↓Ev.q_tcmp, ↓Ev.q_tcmp2, ↓Ev.q_tnot, ↓Ev.q_tand, ↓Ev.q_tor, ↓Ev.q_tand1, ↓Ev.q_tor1, ↓Ev.q_tandm, ↓Ev.q_torm, ↓Ev.q_cno, ↓Ev.q_cso, ↓Ev.q_iseq, ↓Ev.q_rng1, ↓Ev.q_rng2, ↓Ev.q_zip, ↓Ev.q_enum, ↓Ev.q_snil, ↓Ev.q_scons, ↓Ev.q_pass, ↓Ev.q_brk, ↓Ev.q_cont, ↓Ev.q_ret, ↓Ev.q_retN, ↓Ev.q_raise, ↓Ev.q_if, ↓Ev.q_set, ↓Ev.q_asg, ↓Ev.q_drop, ↓Ev.q_par, ↓Ev.q_for, ↓Ev.q_setI, ↓Ev.q_setIN, ↓Ev.q_augI, ↓Ev.q_emp, ↓Ev.q_addC, ↓Ev.q_lidx, ↓Ev.q_lcnt, ↓Ev.AddQ_some, ↓Ev.W_ok, ↓Ev.SeqQ_nx, ↓Ev.SeqQ_rt, ↓Ev.SeqQ_bk, ↓Ev.SeqQ_ct, ↓Ev.OutQ_nx, ↓Ev.OutQ_rt, ↓Ev.TrQ_p, ↓Ev.VarQ_some, ↓Ev.LifQ_some, ↓Ev.LibQ_some, ↓Ev.IfQ_t, ↓Ev.IfQ_f, ↓Ev.AndQ_some, ↓Ev.SqQ_some, ↓Ev.StoQ_some, ↓Ev.EnQ_some, ↓Ev.C2Q_bl, ↓Ev.CelQ_some, ↓Ev.FmtQ_some, ↓Ev.ParQ_2, ↓Ev.b_mul, ↓Ev.b_div, ↓Ev.b_mod, ↓Ev.dm_blt, ↓Ev.f_int, ↓Ev.f_str, ↓Ev.s_int, ↓Ev.q_comp, ↓Ev.q_prop, ↓Ev.q_ostr, ↓Ev.q_orepr, ↓Ev.q_ocmpT, ↓Ev.q_ocmpF, ↓Ev.q_join, ↓Ev.q_tocmp, ↓Ev.q_totru, ↓Ev.b_addS, ↓Ev.b_addL, ↓Ev.b_addTQ, ↓Ev.q_setK, ↓Ev.q_while, Ev.VarQ_some, Ev.LifQ_some, Ev.LibQ_some, Ev.IfQ_t, Ev.IfQ_f, Ev.AndQ_some, Ev.SqQ_some, Ev.StoQ_some, Ev.EnQ_some, Ev.C2Q_bl, Ev.CelQ_some, Ev.OrdQ_some, Ev.FmtQ_some, Ev.ParQ_2, Ev.b_add, Ev.b_sub, Ev.c_lt, Ev.c_le, Ev.c_gt, Ev.c_ge, Ev.c_eq, Ev.c_ne, Ev.bl_of, Ev.v_neg, Ev.t_bl, Ev.t_int, Ev.t_tup, Ev.t_lst, Ev.t_non, Ev.ix_tup, Ev.ix_lst, Ev.ix_scr, Ev.at_0, Ev.at_1, Ev.at_2, Ev.l_tup, Ev.l_lst, Ev.len_blt, Ev.abs_blt, Ev.max_blt, Ev.min_blt, Ev.int_blt, Ev.tup_blt, Ev.lst_blt, Ev.gcd_int, Ev.seq_tup, Ev.seq_lst, Ev.seq_scr, Ev.ps0, Ev.ps1, Ev.ps2, Ev.ps3, Ev.ps4, Ev.ps5, Option.map_some, Option.map_none, List.getElem?_cons_zero, List.getElem?_cons_succ, List.set_cons_zero, List.set_cons_succ, List.map_cons, List.map_nil, List.cons_append, List.nil_append, List.length_cons, List.length_nil, List.length_set, List.replicate_succ, List.replicate_zero, Nat.reduceAdd, Nat.reduceSub, Nat.reduceLT, Nat.reduceLeDiff, Nat.sub_self, Ev.take_all, Ev.take_setS, Ev.take_app, Ev.take_setapp, Ev.ObQ_obj, Ev.TxQ_str, Ev.noex_ok, Ev.txtB_ok, Ev.truB_ok, Ev.notB_ok, Ev.ok_obj, Ev.ok_int, Ev.ok_str, Ev.ok_tup, Ev.ok_non, Ev.b_pow18, Ev.cut_tup, Ev.cut_lst, Ev.cut_scr, Ev.rev_tup, Ev.as_tup1, List.set_set, Ev.wipeE, Ev.asg_nm, Ev.asg_tp, Ev.asgs_nil, Ev.asgs_c1, $ls,*] at $h:ident)
/-! what the defs about books do -/
namespace Lb
open PySem Ev L2 Lt
theorem W_say {m : M U} {a : U} {S2 : Sto} (h : W m (fun u S' => u = a ∧ S' = S2) NoX) : m = some (.ok a S2) := by
  obtain ⟨u, S', e, rfl, rfl⟩ := W_eq h; exact e
structure Kd (T : Tab) : Prop where
  is_integer : T "is_integer" = fDef 1 (dS T t_is_integer.body)
  is_integer_from : T "is_integer_from" = fDef 3 (dS T t_is_integer_from.body)
  is_any_fraction : T "is_any_fraction" = fDef 3 (dS T t_is_any_fraction.body)
  is_ratio : T "is_ratio" = fDef 3 (dS T t_is_ratio.body)
  is_price : T "is_price" = fDef 1 (dS T t_is_price.body)
  is_outcome_number : T "is_outcome_number" = fDef 1 (dS T t_is_outcome_number.body)
  is_payoff : T "is_payoff" = fDef 4 (dS T t_is_payoff.body)
  is_quote : T "is_quote" = fDef 2 (dS T t_is_quote.body)
  check_outcomes : T "check_outcomes" = fDef 1 (dS T t_check_outcomes.body)
  check_quotes : T "check_quotes" = fDef 4 (dS T t_check_quotes.body)
abbrev frP (q : Rat) : P := .tup [.int q.num, .int q.den]
abbrev inP' (xs : List Int) : P := .tup (xs.map .int)
abbrev Qt := List Int × Rat
abbrev qP (q : Qt) : P := .tup [inP' q.1, frP q.2]
abbrev qsP (qs : List Qt) : P := .tup (qs.map qP)
section
variable {T : Tab} (K : Kd T) (S : Sto)
include K
theorem is_integer (i : Int) : T "is_integer" [.p (.int i)] S = some (.ok (.p (.bl true)) S) := by
  rw [K.is_integer]
  refine W_say (W_def ?_)
  simp only [t_is_integer]
  simp_arith [isi_int, isi_bool, ty_int, ty_bool]
  (first | trivial | exact ⟨rfl, trivial⟩ | exact ⟨rfl, rfl⟩ | exact ⟨trivial, trivial⟩)
theorem is_integer_from (i a b : Int) : T "is_integer_from" [.p (.int i), .p (.int a), .p (.int b)] S = some (.ok (.p (.bl (decide (a ≤ i) && decide (i ≤ b)))) S) := by
  rw [K.is_integer_from]
  refine W_say (W_def ?_)
  simp only [t_is_integer_from]
  simp_arith [is_integer K]
  by_cases h : a ≤ i
  · rw [decide_eq_true h]
    simp_arith [Bool.true_and]
    trivial
  · rw [decide_eq_false h]
    simp_arith [Bool.false_and]
    trivial
theorem is_any_fraction {a b : Int} (h3 : 1 ≤ b) (h5 : Nat.gcd a.natAbs b.natAbs = 1) : T "is_any_fraction" [.p (.tup [.int a, .int b])] S = some (.ok (.p (.bl true)) S) := by
  rw [K.is_any_fraction]
  refine W_say (W_def ?_)
  simp only [t_is_any_fraction]
  simp_arith [isi_tup, ty_tuple]
  simp_arith [is_integer K, show (0 : Int) < b by omega, h5]
  (first | trivial | exact ⟨rfl, trivial⟩ | exact ⟨rfl, rfl⟩ | exact ⟨trivial, trivial⟩)
theorem is_ratio {a b t m : Int} (h1 : -t ≤ a) (h2 : a ≤ t) (h3 : 1 ≤ b) (h4 : b ≤ m) (h5 : Nat.gcd a.natAbs b.natAbs = 1) : T "is_ratio" [.p (.tup [.int a, .int b]), .p (.int t), .p (.int m)] S = some (.ok (.p (.bl true)) S) := by
  rw [K.is_ratio]
  refine W_say (W_def ?_)
  simp only [t_is_ratio]
  simp_arith [is_any_fraction K S h3 h5]
  simp_arith [decide_eq_true h1, decide_eq_true h2, decide_eq_true h4, Bool.and_self]
  (first | trivial | exact ⟨rfl, trivial⟩ | exact ⟨rfl, rfl⟩ | exact ⟨trivial, trivial⟩)
theorem is_price {q : Rat} (h1 : q.num.natAbs ≤ 1000000) (h2 : q.den ≤ 1000) : T "is_price" [.p (frP q)] S = some (.ok (.p (.bl true)) S) := by
  rw [K.is_price]
  refine W_say (W_def ?_)
  simp only [t_is_price]
  have := q.den_pos
  have := q.reduced
  simp_arith [is_ratio K (a := q.num) (b := q.den) (t := 1000000) (m := 1000) S (by omega) (by omega) (by omega) (by omega) (by rw [Int.natAbs_natCast]; exact q.reduced)]
  (first | trivial | exact ⟨rfl, trivial⟩ | exact ⟨rfl, rfl⟩ | exact ⟨trivial, trivial⟩)
theorem is_payoff {xs : List Int} (hx : ∀ x ∈ xs, x.natAbs ≤ 1000) (hl : xs.length < 1000) : T "is_payoff" [.p (inP' xs), .p (.int xs.length)] S = some (.ok (.p (.bl true)) S) := by
  rw [K.is_payoff]
  refine W_say (W_def ?_)
  simp only [t_is_payoff]
  simp_arith [isi_tup, ty_tuple, List.length_map]
  refine W_map (xs.map .int) (fun _ => .bl true) ?_ (by simp; omega) ?_ ?_
  · simp_arith []
    (first | trivial | exact ⟨rfl, trivial⟩ | exact ⟨rfl, rfl⟩ | exact ⟨trivial, trivial⟩)
  · intro x hx' acc
    obtain ⟨i, hi, rfl⟩ := List.mem_map.mp hx'
    have := hx i hi
    refine ⟨_, rfl, ?_⟩
    simp_arith [is_integer_from K]
    rw [decide_eq_true (show -1000 ≤ i by omega), decide_eq_true (show i ≤ 1000 by omega)]
    (first | trivial | exact ⟨rfl, trivial⟩ | exact ⟨rfl, rfl⟩ | exact ⟨trivial, trivial⟩)
  · have e : (xs.map P.int).map (fun _ => P.bl true) = (xs.map fun _ => true).map P.bl := by simp
    rw [e]
    simp_arith [all_lst]
    exact ⟨by simp, trivial⟩
/-- a quote that a book lets -/
def GQ (k : Nat) (q : Qt) : Prop := q.1.length = k ∧ (∀ x ∈ q.1, x.natAbs ≤ 1000) ∧ q.2.num.natAbs ≤ 1000000 ∧ q.2.den ≤ 1000
omit K in
theorem GQ.len {k : Nat} {q : Qt} (h : GQ k q) : q.1.length = k := h.1
theorem is_quote {k : Nat} {q : Qt} (h : GQ k q) (hk : k < 1000) : T "is_quote" [.p (qP q), .p (.int k)] S = some (.ok (.p (.bl true)) S) := by
  rw [K.is_quote]
  refine W_say (W_def ?_)
  simp only [t_is_quote]
  obtain ⟨h1, h2, h3, h4⟩ := h
  subst h1
  simp_arith [isi_tup, ty_tuple]
  simp_arith [is_payoff K S h2 hk]
  simp_arith [is_price K S h3 h4]
  (first | trivial | exact ⟨rfl, trivial⟩ | exact ⟨rfl, rfl⟩ | exact ⟨trivial, trivial⟩)
theorem check_outcomes {k : Nat} (h : 2 ≤ k) (h' : k ≤ 6) : T "check_outcomes" [.p (.int k)] S = some (.ok (.p .non) S) := by
  rw [K.check_outcomes]
  refine W_say (W_def ?_)
  simp only [t_check_outcomes]
  have e : T "is_outcome_number" [.p (.int k)] S = some (.ok (.p (.bl true)) S) := by
    rw [K.is_outcome_number]
    refine W_say (W_def ?_)
    simp only [t_is_outcome_number]
    simp_arith [is_integer_from K]
    rw [decide_eq_true (show (2 : Int) ≤ k by omega), decide_eq_true (show (k : Int) ≤ 6 by omega)]
    (first | trivial | exact ⟨rfl, trivial⟩ | exact ⟨rfl, rfl⟩ | exact ⟨trivial, trivial⟩)
  simp_arith [e]
  (first | trivial | exact ⟨rfl, trivial⟩ | exact ⟨rfl, rfl⟩ | exact ⟨trivial, trivial⟩)
omit K in
theorem mem_nums {l : List P} {x : P} (h : x ∈ nums l) : ∃ (i : Nat) (q : P), i < l.length ∧ q ∈ l ∧ x = .tup [.int i, q] := by
  unfold nums prs at h
  obtain ⟨⟨a, b⟩, hm, rfl⟩ := List.mem_map.mp h
  obtain ⟨m1, m2⟩ := List.of_mem_zip hm
  obtain ⟨i, hi, rfl⟩ := List.mem_map.mp m1
  exact ⟨i, b, List.mem_range.mp hi, m2, rfl⟩
theorem check_quotes {k : Nat} {qs : List Qt} (h : ∀ q ∈ qs, GQ k q) (hk : k < 1000) (hl : qs.length ≤ 32) : T "check_quotes" [.p (qsP qs), .p (.int k)] S = some (.ok (.p .non) S) := by
  rw [K.check_quotes]
  refine W_say (W_def ?_)
  simp only [t_check_quotes]
  simp_arith [isi_tup, ty_tuple, enum_tup]
  refine W_forL (fun r ρ S' => S' = S ∧ (∀ x ∈ r, x ∈ nums (qs.map qP)) ∧ ∃ u v, ρ = [some (.p (qsP qs)), some (.p (.int k)), u, v]) _ _ _ ⟨rfl, fun _ z => z, _, _, rfl⟩ ?_ ?_
  · rintro x r ρ S' ⟨rfl, hm, u, v, rfl⟩
    obtain ⟨i, p, hi, hp, rfl⟩ := mem_nums (hm x (by simp))
    obtain ⟨q, hq, rfl⟩ := List.mem_map.mp hp
    have hi : i < qs.length := by simpa using hi
    refine ⟨_, rfl, ?_⟩
    simp_arith []
    rw [show decide ((i : Int) = 32) = false from decide_eq_false (by omega)]
    simp_arith [is_quote K S' (h q hq) hk, ForQ]
    exact ⟨srcOk_nn, trivial, fun y z => hm y (List.mem_cons_of_mem _ z), _, _, rfl⟩
  · rintro ρ S' ⟨rfl, _, u, v, rfl⟩
    simp_arith []
    (first | trivial | exact ⟨rfl, trivial⟩ | exact ⟨rfl, rfl⟩ | exact ⟨trivial, trivial⟩)
end
end Lb
end
section
set_option Elab.async false
set_option linter.all false
set_option maxRecDepth 100000
set_option maxHeartbeats 1000000
local macro_rules
  | `(tactic| simp_arith [$ls,*]) => `(tactic| simp only [↓Ev.q_var, ↓Ev.q_glo, ↓Ev.q_cst, ↓Ev.q_bin, ↓Ev.q_neg, ↓Ev.q_cmp, ↓Ev.q_cmp2, ↓Ev.q_and, ↓Ev.q_and1, ↓Ev.q_andm, ↓Ev.q_or, ↓Ev.q_or1, ↓Ev.q_orm, ↓Ev.q_not, ↓Ev.q_ite, ↓Ev.q_blt, ↓Ev.q_gcd, ↓Ev.q_call, ↓Ev.q_make, ↓Ev.q_callK, ↓Ev.q_makeK, ↓Ev.q_tup, ↓Ev.q_lst, ↓Ev.q_cel, ↓Ev.q_idx, ↓Ev.q_sli, ↓Ev.q_app, ↓Ev.q_isi, ↓Ev.q_repr, ↓Ev.q_fld, ↓Ev.q_isc, ↓Ev.q_isx, ↓Ev.q_isb, ↓Ev.q_erf, ↓Ev.q_rev, ↓Ev.q_fstr, ↓Ev.q_fnil, ↓Ev.q_ftxt, ↓Ev.q_fval, ↓Ev.q_nil, ↓Ev.q_cons, ↓Ev.q_no, ↓Ev.q_so, ↓Ev.q_tru, ↓Ev.q_tcmp, ↓Ev.q_tcmp2, ↓Ev.q_tnot, ↓Ev.q_tand, ↓Ev.q_tor, ↓Ev.q_tand1, ↓Ev.q_tor1, ↓Ev.q_tandm, ↓Ev.q_torm, ↓Ev.q_cno, ↓Ev.q_cso, ↓Ev.q_iseq, ↓Ev.q_rng1, ↓Ev.q_rng2, ↓Ev.q_zip, ↓Ev.q_enum, ↓Ev.q_snil, ↓Ev.q_scons, ↓Ev.q_pass, ↓Ev.q_brk, ↓Ev.q_cont, ↓Ev.q_ret, ↓Ev.q_retN, ↓Ev.q_raise, ↓Ev.q_if, ↓Ev.q_set, ↓Ev.q_asg, ↓Ev.q_drop, ↓Ev.q_par, ↓Ev.q_for, ↓Ev.q_setI, ↓Ev.q_setIN, ↓Ev.q_augI, ↓Ev.q_emp, ↓Ev.q_addC, ↓Ev.q_lidx, ↓Ev.q_lcnt, ↓Ev.AddQ_some, ↓Ev.W_ok, ↓Ev.SeqQ_nx, ↓Ev.SeqQ_rt, ↓Ev.SeqQ_bk, ↓Ev.SeqQ_ct, ↓Ev.OutQ_nx, ↓Ev.OutQ_rt, ↓Ev.TrQ_p, ↓Ev.VarQ_some, ↓Ev.LifQ_some, ↓Ev.LibQ_some, ↓Ev.IfQ_t, ↓Ev.IfQ_f, ↓Ev.AndQ_some, ↓Ev.SqQ_some, ↓Ev.StoQ_some, ↓Ev.EnQ_some, ↓Ev.C2Q_bl, ↓Ev.CelQ_some, ↓Ev.FmtQ_some, ↓Ev.ParQ_2, ↓Ev.b_mul, ↓Ev.b_div, ↓Ev.b_mod, ↓Ev.dm_blt, ↓Ev.f_int, ↓Ev.f_str, ↓Ev.s_int, ↓Ev.q_comp, ↓Ev.q_prop, ↓Ev.q_ostr, ↓Ev.q_orepr, ↓Ev.q_ocmpT, ↓Ev.q_ocmpF, ↓Ev.q_join, ↓Ev.q_tocmp, ↓Ev.q_totru, ↓Ev.b_addS, ↓Ev.b_addL, ↓Ev.b_addTQ, ↓Ev.q_setK, ↓Ev.q_while, Ev.VarQ_some, Ev.LifQ_some, Ev.LibQ_some, Ev.IfQ_t, Ev.IfQ_f, Ev.AndQ_some, Ev.SqQ_some, Ev.StoQ_some, Ev.EnQ_some, Ev.C2Q_bl, Ev.CelQ_some, Ev.OrdQ_some, Ev.FmtQ_some, Ev.ParQ_2, Ev.b_add, Ev.b_sub, Ev.c_lt, Ev.c_le, Ev.c_gt, Ev.c_ge, Ev.c_eq, Ev.c_ne, Ev.bl_of, Ev.v_neg, Ev.t_bl, Ev.t_int, Ev.t_tup, Ev.t_lst, Ev.t_non, Ev.ix_tup, Ev.ix_lst, Ev.ix_scr, Ev.at_0, Ev.at_1, Ev.at_2, Ev.l_tup, Ev.l_lst, Ev.len_blt, Ev.abs_blt, Ev.max_blt, Ev.min_blt, Ev.int_blt, Ev.tup_blt, Ev.lst_blt, Ev.gcd_int, Ev.seq_tup, Ev.seq_lst, Ev.seq_scr, Ev.ps0, Ev.ps1, Ev.ps2, Ev.ps3, Ev.ps4, Ev.ps5, Option.map_some, Option.map_none, List.getElem?_cons_zero, List.getElem?_cons_succ, List.set_cons_zero, List.set_cons_succ, List.map_cons, List.map_nil, List.cons_append, List.nil_append, List.length_cons, List.length_nil, List.length_set, List.replicate_succ, List.replicate_zero, Nat.reduceAdd, Nat.reduceSub, Nat.reduceLT, Nat.reduceLeDiff, Nat.sub_self, Ev.take_all, Ev.take_setS, Ev.take_app, Ev.take_setapp, Ev.ObQ_obj, Ev.TxQ_str, Ev.noex_ok, Ev.txtB_ok, Ev.truB_ok, Ev.notB_ok, Ev.ok_obj, Ev.ok_int, Ev.ok_str, Ev.ok_tup, Ev.ok_non, Ev.b_pow18, Ev.cut_tup, Ev.cut_lst, Ev.cut_scr, Ev.rev_tup, Ev.as_tup1, List.set_set, Ev.wipeE, Ev.asg_nm, Ev.asg_tp, Ev.asgs_nil, Ev.asgs_c1, $ls,*])
  | `(tactic| simp_arith [$ls,*] at $h:ident) => `(tactic| simp only [↓Ev.q_var, ↓Ev.q_glo, ↓Ev.q_cst, ↓Ev.q_bin, ↓Ev.q_neg, ↓Ev.q_cmp, ↓Ev.q_cmp2, ↓Ev.q_and, ↓Ev.q_and1, ↓Ev.q_andm, ↓Ev.q_or, ↓Ev.q_or1, ↓Ev.q_orm, ↓Ev.q_not, ↓Ev.q_ite, ↓Ev.q_blt, ↓Ev.q_gcd, ↓Ev.q_call, ↓Ev.q_make, ↓Ev.q_callK, ↓Ev.q_makeK, ↓Ev.q_tup, ↓Ev.q_lst, ↓Ev.q_cel, ↓Ev.q_idx, ↓Ev.q_sli, ↓Ev.q_app, ↓Ev.q_isi, ↓Ev.q_repr, ↓Ev.q_fld, ↓Ev.q_isc, ↓Ev.q_isx, ↓Ev.q_isb, ↓Ev.q_erf, ↓Ev.q_rev, ↓Ev.q_fstr, ↓Ev.q_fnil, ↓Ev.q_ftxt, ↓Ev.q_fval, ↓Ev.q_nil, ↓Ev.q_cons, ↓Ev.q_no, ↓Ev.q_so, ↓Ev.q_tru, ↓Ev.q_tcmp, ↓Ev.q_tcmp2, ↓Ev.q_tnot, ↓Ev.q_tand, ↓Ev.q_tor, ↓Ev.q_tand1, ↓Ev.q_tor1, ↓Ev.q_tandm, ↓Ev.q_torm, ↓Ev.q_cno, ↓Ev.q_cso, ↓Ev.q_iseq, ↓Ev.q_rng1, ↓Ev.q_rng2, ↓Ev.q_zip, ↓Ev.q_enum, ↓Ev.q_snil, ↓Ev.q_scons, ↓Ev.q_pass, ↓Ev.q_brk, ↓Ev.q_cont, ↓Ev.q_ret, ↓Ev.q_retN, ↓Ev.q_raise, ↓Ev.q_if, ↓Ev.q_set, ↓Ev.q_asg, ↓Ev.q_drop, ↓Ev.q_par, ↓Ev.q_for, ↓Ev.q_setI, ↓Ev.q_setIN, ↓Ev.q_augI, ↓Ev.q_emp, ↓Ev.q_addC, ↓Ev.q_lidx, ↓Ev.q_lcnt, ↓Ev.AddQ_some, ↓Ev.W_ok, ↓Ev.SeqQ_nx, ↓Ev.SeqQ_rt, ↓Ev.SeqQ_bk, ↓Ev.SeqQ_ct, ↓Ev.OutQ_nx, ↓Ev.OutQ_rt, ↓Ev.TrQ_p, ↓Ev.VarQ_some, ↓Ev.LifQ_some, ↓Ev.LibQ_some, ↓Ev.IfQ_t, ↓Ev.IfQ_f, ↓Ev.AndQ_some, ↓Ev.SqQ_some, ↓Ev.StoQ_some, ↓Ev.EnQ_some, ↓Ev.C2Q_bl, ↓Ev.CelQ_some, ↓Ev.FmtQ_some, ↓Ev.ParQ_2, ↓Ev.b_mul, ↓Ev.b_div, ↓Ev.b_mod, ↓Ev.dm_blt, ↓Ev.f_int, ↓Ev.f_str, ↓Ev.s_int, ↓Ev.q_comp, ↓Ev.q_prop, ↓Ev.q_ostr, ↓Ev.q_orepr, ↓Ev.q_ocmpT, ↓Ev.q_ocmpF, ↓Ev.q_join, ↓Ev.q_tocmp, ↓Ev.q_totru, ↓Ev.b_addS, ↓Ev.b_addL, ↓Ev.b_addTQ, ↓Ev.q_setK, ↓Ev.q_while, Ev.VarQ_some, Ev.LifQ_some, Ev.LibQ_some, Ev.IfQ_t, Ev.IfQ_f, Ev.AndQ_some, Ev.SqQ_some, Ev.StoQ_some, Ev.EnQ_some, Ev.C2Q_bl, Ev.CelQ_some, Ev.OrdQ_some, Ev.FmtQ_some, Ev.ParQ_2, Ev.b_add, Ev.b_sub, Ev.c_lt, Ev.c_le, Ev.c_gt, Ev.c_ge, Ev.c_eq, Ev.c_ne, Ev.bl_of, Ev.v_neg, Ev.t_bl, Ev.t_int, Ev.t_tup, Ev.t_lst, Ev.t_non, Ev.ix_tup, Ev.ix_lst, Ev.ix_scr, Ev.at_0, Ev.at_1, Ev.at_2, Ev.l_tup, Ev.l_lst, Ev.len_blt, Ev.abs_blt, Ev.max_blt, Ev.min_blt, Ev.int_blt, Ev.tup_blt, Ev.lst_blt, Ev.gcd_int, Ev.seq_tup, Ev.seq_lst, Ev.seq_scr, Ev.ps0, Ev.ps1, Ev.ps2, Ev.ps3, Ev.ps4, Ev.ps5, Option.map_some, Option.map_none, List.getElem?_cons_zero, List.getElem?_cons_succ, List.set_cons_zero, List.set_cons_succ, List.map_cons, List.map_nil, List.cons_append, List.nil_append, List.length_cons, List.length_nil, List.length_set, List.replicate_succ, List.replicate_zero, Nat.reduceAdd, Nat.reduceSub, Nat.reduceLT, Nat.reduceLeDiff, Nat.sub_self, Ev.take_all, Ev.take_setS, Ev.take_app, Ev.take_setapp, Ev.ObQ_obj, Ev.TxQ_str, Ev.noex_ok, Ev.txtB_ok, Ev.truB_ok, Ev.notB_ok, Ev.ok_obj, Ev.ok_int, Ev.ok_str, Ev.ok_tup, Ev.ok_non, Ev.b_pow18, Ev.cut_tup, Ev.cut_lst, Ev.cut_scr, Ev.rev_tup, Ev.as_tup1, List.set_set, Ev.wipeE, Ev.asg_nm, Ev.asg_tp, Ev.asgs_nil, Ev.asgs_c1, $ls,*] at $h:ident)
/-! what the laws' own helpers do -/
namespace La
open PySem Ev L2 Lt
/-- a jar: three numbers, and how many draws it is good for -/
def Jar (B : Nat) (l : List P) : Prop := ∃ a b c : Int, l = [.int a, .int b, .int c] ∧ 0 ≤ a ∧ 0 ≤ b ∧ b < 2147483648 ∧ 0 ≤ c ∧ c + B ≤ 1000000000
theorem Jar.less {B B' : Nat} {l : List P} (h : Jar B l) (hb : B' ≤ B) : Jar B' l := by
  obtain ⟨a, b, c, e, h1, h2, h3, h4, h5⟩ := h
  exact ⟨a, b, c, e, h1, h2, h3, h4, by omega⟩
theorem dip {T : Tab} (e : T "_law_dip" = fDef 3 (dS T t__law_dip.body)) {S : Sto} {n B : Nat} {k : Int} {j : List P} (h : S[n]? = some j) (hj : Jar (B + 1) j) (h0 : 0 < k) (h1 : k < 1073741824) :
    W (T "_law_dip" [.c n, .p (.int k)] S) (fun u S' => ∃ (d : Int) (j' : List P), u = .p (.int d) ∧ 0 ≤ d ∧ d < k ∧ Jar B j' ∧ S' = S.set n j') NoX := by
  obtain ⟨a, b, c, rfl, ha, hb, hb2, hc, hB⟩ := hj
  rw [e]
  refine W_def ?_
  simp only [t__law_dip]
  simp_arith [ix_c h, set_2 h, set_0 (get_set h), set_1 (get_set h), ix_c (get_set h)]
  refine if_q (fun z => ?_) fun z => ?_
  · have z : 0 < a := by simpa using z
    refine ⟨⟨h0, h1⟩, _, _, rfl, Int.emod_nonneg _ (by omega), Int.emod_lt_of_pos _ h0, ⟨_, _, _, rfl, Int.ediv_nonneg ha (by omega), hb, hb2, by omega, by omega⟩, rfl⟩
  · have q0 := Int.emod_nonneg (b * 48271 + 30011 * (c + 1)) (show (2147483399 : Int) ≠ 0 by decide)
    have q1 := Int.emod_lt_of_pos (b * 48271 + 30011 * (c + 1)) (show (0 : Int) < 2147483399 by decide)
    refine ⟨mulw (a := 32) (b := 32) (by omega) (by decide) (by decide), mulw (a := 32) (b := 32) (by decide) (by omega) (by decide), by decide, divw (b := 10) (by decide) (by decide) (by decide), h0, _, _, rfl, Int.emod_nonneg _ (by omega), Int.emod_lt_of_pos _ h0, ⟨_, _, _, rfl, ha, q0, by omega, by omega, by omega⟩, rfl⟩
theorem common_loop {T : Tab} {Q : Out → Sto → Prop} {S : Sto} : ∀ (k : Nat) (a b : Nat), b < k → (∀ g : Nat, g = Nat.gcd a b → Q (.nx [some (.p (.int g)), some (.p (.int 0))]) S) →
    W (whlL (dT T (.cmp .gt (.var 1) (.cst (.int 0)))) (dS T (.cons (.par 0 1 (.cons (.var 1) (.cons (.bin .mod (.blt .int (.cons (.var 0) .nil)) (.var 1)) .nil))) .nil)) k [some (.p (.int a)), some (.p (.int b))] S) Q NoX := by
  intro k a b hk hq
  refine W_whlL (fun k ρ S' => ∃ a' b' : Nat, b' < k ∧ Nat.gcd a' b' = Nat.gcd a b ∧ ρ = [some (.p (.int a')), some (.p (.int b'))] ∧ S' = S) k _ _ ⟨a, b, hk, rfl, rfl, rfl⟩ ?_
  rintro k ρ S' ⟨a', b', h1, h2, rfl, rfl⟩
  obtain ⟨k', rfl⟩ : ∃ k', k = k' + 1 := ⟨k - 1, by omega⟩
  refine ⟨k', rfl, ?_⟩
  simp_arith []
  by_cases hb : b' = 0
  · subst hb
    rw [if_neg (by simp)]
    rw [Nat.gcd_zero_right] at h2
    subst h2
    exact hq _ rfl
  · rw [if_pos (by simp; omega)]
    simp_arith [WhlQ]
    refine ⟨by omega, b', a' % b', ?_, ?_, ?_, trivial⟩
    · have := Nat.mod_lt a' (Nat.pos_of_ne_zero hb)
      omega
    · rw [← h2, Nat.gcd_comm b', ← Nat.gcd_rec, Nat.gcd_comm]
    · rw [Int.natCast_emod]
theorem common {T : Tab} (e : T "_law_common" = fDef 2 (dS T t__law_common.body)) (S : Sto) (a b : Int) : T "_law_common" [.p (.int a), .p (.int b)] S = some (.ok (.p (.int (Nat.gcd a.natAbs b.natAbs : Nat))) S) := by
  have key : W (T "_law_common" [.p (.int a), .p (.int b)] S) (fun u S' => u = .p (.int (Nat.gcd a.natAbs b.natAbs : Nat)) ∧ S' = S) NoX := by
    rw [e]
    refine W_def ?_
    simp only [t__law_common]
    simp_arith []
    rw [show (if a < 0 then -a else a) = (a.natAbs : Int) by split <;> omega, show (if b < 0 then -b else b) = (b.natAbs : Int) by split <;> omega]
    refine common_loop _ _ _ (by simp [fuelAt]) fun g hg => ?_
    simp_arith []
    exact ⟨by rw [hg], trivial⟩
  obtain ⟨u, S', h, rfl, rfl⟩ := W_eq key
  exact h
/-- a fraction in lowest terms -/
def lowT (a b : Int) : Int := a / (Nat.gcd a.natAbs b.natAbs : Nat)
def lowB (a b : Int) : Int := b / (Nat.gcd a.natAbs b.natAbs : Nat)
abbrev fr (a b : Int) : P := .tup [.int a, .int b]
theorem gcd_le {a b : Int} (h0 : 0 < b) : 0 < (Nat.gcd a.natAbs b.natAbs : Nat) ∧ Nat.gcd a.natAbs b.natAbs ≤ b.natAbs := ⟨Nat.gcd_pos_of_pos_right _ (by omega), Nat.gcd_le_right _ (by omega)⟩
theorem low {T : Tab} (e1 : T "_law_common" = fDef 2 (dS T t__law_common.body)) (e : T "_law_low" = fDef 3 (dS T t__law_low.body)) (S : Sto) {a b : Int} {k : Nat} (h0 : 0 < b) (hb : b.natAbs < 2 ^ k) (hk : k < 9000) :
    T "_law_low" [.p (.int a), .p (.int b)] S = some (.ok (.p (fr (lowT a b) (lowB a b))) S) := by
  have key : W (T "_law_low" [.p (.int a), .p (.int b)] S) (fun u S' => u = .p (fr (lowT a b) (lowB a b)) ∧ S' = S) NoX := by
    rw [e]
    refine W_def ?_
    simp only [t__law_low]
    simp_arith [common e1]
    have q := gcd_le (a := a) h0
    have c : CDivW a (Nat.gcd a.natAbs b.natAbs : Nat) := divw (b := k) (by omega) (by omega) hk
    exact ⟨c, ⟨c.1, c.2⟩, rfl, trivial⟩
  obtain ⟨u, S', h, rfl, rfl⟩ := W_eq key
  exact h
/-- a fraction -/
def qf (q : Rat) : P := fr q.num q.den
theorem low_mk {a : Int} {n : Nat} (h0 : n ≠ 0) : fr (lowT a n) (lowB a n) = qf (mkRat a n) := by
  unfold qf lowT lowB
  rw [← Rat.normalize_eq_mkRat h0, Rat.normalize_eq]
  dsimp only
  rw [Int.natAbs_natCast, Int.natCast_ediv]
theorem lowq {T : Tab} (e1 : T "_law_common" = fDef 2 (dS T t__law_common.body)) (e : T "_law_low" = fDef 3 (dS T t__law_low.body)) (S : Sto) {a : Int} {n k : Nat} (h0 : n ≠ 0) (hb : n < 2 ^ k) (hk : k < 9000) :
    T "_law_low" [.p (.int a), .p (.int n)] S = some (.ok (.p (qf (mkRat a n))) S) := by
  rw [low e1 e S (by omega) (by simpa using hb) hk, low_mk h0]
/-- how long its numbers are -/
def Sz (k : Nat) (q : Rat) : Prop := q.num.natAbs < 2 ^ k ∧ q.den < 2 ^ k
theorem Sz.mono {k k' : Nat} {q : Rat} (h : Sz k q) (hk : k ≤ k') : Sz k' q := by
  have := Nat.pow_le_pow_right (show 0 < 2 by decide) hk
  exact ⟨by have := h.1; omega, by have := h.2; omega⟩
theorem mk_le {a : Int} {n : Nat} (h0 : n ≠ 0) : (mkRat a n).num.natAbs ≤ a.natAbs ∧ (mkRat a n).den ∣ n := by
  rw [← Rat.normalize_eq_mkRat h0, Rat.normalize_eq]
  refine ⟨?_, ?_⟩
  · dsimp only
    rw [Int.natAbs_ediv_of_dvd (Int.ofNat_dvd_left.mpr (Nat.gcd_dvd_left _ _))]
    exact Nat.div_le_self _ _
  · dsimp only
    exact Nat.div_dvd_of_dvd (Nat.gcd_dvd_right _ _)
theorem sz_mk {k : Nat} {a : Int} {n : Nat} (h0 : n ≠ 0) (h1 : a.natAbs < 2 ^ k) (h2 : n < 2 ^ k) : Sz k (mkRat a n) := by
  obtain ⟨q1, q2⟩ := mk_le (a := a) h0
  have := Nat.le_of_dvd (by omega) q2
  exact ⟨by omega, by omega⟩
theorem mul_lt2 {a b x y : Nat} (h1 : a < 2 ^ x) (h2 : b < 2 ^ y) : a * b < 2 ^ (x + y) := by
  rw [Nat.pow_add]
  have hx : 0 < 2 ^ x := Nat.pow_pos (by decide)
  have hy : 0 < 2 ^ y := Nat.pow_pos (by decide)
  by_cases h : b = 0
  · subst h; rw [Nat.mul_zero]; exact Nat.mul_pos hx hy
  · exact Nat.lt_of_lt_of_le (Nat.mul_lt_mul_of_pos_right h1 (by omega)) (Nat.mul_le_mul_left _ (by omega))
theorem add_lt2 {a b : Int} {x : Nat} (h1 : a.natAbs < 2 ^ x) (h2 : b.natAbs < 2 ^ x) : (a + b).natAbs < 2 ^ (x + 1) := by
  rw [Nat.pow_succ]; omega
theorem plus_sz {a b : Nat} {p q : Rat} (h1 : Sz a p) (h2 : Sz b q) : Sz (a + b + 1) (p + q) := by
  rw [Rat.add_def, Rat.normalize_eq_mkRat]
  have hp := p.den_nz
  have hq := q.den_nz
  refine sz_mk (Nat.mul_ne_zero hp hq) (add_lt2 ?_ ?_) ?_
  · rw [Int.natAbs_mul, Int.natAbs_natCast]; exact mul_lt2 h1.1 h2.2
  · rw [Int.natAbs_mul, Int.natAbs_natCast, Nat.mul_comm]; exact mul_lt2 h1.2 h2.1
  · exact Nat.lt_of_lt_of_le (mul_lt2 h1.2 h2.2) (Nat.pow_le_pow_right (by decide) (by omega))
theorem times_sz {a b : Nat} {p q : Rat} (h1 : Sz a p) (h2 : Sz b q) : Sz (a + b) (p * q) := by
  rw [Rat.mul_def, Rat.normalize_eq_mkRat]
  refine sz_mk (Nat.mul_ne_zero p.den_nz q.den_nz) ?_ (mul_lt2 h1.2 h2.2)
  rw [Int.natAbs_mul]; exact mul_lt2 h1.1 h2.1
structure Fr (T : Tab) : Prop where
  common : T "_law_common" = fDef 2 (dS T t__law_common.body)
  low : T "_law_low" = fDef 3 (dS T t__law_low.body)
  plus : T "_law_plus" = fDef 2 (dS T t__law_plus.body)
  times : T "_law_times" = fDef 2 (dS T t__law_times.body)
theorem lowF {T : Tab} (F : Fr T) (S : Sto) {a : Int} {n k : Nat} (h0 : n ≠ 0) (hb : n < 2 ^ k) (hk : k < 9000) : T "_law_low" [.p (.int a), .p (.int n)] S = some (.ok (.p (qf (mkRat a n))) S) := lowq F.common F.low S h0 hb hk
theorem plusF {T : Tab} (F : Fr T) (S : Sto) {p q : Rat} {a b : Nat} (h1 : Sz a p) (h2 : Sz b q) (hk : a + b < 9000) : T "_law_plus" [.p (qf p), .p (qf q)] S = some (.ok (.p (qf (p + q))) S) := by
  have key : W (T "_law_plus" [.p (qf p), .p (qf q)] S) (fun u S' => u = .p (qf (p + q)) ∧ S' = S) NoX := by
    rw [F.plus]
    refine W_def ?_
    simp only [t__law_plus]
    have hp := p.den_nz
    have hq := q.den_nz
    unfold qf fr
    simp_arith []
    refine ⟨mulw (a := a) (b := b) h1.1 (by simpa using h2.2) (by omega), mulw (a := b) (b := a) h2.1 (by simpa using h1.2) (by omega), mulw (a := a) (b := b) (by simpa using h1.2) (by simpa using h2.2) (by omega), ?_⟩
    rw [← Int.natCast_mul]
    refine W_of (lowF F S (Nat.mul_ne_zero hp hq) (mul_lt2 h1.2 h2.2) hk) ?_
    simp_arith []
    rw [Rat.add_def, Rat.normalize_eq_mkRat]
    exact ⟨rfl, trivial⟩
  obtain ⟨u, S', h, rfl, rfl⟩ := W_eq key
  exact h
theorem timesF {T : Tab} (F : Fr T) (S : Sto) {p q : Rat} {a b : Nat} (h1 : Sz a p) (h2 : Sz b q) (hk : a + b < 9000) : T "_law_times" [.p (qf p), .p (qf q)] S = some (.ok (.p (qf (p * q))) S) := by
  have key : W (T "_law_times" [.p (qf p), .p (qf q)] S) (fun u S' => u = .p (qf (p * q)) ∧ S' = S) NoX := by
    rw [F.times]
    refine W_def ?_
    simp only [t__law_times]
    have hp := p.den_nz
    have hq := q.den_nz
    unfold qf fr
    simp_arith []
    refine ⟨mulw (a := a) (b := b) h1.1 h2.1 (by omega), mulw (a := a) (b := b) (by simpa using h1.2) (by simpa using h2.2) (by omega), ?_⟩
    rw [← Int.natCast_mul]
    refine W_of (lowF F S (Nat.mul_ne_zero hp hq) (mul_lt2 h1.2 h2.2) hk) ?_
    simp_arith []
    rw [Rat.mul_def, Rat.normalize_eq_mkRat]
    exact ⟨rfl, trivial⟩
  obtain ⟨u, S', h, rfl, rfl⟩ := W_eq key
  exact h
end La
end
section
set_option Elab.async false
set_option linter.all false
set_option maxRecDepth 100000
set_option maxHeartbeats 1000000
local macro_rules
  | `(tactic| simp_arith [$ls,*]) => `(tactic| simp only [↓Ev.q_var, ↓Ev.q_glo, ↓Ev.q_cst, ↓Ev.q_bin, ↓Ev.q_neg, ↓Ev.q_cmp, ↓Ev.q_cmp2, ↓Ev.q_and, ↓Ev.q_and1, ↓Ev.q_andm, ↓Ev.q_or, ↓Ev.q_or1, ↓Ev.q_orm, ↓Ev.q_not, ↓Ev.q_ite, ↓Ev.q_blt, ↓Ev.q_gcd, ↓Ev.q_call, ↓Ev.q_make, ↓Ev.q_callK, ↓Ev.q_makeK, ↓Ev.q_tup, ↓Ev.q_lst, ↓Ev.q_cel, ↓Ev.q_idx, ↓Ev.q_sli, ↓Ev.q_app, ↓Ev.q_isi, ↓Ev.q_repr, ↓Ev.q_fld, ↓Ev.q_isc, ↓Ev.q_isx, ↓Ev.q_isb, ↓Ev.q_erf, ↓Ev.q_rev, ↓Ev.q_fstr, ↓Ev.q_fnil, ↓Ev.q_ftxt, ↓Ev.q_fval, ↓Ev.q_nil, ↓Ev.q_cons, ↓Ev.q_no, ↓Ev.q_so, ↓Ev.q_tru, ↓Ev.q_tcmp, ↓Ev.q_tcmp2, ↓Ev.q_tnot, ↓Ev.q_tand, ↓Ev.q_tor, ↓Ev.q_tand1, ↓Ev.q_tor1, ↓Ev.q_tandm, ↓Ev.q_torm, ↓Ev.q_cno, ↓Ev.q_cso, ↓Ev.q_iseq, ↓Ev.q_rng1, ↓Ev.q_rng2, ↓Ev.q_zip, ↓Ev.q_enum, ↓Ev.q_snil, ↓Ev.q_scons, ↓Ev.q_pass, ↓Ev.q_brk, ↓Ev.q_cont, ↓Ev.q_ret, ↓Ev.q_retN, ↓Ev.q_raise, ↓Ev.q_if, ↓Ev.q_set, ↓Ev.q_asg, ↓Ev.q_drop, ↓Ev.q_par, ↓Ev.q_for, ↓Ev.q_setI, ↓Ev.q_setIN, ↓Ev.q_augI, ↓Ev.q_emp, ↓Ev.q_addC, ↓Ev.q_lidx, ↓Ev.q_lcnt, ↓Ev.AddQ_some, ↓Ev.W_ok, ↓Ev.SeqQ_nx, ↓Ev.SeqQ_rt, ↓Ev.SeqQ_bk, ↓Ev.SeqQ_ct, ↓Ev.OutQ_nx, ↓Ev.OutQ_rt, ↓Ev.TrQ_p, ↓Ev.VarQ_some, ↓Ev.LifQ_some, ↓Ev.LibQ_some, ↓Ev.IfQ_t, ↓Ev.IfQ_f, ↓Ev.AndQ_some, ↓Ev.SqQ_some, ↓Ev.StoQ_some, ↓Ev.EnQ_some, ↓Ev.C2Q_bl, ↓Ev.CelQ_some, ↓Ev.FmtQ_some, ↓Ev.ParQ_2, ↓Ev.b_mul, ↓Ev.b_div, ↓Ev.b_mod, ↓Ev.dm_blt, ↓Ev.f_int, ↓Ev.f_str, ↓Ev.s_int, ↓Ev.q_comp, ↓Ev.q_prop, ↓Ev.q_ostr, ↓Ev.q_orepr, ↓Ev.q_ocmpT, ↓Ev.q_ocmpF, ↓Ev.q_join, ↓Ev.q_tocmp, ↓Ev.q_totru, ↓Ev.b_addS, ↓Ev.b_addL, ↓Ev.b_addTQ, ↓Ev.q_setK, ↓Ev.q_while, Ev.VarQ_some, Ev.LifQ_some, Ev.LibQ_some, Ev.IfQ_t, Ev.IfQ_f, Ev.AndQ_some, Ev.SqQ_some, Ev.StoQ_some, Ev.EnQ_some, Ev.C2Q_bl, Ev.CelQ_some, Ev.OrdQ_some, Ev.FmtQ_some, Ev.ParQ_2, Ev.b_add, Ev.b_sub, Ev.c_lt, Ev.c_le, Ev.c_gt, Ev.c_ge, Ev.c_eq, Ev.c_ne, Ev.bl_of, Ev.v_neg, Ev.t_bl, Ev.t_int, Ev.t_tup, Ev.t_lst, Ev.t_non, Ev.ix_tup, Ev.ix_lst, Ev.ix_scr, Ev.at_0, Ev.at_1, Ev.at_2, Ev.l_tup, Ev.l_lst, Ev.len_blt, Ev.abs_blt, Ev.max_blt, Ev.min_blt, Ev.int_blt, Ev.tup_blt, Ev.lst_blt, Ev.gcd_int, Ev.seq_tup, Ev.seq_lst, Ev.seq_scr, Ev.ps0, Ev.ps1, Ev.ps2, Ev.ps3, Ev.ps4, Ev.ps5, Option.map_some, Option.map_none, List.getElem?_cons_zero, List.getElem?_cons_succ, List.set_cons_zero, List.set_cons_succ, List.map_cons, List.map_nil, List.cons_append, List.nil_append, List.length_cons, List.length_nil, List.length_set, List.replicate_succ, List.replicate_zero, Nat.reduceAdd, Nat.reduceSub, Nat.reduceLT, Nat.reduceLeDiff, Nat.sub_self, Ev.take_all, Ev.take_setS, Ev.take_app, Ev.take_setapp, Ev.ObQ_obj, Ev.TxQ_str, Ev.noex_ok, Ev.txtB_ok, Ev.truB_ok, Ev.notB_ok, Ev.ok_obj, Ev.ok_int, Ev.ok_str, Ev.ok_tup, Ev.ok_non, Ev.b_pow18, Ev.cut_tup, Ev.cut_lst, Ev.cut_scr, Ev.rev_tup, Ev.as_tup1, List.set_set, Ev.wipeE, Ev.asg_nm, Ev.asg_tp, Ev.asgs_nil, Ev.asgs_c1, $ls,*])
  | `(tactic| simp_arith [$ls,*] at $h:ident) => `(tactic| simp only [↓Ev.q_var, ↓Ev.q_glo, ↓Ev.q_cst, ↓Ev.q_bin, ↓Ev.q_neg, ↓Ev.q_cmp, ↓Ev.q_cmp2, ↓Ev.q_and, ↓Ev.q_and1, ↓Ev.q_andm, ↓Ev.q_or, ↓Ev.q_or1, ↓Ev.q_orm, ↓Ev.q_not, ↓Ev.q_ite, ↓Ev.q_blt, ↓Ev.q_gcd, ↓Ev.q_call, ↓Ev.q_make, ↓Ev.q_callK, ↓Ev.q_makeK, ↓Ev.q_tup, ↓Ev.q_lst, ↓Ev.q_cel, ↓Ev.q_idx, ↓Ev.q_sli, ↓Ev.q_app, ↓Ev.q_isi, ↓Ev.q_repr, ↓Ev.q_fld, ↓Ev.q_isc, ↓Ev.q_isx, ↓Ev.q_isb, ↓Ev.q_erf, ↓Ev.q_rev, ↓Ev.q_fstr, ↓Ev.q_fnil, ↓Ev.q_ftxt, ↓Ev.q_fval, ↓Ev.q_nil, ↓Ev.q_cons, ↓Ev.q_no, ↓Ev.q_so, ↓Ev.q_tru, ↓Ev.q_tcmp, ↓Ev.q_tcmp2, ↓Ev.q_tnot, ↓Ev.q_tand, ↓Ev.q_tor, ↓Ev.q_tand1, ↓Ev.q_tor1, ↓Ev.q_tandm, ↓Ev.q_torm, ↓Ev.q_cno, ↓Ev.q_cso, ↓Ev.q_iseq, ↓Ev.q_rng1, ↓Ev.q_rng2, ↓Ev.q_zip, ↓Ev.q_enum, ↓Ev.q_snil, ↓Ev.q_scons, ↓Ev.q_pass, ↓Ev.q_brk, ↓Ev.q_cont, ↓Ev.q_ret, ↓Ev.q_retN, ↓Ev.q_raise, ↓Ev.q_if, ↓Ev.q_set, ↓Ev.q_asg, ↓Ev.q_drop, ↓Ev.q_par, ↓Ev.q_for, ↓Ev.q_setI, ↓Ev.q_setIN, ↓Ev.q_augI, ↓Ev.q_emp, ↓Ev.q_addC, ↓Ev.q_lidx, ↓Ev.q_lcnt, ↓Ev.AddQ_some, ↓Ev.W_ok, ↓Ev.SeqQ_nx, ↓Ev.SeqQ_rt, ↓Ev.SeqQ_bk, ↓Ev.SeqQ_ct, ↓Ev.OutQ_nx, ↓Ev.OutQ_rt, ↓Ev.TrQ_p, ↓Ev.VarQ_some, ↓Ev.LifQ_some, ↓Ev.LibQ_some, ↓Ev.IfQ_t, ↓Ev.IfQ_f, ↓Ev.AndQ_some, ↓Ev.SqQ_some, ↓Ev.StoQ_some, ↓Ev.EnQ_some, ↓Ev.C2Q_bl, ↓Ev.CelQ_some, ↓Ev.FmtQ_some, ↓Ev.ParQ_2, ↓Ev.b_mul, ↓Ev.b_div, ↓Ev.b_mod, ↓Ev.dm_blt, ↓Ev.f_int, ↓Ev.f_str, ↓Ev.s_int, ↓Ev.q_comp, ↓Ev.q_prop, ↓Ev.q_ostr, ↓Ev.q_orepr, ↓Ev.q_ocmpT, ↓Ev.q_ocmpF, ↓Ev.q_join, ↓Ev.q_tocmp, ↓Ev.q_totru, ↓Ev.b_addS, ↓Ev.b_addL, ↓Ev.b_addTQ, ↓Ev.q_setK, ↓Ev.q_while, Ev.VarQ_some, Ev.LifQ_some, Ev.LibQ_some, Ev.IfQ_t, Ev.IfQ_f, Ev.AndQ_some, Ev.SqQ_some, Ev.StoQ_some, Ev.EnQ_some, Ev.C2Q_bl, Ev.CelQ_some, Ev.OrdQ_some, Ev.FmtQ_some, Ev.ParQ_2, Ev.b_add, Ev.b_sub, Ev.c_lt, Ev.c_le, Ev.c_gt, Ev.c_ge, Ev.c_eq, Ev.c_ne, Ev.bl_of, Ev.v_neg, Ev.t_bl, Ev.t_int, Ev.t_tup, Ev.t_lst, Ev.t_non, Ev.ix_tup, Ev.ix_lst, Ev.ix_scr, Ev.at_0, Ev.at_1, Ev.at_2, Ev.l_tup, Ev.l_lst, Ev.len_blt, Ev.abs_blt, Ev.max_blt, Ev.min_blt, Ev.int_blt, Ev.tup_blt, Ev.lst_blt, Ev.gcd_int, Ev.seq_tup, Ev.seq_lst, Ev.seq_scr, Ev.ps0, Ev.ps1, Ev.ps2, Ev.ps3, Ev.ps4, Ev.ps5, Option.map_some, Option.map_none, List.getElem?_cons_zero, List.getElem?_cons_succ, List.set_cons_zero, List.set_cons_succ, List.map_cons, List.map_nil, List.cons_append, List.nil_append, List.length_cons, List.length_nil, List.length_set, List.replicate_succ, List.replicate_zero, Nat.reduceAdd, Nat.reduceSub, Nat.reduceLT, Nat.reduceLeDiff, Nat.sub_self, Ev.take_all, Ev.take_setS, Ev.take_app, Ev.take_setapp, Ev.ObQ_obj, Ev.TxQ_str, Ev.noex_ok, Ev.txtB_ok, Ev.truB_ok, Ev.notB_ok, Ev.ok_obj, Ev.ok_int, Ev.ok_str, Ev.ok_tup, Ev.ok_non, Ev.b_pow18, Ev.cut_tup, Ev.cut_lst, Ev.cut_scr, Ev.rev_tup, Ev.as_tup1, List.set_set, Ev.wipeE, Ev.asg_nm, Ev.asg_tp, Ev.asgs_nil, Ev.asgs_c1, $ls,*] at $h:ident)
/-! what is drawn: payoffs, chances, quotes -/
namespace La
open PySem Ev L2 Lt Lb
structure J0 (T : Tab) : Prop extends Fr T where
  dip : T "_law_dip" = fDef 3 (dS T t__law_dip.body)
  one_of : T "_law_one_of" = fDef 2 (dS T t__law_one_of.body)
  worth : T "_law_worth" = fDef 4 (dS T t__law_worth.body)
  payoff : T "_law_payoff" = fDef 5 (dS T t__law_payoff.body)
  chance : T "_law_chance" = fDef 7 (dS T t__law_chance.body)
structure Jr (T : Tab) : Prop extends J0 T where
  quotes : T "_law_quotes" = fDef 11 (dS T t__law_quotes.body)
theorem sum_ge {l : List Int} (h : ∀ p ∈ l, 0 ≤ p) {x : Int} (hx : x ∈ l) : x ≤ l.sum := by
  induction l with
  | nil => cases hx
  | cons a l ih =>
    rw [List.sum_cons]
    have h0 : 0 ≤ l.sum := by
      clear ih hx
      induction l with
      | nil => simp
      | cons b l ih => rw [List.sum_cons]; have := ih (fun p hp => h p (by simp at hp ⊢; rcases hp with hp | hp <;> simp [hp])); have := h b (by simp); omega
    rcases List.mem_cons.mp hx with rfl | hx
    · omega
    · have := ih (fun p hp => h p (List.mem_cons_of_mem _ hp)) hx
      have := h a (by simp)
      omega
theorem sum_le {l : List Int} (h : ∀ p ∈ l, p ≤ 8) : l.sum ≤ 8 * l.length := by
  induction l with
  | nil => simp
  | cons a l ih =>
    rw [List.sum_cons, List.length_cons]
    have := ih (fun p hp => h p (List.mem_cons_of_mem _ hp))
    have := h a (by simp)
    omega
section
variable {T : Tab} (J : J0 T) {S : Sto} {n B : Nat} {j : List P}
include J
theorem dipJ {k : Int} (h : S[n]? = some j) (hj : Jar (B + 1) j) (h0 : 0 < k) (h1 : k < 1073741824) :
    W (T "_law_dip" [.c n, .p (.int k)] S) (fun u S' => ∃ (d : Int) (j' : List P), u = .p (.int d) ∧ 0 ≤ d ∧ d < k ∧ Jar B j' ∧ S' = S.set n j') NoX := dip J.dip h hj h0 h1
theorem one_of {l : List P} (h : S[n]? = some j) (hj : Jar (B + 1) j) (h0 : l ≠ []) (h1 : l.length < 1073741824) :
    W (T "_law_one_of" [.c n, .p (.lst l)] S) (fun u S' => ∃ (x : P) (j' : List P), u = .p x ∧ x ∈ l ∧ Jar B j' ∧ S' = S.set n j') NoX := by
  rw [J.one_of]
  refine W_def ?_
  simp only [t__law_one_of]
  have hl : 0 < l.length := List.length_pos_iff.mpr h0
  simp_arith [len_blt]
  refine W_use (dipJ J h hj (by omega) (by omega)) fun u S' z => ?_
  obtain ⟨d, j', rfl, d0, d1, hj', rfl⟩ := z
  simp_arith [at_pos d0 d1]
  exact ⟨_, _, rfl, List.getElem_mem _, hj', rfl⟩
theorem payoff {k : Nat} {t : Int} (h : S[n]? = some j) (hj : Jar (B + k) j) (hk : k < 1000) (ht : 0 ≤ t) (ht' : t < 2000) :
    W (T "_law_payoff" [.c n, .p (.int k), .p (.int t)] S) (fun u S' => ∃ (xs : List Int) (j' : List P), u = .p (inP' xs) ∧ xs.length = k ∧ (∀ x ∈ xs, x.natAbs ≤ t.toNat) ∧ Jar B j' ∧ S' = S.set n j') NoX := by
  rw [J.payoff]
  refine W_def ?_
  simp only [t__law_payoff]
  simp_arith []
  refine W_compA ((List.range k).map fun i => .int (i : Nat)) (fun r acc S' => ∃ (xs : List Int) (j' : List P), acc = xs.map .int ∧ xs.length + r.length = k ∧ (∀ x ∈ xs, x.natAbs ≤ t.toNat) ∧ Jar (B + r.length) j' ∧ S' = S.set n j') S ?_ ⟨[], j, rfl, by simp, by simp, by simpa using hj, ?_⟩ (by simp; omega) ?_ ?_
  · simp_arith [rng_s (show k < 1000000 by omega)]
    (first | trivial | exact ⟨rfl, trivial⟩ | exact ⟨rfl, rfl⟩ | exact ⟨trivial, trivial⟩)
  · have := List.getElem?_eq_some_iff.mp h
    obtain ⟨h1, h2⟩ := this
    rw [← h2, List.set_getElem_self]
  · rintro x r acc S' ⟨xs, j', rfl, hl, hx, hj', rfl⟩ _
    have hn : n < S.length := (List.getElem?_eq_some_iff.mp h).1
    refine ⟨_, rfl, ?_⟩
    simp_arith []
    refine ⟨mulw (a := 12) (b := 12) (by decide) (by omega) (by decide), ?_⟩
    refine W_use (dipJ J (j := j') (B := B + r.length) ?_ (hj'.less (by simp; omega)) (by omega) (by omega)) fun u S2 z => ?_
    · rw [List.getElem?_append_left (by simpa using hn), List.getElem?_set_self hn]
    · obtain ⟨d, j2, rfl, d0, d1, hj2, rfl⟩ := z
      simp_arith []
      refine ⟨_, (S.set n j2), rfl, ?_, by simp, xs ++ [d - t], j2, by simp, by simp at hl ⊢; omega, ?_, hj2, rfl⟩
      · rw [List.set_append_left _ _ (by simpa using hn), List.set_set]
      · intro y hy
        rcases List.mem_append.mp hy with hy | hy
        · exact hx y hy
        · simp at hy; omega
  · rintro acc S' ⟨xs, j', rfl, hl, hx, hj', rfl⟩ _
    rw [if_neg (by decide)]
    simp_arith [tup_blt]
    exact ⟨xs, j', rfl, by simpa using hl, hx, by simpa using hj', rfl⟩
/-- a chance: parts of a whole -/
def chP (ps : List Int) (w : Nat) : P := .tup (ps.map fun p => qf (mkRat p w))
theorem chance {k : Nat} (h : S[n]? = some j) (hj : Jar (B + k + 2) j) (h0 : 0 < k) (hk : k ≤ 6) :
    W (T "_law_chance" [.c n, .p (.int k)] S) (fun u S' => ∃ (ps : List Int) (w : Nat) (j' : List P), u = .p (chP ps w) ∧ ps.length = k ∧ (∀ p ∈ ps, 0 ≤ p ∧ p ≤ 8) ∧ ps.sum = w ∧ 0 < w ∧ w ≤ 48 ∧ Jar B j' ∧ S' = S.set n j') NoX := by
  have hn : n < S.length := (List.getElem?_eq_some_iff.mp h).1
  rw [J.chance]
  refine W_def ?_
  simp only [t__law_chance]
  simp_arith []
  refine W_compA ((List.range k).map fun i => .int (i : Nat)) (fun r acc S' => ∃ (xs : List Int) (j' : List P), acc = xs.map .int ∧ xs.length + r.length = k ∧ (∀ x ∈ xs, 0 ≤ x ∧ x ≤ 5) ∧ Jar (B + r.length + 2) j' ∧ S' = S.set n j') S ?_ ⟨[], j, rfl, by simp, by simp, by simpa using hj, ?_⟩ (by simp; omega) ?_ ?_
  · simp_arith [rng_s (show k < 1000000 by omega)]
    (first | trivial | exact ⟨rfl, trivial⟩ | exact ⟨rfl, rfl⟩ | exact ⟨trivial, trivial⟩)
  · obtain ⟨h1, h2⟩ := List.getElem?_eq_some_iff.mp h
    rw [← h2, List.set_getElem_self]
  · rintro x r acc S' ⟨xs, j', rfl, hl, hx, hj', rfl⟩ _
    refine ⟨_, rfl, ?_⟩
    simp_arith []
    refine W_use (dipJ J (j := j') (B := B + r.length + 2) ?_ (hj'.less (by simp; omega)) (by omega) (by omega)) fun u S2 z => ?_
    · rw [List.getElem?_append_left (by simpa using hn), List.getElem?_set_self hn]
    · obtain ⟨d, j2, rfl, d0, d1, hj2, rfl⟩ := z
      refine ⟨_, (S.set n j2), rfl, ?_, by simp, xs ++ [d], j2, by simp, by simp at hl ⊢; omega, ?_, hj2, rfl⟩
      · rw [List.set_append_left _ _ (by simpa using hn), List.set_set]
      · intro y hy
        rcases List.mem_append.mp hy with hy | hy
        · exact hx y hy
        · simp at hy; omega
  · rintro acc S' ⟨xs, j1, rfl, hl, hx, hj1, rfl⟩ _
    rw [if_pos rfl]
    have hl : xs.length = k := by simpa using hl
    refine W_use (dipJ J (j := j1) (B := B + 1) ?_ (hj1.less (by simp <;> omega)) (by omega) (by omega)) fun u S2 z => ?_
    · rw [List.getElem?_append_left (by simpa using hn), List.getElem?_set_self hn]
    obtain ⟨d, j2, rfl, d0, d1, hj2, rfl⟩ := z
    rw [List.set_append_left _ _ (by simpa using hn), List.set_set]
    have hd : d.toNat < xs.length := by omega
    have e : cellAt (.c S.length) (.p (.int d)) (S.set n j2 ++ [xs.map .int]) = some (.int xs[d.toNat]) := by
      show (match (S.set n j2 ++ [xs.map P.int])[S.length]? with | some l => _ | none => none) = _
      rw [List.getElem?_append_right (by simp)]
      simp only [List.length_set, Nat.sub_self, List.getElem?_cons_zero]
      rw [if_pos (by omega), List.getElem?_map, List.getElem?_eq_getElem hd]; rfl
    rw [e]
    dsimp only
    refine W_use (dipJ J (j := j2) (B := B) ?_ hj2 (by omega) (by omega)) fun u S2 z => ?_
    · rw [List.getElem?_append_left (by simpa using hn), List.getElem?_set_self hn]
    obtain ⟨d3, j3, rfl, d30, d31, hj3, rfl⟩ := z
    rw [List.set_append_left _ _ (by simpa using hn), List.set_set]
    simp_arith []
    rw [set_ci (l := xs.map .int) (by simp) d0 (by simpa using hd)]
    have e2 : ((S.set n j3 ++ [xs.map P.int]).set S.length ((xs.map P.int).set d.toNat (.int (xs[d.toNat] + (1 + d3))))) = S.set n j3 ++ [(xs.set d.toNat (xs[d.toNat] + (1 + d3))).map P.int] := by
      rw [List.set_append_right _ _ (by simp), List.map_set]; try simp
    rw [e2]
    generalize hps : xs.set d.toNat (xs[d.toNat] + (1 + d3)) = ps at *
    have g0 : ∀ p ∈ ps, 0 ≤ p ∧ p ≤ 8 := fun p hp => by
      rw [← hps] at hp
      rcases List.mem_or_eq_of_mem_set hp with hp | rfl
      · have := hx p hp; omega
      · have := hx _ (List.getElem_mem hd); omega
    have gl : ps.length = k := by rw [← hps]; simpa using hl
    have gs : 0 < ps.sum ∧ ps.sum ≤ 8 * ps.length := by
      refine ⟨?_, ?_⟩
      · have hd' : d.toNat < ps.length := by omega
        have q0 : ps[d.toNat]'hd' = xs[d.toNat] + (1 + d3) := by simp [← hps]
        have := sum_ge (fun p hp => (g0 p hp).1) (List.getElem_mem hd')
        have := hx _ (List.getElem_mem hd)
        omega
      · exact sum_le fun p hp => (g0 p hp).2
    obtain ⟨w, hw⟩ := Int.eq_ofNat_of_zero_le (Int.le_of_lt gs.1)
    simp_arith [sum_c (S := S.set n j3 ++ [ps.map P.int]) (n := S.length) (ns := ps) (by simp), hw]
    refine W_mapC (m := S.length) (ps.map .int) (fun p => match p with | .int p => qf (mkRat p w) | p => p) (by simp) ?_ (by simp; omega) ?_ ?_
    · simp_arith [seq_c (S := S.set n j3 ++ [ps.map P.int]) (n := S.length) (l := ps.map .int) (by simp)]
      (first | trivial | exact ⟨rfl, trivial⟩ | exact ⟨rfl, rfl⟩ | exact ⟨trivial, trivial⟩)
    · intro x hx' acc
      obtain ⟨p, hp, rfl⟩ := List.mem_map.mp hx'
      refine ⟨_, rfl, ?_⟩
      simp_arith [lowF J.toFr _ (a := p) (n := w) (k := 10) (by omega) (by omega) (by decide)]
      (first | trivial | exact ⟨rfl, trivial⟩ | exact ⟨rfl, rfl⟩ | exact ⟨trivial, trivial⟩)
    · rw [if_neg (by decide)]
      simp_arith [tup_blt]
      refine ⟨ps, w, j3, ?_, gl, g0, hw, by omega, by omega, hj3, rfl⟩
      simp [chP, List.map_map, Function.comp_def]
end
end La
end
section
set_option Elab.async false
set_option linter.all false
set_option maxRecDepth 10000
set_option maxHeartbeats 200000
local macro_rules
  | `(tactic| simp_arith [$ls,*]) => `(tactic| simp only [↓Ev.q_var, ↓Ev.q_glo, ↓Ev.q_cst, ↓Ev.q_bin, ↓Ev.q_neg, ↓Ev.q_cmp, ↓Ev.q_cmp2, ↓Ev.q_and, ↓Ev.q_and1, ↓Ev.q_andm, ↓Ev.q_or, ↓Ev.q_or1, ↓Ev.q_orm, ↓Ev.q_not, ↓Ev.q_ite, ↓Ev.q_blt, ↓Ev.q_gcd, ↓Ev.q_call, ↓Ev.q_make, ↓Ev.q_callK, ↓Ev.q_makeK, ↓Ev.q_tup, ↓Ev.q_lst, ↓Ev.q_cel, ↓Ev.q_idx, ↓Ev.q_sli, ↓Ev.q_app, ↓Ev.q_isi, ↓Ev.q_repr, ↓Ev.q_fld, ↓Ev.q_isc, ↓Ev.q_isx, ↓Ev.q_isb, ↓Ev.q_erf, ↓Ev.q_rev, ↓Ev.q_fstr, ↓Ev.q_fnil, ↓Ev.q_ftxt, ↓Ev.q_fval, ↓Ev.q_nil, ↓Ev.q_cons, ↓Ev.q_no, ↓Ev.q_so, ↓Ev.q_tru, ↓Ev.q_tcmp, ↓Ev.q_tcmp2, ↓Ev.q_tnot, ↓Ev.q_tand, ↓Ev.q_tor, ↓Ev.q_tand1, ↓Ev.q_tor1, ↓Ev.q_tandm, ↓Ev.q_torm, ↓Ev.q_cno, ↓Ev.q_cso, ↓Ev.q_iseq, ↓Ev.q_rng1, ↓Ev.q_rng2, ↓Ev.q_zip, ↓Ev.q_enum, ↓Ev.q_snil, ↓Ev.q_scons, ↓Ev.q_pass, ↓Ev.q_brk, ↓Ev.q_cont, ↓Ev.q_ret, ↓Ev.q_retN, ↓Ev.q_raise, ↓Ev.q_if, ↓Ev.q_set, ↓Ev.q_asg, ↓Ev.q_drop, ↓Ev.q_par, ↓Ev.q_for, ↓Ev.q_setI, ↓Ev.q_setIN, ↓Ev.q_augI, ↓Ev.q_emp, ↓Ev.q_addC, ↓Ev.q_lidx, ↓Ev.q_lcnt, ↓Ev.AddQ_some, ↓Ev.W_ok, ↓Ev.SeqQ_nx, ↓Ev.SeqQ_rt, ↓Ev.SeqQ_bk, ↓Ev.SeqQ_ct, ↓Ev.OutQ_nx, ↓Ev.OutQ_rt, ↓Ev.TrQ_p, ↓Ev.VarQ_some, ↓Ev.LifQ_some, ↓Ev.LibQ_some, ↓Ev.IfQ_t, ↓Ev.IfQ_f, ↓Ev.AndQ_some, ↓Ev.SqQ_some, ↓Ev.StoQ_some, ↓Ev.EnQ_some, ↓Ev.C2Q_bl, ↓Ev.CelQ_some, ↓Ev.FmtQ_some, ↓Ev.ParQ_2, ↓Ev.b_mul, ↓Ev.b_div, ↓Ev.b_mod, ↓Ev.dm_blt, ↓Ev.f_int, ↓Ev.f_str, ↓Ev.s_int, ↓Ev.q_comp, ↓Ev.q_prop, ↓Ev.q_ostr, ↓Ev.q_orepr, ↓Ev.q_ocmpT, ↓Ev.q_ocmpF, ↓Ev.q_join, ↓Ev.q_tocmp, ↓Ev.q_totru, ↓Ev.b_addS, ↓Ev.b_addL, ↓Ev.b_addTQ, ↓Ev.q_setK, ↓Ev.q_while, Ev.VarQ_some, Ev.LifQ_some, Ev.LibQ_some, Ev.IfQ_t, Ev.IfQ_f, Ev.AndQ_some, Ev.SqQ_some, Ev.StoQ_some, Ev.EnQ_some, Ev.C2Q_bl, Ev.CelQ_some, Ev.OrdQ_some, Ev.FmtQ_some, Ev.ParQ_2, Ev.b_add, Ev.b_sub, Ev.c_lt, Ev.c_le, Ev.c_gt, Ev.c_ge, Ev.c_eq, Ev.c_ne, Ev.bl_of, Ev.v_neg, Ev.t_bl, Ev.t_int, Ev.t_tup, Ev.t_lst, Ev.t_non, Ev.ix_tup, Ev.ix_lst, Ev.ix_scr, Ev.at_0, Ev.at_1, Ev.at_2, Ev.l_tup, Ev.l_lst, Ev.len_blt, Ev.abs_blt, Ev.max_blt, Ev.min_blt, Ev.int_blt, Ev.tup_blt, Ev.lst_blt, Ev.gcd_int, Ev.seq_tup, Ev.seq_lst, Ev.seq_scr, Ev.ps0, Ev.ps1, Ev.ps2, Ev.ps3, Ev.ps4, Ev.ps5, Option.map_some, Option.map_none, List.getElem?_cons_zero, List.getElem?_cons_succ, List.set_cons_zero, List.set_cons_succ, List.map_cons, List.map_nil, List.cons_append, List.nil_append, List.length_cons, List.length_nil, List.length_set, List.replicate_succ, List.replicate_zero, Nat.reduceAdd, Nat.reduceSub, Nat.reduceLT, Nat.reduceLeDiff, Nat.sub_self, Ev.take_all, Ev.take_setS, Ev.take_app, Ev.take_setapp, Ev.ObQ_obj, Ev.TxQ_str, Ev.noex_ok, Ev.txtB_ok, Ev.truB_ok, Ev.notB_ok, Ev.ok_obj, Ev.ok_int, Ev.ok_str, Ev.ok_tup, Ev.ok_non, Ev.b_pow18, Ev.cut_tup, Ev.cut_lst, Ev.cut_scr, Ev.rev_tup, Ev.as_tup1, List.set_set, Ev.wipeE, Ev.asg_nm, Ev.asg_tp, Ev.asgs_nil, Ev.asgs_c1, $ls,*])
  | `(tactic| simp_arith [$ls,*] at $h:ident) => `(tactic| simp only [↓Ev.q_var, ↓Ev.q_glo, ↓Ev.q_cst, ↓Ev.q_bin, ↓Ev.q_neg, ↓Ev.q_cmp, ↓Ev.q_cmp2, ↓Ev.q_and, ↓Ev.q_and1, ↓Ev.q_andm, ↓Ev.q_or, ↓Ev.q_or1, ↓Ev.q_orm, ↓Ev.q_not, ↓Ev.q_ite, ↓Ev.q_blt, ↓Ev.q_gcd, ↓Ev.q_call, ↓Ev.q_make, ↓Ev.q_callK, ↓Ev.q_makeK, ↓Ev.q_tup, ↓Ev.q_lst, ↓Ev.q_cel, ↓Ev.q_idx, ↓Ev.q_sli, ↓Ev.q_app, ↓Ev.q_isi, ↓Ev.q_repr, ↓Ev.q_fld, ↓Ev.q_isc, ↓Ev.q_isx, ↓Ev.q_isb, ↓Ev.q_erf, ↓Ev.q_rev, ↓Ev.q_fstr, ↓Ev.q_fnil, ↓Ev.q_ftxt, ↓Ev.q_fval, ↓Ev.q_nil, ↓Ev.q_cons, ↓Ev.q_no, ↓Ev.q_so, ↓Ev.q_tru, ↓Ev.q_tcmp, ↓Ev.q_tcmp2, ↓Ev.q_tnot, ↓Ev.q_tand, ↓Ev.q_tor, ↓Ev.q_tand1, ↓Ev.q_tor1, ↓Ev.q_tandm, ↓Ev.q_torm, ↓Ev.q_cno, ↓Ev.q_cso, ↓Ev.q_iseq, ↓Ev.q_rng1, ↓Ev.q_rng2, ↓Ev.q_zip, ↓Ev.q_enum, ↓Ev.q_snil, ↓Ev.q_scons, ↓Ev.q_pass, ↓Ev.q_brk, ↓Ev.q_cont, ↓Ev.q_ret, ↓Ev.q_retN, ↓Ev.q_raise, ↓Ev.q_if, ↓Ev.q_set, ↓Ev.q_asg, ↓Ev.q_drop, ↓Ev.q_par, ↓Ev.q_for, ↓Ev.q_setI, ↓Ev.q_setIN, ↓Ev.q_augI, ↓Ev.q_emp, ↓Ev.q_addC, ↓Ev.q_lidx, ↓Ev.q_lcnt, ↓Ev.AddQ_some, ↓Ev.W_ok, ↓Ev.SeqQ_nx, ↓Ev.SeqQ_rt, ↓Ev.SeqQ_bk, ↓Ev.SeqQ_ct, ↓Ev.OutQ_nx, ↓Ev.OutQ_rt, ↓Ev.TrQ_p, ↓Ev.VarQ_some, ↓Ev.LifQ_some, ↓Ev.LibQ_some, ↓Ev.IfQ_t, ↓Ev.IfQ_f, ↓Ev.AndQ_some, ↓Ev.SqQ_some, ↓Ev.StoQ_some, ↓Ev.EnQ_some, ↓Ev.C2Q_bl, ↓Ev.CelQ_some, ↓Ev.FmtQ_some, ↓Ev.ParQ_2, ↓Ev.b_mul, ↓Ev.b_div, ↓Ev.b_mod, ↓Ev.dm_blt, ↓Ev.f_int, ↓Ev.f_str, ↓Ev.s_int, ↓Ev.q_comp, ↓Ev.q_prop, ↓Ev.q_ostr, ↓Ev.q_orepr, ↓Ev.q_ocmpT, ↓Ev.q_ocmpF, ↓Ev.q_join, ↓Ev.q_tocmp, ↓Ev.q_totru, ↓Ev.b_addS, ↓Ev.b_addL, ↓Ev.b_addTQ, ↓Ev.q_setK, ↓Ev.q_while, Ev.VarQ_some, Ev.LifQ_some, Ev.LibQ_some, Ev.IfQ_t, Ev.IfQ_f, Ev.AndQ_some, Ev.SqQ_some, Ev.StoQ_some, Ev.EnQ_some, Ev.C2Q_bl, Ev.CelQ_some, Ev.OrdQ_some, Ev.FmtQ_some, Ev.ParQ_2, Ev.b_add, Ev.b_sub, Ev.c_lt, Ev.c_le, Ev.c_gt, Ev.c_ge, Ev.c_eq, Ev.c_ne, Ev.bl_of, Ev.v_neg, Ev.t_bl, Ev.t_int, Ev.t_tup, Ev.t_lst, Ev.t_non, Ev.ix_tup, Ev.ix_lst, Ev.ix_scr, Ev.at_0, Ev.at_1, Ev.at_2, Ev.l_tup, Ev.l_lst, Ev.len_blt, Ev.abs_blt, Ev.max_blt, Ev.min_blt, Ev.int_blt, Ev.tup_blt, Ev.lst_blt, Ev.gcd_int, Ev.seq_tup, Ev.seq_lst, Ev.seq_scr, Ev.ps0, Ev.ps1, Ev.ps2, Ev.ps3, Ev.ps4, Ev.ps5, Option.map_some, Option.map_none, List.getElem?_cons_zero, List.getElem?_cons_succ, List.set_cons_zero, List.set_cons_succ, List.map_cons, List.map_nil, List.cons_append, List.nil_append, List.length_cons, List.length_nil, List.length_set, List.replicate_succ, List.replicate_zero, Nat.reduceAdd, Nat.reduceSub, Nat.reduceLT, Nat.reduceLeDiff, Nat.sub_self, Ev.take_all, Ev.take_setS, Ev.take_app, Ev.take_setapp, Ev.ObQ_obj, Ev.TxQ_str, Ev.noex_ok, Ev.txtB_ok, Ev.truB_ok, Ev.notB_ok, Ev.ok_obj, Ev.ok_int, Ev.ok_str, Ev.ok_tup, Ev.ok_non, Ev.b_pow18, Ev.cut_tup, Ev.cut_lst, Ev.cut_scr, Ev.rev_tup, Ev.as_tup1, List.set_set, Ev.wipeE, Ev.asg_nm, Ev.asg_tp, Ev.asgs_nil, Ev.asgs_c1, $ls,*] at $h:ident)
/-! worths, drawn quotes -/
namespace La
open PySem Ev L2 Lt Lb
/-- the worth of a payoff -/
def wsum : List Int → List Rat → Rat
  | x :: xs, c :: cs => (x : Rat) * c + wsum xs cs
  | _, _ => 0
def dot : List Int → List Int → Int
  | x :: xs, c :: cs => x * c + dot xs cs
  | _, _ => 0
theorem wsum_mk {w : Nat} (hw : w ≠ 0) : ∀ (xs ps : List Int), wsum xs (ps.map fun p => mkRat p w) = mkRat (dot xs ps) w
  | [], ps => by
    show (0 : Rat) = mkRat 0 w
    rw [Rat.zero_mkRat]
  | x :: xs, [] => by
    show (0 : Rat) = mkRat 0 w
    rw [Rat.zero_mkRat]
  | x :: xs, p :: ps => by
    show (x : Rat) * mkRat p w + wsum xs (ps.map fun p => mkRat p w) = mkRat (x * p + dot xs ps) w
    rw [wsum_mk hw xs ps, Rat.mkRat_eq_div, Rat.mkRat_eq_div, Rat.mkRat_eq_div, Rat.intCast_add, Rat.intCast_mul]
    grind
theorem dot_le : ∀ (xs ps : List Int), (∀ x ∈ xs, x.natAbs ≤ 5) → (∀ p ∈ ps, 0 ≤ p ∧ p ≤ 8) → (dot xs ps).natAbs ≤ 40 * xs.length
  | [], ps, _, _ => by simp [dot]
  | x :: xs, [], _, _ => by simp [dot]
  | x :: xs, p :: ps, h1, h2 => by
    have := dot_le xs ps (fun y z => h1 y (List.mem_cons_of_mem _ z)) (fun y z => h2 y (List.mem_cons_of_mem _ z))
    have a := h1 x (by simp)
    have b := h2 p (by simp)
    have e : (x * p).natAbs ≤ 5 * 8 := by
      rw [Int.natAbs_mul]
      exact Nat.mul_le_mul a (by omega)
    show (x * p + dot xs ps).natAbs ≤ 40 * (xs.length + 1)
    omega
theorem sz_int {x : Int} {k : Nat} (h : x.natAbs < 2 ^ k) (hk : 1 ≤ k) : Sz k (x : Rat) := ⟨h, by
  show 1 < 2 ^ k
  exact Nat.one_lt_two_pow (by omega)⟩
section
variable {T : Tab} (J : J0 T) {S : Sto}
include J
theorem worth {s : Nat} {xs : List Int} {cs : List Rat} (hl : xs.length = cs.length) (hk : xs.length < 1000) (hx : ∀ x ∈ xs, x.natAbs < 2 ^ 12) (hc : ∀ c ∈ cs, Sz s c) (hs : xs.length * (s + 13) + s < 8000) :
    T "_law_worth" [.p (inP' xs), .p (.tup (cs.map qf))] S = some (.ok (.p (qf (wsum xs cs))) S) := by
  rw [J.worth]
  refine W_say (W_def ?_)
  simp only [t__law_worth]
  simp_arith [len_blt, List.length_map, rng_s (show xs.length < 1000000 by omega)]
  refine W_forL (fun r ρ S' => S' = S ∧ ∃ (i m : Nat) (q : Rat) (u : Option U), i + m = xs.length ∧ r = (List.range' i m).map (fun i => P.int (i : Nat)) ∧ Sz (i * (s + 13) + 1) q ∧ q + wsum (xs.drop i) (cs.drop i) = wsum xs cs ∧ ρ = [some (.p (inP' xs)), some (.p (.tup (cs.map qf))), some (.p (qf q)), u]) _ _ _ ⟨rfl, 0, xs.length, 0, none, by omega, by rw [List.range_eq_range'], ⟨by rw [Nat.zero_mul]; decide, by rw [Nat.zero_mul]; decide⟩, ?_, rfl⟩ ?_ ?_
  · rw [List.drop_zero, List.drop_zero]; grind
  · rintro x r ρ S' ⟨rfl, i, m, q, u, h1, h2, h3, h4, rfl⟩
    cases m with
    | zero => cases h2
    | succ m =>
      rw [List.range'_succ, List.map_cons] at h2
      obtain ⟨rfl, rfl⟩ := List.cons.inj h2
      have hi : i < xs.length := by omega
      have hi2 : i < cs.length := by omega
      refine ⟨_, rfl, ?_⟩
      have z1 : Sz 12 ((xs[i] : Int) : Rat) := sz_int (hx _ (List.getElem_mem hi)) (by decide)
      have z2 := hc _ (List.getElem_mem hi2)
      have e1 : T "_law_times" [.p (.tup [.int xs[i], .int 1]), .p (qf cs[i])] S' = some (.ok (.p (qf (((xs[i] : Int) : Rat) * cs[i]))) S') := timesF J.toFr S' (p := ((xs[i] : Int) : Rat)) z1 z2 (by omega)
      have b1 : i * (s + 13) ≤ xs.length * (s + 13) := Nat.mul_le_mul_right _ (by omega)
      have z3 := times_sz z1 z2
      have e2 := plusF J.toFr S' (p := q) (q := ((xs[i] : Int) : Rat) * cs[i]) h3 z3 (by omega)
      simp_arith [at_nat (A := P) (k := i) (l := xs.map .int) (by simpa using hi), at_nat (A := P) (k := i) (l := cs.map qf) (by simpa using hi2), List.getElem_map, e1, e2, ForQ]
      refine ⟨srcOk_nn, trivial, i + 1, m, q + ((xs[i] : Int) : Rat) * cs[i], _, by omega, rfl, (plus_sz h3 z3).mono (by rw [Nat.add_mul]; omega), ?_, rfl⟩
      rw [← h4, List.drop_eq_getElem_cons hi, List.drop_eq_getElem_cons hi2]
      show _ = q + (((xs[i] : Int) : Rat) * cs[i] + wsum (xs.drop (i + 1)) (cs.drop (i + 1)))
      grind
  · rintro ρ S' ⟨rfl, i, m, q, u, h1, h2, h3, h4, rfl⟩
    have hm : m = 0 := by
      cases m with
      | zero => rfl
      | succ m => rw [List.range'_succ] at h2; cases h2
    subst hm
    simp_arith []
    have : q = wsum xs cs := by
      rw [← h4, List.drop_eq_nil_of_le (by omega)]
      show q = q + 0
      grind
    rw [this]
    (first | trivial | exact ⟨rfl, trivial⟩ | exact ⟨rfl, rfl⟩ | exact ⟨trivial, trivial⟩)
end
end La
end
section
set_option Elab.async false
set_option linter.all false
set_option maxRecDepth 10000
set_option maxHeartbeats 200000
local macro_rules
  | `(tactic| simp_arith [$ls,*]) => `(tactic| simp only [↓Ev.q_var, ↓Ev.q_glo, ↓Ev.q_cst, ↓Ev.q_bin, ↓Ev.q_neg, ↓Ev.q_cmp, ↓Ev.q_cmp2, ↓Ev.q_and, ↓Ev.q_and1, ↓Ev.q_andm, ↓Ev.q_or, ↓Ev.q_or1, ↓Ev.q_orm, ↓Ev.q_not, ↓Ev.q_ite, ↓Ev.q_blt, ↓Ev.q_gcd, ↓Ev.q_call, ↓Ev.q_make, ↓Ev.q_callK, ↓Ev.q_makeK, ↓Ev.q_tup, ↓Ev.q_lst, ↓Ev.q_cel, ↓Ev.q_idx, ↓Ev.q_sli, ↓Ev.q_app, ↓Ev.q_isi, ↓Ev.q_repr, ↓Ev.q_fld, ↓Ev.q_isc, ↓Ev.q_isx, ↓Ev.q_isb, ↓Ev.q_erf, ↓Ev.q_rev, ↓Ev.q_fstr, ↓Ev.q_fnil, ↓Ev.q_ftxt, ↓Ev.q_fval, ↓Ev.q_nil, ↓Ev.q_cons, ↓Ev.q_no, ↓Ev.q_so, ↓Ev.q_tru, ↓Ev.q_tcmp, ↓Ev.q_tcmp2, ↓Ev.q_tnot, ↓Ev.q_tand, ↓Ev.q_tor, ↓Ev.q_tand1, ↓Ev.q_tor1, ↓Ev.q_tandm, ↓Ev.q_torm, ↓Ev.q_cno, ↓Ev.q_cso, ↓Ev.q_iseq, ↓Ev.q_rng1, ↓Ev.q_rng2, ↓Ev.q_zip, ↓Ev.q_enum, ↓Ev.q_snil, ↓Ev.q_scons, ↓Ev.q_pass, ↓Ev.q_brk, ↓Ev.q_cont, ↓Ev.q_ret, ↓Ev.q_retN, ↓Ev.q_raise, ↓Ev.q_if, ↓Ev.q_set, ↓Ev.q_asg, ↓Ev.q_drop, ↓Ev.q_par, ↓Ev.q_for, ↓Ev.q_setI, ↓Ev.q_setIN, ↓Ev.q_augI, ↓Ev.q_emp, ↓Ev.q_addC, ↓Ev.q_lidx, ↓Ev.q_lcnt, ↓Ev.AddQ_some, ↓Ev.W_ok, ↓Ev.SeqQ_nx, ↓Ev.SeqQ_rt, ↓Ev.SeqQ_bk, ↓Ev.SeqQ_ct, ↓Ev.OutQ_nx, ↓Ev.OutQ_rt, ↓Ev.TrQ_p, ↓Ev.VarQ_some, ↓Ev.LifQ_some, ↓Ev.LibQ_some, ↓Ev.IfQ_t, ↓Ev.IfQ_f, ↓Ev.AndQ_some, ↓Ev.SqQ_some, ↓Ev.StoQ_some, ↓Ev.EnQ_some, ↓Ev.C2Q_bl, ↓Ev.CelQ_some, ↓Ev.FmtQ_some, ↓Ev.ParQ_2, ↓Ev.b_mul, ↓Ev.b_div, ↓Ev.b_mod, ↓Ev.dm_blt, ↓Ev.f_int, ↓Ev.f_str, ↓Ev.s_int, ↓Ev.q_comp, ↓Ev.q_prop, ↓Ev.q_ostr, ↓Ev.q_orepr, ↓Ev.q_ocmpT, ↓Ev.q_ocmpF, ↓Ev.q_join, ↓Ev.q_tocmp, ↓Ev.q_totru, ↓Ev.b_addS, ↓Ev.b_addL, ↓Ev.b_addTQ, ↓Ev.q_setK, ↓Ev.q_while, Ev.VarQ_some, Ev.LifQ_some, Ev.LibQ_some, Ev.IfQ_t, Ev.IfQ_f, Ev.AndQ_some, Ev.SqQ_some, Ev.StoQ_some, Ev.EnQ_some, Ev.C2Q_bl, Ev.CelQ_some, Ev.OrdQ_some, Ev.FmtQ_some, Ev.ParQ_2, Ev.b_add, Ev.b_sub, Ev.c_lt, Ev.c_le, Ev.c_gt, Ev.c_ge, Ev.c_eq, Ev.c_ne, Ev.bl_of, Ev.v_neg, Ev.t_bl, Ev.t_int, Ev.t_tup, Ev.t_lst, Ev.t_non, Ev.ix_tup, Ev.ix_lst, Ev.ix_scr, Ev.at_0, Ev.at_1, Ev.at_2, Ev.l_tup, Ev.l_lst, Ev.len_blt, Ev.abs_blt, Ev.max_blt, Ev.min_blt, Ev.int_blt, Ev.tup_blt, Ev.lst_blt, Ev.gcd_int, Ev.seq_tup, Ev.seq_lst, Ev.seq_scr, Ev.ps0, Ev.ps1, Ev.ps2, Ev.ps3, Ev.ps4, Ev.ps5, Option.map_some, Option.map_none, List.getElem?_cons_zero, List.getElem?_cons_succ, List.set_cons_zero, List.set_cons_succ, List.map_cons, List.map_nil, List.cons_append, List.nil_append, List.length_cons, List.length_nil, List.length_set, List.replicate_succ, List.replicate_zero, Nat.reduceAdd, Nat.reduceSub, Nat.reduceLT, Nat.reduceLeDiff, Nat.sub_self, Ev.take_all, Ev.take_setS, Ev.take_app, Ev.take_setapp, Ev.ObQ_obj, Ev.TxQ_str, Ev.noex_ok, Ev.txtB_ok, Ev.truB_ok, Ev.notB_ok, Ev.ok_obj, Ev.ok_int, Ev.ok_str, Ev.ok_tup, Ev.ok_non, Ev.b_pow18, Ev.cut_tup, Ev.cut_lst, Ev.cut_scr, Ev.rev_tup, Ev.as_tup1, List.set_set, Ev.wipeE, Ev.asg_nm, Ev.asg_tp, Ev.asgs_nil, Ev.asgs_c1, $ls,*])
  | `(tactic| simp_arith [$ls,*] at $h:ident) => `(tactic| simp only [↓Ev.q_var, ↓Ev.q_glo, ↓Ev.q_cst, ↓Ev.q_bin, ↓Ev.q_neg, ↓Ev.q_cmp, ↓Ev.q_cmp2, ↓Ev.q_and, ↓Ev.q_and1, ↓Ev.q_andm, ↓Ev.q_or, ↓Ev.q_or1, ↓Ev.q_orm, ↓Ev.q_not, ↓Ev.q_ite, ↓Ev.q_blt, ↓Ev.q_gcd, ↓Ev.q_call, ↓Ev.q_make, ↓Ev.q_callK, ↓Ev.q_makeK, ↓Ev.q_tup, ↓Ev.q_lst, ↓Ev.q_cel, ↓Ev.q_idx, ↓Ev.q_sli, ↓Ev.q_app, ↓Ev.q_isi, ↓Ev.q_repr, ↓Ev.q_fld, ↓Ev.q_isc, ↓Ev.q_isx, ↓Ev.q_isb, ↓Ev.q_erf, ↓Ev.q_rev, ↓Ev.q_fstr, ↓Ev.q_fnil, ↓Ev.q_ftxt, ↓Ev.q_fval, ↓Ev.q_nil, ↓Ev.q_cons, ↓Ev.q_no, ↓Ev.q_so, ↓Ev.q_tru, ↓Ev.q_tcmp, ↓Ev.q_tcmp2, ↓Ev.q_tnot, ↓Ev.q_tand, ↓Ev.q_tor, ↓Ev.q_tand1, ↓Ev.q_tor1, ↓Ev.q_tandm, ↓Ev.q_torm, ↓Ev.q_cno, ↓Ev.q_cso, ↓Ev.q_iseq, ↓Ev.q_rng1, ↓Ev.q_rng2, ↓Ev.q_zip, ↓Ev.q_enum, ↓Ev.q_snil, ↓Ev.q_scons, ↓Ev.q_pass, ↓Ev.q_brk, ↓Ev.q_cont, ↓Ev.q_ret, ↓Ev.q_retN, ↓Ev.q_raise, ↓Ev.q_if, ↓Ev.q_set, ↓Ev.q_asg, ↓Ev.q_drop, ↓Ev.q_par, ↓Ev.q_for, ↓Ev.q_setI, ↓Ev.q_setIN, ↓Ev.q_augI, ↓Ev.q_emp, ↓Ev.q_addC, ↓Ev.q_lidx, ↓Ev.q_lcnt, ↓Ev.AddQ_some, ↓Ev.W_ok, ↓Ev.SeqQ_nx, ↓Ev.SeqQ_rt, ↓Ev.SeqQ_bk, ↓Ev.SeqQ_ct, ↓Ev.OutQ_nx, ↓Ev.OutQ_rt, ↓Ev.TrQ_p, ↓Ev.VarQ_some, ↓Ev.LifQ_some, ↓Ev.LibQ_some, ↓Ev.IfQ_t, ↓Ev.IfQ_f, ↓Ev.AndQ_some, ↓Ev.SqQ_some, ↓Ev.StoQ_some, ↓Ev.EnQ_some, ↓Ev.C2Q_bl, ↓Ev.CelQ_some, ↓Ev.FmtQ_some, ↓Ev.ParQ_2, ↓Ev.b_mul, ↓Ev.b_div, ↓Ev.b_mod, ↓Ev.dm_blt, ↓Ev.f_int, ↓Ev.f_str, ↓Ev.s_int, ↓Ev.q_comp, ↓Ev.q_prop, ↓Ev.q_ostr, ↓Ev.q_orepr, ↓Ev.q_ocmpT, ↓Ev.q_ocmpF, ↓Ev.q_join, ↓Ev.q_tocmp, ↓Ev.q_totru, ↓Ev.b_addS, ↓Ev.b_addL, ↓Ev.b_addTQ, ↓Ev.q_setK, ↓Ev.q_while, Ev.VarQ_some, Ev.LifQ_some, Ev.LibQ_some, Ev.IfQ_t, Ev.IfQ_f, Ev.AndQ_some, Ev.SqQ_some, Ev.StoQ_some, Ev.EnQ_some, Ev.C2Q_bl, Ev.CelQ_some, Ev.OrdQ_some, Ev.FmtQ_some, Ev.ParQ_2, Ev.b_add, Ev.b_sub, Ev.c_lt, Ev.c_le, Ev.c_gt, Ev.c_ge, Ev.c_eq, Ev.c_ne, Ev.bl_of, Ev.v_neg, Ev.t_bl, Ev.t_int, Ev.t_tup, Ev.t_lst, Ev.t_non, Ev.ix_tup, Ev.ix_lst, Ev.ix_scr, Ev.at_0, Ev.at_1, Ev.at_2, Ev.l_tup, Ev.l_lst, Ev.len_blt, Ev.abs_blt, Ev.max_blt, Ev.min_blt, Ev.int_blt, Ev.tup_blt, Ev.lst_blt, Ev.gcd_int, Ev.seq_tup, Ev.seq_lst, Ev.seq_scr, Ev.ps0, Ev.ps1, Ev.ps2, Ev.ps3, Ev.ps4, Ev.ps5, Option.map_some, Option.map_none, List.getElem?_cons_zero, List.getElem?_cons_succ, List.set_cons_zero, List.set_cons_succ, List.map_cons, List.map_nil, List.cons_append, List.nil_append, List.length_cons, List.length_nil, List.length_set, List.replicate_succ, List.replicate_zero, Nat.reduceAdd, Nat.reduceSub, Nat.reduceLT, Nat.reduceLeDiff, Nat.sub_self, Ev.take_all, Ev.take_setS, Ev.take_app, Ev.take_setapp, Ev.ObQ_obj, Ev.TxQ_str, Ev.noex_ok, Ev.txtB_ok, Ev.truB_ok, Ev.notB_ok, Ev.ok_obj, Ev.ok_int, Ev.ok_str, Ev.ok_tup, Ev.ok_non, Ev.b_pow18, Ev.cut_tup, Ev.cut_lst, Ev.cut_scr, Ev.rev_tup, Ev.as_tup1, List.set_set, Ev.wipeE, Ev.asg_nm, Ev.asg_tp, Ev.asgs_nil, Ev.asgs_c1, $ls,*] at $h:ident)
/-! drawn quotes -/
namespace La
open PySem Ev L2 Lt Lb
/-- a drawn quote -/
def GS (k : Nat) (q : Qt) : Prop := q.1.length = k ∧ (∀ x ∈ q.1, x.natAbs ≤ 5) ∧ q.2.num.natAbs ≤ 1200 ∧ q.2.den ≤ 192
abbrev tailQ : Ts := .cons (.drop (.app (.var 5) (.tup (.cons (.var 7) (.cons (.call "_law_low" (.cons (.bin .sub (.bin .mul (.var 8) (.cst (.int 4))) (.bin .mul (.var 10) (.var 9))) (.cons (.bin .mul (.var 9) (.cst (.int 4))) .nil))) .nil))))) .nil
section
variable {T : Tab} (J : Jr T) {S : Sto} {n B : Nat} {j : List P}
include J
theorem worthC {xs ps : List Int} {w k : Nat} (h1 : xs.length = k) (h2 : ps.length = k) (hk : k ≤ 6) (hw : 0 < w) (hw' : w ≤ 48) (hx : ∀ x ∈ xs, x.natAbs ≤ 5) (hp : ∀ p ∈ ps, 0 ≤ p ∧ p ≤ 8) :
    T "_law_worth" [.p (inP' xs), .p (chP ps w)] S = some (.ok (.p (frP (mkRat (dot xs ps) w))) S) := by
  have e : chP ps w = .tup ((ps.map fun p => mkRat p w).map qf) := by simp [chP, List.map_map, Function.comp_def]
  rw [e, worth J.toJ0 (s := 10) (by simp; omega) (by omega) (fun x hx' => by have := hx x hx'; omega) ?_ (by have : xs.length * (10 + 13) ≤ 6 * 23 := Nat.mul_le_mul_right _ (by omega); omega), wsum_mk (by omega)]
  · rfl
  · intro c hc
    obtain ⟨p, hp', rfl⟩ := List.mem_map.mp hc
    have := hp p hp'
    exact sz_mk (by omega) (by omega) (by omega)
theorem tailOk {k : Nat} {xs : List Int} {q : Rat} {l : Int} {qs : List Qt} {a0 a1 a2 a3 a4 a6 : Option U} {Q : Out → Sto → Prop} (hn : n < S.length) (hq : q.num.natAbs ≤ 240) (hd : q.den ≤ 48) (hl : l.natAbs ≤ 5) (hm : qs.length < 1000)
    (hxk : xs.length = k) (hx : ∀ x ∈ xs, x.natAbs ≤ 5)
    (hQ : ∀ price : Rat, GS k (xs, price) → Q (.nx [a0, a1, a2, a3, a4, some (.c S.length), a6, some (.p (inP' xs)), some (.p (.int q.num)), some (.p (.int q.den)), some (.p (.int l))]) (S.set n j ++ [(qs ++ [(xs, price)]).map qP])) :
    W (dS T tailQ [a0, a1, a2, a3, a4, some (.c S.length), a6, some (.p (inP' xs)), some (.p (.int q.num)), some (.p (.int q.den)), some (.p (.int l))] (S.set n j ++ [qs.map qP])) Q NoX := by
  have dp := q.den_pos
  unfold tailQ
  simp_arith []
  refine ⟨mulw (a := 12) (b := 12) (by omega) (by decide) (by decide), mulw (a := 12) (b := 12) (by omega) (by rw [Int.natAbs_natCast]; omega) (by decide), mulw (a := 12) (b := 12) (by rw [Int.natAbs_natCast]; omega) (by decide) (by decide), ?_⟩
  rw [show (q.den : Int) * 4 = ((q.den * 4 : Nat) : Int) by rw [Int.natCast_mul]; rfl]
  rw [lowF J.toFr _ (k := 12) (by omega) (by omega) (by decide)]
  have bd : (q.num * 4 - l * q.den).natAbs ≤ 1200 := by
    have e : (l * q.den).natAbs ≤ 5 * 48 := by
      rw [Int.natAbs_mul, Int.natAbs_natCast]
      exact Nat.mul_le_mul hl hd
    omega
  have g : GS k (xs, mkRat (q.num * 4 - l * q.den) (q.den * 4)) := by
    obtain ⟨m1, m2⟩ := mk_le (a := q.num * 4 - l * q.den) (n := q.den * 4) (by omega)
    have := Nat.le_of_dvd (by omega) m2
    exact ⟨hxk, hx, by show (mkRat _ _).num.natAbs ≤ _; omega, by show (mkRat _ _).den ≤ _; omega⟩
  simp_arith [ap_c (S := S.set n j ++ [qs.map qP]) (n := S.length) (l := qs.map qP) (by simp) (by simp; omega)]
  have := hQ _ g
  rw [List.map_append] at this
  rw [List.set_append_right _ _ (by simp), List.length_set, Nat.sub_self]
  exact this
end
end La
end
section
set_option Elab.async false
set_option linter.all false
set_option maxRecDepth 10000
set_option maxHeartbeats 400000
local macro_rules
  | `(tactic| simp_arith [$ls,*]) => `(tactic| simp only [↓Ev.q_var, ↓Ev.q_glo, ↓Ev.q_cst, ↓Ev.q_bin, ↓Ev.q_neg, ↓Ev.q_cmp, ↓Ev.q_cmp2, ↓Ev.q_and, ↓Ev.q_and1, ↓Ev.q_andm, ↓Ev.q_or, ↓Ev.q_or1, ↓Ev.q_orm, ↓Ev.q_not, ↓Ev.q_ite, ↓Ev.q_blt, ↓Ev.q_gcd, ↓Ev.q_call, ↓Ev.q_make, ↓Ev.q_callK, ↓Ev.q_makeK, ↓Ev.q_tup, ↓Ev.q_lst, ↓Ev.q_cel, ↓Ev.q_idx, ↓Ev.q_sli, ↓Ev.q_app, ↓Ev.q_isi, ↓Ev.q_repr, ↓Ev.q_fld, ↓Ev.q_isc, ↓Ev.q_isx, ↓Ev.q_isb, ↓Ev.q_erf, ↓Ev.q_rev, ↓Ev.q_fstr, ↓Ev.q_fnil, ↓Ev.q_ftxt, ↓Ev.q_fval, ↓Ev.q_nil, ↓Ev.q_cons, ↓Ev.q_no, ↓Ev.q_so, ↓Ev.q_tru, ↓Ev.q_tcmp, ↓Ev.q_tcmp2, ↓Ev.q_tnot, ↓Ev.q_tand, ↓Ev.q_tor, ↓Ev.q_tand1, ↓Ev.q_tor1, ↓Ev.q_tandm, ↓Ev.q_torm, ↓Ev.q_cno, ↓Ev.q_cso, ↓Ev.q_iseq, ↓Ev.q_rng1, ↓Ev.q_rng2, ↓Ev.q_zip, ↓Ev.q_enum, ↓Ev.q_snil, ↓Ev.q_scons, ↓Ev.q_pass, ↓Ev.q_brk, ↓Ev.q_cont, ↓Ev.q_ret, ↓Ev.q_retN, ↓Ev.q_raise, ↓Ev.q_if, ↓Ev.q_set, ↓Ev.q_asg, ↓Ev.q_drop, ↓Ev.q_par, ↓Ev.q_for, ↓Ev.q_setI, ↓Ev.q_setIN, ↓Ev.q_augI, ↓Ev.q_emp, ↓Ev.q_addC, ↓Ev.q_lidx, ↓Ev.q_lcnt, ↓Ev.AddQ_some, ↓Ev.W_ok, ↓Ev.SeqQ_nx, ↓Ev.SeqQ_rt, ↓Ev.SeqQ_bk, ↓Ev.SeqQ_ct, ↓Ev.OutQ_nx, ↓Ev.OutQ_rt, ↓Ev.TrQ_p, ↓Ev.VarQ_some, ↓Ev.LifQ_some, ↓Ev.LibQ_some, ↓Ev.IfQ_t, ↓Ev.IfQ_f, ↓Ev.AndQ_some, ↓Ev.SqQ_some, ↓Ev.StoQ_some, ↓Ev.EnQ_some, ↓Ev.C2Q_bl, ↓Ev.CelQ_some, ↓Ev.FmtQ_some, ↓Ev.ParQ_2, ↓Ev.b_mul, ↓Ev.b_div, ↓Ev.b_mod, ↓Ev.dm_blt, ↓Ev.f_int, ↓Ev.f_str, ↓Ev.s_int, ↓Ev.q_comp, ↓Ev.q_prop, ↓Ev.q_ostr, ↓Ev.q_orepr, ↓Ev.q_ocmpT, ↓Ev.q_ocmpF, ↓Ev.q_join, ↓Ev.q_tocmp, ↓Ev.q_totru, ↓Ev.b_addS, ↓Ev.b_addL, ↓Ev.b_addTQ, ↓Ev.q_setK, ↓Ev.q_while, Ev.VarQ_some, Ev.LifQ_some, Ev.LibQ_some, Ev.IfQ_t, Ev.IfQ_f, Ev.AndQ_some, Ev.SqQ_some, Ev.StoQ_some, Ev.EnQ_some, Ev.C2Q_bl, Ev.CelQ_some, Ev.OrdQ_some, Ev.FmtQ_some, Ev.ParQ_2, Ev.b_add, Ev.b_sub, Ev.c_lt, Ev.c_le, Ev.c_gt, Ev.c_ge, Ev.c_eq, Ev.c_ne, Ev.bl_of, Ev.v_neg, Ev.t_bl, Ev.t_int, Ev.t_tup, Ev.t_lst, Ev.t_non, Ev.ix_tup, Ev.ix_lst, Ev.ix_scr, Ev.at_0, Ev.at_1, Ev.at_2, Ev.l_tup, Ev.l_lst, Ev.len_blt, Ev.abs_blt, Ev.max_blt, Ev.min_blt, Ev.int_blt, Ev.tup_blt, Ev.lst_blt, Ev.gcd_int, Ev.seq_tup, Ev.seq_lst, Ev.seq_scr, Ev.ps0, Ev.ps1, Ev.ps2, Ev.ps3, Ev.ps4, Ev.ps5, Option.map_some, Option.map_none, List.getElem?_cons_zero, List.getElem?_cons_succ, List.set_cons_zero, List.set_cons_succ, List.map_cons, List.map_nil, List.cons_append, List.nil_append, List.length_cons, List.length_nil, List.length_set, List.replicate_succ, List.replicate_zero, Nat.reduceAdd, Nat.reduceSub, Nat.reduceLT, Nat.reduceLeDiff, Nat.sub_self, Ev.take_all, Ev.take_setS, Ev.take_app, Ev.take_setapp, Ev.ObQ_obj, Ev.TxQ_str, Ev.noex_ok, Ev.txtB_ok, Ev.truB_ok, Ev.notB_ok, Ev.ok_obj, Ev.ok_int, Ev.ok_str, Ev.ok_tup, Ev.ok_non, Ev.b_pow18, Ev.cut_tup, Ev.cut_lst, Ev.cut_scr, Ev.rev_tup, Ev.as_tup1, List.set_set, Ev.wipeE, Ev.asg_nm, Ev.asg_tp, Ev.asgs_nil, Ev.asgs_c1, $ls,*])
  | `(tactic| simp_arith [$ls,*] at $h:ident) => `(tactic| simp only [↓Ev.q_var, ↓Ev.q_glo, ↓Ev.q_cst, ↓Ev.q_bin, ↓Ev.q_neg, ↓Ev.q_cmp, ↓Ev.q_cmp2, ↓Ev.q_and, ↓Ev.q_and1, ↓Ev.q_andm, ↓Ev.q_or, ↓Ev.q_or1, ↓Ev.q_orm, ↓Ev.q_not, ↓Ev.q_ite, ↓Ev.q_blt, ↓Ev.q_gcd, ↓Ev.q_call, ↓Ev.q_make, ↓Ev.q_callK, ↓Ev.q_makeK, ↓Ev.q_tup, ↓Ev.q_lst, ↓Ev.q_cel, ↓Ev.q_idx, ↓Ev.q_sli, ↓Ev.q_app, ↓Ev.q_isi, ↓Ev.q_repr, ↓Ev.q_fld, ↓Ev.q_isc, ↓Ev.q_isx, ↓Ev.q_isb, ↓Ev.q_erf, ↓Ev.q_rev, ↓Ev.q_fstr, ↓Ev.q_fnil, ↓Ev.q_ftxt, ↓Ev.q_fval, ↓Ev.q_nil, ↓Ev.q_cons, ↓Ev.q_no, ↓Ev.q_so, ↓Ev.q_tru, ↓Ev.q_tcmp, ↓Ev.q_tcmp2, ↓Ev.q_tnot, ↓Ev.q_tand, ↓Ev.q_tor, ↓Ev.q_tand1, ↓Ev.q_tor1, ↓Ev.q_tandm, ↓Ev.q_torm, ↓Ev.q_cno, ↓Ev.q_cso, ↓Ev.q_iseq, ↓Ev.q_rng1, ↓Ev.q_rng2, ↓Ev.q_zip, ↓Ev.q_enum, ↓Ev.q_snil, ↓Ev.q_scons, ↓Ev.q_pass, ↓Ev.q_brk, ↓Ev.q_cont, ↓Ev.q_ret, ↓Ev.q_retN, ↓Ev.q_raise, ↓Ev.q_if, ↓Ev.q_set, ↓Ev.q_asg, ↓Ev.q_drop, ↓Ev.q_par, ↓Ev.q_for, ↓Ev.q_setI, ↓Ev.q_setIN, ↓Ev.q_augI, ↓Ev.q_emp, ↓Ev.q_addC, ↓Ev.q_lidx, ↓Ev.q_lcnt, ↓Ev.AddQ_some, ↓Ev.W_ok, ↓Ev.SeqQ_nx, ↓Ev.SeqQ_rt, ↓Ev.SeqQ_bk, ↓Ev.SeqQ_ct, ↓Ev.OutQ_nx, ↓Ev.OutQ_rt, ↓Ev.TrQ_p, ↓Ev.VarQ_some, ↓Ev.LifQ_some, ↓Ev.LibQ_some, ↓Ev.IfQ_t, ↓Ev.IfQ_f, ↓Ev.AndQ_some, ↓Ev.SqQ_some, ↓Ev.StoQ_some, ↓Ev.EnQ_some, ↓Ev.C2Q_bl, ↓Ev.CelQ_some, ↓Ev.FmtQ_some, ↓Ev.ParQ_2, ↓Ev.b_mul, ↓Ev.b_div, ↓Ev.b_mod, ↓Ev.dm_blt, ↓Ev.f_int, ↓Ev.f_str, ↓Ev.s_int, ↓Ev.q_comp, ↓Ev.q_prop, ↓Ev.q_ostr, ↓Ev.q_orepr, ↓Ev.q_ocmpT, ↓Ev.q_ocmpF, ↓Ev.q_join, ↓Ev.q_tocmp, ↓Ev.q_totru, ↓Ev.b_addS, ↓Ev.b_addL, ↓Ev.b_addTQ, ↓Ev.q_setK, ↓Ev.q_while, Ev.VarQ_some, Ev.LifQ_some, Ev.LibQ_some, Ev.IfQ_t, Ev.IfQ_f, Ev.AndQ_some, Ev.SqQ_some, Ev.StoQ_some, Ev.EnQ_some, Ev.C2Q_bl, Ev.CelQ_some, Ev.OrdQ_some, Ev.FmtQ_some, Ev.ParQ_2, Ev.b_add, Ev.b_sub, Ev.c_lt, Ev.c_le, Ev.c_gt, Ev.c_ge, Ev.c_eq, Ev.c_ne, Ev.bl_of, Ev.v_neg, Ev.t_bl, Ev.t_int, Ev.t_tup, Ev.t_lst, Ev.t_non, Ev.ix_tup, Ev.ix_lst, Ev.ix_scr, Ev.at_0, Ev.at_1, Ev.at_2, Ev.l_tup, Ev.l_lst, Ev.len_blt, Ev.abs_blt, Ev.max_blt, Ev.min_blt, Ev.int_blt, Ev.tup_blt, Ev.lst_blt, Ev.gcd_int, Ev.seq_tup, Ev.seq_lst, Ev.seq_scr, Ev.ps0, Ev.ps1, Ev.ps2, Ev.ps3, Ev.ps4, Ev.ps5, Option.map_some, Option.map_none, List.getElem?_cons_zero, List.getElem?_cons_succ, List.set_cons_zero, List.set_cons_succ, List.map_cons, List.map_nil, List.cons_append, List.nil_append, List.length_cons, List.length_nil, List.length_set, List.replicate_succ, List.replicate_zero, Nat.reduceAdd, Nat.reduceSub, Nat.reduceLT, Nat.reduceLeDiff, Nat.sub_self, Ev.take_all, Ev.take_setS, Ev.take_app, Ev.take_setapp, Ev.ObQ_obj, Ev.TxQ_str, Ev.noex_ok, Ev.txtB_ok, Ev.truB_ok, Ev.notB_ok, Ev.ok_obj, Ev.ok_int, Ev.ok_str, Ev.ok_tup, Ev.ok_non, Ev.b_pow18, Ev.cut_tup, Ev.cut_lst, Ev.cut_scr, Ev.rev_tup, Ev.as_tup1, List.set_set, Ev.wipeE, Ev.asg_nm, Ev.asg_tp, Ev.asgs_nil, Ev.asgs_c1, $ls,*] at $h:ident)
/-! drawn quotes: all -/
namespace La
open PySem Ev L2 Lt Lb
section
variable {T : Tab} (J : Jr T) {S : Sto} {n B : Nat} {j : List P}
theorem get_app {X : Sto} {j2 : List P} (hn : n < S.length) : (S.set n j2 ++ X)[n]? = some j2 := by
  rw [List.getElem?_append_left (by simpa using hn), List.getElem?_set_self hn]
theorem set_app {X : Sto} {j2 j3 : List P} (hn : n < S.length) : (S.set n j2 ++ X).set n j3 = S.set n j3 ++ X := by
  rw [List.set_append_left _ _ (by simpa using hn), List.set_set]
theorem set_same (h : S[n]? = some j) : S.set n j = S := by
  obtain ⟨h1, h2⟩ := List.getElem?_eq_some_iff.mp h
  rw [← h2, List.set_getElem_self]
include J
theorem quotes {k m : Nat} {s : Int} (h : S[n]? = some j) (hj : Jar (B + m * (k + 4) + k + 2) j) (h0 : 0 < k) (hk : k ≤ 6) (hm : m ≤ 100) (hs0 : 0 ≤ s) (hs : s < 1000) :
    W (T "_law_quotes" [.c n, .p (.int k), .p (.int m), .p (.int s)] S) (fun u S' => ∃ (qs : List Qt) (j' : List P), u = .p (qsP qs) ∧ qs.length = m ∧ (∀ q ∈ qs, GS k q) ∧ Jar B j' ∧ S' = S.set n j') NoX := by
  have hn : n < S.length := (List.getElem?_eq_some_iff.mp h).1
  rw [J.quotes]
  refine W_def ?_
  simp only [t__law_quotes]
  simp_arith []
  refine W_use (chance J.toJ0 (B := B + m * (k + 4)) h hj h0 hk) fun u S1 z => ?_
  obtain ⟨ps, w, j1, hu, z⟩ := z
  obtain ⟨hps, hp, hw1, hw2, z⟩ := z
  obtain ⟨hw3, hj1, hs⟩ := z
  subst hu
  subst hs
  simp_arith [rng_s (show m < 1000000 by omega)]
  let I : List P → En → Sto → Prop := fun r ρ S' => ∃ (qs : List Qt) (j' : List P) (u6 u7 u8 u9 u10 : Option U), S' = S.set n j' ++ [qs.map qP] ∧ qs.length + r.length = m ∧ (∀ q ∈ qs, GS k q) ∧ Jar (B + r.length * (k + 4)) j' ∧
    ρ = [some (.c n), some (.p (.int k)), some (.p (.int m)), some (.p (.int s)), some (.p (chP ps w)), some (.c S.length), u6, u7, u8, u9, u10]
  have i0 : I ((List.range m).map fun i => P.int (i : Nat)) [some (.c n), some (.p (.int k)), some (.p (.int m)), some (.p (.int s)), some (.p (chP ps w)), some (.c S.length), none, none, none, none, none] (S.set n j1 ++ [[]]) := ⟨[], j1, none, none, none, none, none, rfl, by simp, by simp, by simpa using hj1, rfl⟩
  refine W_forL I _ _ _ i0 ?_ ?_
  · rintro x r ρ S' ⟨qs, j2, u6, u7, u8, u9, u10, rfl, hl, hg, hj2, rfl⟩
    have hj2 : Jar (B + r.length * (k + 4) + k + 4) j2 := hj2.less (by rw [List.length_cons, Nat.add_mul]; omega)
    refine ⟨_, rfl, ?_⟩
    simp_arith []
    refine W_use (one_of J.toJ0 (B := B + r.length * (k + 4) + k + 3) (get_app hn) hj2 (by simp) (by simp)) fun u S1 z => ?_
    obtain ⟨x1, j3, rfl, hx1, hj3, rfl⟩ := z
    rw [set_app hn]
    obtain ⟨t, rfl, ht0, ht⟩ : ∃ t : Int, x1 = .int t ∧ 0 ≤ t ∧ t ≤ 5 := by
      simp only [List.mem_cons, List.not_mem_nil, or_false] at hx1
      rcases hx1 with rfl | rfl | rfl | rfl <;> exact ⟨_, rfl, by decide, by decide⟩
    refine W_use (payoff J.toJ0 (B := B + r.length * (k + 4) + 3) (get_app hn) (hj3.less (by omega)) (by omega) ht0 (by omega)) fun u S1 z => ?_
    obtain ⟨xs, j4, rfl, hxl, hx, hj4, rfl⟩ := z
    rw [set_app hn]
    have hx : ∀ x ∈ xs, x.natAbs ≤ 5 := fun y hy => by have := hx y hy; omega
    simp_arith [worthC J hxl hps hk hw2 hw3 hx hp]
    refine W_use (one_of J.toJ0 (B := B + r.length * (k + 4) + 2) (get_app hn) hj4 (by simp) (by simp)) fun u S1 z => ?_
    obtain ⟨x2, j5, rfl, hx2, hj5, rfl⟩ := z
    rw [set_app hn]
    obtain ⟨l, rfl, hl0, hl5⟩ : ∃ l : Int, x2 = .int l ∧ 0 ≤ l ∧ l ≤ 5 := by
      simp only [List.mem_cons, List.not_mem_nil, or_false] at hx2
      rcases hx2 with rfl | rfl | rfl | rfl | rfl <;> exact ⟨_, rfl, by decide, by decide⟩
    have hwn : (mkRat (dot xs ps) w).num.natAbs ≤ 240 ∧ (mkRat (dot xs ps) w).den ≤ 48 := by
      obtain ⟨m1, m2⟩ := mk_le (a := dot xs ps) (n := w) (by omega)
      have := dot_le xs ps hx hp
      have := Nat.le_of_dvd (by omega) m2
      omega
    have tail : ∀ (j6 : List P) (l : Int), l.natAbs ≤ 5 → Jar (B + r.length * (k + 4)) j6 → W (dS T tailQ [some (.c n), some (.p (.int k)), some (.p (.int m)), some (.p (.int s)), some (.p (chP ps w)), some (.c S.length), some (.p x), some (.p (inP' xs)), some (.p (.int (mkRat (dot xs ps) w).num)), some (.p (.int (mkRat (dot xs ps) w).den)), some (.p (.int l))] (S.set n j6 ++ [qs.map qP]))
        (ForQ (I r) (srcOk ⟨(List.range m).map fun i => P.int (i : Nat), none⟩) (SeqQ (dS T (.cons (.ret (.blt .tuple (.cons (.var 5) .nil))) .nil)) (OutQ (TrQ S.length fun u S' => ∃ (qs : List Qt) (j' : List P), u = .p (qsP qs) ∧ qs.length = m ∧ (∀ q ∈ qs, GS k q) ∧ Jar B j' ∧ S' = S.set n j')) fun x S' => NoX x (S'.take S.length))) NoX := by
      intro j6 l hl' hj6
      refine tailOk J hn hwn.1 hwn.2 hl' (by simp at hl; omega) hxl hx fun price g => ?_
      refine ⟨srcOk_nn, qs ++ [(xs, price)], j6, _, _, _, _, _, rfl, by simp at hl ⊢; omega, ?_, hj6, rfl⟩
      intro q hq
      rcases List.mem_append.mp hq with hq | hq
      · exact hg q hq
      · rw [List.mem_singleton] at hq
        rw [hq]; exact g
    try simp_arith []
    refine if_q (fun z => ?_) fun z => ?_
    · try simp_arith []
      have z : 0 < s := of_decide_eq_true z
      refine W_use (dipJ J.toJ0 (B := B + r.length * (k + 4) + 1) (get_app hn) hj5 z (by omega)) fun u S1 z => ?_
      obtain ⟨d, j6, rfl, d0, d1, hj6, rfl⟩ := z
      rw [set_app hn]
      try simp_arith []
      refine if_q (fun z => ?_) fun z => ?_
      · try simp_arith []
        refine W_use (dipJ J.toJ0 (B := B + r.length * (k + 4)) (get_app hn) hj6 (by omega) (by omega)) fun u S1 z => ?_
        obtain ⟨d2, j7, rfl, d20, d21, hj7, rfl⟩ := z
        rw [set_app hn]
        try simp_arith []
        have t := fun l hl => tail j7 l hl hj7
        simp_arith [tailQ] at t
        exact t _ (by omega)
      · try simp_arith []
        have t := fun l hl => tail j6 l hl (hj6.less (by omega))
        simp_arith [tailQ] at t
        exact t _ (by omega)
    · try simp_arith []
      have t := fun l hl => tail j5 l hl (hj5.less (by omega))
      simp_arith [tailQ] at t
      exact t _ (by omega)
  · rintro ρ S' ⟨qs, j2, u6, u7, u8, u9, u10, rfl, hl, hg, hj2, rfl⟩
    simp_arith [tup_c (S := S.set n j2 ++ [qs.map qP]) (n := S.length) (l := qs.map qP) (by simp)]
    exact ⟨qs, j2, rfl, by simpa using hl, hg, by simpa using hj2, rfl⟩
end
end La
end
section
set_option Elab.async false
set_option linter.all false
set_option maxRecDepth 10000
set_option maxHeartbeats 400000
local macro_rules
  | `(tactic| simp_arith [$ls,*]) => `(tactic| simp only [↓Ev.q_var, ↓Ev.q_glo, ↓Ev.q_cst, ↓Ev.q_bin, ↓Ev.q_neg, ↓Ev.q_cmp, ↓Ev.q_cmp2, ↓Ev.q_and, ↓Ev.q_and1, ↓Ev.q_andm, ↓Ev.q_or, ↓Ev.q_or1, ↓Ev.q_orm, ↓Ev.q_not, ↓Ev.q_ite, ↓Ev.q_blt, ↓Ev.q_gcd, ↓Ev.q_call, ↓Ev.q_make, ↓Ev.q_callK, ↓Ev.q_makeK, ↓Ev.q_tup, ↓Ev.q_lst, ↓Ev.q_cel, ↓Ev.q_idx, ↓Ev.q_sli, ↓Ev.q_app, ↓Ev.q_isi, ↓Ev.q_repr, ↓Ev.q_fld, ↓Ev.q_isc, ↓Ev.q_isx, ↓Ev.q_isb, ↓Ev.q_erf, ↓Ev.q_rev, ↓Ev.q_fstr, ↓Ev.q_fnil, ↓Ev.q_ftxt, ↓Ev.q_fval, ↓Ev.q_nil, ↓Ev.q_cons, ↓Ev.q_no, ↓Ev.q_so, ↓Ev.q_tru, ↓Ev.q_tcmp, ↓Ev.q_tcmp2, ↓Ev.q_tnot, ↓Ev.q_tand, ↓Ev.q_tor, ↓Ev.q_tand1, ↓Ev.q_tor1, ↓Ev.q_tandm, ↓Ev.q_torm, ↓Ev.q_cno, ↓Ev.q_cso, ↓Ev.q_iseq, ↓Ev.q_rng1, ↓Ev.q_rng2, ↓Ev.q_zip, ↓Ev.q_enum, ↓Ev.q_snil, ↓Ev.q_scons, ↓Ev.q_pass, ↓Ev.q_brk, ↓Ev.q_cont, ↓Ev.q_ret, ↓Ev.q_retN, ↓Ev.q_raise, ↓Ev.q_if, ↓Ev.q_set, ↓Ev.q_asg, ↓Ev.q_drop, ↓Ev.q_par, ↓Ev.q_for, ↓Ev.q_setI, ↓Ev.q_setIN, ↓Ev.q_augI, ↓Ev.q_emp, ↓Ev.q_addC, ↓Ev.q_lidx, ↓Ev.q_lcnt, ↓Ev.AddQ_some, ↓Ev.W_ok, ↓Ev.SeqQ_nx, ↓Ev.SeqQ_rt, ↓Ev.SeqQ_bk, ↓Ev.SeqQ_ct, ↓Ev.OutQ_nx, ↓Ev.OutQ_rt, ↓Ev.TrQ_p, ↓Ev.VarQ_some, ↓Ev.LifQ_some, ↓Ev.LibQ_some, ↓Ev.IfQ_t, ↓Ev.IfQ_f, ↓Ev.AndQ_some, ↓Ev.SqQ_some, ↓Ev.StoQ_some, ↓Ev.EnQ_some, ↓Ev.C2Q_bl, ↓Ev.CelQ_some, ↓Ev.FmtQ_some, ↓Ev.ParQ_2, ↓Ev.b_mul, ↓Ev.b_div, ↓Ev.b_mod, ↓Ev.dm_blt, ↓Ev.f_int, ↓Ev.f_str, ↓Ev.s_int, ↓Ev.q_comp, ↓Ev.q_prop, ↓Ev.q_ostr, ↓Ev.q_orepr, ↓Ev.q_ocmpT, ↓Ev.q_ocmpF, ↓Ev.q_join, ↓Ev.q_tocmp, ↓Ev.q_totru, ↓Ev.b_addS, ↓Ev.b_addL, ↓Ev.b_addTQ, ↓Ev.q_setK, ↓Ev.q_while, Ev.VarQ_some, Ev.LifQ_some, Ev.LibQ_some, Ev.IfQ_t, Ev.IfQ_f, Ev.AndQ_some, Ev.SqQ_some, Ev.StoQ_some, Ev.EnQ_some, Ev.C2Q_bl, Ev.CelQ_some, Ev.OrdQ_some, Ev.FmtQ_some, Ev.ParQ_2, Ev.b_add, Ev.b_sub, Ev.c_lt, Ev.c_le, Ev.c_gt, Ev.c_ge, Ev.c_eq, Ev.c_ne, Ev.bl_of, Ev.v_neg, Ev.t_bl, Ev.t_int, Ev.t_tup, Ev.t_lst, Ev.t_non, Ev.ix_tup, Ev.ix_lst, Ev.ix_scr, Ev.at_0, Ev.at_1, Ev.at_2, Ev.l_tup, Ev.l_lst, Ev.len_blt, Ev.abs_blt, Ev.max_blt, Ev.min_blt, Ev.int_blt, Ev.tup_blt, Ev.lst_blt, Ev.gcd_int, Ev.seq_tup, Ev.seq_lst, Ev.seq_scr, Ev.ps0, Ev.ps1, Ev.ps2, Ev.ps3, Ev.ps4, Ev.ps5, Option.map_some, Option.map_none, List.getElem?_cons_zero, List.getElem?_cons_succ, List.set_cons_zero, List.set_cons_succ, List.map_cons, List.map_nil, List.cons_append, List.nil_append, List.length_cons, List.length_nil, List.length_set, List.replicate_succ, List.replicate_zero, Nat.reduceAdd, Nat.reduceSub, Nat.reduceLT, Nat.reduceLeDiff, Nat.sub_self, Ev.take_all, Ev.take_setS, Ev.take_app, Ev.take_setapp, Ev.ObQ_obj, Ev.TxQ_str, Ev.noex_ok, Ev.txtB_ok, Ev.truB_ok, Ev.notB_ok, Ev.ok_obj, Ev.ok_int, Ev.ok_str, Ev.ok_tup, Ev.ok_non, Ev.b_pow18, Ev.cut_tup, Ev.cut_lst, Ev.cut_scr, Ev.rev_tup, Ev.as_tup1, List.set_set, Ev.wipeE, Ev.asg_nm, Ev.asg_tp, Ev.asgs_nil, Ev.asgs_c1, $ls,*])
  | `(tactic| simp_arith [$ls,*] at $h:ident) => `(tactic| simp only [↓Ev.q_var, ↓Ev.q_glo, ↓Ev.q_cst, ↓Ev.q_bin, ↓Ev.q_neg, ↓Ev.q_cmp, ↓Ev.q_cmp2, ↓Ev.q_and, ↓Ev.q_and1, ↓Ev.q_andm, ↓Ev.q_or, ↓Ev.q_or1, ↓Ev.q_orm, ↓Ev.q_not, ↓Ev.q_ite, ↓Ev.q_blt, ↓Ev.q_gcd, ↓Ev.q_call, ↓Ev.q_make, ↓Ev.q_callK, ↓Ev.q_makeK, ↓Ev.q_tup, ↓Ev.q_lst, ↓Ev.q_cel, ↓Ev.q_idx, ↓Ev.q_sli, ↓Ev.q_app, ↓Ev.q_isi, ↓Ev.q_repr, ↓Ev.q_fld, ↓Ev.q_isc, ↓Ev.q_isx, ↓Ev.q_isb, ↓Ev.q_erf, ↓Ev.q_rev, ↓Ev.q_fstr, ↓Ev.q_fnil, ↓Ev.q_ftxt, ↓Ev.q_fval, ↓Ev.q_nil, ↓Ev.q_cons, ↓Ev.q_no, ↓Ev.q_so, ↓Ev.q_tru, ↓Ev.q_tcmp, ↓Ev.q_tcmp2, ↓Ev.q_tnot, ↓Ev.q_tand, ↓Ev.q_tor, ↓Ev.q_tand1, ↓Ev.q_tor1, ↓Ev.q_tandm, ↓Ev.q_torm, ↓Ev.q_cno, ↓Ev.q_cso, ↓Ev.q_iseq, ↓Ev.q_rng1, ↓Ev.q_rng2, ↓Ev.q_zip, ↓Ev.q_enum, ↓Ev.q_snil, ↓Ev.q_scons, ↓Ev.q_pass, ↓Ev.q_brk, ↓Ev.q_cont, ↓Ev.q_ret, ↓Ev.q_retN, ↓Ev.q_raise, ↓Ev.q_if, ↓Ev.q_set, ↓Ev.q_asg, ↓Ev.q_drop, ↓Ev.q_par, ↓Ev.q_for, ↓Ev.q_setI, ↓Ev.q_setIN, ↓Ev.q_augI, ↓Ev.q_emp, ↓Ev.q_addC, ↓Ev.q_lidx, ↓Ev.q_lcnt, ↓Ev.AddQ_some, ↓Ev.W_ok, ↓Ev.SeqQ_nx, ↓Ev.SeqQ_rt, ↓Ev.SeqQ_bk, ↓Ev.SeqQ_ct, ↓Ev.OutQ_nx, ↓Ev.OutQ_rt, ↓Ev.TrQ_p, ↓Ev.VarQ_some, ↓Ev.LifQ_some, ↓Ev.LibQ_some, ↓Ev.IfQ_t, ↓Ev.IfQ_f, ↓Ev.AndQ_some, ↓Ev.SqQ_some, ↓Ev.StoQ_some, ↓Ev.EnQ_some, ↓Ev.C2Q_bl, ↓Ev.CelQ_some, ↓Ev.FmtQ_some, ↓Ev.ParQ_2, ↓Ev.b_mul, ↓Ev.b_div, ↓Ev.b_mod, ↓Ev.dm_blt, ↓Ev.f_int, ↓Ev.f_str, ↓Ev.s_int, ↓Ev.q_comp, ↓Ev.q_prop, ↓Ev.q_ostr, ↓Ev.q_orepr, ↓Ev.q_ocmpT, ↓Ev.q_ocmpF, ↓Ev.q_join, ↓Ev.q_tocmp, ↓Ev.q_totru, ↓Ev.b_addS, ↓Ev.b_addL, ↓Ev.b_addTQ, ↓Ev.q_setK, ↓Ev.q_while, Ev.VarQ_some, Ev.LifQ_some, Ev.LibQ_some, Ev.IfQ_t, Ev.IfQ_f, Ev.AndQ_some, Ev.SqQ_some, Ev.StoQ_some, Ev.EnQ_some, Ev.C2Q_bl, Ev.CelQ_some, Ev.OrdQ_some, Ev.FmtQ_some, Ev.ParQ_2, Ev.b_add, Ev.b_sub, Ev.c_lt, Ev.c_le, Ev.c_gt, Ev.c_ge, Ev.c_eq, Ev.c_ne, Ev.bl_of, Ev.v_neg, Ev.t_bl, Ev.t_int, Ev.t_tup, Ev.t_lst, Ev.t_non, Ev.ix_tup, Ev.ix_lst, Ev.ix_scr, Ev.at_0, Ev.at_1, Ev.at_2, Ev.l_tup, Ev.l_lst, Ev.len_blt, Ev.abs_blt, Ev.max_blt, Ev.min_blt, Ev.int_blt, Ev.tup_blt, Ev.lst_blt, Ev.gcd_int, Ev.seq_tup, Ev.seq_lst, Ev.seq_scr, Ev.ps0, Ev.ps1, Ev.ps2, Ev.ps3, Ev.ps4, Ev.ps5, Option.map_some, Option.map_none, List.getElem?_cons_zero, List.getElem?_cons_succ, List.set_cons_zero, List.set_cons_succ, List.map_cons, List.map_nil, List.cons_append, List.nil_append, List.length_cons, List.length_nil, List.length_set, List.replicate_succ, List.replicate_zero, Nat.reduceAdd, Nat.reduceSub, Nat.reduceLT, Nat.reduceLeDiff, Nat.sub_self, Ev.take_all, Ev.take_setS, Ev.take_app, Ev.take_setapp, Ev.ObQ_obj, Ev.TxQ_str, Ev.noex_ok, Ev.txtB_ok, Ev.truB_ok, Ev.notB_ok, Ev.ok_obj, Ev.ok_int, Ev.ok_str, Ev.ok_tup, Ev.ok_non, Ev.b_pow18, Ev.cut_tup, Ev.cut_lst, Ev.cut_scr, Ev.rev_tup, Ev.as_tup1, List.set_set, Ev.wipeE, Ev.asg_nm, Ev.asg_tp, Ev.asgs_nil, Ev.asgs_c1, $ls,*] at $h:ident)
namespace Ev
open PySem L2
theorem ite_F {c : Prop} [Decidable c] {p : Prop} : (if c then p else False) = (c ∧ p) := by
  by_cases h : c
  · rw [if_pos h]; exact propext ⟨fun z => ⟨h, z⟩, fun z => z.2⟩
  · rw [if_neg h]; exact propext ⟨fun z => z.elim, fun z => (h z.1).elim⟩
theorem W_mapL {A : Type} {T : Tab} {E : Xn → Sto → Prop} {cell : Bool} {own : List Nat} {elt : FE} {tg : Tg} {it : FI} {ρ : En} {S : Sto} {Q : U → Sto → Prop} (l : List A) (f h : A → P)
    (hi : W (it ρ S) (fun q S2 => q = ⟨l.map f, none⟩ ∧ S2 = S) NoX) (hl : l.length < 1000000)
    (hs : ∀ a ∈ l, ∀ acc, ∃ ρ1, asg tg (f a) (wipeE ρ own) = some ρ1 ∧ W (elt ρ1 (S ++ [acc])) (fun u S3 => u = .p (h a) ∧ S3 = S ++ [acc]) NoX)
    (he : if cell = true then Q (.c S.length) (S ++ [l.map h]) else Q (.p (.lst (l.map h))) S) : W (fComp cell own elt tg it (dC T .no) ρ S) Q E := by
  refine W_compA (l.map f) (fun r acc S' => S' = S ∧ ∃ l1 l2, l = l1 ++ l2 ∧ r = l2.map f ∧ acc = l1.map h) S hi ⟨rfl, [], l, rfl, rfl, rfl⟩ (by simpa using hl) ?_ ?_
  · rintro x r acc S' ⟨rfl, l1, l2, e, hr, rfl⟩ _
    cases l2 with
    | nil => cases hr
    | cons a l2 =>
      obtain ⟨rfl, rfl⟩ := List.cons.inj hr
      obtain ⟨ρ1, e1, h1⟩ := hs a (by rw [e]; simp) (l1.map h)
      refine ⟨ρ1, e1, W_imp h1 fun u S3 z => ?_⟩
      obtain ⟨rfl, rfl⟩ := z
      exact ⟨_, _, rfl, rfl, rfl, rfl, l1 ++ [a], l2, by rw [e]; simp, rfl, by simp⟩
  · rintro acc S' ⟨rfl, l1, l2, e, hr, rfl⟩ _
    have : l2 = [] := by cases l2 with
      | nil => rfl
      | cons _ _ => cases hr
    subst this
    rw [List.append_nil] at e
    subst e
    exact he
end Ev
/-! texts of books, books -/
namespace Lb
open PySem Ev L2 Lt
def quoS (q : Qt) : Str := Txt.join "," (q.1.map dec) ++ ">=" ++ dec q.2.num ++ "/" ++ dec q.2.den
def pageS (n : Int) (qs : List Qt) : Str := Txt.join " " ((dec n ++ ":") :: qs.map quoS)
theorem dec_len {i : Int} (h : i.natAbs < 10 ^ 12) : (dec i).length ≤ 13 := by
  have := PyData.shown_int_le h
  rwa [PyData.shown_int] at this
theorem sum_len {l : List Str} {c : Nat} (h : ∀ x ∈ l, x.length ≤ c) : (l.map (·.length)).sum ≤ l.length * c := by
  induction l with
  | nil => simp
  | cons a l ih =>
    have := ih fun x z => h x (List.mem_cons_of_mem _ z)
    have := h a (by simp)
    simp only [List.map_cons, List.sum_cons, List.length_cons, Nat.add_mul]
    omega
theorem join_len {sep : Str} {l : List Str} {c : Nat} (h : ∀ x ∈ l, x.length ≤ c) : (Txt.join sep l).length ≤ l.length * c + l.length * sep.length := by
  unfold Txt.join
  rw [StrLaws.glued_eq_join]
  exact Nat.le_trans (StrLaws.join_length_le _ _) (Nat.add_le_add_right (sum_len h) _)
theorem nums_len {k : Nat} {q : Qt} (h : GQ k q) (hk : k ≤ 6) : (Txt.join "," (q.1.map dec)).length ≤ 84 := by
  obtain ⟨h1, h2, h3, h4⟩ := h
  have := join_len (sep := ",") (l := q.1.map dec) (c := 13) fun x hx => by
    obtain ⟨i, hi, rfl⟩ := List.mem_map.mp hx
    have := h2 i hi
    exact dec_len (by omega)
  have e : (("," : String) : Str).length = 1 := by decide +kernel
  rw [e, List.length_map, h1] at this
  omega
theorem quoS_len {k : Nat} {q : Qt} (h : GQ k q) (hk : k ≤ 6) : (quoS q).length ≤ 120 := by
  have h0 := nums_len h hk
  obtain ⟨h1, h2, h3, h4⟩ := h
  have a := dec_len (i := q.2.num) (by omega)
  have b := dec_len (i := q.2.den) (by omega)
  unfold quoS
  rw [strLen_append, strLen_append, strLen_append, strLen_append]
  have e : ((">=" : String) : Str).length = 2 := by decide +kernel
  have e2 : (("/" : String) : Str).length = 1 := by decide +kernel
  omega
structure Bk (T : Tab) : Prop extends Kd T where
  fraction_text : T "fraction_text" = fDef 3 (dS T t_fraction_text.body)
  payoff_text : T "payoff_text" = fDef 3 (dS T t_payoff_text.body)
  book_words : T "book_words" = fDef 6 (dS T t_book_words.body)
  init : T "Book.__init__" = fun us S => lift (makeP (initR T 2 3 [.ex (.call "check_outcomes" (.cons (.var 1) .nil)), .ex (.call "check_quotes" (.cons (.var 2) (.cons (.var 1) .nil))), .fld "_outcomes" 1, .fld "_quotes" 2]) "Book" 2 us) S
  outcomes : T "Book.outcomes" = fDef 1 (dS T t_Book_outcomes.body)
  quotes : T "Book.quotes" = fDef 1 (dS T t_Book_quotes.body)
  str : T "Book.__str__" = fDef 1 (dS T t_Book___str__.body)
  repr : T "Book.__repr__" = fDef 1 (dS T t_Book___repr__.body)
  eq : T "Book.__eq__" = fDef 2 (dS T t_Book___eq__.body)
abbrev bkP (n : Int) (qs : List Qt) : P := .obj "Book" [("_outcomes", .int n), ("_quotes", qsP qs)]
theorem fld_out {n : Int} {qs : List Qt} {S : Sto} : fldP "Book" "_outcomes" (.p (bkP n qs)) S = some (.int n) := by rfl
theorem fld_quo {n : Int} {qs : List Qt} {S : Sto} : fldP "Book" "_quotes" (.p (bkP n qs)) S = some (qsP qs) := by rfl
theorem make2 {R : List P → Option (List (Str × Nat))} {c : Str} {a b : P} {fl : List (Str × Nat)} (h : R [a, b] = some fl) : makeP R c 2 [.p a, .p b] = (objI [a, b] fl).map (P.obj c) := by
  unfold makeP
  show (match R [a, b] with | some fl => (objI [a, b] fl).map (P.obj c) | none => none) = _
  rw [h]
/-- what a book is made of -/
structure GB (k : Nat) (qs : List Qt) : Prop where
  lo : 2 ≤ k
  hi : k ≤ 6
  q : ∀ q ∈ qs, GQ k q
  len : qs.length ≤ 32
section
variable {T : Tab} (K : Bk T) (S : Sto)
include K
theorem fraction_text {q : Rat} (h1 : q.num.natAbs ≤ 1000000) (h2 : q.den ≤ 1000) : T "fraction_text" [.p (frP q)] S = some (.ok (.p (.str (dec q.num ++ "/" ++ dec q.den))) S) := by
  rw [K.fraction_text]
  refine W_say (W_def ?_)
  simp only [t_fraction_text]
  have a := dec_len (i := q.num) (by omega)
  have b := dec_len (i := q.den) (by omega)
  have e2 : (("/" : String) : Str).length = 1 := by decide +kernel
  simp_arith [ite_F, Str.empty_append, strLen_append]
  refine ⟨strw (b := 30) (by omega) (by decide), by omega, by omega, strw (b := 30) (by omega) (by decide), by omega, ?_⟩
  (first | trivial | exact ⟨rfl, trivial⟩ | exact ⟨rfl, rfl⟩ | exact ⟨trivial, trivial⟩)
theorem payoff_text {k : Nat} {q : Qt} (h : GQ k q) (hk : k ≤ 6) : T "payoff_text" [.p (inP' q.1)] S = some (.ok (.p (.str (Txt.join "," (q.1.map dec)))) S) := by
  rw [K.payoff_text]
  refine W_say (W_def ?_)
  simp only [t_payoff_text]
  obtain ⟨h1, h2, h3, h4⟩ := h
  simp_arith []
  refine W_mapL q.1 .int (fun i => .str (dec i)) ?_ (by omega) ?_ ?_
  · simp_arith []
    (first | trivial | exact ⟨rfl, trivial⟩ | exact ⟨rfl, rfl⟩ | exact ⟨trivial, trivial⟩)
  · intro i hi acc
    refine ⟨_, rfl, ?_⟩
    simp_arith []
    have := h2 i hi
    refine ⟨strw (b := 30) (by omega) (by decide), ?_⟩
    (first | trivial | exact ⟨rfl, trivial⟩ | exact ⟨rfl, rfl⟩ | exact ⟨trivial, trivial⟩)
  · rw [if_neg (by decide)]
    have e : q.1.map (fun i => P.str (dec i)) = (q.1.map dec).map .str := by simp
    have l1 := sum_len (l := q.1.map dec) (c := 13) fun x hx => by
      obtain ⟨i, hi, rfl⟩ := List.mem_map.mp hx
      have := h2 i hi
      exact dec_len (by omega)
    have e1 : (("," : String) : Str).length = 1 := by decide +kernel
    rw [e]
    simp_arith [join_ok (x := ",") (ys := q.1.map dec) (S := S) (by rw [e1]; rw [List.length_map] at l1 ⊢; omega)]
    (first | trivial | exact ⟨rfl, trivial⟩ | exact ⟨rfl, rfl⟩ | exact ⟨trivial, trivial⟩)
theorem book_words {k : Nat} {qs : List Qt} (g : GB k qs) : T "book_words" [.p (.int k), .p (qsP qs)] S = some (.ok (.p (.lst (((dec k ++ ":") :: qs.map quoS).map .str))) S) := by
  rw [K.book_words]
  refine W_say (W_def ?_)
  simp only [t_book_words]
  have gl := g.len
  have gh := g.hi
  simp_arith []
  refine W_mapL qs qP (fun q => .str (quoS q)) ?_ (by omega) ?_ ?_
  · simp_arith []
    (first | trivial | exact ⟨rfl, trivial⟩ | exact ⟨rfl, rfl⟩ | exact ⟨trivial, trivial⟩)
  · intro q hq acc
    refine ⟨_, rfl, ?_⟩
    have gq := g.q q hq
    have n1 := nums_len gq gh
    have n2 := quoS_len gq gh
    obtain ⟨g1, g2, g3, g4⟩ := gq
    have a := dec_len (i := q.2.num) (by omega)
    have b := dec_len (i := q.2.den) (by omega)
    have e : ((">=" : String) : Str).length = 2 := by decide +kernel
    have e2 : (("/" : String) : Str).length = 1 := by decide +kernel
    simp_arith [payoff_text K _ (g.q q hq) gh, fraction_text K _ g3 g4, ite_F, Str.empty_append, strLen_append]
    refine ⟨by omega, by omega, by omega, by omega, by omega, ?_, trivial⟩
    simp only [quoS, Str.append_assoc]
  · rw [if_neg (by decide)]
    have b := dec_len (i := k) (by omega)
    have e : ((":" : String) : Str).length = 1 := by decide +kernel
    simp_arith [ite_F, Str.empty_append, strLen_append]
    refine ⟨strw (b := 30) (by omega) (by decide), by omega, by omega, by have := sizeLine_eq; (try simp only [List.length_map]); omega, ?_, trivial⟩
    simp
theorem bstr {k : Nat} {qs : List Qt} (g : GB k qs) : T "Book.__str__" [.p (bkP k qs)] S = some (.ok (.p (.str (pageS k qs))) S) := by
  rw [K.str]
  refine W_say (W_def ?_)
  simp only [t_Book___str__]
  have gl := g.len
  have gh := g.hi
  have l1 := sum_len (l := (dec k ++ ":") :: qs.map quoS) (c := 120) fun x hx => by
    rcases List.mem_cons.mp hx with rfl | hx
    · rw [strLen_append]
      have b := dec_len (i := k) (by omega)
      have e : ((":" : String) : Str).length = 1 := by decide +kernel
      omega
    · obtain ⟨q, hq, rfl⟩ := List.mem_map.mp hx
      exact quoS_len (g.q q hq) gh
  have e1 : ((" " : String) : Str).length = 1 := by decide +kernel
  simp_arith [fld_out, fld_quo]
  rw [book_words K S g, W_ok, join_ok (x := " ") (S := S) (by rw [e1]; simp only [List.length_cons, List.length_map] at l1 ⊢; omega)]
  simp_arith []
  (first | trivial | exact ⟨rfl, trivial⟩ | exact ⟨rfl, rfl⟩ | exact ⟨trivial, trivial⟩)
theorem brepr {k : Nat} {qs : List Qt} (hl : qs.length < 1000) : T "Book.__repr__" [.p (bkP k qs)] S = some (.ok (.p (.str ("Book of " ++ dec qs.length ++ " quotes"))) S) := by
  rw [K.repr]
  refine W_say (W_def ?_)
  simp only [t_Book___repr__]
  have b := dec_len (i := qs.length) (by omega)
  have e : (("Book of " : String) : Str).length = 8 := by decide +kernel
  have e2 : ((" quotes" : String) : Str).length = 7 := by decide +kernel
  simp_arith [fld_quo, ite_F, Str.empty_append, strLen_append, List.length_map, len_blt]
  refine ⟨by omega, strw (b := 30) (by omega) (by decide), by omega, by omega, ?_⟩
  (first | trivial | exact ⟨rfl, trivial⟩ | exact ⟨rfl, rfl⟩ | exact ⟨trivial, trivial⟩)
theorem bout {k : Int} {qs : List Qt} : T "Book.outcomes" [.p (bkP k qs)] S = some (.ok (.p (.int k)) S) := by
  rw [K.outcomes]
  refine W_say (W_def ?_)
  simp only [t_Book_outcomes]
  simp_arith [fld_out]
  (first | trivial | exact ⟨rfl, trivial⟩ | exact ⟨rfl, rfl⟩ | exact ⟨trivial, trivial⟩)
theorem bquo {k : Int} {qs : List Qt} : T "Book.quotes" [.p (bkP k qs)] S = some (.ok (.p (qsP qs)) S) := by
  rw [K.quotes]
  refine W_say (W_def ?_)
  simp only [t_Book_quotes]
  simp_arith [fld_quo]
  (first | trivial | exact ⟨rfl, trivial⟩ | exact ⟨rfl, rfl⟩ | exact ⟨trivial, trivial⟩)
theorem binit {k : Nat} {qs : List Qt} (g : GB k qs) : T "Book.__init__" [.p (.int k), .p (qsP qs)] S = some (.ok (.p (bkP k qs)) S) := by
  rw [K.init]
  have gl := g.len
  have gh := g.hi
  have e1 : dE T (.call "check_outcomes" (.cons (.var 1) .nil)) (envI 2 3 [.int k, qsP qs]) [] = some (.ok (.p .non) []) := W_say (by
    simp only [envI]
    simp_arith [check_outcomes K.toKd [] g.lo g.hi]
    (first | trivial | exact ⟨rfl, trivial⟩ | exact ⟨rfl, rfl⟩ | exact ⟨trivial, trivial⟩))
  have e2 : dE T (.call "check_quotes" (.cons (.var 2) (.cons (.var 1) .nil))) (envI 2 3 [.int k, qsP qs]) [] = some (.ok (.p .non) []) := W_say (by
    simp only [envI]
    simp_arith [check_quotes K.toKd [] g.q (by omega) gl]
    (first | trivial | exact ⟨rfl, trivial⟩ | exact ⟨rfl, rfl⟩ | exact ⟨trivial, trivial⟩))
  have e : initR T 2 3 [.ex (.call "check_outcomes" (.cons (.var 1) .nil)), .ex (.call "check_quotes" (.cons (.var 2) (.cons (.var 1) .nil))), .fld "_outcomes" 1, .fld "_quotes" 2] [.int k, qsP qs] = some [(("_outcomes" : Str), 1), (("_quotes" : Str), 2)] := by
    unfold initR runI
    rw [e1]
    dsimp only
    unfold runI
    rw [e2]
    rfl
  show lift (makeP _ "Book" 2 [.p (.int k), .p (qsP qs)]) S = _
  rw [make2 e]
  rfl
end
end Lb
end
section
set_option Elab.async false
set_option linter.all false
set_option maxRecDepth 10000
set_option maxHeartbeats 400000
/-! data that repr tells; texts of books told apart -/
namespace Lb
open PySem Ev L2 Lt
/-- all signs are signs -/
def Ok (s : Str) : Prop := ∀ c ∈ Lp.tl s, c < 0x110000
theorem Ok.strOk {s : Str} (h : Ok s) : PyData.strOk s = true := by
  unfold PyData.strOk
  rw [Array.all_eq_true']
  intro c hc
  exact decide_eq_true (h c (Array.mem_toList_iff.mpr hc))
theorem Ok.app {a b : Str} (h : Ok a) (h' : Ok b) : Ok (a ++ b) := fun c hc => by
  rw [Lp.tl_app] at hc
  rcases List.mem_append.mp hc with hc | hc
  · exact h c hc
  · exact h' c hc
theorem Ok.join {sep : Str} (hs : Ok sep) : ∀ {l : List Str}, (∀ x ∈ l, Ok x) → Ok (Str.join sep l)
  | [], _ => fun c hc => by cases hc
  | [x], h => h x (by simp)
  | x :: y :: r, h => by
    show Ok (x ++ sep ++ Str.join sep (y :: r))
    exact ((h x (by simp)).app hs).app (Ok.join hs fun z hz => h z (List.mem_cons_of_mem _ hz))
theorem Ok.txt {sep : Str} (hs : Ok sep) {l : List Str} (h : ∀ x ∈ l, Ok x) : Ok (Txt.join sep l) := by
  unfold Txt.join
  rw [StrLaws.glued_eq_join]
  exact Ok.join hs h
theorem tl_dec (i : Int) : Lp.tl (dec i) = Lp.decT i := Lp.tl_of _
theorem Ok.dec (i : Int) : Ok (dec i) := fun c hc => by
  rw [tl_dec] at hc
  by_cases h : c < 0x110000
  · exact h
  · exact (Lp.decT_free (c := c) ⟨by omega, by omega⟩ i hc).elim
theorem Ok.lit (s : String) (h : (Lp.tl (s : Str)).all (· < 0x110000) = true) : Ok (s : Str) := fun c hc => by
  have := List.all_eq_true.mp h c hc
  exact of_decide_eq_true this
theorem char_lt (c : Char) : c.toNat < 0x110000 := by
  have := c.valid
  show c.val.toNat < 0x110000
  unfold UInt32.isValidChar Nat.isValidChar at this
  omega
theorem hex_lt {w c x : Nat} (h : x ∈ List.replicate (w - ((Nat.toDigits 16 c).map Char.toNat).length) 48 ++ (Nat.toDigits 16 c).map Char.toNat) : x < 0x110000 := by
  rcases List.mem_append.mp h with h | h
  · have := (List.mem_replicate.mp h).2; omega
  · obtain ⟨d, _, rfl⟩ := List.mem_map.mp h
    exact char_lt d
theorem reprChar_lt {q c x : Nat} (hc : c < 0x110000) (h : x ∈ Builtin.Str.reprChar q c) : x < 0x110000 := by
  unfold Builtin.Str.reprChar at h
  dsimp only at h
  split at h
  · simp at h; omega
  · split at h
    · simp at h; omega
    · split at h
      · simp at h; omega
      · split at h
        · simp at h; omega
        · split at h
          · simp at h; omega
          · split at h
            · rcases List.mem_append.mp h with h | h
              · simp at h; omega
              · exact hex_lt h
            · split at h
              · rcases List.mem_append.mp h with h | h
                · simp at h; omega
                · exact hex_lt h
              · rcases List.mem_append.mp h with h | h
                · simp at h; omega
                · exact hex_lt h
theorem foldl_lt {q : Nat} : ∀ (l : List Nat) (acc : Array Nat), (∀ c ∈ l, c < 0x110000) → (∀ c ∈ acc.toList, c < 0x110000) → ∀ c ∈ (l.foldl (fun out c => out ++ (Builtin.Str.reprChar q c).toArray) acc).toList, c < 0x110000
  | [], acc, _, h => h
  | x :: l, acc, hl, h => by
    rw [List.foldl_cons]
    refine foldl_lt l _ (fun c hc => hl c (List.mem_cons_of_mem _ hc)) fun c hc => ?_
    rw [Array.toList_append] at hc
    rcases List.mem_append.mp hc with hc | hc
    · exact h c hc
    · exact reprChar_lt (hl x (by simp)) hc
theorem Ok.reprText {s : Str} (h : Ok s) : Ok (reprText s) := fun c hc => by
  have q : reprQuote s < 0x110000 := by unfold reprQuote; split <;> omega
  have hc : c ∈ ((s.cps.foldl (fun out c => out ++ (Builtin.Str.reprChar (reprQuote s) c).toArray) #[reprQuote s]).push (reprQuote s)).toList := hc
  rw [Array.toList_push] at hc
  rcases List.mem_append.mp hc with hc | hc
  · rw [← Array.foldl_toList] at hc
    exact foldl_lt s.cps.toList _ h (fun c hc => by simp at hc; omega) c hc
  · simp at hc; omega
/-- data that repr tells -/
structure Fi (w n : Nat) (d : PyData) : Prop where
  sh : d.showable = true
  hd : d.hasDict = false
  dp : d.depth ≤ n
  ls : d.leavesShort 13 = true
  wt : d.weight ≤ w
  ok : Ok d.shown
theorem Fi.mono {w w' n n' : Nat} {d : PyData} (h : Fi w n d) (hw : w ≤ w') (hn : n ≤ n') : Fi w' n' d := ⟨h.sh, h.hd, Nat.le_trans h.dp hn, h.ls, Nat.le_trans h.wt hw, h.ok⟩
theorem Fi.int {i : Int} (h : i.natAbs < 10 ^ 12) : Fi 40 0 (.int i) := by
  have l2 : i.natAbs.log2 < 40 := by
    by_cases e : i.natAbs = 0
    · rw [e]; decide
    · exact (Nat.log2_lt e).mpr (by omega)
  refine ⟨by simp only [PyData.showable]; exact decide_eq_true (by omega), by simp only [PyData.hasDict], Nat.le_refl _, ?_, ?_, ?_⟩
  · simp only [PyData.leavesShort]
    exact decide_eq_true (PyData.shown_int_le h)
  · simp only [PyData.weight]
    split
    · omega
    · omega
  · rw [PyData.shown_int]
    exact Ok.dec i
theorem Fi.str {s : Str} (h : Ok s) : Fi s.length 0 (.str s) := by
  refine ⟨by simp only [PyData.showable], by simp only [PyData.hasDict], Nat.le_refl _, ?_, ?_, ?_⟩
  · simp only [PyData.leavesShort]
    rw [List.all_eq_true]
    intro c hc
    exact decide_eq_true (Nat.lt_trans (h c hc) (by decide))
  · simp only [PyData.weight]; exact Nat.le_refl _
  · rw [PyData.shown_str]; exact h.reprText
theorem fi_all {w n : Nat} : ∀ {xs : List PyData}, (∀ x ∈ xs, Fi w n x) → PyData.showableAll xs = true ∧ PyData.hasDictAll xs = false ∧ PyData.depthAll xs ≤ n ∧ PyData.leavesShortAll 13 xs = true ∧ PyData.weightAll xs ≤ xs.length * (w + 1) ∧ ∀ x ∈ PyData.shownAll xs, Ok x
  | [], _ => ⟨by simp only [PyData.showableAll], by simp only [PyData.hasDictAll], Nat.zero_le _, by simp only [PyData.leavesShortAll], by simp only [PyData.weightAll]; omega, fun x hx => by rw [PyData.shownAll_nil] at hx; cases hx⟩
  | x :: xs, h => by
    obtain ⟨h1, h2, h3, h4, h5, h6⟩ := fi_all fun y hy => h y (List.mem_cons_of_mem _ hy)
    have g := h x (by simp)
    refine ⟨by simp only [PyData.showableAll, g.sh, h1, Bool.and_self], by simp only [PyData.hasDictAll, g.hd, h2, Bool.or_self], ?_, by simp only [PyData.leavesShortAll, g.ls, h4, Bool.and_self], ?_, ?_⟩
    · rw [PyData.depthAll]; exact Nat.max_le.mpr ⟨g.dp, h3⟩
    · rw [PyData.weightAll, List.length_cons, Nat.add_mul]
      have := g.wt
      omega
    · intro y hy
      rw [PyData.shownAll_cons] at hy
      rcases List.mem_cons.mp hy with rfl | hy
      · exact g.ok
      · exact h6 y hy
theorem Fi.tup {w n : Nat} {xs : List PyData} (h : ∀ x ∈ xs, Fi w n x) : Fi (xs.length * (w + 1)) (n + 1) (.tuple xs) := by
  obtain ⟨h1, h2, h3, h4, h5, h6⟩ := fi_all h
  refine ⟨by simp only [PyData.showable, h1], by simp only [PyData.hasDict, h2], by simp only [PyData.depth]; omega, by simp only [PyData.leavesShort, h4], by simp only [PyData.weight]; exact h5, ?_⟩
  rw [PyData.shown_tuple]
  refine ((Ok.lit "(" (by decide +kernel)).app (Ok.join (Ok.lit ", " (by decide +kernel)) h6)).app ?_
  split
  · exact Ok.lit ",)" (by decide +kernel)
  · exact Ok.lit ")" (by decide +kernel)
theorem Fi.lst {w n : Nat} {xs : List PyData} (h : ∀ x ∈ xs, Fi w n x) : Fi (xs.length * (w + 1)) (n + 1) (.list xs) := by
  obtain ⟨h1, h2, h3, h4, h5, h6⟩ := fi_all h
  refine ⟨by simp only [PyData.showable, h1], by simp only [PyData.hasDict, h2], by simp only [PyData.depth]; omega, by simp only [PyData.leavesShort, h4], by simp only [PyData.weight]; exact h5, ?_⟩
  rw [PyData.shown_list]
  exact ((Ok.lit "[" (by decide +kernel)).app (Ok.join (Ok.lit ", " (by decide +kernel)) h6)).app (Ok.lit "]" (by decide +kernel))
theorem repr_fi {p : P} {d : PyData} {w n : Nat} {S : Sto} (e : toPy p = some d) (h : Fi w n d) (hw : w ≤ 2 ^ 20) (hn : n ≤ 100) : reprP [.p p] S = some (.str d.shown) := by
  have e0 : reprP [.p p] S = (match toPy p with
      | some d => if d.showable = true ∧ d.hasDict = false ∧ d.depth ≤ 100 ∧ d.shown.length ≤ 16777216 then some (.str d.shown) else none
      | none => none) := by
    cases p <;> first | rfl | (simp [toPy] at e; done)
  rw [e0, e]
  dsimp only
  rw [if_pos ⟨h.sh, h.hd, Nat.le_trans h.dp hn, by rw [← sizeLine_eq]; exact PyData.shown_fits (by decide) (by decide) h.ls (Nat.le_trans h.wt hw)⟩]
/-! texts -/
theorem Ok.quo (q : Qt) : Ok (quoS q) :=
  ((((Ok.txt (Ok.lit "," (by decide +kernel)) fun x hx => by obtain ⟨i, _, rfl⟩ := List.mem_map.mp hx; exact Ok.dec i).app (Ok.lit ">=" (by decide +kernel))).app (Ok.dec _)).app (Ok.lit "/" (by decide +kernel))).app (Ok.dec _)
theorem Ok.page (n : Int) (qs : List Qt) : Ok (pageS n qs) :=
  Ok.txt (Ok.lit " " (by decide +kernel)) fun x hx => by
    rcases List.mem_cons.mp hx with rfl | hx
    · exact (Ok.dec n).app (Ok.lit ":" (by decide +kernel))
    · obtain ⟨q, _, rfl⟩ := List.mem_map.mp hx
      exact Ok.quo q
theorem tl_quo (q : Qt) : Lp.tl (quoS q) = Lp.qT q := by
  unfold quoS Lp.qT Lp.fT
  rw [Lp.tl_app, Lp.tl_app, Lp.tl_app, Lp.tl_app, tl_dec, tl_dec, Lp.tl_join 44 "," (by decide +kernel), List.map_map]
  have e1 : Lp.tl ((">=" : String) : Str) = [62, 61] := by decide +kernel
  have e2 : Lp.tl (("/" : String) : Str) = [47] := by decide +kernel
  rw [e1, e2]
  have e3 : Lp.tl ∘ dec = Lp.decT := funext tl_dec
  rw [e3]
  simp only [List.append_assoc, List.cons_append, List.nil_append]
theorem tl_page (n : Int) (qs : List Qt) : Lp.tl (pageS n qs) = Lp.pT n qs := by
  unfold pageS Lp.pT
  rw [Lp.tl_join 32 " " (by decide +kernel), List.map_cons, Lp.tl_app, tl_dec, List.map_map]
  have e1 : Lp.tl ((":" : String) : Str) = [58] := by decide +kernel
  have e3 : Lp.tl ∘ quoS = Lp.qT := funext tl_quo
  rw [e1, e3]
theorem page_inj {n n' : Int} {qs qs' : List Qt} (h0 : ∀ q ∈ qs, q.1 ≠ []) (h0' : ∀ q ∈ qs', q.1 ≠ []) : pageS n qs = pageS n' qs' ↔ n = n' ∧ qs = qs' := by
  refine ⟨fun h => Lp.pT_inj h0 h0' ?_, fun ⟨a, b⟩ => by rw [a, b]⟩
  rw [← tl_page, ← tl_page, h]
end Lb
end
section
set_option Elab.async false
set_option linter.all false
set_option maxRecDepth 100000
set_option maxHeartbeats 1000000
/-! rules for errors that are caught, for values of any kind -/
namespace Ev
open PySem L2
section
variable {T : Tab} {ρ : En} {S : Sto} {E : Xn → Sto → Prop} {Q : U → Sto → Prop}
/-- ["gave", repr(u)] -/
def GavQ (Q : U → Sto → Prop) : U → Sto → Prop := fun u S => LifQ ((reprP [u] S).map fun r => .lst [.str "gave", r]) S Q
/-- what the sorter says of an error -/
def CauQ (cm : List (Str × Bool)) (sort : List U → Sto → M U) (Q : U → Sto → Prop) : Xn → Sto → Prop := fun x S => cm.lookup x.cls = some true ∧ W (sort [.p (errP x)] S) Q NoX
theorem W_asOut {m : M Out} : W m (fun o S => match o with | .rt u => Q u S | _ => False) NoX → W (asOut m) Q E := fun h => by
  rw [W_Wd] at h ⊢
  cases m with
  | none => exact h
  | some r =>
    cases r with
    | ex x S => exact h
    | ok o S => cases o <;> exact h
theorem gave_ok {u : U} (h : GavQ Q u S) : W (asOut (gaveF [none, some u, none] S)) Q E := by
  refine W_asOut ?_
  unfold GavQ at h
  show W (d1 (fun _ _ _ => none) (.ret (.lst (.cons (.cst (.str "gave")) (.cons (.repr (.cons (.var 1) .nil)) .nil)))) [none, some u, none] S) _ NoX
  rw [q_ret, q_lst, q_cons, q_cst, q_cons, q_repr, q_cons, q_var]
  show VarQ (some (some u)) S _
  rw [VarQ_some, q_nil]
  cases e1 : reprP [u] S with
  | none => rw [e1] at h; exact h.out.elim
  | some r =>
    rw [e1] at h
    rw [LifQ_some, q_nil, ps2]
    exact ⟨h.out⟩
theorem sort_ok {sort : List U → Sto → M U} {x : P} (h : W (sort [.p x] S) Q NoX) : W (asOut (sortF sort [none, none, some (.p x)] S)) Q E := by
  refine W_asOut ?_
  unfold sortF fRet
  rw [W_bind]
  show W (sort [.p x] S) _ NoX
  exact W_imp h fun u S' q => W_mk q
/-- a call that may raise, handed to the def that catches -/
theorem q_caught {x srt : Str} {cm : List (Str × Bool)} {a : Te} (h : W (dE T a ρ S) (GavQ Q) (CauQ cm (T srt) Q)) : W (dE T (.caught x srt cm a) ρ S) Q E := by
  show W (fCaught cm (T srt) (dE T a) ρ S) Q E
  unfold fCaught
  rw [W_Wd] at h
  cases e : dE T a ρ S with
  | none => rw [e] at h; exact h.elim
  | some r =>
    rw [e] at h
    cases r with
    | ok u S1 => exact gave_ok h
    | ex y S1 =>
      obtain ⟨h1, h2⟩ := h
      dsimp only
      rw [if_pos h1]
      exact sort_ok h2
theorem W_saysX {m : M U} {a : Xn} {S2 : Sto} (h : W m (fun _ _ => False) (fun x S' => x = a ∧ S' = S2)) : m = some (.ex a S2) := by
  rw [W_Wd] at h
  cases m with
  | none => exact h.elim
  | some r =>
    cases r with
    | ok u S => exact h.elim
    | ex x S => obtain ⟨rfl, rfl⟩ := h; rfl
theorem W_exE {A : Type} {m : M A} {x : Xn} {S : Sto} {Q : A → Sto → Prop} (e : m = some (.ex x S)) (q : E x S) : W m Q E := by rw [e, W_ex]; exact q
end
theorem W_mapZ {A : Type} {T : Tab} {E : Xn → Sto → Prop} {cell : Bool} {own : List Nat} {elt : FE} {tg : Tg} {it : FI} {ρ : En} {S : Sto} {Q : U → Sto → Prop} (l : List A) (f h : A → P)
    (hi : W (it ρ S) (fun q S2 => q = ⟨l.map f, none⟩ ∧ S2 = S) NoX) (hl : l.length < 1000000)
    (hs : ∀ a ∈ l, ∀ acc, ∃ ρ1, asg tg (f a) (wipeE ρ own) = some ρ1 ∧ W (elt ρ1 (S ++ [acc])) (fun u S3 => u = .p (h a) ∧ S3 = S ++ [acc]) NoX)
    (he : if cell = true then Q (.c S.length) (S ++ [l.map h]) else Q (.p (.lst (l.map h))) S) : W (fComp cell own elt tg it (dC T .no) ρ S) Q E := by
  refine W_compA (l.map f) (fun r acc S' => S' = S ∧ ∃ l1 l2, l = l1 ++ l2 ∧ r = l2.map f ∧ acc = l1.map h) S hi ⟨rfl, [], l, rfl, rfl, rfl⟩ (by simpa using hl) ?_ ?_
  · rintro x r acc S' ⟨rfl, l1, l2, e, hr, rfl⟩ _
    cases l2 with
    | nil => cases hr
    | cons a l2 =>
      obtain ⟨rfl, rfl⟩ := List.cons.inj hr
      obtain ⟨ρ1, e1, h1⟩ := hs a (by rw [e]; simp) (l1.map h)
      refine ⟨ρ1, e1, W_imp h1 fun u S3 z => ?_⟩
      obtain ⟨rfl, rfl⟩ := z
      exact ⟨_, _, rfl, rfl, rfl, rfl, l1 ++ [a], l2, by rw [e]; simp, rfl, by simp⟩
  · rintro acc S' ⟨rfl, l1, l2, e, hr, rfl⟩ _
    have : l2 = [] := by cases l2 with
      | nil => rfl
      | cons _ _ => cases hr
    subst this
    rw [List.append_nil] at e
    subst e
    exact he
/-! ### values of any kind -/
mutual
/-- no object, no error in it -/
def Pl : P → Bool
  | .obj _ _ => false
  | .err _ _ => false
  | .tup l => PlA l
  | .lst l => PlA l
  | _ => true
def PlA : List P → Bool
  | [] => true
  | p :: l => Pl p && PlA l
end
theorem PlA_all : ∀ {l : List P}, PlA l = true ↔ ∀ x ∈ l, Pl x = true
  | [] => by simp [PlA]
  | p :: l => by simp [PlA, PlA_all (l := l)]
def isI : P → Bool
  | .int _ => true
  | _ => false
def isBo : P → Bool
  | .bl _ => true
  | _ => false
def isT : P → Bool
  | .tup _ => true
  | _ => false
theorem isi_intA {p : P} (h : Pl p = true) : isiP "int" (.p p) = some (isI p || isBo p) := by
  cases p with
  | obj _ _ => simp [Pl] at h
  | err _ _ => simp [Pl] at h
  | non => show kitB "NoneType" "int" = some false; decide +kernel
  | bl b => show kitB "bool" "int" = some true; decide +kernel
  | int i => show kitB "int" "int" = some true; decide +kernel
  | str x => show kitB "str" "int" = some false; decide +kernel
  | tup l => show kitB "tuple" "int" = some false; decide +kernel
  | lst l => show kitB "list" "int" = some false; decide +kernel
  | scr l => show kitB "list" "int" = some false; decide +kernel
  | emp => show kitB "dict" "int" = some false; decide +kernel
theorem isi_boolA {p : P} (h : Pl p = true) : isiP "bool" (.p p) = some (isBo p) := by
  cases p with
  | obj _ _ => simp [Pl] at h
  | err _ _ => simp [Pl] at h
  | non => show kitB "NoneType" "bool" = some false; decide +kernel
  | bl b => show kitB "bool" "bool" = some true; decide +kernel
  | int i => show kitB "int" "bool" = some false; decide +kernel
  | str x => show kitB "str" "bool" = some false; decide +kernel
  | tup l => show kitB "tuple" "bool" = some false; decide +kernel
  | lst l => show kitB "list" "bool" = some false; decide +kernel
  | scr l => show kitB "list" "bool" = some false; decide +kernel
  | emp => show kitB "dict" "bool" = some false; decide +kernel
theorem isi_tupA {p : P} (h : Pl p = true) : isiP "tuple" (.p p) = some (isT p) := by
  cases p with
  | obj _ _ => simp [Pl] at h
  | err _ _ => simp [Pl] at h
  | non => show kitB "NoneType" "tuple" = some false; decide +kernel
  | bl b => show kitB "bool" "tuple" = some false; decide +kernel
  | int i => show kitB "int" "tuple" = some false; decide +kernel
  | str x => show kitB "str" "tuple" = some false; decide +kernel
  | tup l => show kitB "tuple" "tuple" = some true; decide +kernel
  | lst l => show kitB "list" "tuple" = some false; decide +kernel
  | scr l => show kitB "list" "tuple" = some false; decide +kernel
  | emp => show kitB "dict" "tuple" = some false; decide +kernel
end Ev
end
section
set_option Elab.async false
set_option linter.all false
set_option maxRecDepth 100000
set_option maxHeartbeats 1000000
local macro_rules
  | `(tactic| simp_arith [$ls,*]) => `(tactic| simp only [↓Ev.q_var, ↓Ev.q_glo, ↓Ev.q_cst, ↓Ev.q_bin, ↓Ev.q_neg, ↓Ev.q_cmp, ↓Ev.q_cmp2, ↓Ev.q_and, ↓Ev.q_and1, ↓Ev.q_andm, ↓Ev.q_or, ↓Ev.q_or1, ↓Ev.q_orm, ↓Ev.q_not, ↓Ev.q_ite, ↓Ev.q_blt, ↓Ev.q_gcd, ↓Ev.q_call, ↓Ev.q_make, ↓Ev.q_callK, ↓Ev.q_makeK, ↓Ev.q_tup, ↓Ev.q_lst, ↓Ev.q_cel, ↓Ev.q_idx, ↓Ev.q_sli, ↓Ev.q_app, ↓Ev.q_isi, ↓Ev.q_repr, ↓Ev.q_fld, ↓Ev.q_isc, ↓Ev.q_isx, ↓Ev.q_isb, ↓Ev.q_erf, ↓Ev.q_rev, ↓Ev.q_fstr, ↓Ev.q_fnil, ↓Ev.q_ftxt, ↓Ev.q_fval, ↓Ev.q_nil, ↓Ev.q_cons, ↓Ev.q_no, ↓Ev.q_so, ↓Ev.q_tru, ↓Ev.q_tcmp, ↓Ev.q_tcmp2, ↓Ev.q_tnot, ↓Ev.q_tand, ↓Ev.q_tor, ↓Ev.q_tand1, ↓Ev.q_tor1, ↓Ev.q_tandm, ↓Ev.q_torm, ↓Ev.q_cno, ↓Ev.q_cso, ↓Ev.q_iseq, ↓Ev.q_rng1, ↓Ev.q_rng2, ↓Ev.q_zip, ↓Ev.q_enum, ↓Ev.q_snil, ↓Ev.q_scons, ↓Ev.q_pass, ↓Ev.q_brk, ↓Ev.q_cont, ↓Ev.q_ret, ↓Ev.q_retN, ↓Ev.q_raise, ↓Ev.q_if, ↓Ev.q_set, ↓Ev.q_asg, ↓Ev.q_drop, ↓Ev.q_par, ↓Ev.q_for, ↓Ev.q_setI, ↓Ev.q_setIN, ↓Ev.q_augI, ↓Ev.q_emp, ↓Ev.q_addC, ↓Ev.q_lidx, ↓Ev.q_lcnt, ↓Ev.AddQ_some, ↓Ev.W_ok, ↓Ev.SeqQ_nx, ↓Ev.SeqQ_rt, ↓Ev.SeqQ_bk, ↓Ev.SeqQ_ct, ↓Ev.OutQ_nx, ↓Ev.OutQ_rt, ↓Ev.TrQ_p, ↓Ev.VarQ_some, ↓Ev.LifQ_some, ↓Ev.LibQ_some, ↓Ev.IfQ_t, ↓Ev.IfQ_f, ↓Ev.AndQ_some, ↓Ev.SqQ_some, ↓Ev.StoQ_some, ↓Ev.EnQ_some, ↓Ev.C2Q_bl, ↓Ev.CelQ_some, ↓Ev.FmtQ_some, ↓Ev.ParQ_2, ↓Ev.b_mul, ↓Ev.b_div, ↓Ev.b_mod, ↓Ev.dm_blt, ↓Ev.f_int, ↓Ev.f_str, ↓Ev.s_int, ↓Ev.q_comp, ↓Ev.q_prop, ↓Ev.q_ostr, ↓Ev.q_orepr, ↓Ev.q_ocmpT, ↓Ev.q_ocmpF, ↓Ev.q_join, ↓Ev.q_tocmp, ↓Ev.q_totru, ↓Ev.b_addS, ↓Ev.b_addL, ↓Ev.b_addTQ, ↓Ev.q_setK, ↓Ev.q_while, Ev.VarQ_some, Ev.LifQ_some, Ev.LibQ_some, Ev.IfQ_t, Ev.IfQ_f, Ev.AndQ_some, Ev.SqQ_some, Ev.StoQ_some, Ev.EnQ_some, Ev.C2Q_bl, Ev.CelQ_some, Ev.OrdQ_some, Ev.FmtQ_some, Ev.ParQ_2, Ev.b_add, Ev.b_sub, Ev.c_lt, Ev.c_le, Ev.c_gt, Ev.c_ge, Ev.c_eq, Ev.c_ne, Ev.bl_of, Ev.v_neg, Ev.t_bl, Ev.t_int, Ev.t_tup, Ev.t_lst, Ev.t_non, Ev.ix_tup, Ev.ix_lst, Ev.ix_scr, Ev.at_0, Ev.at_1, Ev.at_2, Ev.l_tup, Ev.l_lst, Ev.len_blt, Ev.abs_blt, Ev.max_blt, Ev.min_blt, Ev.int_blt, Ev.tup_blt, Ev.lst_blt, Ev.gcd_int, Ev.seq_tup, Ev.seq_lst, Ev.seq_scr, Ev.ps0, Ev.ps1, Ev.ps2, Ev.ps3, Ev.ps4, Ev.ps5, Option.map_some, Option.map_none, List.getElem?_cons_zero, List.getElem?_cons_succ, List.set_cons_zero, List.set_cons_succ, List.map_cons, List.map_nil, List.cons_append, List.nil_append, List.length_cons, List.length_nil, List.length_set, List.replicate_succ, List.replicate_zero, Nat.reduceAdd, Nat.reduceSub, Nat.reduceLT, Nat.reduceLeDiff, Nat.sub_self, Ev.take_all, Ev.take_setS, Ev.take_app, Ev.take_setapp, Ev.ObQ_obj, Ev.TxQ_str, Ev.noex_ok, Ev.txtB_ok, Ev.truB_ok, Ev.notB_ok, Ev.ok_obj, Ev.ok_int, Ev.ok_str, Ev.ok_tup, Ev.ok_non, Ev.b_pow18, Ev.cut_tup, Ev.cut_lst, Ev.cut_scr, Ev.rev_tup, Ev.as_tup1, List.set_set, Ev.wipeE, Ev.asg_nm, Ev.asg_tp, Ev.asgs_nil, Ev.asgs_c1, $ls,*])
  | `(tactic| simp_arith [$ls,*] at $h:ident) => `(tactic| simp only [↓Ev.q_var, ↓Ev.q_glo, ↓Ev.q_cst, ↓Ev.q_bin, ↓Ev.q_neg, ↓Ev.q_cmp, ↓Ev.q_cmp2, ↓Ev.q_and, ↓Ev.q_and1, ↓Ev.q_andm, ↓Ev.q_or, ↓Ev.q_or1, ↓Ev.q_orm, ↓Ev.q_not, ↓Ev.q_ite, ↓Ev.q_blt, ↓Ev.q_gcd, ↓Ev.q_call, ↓Ev.q_make, ↓Ev.q_callK, ↓Ev.q_makeK, ↓Ev.q_tup, ↓Ev.q_lst, ↓Ev.q_cel, ↓Ev.q_idx, ↓Ev.q_sli, ↓Ev.q_app, ↓Ev.q_isi, ↓Ev.q_repr, ↓Ev.q_fld, ↓Ev.q_isc, ↓Ev.q_isx, ↓Ev.q_isb, ↓Ev.q_erf, ↓Ev.q_rev, ↓Ev.q_fstr, ↓Ev.q_fnil, ↓Ev.q_ftxt, ↓Ev.q_fval, ↓Ev.q_nil, ↓Ev.q_cons, ↓Ev.q_no, ↓Ev.q_so, ↓Ev.q_tru, ↓Ev.q_tcmp, ↓Ev.q_tcmp2, ↓Ev.q_tnot, ↓Ev.q_tand, ↓Ev.q_tor, ↓Ev.q_tand1, ↓Ev.q_tor1, ↓Ev.q_tandm, ↓Ev.q_torm, ↓Ev.q_cno, ↓Ev.q_cso, ↓Ev.q_iseq, ↓Ev.q_rng1, ↓Ev.q_rng2, ↓Ev.q_zip, ↓Ev.q_enum, ↓Ev.q_snil, ↓Ev.q_scons, ↓Ev.q_pass, ↓Ev.q_brk, ↓Ev.q_cont, ↓Ev.q_ret, ↓Ev.q_retN, ↓Ev.q_raise, ↓Ev.q_if, ↓Ev.q_set, ↓Ev.q_asg, ↓Ev.q_drop, ↓Ev.q_par, ↓Ev.q_for, ↓Ev.q_setI, ↓Ev.q_setIN, ↓Ev.q_augI, ↓Ev.q_emp, ↓Ev.q_addC, ↓Ev.q_lidx, ↓Ev.q_lcnt, ↓Ev.AddQ_some, ↓Ev.W_ok, ↓Ev.SeqQ_nx, ↓Ev.SeqQ_rt, ↓Ev.SeqQ_bk, ↓Ev.SeqQ_ct, ↓Ev.OutQ_nx, ↓Ev.OutQ_rt, ↓Ev.TrQ_p, ↓Ev.VarQ_some, ↓Ev.LifQ_some, ↓Ev.LibQ_some, ↓Ev.IfQ_t, ↓Ev.IfQ_f, ↓Ev.AndQ_some, ↓Ev.SqQ_some, ↓Ev.StoQ_some, ↓Ev.EnQ_some, ↓Ev.C2Q_bl, ↓Ev.CelQ_some, ↓Ev.FmtQ_some, ↓Ev.ParQ_2, ↓Ev.b_mul, ↓Ev.b_div, ↓Ev.b_mod, ↓Ev.dm_blt, ↓Ev.f_int, ↓Ev.f_str, ↓Ev.s_int, ↓Ev.q_comp, ↓Ev.q_prop, ↓Ev.q_ostr, ↓Ev.q_orepr, ↓Ev.q_ocmpT, ↓Ev.q_ocmpF, ↓Ev.q_join, ↓Ev.q_tocmp, ↓Ev.q_totru, ↓Ev.b_addS, ↓Ev.b_addL, ↓Ev.b_addTQ, ↓Ev.q_setK, ↓Ev.q_while, Ev.VarQ_some, Ev.LifQ_some, Ev.LibQ_some, Ev.IfQ_t, Ev.IfQ_f, Ev.AndQ_some, Ev.SqQ_some, Ev.StoQ_some, Ev.EnQ_some, Ev.C2Q_bl, Ev.CelQ_some, Ev.OrdQ_some, Ev.FmtQ_some, Ev.ParQ_2, Ev.b_add, Ev.b_sub, Ev.c_lt, Ev.c_le, Ev.c_gt, Ev.c_ge, Ev.c_eq, Ev.c_ne, Ev.bl_of, Ev.v_neg, Ev.t_bl, Ev.t_int, Ev.t_tup, Ev.t_lst, Ev.t_non, Ev.ix_tup, Ev.ix_lst, Ev.ix_scr, Ev.at_0, Ev.at_1, Ev.at_2, Ev.l_tup, Ev.l_lst, Ev.len_blt, Ev.abs_blt, Ev.max_blt, Ev.min_blt, Ev.int_blt, Ev.tup_blt, Ev.lst_blt, Ev.gcd_int, Ev.seq_tup, Ev.seq_lst, Ev.seq_scr, Ev.ps0, Ev.ps1, Ev.ps2, Ev.ps3, Ev.ps4, Ev.ps5, Option.map_some, Option.map_none, List.getElem?_cons_zero, List.getElem?_cons_succ, List.set_cons_zero, List.set_cons_succ, List.map_cons, List.map_nil, List.cons_append, List.nil_append, List.length_cons, List.length_nil, List.length_set, List.replicate_succ, List.replicate_zero, Nat.reduceAdd, Nat.reduceSub, Nat.reduceLT, Nat.reduceLeDiff, Nat.sub_self, Ev.take_all, Ev.take_setS, Ev.take_app, Ev.take_setapp, Ev.ObQ_obj, Ev.TxQ_str, Ev.noex_ok, Ev.txtB_ok, Ev.truB_ok, Ev.notB_ok, Ev.ok_obj, Ev.ok_int, Ev.ok_str, Ev.ok_tup, Ev.ok_non, Ev.b_pow18, Ev.cut_tup, Ev.cut_lst, Ev.cut_scr, Ev.rev_tup, Ev.as_tup1, List.set_set, Ev.wipeE, Ev.asg_nm, Ev.asg_tp, Ev.asgs_nil, Ev.asgs_c1, $ls,*] at $h:ident)
/-! what the checks say of values of any kind -/
namespace Lb
open PySem Ev L2 Lt
/-- the defs that look at what is passed -/
structure Kc (T : Tab) : Prop where
  is_integer : T "is_integer" = fDef 1 (dS T t_is_integer.body)
  is_integer_from : T "is_integer_from" = fDef 3 (dS T t_is_integer_from.body)
  is_any_fraction : T "is_any_fraction" = fDef 3 (dS T t_is_any_fraction.body)
  is_ratio : T "is_ratio" = fDef 3 (dS T t_is_ratio.body)
  is_payoff : T "is_payoff" = fDef 4 (dS T t_is_payoff.body)
  is_fraction : T "is_fraction" = fDef 1 (dS T t_is_fraction.body)
  is_share : T "is_share" = fDef 1 (dS T t_is_share.body)
/-- an integer from one number to another one -/
def inR (p : P) (a b : Int) : Bool := match p with
  | .int i => decide (a ≤ i) && decide (i ≤ b)
  | _ => false
def gainB (p : P) (k : Nat) : Bool := match p with
  | .tup l => decide (l.length = k) && l.all (inR · (-1000) 1000)
  | _ => false
/-- a fraction, of any size -/
def fracB (p : P) : Bool := match p with
  | .tup [.int a, .int b] => decide (0 < b) && decide (Nat.gcd a.natAbs b.natAbs = 1)
  | _ => false
def top (p : P) : Int := match p with
  | .tup (.int a :: _) => a
  | _ => 0
def bot (p : P) : Int := match p with
  | .tup [_, .int b] => b
  | _ => 0
def ratioB (p : P) (t m : Int) : Bool := fracB p && (decide (-t ≤ top p) && decide (top p ≤ t) && decide (bot p ≤ m))
def shareB (p : P) : Bool := ratioB p 1000000000 1000000 && (decide (0 ≤ top p) && decide (top p ≤ bot p))
theorem frac_is {p : P} (h : fracB p = true) : p = .tup [.int (top p), .int (bot p)] ∧ 0 < bot p ∧ Nat.gcd (top p).natAbs (bot p).natAbs = 1 := by
  unfold fracB at h
  split at h
  · rename_i a b
    simp only [Bool.and_eq_true, decide_eq_true_eq] at h
    exact ⟨rfl, h.1, h.2⟩
  · cases h
section
variable {T : Tab} (K : Kc T) (S : Sto)
include K
theorem is_integerA {p : P} (h : Pl p = true) : T "is_integer" [.p p] S = some (.ok (.p (.bl (isI p))) S) := by
  rw [K.is_integer]
  refine W_say (W_def ?_)
  simp only [t_is_integer]
  simp_arith [ty_int, ty_bool, isi_intA h, isi_boolA h]
  cases p <;> (simp only [isI, isBo, Bool.or_false, Bool.or_true, Bool.false_or]; simp_arith []; try (first | trivial | exact ⟨rfl, trivial⟩ | exact ⟨rfl, rfl⟩ | exact ⟨trivial, trivial⟩))
theorem is_integer_fromA {p : P} (h : Pl p = true) (a b : Int) : T "is_integer_from" [.p p, .p (.int a), .p (.int b)] S = some (.ok (.p (.bl (inR p a b))) S) := by
  rw [K.is_integer_from]
  refine W_say (W_def ?_)
  simp only [t_is_integer_from]
  simp_arith [is_integerA K S h]
  cases p with
  | int i =>
    simp only [isI]
    simp_arith []
    by_cases c : a ≤ i
    · rw [decide_eq_true c]
      simp_arith [inR, decide_eq_true c, Bool.true_and]
      try (first | trivial | exact ⟨rfl, trivial⟩ | exact ⟨rfl, rfl⟩ | exact ⟨trivial, trivial⟩)
    · rw [decide_eq_false c]
      simp_arith [inR, decide_eq_false c, Bool.false_and]
      try (first | trivial | exact ⟨rfl, trivial⟩ | exact ⟨rfl, rfl⟩ | exact ⟨trivial, trivial⟩)
  | _ => (simp only [isI]; simp_arith []; try (first | trivial | exact ⟨rfl, trivial⟩ | exact ⟨rfl, rfl⟩ | exact ⟨trivial, trivial⟩))
theorem is_any_fractionA {p : P} (h : Pl p = true) : T "is_any_fraction" [.p p] S = some (.ok (.p (.bl (fracB p))) S) := by
  rw [K.is_any_fraction]
  refine W_say (W_def ?_)
  simp only [t_is_any_fraction]
  simp_arith [ty_tuple, isi_tupA h]
  cases p with
  | tup l =>
    simp only [isT, Bool.not_true]
    simp_arith []
    match l, h with
    | [], _ => (simp_arith []; (first | trivial | exact ⟨rfl, trivial⟩ | exact ⟨rfl, rfl⟩ | exact ⟨trivial, trivial⟩))
    | [x], _ => (simp_arith []; exact ⟨by cases x <;> rfl, trivial⟩)
    | x :: y :: z :: r, _ =>
      rw [show (!decide ((((x :: y :: z :: r).length : Nat) : Int) = 2)) = true by simp; omega]
      simp_arith []
      exact ⟨by simp [fracB], trivial⟩
    | [x, y], h =>
      have hx := PlA_all.mp (show PlA [x, y] = true from h)
      rw [show (!decide ((([x, y].length : Nat) : Int) = 2)) = false by rfl]
      simp_arith [is_integerA K S (hx x (by simp)), is_integerA K S (hx y (by simp))]
      cases x with
      | int a =>
        simp only [isI]
        simp_arith []
        cases y with
        | int b =>
          simp only [isI]
          simp_arith []
          by_cases c : 0 < b
          · rw [decide_eq_true c]
            simp_arith [gcd_int]
            refine ⟨?_, trivial⟩
            show _ = U.p (P.bl (decide (0 < b) && decide (Nat.gcd a.natAbs b.natAbs = 1)))
            rw [decide_eq_true c, Bool.true_and]
            simp
            omega
          · rw [decide_eq_false c]
            simp_arith []
            refine ⟨?_, trivial⟩
            show _ = U.p (P.bl (decide (0 < b) && decide (Nat.gcd a.natAbs b.natAbs = 1)))
            rw [decide_eq_false c, Bool.false_and]
        | _ => (simp only [isI]; simp_arith []; (first | trivial | exact ⟨rfl, trivial⟩ | exact ⟨rfl, rfl⟩ | exact ⟨trivial, trivial⟩))
      | _ => (simp only [isI]; simp_arith []; (first | trivial | exact ⟨rfl, trivial⟩ | exact ⟨rfl, rfl⟩ | exact ⟨trivial, trivial⟩))
  | _ => (simp only [isT, Bool.not_false]; simp_arith []; (first | trivial | exact ⟨rfl, trivial⟩ | exact ⟨rfl, rfl⟩ | exact ⟨trivial, trivial⟩))
theorem frac_ix {p : P} (h : fracB p = true) : idxP (.p p) (.p (.int 0)) S = some (.int (top p)) ∧ idxP (.p p) (.p (.int 1)) S = some (.int (bot p)) := by
  obtain ⟨e, _⟩ := frac_is h
  rw [e]
  exact ⟨rfl, rfl⟩
theorem is_ratioA {p : P} (h : Pl p = true) (t m : Int) : T "is_ratio" [.p p, .p (.int t), .p (.int m)] S = some (.ok (.p (.bl (ratioB p t m))) S) := by
  rw [K.is_ratio]
  refine W_say (W_def ?_)
  simp only [t_is_ratio]
  simp_arith [is_any_fractionA K S h]
  cases c : fracB p with
  | false =>
    simp_arith []
    exact ⟨by rw [ratioB, c, Bool.false_and], trivial⟩
  | true =>
    simp_arith [(frac_ix K S c).1, (frac_ix K S c).2]
    by_cases c1 : -t ≤ top p
    · rw [decide_eq_true c1]
      simp_arith []
      by_cases c2 : top p ≤ t
      · rw [decide_eq_true c2]
        simp_arith [(frac_ix K S c).2]
        exact ⟨by rw [ratioB, c, decide_eq_true c1, decide_eq_true c2, Bool.true_and, Bool.true_and, Bool.true_and], trivial⟩
      · rw [decide_eq_false c2]
        simp_arith []
        exact ⟨by rw [ratioB, c, decide_eq_true c1, decide_eq_false c2, Bool.true_and, Bool.true_and, Bool.false_and], trivial⟩
    · rw [decide_eq_false c1]
      simp_arith []
      exact ⟨by rw [ratioB, c, decide_eq_false c1, Bool.true_and, Bool.false_and, Bool.false_and], trivial⟩
theorem is_fractionA {p : P} (h : Pl p = true) : T "is_fraction" [.p p] S = some (.ok (.p (.bl (ratioB p 1000000000 1000000))) S) := by
  rw [K.is_fraction]
  refine W_say (W_def ?_)
  simp only [t_is_fraction]
  simp_arith [is_ratioA K S h]
  (first | trivial | exact ⟨rfl, trivial⟩ | exact ⟨rfl, rfl⟩ | exact ⟨trivial, trivial⟩)
theorem ratio_frac {p : P} {t m : Int} (h : ratioB p t m = true) : fracB p = true := by
  unfold ratioB at h
  simp only [Bool.and_eq_true] at h
  exact h.1
theorem is_shareA {p : P} (h : Pl p = true) : T "is_share" [.p p] S = some (.ok (.p (.bl (shareB p))) S) := by
  rw [K.is_share]
  refine W_say (W_def ?_)
  simp only [t_is_share]
  simp_arith [is_fractionA K S h]
  cases c : ratioB p 1000000000 1000000 with
  | false =>
    simp_arith []
    exact ⟨by rw [shareB, c, Bool.false_and], trivial⟩
  | true =>
    have f := frac_ix K S (ratio_frac K c)
    simp_arith [f.1, f.2]
    by_cases c1 : 0 ≤ top p
    · rw [decide_eq_true c1]
      simp_arith [f.2]
      exact ⟨by rw [shareB, c, decide_eq_true c1, Bool.true_and, Bool.true_and], trivial⟩
    · rw [decide_eq_false c1]
      simp_arith []
      exact ⟨by rw [shareB, c, decide_eq_false c1, Bool.true_and, Bool.false_and], trivial⟩
theorem is_payoffA {p : P} (h : Pl p = true) (k : Nat) (hk : k < 1000000) : T "is_payoff" [.p p, .p (.int k)] S = some (.ok (.p (.bl (gainB p k))) S) := by
  rw [K.is_payoff]
  refine W_say (W_def ?_)
  simp only [t_is_payoff]
  simp_arith [ty_tuple, isi_tupA h]
  cases p with
  | tup l =>
    simp only [isT, Bool.not_true]
    simp_arith []
    by_cases c : l.length = k
    · rw [show (!decide ((l.length : Int) = (k : Int))) = false by simp; omega]
      simp_arith []
      refine W_map l (fun x => .bl (inR x (-1000) 1000)) ?_ (by omega) ?_ ?_
      · simp_arith []
        (first | trivial | exact ⟨rfl, trivial⟩ | exact ⟨rfl, rfl⟩ | exact ⟨trivial, trivial⟩)
      · intro x hx acc
        refine ⟨_, rfl, ?_⟩
        simp_arith [is_integer_fromA K (S ++ [acc]) (PlA_all.mp (show PlA l = true from h) x hx)]
        (first | trivial | exact ⟨rfl, trivial⟩ | exact ⟨rfl, rfl⟩ | exact ⟨trivial, trivial⟩)
      · rw [if_neg (by decide), show (l.map fun x => P.bl (inR x (-1000) 1000)) = (l.map fun x => inR x (-1000) 1000).map .bl by rw [List.map_map]; rfl, all_lst]
        simp_arith []
        refine ⟨?_, trivial⟩
        show _ = U.p (P.bl (decide (l.length = k) && l.all (inR · (-1000) 1000)))
        rw [decide_eq_true c, Bool.true_and, List.all_map]
        rfl
    · rw [show (!decide ((l.length : Int) = (k : Int))) = true by simp; omega]
      simp_arith []
      exact ⟨by show _ = U.p (P.bl (decide (l.length = k) && _)); rw [decide_eq_false c, Bool.false_and], trivial⟩
  | _ => (simp only [isT, Bool.not_false]; simp_arith []; (first | trivial | exact ⟨rfl, trivial⟩ | exact ⟨rfl, rfl⟩ | exact ⟨trivial, trivial⟩))
end
end Lb
end
section
set_option Elab.async false
set_option linter.all false
set_option maxRecDepth 100000
set_option maxHeartbeats 1000000
local macro_rules
  | `(tactic| simp_arith [$ls,*]) => `(tactic| simp only [↓Ev.q_var, ↓Ev.q_glo, ↓Ev.q_cst, ↓Ev.q_bin, ↓Ev.q_neg, ↓Ev.q_cmp, ↓Ev.q_cmp2, ↓Ev.q_and, ↓Ev.q_and1, ↓Ev.q_andm, ↓Ev.q_or, ↓Ev.q_or1, ↓Ev.q_orm, ↓Ev.q_not, ↓Ev.q_ite, ↓Ev.q_blt, ↓Ev.q_gcd, ↓Ev.q_call, ↓Ev.q_make, ↓Ev.q_callK, ↓Ev.q_makeK, ↓Ev.q_tup, ↓Ev.q_lst, ↓Ev.q_cel, ↓Ev.q_idx, ↓Ev.q_sli, ↓Ev.q_app, ↓Ev.q_isi, ↓Ev.q_repr, ↓Ev.q_fld, ↓Ev.q_isc, ↓Ev.q_isx, ↓Ev.q_isb, ↓Ev.q_erf, ↓Ev.q_rev, ↓Ev.q_fstr, ↓Ev.q_fnil, ↓Ev.q_ftxt, ↓Ev.q_fval, ↓Ev.q_nil, ↓Ev.q_cons, ↓Ev.q_no, ↓Ev.q_so, ↓Ev.q_tru, ↓Ev.q_tcmp, ↓Ev.q_tcmp2, ↓Ev.q_tnot, ↓Ev.q_tand, ↓Ev.q_tor, ↓Ev.q_tand1, ↓Ev.q_tor1, ↓Ev.q_tandm, ↓Ev.q_torm, ↓Ev.q_cno, ↓Ev.q_cso, ↓Ev.q_iseq, ↓Ev.q_rng1, ↓Ev.q_rng2, ↓Ev.q_zip, ↓Ev.q_enum, ↓Ev.q_snil, ↓Ev.q_scons, ↓Ev.q_pass, ↓Ev.q_brk, ↓Ev.q_cont, ↓Ev.q_ret, ↓Ev.q_retN, ↓Ev.q_raise, ↓Ev.q_if, ↓Ev.q_set, ↓Ev.q_asg, ↓Ev.q_drop, ↓Ev.q_par, ↓Ev.q_for, ↓Ev.q_setI, ↓Ev.q_setIN, ↓Ev.q_augI, ↓Ev.q_emp, ↓Ev.q_addC, ↓Ev.q_lidx, ↓Ev.q_lcnt, ↓Ev.AddQ_some, ↓Ev.W_ok, ↓Ev.SeqQ_nx, ↓Ev.SeqQ_rt, ↓Ev.SeqQ_bk, ↓Ev.SeqQ_ct, ↓Ev.OutQ_nx, ↓Ev.OutQ_rt, ↓Ev.TrQ_p, ↓Ev.VarQ_some, ↓Ev.LifQ_some, ↓Ev.LibQ_some, ↓Ev.IfQ_t, ↓Ev.IfQ_f, ↓Ev.AndQ_some, ↓Ev.SqQ_some, ↓Ev.StoQ_some, ↓Ev.EnQ_some, ↓Ev.C2Q_bl, ↓Ev.CelQ_some, ↓Ev.FmtQ_some, ↓Ev.ParQ_2, ↓Ev.b_mul, ↓Ev.b_div, ↓Ev.b_mod, ↓Ev.dm_blt, ↓Ev.f_int, ↓Ev.f_str, ↓Ev.s_int, ↓Ev.q_comp, ↓Ev.q_prop, ↓Ev.q_ostr, ↓Ev.q_orepr, ↓Ev.q_ocmpT, ↓Ev.q_ocmpF, ↓Ev.q_join, ↓Ev.q_tocmp, ↓Ev.q_totru, ↓Ev.b_addS, ↓Ev.b_addL, ↓Ev.b_addTQ, ↓Ev.q_setK, ↓Ev.q_while, Ev.VarQ_some, Ev.LifQ_some, Ev.LibQ_some, Ev.IfQ_t, Ev.IfQ_f, Ev.AndQ_some, Ev.SqQ_some, Ev.StoQ_some, Ev.EnQ_some, Ev.C2Q_bl, Ev.CelQ_some, Ev.OrdQ_some, Ev.FmtQ_some, Ev.ParQ_2, Ev.b_add, Ev.b_sub, Ev.c_lt, Ev.c_le, Ev.c_gt, Ev.c_ge, Ev.c_eq, Ev.c_ne, Ev.bl_of, Ev.v_neg, Ev.t_bl, Ev.t_int, Ev.t_tup, Ev.t_lst, Ev.t_non, Ev.ix_tup, Ev.ix_lst, Ev.ix_scr, Ev.at_0, Ev.at_1, Ev.at_2, Ev.l_tup, Ev.l_lst, Ev.len_blt, Ev.abs_blt, Ev.max_blt, Ev.min_blt, Ev.int_blt, Ev.tup_blt, Ev.lst_blt, Ev.gcd_int, Ev.seq_tup, Ev.seq_lst, Ev.seq_scr, Ev.ps0, Ev.ps1, Ev.ps2, Ev.ps3, Ev.ps4, Ev.ps5, Option.map_some, Option.map_none, List.getElem?_cons_zero, List.getElem?_cons_succ, List.set_cons_zero, List.set_cons_succ, List.map_cons, List.map_nil, List.cons_append, List.nil_append, List.length_cons, List.length_nil, List.length_set, List.replicate_succ, List.replicate_zero, Nat.reduceAdd, Nat.reduceSub, Nat.reduceLT, Nat.reduceLeDiff, Nat.sub_self, Ev.take_all, Ev.take_setS, Ev.take_app, Ev.take_setapp, Ev.ObQ_obj, Ev.TxQ_str, Ev.noex_ok, Ev.txtB_ok, Ev.truB_ok, Ev.notB_ok, Ev.ok_obj, Ev.ok_int, Ev.ok_str, Ev.ok_tup, Ev.ok_non, Ev.b_pow18, Ev.cut_tup, Ev.cut_lst, Ev.cut_scr, Ev.rev_tup, Ev.as_tup1, List.set_set, Ev.wipeE, Ev.asg_nm, Ev.asg_tp, Ev.asgs_nil, Ev.asgs_c1, $ls,*])
  | `(tactic| simp_arith [$ls,*] at $h:ident) => `(tactic| simp only [↓Ev.q_var, ↓Ev.q_glo, ↓Ev.q_cst, ↓Ev.q_bin, ↓Ev.q_neg, ↓Ev.q_cmp, ↓Ev.q_cmp2, ↓Ev.q_and, ↓Ev.q_and1, ↓Ev.q_andm, ↓Ev.q_or, ↓Ev.q_or1, ↓Ev.q_orm, ↓Ev.q_not, ↓Ev.q_ite, ↓Ev.q_blt, ↓Ev.q_gcd, ↓Ev.q_call, ↓Ev.q_make, ↓Ev.q_callK, ↓Ev.q_makeK, ↓Ev.q_tup, ↓Ev.q_lst, ↓Ev.q_cel, ↓Ev.q_idx, ↓Ev.q_sli, ↓Ev.q_app, ↓Ev.q_isi, ↓Ev.q_repr, ↓Ev.q_fld, ↓Ev.q_isc, ↓Ev.q_isx, ↓Ev.q_isb, ↓Ev.q_erf, ↓Ev.q_rev, ↓Ev.q_fstr, ↓Ev.q_fnil, ↓Ev.q_ftxt, ↓Ev.q_fval, ↓Ev.q_nil, ↓Ev.q_cons, ↓Ev.q_no, ↓Ev.q_so, ↓Ev.q_tru, ↓Ev.q_tcmp, ↓Ev.q_tcmp2, ↓Ev.q_tnot, ↓Ev.q_tand, ↓Ev.q_tor, ↓Ev.q_tand1, ↓Ev.q_tor1, ↓Ev.q_tandm, ↓Ev.q_torm, ↓Ev.q_cno, ↓Ev.q_cso, ↓Ev.q_iseq, ↓Ev.q_rng1, ↓Ev.q_rng2, ↓Ev.q_zip, ↓Ev.q_enum, ↓Ev.q_snil, ↓Ev.q_scons, ↓Ev.q_pass, ↓Ev.q_brk, ↓Ev.q_cont, ↓Ev.q_ret, ↓Ev.q_retN, ↓Ev.q_raise, ↓Ev.q_if, ↓Ev.q_set, ↓Ev.q_asg, ↓Ev.q_drop, ↓Ev.q_par, ↓Ev.q_for, ↓Ev.q_setI, ↓Ev.q_setIN, ↓Ev.q_augI, ↓Ev.q_emp, ↓Ev.q_addC, ↓Ev.q_lidx, ↓Ev.q_lcnt, ↓Ev.AddQ_some, ↓Ev.W_ok, ↓Ev.SeqQ_nx, ↓Ev.SeqQ_rt, ↓Ev.SeqQ_bk, ↓Ev.SeqQ_ct, ↓Ev.OutQ_nx, ↓Ev.OutQ_rt, ↓Ev.TrQ_p, ↓Ev.VarQ_some, ↓Ev.LifQ_some, ↓Ev.LibQ_some, ↓Ev.IfQ_t, ↓Ev.IfQ_f, ↓Ev.AndQ_some, ↓Ev.SqQ_some, ↓Ev.StoQ_some, ↓Ev.EnQ_some, ↓Ev.C2Q_bl, ↓Ev.CelQ_some, ↓Ev.FmtQ_some, ↓Ev.ParQ_2, ↓Ev.b_mul, ↓Ev.b_div, ↓Ev.b_mod, ↓Ev.dm_blt, ↓Ev.f_int, ↓Ev.f_str, ↓Ev.s_int, ↓Ev.q_comp, ↓Ev.q_prop, ↓Ev.q_ostr, ↓Ev.q_orepr, ↓Ev.q_ocmpT, ↓Ev.q_ocmpF, ↓Ev.q_join, ↓Ev.q_tocmp, ↓Ev.q_totru, ↓Ev.b_addS, ↓Ev.b_addL, ↓Ev.b_addTQ, ↓Ev.q_setK, ↓Ev.q_while, Ev.VarQ_some, Ev.LifQ_some, Ev.LibQ_some, Ev.IfQ_t, Ev.IfQ_f, Ev.AndQ_some, Ev.SqQ_some, Ev.StoQ_some, Ev.EnQ_some, Ev.C2Q_bl, Ev.CelQ_some, Ev.OrdQ_some, Ev.FmtQ_some, Ev.ParQ_2, Ev.b_add, Ev.b_sub, Ev.c_lt, Ev.c_le, Ev.c_gt, Ev.c_ge, Ev.c_eq, Ev.c_ne, Ev.bl_of, Ev.v_neg, Ev.t_bl, Ev.t_int, Ev.t_tup, Ev.t_lst, Ev.t_non, Ev.ix_tup, Ev.ix_lst, Ev.ix_scr, Ev.at_0, Ev.at_1, Ev.at_2, Ev.l_tup, Ev.l_lst, Ev.len_blt, Ev.abs_blt, Ev.max_blt, Ev.min_blt, Ev.int_blt, Ev.tup_blt, Ev.lst_blt, Ev.gcd_int, Ev.seq_tup, Ev.seq_lst, Ev.seq_scr, Ev.ps0, Ev.ps1, Ev.ps2, Ev.ps3, Ev.ps4, Ev.ps5, Option.map_some, Option.map_none, List.getElem?_cons_zero, List.getElem?_cons_succ, List.set_cons_zero, List.set_cons_succ, List.map_cons, List.map_nil, List.cons_append, List.nil_append, List.length_cons, List.length_nil, List.length_set, List.replicate_succ, List.replicate_zero, Nat.reduceAdd, Nat.reduceSub, Nat.reduceLT, Nat.reduceLeDiff, Nat.sub_self, Ev.take_all, Ev.take_setS, Ev.take_app, Ev.take_setapp, Ev.ObQ_obj, Ev.TxQ_str, Ev.noex_ok, Ev.txtB_ok, Ev.truB_ok, Ev.notB_ok, Ev.ok_obj, Ev.ok_int, Ev.ok_str, Ev.ok_tup, Ev.ok_non, Ev.b_pow18, Ev.cut_tup, Ev.cut_lst, Ev.cut_scr, Ev.rev_tup, Ev.as_tup1, List.set_set, Ev.wipeE, Ev.asg_nm, Ev.asg_tp, Ev.asgs_nil, Ev.asgs_c1, $ls,*] at $h:ident)
/-! reckoning with fractions, chances that are looked at, worths -/
namespace Lb
open PySem Ev L2 Lt La
structure Kw (T : Tab) : Prop extends Kc T where
  is_below : T "is_below" = fDef 2 (dS T t_is_below.body)
  ratio : T "ratio" = fDef 3 (dS T t_ratio.body)
  plus : T "plus" = fDef 2 (dS T t_plus.body)
  total : T "total" = fDef 3 (dS T t_total.body)
  weighed : T "weighed" = fDef 6 (dS T t_weighed.body)
  check_chance : T "check_chance" = fDef 5 (dS T t_check_chance.body)
/-- the number of a fraction -/
def rq (p : P) : Rat := mkRat (top p) (bot p).toNat
theorem frac_qf {p : P} (h : fracB p = true) : p = qf (rq p) := by
  obtain ⟨e, h1, h2⟩ := frac_is h
  have hn : (bot p).toNat ≠ 0 := by omega
  unfold rq
  rw [← low_mk hn]
  have hb : (((bot p).toNat : Nat) : Int) = bot p := by omega
  unfold lowT lowB
  rw [hb, h2]
  simpa using e
theorem rq_den {p : P} (h : fracB p = true) : (rq p).num = top p ∧ ((rq p).den : Int) = bot p := by
  have e := frac_qf h
  obtain ⟨e2, _⟩ := frac_is h
  have e3 : (qf (rq p)) = .tup [.int (top p), .int (bot p)] := by rw [← e]; exact e2
  unfold qf fr at e3
  simp only [P.tup.injEq, List.cons.injEq, P.int.injEq, and_true] at e3
  exact ⟨e3.1, e3.2⟩
theorem share_sz {p : P} (h : shareB p = true) : Sz 20 (rq p) ∧ 0 ≤ rq p := by
  unfold shareB ratioB at h
  simp only [Bool.and_eq_true, decide_eq_true_eq] at h
  obtain ⟨⟨h1, ⟨h2, h3⟩, h4⟩, h5, h6⟩ := h
  obtain ⟨d1, d2⟩ := rq_den h1
  refine ⟨⟨by rw [d1]; omega, by omega⟩, ?_⟩
  rw [← Rat.num_nonneg]
  omega
/-- what is wrong in the elements of a chance -/
def fault : List P → Nat → Rat → Option P
  | [], _, t => if t < 1 then some .non else none
  | x :: r, i, t => if shareB x = true then (if 1 < t + rq x then some (.int i) else fault r (i + 1) (t + rq x)) else some (.int i)
def chF (p : P) (k : Nat) : Option P := match p with
  | .tup l => if l.length = k then fault l 0 0 else some .non
  | _ => some .non
def numsF : Nat → List P → List P
  | _, [] => []
  | i, x :: r => .tup [.int (i : Nat), x] :: numsF (i + 1) r
theorem nums_F (l : List P) : nums l = numsF 0 l := by
  have key : ∀ (l : List P) (i : Nat), prs ((List.range' i l.length).map fun i => P.int (i : Nat)) l = numsF i l := fun l => by
    induction l with
    | nil => intro i; rfl
    | cons x r ih =>
      intro i
      rw [List.length_cons, List.range'_succ, List.map_cons]
      show P.tup [_, _] :: prs _ r = _
      rw [ih (i + 1)]
      rfl
  unfold nums
  rw [List.range_eq_range']
  exact key l 0
section
variable {T : Tab} (K : Kw T) (S : Sto)
include K
theorem ratioR {a : Int} {n k : Nat} (h0 : n ≠ 0) (hb : n < 2 ^ k) (hk : k < 9000) : T "ratio" [.p (.int a), .p (.int n)] S = some (.ok (.p (qf (mkRat a n))) S) := by
  rw [← low_mk h0, K.ratio]
  refine W_say (W_def ?_)
  simp only [t_ratio]
  simp_arith [gcd_int]
  have q := gcd_le (a := a) (b := (n : Int)) (by omega)
  have c : CDivW a (Nat.gcd a.natAbs (n : Int).natAbs : Nat) := divw (b := k) (by omega) (by omega) hk
  exact ⟨c, ⟨c.1, c.2⟩, rfl, trivial⟩
theorem plusR {p q : Rat} {a b : Nat} (h1 : Sz a p) (h2 : Sz b q) (hk : a + b < 9000) : T "plus" [.p (qf p), .p (qf q)] S = some (.ok (.p (qf (p + q))) S) := by
  rw [K.plus]
  refine W_say (W_def ?_)
  simp only [t_plus]
  have hp := p.den_nz
  have hq := q.den_nz
  unfold qf fr
  simp_arith []
  refine ⟨mulw (a := a) (b := b) h1.1 (by simpa using h2.2) (by omega), mulw (a := b) (b := a) h2.1 (by simpa using h1.2) (by omega), mulw (a := a) (b := b) (by simpa using h1.2) (by simpa using h2.2) (by omega), ?_⟩
  rw [← Int.natCast_mul]
  refine W_of (ratioR K S (Nat.mul_ne_zero hp hq) (mul_lt2 h1.2 h2.2) hk) ?_
  simp_arith []
  rw [Rat.add_def, Rat.normalize_eq_mkRat]
  exact ⟨rfl, trivial⟩
theorem belowR {p q : Rat} {a b : Nat} (h1 : Sz a p) (h2 : Sz b q) (hk : a + b < 9000) : T "is_below" [.p (qf p), .p (qf q)] S = some (.ok (.p (.bl (decide (p < q)))) S) := by
  rw [K.is_below]
  refine W_say (W_def ?_)
  simp only [t_is_below]
  unfold qf fr
  simp_arith []
  refine ⟨mulw (a := a) (b := b) h1.1 (by simpa using h2.2) (by omega), mulw (a := b) (b := a) h2.1 (by simpa using h1.2) (by omega), ?_, trivial⟩
  simp only [Rat.lt_iff]
def errI (v : P) : Xn := ⟨"InvalidChance", some ("index", v)⟩
theorem check_chanceR {p : P} {k : Nat} (h : Pl p = true) (hk : k < 100) : W (T "check_chance" [.p p, .p (.int k)] S) (fun u S' => chF p k = none ∧ u = .p .non ∧ S' = S) (fun x S' => ∃ v, chF p k = some v ∧ x = errI v ∧ S' = S) := by
  rw [K.check_chance]
  refine W_def ?_
  simp only [t_check_chance]
  simp_arith [ty_tuple, isi_tupA h]
  cases p with
  | tup l =>
    simp only [isT, Bool.not_true]
    simp_arith []
    by_cases c : l.length = k
    · rw [show (!decide ((l.length : Int) = (k : Int))) = false by simp; omega]
      have hl := PlA_all.mp (show PlA l = true from h)
      simp_arith [enum_tup]
      rw [nums_F]
      refine W_forL (fun r ρ S' => S' = S ∧ ∃ (i : Nat) (t : Rat) (m : List P) (u3 u4 : Option U), i + m.length = k ∧ (∀ x ∈ m, Pl x = true) ∧ r = numsF i m ∧ Sz (21 * i + 1) t ∧ chF (.tup l) k = fault m i t ∧ ρ = [some (.p (.tup l)), some (.p (.int k)), some (.p (qf t)), u3, u4]) _ _ _ ⟨rfl, 0, 0, l, none, none, by omega, hl, rfl, ⟨by decide, by decide⟩, by rw [chF, if_pos c], rfl⟩ ?_ ?_
      · rintro y r ρ S' ⟨rfl, i, t, m, u3, u4, h1, h2, h3, h4, h5, rfl⟩
        cases m with
        | nil => cases h3
        | cons x m =>
          obtain ⟨rfl, rfl⟩ := List.cons.inj h3
          refine ⟨_, rfl, ?_⟩
          rw [List.length_cons] at h1
          simp_arith [is_shareA K.toKc S' (h2 x (by simp))]
          cases cs : shareB x with
          | false =>
            simp_arith [Bool.not_false]
            exact ⟨_, by rw [h5, fault, cs, if_neg (by decide)], rfl, by simp⟩
          | true =>
            have fx : fracB x = true := ratio_frac K.toKc (by
              unfold shareB at cs
              rw [Bool.and_eq_true] at cs
              exact cs.1)
            have ex := frac_qf fx
            have z2 := (share_sz cs).1
            have z3 := plus_sz h4 z2
            have e1 : T "plus" [.p (qf t), .p x] S' = some (.ok (.p (qf (t + rq x))) S') := by
              have q := plusR K S' h4 z2 (by omega)
              rwa [← ex] at q
            have e2 : T "is_below" [.p (.tup [.int 1, .int 1]), .p (qf (t + rq x))] S' = some (.ok (.p (.bl (decide ((1 : Rat) < t + rq x)))) S') := belowR K S' (p := 1) (a := 1) ⟨by decide, by decide⟩ z3 (by omega)
            simp_arith [Bool.not_true, e1, e2]
            by_cases c2 : 1 < t + rq x
            · rw [decide_eq_true c2]
              simp_arith []
              exact ⟨_, by rw [h5, fault, cs, if_pos rfl, if_pos c2], rfl, by simp⟩
            · rw [decide_eq_false c2]
              simp_arith [ForQ]
              refine ⟨srcOk_nn, trivial, i + 1, t + rq x, m, _, _, by omega, fun x z => h2 x (List.mem_cons_of_mem _ z), rfl, z3.mono (by omega), ?_, rfl⟩
              rw [h5, fault, cs, if_pos rfl, if_neg c2]
      · rintro ρ S' ⟨rfl, i, t, m, u3, u4, h1, h2, h3, h4, h5, rfl⟩
        cases m with
        | cons x m => cases h3
        | nil =>
          have e2 : T "is_below" [.p (qf t), .p (.tup [.int 1, .int 1])] S' = some (.ok (.p (.bl (decide (t < (1 : Rat))))) S') := belowR K S' (q := 1) (b := 1) h4 ⟨by decide, by decide⟩ (by omega)
          simp_arith [e2]
          by_cases c2 : t < 1
          · rw [decide_eq_true c2]
            simp_arith []
            exact ⟨_, by rw [h5, fault, if_pos c2], rfl, by simp⟩
          · rw [decide_eq_false c2]
            simp_arith []
            exact ⟨by rw [h5, fault, if_neg c2], trivial, trivial⟩
    · rw [show (!decide ((l.length : Int) = (k : Int))) = true by simp; omega]
      simp_arith []
      exact ⟨_, by rw [chF, if_neg c], rfl, by simp⟩
  | _ => (simp only [isT, Bool.not_false]; simp_arith []; exact ⟨_, rfl, rfl, by simp⟩)
end
/-- the sum of fractions -/
def rsum : List Rat → Rat
  | [] => 0
  | c :: cs => c + rsum cs
theorem mk_mul (x : Int) (c : Rat) : mkRat (x * c.num) c.den = (x : Rat) * c := by
  rw [Rat.mul_def, Rat.normalize_eq_mkRat, Rat.num_intCast, Rat.den_intCast, Nat.one_mul]
theorem rsum_zip : ∀ (xs : List Int) (cs : List Rat), rsum ((xs.zip cs).map fun q => (q.1 : Rat) * q.2) = wsum xs cs
  | [], _ => rfl
  | x :: xs, [] => rfl
  | x :: xs, c :: cs => by
    show (x : Rat) * c + rsum ((xs.zip cs).map _) = (x : Rat) * c + wsum xs cs
    rw [rsum_zip xs cs]
section
variable {T : Tab} (K : Kw T) (S : Sto)
include K
theorem totalR {s : Nat} {cs : List Rat} (hc : ∀ c ∈ cs, Sz s c) (hs : cs.length * (s + 1) + s + 1 < 8000) : T "total" [.p (.lst (cs.map qf))] S = some (.ok (.p (qf (rsum cs))) S) := by
  rw [K.total]
  refine W_say (W_def ?_)
  simp only [t_total]
  simp_arith []
  refine W_forL (fun r ρ S' => S' = S ∧ ∃ (i : Nat) (t : Rat) (m : List Rat) (u : Option U), i + m.length = cs.length ∧ (∀ c ∈ m, Sz s c) ∧ r = m.map qf ∧ Sz (i * (s + 1) + 1) t ∧ t + rsum m = rsum cs ∧ ρ = [some (.p (.lst (cs.map qf))), some (.p (qf t)), u]) _ _ _ ⟨rfl, 0, 0, cs, none, by omega, hc, rfl, ⟨by rw [Nat.zero_mul]; decide, by rw [Nat.zero_mul]; decide⟩, by grind, rfl⟩ ?_ ?_
  · rintro y r ρ S' ⟨rfl, i, t, m, u, h1, h2, h3, h4, h5, rfl⟩
    cases m with
    | nil => cases h3
    | cons c m =>
      obtain ⟨rfl, rfl⟩ := List.cons.inj h3
      refine ⟨_, rfl, ?_⟩
      rw [List.length_cons] at h1
      have z2 := h2 c (by simp)
      have b1 : i * (s + 1) ≤ cs.length * (s + 1) := Nat.mul_le_mul_right _ (by omega)
      simp_arith [plusR K S' h4 z2 (by omega), ForQ]
      refine ⟨srcOk_nn, trivial, i + 1, t + c, m, _, by omega, fun x z => h2 x (List.mem_cons_of_mem _ z), rfl, (plus_sz h4 z2).mono (by rw [Nat.add_mul]; omega), ?_, rfl⟩
      rw [← h5]
      show t + c + rsum m = t + (c + rsum m)
      grind
  · rintro ρ S' ⟨rfl, i, t, m, u, h1, h2, h3, h4, h5, rfl⟩
    cases m with
    | cons c m => cases h3
    | nil =>
      simp_arith []
      rw [← h5, show t + rsum [] = t by show t + 0 = t; grind]
      (first | trivial | exact ⟨rfl, trivial⟩ | exact ⟨rfl, rfl⟩ | exact ⟨trivial, trivial⟩)
theorem weighedR {s : Nat} {xs : List Int} {cs : List Rat} (hl : xs.length = cs.length) (hk : xs.length < 1000) (hx : ∀ x ∈ xs, x.natAbs < 2 ^ 40) (hc : ∀ c ∈ cs, Sz s c) (hs : cs.length * (s + 41) + s + 41 < 8000) :
    T "weighed" [.p (inP' xs), .p (.tup (cs.map qf))] S = some (.ok (.p (qf (wsum xs cs))) S) := by
  rw [K.weighed]
  refine W_say (W_def ?_)
  simp only [t_weighed]
  simp_arith []
  refine W_mapZ (xs.zip cs) (fun q => .tup [.int q.1, qf q.2]) (fun q => qf ((q.1 : Rat) * q.2)) ?_ (by rw [List.length_zip]; omega) ?_ ?_
  · simp_arith []
    have e : zipOf [.p (inP' xs), .p (.tup (cs.map qf))] S = some ⟨(xs.zip cs).map fun q => .tup [.int q.1, qf q.2], none⟩ := by
      show some (⟨prs (xs.map .int) (cs.map qf), none⟩ : Sq) = _
      unfold prs
      rw [List.zip_map, List.map_map]
      rfl
    rw [e, SqQ_some]
    exact ⟨rfl, rfl⟩
  · rintro ⟨x, c⟩ hm acc
    have hx1 := hx x (List.of_mem_zip hm).1
    have hc1 := hc c (List.of_mem_zip hm).2
    refine ⟨_, rfl, ?_⟩
    simp_arith []
    refine ⟨mulw (a := 40) (b := s) hx1 hc1.1 (by omega), ?_⟩
    refine W_of (ratioR K (S ++ [acc]) c.den_nz hc1.2 (by omega)) ?_
    rw [mk_mul]
    (first | trivial | exact ⟨rfl, trivial⟩ | exact ⟨rfl, rfl⟩ | exact ⟨trivial, trivial⟩)
  · rw [if_neg (by decide)]
    have e : ((xs.zip cs).map fun q => qf ((q.1 : Rat) * q.2)) = ((xs.zip cs).map fun q => (q.1 : Rat) * q.2).map qf := by rw [List.map_map]; rfl
    rw [e]
    have hn : min xs.length cs.length = cs.length := by omega
    have e2 := totalR K S (s := s + 40) (cs := (xs.zip cs).map fun q => (q.1 : Rat) * q.2) (fun c hm => by
      obtain ⟨⟨x, c⟩, hm2, rfl⟩ := List.mem_map.mp hm
      have q := times_sz (sz_int (hx x (List.of_mem_zip hm2).1) (by decide)) (hc c (List.of_mem_zip hm2).2)
      exact q.mono (by omega)) (by rw [List.length_map, List.length_zip, hn]; simp only [Nat.add_assoc] at hs ⊢; omega)
    rw [e2, W_ok, rsum_zip]
    try simp_arith []
    (first | trivial | exact ⟨rfl, trivial⟩ | exact ⟨rfl, rfl⟩ | exact ⟨trivial, trivial⟩)
end
end Lb
end
section
set_option Elab.async false
set_option linter.all false
set_option maxRecDepth 100000
set_option maxHeartbeats 1000000
local macro_rules
  | `(tactic| simp_arith [$ls,*]) => `(tactic| simp only [↓Ev.q_var, ↓Ev.q_glo, ↓Ev.q_cst, ↓Ev.q_bin, ↓Ev.q_neg, ↓Ev.q_cmp, ↓Ev.q_cmp2, ↓Ev.q_and, ↓Ev.q_and1, ↓Ev.q_andm, ↓Ev.q_or, ↓Ev.q_or1, ↓Ev.q_orm, ↓Ev.q_not, ↓Ev.q_ite, ↓Ev.q_blt, ↓Ev.q_gcd, ↓Ev.q_call, ↓Ev.q_make, ↓Ev.q_callK, ↓Ev.q_makeK, ↓Ev.q_tup, ↓Ev.q_lst, ↓Ev.q_cel, ↓Ev.q_idx, ↓Ev.q_sli, ↓Ev.q_app, ↓Ev.q_isi, ↓Ev.q_repr, ↓Ev.q_fld, ↓Ev.q_isc, ↓Ev.q_isx, ↓Ev.q_isb, ↓Ev.q_erf, ↓Ev.q_rev, ↓Ev.q_fstr, ↓Ev.q_fnil, ↓Ev.q_ftxt, ↓Ev.q_fval, ↓Ev.q_nil, ↓Ev.q_cons, ↓Ev.q_no, ↓Ev.q_so, ↓Ev.q_tru, ↓Ev.q_tcmp, ↓Ev.q_tcmp2, ↓Ev.q_tnot, ↓Ev.q_tand, ↓Ev.q_tor, ↓Ev.q_tand1, ↓Ev.q_tor1, ↓Ev.q_tandm, ↓Ev.q_torm, ↓Ev.q_cno, ↓Ev.q_cso, ↓Ev.q_iseq, ↓Ev.q_rng1, ↓Ev.q_rng2, ↓Ev.q_zip, ↓Ev.q_enum, ↓Ev.q_snil, ↓Ev.q_scons, ↓Ev.q_pass, ↓Ev.q_brk, ↓Ev.q_cont, ↓Ev.q_ret, ↓Ev.q_retN, ↓Ev.q_raise, ↓Ev.q_if, ↓Ev.q_set, ↓Ev.q_asg, ↓Ev.q_drop, ↓Ev.q_par, ↓Ev.q_for, ↓Ev.q_setI, ↓Ev.q_setIN, ↓Ev.q_augI, ↓Ev.q_emp, ↓Ev.q_addC, ↓Ev.q_lidx, ↓Ev.q_lcnt, ↓Ev.AddQ_some, ↓Ev.W_ok, ↓Ev.SeqQ_nx, ↓Ev.SeqQ_rt, ↓Ev.SeqQ_bk, ↓Ev.SeqQ_ct, ↓Ev.OutQ_nx, ↓Ev.OutQ_rt, ↓Ev.TrQ_p, ↓Ev.VarQ_some, ↓Ev.LifQ_some, ↓Ev.LibQ_some, ↓Ev.IfQ_t, ↓Ev.IfQ_f, ↓Ev.AndQ_some, ↓Ev.SqQ_some, ↓Ev.StoQ_some, ↓Ev.EnQ_some, ↓Ev.C2Q_bl, ↓Ev.CelQ_some, ↓Ev.FmtQ_some, ↓Ev.ParQ_2, ↓Ev.b_mul, ↓Ev.b_div, ↓Ev.b_mod, ↓Ev.dm_blt, ↓Ev.f_int, ↓Ev.f_str, ↓Ev.s_int, ↓Ev.q_comp, ↓Ev.q_prop, ↓Ev.q_ostr, ↓Ev.q_orepr, ↓Ev.q_ocmpT, ↓Ev.q_ocmpF, ↓Ev.q_join, ↓Ev.q_tocmp, ↓Ev.q_totru, ↓Ev.b_addS, ↓Ev.b_addL, ↓Ev.b_addTQ, ↓Ev.q_setK, ↓Ev.q_while, Ev.VarQ_some, Ev.LifQ_some, Ev.LibQ_some, Ev.IfQ_t, Ev.IfQ_f, Ev.AndQ_some, Ev.SqQ_some, Ev.StoQ_some, Ev.EnQ_some, Ev.C2Q_bl, Ev.CelQ_some, Ev.OrdQ_some, Ev.FmtQ_some, Ev.ParQ_2, Ev.b_add, Ev.b_sub, Ev.c_lt, Ev.c_le, Ev.c_gt, Ev.c_ge, Ev.c_eq, Ev.c_ne, Ev.bl_of, Ev.v_neg, Ev.t_bl, Ev.t_int, Ev.t_tup, Ev.t_lst, Ev.t_non, Ev.ix_tup, Ev.ix_lst, Ev.ix_scr, Ev.at_0, Ev.at_1, Ev.at_2, Ev.l_tup, Ev.l_lst, Ev.len_blt, Ev.abs_blt, Ev.max_blt, Ev.min_blt, Ev.int_blt, Ev.tup_blt, Ev.lst_blt, Ev.gcd_int, Ev.seq_tup, Ev.seq_lst, Ev.seq_scr, Ev.ps0, Ev.ps1, Ev.ps2, Ev.ps3, Ev.ps4, Ev.ps5, Option.map_some, Option.map_none, List.getElem?_cons_zero, List.getElem?_cons_succ, List.set_cons_zero, List.set_cons_succ, List.map_cons, List.map_nil, List.cons_append, List.nil_append, List.length_cons, List.length_nil, List.length_set, List.replicate_succ, List.replicate_zero, Nat.reduceAdd, Nat.reduceSub, Nat.reduceLT, Nat.reduceLeDiff, Nat.sub_self, Ev.take_all, Ev.take_setS, Ev.take_app, Ev.take_setapp, Ev.ObQ_obj, Ev.TxQ_str, Ev.noex_ok, Ev.txtB_ok, Ev.truB_ok, Ev.notB_ok, Ev.ok_obj, Ev.ok_int, Ev.ok_str, Ev.ok_tup, Ev.ok_non, Ev.b_pow18, Ev.cut_tup, Ev.cut_lst, Ev.cut_scr, Ev.rev_tup, Ev.as_tup1, List.set_set, Ev.wipeE, Ev.asg_nm, Ev.asg_tp, Ev.asgs_nil, Ev.asgs_c1, $ls,*])
  | `(tactic| simp_arith [$ls,*] at $h:ident) => `(tactic| simp only [↓Ev.q_var, ↓Ev.q_glo, ↓Ev.q_cst, ↓Ev.q_bin, ↓Ev.q_neg, ↓Ev.q_cmp, ↓Ev.q_cmp2, ↓Ev.q_and, ↓Ev.q_and1, ↓Ev.q_andm, ↓Ev.q_or, ↓Ev.q_or1, ↓Ev.q_orm, ↓Ev.q_not, ↓Ev.q_ite, ↓Ev.q_blt, ↓Ev.q_gcd, ↓Ev.q_call, ↓Ev.q_make, ↓Ev.q_callK, ↓Ev.q_makeK, ↓Ev.q_tup, ↓Ev.q_lst, ↓Ev.q_cel, ↓Ev.q_idx, ↓Ev.q_sli, ↓Ev.q_app, ↓Ev.q_isi, ↓Ev.q_repr, ↓Ev.q_fld, ↓Ev.q_isc, ↓Ev.q_isx, ↓Ev.q_isb, ↓Ev.q_erf, ↓Ev.q_rev, ↓Ev.q_fstr, ↓Ev.q_fnil, ↓Ev.q_ftxt, ↓Ev.q_fval, ↓Ev.q_nil, ↓Ev.q_cons, ↓Ev.q_no, ↓Ev.q_so, ↓Ev.q_tru, ↓Ev.q_tcmp, ↓Ev.q_tcmp2, ↓Ev.q_tnot, ↓Ev.q_tand, ↓Ev.q_tor, ↓Ev.q_tand1, ↓Ev.q_tor1, ↓Ev.q_tandm, ↓Ev.q_torm, ↓Ev.q_cno, ↓Ev.q_cso, ↓Ev.q_iseq, ↓Ev.q_rng1, ↓Ev.q_rng2, ↓Ev.q_zip, ↓Ev.q_enum, ↓Ev.q_snil, ↓Ev.q_scons, ↓Ev.q_pass, ↓Ev.q_brk, ↓Ev.q_cont, ↓Ev.q_ret, ↓Ev.q_retN, ↓Ev.q_raise, ↓Ev.q_if, ↓Ev.q_set, ↓Ev.q_asg, ↓Ev.q_drop, ↓Ev.q_par, ↓Ev.q_for, ↓Ev.q_setI, ↓Ev.q_setIN, ↓Ev.q_augI, ↓Ev.q_emp, ↓Ev.q_addC, ↓Ev.q_lidx, ↓Ev.q_lcnt, ↓Ev.AddQ_some, ↓Ev.W_ok, ↓Ev.SeqQ_nx, ↓Ev.SeqQ_rt, ↓Ev.SeqQ_bk, ↓Ev.SeqQ_ct, ↓Ev.OutQ_nx, ↓Ev.OutQ_rt, ↓Ev.TrQ_p, ↓Ev.VarQ_some, ↓Ev.LifQ_some, ↓Ev.LibQ_some, ↓Ev.IfQ_t, ↓Ev.IfQ_f, ↓Ev.AndQ_some, ↓Ev.SqQ_some, ↓Ev.StoQ_some, ↓Ev.EnQ_some, ↓Ev.C2Q_bl, ↓Ev.CelQ_some, ↓Ev.FmtQ_some, ↓Ev.ParQ_2, ↓Ev.b_mul, ↓Ev.b_div, ↓Ev.b_mod, ↓Ev.dm_blt, ↓Ev.f_int, ↓Ev.f_str, ↓Ev.s_int, ↓Ev.q_comp, ↓Ev.q_prop, ↓Ev.q_ostr, ↓Ev.q_orepr, ↓Ev.q_ocmpT, ↓Ev.q_ocmpF, ↓Ev.q_join, ↓Ev.q_tocmp, ↓Ev.q_totru, ↓Ev.b_addS, ↓Ev.b_addL, ↓Ev.b_addTQ, ↓Ev.q_setK, ↓Ev.q_while, Ev.VarQ_some, Ev.LifQ_some, Ev.LibQ_some, Ev.IfQ_t, Ev.IfQ_f, Ev.AndQ_some, Ev.SqQ_some, Ev.StoQ_some, Ev.EnQ_some, Ev.C2Q_bl, Ev.CelQ_some, Ev.OrdQ_some, Ev.FmtQ_some, Ev.ParQ_2, Ev.b_add, Ev.b_sub, Ev.c_lt, Ev.c_le, Ev.c_gt, Ev.c_ge, Ev.c_eq, Ev.c_ne, Ev.bl_of, Ev.v_neg, Ev.t_bl, Ev.t_int, Ev.t_tup, Ev.t_lst, Ev.t_non, Ev.ix_tup, Ev.ix_lst, Ev.ix_scr, Ev.at_0, Ev.at_1, Ev.at_2, Ev.l_tup, Ev.l_lst, Ev.len_blt, Ev.abs_blt, Ev.max_blt, Ev.min_blt, Ev.int_blt, Ev.tup_blt, Ev.lst_blt, Ev.gcd_int, Ev.seq_tup, Ev.seq_lst, Ev.seq_scr, Ev.ps0, Ev.ps1, Ev.ps2, Ev.ps3, Ev.ps4, Ev.ps5, Option.map_some, Option.map_none, List.getElem?_cons_zero, List.getElem?_cons_succ, List.set_cons_zero, List.set_cons_succ, List.map_cons, List.map_nil, List.cons_append, List.nil_append, List.length_cons, List.length_nil, List.length_set, List.replicate_succ, List.replicate_zero, Nat.reduceAdd, Nat.reduceSub, Nat.reduceLT, Nat.reduceLeDiff, Nat.sub_self, Ev.take_all, Ev.take_setS, Ev.take_app, Ev.take_setapp, Ev.ObQ_obj, Ev.TxQ_str, Ev.noex_ok, Ev.txtB_ok, Ev.truB_ok, Ev.notB_ok, Ev.ok_obj, Ev.ok_int, Ev.ok_str, Ev.ok_tup, Ev.ok_non, Ev.b_pow18, Ev.cut_tup, Ev.cut_lst, Ev.cut_scr, Ev.rev_tup, Ev.as_tup1, List.set_set, Ev.wipeE, Ev.asg_nm, Ev.asg_tp, Ev.asgs_nil, Ev.asgs_c1, $ls,*] at $h:ident)
/-! worth() -/
namespace Lb
open PySem Ev L2 Lt La
structure Kh (T : Tab) : Prop extends Kw T where
  is_any_payoff : T "is_any_payoff" = fDef 3 (dS T t_is_any_payoff.body)
  check_any_payoff : T "check_any_payoff" = fDef 1 (dS T t_check_any_payoff.body)
  worth : T "worth" = fDef 2 (dS T t_worth.body)
def anyGain (p : P) : Bool := match p with
  | .tup l => decide (2 ≤ l.length) && decide (l.length ≤ 6) && l.all (inR · (-1000) 1000)
  | _ => false
def plen : P → Nat
  | .tup l => l.length
  | _ => 0
def intOf : P → Int
  | .int i => i
  | _ => 0
def gInts : P → List Int
  | .tup l => l.map intOf
  | _ => []
def rats : P → List Rat
  | .tup l => l.map rq
  | _ => []
theorem any_gain (p : P) : (gainB p 2 || (gainB p 3 || (gainB p 4 || (gainB p 5 || (gainB p 6 || false))))) = anyGain p := by
  cases p with
  | tup l =>
    simp only [gainB, anyGain]
    cases c : l.all (inR · (-1000) 1000) with
    | false => simp
    | true =>
      simp only [Bool.and_true, Bool.or_false]
      rw [Bool.eq_iff_iff]
      simp only [Bool.or_eq_true, Bool.and_eq_true, decide_eq_true_eq]
      omega
  | _ => rfl
theorem inR_is {p : P} {a b : Int} (h : inR p a b = true) : p = .int (intOf p) ∧ a ≤ intOf p ∧ intOf p ≤ b := by
  unfold inR at h
  split at h
  · simp only [Bool.and_eq_true, decide_eq_true_eq] at h
    exact ⟨rfl, h⟩
  · cases h
theorem map_ints {l : List P} {a b : Int} (h : l.all (inR · a b) = true) : l = (l.map intOf).map .int ∧ ∀ x ∈ l.map intOf, a ≤ x ∧ x ≤ b := by
  rw [List.all_eq_true] at h
  refine ⟨?_, fun x hx => ?_⟩
  · rw [List.map_map]
    have : l.map (P.int ∘ intOf) = l.map id := List.map_congr_left fun x hx => (inR_is (h x hx)).1.symm
    rw [this, List.map_id]
  · obtain ⟨y, hy, rfl⟩ := List.mem_map.mp hx
    exact (inR_is (h y hy)).2
theorem gain_is {p : P} (h : anyGain p = true) : p = inP' (gInts p) ∧ plen p = (gInts p).length ∧ 2 ≤ (gInts p).length ∧ (gInts p).length ≤ 6 ∧ ∀ x ∈ gInts p, x.natAbs ≤ 1000 := by
  cases p with
  | tup l =>
    simp only [anyGain, Bool.and_eq_true, decide_eq_true_eq] at h
    obtain ⟨⟨h1, h2⟩, h3⟩ := h
    obtain ⟨e1, e2⟩ := map_ints h3
    refine ⟨congrArg P.tup e1, by simp [plen, gInts], by simpa [gInts] using h1, by simpa [gInts] using h2, fun x hx => ?_⟩
    have := e2 x hx
    omega
  | _ => cases h
theorem fault_none : ∀ (l : List P) (i : Nat) (t : Rat), t ≤ 1 → fault l i t = none → (∀ x ∈ l, shareB x = true) ∧ t + rsum (l.map rq) = 1
  | [], i, t, ht, h => by
    unfold fault at h
    split at h
    · cases h
    · rename_i c
      refine ⟨fun x hx => (by cases hx), ?_⟩
      show t + 0 = 1
      grind
  | x :: r, i, t, ht, h => by
    unfold fault at h
    split at h
    · rename_i c1
      split at h
      · cases h
      · rename_i c2
        obtain ⟨g1, g2⟩ := fault_none r (i + 1) (t + rq x) (by grind) h
        refine ⟨fun y hy => ?_, ?_⟩
        · rcases List.mem_cons.mp hy with rfl | hy
          · exact c1
          · exact g1 y hy
        · rw [← g2]
          show t + (rq x + rsum (r.map rq)) = _
          grind
    · cases h
theorem share_frac {p : P} (h : shareB p = true) : fracB p = true := by
  unfold shareB ratioB at h
  simp only [Bool.and_eq_true] at h
  exact h.1.1
theorem chance_is {p : P} {k : Nat} (h : chF p k = none) : p = .tup ((rats p).map qf) ∧ (rats p).length = k ∧ (∀ c ∈ rats p, Sz 20 c) ∧ rsum (rats p) = 1 := by
  cases p with
  | tup l =>
    unfold chF at h
    dsimp only at h
    split at h
    · rename_i c
      obtain ⟨g1, g2⟩ := fault_none l 0 0 (by decide) h
      refine ⟨?_, by simpa [rats] using c, fun q hq => ?_, ?_⟩
      · show P.tup l = P.tup ((l.map rq).map qf)
        rw [List.map_map]
        have : l.map (qf ∘ rq) = l.map id := List.map_congr_left fun x hx => (frac_qf (share_frac (g1 x hx))).symm
        rw [this, List.map_id]
      · obtain ⟨x, hx, rfl⟩ := List.mem_map.mp hq
        exact (share_sz (g1 x hx)).1
      · show rsum (l.map rq) = 1
        rw [← g2]; grind
    · cases h
  | _ => cases h
def worthM (g r : P) : Sum Xn P := if anyGain g = true then (match chF r (plen g) with
  | some v => .inl (errI v)
  | none => .inr (qf (wsum (gInts g) (rats r)))) else .inl ⟨"InvalidPayoff", some ("given", g)⟩
def resM (x : Sum Xn P) (S : Sto) : M U := match x with
  | .inl x => some (.ex x S)
  | .inr p => some (.ok (.p p) S)
section
variable {T : Tab} (K : Kh T) (S : Sto)
include K
theorem is_any_payoffA {p : P} (h : Pl p = true) : T "is_any_payoff" [.p p] S = some (.ok (.p (.bl (anyGain p))) S) := by
  rw [K.is_any_payoff]
  refine W_say (W_def ?_)
  simp only [t_is_any_payoff]
  simp_arith []
  refine W_map [.int 2, .int 3, .int 4, .int 5, .int 6] (fun x => .bl (gainB p (intOf x).toNat)) ?_ (by decide) ?_ ?_
  · simp_arith []
    have e : rng2Of [.p (.int 2), .p (.int (6 + 1))] S = some ⟨[.int 2, .int 3, .int 4, .int 5, .int 6], none⟩ := by rfl
    rw [e, SqQ_some]
    exact ⟨rfl, rfl⟩
  · intro x hx acc
    obtain ⟨k, hk, rfl⟩ : ∃ k : Nat, k < 100 ∧ x = .int k := by
      simp only [List.mem_cons, List.not_mem_nil, or_false] at hx
      rcases hx with rfl | rfl | rfl | rfl | rfl
      · exact ⟨2, by decide, rfl⟩
      · exact ⟨3, by decide, rfl⟩
      · exact ⟨4, by decide, rfl⟩
      · exact ⟨5, by decide, rfl⟩
      · exact ⟨6, by decide, rfl⟩
    refine ⟨_, rfl, ?_⟩
    simp_arith [is_payoffA K.toKc (S ++ [acc]) h k (by omega)]
    exact ⟨by simp [intOf], trivial⟩
  · rw [if_neg (by decide), show ([.int 2, .int 3, .int 4, .int 5, .int 6].map fun x => P.bl (gainB p (intOf x).toNat)) = [gainB p 2, gainB p 3, gainB p 4, gainB p 5, gainB p 6].map .bl by rfl, any_lst]
    simp_arith []
    exact ⟨by rw [← any_gain p]; rfl, trivial⟩
theorem check_any_payoffA {p : P} (h : Pl p = true) : T "check_any_payoff" [.p p] S = if anyGain p = true then some (.ok (.p .non) S) else some (.ex ⟨"InvalidPayoff", some ("given", p)⟩ S) := by
  rw [K.check_any_payoff]
  cases c : anyGain p with
  | true =>
    rw [if_pos rfl]
    refine W_say (W_def ?_)
    simp only [t_check_any_payoff]
    simp_arith [is_any_payoffA K S h, c, Bool.not_true]
    (first | trivial | exact ⟨rfl, trivial⟩ | exact ⟨rfl, rfl⟩ | exact ⟨trivial, trivial⟩)
  | false =>
    rw [if_neg (by decide)]
    refine W_saysX (W_def ?_)
    simp only [t_check_any_payoff]
    simp_arith [is_any_payoffA K S h, c, Bool.not_false]
    (first | trivial | exact ⟨rfl, trivial⟩ | exact ⟨rfl, rfl⟩ | exact ⟨trivial, trivial⟩)
theorem worthA {g r : P} (hg : Pl g = true) (hr : Pl r = true) : T "worth" [.p g, .p r] S = resM (worthM g r) S := by
  rw [K.worth]
  unfold worthM
  cases c : anyGain g with
  | false =>
    rw [if_neg (by decide)]
    refine W_saysX (W_def ?_)
    simp only [t_worth]
    simp_arith []
    refine W_exE (check_any_payoffA K S hg |>.trans (by rw [c]; rfl)) ?_
    exact ⟨rfl, by simp⟩
  | true =>
    rw [if_pos rfl]
    obtain ⟨e1, e2, e3, e4, e5⟩ := gain_is c
    have ck : T "check_any_payoff" [.p g] S = some (.ok (.p .non) S) := check_any_payoffA K S hg |>.trans (by rw [c]; rfl)
    have el : lenP [.p g] S = some (.int (plen g)) := by
      cases g with
      | tup l => rfl
      | _ => cases c
    cases cf : chF r (plen g) with
    | some v =>
      refine W_saysX (W_def ?_)
      simp only [t_worth]
      simp_arith [ck, el]
      refine W_mono (check_chanceR K.toKw S (k := plen g) hr (by omega)) (fun u S' z => ?_) fun x S' z => ?_
      · rw [cf] at z; cases z.1
      · obtain ⟨v', z1, rfl, rfl⟩ := z
        rw [cf] at z1
        cases z1
        exact ⟨rfl, by simp⟩
    | none =>
      obtain ⟨f1, f2, f3, f4⟩ := chance_is cf
      refine W_say (W_def ?_)
      simp only [t_worth]
      simp_arith [ck, el]
      refine W_mono (check_chanceR K.toKw S (k := plen g) hr (by omega)) (fun u S' z => ?_) fun x S' z => ?_
      · obtain ⟨z1, rfl, rfl⟩ := z
        try simp_arith []
        have w := weighedR K.toKw S' (s := 20) (xs := gInts g) (cs := rats r) (by omega) (by omega) (fun x hx => by have := e5 x hx; omega) f3 (by rw [f2, e2]; omega)
        rw [← e1, ← f1] at w
        simp_arith [w]
        (first | trivial | exact ⟨rfl, trivial⟩ | exact ⟨rfl, rfl⟩ | exact ⟨trivial, trivial⟩)
      · obtain ⟨v', z1, _⟩ := z
        rw [cf] at z1
        cases z1
end
end Lb
end
section
set_option Elab.async false
set_option linter.all false
set_option maxRecDepth 100000
set_option maxHeartbeats 1000000
/-! repr of values of any kind -/
namespace Lb
open PySem Ev L2 Lt
structure Fb (w n : Nat) (d : PyData) : Prop where
  sh : d.showable = true
  hd : d.hasDict = false
  dp : d.depth ≤ n
  ls : d.leavesShort 200 = true
  wt : d.weight ≤ w
  ok : Ok d.shown
mutual
/-- data that repr tells: no great numbers, signs that are signs -/
def okP : P → Bool
  | .non => true
  | .bl _ => true
  | .int i => decide (i.natAbs < 2 ^ 600)
  | .str x => PyData.strOk x && decide (x.length ≤ 100)
  | .tup l => okPs l
  | .lst l => okPs l
  | _ => false
def okPs : List P → Bool
  | [] => true
  | p :: l => okP p && okPs l
end
mutual
def wtP : P → Nat
  | .tup l => wtPs l
  | .lst l => wtPs l
  | _ => 700
def wtPs : List P → Nat
  | [] => 0
  | p :: l => wtP p + 1 + wtPs l
end
mutual
def dpP : P → Nat
  | .tup l => dpPs l + 1
  | .lst l => dpPs l + 1
  | _ => 0
def dpPs : List P → Nat
  | [] => 0
  | p :: l => max (dpP p) (dpPs l)
end
theorem strOk_Ok {s : Str} (h : PyData.strOk s = true) : Ok s := fun c hc => by
  unfold PyData.strOk at h
  rw [Array.all_eq_true'] at h
  exact of_decide_eq_true (h c (Array.mem_toList_iff.mp hc))
theorem Fb.int {i : Int} (h : i.natAbs < 2 ^ 600) : Fb 700 0 (.int i) := by
  have l2 : i.natAbs.log2 < 600 := by
    by_cases e : i.natAbs = 0
    · rw [e]; decide
    · exact (Nat.log2_lt e).mpr h
  have h10 : i.natAbs < 10 ^ 190 := Nat.lt_trans h (by decide +kernel)
  refine ⟨by simp only [PyData.showable]; exact decide_eq_true (by omega), by simp only [PyData.hasDict], Nat.le_refl _, ?_, ?_, ?_⟩
  · simp only [PyData.leavesShort]
    refine decide_eq_true ?_
    have e := int_text_length_le10 (k := 190) (by decide) h10
    show (Str.ofString (toString i)).length ≤ 200
    rw [ofString_length]; omega
  · simp only [PyData.weight]
    split
    · omega
    · omega
  · rw [PyData.shown_int]
    exact Ok.dec i
theorem Fb.non : Fb 700 0 .none := ⟨by simp only [PyData.showable], by simp only [PyData.hasDict], Nat.le_refl _, by simp only [PyData.leavesShort], by simp only [PyData.weight]; omega, Ok.lit "None" (by decide +kernel)⟩
theorem Fb.bl (b : Bool) : Fb 700 0 (.bool b) := ⟨by simp only [PyData.showable], by simp only [PyData.hasDict], Nat.le_refl _, by simp only [PyData.leavesShort], by simp only [PyData.weight]; omega, by
  cases b
  · exact Ok.lit "False" (by decide +kernel)
  · exact Ok.lit "True" (by decide +kernel)⟩
theorem Fb.str {s : Str} (h : Ok s) (hl : s.length ≤ 100) : Fb 700 0 (.str s) := by
  refine ⟨by simp only [PyData.showable], by simp only [PyData.hasDict], Nat.le_refl _, ?_, ?_, ?_⟩
  · simp only [PyData.leavesShort]
    rw [List.all_eq_true]
    intro c hc
    exact decide_eq_true (Nat.lt_trans (h c hc) (by decide))
  · simp only [PyData.weight]
    have : s.cps.size = s.length := rfl
    omega
  · rw [PyData.shown_str]; exact h.reprText
structure FbA (w n : Nat) (xs : List PyData) : Prop where
  sh : PyData.showableAll xs = true
  hd : PyData.hasDictAll xs = false
  dp : PyData.depthAll xs ≤ n
  ls : PyData.leavesShortAll 200 xs = true
  wt : PyData.weightAll xs ≤ w
  ok : ∀ x ∈ PyData.shownAll xs, Ok x
theorem FbA.nil : FbA 0 0 [] := ⟨by simp only [PyData.showableAll], by simp only [PyData.hasDictAll], Nat.zero_le _, by simp only [PyData.leavesShortAll], by simp only [PyData.weightAll]; omega, fun x hx => by rw [PyData.shownAll_nil] at hx; cases hx⟩
theorem FbA.cons {w n w' n' : Nat} {d : PyData} {xs : List PyData} (g : Fb w n d) (h : FbA w' n' xs) : FbA (w + 1 + w') (max n n') (d :: xs) := by
  refine ⟨by simp only [PyData.showableAll, g.sh, h.sh, Bool.and_self], by simp only [PyData.hasDictAll, g.hd, h.hd, Bool.or_self], ?_, by simp only [PyData.leavesShortAll, g.ls, h.ls, Bool.and_self], ?_, fun y hy => ?_⟩
  · rw [PyData.depthAll]
    exact Nat.max_le.mpr ⟨Nat.le_trans g.dp (Nat.le_max_left _ _), Nat.le_trans h.dp (Nat.le_max_right _ _)⟩
  · rw [PyData.weightAll]
    have := g.wt
    have := h.wt
    omega
  · rw [PyData.shownAll_cons] at hy
    rcases List.mem_cons.mp hy with rfl | hy
    · exact g.ok
    · exact h.ok y hy
theorem FbA.tup {w n : Nat} {xs : List PyData} (h : FbA w n xs) : Fb w (n + 1) (.tuple xs) := by
  refine ⟨by simp only [PyData.showable, h.sh], by simp only [PyData.hasDict, h.hd], by have := h.dp; simp only [PyData.depth]; omega, by simp only [PyData.leavesShort, h.ls], by simp only [PyData.weight]; exact h.wt, ?_⟩
  rw [PyData.shown_tuple]
  refine ((Ok.lit "(" (by decide +kernel)).app (Ok.join (Ok.lit ", " (by decide +kernel)) h.ok)).app ?_
  split
  · exact Ok.lit ",)" (by decide +kernel)
  · exact Ok.lit ")" (by decide +kernel)
theorem FbA.lst {w n : Nat} {xs : List PyData} (h : FbA w n xs) : Fb w (n + 1) (.list xs) := by
  refine ⟨by simp only [PyData.showable, h.sh], by simp only [PyData.hasDict, h.hd], by have := h.dp; simp only [PyData.depth]; omega, by simp only [PyData.leavesShort, h.ls], by simp only [PyData.weight]; exact h.wt, ?_⟩
  rw [PyData.shown_list]
  exact ((Ok.lit "[" (by decide +kernel)).app (Ok.join (Ok.lit ", " (by decide +kernel)) h.ok)).app (Ok.lit "]" (by decide +kernel))
mutual
theorem okP_fb : ∀ {p : P}, okP p = true → ∃ d, toPy p = some d ∧ Fb (wtP p) (dpP p) d
  | .non, _ => ⟨_, rfl, by unfold wtP dpP; exact Fb.non⟩
  | .bl b, _ => ⟨_, rfl, by unfold wtP dpP; exact Fb.bl b⟩
  | .int i, h => ⟨_, rfl, by
    unfold okP at h
    unfold wtP dpP
    exact Fb.int (of_decide_eq_true h)⟩
  | .str x, h => ⟨_, rfl, by
    unfold okP at h
    rw [Bool.and_eq_true] at h
    unfold wtP dpP
    exact Fb.str (strOk_Ok h.1) (of_decide_eq_true h.2)⟩
  | .tup l, h => by
    unfold okP at h
    obtain ⟨ds, e, f⟩ := okPs_fb h
    exact ⟨.tuple ds, by unfold toPy; rw [e]; rfl, by unfold wtP dpP; exact f.tup⟩
  | .lst l, h => by
    unfold okP at h
    obtain ⟨ds, e, f⟩ := okPs_fb h
    exact ⟨.list ds, by unfold toPy; rw [e]; rfl, by unfold wtP dpP; exact f.lst⟩
  | .scr _, h => by unfold okP at h; cases h
  | .obj _ _, h => by unfold okP at h; cases h
  | .emp, h => by unfold okP at h; cases h
  | .err _ _, h => by unfold okP at h; cases h
theorem okPs_fb : ∀ {l : List P}, okPs l = true → ∃ ds, toPys l = some ds ∧ FbA (wtPs l) (dpPs l) ds
  | [], _ => ⟨[], rfl, by unfold wtPs dpPs; exact FbA.nil⟩
  | p :: l, h => by
    unfold okPs at h
    rw [Bool.and_eq_true] at h
    obtain ⟨d, e1, f1⟩ := okP_fb h.1
    obtain ⟨ds, e2, f2⟩ := okPs_fb h.2
    refine ⟨d :: ds, ?_, by unfold wtPs dpPs; exact FbA.cons f1 f2⟩
    unfold toPys
    rw [e1, e2]
end
/-- a value that repr tells -/
def ShP (p : P) : Prop := p = .emp ∨ (okP p = true ∧ wtP p ≤ 80000 ∧ dpP p ≤ 60)
/-- its text -/
theorem shp {p : P} (h : ShP p) : ∃ r : Str, (∀ S, reprP [.p p] S = some (.str r)) ∧ PyData.strOk r = true := by
  rcases h with rfl | ⟨h1, h2, h3⟩
  · exact ⟨"{}", fun S => rfl, by decide +kernel⟩
  · obtain ⟨d, e, f⟩ := okP_fb h1
    refine ⟨d.shown, fun S => ?_, f.ok.strOk⟩
    have e0 : reprP [.p p] S = (match toPy p with
        | some d => if d.showable = true ∧ d.hasDict = false ∧ d.depth ≤ 100 ∧ d.shown.length ≤ 16777216 then some (.str d.shown) else none
        | none => none) := by
      cases p <;> first | rfl | (simp [toPy] at e; done)
    rw [e0, e]
    dsimp only
    have := PyData.shown_le 200 (by decide) d f.ls
    have := f.wt
    rw [if_pos ⟨f.sh, f.hd, by have := f.dp; omega, by
      have : (200 + 2) * d.weight ≤ 202 * 80000 := Nat.mul_le_mul (by omega) (by omega)
      omega⟩]
end Lb
end
section
set_option Elab.async false
set_option linter.all false
set_option maxRecDepth 100000
set_option maxHeartbeats 1000000
local macro_rules
  | `(tactic| simp_arith [$ls,*]) => `(tactic| simp only [↓Ev.q_var, ↓Ev.q_glo, ↓Ev.q_cst, ↓Ev.q_bin, ↓Ev.q_neg, ↓Ev.q_cmp, ↓Ev.q_cmp2, ↓Ev.q_and, ↓Ev.q_and1, ↓Ev.q_andm, ↓Ev.q_or, ↓Ev.q_or1, ↓Ev.q_orm, ↓Ev.q_not, ↓Ev.q_ite, ↓Ev.q_blt, ↓Ev.q_gcd, ↓Ev.q_call, ↓Ev.q_make, ↓Ev.q_callK, ↓Ev.q_makeK, ↓Ev.q_tup, ↓Ev.q_lst, ↓Ev.q_cel, ↓Ev.q_idx, ↓Ev.q_sli, ↓Ev.q_app, ↓Ev.q_isi, ↓Ev.q_repr, ↓Ev.q_fld, ↓Ev.q_isc, ↓Ev.q_isx, ↓Ev.q_isb, ↓Ev.q_erf, ↓Ev.q_rev, ↓Ev.q_fstr, ↓Ev.q_fnil, ↓Ev.q_ftxt, ↓Ev.q_fval, ↓Ev.q_nil, ↓Ev.q_cons, ↓Ev.q_no, ↓Ev.q_so, ↓Ev.q_tru, ↓Ev.q_tcmp, ↓Ev.q_tcmp2, ↓Ev.q_tnot, ↓Ev.q_tand, ↓Ev.q_tor, ↓Ev.q_tand1, ↓Ev.q_tor1, ↓Ev.q_tandm, ↓Ev.q_torm, ↓Ev.q_cno, ↓Ev.q_cso, ↓Ev.q_iseq, ↓Ev.q_rng1, ↓Ev.q_rng2, ↓Ev.q_zip, ↓Ev.q_enum, ↓Ev.q_snil, ↓Ev.q_scons, ↓Ev.q_pass, ↓Ev.q_brk, ↓Ev.q_cont, ↓Ev.q_ret, ↓Ev.q_retN, ↓Ev.q_raise, ↓Ev.q_if, ↓Ev.q_set, ↓Ev.q_asg, ↓Ev.q_drop, ↓Ev.q_par, ↓Ev.q_for, ↓Ev.q_setI, ↓Ev.q_setIN, ↓Ev.q_augI, ↓Ev.q_emp, ↓Ev.q_addC, ↓Ev.q_lidx, ↓Ev.q_lcnt, ↓Ev.AddQ_some, ↓Ev.W_ok, ↓Ev.SeqQ_nx, ↓Ev.SeqQ_rt, ↓Ev.SeqQ_bk, ↓Ev.SeqQ_ct, ↓Ev.OutQ_nx, ↓Ev.OutQ_rt, ↓Ev.TrQ_p, ↓Ev.VarQ_some, ↓Ev.LifQ_some, ↓Ev.LibQ_some, ↓Ev.IfQ_t, ↓Ev.IfQ_f, ↓Ev.AndQ_some, ↓Ev.SqQ_some, ↓Ev.StoQ_some, ↓Ev.EnQ_some, ↓Ev.C2Q_bl, ↓Ev.CelQ_some, ↓Ev.FmtQ_some, ↓Ev.ParQ_2, ↓Ev.b_mul, ↓Ev.b_div, ↓Ev.b_mod, ↓Ev.dm_blt, ↓Ev.f_int, ↓Ev.f_str, ↓Ev.s_int, ↓Ev.q_comp, ↓Ev.q_prop, ↓Ev.q_ostr, ↓Ev.q_orepr, ↓Ev.q_ocmpT, ↓Ev.q_ocmpF, ↓Ev.q_join, ↓Ev.q_tocmp, ↓Ev.q_totru, ↓Ev.b_addS, ↓Ev.b_addL, ↓Ev.b_addTQ, ↓Ev.q_setK, ↓Ev.q_while, Ev.VarQ_some, Ev.LifQ_some, Ev.LibQ_some, Ev.IfQ_t, Ev.IfQ_f, Ev.AndQ_some, Ev.SqQ_some, Ev.StoQ_some, Ev.EnQ_some, Ev.C2Q_bl, Ev.CelQ_some, Ev.OrdQ_some, Ev.FmtQ_some, Ev.ParQ_2, Ev.b_add, Ev.b_sub, Ev.c_lt, Ev.c_le, Ev.c_gt, Ev.c_ge, Ev.c_eq, Ev.c_ne, Ev.bl_of, Ev.v_neg, Ev.t_bl, Ev.t_int, Ev.t_tup, Ev.t_lst, Ev.t_non, Ev.ix_tup, Ev.ix_lst, Ev.ix_scr, Ev.at_0, Ev.at_1, Ev.at_2, Ev.l_tup, Ev.l_lst, Ev.len_blt, Ev.abs_blt, Ev.max_blt, Ev.min_blt, Ev.int_blt, Ev.tup_blt, Ev.lst_blt, Ev.gcd_int, Ev.seq_tup, Ev.seq_lst, Ev.seq_scr, Ev.ps0, Ev.ps1, Ev.ps2, Ev.ps3, Ev.ps4, Ev.ps5, Option.map_some, Option.map_none, List.getElem?_cons_zero, List.getElem?_cons_succ, List.set_cons_zero, List.set_cons_succ, List.map_cons, List.map_nil, List.cons_append, List.nil_append, List.length_cons, List.length_nil, List.length_set, List.replicate_succ, List.replicate_zero, Nat.reduceAdd, Nat.reduceSub, Nat.reduceLT, Nat.reduceLeDiff, Nat.sub_self, Ev.take_all, Ev.take_setS, Ev.take_app, Ev.take_setapp, Ev.ObQ_obj, Ev.TxQ_str, Ev.noex_ok, Ev.txtB_ok, Ev.truB_ok, Ev.notB_ok, Ev.ok_obj, Ev.ok_int, Ev.ok_str, Ev.ok_tup, Ev.ok_non, Ev.b_pow18, Ev.cut_tup, Ev.cut_lst, Ev.cut_scr, Ev.rev_tup, Ev.as_tup1, List.set_set, Ev.wipeE, Ev.asg_nm, Ev.asg_tp, Ev.asgs_nil, Ev.asgs_c1, $ls,*])
  | `(tactic| simp_arith [$ls,*] at $h:ident) => `(tactic| simp only [↓Ev.q_var, ↓Ev.q_glo, ↓Ev.q_cst, ↓Ev.q_bin, ↓Ev.q_neg, ↓Ev.q_cmp, ↓Ev.q_cmp2, ↓Ev.q_and, ↓Ev.q_and1, ↓Ev.q_andm, ↓Ev.q_or, ↓Ev.q_or1, ↓Ev.q_orm, ↓Ev.q_not, ↓Ev.q_ite, ↓Ev.q_blt, ↓Ev.q_gcd, ↓Ev.q_call, ↓Ev.q_make, ↓Ev.q_callK, ↓Ev.q_makeK, ↓Ev.q_tup, ↓Ev.q_lst, ↓Ev.q_cel, ↓Ev.q_idx, ↓Ev.q_sli, ↓Ev.q_app, ↓Ev.q_isi, ↓Ev.q_repr, ↓Ev.q_fld, ↓Ev.q_isc, ↓Ev.q_isx, ↓Ev.q_isb, ↓Ev.q_erf, ↓Ev.q_rev, ↓Ev.q_fstr, ↓Ev.q_fnil, ↓Ev.q_ftxt, ↓Ev.q_fval, ↓Ev.q_nil, ↓Ev.q_cons, ↓Ev.q_no, ↓Ev.q_so, ↓Ev.q_tru, ↓Ev.q_tcmp, ↓Ev.q_tcmp2, ↓Ev.q_tnot, ↓Ev.q_tand, ↓Ev.q_tor, ↓Ev.q_tand1, ↓Ev.q_tor1, ↓Ev.q_tandm, ↓Ev.q_torm, ↓Ev.q_cno, ↓Ev.q_cso, ↓Ev.q_iseq, ↓Ev.q_rng1, ↓Ev.q_rng2, ↓Ev.q_zip, ↓Ev.q_enum, ↓Ev.q_snil, ↓Ev.q_scons, ↓Ev.q_pass, ↓Ev.q_brk, ↓Ev.q_cont, ↓Ev.q_ret, ↓Ev.q_retN, ↓Ev.q_raise, ↓Ev.q_if, ↓Ev.q_set, ↓Ev.q_asg, ↓Ev.q_drop, ↓Ev.q_par, ↓Ev.q_for, ↓Ev.q_setI, ↓Ev.q_setIN, ↓Ev.q_augI, ↓Ev.q_emp, ↓Ev.q_addC, ↓Ev.q_lidx, ↓Ev.q_lcnt, ↓Ev.AddQ_some, ↓Ev.W_ok, ↓Ev.SeqQ_nx, ↓Ev.SeqQ_rt, ↓Ev.SeqQ_bk, ↓Ev.SeqQ_ct, ↓Ev.OutQ_nx, ↓Ev.OutQ_rt, ↓Ev.TrQ_p, ↓Ev.VarQ_some, ↓Ev.LifQ_some, ↓Ev.LibQ_some, ↓Ev.IfQ_t, ↓Ev.IfQ_f, ↓Ev.AndQ_some, ↓Ev.SqQ_some, ↓Ev.StoQ_some, ↓Ev.EnQ_some, ↓Ev.C2Q_bl, ↓Ev.CelQ_some, ↓Ev.FmtQ_some, ↓Ev.ParQ_2, ↓Ev.b_mul, ↓Ev.b_div, ↓Ev.b_mod, ↓Ev.dm_blt, ↓Ev.f_int, ↓Ev.f_str, ↓Ev.s_int, ↓Ev.q_comp, ↓Ev.q_prop, ↓Ev.q_ostr, ↓Ev.q_orepr, ↓Ev.q_ocmpT, ↓Ev.q_ocmpF, ↓Ev.q_join, ↓Ev.q_tocmp, ↓Ev.q_totru, ↓Ev.b_addS, ↓Ev.b_addL, ↓Ev.b_addTQ, ↓Ev.q_setK, ↓Ev.q_while, Ev.VarQ_some, Ev.LifQ_some, Ev.LibQ_some, Ev.IfQ_t, Ev.IfQ_f, Ev.AndQ_some, Ev.SqQ_some, Ev.StoQ_some, Ev.EnQ_some, Ev.C2Q_bl, Ev.CelQ_some, Ev.OrdQ_some, Ev.FmtQ_some, Ev.ParQ_2, Ev.b_add, Ev.b_sub, Ev.c_lt, Ev.c_le, Ev.c_gt, Ev.c_ge, Ev.c_eq, Ev.c_ne, Ev.bl_of, Ev.v_neg, Ev.t_bl, Ev.t_int, Ev.t_tup, Ev.t_lst, Ev.t_non, Ev.ix_tup, Ev.ix_lst, Ev.ix_scr, Ev.at_0, Ev.at_1, Ev.at_2, Ev.l_tup, Ev.l_lst, Ev.len_blt, Ev.abs_blt, Ev.max_blt, Ev.min_blt, Ev.int_blt, Ev.tup_blt, Ev.lst_blt, Ev.gcd_int, Ev.seq_tup, Ev.seq_lst, Ev.seq_scr, Ev.ps0, Ev.ps1, Ev.ps2, Ev.ps3, Ev.ps4, Ev.ps5, Option.map_some, Option.map_none, List.getElem?_cons_zero, List.getElem?_cons_succ, List.set_cons_zero, List.set_cons_succ, List.map_cons, List.map_nil, List.cons_append, List.nil_append, List.length_cons, List.length_nil, List.length_set, List.replicate_succ, List.replicate_zero, Nat.reduceAdd, Nat.reduceSub, Nat.reduceLT, Nat.reduceLeDiff, Nat.sub_self, Ev.take_all, Ev.take_setS, Ev.take_app, Ev.take_setapp, Ev.ObQ_obj, Ev.TxQ_str, Ev.noex_ok, Ev.txtB_ok, Ev.truB_ok, Ev.notB_ok, Ev.ok_obj, Ev.ok_int, Ev.ok_str, Ev.ok_tup, Ev.ok_non, Ev.b_pow18, Ev.cut_tup, Ev.cut_lst, Ev.cut_scr, Ev.rev_tup, Ev.as_tup1, List.set_set, Ev.wipeE, Ev.asg_nm, Ev.asg_tp, Ev.asgs_nil, Ev.asgs_c1, $ls,*] at $h:ident)
/-! the laws' own looks at values of any kind -/
namespace Lb
open PySem Ev L2 Lt La
theorem b_pow9 {S : Ev.Sto} : Ev.binP .pow (.p (.int 10)) (.p (.int 9)) S = some (.int 1000000000) := (by rfl)
theorem b_pow6 {S : Ev.Sto} : Ev.binP .pow (.p (.int 10)) (.p (.int 6)) S = some (.int 1000000) := (by rfl)
theorem b_pow12 {S : Ev.Sto} : Ev.binP .pow (.p (.int 10)) (.p (.int 12)) S = some (.int 1000000000000) := (by rfl)
structure Kl (T : Tab) : Prop where
  less : T "_law_less" = fDef 2 (dS T t__law_less.body)
  minus : T "_law_minus" = fDef 1 (dS T t__law_minus.body)
  is_int : T "_law_is_int" = fDef 3 (dS T t__law_is_int.body)
  is_pair : T "_law_is_pair" = fDef 3 (dS T t__law_is_pair.body)
  is_gain : T "_law_is_gain" = fDef 4 (dS T t__law_is_gain.body)
  chance_fault : T "_law_chance_fault" = fDef 4 (dS T t__law_chance_fault.body)
section
variable {T : Tab} (K : Kl T) (F : Fr T) (S : Sto)
include K
theorem lessR {p q : Rat} {a b : Nat} (h1 : Sz a p) (h2 : Sz b q) (hk : a + b < 9000) : T "_law_less" [.p (qf p), .p (qf q)] S = some (.ok (.p (.bl (decide (p < q)))) S) := by
  rw [K.less]
  refine W_say (W_def ?_)
  simp only [t__law_less]
  unfold qf fr
  simp_arith []
  refine ⟨mulw (a := a) (b := b) h1.1 (by simpa using h2.2) (by omega), mulw (a := b) (b := a) h2.1 (by simpa using h1.2) (by omega), ?_, trivial⟩
  simp only [Rat.lt_iff]
theorem minusR (q : Rat) : T "_law_minus" [.p (qf q)] S = some (.ok (.p (qf (-q))) S) := by
  rw [K.minus]
  refine W_say (W_def ?_)
  simp only [t__law_minus]
  unfold qf fr
  simp_arith []
  exact ⟨by rw [Int.zero_sub]; rfl, trivial⟩
theorem l_is_int {p : P} (h : Pl p = true) (a b : Int) : T "_law_is_int" [.p p, .p (.int a), .p (.int b)] S = some (.ok (.p (.bl (inR p a b))) S) := by
  rw [K.is_int]
  refine W_say (W_def ?_)
  simp only [t__law_is_int]
  simp_arith [ty_int, ty_bool, isi_intA h, isi_boolA h]
  cases p with
  | int i =>
    simp only [isI, isBo, Bool.or_false, Bool.or_true, Bool.true_or]
    simp_arith [Bool.not_false]
    by_cases c : a ≤ i
    · rw [decide_eq_true c]
      simp_arith [inR, decide_eq_true c, Bool.true_and]
      try (first | trivial | exact ⟨rfl, trivial⟩ | exact ⟨rfl, rfl⟩ | exact ⟨trivial, trivial⟩)
    · rw [decide_eq_false c]
      simp_arith [inR, decide_eq_false c, Bool.false_and]
      try (first | trivial | exact ⟨rfl, trivial⟩ | exact ⟨rfl, rfl⟩ | exact ⟨trivial, trivial⟩)
  | _ => (simp only [isI, isBo, Bool.or_false, Bool.or_true, Bool.false_or]; simp_arith [Bool.not_true]; try (first | trivial | exact ⟨rfl, trivial⟩ | exact ⟨rfl, rfl⟩ | exact ⟨trivial, trivial⟩))
include F in
theorem l_is_pair {p : P} (h : Pl p = true) (t m : Int) : T "_law_is_pair" [.p p, .p (.int t), .p (.int m)] S = some (.ok (.p (.bl (ratioB p t m))) S) := by
  rw [K.is_pair]
  refine W_say (W_def ?_)
  simp only [t__law_is_pair]
  simp_arith [ty_tuple, isi_tupA h]
  cases p with
  | tup l =>
    simp only [isT, Bool.not_true]
    simp_arith []
    match l, h with
    | [], _ => (simp_arith []; (first | trivial | exact ⟨rfl, trivial⟩ | exact ⟨rfl, rfl⟩ | exact ⟨trivial, trivial⟩))
    | [x], _ => (simp_arith []; exact ⟨by cases x <;> rfl, trivial⟩)
    | x :: y :: z :: r, _ =>
      rw [show (!decide ((((x :: y :: z :: r).length : Nat) : Int) = 2)) = true by simp; omega]
      simp_arith []
      exact ⟨by simp [ratioB, fracB], trivial⟩
    | [x, y], h =>
      have hx := PlA_all.mp (show PlA [x, y] = true from h)
      rw [show (!decide ((([x, y].length : Nat) : Int) = 2)) = false by rfl]
      simp_arith [l_is_int K S (hx x (by simp)), l_is_int K S (hx y (by simp)), Int.zero_sub]
      cases x with
      | int a =>
        cases y with
        | int b =>
          have er : ratioB (.tup [.int a, .int b]) t m = ((decide (0 < b) && decide (Nat.gcd a.natAbs b.natAbs = 1)) && (decide (-t ≤ a) && decide (a ≤ t) && decide (b ≤ m))) := rfl
          rw [er]
          have e1 : inR (.int a) (-t) t = (decide (-t ≤ a) && decide (a ≤ t)) := rfl
          have e2 : inR (.int b) 1 m = (decide (1 ≤ b) && decide (b ≤ m)) := rfl
          rw [e1, e2]
          by_cases c1 : -t ≤ a
          · by_cases c2 : a ≤ t
            · by_cases c3 : 1 ≤ b
              · by_cases c4 : b ≤ m
                · rw [decide_eq_true c1, decide_eq_true c2, decide_eq_true c3, decide_eq_true c4, decide_eq_true (show 0 < b by omega)]
                  simp_arith [Bool.and_self, Bool.not_true, common F.common S]
                  refine ⟨?_, trivial⟩
                  simp
                  omega
                · rw [decide_eq_true c1, decide_eq_true c2, decide_eq_true c3, decide_eq_false c4]
                  simp_arith [Bool.and_self, Bool.and_false, Bool.not_true, Bool.not_false]
                  (first | trivial | exact ⟨rfl, trivial⟩ | exact ⟨rfl, rfl⟩ | exact ⟨trivial, trivial⟩)
              · rw [decide_eq_true c1, decide_eq_true c2, decide_eq_false c3, decide_eq_false (show ¬ 0 < b by omega)]
                simp_arith [Bool.and_self, Bool.false_and, Bool.not_true, Bool.not_false]
                (first | trivial | exact ⟨rfl, trivial⟩ | exact ⟨rfl, rfl⟩ | exact ⟨trivial, trivial⟩)
            · rw [decide_eq_true c1, decide_eq_false c2]
              simp_arith [Bool.and_false, Bool.false_and, Bool.not_false]
              (first | trivial | exact ⟨rfl, trivial⟩ | exact ⟨rfl, rfl⟩ | exact ⟨trivial, trivial⟩)
          · rw [decide_eq_false c1]
            simp_arith [Bool.and_false, Bool.false_and, Bool.not_false]
            (first | trivial | exact ⟨rfl, trivial⟩ | exact ⟨rfl, rfl⟩ | exact ⟨trivial, trivial⟩)
        | _ =>
          have e2 : ∀ y : P, isI y = false → inR y 1 m = false := fun y hy => by cases y <;> first | rfl | cases hy
          rw [e2 _ rfl]
          cases c1 : inR (.int a) (-t) t with
          | false => (simp_arith [Bool.not_false]; (first | trivial | exact ⟨rfl, trivial⟩ | exact ⟨rfl, rfl⟩ | exact ⟨trivial, trivial⟩))
          | true => (simp_arith [Bool.not_true, Bool.not_false]; (first | trivial | exact ⟨rfl, trivial⟩ | exact ⟨rfl, rfl⟩ | exact ⟨trivial, trivial⟩))
      | _ =>
        have e2 : ∀ y : P, isI y = false → inR y (-t) t = false := fun y hy => by cases y <;> first | rfl | cases hy
        rw [e2 _ rfl]
        simp_arith [Bool.not_false]
        exact ⟨rfl, trivial⟩
  | _ => (simp only [isT, Bool.not_false]; simp_arith []; (first | trivial | exact ⟨rfl, trivial⟩ | exact ⟨rfl, rfl⟩ | exact ⟨trivial, trivial⟩))
theorem l_is_gain {p : P} (h : Pl p = true) (k : Nat) (hz : ∀ l, p = .tup l → l.length < 1000000) : T "_law_is_gain" [.p p, .p (.int k)] S = some (.ok (.p (.bl (gainB p k))) S) := by
  rw [K.is_gain]
  refine W_say (W_def ?_)
  simp only [t__law_is_gain]
  simp_arith [ty_tuple, isi_tupA h]
  cases p with
  | tup l =>
    simp only [isT]
    simp_arith []
    by_cases c : l.length = k
    · rw [show decide ((l.length : Int) = (k : Int)) = true by simp; omega]
      simp_arith []
      refine W_map l (fun x => .bl (inR x (-1000) 1000)) ?_ (hz l rfl) ?_ ?_
      · simp_arith []
        (first | trivial | exact ⟨rfl, trivial⟩ | exact ⟨rfl, rfl⟩ | exact ⟨trivial, trivial⟩)
      · intro x hx acc
        refine ⟨_, rfl, ?_⟩
        simp_arith [l_is_int K (S ++ [acc]) (PlA_all.mp (show PlA l = true from h) x hx)]
        (first | trivial | exact ⟨rfl, trivial⟩ | exact ⟨rfl, rfl⟩ | exact ⟨trivial, trivial⟩)
      · rw [if_neg (by decide), show (l.map fun x => P.bl (inR x (-1000) 1000)) = (l.map fun x => inR x (-1000) 1000).map .bl by rw [List.map_map]; rfl, all_lst]
        simp_arith []
        refine ⟨?_, trivial⟩
        show _ = U.p (P.bl (decide (l.length = k) && l.all (inR · (-1000) 1000)))
        rw [decide_eq_true c, Bool.true_and, List.all_map]
        rfl
    · rw [show decide ((l.length : Int) = (k : Int)) = false by simp; omega]
      simp_arith []
      exact ⟨by show _ = U.p (P.bl (decide (l.length = k) && _)); rw [decide_eq_false c, Bool.false_and], trivial⟩
  | _ => (simp only [isT]; simp_arith []; (first | trivial | exact ⟨rfl, trivial⟩ | exact ⟨rfl, rfl⟩ | exact ⟨trivial, trivial⟩))
/-- what is due, in a list -/
def dueL : Option P → List P
  | none => []
  | some v => [v]
include F in
theorem l_chance_fault {p : P} {k : Nat} (h : Pl p = true) (hk : k < 100) : T "_law_chance_fault" [.p p, .p (.int k)] S = some (.ok (.p (.lst (dueL (chF p k)))) S) := by
  rw [K.chance_fault]
  refine W_say (W_def ?_)
  simp only [t__law_chance_fault]
  simp_arith [ty_tuple, isi_tupA h]
  cases p with
  | tup l =>
    simp only [isT, Bool.not_true]
    simp_arith []
    by_cases c : l.length = k
    · rw [show (!decide ((l.length : Int) = (k : Int))) = false by simp; omega]
      have hl := PlA_all.mp (show PlA l = true from h)
      simp_arith [rng_s (show k < 1000000 by omega)]
      refine W_forL (fun r ρ S' => S' = S ∧ ∃ (i m : Nat) (t : Rat) (u3 : Option U), i + m = k ∧ r = (List.range' i m).map (fun i => P.int (i : Nat)) ∧ Sz (21 * i + 1) t ∧ t ≤ 1 ∧ chF (.tup l) k = fault (l.drop i) i t ∧ ρ = [some (.p (.tup l)), some (.p (.int k)), some (.p (qf t)), u3]) _ _ _ ⟨rfl, 0, k, 0, none, by omega, by rw [List.range_eq_range'], ⟨by decide, by decide⟩, by decide, by rw [chF, if_pos c, List.drop_zero], rfl⟩ ?_ ?_
      · rintro y r ρ S' ⟨rfl, i, m, t, u3, h1, h2, h4, ht, h5, rfl⟩
        cases m with
        | zero => cases h2
        | succ m =>
          rw [List.range'_succ, List.map_cons] at h2
          obtain ⟨rfl, rfl⟩ := List.cons.inj h2
          have hi : i < l.length := by omega
          rw [List.drop_eq_getElem_cons hi] at h5
          have px := hl _ (List.getElem_mem hi)
          refine ⟨_, rfl, ?_⟩
          generalize hx : l[i] = x at *
          simp_arith [at_nat (A := P) (k := i) (l := l) hi, hx, b_pow9, b_pow6, l_is_pair K F S' px]
          cases cr : ratioB x 1000000000 1000000 with
          | false =>
            have cs : shareB x = false := by rw [shareB, cr, Bool.false_and]
            simp_arith [Bool.not_false]
            exact ⟨by rw [h5, fault, cs, if_neg (by decide)]; rfl, by simp⟩
          | true =>
            have fx : fracB x = true := by
              unfold ratioB at cr
              simp only [Bool.and_eq_true] at cr
              exact cr.1
            have ix : ∀ S : Sto, idxP (.p x) (.p (.int 0)) S = some (.int (top x)) ∧ idxP (.p x) (.p (.int 1)) S = some (.int (bot x)) := fun S => by
              obtain ⟨e, _⟩ := frac_is fx
              rw [e]
              exact ⟨rfl, rfl⟩
            simp_arith [Bool.not_true, at_nat (A := P) (k := i) (l := l) hi, hx, (ix S').1, (ix S').2]
            by_cases c1 : top x < 0
            · have cs : shareB x = false := by rw [shareB, decide_eq_false (show ¬ 0 ≤ top x by omega), Bool.false_and, Bool.and_false]
              rw [decide_eq_true c1]
              simp_arith []
              exact ⟨by rw [h5, fault, cs, if_neg (by decide)]; rfl, by simp⟩
            · rw [decide_eq_false c1]
              simp_arith [at_nat (A := P) (k := i) (l := l) hi, hx, (ix S').1, (ix S').2]
              by_cases c2 : bot x < top x
              · have cs : shareB x = false := by rw [shareB, decide_eq_false (show ¬ top x ≤ bot x by omega), Bool.and_false, Bool.and_false]
                rw [decide_eq_true c2]
                simp_arith []
                exact ⟨by rw [h5, fault, cs, if_neg (by decide)]; rfl, by simp⟩
              · have cs : shareB x = true := by rw [shareB, cr, decide_eq_true (show 0 ≤ top x by omega), decide_eq_true (show top x ≤ bot x by omega)]; rfl
                rw [decide_eq_false c2]
                have ex := frac_qf fx
                have z2 := (share_sz cs).1
                have z3 := plus_sz h4 z2
                have e1 : T "_law_plus" [.p (qf t), .p x] S' = some (.ok (.p (qf (t + rq x))) S') := by
                  have q := plusF F S' h4 z2 (by omega)
                  rwa [← ex] at q
                have e2 : T "_law_less" [.p (.tup [.int 1, .int 1]), .p (qf (t + rq x))] S' = some (.ok (.p (.bl (decide ((1 : Rat) < t + rq x)))) S') := lessR K S' (p := 1) (a := 1) ⟨by decide, by decide⟩ z3 (by omega)
                simp_arith [at_nat (A := P) (k := i) (l := l) hi, hx, e1, e2]
                by_cases c3 : 1 < t + rq x
                · rw [decide_eq_true c3]
                  simp_arith []
                  exact ⟨by rw [h5, fault, cs, if_pos rfl, if_pos c3]; rfl, by simp⟩
                · rw [decide_eq_false c3]
                  simp_arith [ForQ]
                  refine ⟨srcOk_nn, trivial, i + 1, m, t + rq x, _, by omega, rfl, z3.mono (by omega), by grind, ?_, rfl⟩
                  rw [h5, fault, cs, if_pos rfl, if_neg c3]
      · rintro ρ S' ⟨rfl, i, m, t, u3, h1, h2, h4, ht, h5, rfl⟩
        have hm : m = 0 := by
          cases m with
          | zero => rfl
          | succ m => rw [List.range'_succ] at h2; cases h2
        subst hm
        rw [List.drop_eq_nil_of_le (by omega)] at h5
        have e2 : cmpP .eq (.p (qf t)) (.p (.tup [.int 1, .int 1])) S' = some (.bl (decide (t = (1 : Rat)))) := c_eqD (A := Rat) (by decide) t 1 S'
        simp_arith [e2]
        by_cases c2 : t < 1
        · rw [decide_eq_false (show ¬ t = 1 by grind)]
          simp_arith []
          exact ⟨by rw [h5, fault, if_pos c2]; rfl, by simp⟩
        · rw [decide_eq_true (show t = 1 by grind)]
          simp_arith []
          exact ⟨by rw [h5, fault, if_neg c2]; rfl, by simp⟩
    · rw [show (!decide ((l.length : Int) = (k : Int))) = true by simp; omega]
      simp_arith []
      exact ⟨by rw [chF, if_neg c]; rfl, by simp⟩
  | _ => (simp only [isT, Bool.not_false]; simp_arith []; exact ⟨rfl, by simp⟩)
end
end Lb
end
section
set_option Elab.async false
set_option linter.all false
set_option maxRecDepth 100000
set_option maxHeartbeats 2000000
local macro_rules
  | `(tactic| simp_arith [$ls,*]) => `(tactic| simp only [↓Ev.q_var, ↓Ev.q_glo, ↓Ev.q_cst, ↓Ev.q_bin, ↓Ev.q_neg, ↓Ev.q_cmp, ↓Ev.q_cmp2, ↓Ev.q_and, ↓Ev.q_and1, ↓Ev.q_andm, ↓Ev.q_or, ↓Ev.q_or1, ↓Ev.q_orm, ↓Ev.q_not, ↓Ev.q_ite, ↓Ev.q_blt, ↓Ev.q_gcd, ↓Ev.q_call, ↓Ev.q_make, ↓Ev.q_callK, ↓Ev.q_makeK, ↓Ev.q_tup, ↓Ev.q_lst, ↓Ev.q_cel, ↓Ev.q_idx, ↓Ev.q_sli, ↓Ev.q_app, ↓Ev.q_isi, ↓Ev.q_repr, ↓Ev.q_fld, ↓Ev.q_isc, ↓Ev.q_isx, ↓Ev.q_isb, ↓Ev.q_erf, ↓Ev.q_rev, ↓Ev.q_fstr, ↓Ev.q_fnil, ↓Ev.q_ftxt, ↓Ev.q_fval, ↓Ev.q_nil, ↓Ev.q_cons, ↓Ev.q_no, ↓Ev.q_so, ↓Ev.q_tru, ↓Ev.q_tcmp, ↓Ev.q_tcmp2, ↓Ev.q_tnot, ↓Ev.q_tand, ↓Ev.q_tor, ↓Ev.q_tand1, ↓Ev.q_tor1, ↓Ev.q_tandm, ↓Ev.q_torm, ↓Ev.q_cno, ↓Ev.q_cso, ↓Ev.q_iseq, ↓Ev.q_rng1, ↓Ev.q_rng2, ↓Ev.q_zip, ↓Ev.q_enum, ↓Ev.q_snil, ↓Ev.q_scons, ↓Ev.q_pass, ↓Ev.q_brk, ↓Ev.q_cont, ↓Ev.q_ret, ↓Ev.q_retN, ↓Ev.q_raise, ↓Ev.q_if, ↓Ev.q_set, ↓Ev.q_asg, ↓Ev.q_drop, ↓Ev.q_par, ↓Ev.q_for, ↓Ev.q_setI, ↓Ev.q_setIN, ↓Ev.q_augI, ↓Ev.q_emp, ↓Ev.q_addC, ↓Ev.q_lidx, ↓Ev.q_lcnt, ↓Ev.AddQ_some, ↓Ev.W_ok, ↓Ev.SeqQ_nx, ↓Ev.SeqQ_rt, ↓Ev.SeqQ_bk, ↓Ev.SeqQ_ct, ↓Ev.OutQ_nx, ↓Ev.OutQ_rt, ↓Ev.TrQ_p, ↓Ev.VarQ_some, ↓Ev.LifQ_some, ↓Ev.LibQ_some, ↓Ev.IfQ_t, ↓Ev.IfQ_f, ↓Ev.AndQ_some, ↓Ev.SqQ_some, ↓Ev.StoQ_some, ↓Ev.EnQ_some, ↓Ev.C2Q_bl, ↓Ev.CelQ_some, ↓Ev.FmtQ_some, ↓Ev.ParQ_2, ↓Ev.b_mul, ↓Ev.b_div, ↓Ev.b_mod, ↓Ev.dm_blt, ↓Ev.f_int, ↓Ev.f_str, ↓Ev.s_int, ↓Ev.q_comp, ↓Ev.q_prop, ↓Ev.q_ostr, ↓Ev.q_orepr, ↓Ev.q_ocmpT, ↓Ev.q_ocmpF, ↓Ev.q_join, ↓Ev.q_tocmp, ↓Ev.q_totru, ↓Ev.b_addS, ↓Ev.b_addL, ↓Ev.b_addTQ, ↓Ev.q_setK, ↓Ev.q_while, Ev.VarQ_some, Ev.LifQ_some, Ev.LibQ_some, Ev.IfQ_t, Ev.IfQ_f, Ev.AndQ_some, Ev.SqQ_some, Ev.StoQ_some, Ev.EnQ_some, Ev.C2Q_bl, Ev.CelQ_some, Ev.OrdQ_some, Ev.FmtQ_some, Ev.ParQ_2, Ev.b_add, Ev.b_sub, Ev.c_lt, Ev.c_le, Ev.c_gt, Ev.c_ge, Ev.c_eq, Ev.c_ne, Ev.bl_of, Ev.v_neg, Ev.t_bl, Ev.t_int, Ev.t_tup, Ev.t_lst, Ev.t_non, Ev.ix_tup, Ev.ix_lst, Ev.ix_scr, Ev.at_0, Ev.at_1, Ev.at_2, Ev.l_tup, Ev.l_lst, Ev.len_blt, Ev.abs_blt, Ev.max_blt, Ev.min_blt, Ev.int_blt, Ev.tup_blt, Ev.lst_blt, Ev.gcd_int, Ev.seq_tup, Ev.seq_lst, Ev.seq_scr, Ev.ps0, Ev.ps1, Ev.ps2, Ev.ps3, Ev.ps4, Ev.ps5, Option.map_some, Option.map_none, List.getElem?_cons_zero, List.getElem?_cons_succ, List.set_cons_zero, List.set_cons_succ, List.map_cons, List.map_nil, List.cons_append, List.nil_append, List.length_cons, List.length_nil, List.length_set, List.replicate_succ, List.replicate_zero, Nat.reduceAdd, Nat.reduceSub, Nat.reduceLT, Nat.reduceLeDiff, Nat.sub_self, Ev.take_all, Ev.take_setS, Ev.take_app, Ev.take_setapp, Ev.ObQ_obj, Ev.TxQ_str, Ev.noex_ok, Ev.txtB_ok, Ev.truB_ok, Ev.notB_ok, Ev.ok_obj, Ev.ok_int, Ev.ok_str, Ev.ok_tup, Ev.ok_non, Ev.b_pow18, Ev.cut_tup, Ev.cut_lst, Ev.cut_scr, Ev.rev_tup, Ev.as_tup1, List.set_set, Ev.wipeE, Ev.asg_nm, Ev.asg_tp, Ev.asgs_nil, Ev.asgs_c1, $ls,*])
  | `(tactic| simp_arith [$ls,*] at $h:ident) => `(tactic| simp only [↓Ev.q_var, ↓Ev.q_glo, ↓Ev.q_cst, ↓Ev.q_bin, ↓Ev.q_neg, ↓Ev.q_cmp, ↓Ev.q_cmp2, ↓Ev.q_and, ↓Ev.q_and1, ↓Ev.q_andm, ↓Ev.q_or, ↓Ev.q_or1, ↓Ev.q_orm, ↓Ev.q_not, ↓Ev.q_ite, ↓Ev.q_blt, ↓Ev.q_gcd, ↓Ev.q_call, ↓Ev.q_make, ↓Ev.q_callK, ↓Ev.q_makeK, ↓Ev.q_tup, ↓Ev.q_lst, ↓Ev.q_cel, ↓Ev.q_idx, ↓Ev.q_sli, ↓Ev.q_app, ↓Ev.q_isi, ↓Ev.q_repr, ↓Ev.q_fld, ↓Ev.q_isc, ↓Ev.q_isx, ↓Ev.q_isb, ↓Ev.q_erf, ↓Ev.q_rev, ↓Ev.q_fstr, ↓Ev.q_fnil, ↓Ev.q_ftxt, ↓Ev.q_fval, ↓Ev.q_nil, ↓Ev.q_cons, ↓Ev.q_no, ↓Ev.q_so, ↓Ev.q_tru, ↓Ev.q_tcmp, ↓Ev.q_tcmp2, ↓Ev.q_tnot, ↓Ev.q_tand, ↓Ev.q_tor, ↓Ev.q_tand1, ↓Ev.q_tor1, ↓Ev.q_tandm, ↓Ev.q_torm, ↓Ev.q_cno, ↓Ev.q_cso, ↓Ev.q_iseq, ↓Ev.q_rng1, ↓Ev.q_rng2, ↓Ev.q_zip, ↓Ev.q_enum, ↓Ev.q_snil, ↓Ev.q_scons, ↓Ev.q_pass, ↓Ev.q_brk, ↓Ev.q_cont, ↓Ev.q_ret, ↓Ev.q_retN, ↓Ev.q_raise, ↓Ev.q_if, ↓Ev.q_set, ↓Ev.q_asg, ↓Ev.q_drop, ↓Ev.q_par, ↓Ev.q_for, ↓Ev.q_setI, ↓Ev.q_setIN, ↓Ev.q_augI, ↓Ev.q_emp, ↓Ev.q_addC, ↓Ev.q_lidx, ↓Ev.q_lcnt, ↓Ev.AddQ_some, ↓Ev.W_ok, ↓Ev.SeqQ_nx, ↓Ev.SeqQ_rt, ↓Ev.SeqQ_bk, ↓Ev.SeqQ_ct, ↓Ev.OutQ_nx, ↓Ev.OutQ_rt, ↓Ev.TrQ_p, ↓Ev.VarQ_some, ↓Ev.LifQ_some, ↓Ev.LibQ_some, ↓Ev.IfQ_t, ↓Ev.IfQ_f, ↓Ev.AndQ_some, ↓Ev.SqQ_some, ↓Ev.StoQ_some, ↓Ev.EnQ_some, ↓Ev.C2Q_bl, ↓Ev.CelQ_some, ↓Ev.FmtQ_some, ↓Ev.ParQ_2, ↓Ev.b_mul, ↓Ev.b_div, ↓Ev.b_mod, ↓Ev.dm_blt, ↓Ev.f_int, ↓Ev.f_str, ↓Ev.s_int, ↓Ev.q_comp, ↓Ev.q_prop, ↓Ev.q_ostr, ↓Ev.q_orepr, ↓Ev.q_ocmpT, ↓Ev.q_ocmpF, ↓Ev.q_join, ↓Ev.q_tocmp, ↓Ev.q_totru, ↓Ev.b_addS, ↓Ev.b_addL, ↓Ev.b_addTQ, ↓Ev.q_setK, ↓Ev.q_while, Ev.VarQ_some, Ev.LifQ_some, Ev.LibQ_some, Ev.IfQ_t, Ev.IfQ_f, Ev.AndQ_some, Ev.SqQ_some, Ev.StoQ_some, Ev.EnQ_some, Ev.C2Q_bl, Ev.CelQ_some, Ev.OrdQ_some, Ev.FmtQ_some, Ev.ParQ_2, Ev.b_add, Ev.b_sub, Ev.c_lt, Ev.c_le, Ev.c_gt, Ev.c_ge, Ev.c_eq, Ev.c_ne, Ev.bl_of, Ev.v_neg, Ev.t_bl, Ev.t_int, Ev.t_tup, Ev.t_lst, Ev.t_non, Ev.ix_tup, Ev.ix_lst, Ev.ix_scr, Ev.at_0, Ev.at_1, Ev.at_2, Ev.l_tup, Ev.l_lst, Ev.len_blt, Ev.abs_blt, Ev.max_blt, Ev.min_blt, Ev.int_blt, Ev.tup_blt, Ev.lst_blt, Ev.gcd_int, Ev.seq_tup, Ev.seq_lst, Ev.seq_scr, Ev.ps0, Ev.ps1, Ev.ps2, Ev.ps3, Ev.ps4, Ev.ps5, Option.map_some, Option.map_none, List.getElem?_cons_zero, List.getElem?_cons_succ, List.set_cons_zero, List.set_cons_succ, List.map_cons, List.map_nil, List.cons_append, List.nil_append, List.length_cons, List.length_nil, List.length_set, List.replicate_succ, List.replicate_zero, Nat.reduceAdd, Nat.reduceSub, Nat.reduceLT, Nat.reduceLeDiff, Nat.sub_self, Ev.take_all, Ev.take_setS, Ev.take_app, Ev.take_setapp, Ev.ObQ_obj, Ev.TxQ_str, Ev.noex_ok, Ev.txtB_ok, Ev.truB_ok, Ev.notB_ok, Ev.ok_obj, Ev.ok_int, Ev.ok_str, Ev.ok_tup, Ev.ok_non, Ev.b_pow18, Ev.cut_tup, Ev.cut_lst, Ev.cut_scr, Ev.rev_tup, Ev.as_tup1, List.set_set, Ev.wipeE, Ev.asg_nm, Ev.asg_tp, Ev.asgs_nil, Ev.asgs_c1, $ls,*] at $h:ident)
/-! law k06: what the sorter of errors answers -/
namespace Ev
theorem gl0 {α : Type} {S : List α} {x : α} : (S ++ [x])[S.length]? = some x := by simp
theorem ap_last {S : Sto} {l : List P} {x : P} (h : l.length < 1000000) : appC S.length (.p x) (S ++ [l]) = some (.ok (.p .non) (S ++ [l ++ [x]])) := by
  unfold appC
  dsimp only
  rw [gl0]
  dsimp only
  rw [if_pos h]
  simp
end Ev
namespace Lb
open PySem Ev L2 Lt La
section
variable {T : Tab}
theorem isx_pay {b c : Bool} {l : List (Str × P)} {S : Sto} : isxP [("InvalidPayoff", b), ("InvalidChance", c)] (.p (.err "InvalidPayoff" l)) S = some (.bl b) := (rfl)
theorem isx_cha {b c : Bool} {l : List (Str × P)} {S : Sto} : isxP [("InvalidPayoff", b), ("InvalidChance", c)] (.p (.err "InvalidChance" l)) S = some (.bl c) := (rfl)
theorem asl_last {S : Sto} {l : List P} : asList (.c S.length) (S ++ [l]) = some l := by
  show (S ++ [l])[S.length]? = some l
  simp
theorem asl_lst {S : Sto} {l : List P} : asList (.p (.lst l)) S = some l := (rfl)
theorem W_app_last {S : Sto} {l : List P} {x : P} {Q : U → Sto → Prop} {E : Xn → Sto → Prop} : W (appC S.length (.p x) (S ++ [l])) Q E = (l.length < 1000000 ∧ Q (.p .non) (S ++ [l ++ [x]])) := by
  have e : (S ++ [l])[S.length]? = some l := by simp
  have f : (S ++ [l]).set S.length (l ++ [x]) = S ++ [l ++ [x]] := by simp
  unfold appC
  dsimp only
  rw [e]
  dsimp only
  rw [f]
  by_cases h : l.length < 1000000
  · rw [if_pos h, W_ok]
    exact propext ⟨fun q => ⟨h, q⟩, fun q => q.2⟩
  · rw [if_neg h]
    exact propext ⟨fun q => (by simp only [W_Wd] at q; exact q.elim), fun q => absurd q.1 h⟩
theorem ps11 {a b c d e f g h i j k : P} : puresS [.p a, .p b, .p c, .p d, .p e, .p f, .p g, .p h, .p i, .p j, .p k] = some [a, b, c, d, e, f, g, h, i, j, k] := (rfl)
theorem cnt_pay {S : Sto} : lcntP (.c S.length) (.p (.bl true)) (S ++ [[.bl false, .bl false, .bl true, .bl false, .bl false, .bl false, .bl false, .bl false, .bl false, .bl false, .bl false, .bl false, .bl false]]) = some (.int 1) := by
  unfold lcntP
  rw [asl_last]
  rfl
theorem idx_pay {S : Sto} : lidxP (.c S.length) (.p (.bl true)) (S ++ [[.bl false, .bl false, .bl true, .bl false, .bl false, .bl false, .bl false, .bl false, .bl false, .bl false, .bl false, .bl false, .bl false]]) = some (.int 2) := by
  unfold lidxP
  rw [asl_last]
  rfl
theorem cnt_cha {S : Sto} : lcntP (.c S.length) (.p (.bl true)) (S ++ [[.bl false, .bl false, .bl false, .bl false, .bl false, .bl false, .bl false, .bl false, .bl true, .bl false, .bl false, .bl false, .bl false]]) = some (.int 1) := by
  unfold lcntP
  rw [asl_last]
  rfl
theorem idx_cha {S : Sto} : lidxP (.c S.length) (.p (.bl true)) (S ++ [[.bl false, .bl false, .bl false, .bl false, .bl false, .bl false, .bl false, .bl false, .bl true, .bl false, .bl false, .bl false, .bl false]]) = some (.int 8) := by
  unfold lidxP
  rw [asl_last]
  rfl
theorem sm_t {S : Sto} : (some S).isSome = true := (rfl)
theorem ne_bbb {S : Sto} : cmpP .ne (.p (.lst [.bl true, .bl false, .bl false])) (.p (.lst [.bl true, .bl false, .bl false])) S = some (.bl false) := (rfl)
theorem ne_bb2 {S : Sto} : cmpP .ne (.p (.lst [.bl true, .bl false, .bl false])) (.p (.lst [.bl (decide ((2 : Int) < 10)), .bl false, .bl (decide ((9 : Int) < 2))])) S = some (.bl false) := (rfl)
theorem ne_bb8 {S : Sto} : cmpP .ne (.p (.lst [.bl true, .bl false, .bl false])) (.p (.lst [.bl (decide ((8 : Int) < 10)), .bl false, .bl (decide ((9 : Int) < 8))])) S = some (.bl false) := (rfl)
theorem in_2 {S : Sto} : cmpP .in_ (.p (.int 2)) (.p (.lst [.int 7, .int 8, .int 9])) S = some (.bl false) := (rfl)
theorem in_8 {S : Sto} : cmpP .in_ (.p (.int 8)) (.p (.lst [.int 7, .int 8, .int 9])) S = some (.bl true) := (rfl)
theorem erf_p {g : P} {S : Sto} : erfP "given" ["InvalidPayoff"] (.p (.err "InvalidPayoff" [("given", g)])) S = some g := (rfl)
theorem erf_c {g : P} {S : Sto} : erfP "index" ["InvalidChance"] (.p (.err "InvalidChance" [("index", g)])) S = some g := (rfl)
theorem tk4 {S : Sto} {a b c d : List P} : (S ++ [a] ++ [b] ++ [c] ++ [d]).take S.length = S := by simp
theorem sort_pay (es : T "_law_sort" = fDef 6 (dS T Lt6.t__law_sort.body)) {g : P} {t : Str} (S : Sto) (ht : ∀ S, reprP [.p g] S = some (.str t)) :
    T "_law_sort" [.p (errP ⟨"InvalidPayoff", some ("given", g)⟩)] S = some (.ok (.p (.lst [.str "payoff", .str t])) S) := by
  rw [es]
  refine W_say (W_def ?_)
  show W _ _ _
  unfold errP Option.toList
  dsimp only
  simp only [Lt6.t__law_sort]
  simp_arith [isx_pay, asl_last, asl_lst, ps11, cnt_pay, idx_pay, W_app_last, Option.isSome_some, decide_true, decide_false, Int.reduceLT, Int.reduceEq, ne_bbb, ne_bb2, ne_bb8, in_2, in_8, erf_p, erf_c, ht, tk4]
  simp only [sizeLine_eq]
  exact ⟨by decide, by decide, by decide, by decide, trivial, trivial⟩
theorem sort_cha (es : T "_law_sort" = fDef 6 (dS T Lt6.t__law_sort.body)) {g : P} {t : Str} (S : Sto) (ht : ∀ S, reprP [.p g] S = some (.str t)) :
    T "_law_sort" [.p (errP ⟨"InvalidChance", some ("index", g)⟩)] S = some (.ok (.p (.lst [.str "chance", .str t])) S) := by
  rw [es]
  refine W_say (W_def ?_)
  show W _ _ _
  unfold errP Option.toList
  dsimp only
  simp only [Lt6.t__law_sort]
  simp_arith [isx_cha, asl_last, asl_lst, ps11, cnt_cha, idx_cha, W_app_last, Option.isSome_some, decide_true, decide_false, Int.reduceLT, Int.reduceEq, ne_bbb, ne_bb2, ne_bb8, in_2, in_8, erf_p, erf_c, ht, tk4]
  simp only [sizeLine_eq]
  exact ⟨by decide, by decide, by decide, by decide, (rfl), tk4⟩
end
end Lb
end
section
set_option Elab.async false
set_option linter.all false
set_option maxRecDepth 100000
set_option maxHeartbeats 2000000
local macro_rules
  | `(tactic| simp_arith [$ls,*]) => `(tactic| simp only [↓Ev.q_var, ↓Ev.q_glo, ↓Ev.q_cst, ↓Ev.q_bin, ↓Ev.q_neg, ↓Ev.q_cmp, ↓Ev.q_cmp2, ↓Ev.q_and, ↓Ev.q_and1, ↓Ev.q_andm, ↓Ev.q_or, ↓Ev.q_or1, ↓Ev.q_orm, ↓Ev.q_not, ↓Ev.q_ite, ↓Ev.q_blt, ↓Ev.q_gcd, ↓Ev.q_call, ↓Ev.q_make, ↓Ev.q_callK, ↓Ev.q_makeK, ↓Ev.q_tup, ↓Ev.q_lst, ↓Ev.q_cel, ↓Ev.q_idx, ↓Ev.q_sli, ↓Ev.q_app, ↓Ev.q_isi, ↓Ev.q_repr, ↓Ev.q_fld, ↓Ev.q_isc, ↓Ev.q_isx, ↓Ev.q_isb, ↓Ev.q_erf, ↓Ev.q_rev, ↓Ev.q_fstr, ↓Ev.q_fnil, ↓Ev.q_ftxt, ↓Ev.q_fval, ↓Ev.q_nil, ↓Ev.q_cons, ↓Ev.q_no, ↓Ev.q_so, ↓Ev.q_tru, ↓Ev.q_tcmp, ↓Ev.q_tcmp2, ↓Ev.q_tnot, ↓Ev.q_tand, ↓Ev.q_tor, ↓Ev.q_tand1, ↓Ev.q_tor1, ↓Ev.q_tandm, ↓Ev.q_torm, ↓Ev.q_cno, ↓Ev.q_cso, ↓Ev.q_iseq, ↓Ev.q_rng1, ↓Ev.q_rng2, ↓Ev.q_zip, ↓Ev.q_enum, ↓Ev.q_snil, ↓Ev.q_scons, ↓Ev.q_pass, ↓Ev.q_brk, ↓Ev.q_cont, ↓Ev.q_ret, ↓Ev.q_retN, ↓Ev.q_raise, ↓Ev.q_if, ↓Ev.q_set, ↓Ev.q_asg, ↓Ev.q_drop, ↓Ev.q_par, ↓Ev.q_for, ↓Ev.q_setI, ↓Ev.q_setIN, ↓Ev.q_augI, ↓Ev.q_emp, ↓Ev.q_addC, ↓Ev.q_lidx, ↓Ev.q_lcnt, ↓Ev.AddQ_some, ↓Ev.W_ok, ↓Ev.SeqQ_nx, ↓Ev.SeqQ_rt, ↓Ev.SeqQ_bk, ↓Ev.SeqQ_ct, ↓Ev.OutQ_nx, ↓Ev.OutQ_rt, ↓Ev.TrQ_p, ↓Ev.VarQ_some, ↓Ev.LifQ_some, ↓Ev.LibQ_some, ↓Ev.IfQ_t, ↓Ev.IfQ_f, ↓Ev.AndQ_some, ↓Ev.SqQ_some, ↓Ev.StoQ_some, ↓Ev.EnQ_some, ↓Ev.C2Q_bl, ↓Ev.CelQ_some, ↓Ev.FmtQ_some, ↓Ev.ParQ_2, ↓Ev.b_mul, ↓Ev.b_div, ↓Ev.b_mod, ↓Ev.dm_blt, ↓Ev.f_int, ↓Ev.f_str, ↓Ev.s_int, ↓Ev.q_comp, ↓Ev.q_prop, ↓Ev.q_ostr, ↓Ev.q_orepr, ↓Ev.q_ocmpT, ↓Ev.q_ocmpF, ↓Ev.q_join, ↓Ev.q_tocmp, ↓Ev.q_totru, ↓Ev.b_addS, ↓Ev.b_addL, ↓Ev.b_addTQ, ↓Ev.q_setK, ↓Ev.q_while, Ev.VarQ_some, Ev.LifQ_some, Ev.LibQ_some, Ev.IfQ_t, Ev.IfQ_f, Ev.AndQ_some, Ev.SqQ_some, Ev.StoQ_some, Ev.EnQ_some, Ev.C2Q_bl, Ev.CelQ_some, Ev.OrdQ_some, Ev.FmtQ_some, Ev.ParQ_2, Ev.b_add, Ev.b_sub, Ev.c_lt, Ev.c_le, Ev.c_gt, Ev.c_ge, Ev.c_eq, Ev.c_ne, Ev.bl_of, Ev.v_neg, Ev.t_bl, Ev.t_int, Ev.t_tup, Ev.t_lst, Ev.t_non, Ev.ix_tup, Ev.ix_lst, Ev.ix_scr, Ev.at_0, Ev.at_1, Ev.at_2, Ev.l_tup, Ev.l_lst, Ev.len_blt, Ev.abs_blt, Ev.max_blt, Ev.min_blt, Ev.int_blt, Ev.tup_blt, Ev.lst_blt, Ev.gcd_int, Ev.seq_tup, Ev.seq_lst, Ev.seq_scr, Ev.ps0, Ev.ps1, Ev.ps2, Ev.ps3, Ev.ps4, Ev.ps5, Option.map_some, Option.map_none, List.getElem?_cons_zero, List.getElem?_cons_succ, List.set_cons_zero, List.set_cons_succ, List.map_cons, List.map_nil, List.cons_append, List.nil_append, List.length_cons, List.length_nil, List.length_set, List.replicate_succ, List.replicate_zero, Nat.reduceAdd, Nat.reduceSub, Nat.reduceLT, Nat.reduceLeDiff, Nat.sub_self, Ev.take_all, Ev.take_setS, Ev.take_app, Ev.take_setapp, Ev.ObQ_obj, Ev.TxQ_str, Ev.noex_ok, Ev.txtB_ok, Ev.truB_ok, Ev.notB_ok, Ev.ok_obj, Ev.ok_int, Ev.ok_str, Ev.ok_tup, Ev.ok_non, Ev.b_pow18, Ev.cut_tup, Ev.cut_lst, Ev.cut_scr, Ev.rev_tup, Ev.as_tup1, List.set_set, Ev.wipeE, Ev.asg_nm, Ev.asg_tp, Ev.asgs_nil, Ev.asgs_c1, $ls,*])
  | `(tactic| simp_arith [$ls,*] at $h:ident) => `(tactic| simp only [↓Ev.q_var, ↓Ev.q_glo, ↓Ev.q_cst, ↓Ev.q_bin, ↓Ev.q_neg, ↓Ev.q_cmp, ↓Ev.q_cmp2, ↓Ev.q_and, ↓Ev.q_and1, ↓Ev.q_andm, ↓Ev.q_or, ↓Ev.q_or1, ↓Ev.q_orm, ↓Ev.q_not, ↓Ev.q_ite, ↓Ev.q_blt, ↓Ev.q_gcd, ↓Ev.q_call, ↓Ev.q_make, ↓Ev.q_callK, ↓Ev.q_makeK, ↓Ev.q_tup, ↓Ev.q_lst, ↓Ev.q_cel, ↓Ev.q_idx, ↓Ev.q_sli, ↓Ev.q_app, ↓Ev.q_isi, ↓Ev.q_repr, ↓Ev.q_fld, ↓Ev.q_isc, ↓Ev.q_isx, ↓Ev.q_isb, ↓Ev.q_erf, ↓Ev.q_rev, ↓Ev.q_fstr, ↓Ev.q_fnil, ↓Ev.q_ftxt, ↓Ev.q_fval, ↓Ev.q_nil, ↓Ev.q_cons, ↓Ev.q_no, ↓Ev.q_so, ↓Ev.q_tru, ↓Ev.q_tcmp, ↓Ev.q_tcmp2, ↓Ev.q_tnot, ↓Ev.q_tand, ↓Ev.q_tor, ↓Ev.q_tand1, ↓Ev.q_tor1, ↓Ev.q_tandm, ↓Ev.q_torm, ↓Ev.q_cno, ↓Ev.q_cso, ↓Ev.q_iseq, ↓Ev.q_rng1, ↓Ev.q_rng2, ↓Ev.q_zip, ↓Ev.q_enum, ↓Ev.q_snil, ↓Ev.q_scons, ↓Ev.q_pass, ↓Ev.q_brk, ↓Ev.q_cont, ↓Ev.q_ret, ↓Ev.q_retN, ↓Ev.q_raise, ↓Ev.q_if, ↓Ev.q_set, ↓Ev.q_asg, ↓Ev.q_drop, ↓Ev.q_par, ↓Ev.q_for, ↓Ev.q_setI, ↓Ev.q_setIN, ↓Ev.q_augI, ↓Ev.q_emp, ↓Ev.q_addC, ↓Ev.q_lidx, ↓Ev.q_lcnt, ↓Ev.AddQ_some, ↓Ev.W_ok, ↓Ev.SeqQ_nx, ↓Ev.SeqQ_rt, ↓Ev.SeqQ_bk, ↓Ev.SeqQ_ct, ↓Ev.OutQ_nx, ↓Ev.OutQ_rt, ↓Ev.TrQ_p, ↓Ev.VarQ_some, ↓Ev.LifQ_some, ↓Ev.LibQ_some, ↓Ev.IfQ_t, ↓Ev.IfQ_f, ↓Ev.AndQ_some, ↓Ev.SqQ_some, ↓Ev.StoQ_some, ↓Ev.EnQ_some, ↓Ev.C2Q_bl, ↓Ev.CelQ_some, ↓Ev.FmtQ_some, ↓Ev.ParQ_2, ↓Ev.b_mul, ↓Ev.b_div, ↓Ev.b_mod, ↓Ev.dm_blt, ↓Ev.f_int, ↓Ev.f_str, ↓Ev.s_int, ↓Ev.q_comp, ↓Ev.q_prop, ↓Ev.q_ostr, ↓Ev.q_orepr, ↓Ev.q_ocmpT, ↓Ev.q_ocmpF, ↓Ev.q_join, ↓Ev.q_tocmp, ↓Ev.q_totru, ↓Ev.b_addS, ↓Ev.b_addL, ↓Ev.b_addTQ, ↓Ev.q_setK, ↓Ev.q_while, Ev.VarQ_some, Ev.LifQ_some, Ev.LibQ_some, Ev.IfQ_t, Ev.IfQ_f, Ev.AndQ_some, Ev.SqQ_some, Ev.StoQ_some, Ev.EnQ_some, Ev.C2Q_bl, Ev.CelQ_some, Ev.OrdQ_some, Ev.FmtQ_some, Ev.ParQ_2, Ev.b_add, Ev.b_sub, Ev.c_lt, Ev.c_le, Ev.c_gt, Ev.c_ge, Ev.c_eq, Ev.c_ne, Ev.bl_of, Ev.v_neg, Ev.t_bl, Ev.t_int, Ev.t_tup, Ev.t_lst, Ev.t_non, Ev.ix_tup, Ev.ix_lst, Ev.ix_scr, Ev.at_0, Ev.at_1, Ev.at_2, Ev.l_tup, Ev.l_lst, Ev.len_blt, Ev.abs_blt, Ev.max_blt, Ev.min_blt, Ev.int_blt, Ev.tup_blt, Ev.lst_blt, Ev.gcd_int, Ev.seq_tup, Ev.seq_lst, Ev.seq_scr, Ev.ps0, Ev.ps1, Ev.ps2, Ev.ps3, Ev.ps4, Ev.ps5, Option.map_some, Option.map_none, List.getElem?_cons_zero, List.getElem?_cons_succ, List.set_cons_zero, List.set_cons_succ, List.map_cons, List.map_nil, List.cons_append, List.nil_append, List.length_cons, List.length_nil, List.length_set, List.replicate_succ, List.replicate_zero, Nat.reduceAdd, Nat.reduceSub, Nat.reduceLT, Nat.reduceLeDiff, Nat.sub_self, Ev.take_all, Ev.take_setS, Ev.take_app, Ev.take_setapp, Ev.ObQ_obj, Ev.TxQ_str, Ev.noex_ok, Ev.txtB_ok, Ev.truB_ok, Ev.notB_ok, Ev.ok_obj, Ev.ok_int, Ev.ok_str, Ev.ok_tup, Ev.ok_non, Ev.b_pow18, Ev.cut_tup, Ev.cut_lst, Ev.cut_scr, Ev.rev_tup, Ev.as_tup1, List.set_set, Ev.wipeE, Ev.asg_nm, Ev.asg_tp, Ev.asgs_nil, Ev.asgs_c1, $ls,*] at $h:ident)
/-! law k06: odd values -/
namespace Ev
open PySem L2
theorem ps7 {a b c d e f g : P} : puresS [.p a, .p b, .p c, .p d, .p e, .p f, .p g] = some [a, b, c, d, e, f, g] := (rfl)
theorem ps6 {a b c d e f : P} : puresS [.p a, .p b, .p c, .p d, .p e, .p f] = some [a, b, c, d, e, f] := (rfl)
theorem ps14 {a b c d e f g h i j k l m n : P} : puresS [.p a, .p b, .p c, .p d, .p e, .p f, .p g, .p h, .p i, .p j, .p k, .p l, .p m, .p n] = some [a, b, c, d, e, f, g, h, i, j, k, l, m, n] := (rfl)
theorem ps17 {a b c d e f g h i j k l m n o p q : P} : puresS [.p a, .p b, .p c, .p d, .p e, .p f, .p g, .p h, .p i, .p j, .p k, .p l, .p m, .p n, .p o, .p p, .p q] = some [a, b, c, d, e, f, g, h, i, j, k, l, m, n, o, p, q] := (rfl)
end Ev
namespace Lb
open PySem Ev L2 Lt La
/-- how long a tuple is -/
def tl9 : P → Nat
  | .tup l => l.length
  | _ => 0
def isEm : P → Bool
  | .emp => true
  | _ => false
/-- a value that may be drawn -/
def gdB (p : P) : Bool := Pl p && (isEm p || (okP p && decide (wtP p ≤ 80000) && decide (dpP p ≤ 60))) && decide (tl9 p < 1000)
structure Gd (p : P) : Prop where
  b : gdB p = true
theorem Gd.pl {p : P} (h : Gd p) : Pl p = true := by
  have := h.b
  unfold gdB at this
  simp only [Bool.and_eq_true] at this
  exact this.1.1
theorem Gd.sh {p : P} (h : Gd p) : ShP p := by
  have := h.b
  unfold gdB at this
  simp only [Bool.and_eq_true, Bool.or_eq_true, decide_eq_true_eq] at this
  rcases this.1.2 with e | e
  · left
    cases p <;> first | rfl | cases e
  · right
    exact ⟨e.1.1, e.1.2, e.2⟩
theorem Gd.ln {p : P} (h : Gd p) : ∀ l, p = .tup l → l.length < 1000 := by
  rintro l rfl
  have := h.b
  unfold gdB at this
  simp only [Bool.and_eq_true, decide_eq_true_eq] at this
  exact this.2
def odds : List P := [.non, .bl true, .bl false, .int 0, .int 1, .int (-1), .str "", .str "2:", .tup [], .tup [.int 0], .lst [], .emp, .tup [.int 1, .int 1], .tup [.int 0, .int 1], .tup [.int 2, .int 4], .int 1000000000000, .tup [.tup [.int 1, .int 0], .tup [.int 1, .int 2]], .str "1/2", .tup [.int 1, .int 0], .tup [.tup [.int 1, .int 2], .tup [.int 1, .int 2]], .lst [.int 1, .int 0], .tup [.non]]
theorem odds_gd {p : P} (h : p ∈ odds) : Gd p := by
  have k : odds.all gdB = true := by decide +kernel
  rw [List.all_eq_true] at k
  exact ⟨k p h⟩
section
variable {T : Tab} (J : J0 T) {S : Sto} {n B : Nat} {j : List P}
include J
theorem odd (e : T "_law_odd" = fDef 2 (dS T t__law_odd.body)) (h : S[n]? = some j) (hj : Jar (B + 1) j) : W (T "_law_odd" [.c n] S) (fun u S' => ∃ (x : P) (j' : List P), u = .p x ∧ Gd x ∧ Jar B j' ∧ S' = S.set n j') NoX := by
  rw [e]
  refine W_def ?_
  simp only [t__law_odd]
  simp_arith [ps17, b_pow12]
  refine ⟨by rw [sizeLine_eq]; decide, ?_⟩
  refine W_use (one_of J (l := odds) h hj (by decide) (by decide)) fun u S1 z => ?_
  obtain ⟨x, j', rfl, hx, hj', rfl⟩ := z
  exact ⟨x, j', rfl, odds_gd hx, hj', take_setS⟩
end
end Lb
end
section
set_option Elab.async false
set_option linter.all false
set_option maxRecDepth 100000
set_option maxHeartbeats 2000000
local macro_rules
  | `(tactic| simp_arith [$ls,*]) => `(tactic| simp only [↓Ev.q_var, ↓Ev.q_glo, ↓Ev.q_cst, ↓Ev.q_bin, ↓Ev.q_neg, ↓Ev.q_cmp, ↓Ev.q_cmp2, ↓Ev.q_and, ↓Ev.q_and1, ↓Ev.q_andm, ↓Ev.q_or, ↓Ev.q_or1, ↓Ev.q_orm, ↓Ev.q_not, ↓Ev.q_ite, ↓Ev.q_blt, ↓Ev.q_gcd, ↓Ev.q_call, ↓Ev.q_make, ↓Ev.q_callK, ↓Ev.q_makeK, ↓Ev.q_tup, ↓Ev.q_lst, ↓Ev.q_cel, ↓Ev.q_idx, ↓Ev.q_sli, ↓Ev.q_app, ↓Ev.q_isi, ↓Ev.q_repr, ↓Ev.q_fld, ↓Ev.q_isc, ↓Ev.q_isx, ↓Ev.q_isb, ↓Ev.q_erf, ↓Ev.q_rev, ↓Ev.q_fstr, ↓Ev.q_fnil, ↓Ev.q_ftxt, ↓Ev.q_fval, ↓Ev.q_nil, ↓Ev.q_cons, ↓Ev.q_no, ↓Ev.q_so, ↓Ev.q_tru, ↓Ev.q_tcmp, ↓Ev.q_tcmp2, ↓Ev.q_tnot, ↓Ev.q_tand, ↓Ev.q_tor, ↓Ev.q_tand1, ↓Ev.q_tor1, ↓Ev.q_tandm, ↓Ev.q_torm, ↓Ev.q_cno, ↓Ev.q_cso, ↓Ev.q_iseq, ↓Ev.q_rng1, ↓Ev.q_rng2, ↓Ev.q_zip, ↓Ev.q_enum, ↓Ev.q_snil, ↓Ev.q_scons, ↓Ev.q_pass, ↓Ev.q_brk, ↓Ev.q_cont, ↓Ev.q_ret, ↓Ev.q_retN, ↓Ev.q_raise, ↓Ev.q_if, ↓Ev.q_set, ↓Ev.q_asg, ↓Ev.q_drop, ↓Ev.q_par, ↓Ev.q_for, ↓Ev.q_setI, ↓Ev.q_setIN, ↓Ev.q_augI, ↓Ev.q_emp, ↓Ev.q_addC, ↓Ev.q_lidx, ↓Ev.q_lcnt, ↓Ev.AddQ_some, ↓Ev.W_ok, ↓Ev.SeqQ_nx, ↓Ev.SeqQ_rt, ↓Ev.SeqQ_bk, ↓Ev.SeqQ_ct, ↓Ev.OutQ_nx, ↓Ev.OutQ_rt, ↓Ev.TrQ_p, ↓Ev.VarQ_some, ↓Ev.LifQ_some, ↓Ev.LibQ_some, ↓Ev.IfQ_t, ↓Ev.IfQ_f, ↓Ev.AndQ_some, ↓Ev.SqQ_some, ↓Ev.StoQ_some, ↓Ev.EnQ_some, ↓Ev.C2Q_bl, ↓Ev.CelQ_some, ↓Ev.FmtQ_some, ↓Ev.ParQ_2, ↓Ev.b_mul, ↓Ev.b_div, ↓Ev.b_mod, ↓Ev.dm_blt, ↓Ev.f_int, ↓Ev.f_str, ↓Ev.s_int, ↓Ev.q_comp, ↓Ev.q_prop, ↓Ev.q_ostr, ↓Ev.q_orepr, ↓Ev.q_ocmpT, ↓Ev.q_ocmpF, ↓Ev.q_join, ↓Ev.q_tocmp, ↓Ev.q_totru, ↓Ev.b_addS, ↓Ev.b_addL, ↓Ev.b_addTQ, ↓Ev.q_setK, ↓Ev.q_while, Ev.VarQ_some, Ev.LifQ_some, Ev.LibQ_some, Ev.IfQ_t, Ev.IfQ_f, Ev.AndQ_some, Ev.SqQ_some, Ev.StoQ_some, Ev.EnQ_some, Ev.C2Q_bl, Ev.CelQ_some, Ev.OrdQ_some, Ev.FmtQ_some, Ev.ParQ_2, Ev.b_add, Ev.b_sub, Ev.c_lt, Ev.c_le, Ev.c_gt, Ev.c_ge, Ev.c_eq, Ev.c_ne, Ev.bl_of, Ev.v_neg, Ev.t_bl, Ev.t_int, Ev.t_tup, Ev.t_lst, Ev.t_non, Ev.ix_tup, Ev.ix_lst, Ev.ix_scr, Ev.at_0, Ev.at_1, Ev.at_2, Ev.l_tup, Ev.l_lst, Ev.len_blt, Ev.abs_blt, Ev.max_blt, Ev.min_blt, Ev.int_blt, Ev.tup_blt, Ev.lst_blt, Ev.gcd_int, Ev.seq_tup, Ev.seq_lst, Ev.seq_scr, Ev.ps0, Ev.ps1, Ev.ps2, Ev.ps3, Ev.ps4, Ev.ps5, Option.map_some, Option.map_none, List.getElem?_cons_zero, List.getElem?_cons_succ, List.set_cons_zero, List.set_cons_succ, List.map_cons, List.map_nil, List.cons_append, List.nil_append, List.length_cons, List.length_nil, List.length_set, List.replicate_succ, List.replicate_zero, Nat.reduceAdd, Nat.reduceSub, Nat.reduceLT, Nat.reduceLeDiff, Nat.sub_self, Ev.take_all, Ev.take_setS, Ev.take_app, Ev.take_setapp, Ev.ObQ_obj, Ev.TxQ_str, Ev.noex_ok, Ev.txtB_ok, Ev.truB_ok, Ev.notB_ok, Ev.ok_obj, Ev.ok_int, Ev.ok_str, Ev.ok_tup, Ev.ok_non, Ev.b_pow18, Ev.cut_tup, Ev.cut_lst, Ev.cut_scr, Ev.rev_tup, Ev.as_tup1, List.set_set, Ev.wipeE, Ev.asg_nm, Ev.asg_tp, Ev.asgs_nil, Ev.asgs_c1, $ls,*])
  | `(tactic| simp_arith [$ls,*] at $h:ident) => `(tactic| simp only [↓Ev.q_var, ↓Ev.q_glo, ↓Ev.q_cst, ↓Ev.q_bin, ↓Ev.q_neg, ↓Ev.q_cmp, ↓Ev.q_cmp2, ↓Ev.q_and, ↓Ev.q_and1, ↓Ev.q_andm, ↓Ev.q_or, ↓Ev.q_or1, ↓Ev.q_orm, ↓Ev.q_not, ↓Ev.q_ite, ↓Ev.q_blt, ↓Ev.q_gcd, ↓Ev.q_call, ↓Ev.q_make, ↓Ev.q_callK, ↓Ev.q_makeK, ↓Ev.q_tup, ↓Ev.q_lst, ↓Ev.q_cel, ↓Ev.q_idx, ↓Ev.q_sli, ↓Ev.q_app, ↓Ev.q_isi, ↓Ev.q_repr, ↓Ev.q_fld, ↓Ev.q_isc, ↓Ev.q_isx, ↓Ev.q_isb, ↓Ev.q_erf, ↓Ev.q_rev, ↓Ev.q_fstr, ↓Ev.q_fnil, ↓Ev.q_ftxt, ↓Ev.q_fval, ↓Ev.q_nil, ↓Ev.q_cons, ↓Ev.q_no, ↓Ev.q_so, ↓Ev.q_tru, ↓Ev.q_tcmp, ↓Ev.q_tcmp2, ↓Ev.q_tnot, ↓Ev.q_tand, ↓Ev.q_tor, ↓Ev.q_tand1, ↓Ev.q_tor1, ↓Ev.q_tandm, ↓Ev.q_torm, ↓Ev.q_cno, ↓Ev.q_cso, ↓Ev.q_iseq, ↓Ev.q_rng1, ↓Ev.q_rng2, ↓Ev.q_zip, ↓Ev.q_enum, ↓Ev.q_snil, ↓Ev.q_scons, ↓Ev.q_pass, ↓Ev.q_brk, ↓Ev.q_cont, ↓Ev.q_ret, ↓Ev.q_retN, ↓Ev.q_raise, ↓Ev.q_if, ↓Ev.q_set, ↓Ev.q_asg, ↓Ev.q_drop, ↓Ev.q_par, ↓Ev.q_for, ↓Ev.q_setI, ↓Ev.q_setIN, ↓Ev.q_augI, ↓Ev.q_emp, ↓Ev.q_addC, ↓Ev.q_lidx, ↓Ev.q_lcnt, ↓Ev.AddQ_some, ↓Ev.W_ok, ↓Ev.SeqQ_nx, ↓Ev.SeqQ_rt, ↓Ev.SeqQ_bk, ↓Ev.SeqQ_ct, ↓Ev.OutQ_nx, ↓Ev.OutQ_rt, ↓Ev.TrQ_p, ↓Ev.VarQ_some, ↓Ev.LifQ_some, ↓Ev.LibQ_some, ↓Ev.IfQ_t, ↓Ev.IfQ_f, ↓Ev.AndQ_some, ↓Ev.SqQ_some, ↓Ev.StoQ_some, ↓Ev.EnQ_some, ↓Ev.C2Q_bl, ↓Ev.CelQ_some, ↓Ev.FmtQ_some, ↓Ev.ParQ_2, ↓Ev.b_mul, ↓Ev.b_div, ↓Ev.b_mod, ↓Ev.dm_blt, ↓Ev.f_int, ↓Ev.f_str, ↓Ev.s_int, ↓Ev.q_comp, ↓Ev.q_prop, ↓Ev.q_ostr, ↓Ev.q_orepr, ↓Ev.q_ocmpT, ↓Ev.q_ocmpF, ↓Ev.q_join, ↓Ev.q_tocmp, ↓Ev.q_totru, ↓Ev.b_addS, ↓Ev.b_addL, ↓Ev.b_addTQ, ↓Ev.q_setK, ↓Ev.q_while, Ev.VarQ_some, Ev.LifQ_some, Ev.LibQ_some, Ev.IfQ_t, Ev.IfQ_f, Ev.AndQ_some, Ev.SqQ_some, Ev.StoQ_some, Ev.EnQ_some, Ev.C2Q_bl, Ev.CelQ_some, Ev.OrdQ_some, Ev.FmtQ_some, Ev.ParQ_2, Ev.b_add, Ev.b_sub, Ev.c_lt, Ev.c_le, Ev.c_gt, Ev.c_ge, Ev.c_eq, Ev.c_ne, Ev.bl_of, Ev.v_neg, Ev.t_bl, Ev.t_int, Ev.t_tup, Ev.t_lst, Ev.t_non, Ev.ix_tup, Ev.ix_lst, Ev.ix_scr, Ev.at_0, Ev.at_1, Ev.at_2, Ev.l_tup, Ev.l_lst, Ev.len_blt, Ev.abs_blt, Ev.max_blt, Ev.min_blt, Ev.int_blt, Ev.tup_blt, Ev.lst_blt, Ev.gcd_int, Ev.seq_tup, Ev.seq_lst, Ev.seq_scr, Ev.ps0, Ev.ps1, Ev.ps2, Ev.ps3, Ev.ps4, Ev.ps5, Option.map_some, Option.map_none, List.getElem?_cons_zero, List.getElem?_cons_succ, List.set_cons_zero, List.set_cons_succ, List.map_cons, List.map_nil, List.cons_append, List.nil_append, List.length_cons, List.length_nil, List.length_set, List.replicate_succ, List.replicate_zero, Nat.reduceAdd, Nat.reduceSub, Nat.reduceLT, Nat.reduceLeDiff, Nat.sub_self, Ev.take_all, Ev.take_setS, Ev.take_app, Ev.take_setapp, Ev.ObQ_obj, Ev.TxQ_str, Ev.noex_ok, Ev.txtB_ok, Ev.truB_ok, Ev.notB_ok, Ev.ok_obj, Ev.ok_int, Ev.ok_str, Ev.ok_tup, Ev.ok_non, Ev.b_pow18, Ev.cut_tup, Ev.cut_lst, Ev.cut_scr, Ev.rev_tup, Ev.as_tup1, List.set_set, Ev.wipeE, Ev.asg_nm, Ev.asg_tp, Ev.asgs_nil, Ev.asgs_c1, $ls,*] at $h:ident)
/-! law k06: bent chances -/
namespace Ev
open PySem L2
theorem mul_tup1 {p : P} {k : Nat} (h2 : 2 ≤ k) (h6 : k ≤ 1000) {S : Sto} : binP .mul (.p (.tup [p])) (.p (.int k)) S = some (.tup (List.replicate k p)) := by
  show orG mulTup mulTup1 (.p (.tup [p])) (.p (.int k)) S = _
  show (match (if [p] ≠ [] ∧ 2 ≤ (k : Int) ∧ (k : Int) ≤ 1000 ∧ [p].length ≤ 1000 then some (P.tup (List.replicate (k : Int).toNat [p]).flatten) else none) with | some z => some z | none => mulTup1 (.p (.tup [p])) (.p (.int k)) S) = _
  rw [if_pos ⟨by simp, by omega, by omega, by simp⟩]
  dsimp only
  congr 2
  rw [Int.toNat_natCast]
  clear h2 h6
  induction k with
  | zero => rfl
  | succ k ih => rw [List.replicate_succ, List.flatten_cons, ih, List.replicate_succ]; rfl
end Ev
namespace Lb
open PySem Ev L2 Lt La
def geB (p : P) : Bool := Pl p && okP p && decide (wtP p ≤ 3000) && decide (dpP p ≤ 5)
structure Ge (p : P) : Prop where
  b : geB p = true
theorem Ge.pl {p : P} (h : Ge p) : Pl p = true := by
  have := h.b
  unfold geB at this
  simp only [Bool.and_eq_true] at this
  exact this.1.1.1
theorem Ge.ok {p : P} (h : Ge p) : okP p = true ∧ wtP p ≤ 3000 ∧ dpP p ≤ 5 := by
  have := h.b
  unfold geB at this
  simp only [Bool.and_eq_true, decide_eq_true_eq] at this
  exact ⟨this.1.1.2, this.1.2, this.2⟩
theorem ge_all : ∀ {l : List P}, (∀ x ∈ l, Ge x) → PlA l = true ∧ okPs l = true ∧ wtPs l ≤ 3001 * l.length ∧ dpPs l ≤ 5
  | [], _ => ⟨rfl, rfl, Nat.zero_le _, Nat.zero_le _⟩
  | p :: l, h => by
    obtain ⟨h1, h2, h3, h4⟩ := ge_all (l := l) fun x hx => h x (List.mem_cons_of_mem _ hx)
    obtain ⟨g1, g2, g3⟩ := (h p (by simp)).ok
    refine ⟨?_, ?_, ?_, ?_⟩
    · unfold PlA; rw [(h p (by simp)).pl, h1]; rfl
    · unfold okPs; rw [g1, h2]; rfl
    · unfold wtPs; rw [List.length_cons]; omega
    · unfold dpPs; omega
theorem gd_tup {l : List P} (h : ∀ x ∈ l, Ge x) (hl : l.length ≤ 20) : Gd (.tup l) := by
  obtain ⟨h1, h2, h3, h4⟩ := ge_all h
  refine ⟨?_⟩
  unfold gdB
  have e1 : Pl (.tup l) = true := h1
  have e2 : okP (.tup l) = true := h2
  have e3 : wtP (.tup l) ≤ 80000 := by unfold wtP; omega
  have e4 : dpP (.tup l) ≤ 60 := by unfold dpP; omega
  have e5 : tl9 (.tup l) < 1000 := by show l.length < 1000; omega
  rw [e1, e2, decide_eq_true e3, decide_eq_true e4, decide_eq_true e5]
  simp
theorem gd_lst {l : List P} (h : ∀ x ∈ l, Ge x) (hl : l.length ≤ 20) : Gd (.lst l) := by
  obtain ⟨h1, h2, h3, h4⟩ := ge_all h
  refine ⟨?_⟩
  unfold gdB
  have e1 : Pl (.lst l) = true := h1
  have e2 : okP (.lst l) = true := h2
  have e3 : wtP (.lst l) ≤ 80000 := by unfold wtP; omega
  have e4 : dpP (.lst l) ≤ 60 := by unfold dpP; omega
  have e5 : tl9 (.lst l) < 1000 := by show 0 < 1000; decide
  rw [e1, e2, decide_eq_true e3, decide_eq_true e4, decide_eq_true e5]
  simp
def parts : List P := [.tup [.int 0, .int 1], .tup [.int 1, .int 1], .tup [.int 1, .int 2], .tup [.int 2, .int 4], .tup [.int (-1), .int 2], .tup [.int 3, .int 2], .tup [.int 1, .int 0], .tup [.int 0, .int 2], .int 0, .int 1, .non, .bl true, .str "1", .lst [.int 1, .int 2]]
theorem parts_ge {p : P} (h : p ∈ parts) : Ge p := by
  have k : parts.all geB = true := by decide +kernel
  rw [List.all_eq_true] at k
  exact ⟨k p h⟩
theorem ge_01 : Ge (.tup [.int 0, .int 1]) := ⟨by decide +kernel⟩
theorem ge_mil : Ge (.tup [.int 1, .int 1000001]) := ⟨by decide +kernel⟩
theorem ge_int {i : Int} (h : i.natAbs < 2 ^ 600) : Ge (.int i) := by
  refine ⟨?_⟩
  have : geB (.int i) = (decide (i.natAbs < 2 ^ 600) && true && true) := rfl
  rw [this, decide_eq_true h]; rfl
theorem ge_qf {q : Rat} (h : Sz 600 q) : Ge (qf q) := by
  refine ⟨?_⟩
  have : geB (qf q) = ((decide (q.num.natAbs < 2 ^ 600) && (decide (((q.den : Int)).natAbs < 2 ^ 600) && true)) && true && true) := rfl
  rw [this, decide_eq_true h.1, decide_eq_true (by simpa using h.2)]; rfl
section
variable {T : Tab} (J : J0 T) {S : Sto} {n B : Nat} {j : List P}
include J
theorem bent (eo : T "_law_odd" = fDef 2 (dS T t__law_odd.body)) (e : T "_law_bent_chance" = fDef 6 (dS T Lt6.t__law_bent_chance.body)) (h : S[n]? = some j) (hj : Jar (B + 5) j) {l : List P} (h2 : 2 ≤ l.length) (h6 : l.length ≤ 6) (hg : ∀ x ∈ l, Ge x) :
    W (T "_law_bent_chance" [.c n, .p (.tup l)] S) (fun u S' => ∃ (x : P) (j' : List P), u = .p x ∧ Gd x ∧ Jar B j' ∧ S' = S.set n j') NoX := by
  have hn : n < S.length := (List.getElem?_eq_some_iff.mp h).1
  have sl := sizeLine_eq
  rw [e]
  refine W_def ?_
  simp only [Lt6.t__law_bent_chance]
  simp_arith []
  refine W_use (dipJ J (B := B + 4) h hj (by omega) (by omega)) fun u S1 z => ?_
  obtain ⟨k, j1, rfl, k0, k1, hj1, rfl⟩ := z
  refine W_use (dipJ J (B := B + 3) (get_set h) hj1 (by omega) (by omega)) fun u S1 z => ?_
  obtain ⟨w, j2, rfl, w0, w1, hj2, rfl⟩ := z
  simp_arith [ps14]
  refine W_use (one_of J (l := parts) (B := B + 2) (get_set h) hj2 (by decide) (by decide)) fun u S1 z => ?_
  obtain ⟨part, j3, rfl, hp, hj3, rfl⟩ := z
  have hpg := parts_ge hp
  simp_arith []
  refine if_q (fun z => ?_) fun z => ?_
  · simp_arith [cut_to (A := P) (l := l) (k := k) k0, cut_from (A := P) (l := l) (k := k + 1) (by omega)]
    refine ⟨by simp; omega, by simp; omega, _, j3, rfl, gd_tup (fun x hx => ?_) (by simp; omega), hj3.less (by omega), rfl⟩
    rcases List.mem_append.mp hx with hx | hx
    · rcases List.mem_append.mp hx with hx | hx
      · exact hg x (List.mem_of_mem_take hx)
      · rw [List.mem_singleton.mp hx]; exact hpg
    · exact hg x (List.mem_of_mem_drop hx)
  · try simp_arith []
    refine if_q (fun z => ?_) fun z => ?_
    · simp_arith [cut_from (A := P) (l := l) (k := 1) (by decide), b_pow6, ps7, mul_tup1 h2 (show l.length ≤ 1000 by omega)]
      refine ⟨by omega, by rw [List.length_drop]; omega, ?_⟩
      refine W_use (odd J (B := B + 1) eo (get_set h) hj3) fun u S1 z => ?_
      obtain ⟨x, j4, rfl, hx, hj4, rfl⟩ := z
      simp_arith []
      refine ⟨by rw [sl]; decide, ?_⟩
      have hd : ∀ x ∈ List.drop (Int.toNat 1) l, Ge x := fun x hx => hg x (List.mem_of_mem_drop hx)
      have hdl : (List.drop (Int.toNat 1) l).length ≤ 6 := by rw [List.length_drop]; omega
      refine W_use (one_of J (B := B) (l := [P.tup (List.drop (Int.toNat 1) l), P.tup (l ++ [P.tup [P.int 0, P.int 1]]), P.lst l, P.non, P.tup [], P.tup l.reverse, P.tup (P.tup [P.int 1, P.int 1000001] :: List.drop (Int.toNat 1) l), P.tup (List.replicate l.length (P.tup [P.int 0, P.int 1])), x]) (get_set h) hj4 (List.cons_ne_nil _ _) (by simp only [List.length_cons, List.length_nil]; omega)) fun u S1 z => ?_
      obtain ⟨y, j5, rfl, hy, hj5, rfl⟩ := z
      simp_arith []
      refine ⟨y, j5, rfl, ?_, hj5, rfl⟩
      simp only [List.mem_cons, List.not_mem_nil, or_false] at hy
      rcases hy with rfl | rfl | rfl | rfl | rfl | rfl | rfl | rfl | rfl
      · exact gd_tup hd (by omega)
      · refine gd_tup (fun x hx => ?_) (by simp; omega)
        rcases List.mem_append.mp hx with hx | hx
        · exact hg x hx
        · rw [List.mem_singleton.mp hx]; exact ge_01
      · exact gd_lst hg (by omega)
      · exact ⟨by decide +kernel⟩
      · exact ⟨by decide +kernel⟩
      · exact gd_tup (fun x hx => hg x (List.mem_reverse.mp hx)) (by simp; omega)
      · refine gd_tup (fun x hx => ?_) (by rw [List.length_cons]; omega)
        rcases List.mem_cons.mp hx with rfl | hx
        · exact ge_mil
        · exact hd x hx
      · refine gd_tup (fun x hx => ?_) (by simp; omega)
        rw [(List.mem_replicate.mp hx).2]; exact ge_01
      · exact hx
    · try simp_arith []
      exact ⟨_, j3, rfl, gd_tup hg (by omega), hj3.less (by omega), rfl⟩
end
end Lb
end
section
set_option Elab.async false
set_option linter.all false
set_option maxRecDepth 100000
set_option maxHeartbeats 2000000
/-! law k06: what worth() says of drawn values, and what is due -/
open PySem
namespace Ev
open PySem L2
theorem ord_cp {a b : U} : inOrd ["chance", "payoff"] [a, b] ["payoff", "chance"] = some [b, a] := (rfl)
theorem ne_told {w t : Str} {S : Sto} (hw : PyData.strOk w = true) (ht : PyData.strOk t = true) :
    cmpP .ne (.c S.length) (.p (.lst [.lst [.str w, .str t], .lst [.str w, .str t]])) (S ++ [[.lst [.str w, .str t], .lst [.str w, .str t]]]) = some (.bl false) := by
  have e : eqB (.c S.length) (.p (.lst [.lst [.str w, .str t], .lst [.str w, .str t]])) (S ++ [[.lst [.str w, .str t], .lst [.str w, .str t]]]) = some true := by
    unfold eqB
    have e1 : toPyU (.c S.length) (S ++ [[.lst [.str w, .str t], .lst [.str w, .str t]]]) = some (.list [.list [.str w, .str t], .list [.str w, .str t]]) := by
      unfold toPyU
      dsimp only
      rw [gl0]
      rfl
    have e2 : toPyU (.p (.lst [.lst [.str w, .str t], .lst [.str w, .str t]])) (S ++ [[.lst [.str w, .str t], .lst [.str w, .str t]]]) = some (.list [.list [.str w, .str t], .list [.str w, .str t]]) := rfl
    rw [e1, e2]
    dsimp only
    have sh : SeqAt.shaped (.list [.list [.str w, .str t], .list [.str w, .str t]]) = true := by
      simp only [SeqAt.shaped, PyData.canLay0, PyData.canLayAll0, PyData.depth, PyData.depthAll, hw, ht]
      rfl
    rw [if_pos ⟨sh, sh⟩]
    simp [PyData.eqv, PyData.eqvAll]
  show ((eqB _ _ _).map fun b => P.bl (!b)) = _
  rw [e]; rfl
theorem eq_gave {S : Sto} : cmpP .eq (.p (.str "gave")) (.p (.str "gave")) S = some (.bl true) := by
  show (eqB _ _ _).map P.bl = _
  rw [eqB_str (by decide +kernel) (by decide +kernel)]
  decide +kernel
theorem eq_chance {S : Sto} : cmpP .eq (.p (.str "chance")) (.p (.str "gave")) S = some (.bl false) := by
  show (eqB _ _ _).map P.bl = _
  rw [eqB_str (by decide +kernel) (by decide +kernel)]
  decide +kernel
theorem eq_payoff {S : Sto} : cmpP .eq (.p (.str "payoff")) (.p (.str "gave")) S = some (.bl false) := by
  show (eqB _ _ _).map P.bl = _
  rw [eqB_str (by decide +kernel) (by decide +kernel)]
  decide +kernel
theorem ne_nil0 {S : Sto} : cmpP .ne (.p (.lst [])) (.p (.lst [])) S = some (.bl false) := by rfl
theorem ne_nil1 {S : Sto} : cmpP .ne (.p (.lst [.non])) (.p (.lst [])) S = some (.bl true) := by rfl
theorem ne_nil2 {S : Sto} {i : Int} : cmpP .ne (.p (.lst [.int i])) (.p (.lst [])) S = some (.bl true) := by rfl
end Ev
namespace Lb
open PySem Ev L2 Lt La
theorem wsum_sz {s : Nat} : ∀ {xs : List Int} {cs : List Rat}, (∀ x ∈ xs, x.natAbs < 2 ^ 12) → (∀ c ∈ cs, Sz s c) → Sz (xs.length * (s + 13) + 1) (wsum xs cs)
  | [], cs, _, _ => ⟨by show 0 < _; exact Nat.pow_pos (by decide), by show 1 < _; rw [List.length_nil, Nat.zero_mul]; decide⟩
  | x :: xs, [], _, _ => ⟨by show 0 < _; exact Nat.pow_pos (by decide), by show 1 < _; exact Nat.one_lt_two_pow (by omega)⟩
  | x :: xs, c :: cs, hx, hc => by
    have ih := wsum_sz (s := s) (xs := xs) (cs := cs) (fun y hy => hx y (List.mem_cons_of_mem _ hy)) fun y hy => hc y (List.mem_cons_of_mem _ hy)
    have t := times_sz (sz_int (hx x (by simp)) (by decide)) (hc c (by simp))
    show Sz _ ((x : Rat) * c + wsum xs cs)
    refine (plus_sz t ih).mono ?_
    rw [List.length_cons, Nat.add_mul]; omega
theorem wsum_2 : ∀ (xs : List Int) (cs : List Rat), wsum (xs.map fun x => 2 * x) cs = 2 * wsum xs cs
  | [], cs => by show (0 : Rat) = 2 * 0; grind
  | x :: xs, [] => by show (0 : Rat) = 2 * 0; grind
  | x :: xs, c :: cs => by
    show ((2 * x : Int) : Rat) * c + wsum (xs.map fun x => 2 * x) cs = 2 * ((x : Rat) * c + wsum xs cs)
    rw [wsum_2 xs cs, Rat.intCast_mul]
    grind
theorem wsum_n : ∀ (xs : List Int) (cs : List Rat), wsum (xs.map fun x => 0 - x) cs = - wsum xs cs
  | [], cs => by show (0 : Rat) = - 0; grind
  | x :: xs, [] => by show (0 : Rat) = - 0; grind
  | x :: xs, c :: cs => by
    show ((0 - x : Int) : Rat) * c + wsum (xs.map fun x => 0 - x) cs = - ((x : Rat) * c + wsum xs cs)
    rw [wsum_n xs cs, Int.zero_sub, Rat.intCast_neg]
    grind
theorem wsum_3 : ∀ (xs : List Int) (cs : List Rat), xs.length = cs.length → wsum (xs.map fun x => x + 3) cs = wsum xs cs + 3 * rsum cs
  | [], [], _ => by show (0 : Rat) = 0 + 3 * 0; grind
  | x :: xs, [], h => by cases h
  | [], c :: cs, h => by cases h
  | x :: xs, c :: cs, h => by
    show ((x + 3 : Int) : Rat) * c + wsum (xs.map fun x => x + 3) cs = ((x : Rat) * c + wsum xs cs) + 3 * (c + rsum cs)
    rw [wsum_3 xs cs (by simpa using h), Rat.intCast_add]
    grind
theorem fault_v : ∀ {l : List P} {i : Nat} {t : Rat} {v : P}, fault l i t = some v → v = .non ∨ ∃ k : Nat, v = .int k ∧ k < i + l.length
  | [], i, t, v, h => by
    unfold fault at h
    split at h
    · cases h; exact .inl rfl
    · cases h
  | x :: r, i, t, v, h => by
    unfold fault at h
    split at h
    · split at h
      · cases h; exact .inr ⟨i, rfl, by simp⟩
      · rcases fault_v h with e | ⟨k, e, hk⟩
        · exact .inl e
        · exact .inr ⟨k, e, by simp; omega⟩
    · cases h; exact .inr ⟨i, rfl, by simp⟩
theorem chF_v {p : P} {k : Nat} {v : P} (h : chF p k = some v) (hk : k < 100) : v = .non ∨ ∃ i : Nat, v = .int i ∧ i < 100 := by
  unfold chF at h
  split at h
  · split at h
    · rename_i l e
      rcases fault_v h with e | ⟨i, e, hi⟩
      · exact .inl e
      · exact .inr ⟨i, e, by omega⟩
    · cases h; exact .inl rfl
  · cases h; exact .inl rfl
theorem sh_v {v : P} (h : v = .non ∨ ∃ i : Nat, v = .int i ∧ i < 100) : ShP v := by
  right
  rcases h with rfl | ⟨i, rfl, hi⟩
  · exact ⟨rfl, by decide +kernel, by decide +kernel⟩
  · refine ⟨?_, by show 700 ≤ 80000; decide, by show 0 ≤ 60; decide⟩
    show decide ((i : Int).natAbs < 2 ^ 600) = true
    refine decide_eq_true (Nat.lt_trans (show (i : Int).natAbs < 2 ^ 7 by rw [Int.natAbs_natCast]; omega) (Nat.pow_lt_pow_right (by decide) (by decide)))
theorem ne_due {v : P} {S : Sto} (h : v = .non ∨ ∃ i : Nat, v = .int i ∧ i < 100) : cmpP .ne (.p (.lst [v])) (.p (.lst [])) S = some (.bl true) := by
  rcases h with rfl | ⟨i, rfl, hi⟩
  · exact ne_nil1
  · exact ne_nil2
end Lb
end
section
set_option Elab.async false
set_option linter.all false
set_option maxRecDepth 100000
set_option maxHeartbeats 2000000
local macro_rules
  | `(tactic| simp_arith [$ls,*]) => `(tactic| simp only [↓Ev.q_var, ↓Ev.q_glo, ↓Ev.q_cst, ↓Ev.q_bin, ↓Ev.q_neg, ↓Ev.q_cmp, ↓Ev.q_cmp2, ↓Ev.q_and, ↓Ev.q_and1, ↓Ev.q_andm, ↓Ev.q_or, ↓Ev.q_or1, ↓Ev.q_orm, ↓Ev.q_not, ↓Ev.q_ite, ↓Ev.q_blt, ↓Ev.q_gcd, ↓Ev.q_call, ↓Ev.q_make, ↓Ev.q_callK, ↓Ev.q_makeK, ↓Ev.q_tup, ↓Ev.q_lst, ↓Ev.q_cel, ↓Ev.q_idx, ↓Ev.q_sli, ↓Ev.q_app, ↓Ev.q_isi, ↓Ev.q_repr, ↓Ev.q_fld, ↓Ev.q_isc, ↓Ev.q_isx, ↓Ev.q_isb, ↓Ev.q_erf, ↓Ev.q_rev, ↓Ev.q_fstr, ↓Ev.q_fnil, ↓Ev.q_ftxt, ↓Ev.q_fval, ↓Ev.q_nil, ↓Ev.q_cons, ↓Ev.q_no, ↓Ev.q_so, ↓Ev.q_tru, ↓Ev.q_tcmp, ↓Ev.q_tcmp2, ↓Ev.q_tnot, ↓Ev.q_tand, ↓Ev.q_tor, ↓Ev.q_tand1, ↓Ev.q_tor1, ↓Ev.q_tandm, ↓Ev.q_torm, ↓Ev.q_cno, ↓Ev.q_cso, ↓Ev.q_iseq, ↓Ev.q_rng1, ↓Ev.q_rng2, ↓Ev.q_zip, ↓Ev.q_enum, ↓Ev.q_snil, ↓Ev.q_scons, ↓Ev.q_pass, ↓Ev.q_brk, ↓Ev.q_cont, ↓Ev.q_ret, ↓Ev.q_retN, ↓Ev.q_raise, ↓Ev.q_if, ↓Ev.q_set, ↓Ev.q_asg, ↓Ev.q_drop, ↓Ev.q_par, ↓Ev.q_for, ↓Ev.q_setI, ↓Ev.q_setIN, ↓Ev.q_augI, ↓Ev.q_emp, ↓Ev.q_addC, ↓Ev.q_lidx, ↓Ev.q_lcnt, ↓Ev.AddQ_some, ↓Ev.W_ok, ↓Ev.SeqQ_nx, ↓Ev.SeqQ_rt, ↓Ev.SeqQ_bk, ↓Ev.SeqQ_ct, ↓Ev.OutQ_nx, ↓Ev.OutQ_rt, ↓Ev.TrQ_p, ↓Ev.VarQ_some, ↓Ev.LifQ_some, ↓Ev.LibQ_some, ↓Ev.IfQ_t, ↓Ev.IfQ_f, ↓Ev.AndQ_some, ↓Ev.SqQ_some, ↓Ev.StoQ_some, ↓Ev.EnQ_some, ↓Ev.C2Q_bl, ↓Ev.CelQ_some, ↓Ev.FmtQ_some, ↓Ev.ParQ_2, ↓Ev.b_mul, ↓Ev.b_div, ↓Ev.b_mod, ↓Ev.dm_blt, ↓Ev.f_int, ↓Ev.f_str, ↓Ev.s_int, ↓Ev.q_comp, ↓Ev.q_prop, ↓Ev.q_ostr, ↓Ev.q_orepr, ↓Ev.q_ocmpT, ↓Ev.q_ocmpF, ↓Ev.q_join, ↓Ev.q_tocmp, ↓Ev.q_totru, ↓Ev.b_addS, ↓Ev.b_addL, ↓Ev.b_addTQ, ↓Ev.q_setK, ↓Ev.q_while, Ev.VarQ_some, Ev.LifQ_some, Ev.LibQ_some, Ev.IfQ_t, Ev.IfQ_f, Ev.AndQ_some, Ev.SqQ_some, Ev.StoQ_some, Ev.EnQ_some, Ev.C2Q_bl, Ev.CelQ_some, Ev.OrdQ_some, Ev.FmtQ_some, Ev.ParQ_2, Ev.b_add, Ev.b_sub, Ev.c_lt, Ev.c_le, Ev.c_gt, Ev.c_ge, Ev.c_eq, Ev.c_ne, Ev.bl_of, Ev.v_neg, Ev.t_bl, Ev.t_int, Ev.t_tup, Ev.t_lst, Ev.t_non, Ev.ix_tup, Ev.ix_lst, Ev.ix_scr, Ev.at_0, Ev.at_1, Ev.at_2, Ev.l_tup, Ev.l_lst, Ev.len_blt, Ev.abs_blt, Ev.max_blt, Ev.min_blt, Ev.int_blt, Ev.tup_blt, Ev.lst_blt, Ev.gcd_int, Ev.seq_tup, Ev.seq_lst, Ev.seq_scr, Ev.ps0, Ev.ps1, Ev.ps2, Ev.ps3, Ev.ps4, Ev.ps5, Option.map_some, Option.map_none, List.getElem?_cons_zero, List.getElem?_cons_succ, List.set_cons_zero, List.set_cons_succ, List.map_cons, List.map_nil, List.cons_append, List.nil_append, List.length_cons, List.length_nil, List.length_set, List.replicate_succ, List.replicate_zero, Nat.reduceAdd, Nat.reduceSub, Nat.reduceLT, Nat.reduceLeDiff, Nat.sub_self, Ev.take_all, Ev.take_setS, Ev.take_app, Ev.take_setapp, Ev.ObQ_obj, Ev.TxQ_str, Ev.noex_ok, Ev.txtB_ok, Ev.truB_ok, Ev.notB_ok, Ev.ok_obj, Ev.ok_int, Ev.ok_str, Ev.ok_tup, Ev.ok_non, Ev.b_pow18, Ev.cut_tup, Ev.cut_lst, Ev.cut_scr, Ev.rev_tup, Ev.as_tup1, List.set_set, Ev.wipeE, Ev.asg_nm, Ev.asg_tp, Ev.asgs_nil, Ev.asgs_c1, $ls,*])
  | `(tactic| simp_arith [$ls,*] at $h:ident) => `(tactic| simp only [↓Ev.q_var, ↓Ev.q_glo, ↓Ev.q_cst, ↓Ev.q_bin, ↓Ev.q_neg, ↓Ev.q_cmp, ↓Ev.q_cmp2, ↓Ev.q_and, ↓Ev.q_and1, ↓Ev.q_andm, ↓Ev.q_or, ↓Ev.q_or1, ↓Ev.q_orm, ↓Ev.q_not, ↓Ev.q_ite, ↓Ev.q_blt, ↓Ev.q_gcd, ↓Ev.q_call, ↓Ev.q_make, ↓Ev.q_callK, ↓Ev.q_makeK, ↓Ev.q_tup, ↓Ev.q_lst, ↓Ev.q_cel, ↓Ev.q_idx, ↓Ev.q_sli, ↓Ev.q_app, ↓Ev.q_isi, ↓Ev.q_repr, ↓Ev.q_fld, ↓Ev.q_isc, ↓Ev.q_isx, ↓Ev.q_isb, ↓Ev.q_erf, ↓Ev.q_rev, ↓Ev.q_fstr, ↓Ev.q_fnil, ↓Ev.q_ftxt, ↓Ev.q_fval, ↓Ev.q_nil, ↓Ev.q_cons, ↓Ev.q_no, ↓Ev.q_so, ↓Ev.q_tru, ↓Ev.q_tcmp, ↓Ev.q_tcmp2, ↓Ev.q_tnot, ↓Ev.q_tand, ↓Ev.q_tor, ↓Ev.q_tand1, ↓Ev.q_tor1, ↓Ev.q_tandm, ↓Ev.q_torm, ↓Ev.q_cno, ↓Ev.q_cso, ↓Ev.q_iseq, ↓Ev.q_rng1, ↓Ev.q_rng2, ↓Ev.q_zip, ↓Ev.q_enum, ↓Ev.q_snil, ↓Ev.q_scons, ↓Ev.q_pass, ↓Ev.q_brk, ↓Ev.q_cont, ↓Ev.q_ret, ↓Ev.q_retN, ↓Ev.q_raise, ↓Ev.q_if, ↓Ev.q_set, ↓Ev.q_asg, ↓Ev.q_drop, ↓Ev.q_par, ↓Ev.q_for, ↓Ev.q_setI, ↓Ev.q_setIN, ↓Ev.q_augI, ↓Ev.q_emp, ↓Ev.q_addC, ↓Ev.q_lidx, ↓Ev.q_lcnt, ↓Ev.AddQ_some, ↓Ev.W_ok, ↓Ev.SeqQ_nx, ↓Ev.SeqQ_rt, ↓Ev.SeqQ_bk, ↓Ev.SeqQ_ct, ↓Ev.OutQ_nx, ↓Ev.OutQ_rt, ↓Ev.TrQ_p, ↓Ev.VarQ_some, ↓Ev.LifQ_some, ↓Ev.LibQ_some, ↓Ev.IfQ_t, ↓Ev.IfQ_f, ↓Ev.AndQ_some, ↓Ev.SqQ_some, ↓Ev.StoQ_some, ↓Ev.EnQ_some, ↓Ev.C2Q_bl, ↓Ev.CelQ_some, ↓Ev.FmtQ_some, ↓Ev.ParQ_2, ↓Ev.b_mul, ↓Ev.b_div, ↓Ev.b_mod, ↓Ev.dm_blt, ↓Ev.f_int, ↓Ev.f_str, ↓Ev.s_int, ↓Ev.q_comp, ↓Ev.q_prop, ↓Ev.q_ostr, ↓Ev.q_orepr, ↓Ev.q_ocmpT, ↓Ev.q_ocmpF, ↓Ev.q_join, ↓Ev.q_tocmp, ↓Ev.q_totru, ↓Ev.b_addS, ↓Ev.b_addL, ↓Ev.b_addTQ, ↓Ev.q_setK, ↓Ev.q_while, Ev.VarQ_some, Ev.LifQ_some, Ev.LibQ_some, Ev.IfQ_t, Ev.IfQ_f, Ev.AndQ_some, Ev.SqQ_some, Ev.StoQ_some, Ev.EnQ_some, Ev.C2Q_bl, Ev.CelQ_some, Ev.OrdQ_some, Ev.FmtQ_some, Ev.ParQ_2, Ev.b_add, Ev.b_sub, Ev.c_lt, Ev.c_le, Ev.c_gt, Ev.c_ge, Ev.c_eq, Ev.c_ne, Ev.bl_of, Ev.v_neg, Ev.t_bl, Ev.t_int, Ev.t_tup, Ev.t_lst, Ev.t_non, Ev.ix_tup, Ev.ix_lst, Ev.ix_scr, Ev.at_0, Ev.at_1, Ev.at_2, Ev.l_tup, Ev.l_lst, Ev.len_blt, Ev.abs_blt, Ev.max_blt, Ev.min_blt, Ev.int_blt, Ev.tup_blt, Ev.lst_blt, Ev.gcd_int, Ev.seq_tup, Ev.seq_lst, Ev.seq_scr, Ev.ps0, Ev.ps1, Ev.ps2, Ev.ps3, Ev.ps4, Ev.ps5, Option.map_some, Option.map_none, List.getElem?_cons_zero, List.getElem?_cons_succ, List.set_cons_zero, List.set_cons_succ, List.map_cons, List.map_nil, List.cons_append, List.nil_append, List.length_cons, List.length_nil, List.length_set, List.replicate_succ, List.replicate_zero, Nat.reduceAdd, Nat.reduceSub, Nat.reduceLT, Nat.reduceLeDiff, Nat.sub_self, Ev.take_all, Ev.take_setS, Ev.take_app, Ev.take_setapp, Ev.ObQ_obj, Ev.TxQ_str, Ev.noex_ok, Ev.txtB_ok, Ev.truB_ok, Ev.notB_ok, Ev.ok_obj, Ev.ok_int, Ev.ok_str, Ev.ok_tup, Ev.ok_non, Ev.b_pow18, Ev.cut_tup, Ev.cut_lst, Ev.cut_scr, Ev.rev_tup, Ev.as_tup1, List.set_set, Ev.wipeE, Ev.asg_nm, Ev.asg_tp, Ev.asgs_nil, Ev.asgs_c1, $ls,*] at $h:ident)
/-! law k06: a turn -/
namespace Ev
open PySem L2
theorem le_maxL : ∀ (ns : List Int) (m : Int), m ≤ maxL m ns ∧ ∀ x ∈ ns, x ≤ maxL m ns
  | [], m => ⟨Int.le_refl _, fun x h => by cases h⟩
  | n :: ns, m => by
    show m ≤ maxL (if n > m then n else m) ns ∧ ∀ x ∈ n :: ns, x ≤ maxL (if n > m then n else m) ns
    obtain ⟨h1, h2⟩ := le_maxL ns (if n > m then n else m)
    have h3 : m ≤ (if n > m then n else m) ∧ n ≤ (if n > m then n else m) := by split <;> omega
    refine ⟨by omega, fun x hx => ?_⟩
    rcases List.mem_cons.mp hx with rfl | hx
    · omega
    · exact h2 x hx
theorem max_ints {n : Int} {ns : List Int} {S : Sto} : bltP .max [.p (.lst ((n :: ns).map .int))] S = some (.int (maxL n ns)) := by
  show maxLP [.p (.lst ((n :: ns).map .int))] S = _
  unfold maxLP
  have e : intsOf [.p (.lst ((n :: ns).map .int))] S = some (n :: ns) := asInts_map _
  rw [e]
end Ev
namespace Lb
open PySem Ev L2 Lt La
def cmX : List (Str × Bool) := [("InvalidPayoff", true), ("InvalidChance", true)]
section
variable {T : Tab} (K : Kh T)
include K
theorem worth_of {xs : List Int} {r : P} (hr : Pl r = true) (h2 : 2 ≤ xs.length) (h6 : xs.length ≤ 6) (hx : ∀ x ∈ xs, x.natAbs ≤ 1000) (hc : chF r xs.length = none) (S : Sto) :
    T "worth" [.p (inP' xs), .p r] S = some (.ok (.p (qf (wsum xs (rats r)))) S) := by
  have pl : Pl (inP' xs) = true := by
    show PlA (xs.map .int) = true
    rw [PlA_all]
    intro x hx
    obtain ⟨i, _, rfl⟩ := List.mem_map.mp hx
    rfl
  have gi : gInts (inP' xs) = xs := by
    show (xs.map .int).map intOf = xs
    rw [List.map_map]
    exact List.map_id xs
  have ag : anyGain (inP' xs) = true := by
    show (decide (2 ≤ (xs.map P.int).length) && decide ((xs.map P.int).length ≤ 6) && (xs.map P.int).all (inR · (-1000) 1000)) = true
    rw [List.length_map, decide_eq_true h2, decide_eq_true h6, Bool.true_and, Bool.true_and, List.all_eq_true]
    intro p hp
    obtain ⟨i, hi, rfl⟩ := List.mem_map.mp hp
    have := hx i hi
    show (decide (-1000 ≤ i) && decide (i ≤ 1000)) = true
    rw [decide_eq_true (by omega), decide_eq_true (by omega)]; rfl
  have pn : plen (inP' xs) = xs.length := List.length_map ..
  rw [worthA K S pl hr]
  unfold worthM
  rw [if_pos ag, pn, hc, gi]
  rfl
theorem said (es : T "_law_sort" = fDef 6 (dS T Lt6.t__law_sort.body)) {g r : P} (hg : Gd g) (hr : Gd r) : ∃ w t : Str, PyData.strOk w = true ∧ PyData.strOk t = true ∧
    (∀ (S : Sto) (Q : U → Sto → Prop), Q (.p (.lst [.str w, .str t])) S → W (T "worth" [.p g, .p r] S) (GavQ Q) (CauQ cmX (T "_law_sort") Q)) ∧
    ((anyGain g = false ∧ w = "payoff" ∧ ∀ S, reprP [.p g] S = some (.str t)) ∨
     (anyGain g = true ∧ ∃ v, chF r (plen g) = some v ∧ (v = .non ∨ ∃ i : Nat, v = .int i ∧ i < 100) ∧ w = "chance" ∧ ∀ S, reprP [.p v] S = some (.str t)) ∨
     (anyGain g = true ∧ chF r (plen g) = none ∧ w = "gave" ∧ ∀ S, reprP [.p (qf (wsum (gInts g) (rats r)))] S = some (.str t))) := by
  have wa := fun S => worthA K S hg.pl hr.pl
  unfold worthM at wa
  cases c : anyGain g with
  | false =>
    obtain ⟨t, ht, ho⟩ := shp hg.sh
    refine ⟨"payoff", t, by decide +kernel, ho, fun S Q hQ => ?_, .inl ⟨rfl, rfl, ht⟩⟩
    refine W_exE (wa S |>.trans (by rw [c]; rfl)) ⟨rfl, ?_⟩
    exact W_of (sort_pay es S ht) hQ
  | true =>
    obtain ⟨e1, e2, e3, e4, e5⟩ := gain_is c
    cases cf : chF r (plen g) with
    | some v =>
      have hv := chF_v cf (by omega)
      obtain ⟨t, ht, ho⟩ := shp (sh_v hv)
      refine ⟨"chance", t, by decide +kernel, ho, fun S Q hQ => ?_, .inr (.inl ⟨rfl, v, rfl, hv, rfl, ht⟩)⟩
      refine W_exE (wa S |>.trans (by rw [c, if_pos rfl, cf]; rfl)) ⟨rfl, ?_⟩
      exact W_of (sort_cha es S ht) hQ
    | none =>
      obtain ⟨f1, f2, f3, f4⟩ := chance_is cf
      have sz : Sz 600 (wsum (gInts g) (rats r)) := (wsum_sz (s := 20) (fun x hx => by have := e5 x hx; omega) f3).mono (by omega)
      have sh : ShP (qf (wsum (gInts g) (rats r))) := .inr (by have := (ge_qf sz).ok; exact ⟨this.1, by omega, by omega⟩)
      obtain ⟨t, ht, ho⟩ := shp sh
      refine ⟨"gave", t, by decide +kernel, ho, fun S Q hQ => ?_, .inr (.inr ⟨rfl, rfl, rfl, ht⟩)⟩
      refine W_of (wa S |>.trans (by rw [c, if_pos rfl, cf]; rfl)) ?_
      unfold GavQ
      rw [ht, Option.map_some, LifQ_some]
      exact hQ
end
def fineE : Te := (.and_ (.more (.isi .tuple (.var 9)) (.more (.cmp2 .le .le (.cst (.int 2)) (.blt .len (.cons (.var 9) .nil)) (.cst (.int 6))) (.one (.call "_law_is_gain" (.cons (.var 9) (.cons (.blt .len (.cons (.var 9) .nil)) .nil)))))))
def tail8 : Ts := (.cons (.if_ (.cmp .eq (.idx (.var 5) (.cst (.int 0))) (.cst (.str "gave"))) (.cons (.set 8 (.call "worth" (.cons (.var 9) (.cons (.var 10) .nil)))) (.cons (.if_ (.cmp .lt (.blt .max (.cons (.comp false [(".0", 11), ("_law_x", 12)] (.nm 12) (.seq (.var 9)) .no (.blt .abs (.cons (.var 12) .nil))) .nil)) (.cst (.int 500))) (.cons (.if_ (.cmp .ne (.call "worth" (.cons (.blt .tuple (.cons (.comp false [(".0", 11), ("_law_x", 12)] (.nm 12) (.seq (.var 9)) .no (.bin .mul (.cst (.int 2)) (.var 12))) .nil)) (.cons (.var 10) .nil))) (.call "_law_times" (.cons (.tup (.cons (.cst (.int 2)) (.cons (.cst (.int 1)) .nil))) (.cons (.var 8) .nil)))) (.cons (.ret (.cst (.bl false))) .nil) .nil) (.cons (.if_ (.cmp .ne (.call "worth" (.cons (.blt .tuple (.cons (.comp false [(".0", 11), ("_law_x", 12)] (.nm 12) (.seq (.var 9)) .no (.bin .add (.var 12) (.cst (.int 3)))) .nil)) (.cons (.var 10) .nil))) (.call "_law_plus" (.cons (.var 8) (.cons (.tup (.cons (.cst (.int 3)) (.cons (.cst (.int 1)) .nil))) .nil)))) (.cons (.ret (.cst (.bl false))) .nil) .nil) .nil)) .nil) (.cons (.if_ (.cmp .ne (.call "worth" (.cons (.blt .tuple (.cons (.comp false [(".0", 11), ("_law_x", 12)] (.nm 12) (.seq (.var 9)) .no (.bin .sub (.cst (.int 0)) (.var 12))) .nil)) (.cons (.var 10) .nil))) (.call "_law_minus" (.cons (.var 8) .nil))) (.cons (.ret (.cst (.bl false))) .nil) .nil) .nil))) .nil) .nil)
def tail7 : Ts := (.cons (.set 7 (.cel (.cons (.caught "_law_caught" "_law_sort" [("InvalidPayoff", true), ("InvalidChance", true)] (.call "worth" (.cons (.var 9) (.cons (.var 10) .nil)))) .nil))) (.cons (.drop (.app (.var 7) (.caught "_law_caught" "_law_sort" [("InvalidPayoff", true), ("InvalidChance", true)] (.callK "worth" ["chance", "payoff"] ["payoff", "chance"] (.cons (.var 10) (.cons (.var 9) .nil)))))) (.cons (.if_ (.cmp .ne (.var 7) (.lst (.cons (.var 5) (.cons (.var 5) .nil)))) (.cons (.ret (.cst (.bl false))) .nil) .nil) tail8)))
def body2 : Ts := (.cons (.set 4 fineE) (.cons (.set 5 (.lst (.cons (.cst (.str "payoff")) (.cons (.repr (.cons (.var 9) .nil)) .nil)))) (.cons (.if_ (.tru (.var 4)) (.cons (.set 6 (.call "_law_chance_fault" (.cons (.var 10) (.cons (.blt .len (.cons (.var 9) .nil)) .nil)))) (.cons (.set 5 (.ite (.cmp .ne (.var 6) (.lst .nil)) (.lst (.cons (.cst (.str "chance")) (.cons (.repr (.cons (.idx (.var 6) (.cst (.int 0))) .nil)) .nil))) (.lst (.cons (.cst (.str "gave")) (.cons (.repr (.cons (.call "_law_worth" (.cons (.var 9) (.cons (.var 10) .nil))) .nil)) .nil))))) .nil)) .nil) tail7)))
def body1 : Ts := (.cons (.set 2 (.call "_law_one_of" (.cons (.var 0) (.cons (.lst (.cons (.cst (.int 2)) (.cons (.cst (.int 3)) (.cons (.cst (.int 4)) (.cons (.cst (.int 5)) (.cons (.cst (.int 6)) .nil)))))) .nil)))) (.cons (.set 9 (.call "_law_payoff" (.cons (.var 0) (.cons (.var 2) (.cons (.call "_law_one_of" (.cons (.var 0) (.cons (.lst (.cons (.cst (.int 1)) (.cons (.cst (.int 3)) (.cons (.cst (.int 9)) (.cons (.cst (.int 1000)) .nil))))) .nil))) .nil))))) (.cons (.set 10 (.call "_law_bent_chance" (.cons (.var 0) (.cons (.call "_law_chance" (.cons (.var 0) (.cons (.var 2) .nil))) .nil)))) (.cons (.if_ (.cmp .eq (.call "_law_dip" (.cons (.var 0) (.cons (.cst (.int 5)) .nil))) (.cst (.int 0))) (.cons (.set 3 (.lst (.cons (.sli (.var 9) (.so (.cst (.int 1))) .no) (.cons (.bin .add (.var 9) (.tup (.cons (.cst (.int 0)) .nil))) (.cons (.blt .list (.cons (.var 9) .nil)) (.cons (.bin .mul (.tup (.cons (.cst (.int 1001)) .nil)) (.var 2)) (.cons (.bin .mul (.tup (.cons (.cst (.bl true)) .nil)) (.var 2)) (.cons (.sli (.var 9) .no (.so (.cst (.int 1)))) .nil)))))))) (.cons (.set 9 (.call "_law_one_of" (.cons (.var 0) (.cons (.bin .add (.var 3) (.lst (.cons (.call "_law_odd" (.cons (.var 0) .nil)) .nil))) .nil)))) .nil)) .nil) body2))))
theorem right_body : Lt6.t__law_right.body = (.cons (.for_ (.nm 1) (.rng1 (.cons (.cst (.int 8)) .nil)) body1) (.cons (.ret (.cst (.bl true))) .nil)) := (rfl)
section
variable {T : Tab} (K : Kh T) (J : J0 T) (L : Kl T) (es : T "_law_sort" = fDef 6 (dS T Lt6.t__law_sort.body))
include K J L
omit K J L in
theorem mapI {xs : List Int} {f : Int → Int} : inP' (xs.map f) = .tup (xs.map fun x => P.int (f x)) := by
  show P.tup ((xs.map f).map .int) = _
  rw [List.map_map]; rfl
omit K J L in
theorem nq {a : Rat} {S : Sto} : cmpP .ne (.p (qf a)) (.p (qf a)) S = some (.bl false) := by
  have e := c_neD (A := Rat) (by decide) a a S
  rw [decide_eq_true rfl] at e
  exact e
theorem tail8_ok {u0 u1 u2 u3 u4 u6 u7 u8 u11 u12 : Option U} {t : Str} {xs : List Int} {r : P} {S : Sto} {Q : Out → Sto → Prop} {E : Xn → Sto → Prop} (hr : Pl r = true) (h2 : 2 ≤ xs.length) (h6 : xs.length ≤ 6) (hx : ∀ x ∈ xs, x.natAbs ≤ 1000) (hc : chF r xs.length = none)
    (hQ : ∀ u8, Q (.nx [u0, u1, u2, u3, u4, some (.p (.lst [.str "gave", .str t])), u6, u7, u8, some (.p (inP' xs)), some (.p r), u11, u12]) S) :
    W (dS T tail8 [u0, u1, u2, u3, u4, some (.p (.lst [.str "gave", .str t])), u6, u7, u8, some (.p (inP' xs)), some (.p r), u11, u12] S) Q E := by
  obtain ⟨f1, f2, f3, f4⟩ := chance_is hc
  have wo := fun (ys : List Int) (hl : ys.length = xs.length) (hy : ∀ y ∈ ys, y.natAbs ≤ 1000) (S : Sto) => worth_of K (xs := ys) (r := r) hr (by omega) (by omega) hy (by rw [hl]; exact hc) S
  have w0 := wo xs rfl hx
  have sz : Sz 600 (wsum xs (rats r)) := (wsum_sz (s := 20) (fun x hx' => by have := hx x hx'; omega) f3).mono (by omega)
  have neg : W (dS T (.cons (.if_ (.cmp .ne (.call "worth" (.cons (.blt .tuple (.cons (.comp false [(".0", 11), ("_law_x", 12)] (.nm 12) (.seq (.var 9)) .no (.bin .sub (.cst (.int 0)) (.var 12))) .nil)) (.cons (.var 10) .nil))) (.call "_law_minus" (.cons (.var 8) .nil))) (.cons (.ret (.cst (.bl false))) .nil) .nil) .nil) [u0, u1, u2, u3, u4, some (.p (.lst [.str "gave", .str t])), u6, u7, some (.p (qf (wsum xs (rats r)))), some (.p (inP' xs)), some (.p r), u11, u12] S) Q E := by
    simp_arith []
    refine W_mapZ xs .int (fun x => .int (0 - x)) ?_ (by omega) ?_ ?_
    · simp_arith []
      (first | trivial | exact ⟨rfl, trivial⟩ | exact ⟨rfl, rfl⟩ | exact ⟨trivial, trivial⟩)
    · intro x hx acc
      refine ⟨_, rfl, ?_⟩
      simp_arith []
      (first | trivial | exact ⟨rfl, trivial⟩ | exact ⟨rfl, rfl⟩ | exact ⟨trivial, trivial⟩)
    · rw [if_neg (by decide)]
      have e1 := wo (xs.map fun x => 0 - x) (by simp) (fun y hy => by
        obtain ⟨x, hx', rfl⟩ := List.mem_map.mp hy
        have := hx x hx'; omega) S
      rw [mapI, wsum_n] at e1
      simp_arith [e1, minusR L, nq]
      exact hQ _
  unfold tail8
  simp_arith [eq_gave, w0]
  refine W_mapZ xs .int (fun x => .int (if x < 0 then -x else x)) ?_ (by omega) ?_ ?_
  · simp_arith []
    (first | trivial | exact ⟨rfl, trivial⟩ | exact ⟨rfl, rfl⟩ | exact ⟨trivial, trivial⟩)
  · intro x hx acc
    refine ⟨_, rfl, ?_⟩
    simp_arith []
    (first | trivial | exact ⟨rfl, trivial⟩ | exact ⟨rfl, rfl⟩ | exact ⟨trivial, trivial⟩)
  · rw [if_neg (by decide)]
    obtain ⟨m, hm, hm2⟩ : ∃ m : Int, (∀ S, bltP .max [.p (.lst (xs.map fun x => P.int (if x < 0 then -x else x)))] S = some (.int m)) ∧ ∀ x ∈ xs, (x.natAbs : Int) ≤ m := by
      cases xs with
      | nil => simp at h2
      | cons x xs =>
        refine ⟨maxL (if x < 0 then -x else x) (xs.map fun x => if x < 0 then -x else x), fun S => ?_, fun y hy => ?_⟩
        · have e : ((x :: xs).map fun x => P.int (if x < 0 then -x else x)) = (((if x < 0 then -x else x) :: (xs.map fun x => if x < 0 then -x else x))).map .int := by
            rw [List.map_cons, List.map_cons, List.map_map]; rfl
          rw [e]
          exact max_ints
        · obtain ⟨q1, q2⟩ := le_maxL (xs.map fun x => if x < 0 then -x else x) (if x < 0 then -x else x)
          rcases List.mem_cons.mp hy with rfl | hy
          · have : (if y < 0 then -y else y) = (y.natAbs : Int) := by split <;> omega
            omega
          · have := q2 (if y < 0 then -y else y) (List.mem_map.mpr ⟨y, hy, rfl⟩)
            have e : (if y < 0 then -y else y) = (y.natAbs : Int) := by split <;> omega
            omega
    simp_arith [hm]
    refine if_q (fun z => ?_) fun z => ?_
    · have z : m < 500 := of_decide_eq_true z
      try simp_arith []
      refine W_mapZ xs .int (fun x => .int (2 * x)) ?_ (by omega) ?_ ?_
      · simp_arith []
        (first | trivial | exact ⟨rfl, trivial⟩ | exact ⟨rfl, rfl⟩ | exact ⟨trivial, trivial⟩)
      · intro x hx' acc
        refine ⟨_, rfl, ?_⟩
        simp_arith []
        have := hx x hx'
        refine ⟨mulw (a := 12) (b := 12) (by decide) (by omega) (by decide), ?_⟩
        (first | trivial | exact ⟨rfl, trivial⟩ | exact ⟨rfl, rfl⟩ | exact ⟨trivial, trivial⟩)
      · rw [if_neg (by decide)]
        have e1 := wo (xs.map fun x => 2 * x) (by simp) (fun y hy => by
          obtain ⟨x, hx', rfl⟩ := List.mem_map.mp hy
          have := hm2 x hx'; omega) S
        rw [mapI, wsum_2] at e1
        have t2 := timesF J.toFr S (p := 2) (q := wsum xs (rats r)) (a := 2) (b := 600) ⟨by decide, by decide⟩ sz (by decide)
        rw [show qf 2 = .tup [.int 2, .int 1] by rfl] at t2
        simp_arith [e1, t2, nq]
        refine W_mapZ xs .int (fun x => .int (x + 3)) ?_ (by omega) ?_ ?_
        · simp_arith []
          (first | trivial | exact ⟨rfl, trivial⟩ | exact ⟨rfl, rfl⟩ | exact ⟨trivial, trivial⟩)
        · intro x hx' acc
          refine ⟨_, rfl, ?_⟩
          simp_arith []
          (first | trivial | exact ⟨rfl, trivial⟩ | exact ⟨rfl, rfl⟩ | exact ⟨trivial, trivial⟩)
        · rw [if_neg (by decide)]
          have e1 := wo (xs.map fun x => x + 3) (by simp) (fun y hy => by
            obtain ⟨x, hx', rfl⟩ := List.mem_map.mp hy
            have := hm2 x hx'; omega) S
          rw [mapI, wsum_3 _ _ (by rw [f2]), f4, show (3 : Rat) * 1 = 3 by grind] at e1
          have t2 := plusF J.toFr S (p := wsum xs (rats r)) (q := 3) (a := 600) (b := 2) sz ⟨by decide, by decide⟩ (by decide)
          rw [show qf 3 = .tup [.int 3, .int 1] by rfl] at t2
          simp_arith [e1, t2, nq]
          simp_arith [] at neg
          exact neg
    · try simp_arith []
      simp_arith [] at neg
      exact neg
theorem tail7_ok {u0 u1 u2 u3 u4 u6 u7 u8 u11 u12 : Option U} {w t : Str} {g r : P} {S : Sto} {Q : Out → Sto → Prop} {E : Xn → Sto → Prop} (hg : Gd g) (hr : Gd r) (hw : PyData.strOk w = true) (ht : PyData.strOk t = true)
    (hsay : ∀ (S : Sto) (Q : U → Sto → Prop), Q (.p (.lst [.str w, .str t])) S → W (T "worth" [.p g, .p r] S) (GavQ Q) (CauQ cmX (T "_law_sort") Q))
    (hc : w = "payoff" ∨ w = "chance" ∨ (w = "gave" ∧ anyGain g = true ∧ chF r (plen g) = none))
    (hQ : ∀ (u7 u8 : Option U) (l : List P), Q (.nx [u0, u1, u2, u3, u4, some (.p (.lst [.str w, .str t])), u6, u7, u8, some (.p g), some (.p r), u11, u12]) (S ++ [l])) :
    W (dS T tail7 [u0, u1, u2, u3, u4, some (.p (.lst [.str w, .str t])), u6, u7, u8, some (.p g), some (.p r), u11, u12] S) Q E := by
  unfold tail7
  simp_arith []
  refine q_caught ?_
  simp_arith []
  refine hsay _ _ ?_
  simp_arith []
  refine q_caught ?_
  simp_arith [ord_cp, OrdQ_some]
  refine ⟨trivial, ?_⟩
  refine hsay _ _ ?_
  rw [ap_last (by simp)]
  simp_arith [ne_told hw ht]
  rcases hc with rfl | rfl | ⟨rfl, c1, c2⟩
  · unfold tail8
    simp_arith [eq_payoff]
    exact hQ _ _ _
  · unfold tail8
    simp_arith [eq_chance]
    exact hQ _ _ _
  · obtain ⟨e1, e2, e3, e4, e5⟩ := gain_is c1
    rw [e2] at c2
    have t8 := tail8_ok K J L (u0 := u0) (u1 := u1) (u2 := u2) (u3 := u3) (u4 := u4) (u6 := u6) (u7 := some (.c S.length)) (u8 := u8) (u11 := u11) (u12 := u12) (t := t) (xs := gInts g) (S := S ++ [[.lst [.str "gave", .str t], .lst [.str "gave", .str t]]]) (Q := Q) (E := E) hr.pl e3 e4 e5 c2
    rw [← e1] at t8
    exact t8 fun u8 => hQ _ _ _
omit K J in
theorem fine_ok {ρ : En} {S : Sto} {g : P} (hg : Gd g) (h9 : ρ[9]? = some (some (.p g))) : W (dE T fineE ρ S) (fun u S' => u = .p (.bl (anyGain g)) ∧ S' = S) NoX := by
  unfold fineE
  simp_arith [h9, isi_tupA hg.pl, ty_tuple]
  cases g with
  | tup l =>
    simp only [isT]
    simp_arith [h9]
    by_cases h2 : (2 : Int) ≤ l.length
    · by_cases h6 : (l.length : Int) ≤ 6
      · rw [decide_eq_true h2, decide_eq_true h6, IfQ_t, IfQ_t]
        refine W_of (l_is_gain L S hg.pl l.length fun l e => by have := hg.ln l e; omega) ⟨?_, rfl⟩
        show U.p (P.bl (decide (l.length = l.length) && l.all (inR · (-1000) 1000))) = U.p (P.bl (decide (2 ≤ l.length) && decide (l.length ≤ 6) && l.all (inR · (-1000) 1000)))
        rw [decide_eq_true rfl, decide_eq_true (show 2 ≤ l.length by omega), decide_eq_true (show l.length ≤ 6 by omega)]
        rfl
      · rw [decide_eq_true h2, decide_eq_false h6, IfQ_t, IfQ_f]
        refine ⟨?_, trivial⟩
        show _ = U.p (P.bl (decide (2 ≤ l.length) && decide (l.length ≤ 6) && l.all (inR · (-1000) 1000)))
        rw [decide_eq_false (show ¬ l.length ≤ 6 by omega), Bool.and_false, Bool.false_and]
    · rw [decide_eq_false h2, IfQ_f]
      refine ⟨?_, trivial⟩
      show _ = U.p (P.bl (decide (2 ≤ l.length) && decide (l.length ≤ 6) && l.all (inR · (-1000) 1000)))
      rw [decide_eq_false (show ¬ 2 ≤ l.length by omega), Bool.false_and, Bool.false_and]
  | _ =>
    simp only [isT]
    simp_arith []
    (first | trivial | exact ⟨rfl, trivial⟩ | exact ⟨rfl, rfl⟩ | exact ⟨trivial, trivial⟩)
include es in
theorem body2_ok {u0 u1 u2 u3 u4 u5 u6 u7 u8 u11 u12 : Option U} {g r : P} {S : Sto} {Q : Out → Sto → Prop} {E : Xn → Sto → Prop} (hg : Gd g) (hr : Gd r)
    (hQ : ∀ (u4 u5 u6 u7 u8 : Option U) (l : List P), Q (.nx [u0, u1, u2, u3, u4, u5, u6, u7, u8, some (.p g), some (.p r), u11, u12]) (S ++ [l])) :
    W (dS T body2 [u0, u1, u2, u3, u4, u5, u6, u7, u8, some (.p g), some (.p r), u11, u12] S) Q E := by
  obtain ⟨w, t, hw, ht, hsay, hcs⟩ := said K es hg hr
  obtain ⟨t0, ht0, ho0⟩ := shp hg.sh
  unfold body2
  simp_arith []
  refine W_use (fine_ok L hg rfl) fun u S1 z => ?_
  obtain ⟨rfl, rfl⟩ := z
  simp_arith [ht0]
  rcases hcs with ⟨c, rfl, hrp⟩ | ⟨c, v, cv, hv, rfl, hrp⟩ | ⟨c, cf, rfl, hrp⟩
  · rw [c]
    simp_arith []
    have e : t0 = t := by
      have := (ht0 []).symm.trans (hrp [])
      cases this; rfl
    subst e
    exact tail7_ok K J L hg hr hw ht hsay (.inl rfl) fun u7 u8 l => hQ _ _ _ _ _ _
  · rw [c]
    obtain ⟨e1, e2, e3, e4, e5⟩ := gain_is c
    simp_arith []
    have el : lenP [.p g] S1 = some (.int (plen g)) := by rw [e1]; rfl
    have fa := l_chance_fault L J.toFr S1 hr.pl (k := plen g) (by omega)
    rw [cv] at fa
    simp_arith [el, fa, dueL, ne_due hv, hrp]
    exact tail7_ok K J L hg hr hw ht hsay (.inr (.inl rfl)) fun u7 u8 l => hQ _ _ _ _ _ _
  · rw [c]
    simp_arith []
    obtain ⟨e1, e2, e3, e4, e5⟩ := gain_is c
    obtain ⟨f1, f2, f3, f4⟩ := chance_is cf
    have el : lenP [.p g] S1 = some (.int (plen g)) := by rw [e1]; rfl
    have fa := l_chance_fault L J.toFr S1 hr.pl (k := plen g) (by omega)
    rw [cf] at fa
    have w := worth J (S := S1) (s := 20) (xs := gInts g) (cs := rats r) (by rw [f2, e2]) (by omega) (fun x hx => by have := e5 x hx; omega) f3 (by omega)
    rw [← e1, ← f1] at w
    simp_arith [el, fa, dueL, ne_nil0, w, hrp]
    exact tail7_ok K J L hg hr hw ht hsay (.inr (.inr ⟨rfl, c, cf⟩)) fun u7 u8 l => hQ _ _ _ _ _ _
end
end Lb
end
section
set_option Elab.async false
set_option linter.all false
set_option maxRecDepth 10000
set_option maxHeartbeats 400000
local macro_rules
  | `(tactic| simp_arith [$ls,*]) => `(tactic| simp only [↓Ev.q_var, ↓Ev.q_glo, ↓Ev.q_cst, ↓Ev.q_bin, ↓Ev.q_neg, ↓Ev.q_cmp, ↓Ev.q_cmp2, ↓Ev.q_and, ↓Ev.q_and1, ↓Ev.q_andm, ↓Ev.q_or, ↓Ev.q_or1, ↓Ev.q_orm, ↓Ev.q_not, ↓Ev.q_ite, ↓Ev.q_blt, ↓Ev.q_gcd, ↓Ev.q_call, ↓Ev.q_make, ↓Ev.q_callK, ↓Ev.q_makeK, ↓Ev.q_tup, ↓Ev.q_lst, ↓Ev.q_cel, ↓Ev.q_idx, ↓Ev.q_sli, ↓Ev.q_app, ↓Ev.q_isi, ↓Ev.q_repr, ↓Ev.q_fld, ↓Ev.q_isc, ↓Ev.q_isx, ↓Ev.q_isb, ↓Ev.q_erf, ↓Ev.q_rev, ↓Ev.q_fstr, ↓Ev.q_fnil, ↓Ev.q_ftxt, ↓Ev.q_fval, ↓Ev.q_nil, ↓Ev.q_cons, ↓Ev.q_no, ↓Ev.q_so, ↓Ev.q_tru, ↓Ev.q_tcmp, ↓Ev.q_tcmp2, ↓Ev.q_tnot, ↓Ev.q_tand, ↓Ev.q_tor, ↓Ev.q_tand1, ↓Ev.q_tor1, ↓Ev.q_tandm, ↓Ev.q_torm, ↓Ev.q_cno, ↓Ev.q_cso, ↓Ev.q_iseq, ↓Ev.q_rng1, ↓Ev.q_rng2, ↓Ev.q_zip, ↓Ev.q_enum, ↓Ev.q_snil, ↓Ev.q_scons, ↓Ev.q_pass, ↓Ev.q_brk, ↓Ev.q_cont, ↓Ev.q_ret, ↓Ev.q_retN, ↓Ev.q_raise, ↓Ev.q_if, ↓Ev.q_set, ↓Ev.q_asg, ↓Ev.q_drop, ↓Ev.q_par, ↓Ev.q_for, ↓Ev.q_setI, ↓Ev.q_setIN, ↓Ev.q_augI, ↓Ev.q_emp, ↓Ev.q_addC, ↓Ev.q_lidx, ↓Ev.q_lcnt, ↓Ev.AddQ_some, ↓Ev.W_ok, ↓Ev.SeqQ_nx, ↓Ev.SeqQ_rt, ↓Ev.SeqQ_bk, ↓Ev.SeqQ_ct, ↓Ev.OutQ_nx, ↓Ev.OutQ_rt, ↓Ev.TrQ_p, ↓Ev.VarQ_some, ↓Ev.LifQ_some, ↓Ev.LibQ_some, ↓Ev.IfQ_t, ↓Ev.IfQ_f, ↓Ev.AndQ_some, ↓Ev.SqQ_some, ↓Ev.StoQ_some, ↓Ev.EnQ_some, ↓Ev.C2Q_bl, ↓Ev.CelQ_some, ↓Ev.FmtQ_some, ↓Ev.ParQ_2, ↓Ev.b_mul, ↓Ev.b_div, ↓Ev.b_mod, ↓Ev.dm_blt, ↓Ev.f_int, ↓Ev.f_str, ↓Ev.s_int, ↓Ev.q_comp, ↓Ev.q_prop, ↓Ev.q_ostr, ↓Ev.q_orepr, ↓Ev.q_ocmpT, ↓Ev.q_ocmpF, ↓Ev.q_join, ↓Ev.q_tocmp, ↓Ev.q_totru, ↓Ev.b_addS, ↓Ev.b_addL, ↓Ev.b_addTQ, ↓Ev.q_setK, ↓Ev.q_while, Ev.VarQ_some, Ev.LifQ_some, Ev.LibQ_some, Ev.IfQ_t, Ev.IfQ_f, Ev.AndQ_some, Ev.SqQ_some, Ev.StoQ_some, Ev.EnQ_some, Ev.C2Q_bl, Ev.CelQ_some, Ev.OrdQ_some, Ev.FmtQ_some, Ev.ParQ_2, Ev.b_add, Ev.b_sub, Ev.c_lt, Ev.c_le, Ev.c_gt, Ev.c_ge, Ev.c_eq, Ev.c_ne, Ev.bl_of, Ev.v_neg, Ev.t_bl, Ev.t_int, Ev.t_tup, Ev.t_lst, Ev.t_non, Ev.ix_tup, Ev.ix_lst, Ev.ix_scr, Ev.at_0, Ev.at_1, Ev.at_2, Ev.l_tup, Ev.l_lst, Ev.len_blt, Ev.abs_blt, Ev.max_blt, Ev.min_blt, Ev.int_blt, Ev.tup_blt, Ev.lst_blt, Ev.gcd_int, Ev.seq_tup, Ev.seq_lst, Ev.seq_scr, Ev.ps0, Ev.ps1, Ev.ps2, Ev.ps3, Ev.ps4, Ev.ps5, Option.map_some, Option.map_none, List.getElem?_cons_zero, List.getElem?_cons_succ, List.set_cons_zero, List.set_cons_succ, List.map_cons, List.map_nil, List.cons_append, List.nil_append, List.length_cons, List.length_nil, List.length_set, List.replicate_succ, List.replicate_zero, Nat.reduceAdd, Nat.reduceSub, Nat.reduceLT, Nat.reduceLeDiff, Nat.sub_self, Ev.take_all, Ev.take_setS, Ev.take_app, Ev.take_setapp, Ev.ObQ_obj, Ev.TxQ_str, Ev.noex_ok, Ev.txtB_ok, Ev.truB_ok, Ev.notB_ok, Ev.ok_obj, Ev.ok_int, Ev.ok_str, Ev.ok_tup, Ev.ok_non, Ev.b_pow18, Ev.cut_tup, Ev.cut_lst, Ev.cut_scr, Ev.rev_tup, Ev.as_tup1, List.set_set, Ev.wipeE, Ev.asg_nm, Ev.asg_tp, Ev.asgs_nil, Ev.asgs_c1, $ls,*])
  | `(tactic| simp_arith [$ls,*] at $h:ident) => `(tactic| simp only [↓Ev.q_var, ↓Ev.q_glo, ↓Ev.q_cst, ↓Ev.q_bin, ↓Ev.q_neg, ↓Ev.q_cmp, ↓Ev.q_cmp2, ↓Ev.q_and, ↓Ev.q_and1, ↓Ev.q_andm, ↓Ev.q_or, ↓Ev.q_or1, ↓Ev.q_orm, ↓Ev.q_not, ↓Ev.q_ite, ↓Ev.q_blt, ↓Ev.q_gcd, ↓Ev.q_call, ↓Ev.q_make, ↓Ev.q_callK, ↓Ev.q_makeK, ↓Ev.q_tup, ↓Ev.q_lst, ↓Ev.q_cel, ↓Ev.q_idx, ↓Ev.q_sli, ↓Ev.q_app, ↓Ev.q_isi, ↓Ev.q_repr, ↓Ev.q_fld, ↓Ev.q_isc, ↓Ev.q_isx, ↓Ev.q_isb, ↓Ev.q_erf, ↓Ev.q_rev, ↓Ev.q_fstr, ↓Ev.q_fnil, ↓Ev.q_ftxt, ↓Ev.q_fval, ↓Ev.q_nil, ↓Ev.q_cons, ↓Ev.q_no, ↓Ev.q_so, ↓Ev.q_tru, ↓Ev.q_tcmp, ↓Ev.q_tcmp2, ↓Ev.q_tnot, ↓Ev.q_tand, ↓Ev.q_tor, ↓Ev.q_tand1, ↓Ev.q_tor1, ↓Ev.q_tandm, ↓Ev.q_torm, ↓Ev.q_cno, ↓Ev.q_cso, ↓Ev.q_iseq, ↓Ev.q_rng1, ↓Ev.q_rng2, ↓Ev.q_zip, ↓Ev.q_enum, ↓Ev.q_snil, ↓Ev.q_scons, ↓Ev.q_pass, ↓Ev.q_brk, ↓Ev.q_cont, ↓Ev.q_ret, ↓Ev.q_retN, ↓Ev.q_raise, ↓Ev.q_if, ↓Ev.q_set, ↓Ev.q_asg, ↓Ev.q_drop, ↓Ev.q_par, ↓Ev.q_for, ↓Ev.q_setI, ↓Ev.q_setIN, ↓Ev.q_augI, ↓Ev.q_emp, ↓Ev.q_addC, ↓Ev.q_lidx, ↓Ev.q_lcnt, ↓Ev.AddQ_some, ↓Ev.W_ok, ↓Ev.SeqQ_nx, ↓Ev.SeqQ_rt, ↓Ev.SeqQ_bk, ↓Ev.SeqQ_ct, ↓Ev.OutQ_nx, ↓Ev.OutQ_rt, ↓Ev.TrQ_p, ↓Ev.VarQ_some, ↓Ev.LifQ_some, ↓Ev.LibQ_some, ↓Ev.IfQ_t, ↓Ev.IfQ_f, ↓Ev.AndQ_some, ↓Ev.SqQ_some, ↓Ev.StoQ_some, ↓Ev.EnQ_some, ↓Ev.C2Q_bl, ↓Ev.CelQ_some, ↓Ev.FmtQ_some, ↓Ev.ParQ_2, ↓Ev.b_mul, ↓Ev.b_div, ↓Ev.b_mod, ↓Ev.dm_blt, ↓Ev.f_int, ↓Ev.f_str, ↓Ev.s_int, ↓Ev.q_comp, ↓Ev.q_prop, ↓Ev.q_ostr, ↓Ev.q_orepr, ↓Ev.q_ocmpT, ↓Ev.q_ocmpF, ↓Ev.q_join, ↓Ev.q_tocmp, ↓Ev.q_totru, ↓Ev.b_addS, ↓Ev.b_addL, ↓Ev.b_addTQ, ↓Ev.q_setK, ↓Ev.q_while, Ev.VarQ_some, Ev.LifQ_some, Ev.LibQ_some, Ev.IfQ_t, Ev.IfQ_f, Ev.AndQ_some, Ev.SqQ_some, Ev.StoQ_some, Ev.EnQ_some, Ev.C2Q_bl, Ev.CelQ_some, Ev.OrdQ_some, Ev.FmtQ_some, Ev.ParQ_2, Ev.b_add, Ev.b_sub, Ev.c_lt, Ev.c_le, Ev.c_gt, Ev.c_ge, Ev.c_eq, Ev.c_ne, Ev.bl_of, Ev.v_neg, Ev.t_bl, Ev.t_int, Ev.t_tup, Ev.t_lst, Ev.t_non, Ev.ix_tup, Ev.ix_lst, Ev.ix_scr, Ev.at_0, Ev.at_1, Ev.at_2, Ev.l_tup, Ev.l_lst, Ev.len_blt, Ev.abs_blt, Ev.max_blt, Ev.min_blt, Ev.int_blt, Ev.tup_blt, Ev.lst_blt, Ev.gcd_int, Ev.seq_tup, Ev.seq_lst, Ev.seq_scr, Ev.ps0, Ev.ps1, Ev.ps2, Ev.ps3, Ev.ps4, Ev.ps5, Option.map_some, Option.map_none, List.getElem?_cons_zero, List.getElem?_cons_succ, List.set_cons_zero, List.set_cons_succ, List.map_cons, List.map_nil, List.cons_append, List.nil_append, List.length_cons, List.length_nil, List.length_set, List.replicate_succ, List.replicate_zero, Nat.reduceAdd, Nat.reduceSub, Nat.reduceLT, Nat.reduceLeDiff, Nat.sub_self, Ev.take_all, Ev.take_setS, Ev.take_app, Ev.take_setapp, Ev.ObQ_obj, Ev.TxQ_str, Ev.noex_ok, Ev.txtB_ok, Ev.truB_ok, Ev.notB_ok, Ev.ok_obj, Ev.ok_int, Ev.ok_str, Ev.ok_tup, Ev.ok_non, Ev.b_pow18, Ev.cut_tup, Ev.cut_lst, Ev.cut_scr, Ev.rev_tup, Ev.as_tup1, List.set_set, Ev.wipeE, Ev.asg_nm, Ev.asg_tp, Ev.asgs_nil, Ev.asgs_c1, $ls,*] at $h:ident)
/-! the jar of a turn, all turns -/
namespace La
open PySem Ev L2 Lt Lb
theorem loop_jar {T : Tab} {S : Sto} {Q : Out → Sto → Prop} {E : Xn → Sto → Prop} {q : Sq} {a0 a1 a2 : U} (hs : q.src = none) (items : List P) (hi : ∀ x ∈ items, ∃ i : Int, x = .int i) (m : Int) (h0 : 0 ≤ m) (h1 : m < 2147482951) (u4 : Option U)
    (hQ : ∀ (m : Int) (u4 : Option U), 0 ≤ m → m < 2147482951 → Q (.nx [some a0, some a1, some a2, some (.p (.int m)), u4]) S) :
    W (forL (.nm 4) (dS T (.cons (.set 3 (.bin .mod (.blt .int (.cons (.bin .add (.bin .mul (.var 3) (.cst (.int 20021))) (.var 4)) .nil)) (.cst (.int 2147482951)))) .nil)) q items [some a0, some a1, some a2, some (.p (.int m)), u4] S) Q E := by
  refine W_forL (fun r ρ S' => S' = S ∧ (∀ x ∈ r, x ∈ items) ∧ ∃ (m : Int) (u4 : Option U), 0 ≤ m ∧ m < 2147482951 ∧ ρ = [some a0, some a1, some a2, some (.p (.int m)), u4]) _ _ _ ⟨rfl, fun _ z => z, m, u4, h0, h1, rfl⟩ ?_ ?_
  · rintro x r ρ S' ⟨rfl, hm, m, u4, h0, h1, rfl⟩
    obtain ⟨i, rfl⟩ := hi x (hm x (by simp))
    refine ⟨_, rfl, ?_⟩
    simp_arith [ForQ, int_blt]
    have q0 := Int.emod_nonneg (m * 20021 + i) (show (2147482951 : Int) ≠ 0 by decide)
    have q1 := Int.emod_lt_of_pos (m * 20021 + i) (show (0 : Int) < 2147482951 by decide)
    refine ⟨mulw (a := 32) (b := 32) (by omega) (by decide) (by decide), ?_⟩
    (try refine ⟨by decide, ?_⟩)
    exact ⟨(fun n e => by rw [hs] at e; cases e), trivial, fun y z => hm y (List.mem_cons_of_mem _ z), _, _, q0, q1, rfl⟩
  · rintro ρ S' ⟨rfl, _, m, u4, h0, h1, rfl⟩
    exact hQ m u4 h0 h1
theorem jar {T : Tab} {S : Sto} (e : T "_law_jar" = fDef 5 (dS T t__law_jar.body)) {ns : List Int} (hl : ns.length ≤ 63) {t : Int} (h0 : 0 ≤ t) (h1 : t < 5) :
    W (T "_law_jar" [.p (.scr ns), .p (.int t)] S) (fun u S' => ∃ j', u = .c S.length ∧ Jar 300 j' ∧ S' = S ++ [j']) NoX := by
  rw [e]
  refine W_def ?_
  simp only [t__law_jar]
  have sl := sizeLine_eq
  have fin1 : ∀ c : Int, ∃ a : Int, 0 ≤ a ∧ a = (if c < 0 then -c else c) := fun c => ⟨_, by split <;> omega, rfl⟩
  have main : ∀ (c : Int), W (dS T (.cons (.set 3 (.bin .add (.cst (.int 40009)) (.bin .mul (.cst (.int 9011)) (.var 1)))) (.cons (.for_ (.nm 4) (.seq (.bin .add (.sli (.var 0) .no (.so (.cst (.int 5)))) (.lst (.cons (.var 2) .nil)))) (.cons (.set 3 (.bin .mod (.blt .int (.cons (.bin .add (.bin .mul (.var 3) (.cst (.int 20021))) (.var 4)) .nil)) (.cst (.int 2147482951)))) .nil)) (.cons (.ret (.cel (.cons (.ite (.or_ (.more (.cmp .lt (.var 2) (.cst (.int 0))) (.one (.cmp .ge (.var 2) (.bin .pow (.cst (.int 10)) (.cst (.int 18))))))) (.blt .abs (.cons (.var 2) .nil)) (.cst (.int 0))) (.cons (.var 3) (.cons (.cst (.int 0)) .nil))))) .nil)))
      [some (.p (.scr ns)), some (.p (.int t)), some (.p (.int c)), none, none] S)
      (OutQ (TrQ S.length fun u S' => ∃ j', u = .c S.length ∧ Jar 300 j' ∧ S' = S ++ [j'])) NoX := by
    intro c
    simp_arith [cut_to (A := P) (l := ns.map .int) (k := 5) (by decide)]
    refine ⟨mulw (a := 32) (b := 32) (by decide) (by omega) (by decide), by simp; omega, ?_⟩
    refine loop_jar rfl _ (fun x hx => ?_) _ (by omega) (by omega) _ fun m u4 m0 m1 => ?_
    · rcases List.mem_append.mp hx with hx | hx
      · obtain ⟨i, _, rfl⟩ := List.mem_map.mp (List.mem_of_mem_take hx)
        exact ⟨i, rfl⟩
      · rw [List.mem_singleton] at hx
        exact ⟨c, hx⟩
    · have ret : ∀ a : Int, 0 ≤ a → TrQ S.length (fun u S' => ∃ j', u = .c S.length ∧ Jar 300 j' ∧ S' = S ++ [j']) (.c S.length) (S ++ [[.int a, .int m, .int 0]]) := fun a ha => by
        unfold TrQ
        dsimp only
        rw [if_neg (by omega)]
        exact ⟨[.int a, .int m, .int 0], by simp, _, rfl, ⟨a, m, 0, rfl, ha, m0, by omega, by decide, by decide⟩, by simp⟩
      simp_arith []
      refine if_q (fun z => ?_) fun z => ?_
      · try simp_arith [abs_blt]
        exact ret _ (by split <;> omega)
      refine if_q (fun z => ?_) fun z => ?_
      · try simp_arith [abs_blt]
        exact ret _ (by split <;> omega)
      · try simp_arith []
        exact ret _ (by decide)
  simp_arith [len_blt, l_scr, List.length_map]
  refine if_q (fun z => ?_) fun z => ?_
  · have z : t < ns.length := of_decide_eq_true z
    simp_arith [at_pos (l := ns.map P.int) h0 (by simpa using z), List.getElem_map]
    have m := main (ns[t.toNat]'(by omega))
    simp_arith [] at m
    exact m
  · try simp_arith []
    refine ⟨mulw (a := 32) (b := 32) (by decide) (by omega) (by decide), ?_⟩
    have m := main (53 * t + 4)
    simp_arith [] at m
    exact m
end La
end
section
set_option Elab.async false
set_option linter.all false
set_option maxRecDepth 100000
set_option maxHeartbeats 2000000
local macro_rules
  | `(tactic| simp_arith [$ls,*]) => `(tactic| simp only [↓Ev.q_var, ↓Ev.q_glo, ↓Ev.q_cst, ↓Ev.q_bin, ↓Ev.q_neg, ↓Ev.q_cmp, ↓Ev.q_cmp2, ↓Ev.q_and, ↓Ev.q_and1, ↓Ev.q_andm, ↓Ev.q_or, ↓Ev.q_or1, ↓Ev.q_orm, ↓Ev.q_not, ↓Ev.q_ite, ↓Ev.q_blt, ↓Ev.q_gcd, ↓Ev.q_call, ↓Ev.q_make, ↓Ev.q_callK, ↓Ev.q_makeK, ↓Ev.q_tup, ↓Ev.q_lst, ↓Ev.q_cel, ↓Ev.q_idx, ↓Ev.q_sli, ↓Ev.q_app, ↓Ev.q_isi, ↓Ev.q_repr, ↓Ev.q_fld, ↓Ev.q_isc, ↓Ev.q_isx, ↓Ev.q_isb, ↓Ev.q_erf, ↓Ev.q_rev, ↓Ev.q_fstr, ↓Ev.q_fnil, ↓Ev.q_ftxt, ↓Ev.q_fval, ↓Ev.q_nil, ↓Ev.q_cons, ↓Ev.q_no, ↓Ev.q_so, ↓Ev.q_tru, ↓Ev.q_tcmp, ↓Ev.q_tcmp2, ↓Ev.q_tnot, ↓Ev.q_tand, ↓Ev.q_tor, ↓Ev.q_tand1, ↓Ev.q_tor1, ↓Ev.q_tandm, ↓Ev.q_torm, ↓Ev.q_cno, ↓Ev.q_cso, ↓Ev.q_iseq, ↓Ev.q_rng1, ↓Ev.q_rng2, ↓Ev.q_zip, ↓Ev.q_enum, ↓Ev.q_snil, ↓Ev.q_scons, ↓Ev.q_pass, ↓Ev.q_brk, ↓Ev.q_cont, ↓Ev.q_ret, ↓Ev.q_retN, ↓Ev.q_raise, ↓Ev.q_if, ↓Ev.q_set, ↓Ev.q_asg, ↓Ev.q_drop, ↓Ev.q_par, ↓Ev.q_for, ↓Ev.q_setI, ↓Ev.q_setIN, ↓Ev.q_augI, ↓Ev.q_emp, ↓Ev.q_addC, ↓Ev.q_lidx, ↓Ev.q_lcnt, ↓Ev.AddQ_some, ↓Ev.W_ok, ↓Ev.SeqQ_nx, ↓Ev.SeqQ_rt, ↓Ev.SeqQ_bk, ↓Ev.SeqQ_ct, ↓Ev.OutQ_nx, ↓Ev.OutQ_rt, ↓Ev.TrQ_p, ↓Ev.VarQ_some, ↓Ev.LifQ_some, ↓Ev.LibQ_some, ↓Ev.IfQ_t, ↓Ev.IfQ_f, ↓Ev.AndQ_some, ↓Ev.SqQ_some, ↓Ev.StoQ_some, ↓Ev.EnQ_some, ↓Ev.C2Q_bl, ↓Ev.CelQ_some, ↓Ev.FmtQ_some, ↓Ev.ParQ_2, ↓Ev.b_mul, ↓Ev.b_div, ↓Ev.b_mod, ↓Ev.dm_blt, ↓Ev.f_int, ↓Ev.f_str, ↓Ev.s_int, ↓Ev.q_comp, ↓Ev.q_prop, ↓Ev.q_ostr, ↓Ev.q_orepr, ↓Ev.q_ocmpT, ↓Ev.q_ocmpF, ↓Ev.q_join, ↓Ev.q_tocmp, ↓Ev.q_totru, ↓Ev.b_addS, ↓Ev.b_addL, ↓Ev.b_addTQ, ↓Ev.q_setK, ↓Ev.q_while, Ev.VarQ_some, Ev.LifQ_some, Ev.LibQ_some, Ev.IfQ_t, Ev.IfQ_f, Ev.AndQ_some, Ev.SqQ_some, Ev.StoQ_some, Ev.EnQ_some, Ev.C2Q_bl, Ev.CelQ_some, Ev.OrdQ_some, Ev.FmtQ_some, Ev.ParQ_2, Ev.b_add, Ev.b_sub, Ev.c_lt, Ev.c_le, Ev.c_gt, Ev.c_ge, Ev.c_eq, Ev.c_ne, Ev.bl_of, Ev.v_neg, Ev.t_bl, Ev.t_int, Ev.t_tup, Ev.t_lst, Ev.t_non, Ev.ix_tup, Ev.ix_lst, Ev.ix_scr, Ev.at_0, Ev.at_1, Ev.at_2, Ev.l_tup, Ev.l_lst, Ev.len_blt, Ev.abs_blt, Ev.max_blt, Ev.min_blt, Ev.int_blt, Ev.tup_blt, Ev.lst_blt, Ev.gcd_int, Ev.seq_tup, Ev.seq_lst, Ev.seq_scr, Ev.ps0, Ev.ps1, Ev.ps2, Ev.ps3, Ev.ps4, Ev.ps5, Option.map_some, Option.map_none, List.getElem?_cons_zero, List.getElem?_cons_succ, List.set_cons_zero, List.set_cons_succ, List.map_cons, List.map_nil, List.cons_append, List.nil_append, List.length_cons, List.length_nil, List.length_set, List.replicate_succ, List.replicate_zero, Nat.reduceAdd, Nat.reduceSub, Nat.reduceLT, Nat.reduceLeDiff, Nat.sub_self, Ev.take_all, Ev.take_setS, Ev.take_app, Ev.take_setapp, Ev.ObQ_obj, Ev.TxQ_str, Ev.noex_ok, Ev.txtB_ok, Ev.truB_ok, Ev.notB_ok, Ev.ok_obj, Ev.ok_int, Ev.ok_str, Ev.ok_tup, Ev.ok_non, Ev.b_pow18, Ev.cut_tup, Ev.cut_lst, Ev.cut_scr, Ev.rev_tup, Ev.as_tup1, List.set_set, Ev.wipeE, Ev.asg_nm, Ev.asg_tp, Ev.asgs_nil, Ev.asgs_c1, $ls,*])
  | `(tactic| simp_arith [$ls,*] at $h:ident) => `(tactic| simp only [↓Ev.q_var, ↓Ev.q_glo, ↓Ev.q_cst, ↓Ev.q_bin, ↓Ev.q_neg, ↓Ev.q_cmp, ↓Ev.q_cmp2, ↓Ev.q_and, ↓Ev.q_and1, ↓Ev.q_andm, ↓Ev.q_or, ↓Ev.q_or1, ↓Ev.q_orm, ↓Ev.q_not, ↓Ev.q_ite, ↓Ev.q_blt, ↓Ev.q_gcd, ↓Ev.q_call, ↓Ev.q_make, ↓Ev.q_callK, ↓Ev.q_makeK, ↓Ev.q_tup, ↓Ev.q_lst, ↓Ev.q_cel, ↓Ev.q_idx, ↓Ev.q_sli, ↓Ev.q_app, ↓Ev.q_isi, ↓Ev.q_repr, ↓Ev.q_fld, ↓Ev.q_isc, ↓Ev.q_isx, ↓Ev.q_isb, ↓Ev.q_erf, ↓Ev.q_rev, ↓Ev.q_fstr, ↓Ev.q_fnil, ↓Ev.q_ftxt, ↓Ev.q_fval, ↓Ev.q_nil, ↓Ev.q_cons, ↓Ev.q_no, ↓Ev.q_so, ↓Ev.q_tru, ↓Ev.q_tcmp, ↓Ev.q_tcmp2, ↓Ev.q_tnot, ↓Ev.q_tand, ↓Ev.q_tor, ↓Ev.q_tand1, ↓Ev.q_tor1, ↓Ev.q_tandm, ↓Ev.q_torm, ↓Ev.q_cno, ↓Ev.q_cso, ↓Ev.q_iseq, ↓Ev.q_rng1, ↓Ev.q_rng2, ↓Ev.q_zip, ↓Ev.q_enum, ↓Ev.q_snil, ↓Ev.q_scons, ↓Ev.q_pass, ↓Ev.q_brk, ↓Ev.q_cont, ↓Ev.q_ret, ↓Ev.q_retN, ↓Ev.q_raise, ↓Ev.q_if, ↓Ev.q_set, ↓Ev.q_asg, ↓Ev.q_drop, ↓Ev.q_par, ↓Ev.q_for, ↓Ev.q_setI, ↓Ev.q_setIN, ↓Ev.q_augI, ↓Ev.q_emp, ↓Ev.q_addC, ↓Ev.q_lidx, ↓Ev.q_lcnt, ↓Ev.AddQ_some, ↓Ev.W_ok, ↓Ev.SeqQ_nx, ↓Ev.SeqQ_rt, ↓Ev.SeqQ_bk, ↓Ev.SeqQ_ct, ↓Ev.OutQ_nx, ↓Ev.OutQ_rt, ↓Ev.TrQ_p, ↓Ev.VarQ_some, ↓Ev.LifQ_some, ↓Ev.LibQ_some, ↓Ev.IfQ_t, ↓Ev.IfQ_f, ↓Ev.AndQ_some, ↓Ev.SqQ_some, ↓Ev.StoQ_some, ↓Ev.EnQ_some, ↓Ev.C2Q_bl, ↓Ev.CelQ_some, ↓Ev.FmtQ_some, ↓Ev.ParQ_2, ↓Ev.b_mul, ↓Ev.b_div, ↓Ev.b_mod, ↓Ev.dm_blt, ↓Ev.f_int, ↓Ev.f_str, ↓Ev.s_int, ↓Ev.q_comp, ↓Ev.q_prop, ↓Ev.q_ostr, ↓Ev.q_orepr, ↓Ev.q_ocmpT, ↓Ev.q_ocmpF, ↓Ev.q_join, ↓Ev.q_tocmp, ↓Ev.q_totru, ↓Ev.b_addS, ↓Ev.b_addL, ↓Ev.b_addTQ, ↓Ev.q_setK, ↓Ev.q_while, Ev.VarQ_some, Ev.LifQ_some, Ev.LibQ_some, Ev.IfQ_t, Ev.IfQ_f, Ev.AndQ_some, Ev.SqQ_some, Ev.StoQ_some, Ev.EnQ_some, Ev.C2Q_bl, Ev.CelQ_some, Ev.OrdQ_some, Ev.FmtQ_some, Ev.ParQ_2, Ev.b_add, Ev.b_sub, Ev.c_lt, Ev.c_le, Ev.c_gt, Ev.c_ge, Ev.c_eq, Ev.c_ne, Ev.bl_of, Ev.v_neg, Ev.t_bl, Ev.t_int, Ev.t_tup, Ev.t_lst, Ev.t_non, Ev.ix_tup, Ev.ix_lst, Ev.ix_scr, Ev.at_0, Ev.at_1, Ev.at_2, Ev.l_tup, Ev.l_lst, Ev.len_blt, Ev.abs_blt, Ev.max_blt, Ev.min_blt, Ev.int_blt, Ev.tup_blt, Ev.lst_blt, Ev.gcd_int, Ev.seq_tup, Ev.seq_lst, Ev.seq_scr, Ev.ps0, Ev.ps1, Ev.ps2, Ev.ps3, Ev.ps4, Ev.ps5, Option.map_some, Option.map_none, List.getElem?_cons_zero, List.getElem?_cons_succ, List.set_cons_zero, List.set_cons_succ, List.map_cons, List.map_nil, List.cons_append, List.nil_append, List.length_cons, List.length_nil, List.length_set, List.replicate_succ, List.replicate_zero, Nat.reduceAdd, Nat.reduceSub, Nat.reduceLT, Nat.reduceLeDiff, Nat.sub_self, Ev.take_all, Ev.take_setS, Ev.take_app, Ev.take_setapp, Ev.ObQ_obj, Ev.TxQ_str, Ev.noex_ok, Ev.txtB_ok, Ev.truB_ok, Ev.notB_ok, Ev.ok_obj, Ev.ok_int, Ev.ok_str, Ev.ok_tup, Ev.ok_non, Ev.b_pow18, Ev.cut_tup, Ev.cut_lst, Ev.cut_scr, Ev.rev_tup, Ev.as_tup1, List.set_set, Ev.wipeE, Ev.asg_nm, Ev.asg_tp, Ev.asgs_nil, Ev.asgs_c1, $ls,*] at $h:ident)
/-! law k06: all turns -/
namespace Lb
open PySem Ev L2 Lt La
section
variable {T : Tab} (K : Kh T) (J : J0 T) (L : Kl T) (es : T "_law_sort" = fDef 6 (dS T Lt6.t__law_sort.body)) (eo : T "_law_odd" = fDef 2 (dS T t__law_odd.body)) (eb : T "_law_bent_chance" = fDef 6 (dS T Lt6.t__law_bent_chance.body))
include K J L es eo eb
theorem body1_ok {u1 u2 u3 u4 u5 u6 u7 u8 u9 u10 u11 u12 : Option U} {n B : Nat} {j : List P} {S : Sto} {Q : Out → Sto → Prop} {E : Xn → Sto → Prop} (h : S[n]? = some j) (hj : Jar (B + 24) j)
    (hQ : ∀ (u2 u3 u4 u5 u6 u7 u8 u9 u10 : Option U) (j' l : List P), Jar B j' → Q (.nx [some (.c n), u1, u2, u3, u4, u5, u6, u7, u8, u9, u10, u11, u12]) (S.set n j' ++ [l])) :
    W (dS T body1 [some (.c n), u1, u2, u3, u4, u5, u6, u7, u8, u9, u10, u11, u12] S) Q E := by
  have sl := sizeLine_eq
  unfold body1
  try simp_arith []
  refine W_use (one_of J (l := [.int 2, .int 3, .int 4, .int 5, .int 6]) (B := B + 23) h hj (by decide) (by decide)) fun u S1 z => ?_
  obtain ⟨x1, j1, rfl, hx1, hj1, rfl⟩ := z
  obtain ⟨k, rfl, hk2, hk6⟩ : ∃ k : Nat, x1 = .int k ∧ 2 ≤ k ∧ k ≤ 6 := by
    simp only [List.mem_cons, List.not_mem_nil, or_false] at hx1
    rcases hx1 with rfl | rfl | rfl | rfl | rfl
    · exact ⟨2, rfl, by decide, by decide⟩
    · exact ⟨3, rfl, by decide, by decide⟩
    · exact ⟨4, rfl, by decide, by decide⟩
    · exact ⟨5, rfl, by decide, by decide⟩
    · exact ⟨6, rfl, by decide, by decide⟩
  try simp_arith []
  refine W_use (one_of J (l := [.int 1, .int 3, .int 9, .int 1000]) (B := B + 22) (get_set h) hj1 (by decide) (by decide)) fun u S1 z => ?_
  obtain ⟨x2, j2, rfl, hx2, hj2, rfl⟩ := z
  obtain ⟨t, rfl, ht0, ht⟩ : ∃ t : Int, x2 = .int t ∧ 0 ≤ t ∧ t ≤ 1000 := by
    simp only [List.mem_cons, List.not_mem_nil, or_false] at hx2
    rcases hx2 with rfl | rfl | rfl | rfl <;> exact ⟨_, rfl, by decide, by decide⟩
  try simp_arith []
  refine W_use (payoff J (B := B + 16) (get_set h) (hj2.less (by omega)) (by omega) ht0 (by omega)) fun u S1 z => ?_
  obtain ⟨xs, j3, rfl, hxl, hx, hj3, rfl⟩ := z
  have hxg : ∀ p ∈ xs.map P.int, Ge p := fun p hp => by
    obtain ⟨x, hx', rfl⟩ := List.mem_map.mp hp
    exact ge_int (Nat.lt_trans (show x.natAbs < 2 ^ 12 by have := hx x hx'; omega) (Nat.pow_lt_pow_right (by decide) (by decide)))
  try simp_arith []
  refine W_use (chance J (B := B + 8) (get_set h) (hj3.less (by omega)) (by omega) hk6) fun u S1 z => ?_
  obtain ⟨ps, w, j4, rfl, hps, hp, hw1, hw2, hw3, hj4, rfl⟩ := z
  have hcg : ∀ c ∈ ps.map (fun p => qf (mkRat p w)), Ge c := fun c hc => by
    obtain ⟨p, hp', rfl⟩ := List.mem_map.mp hc
    have := hp p hp'
    exact ge_qf ((sz_mk (k := 6) (by omega) (by omega) (by omega)).mono (by decide))
  try simp_arith []
  refine W_use (bent J eo eb (B := B + 3) (get_set h) hj4 (l := ps.map fun p => qf (mkRat p w)) (by simp; omega) (by simp; omega) hcg) fun u S1 z => ?_
  obtain ⟨r, j5, rfl, hr, hj5, rfl⟩ := z
  try simp_arith []
  refine W_use (dipJ J (B := B + 2) (get_set h) hj5 (by decide) (by decide)) fun u S1 z => ?_
  obtain ⟨d, j6, rfl, d0, d1, hj6, rfl⟩ := z
  try simp_arith []
  refine if_q (fun z => ?_) fun z => ?_
  · refine ⟨by rw [List.length_map]; omega, ?_⟩
    simp_arith [mul_tup1 hk2 (show k ≤ 1000 by omega), cut_from (A := P) (l := xs.map P.int) (k := 1) (by decide), cut_to (A := P) (l := xs.map P.int) (k := 1) (by decide), ps6]
    refine W_use (odd J (B := B + 1) eo (get_set h) hj6) fun u S1 z => ?_
    obtain ⟨x, j7, rfl, hxo, hj7, rfl⟩ := z
    simp_arith []
    refine ⟨by rw [sl]; decide, ?_⟩
    refine W_use (one_of J (B := B) (l := [P.tup (List.drop (Int.toNat 1) (xs.map P.int)), P.tup (xs.map P.int ++ [P.int 0]), P.lst (xs.map P.int), P.tup (List.replicate k (P.int 1001)), P.tup (List.replicate k (P.bl true)), P.tup (List.take (Int.toNat 1) (xs.map P.int)), x]) (get_set h) hj7 (List.cons_ne_nil _ _) (by simp only [List.length_cons, List.length_nil]; omega)) fun u S1 z => ?_
    obtain ⟨g, j8, rfl, hg, hj8, rfl⟩ := z
    have hgd : Gd g := by
      simp only [List.mem_cons, List.not_mem_nil, or_false] at hg
      rcases hg with rfl | rfl | rfl | rfl | rfl | rfl | rfl
      · exact gd_tup (fun x hx => hxg x (List.mem_of_mem_drop hx)) (by simp; omega)
      · refine gd_tup (fun x hx => ?_) (by simp; omega)
        rcases List.mem_append.mp hx with hx | hx
        · exact hxg x hx
        · rw [List.mem_singleton.mp hx]; exact ⟨by decide +kernel⟩
      · exact gd_lst hxg (by simp; omega)
      · refine gd_tup (fun x hx => ?_) (by simp; omega)
        rw [(List.mem_replicate.mp hx).2]; exact ⟨by decide +kernel⟩
      · refine gd_tup (fun x hx => ?_) (by simp; omega)
        rw [(List.mem_replicate.mp hx).2]; exact ⟨by decide +kernel⟩
      · exact gd_tup (fun x hx => hxg x (List.mem_of_mem_take hx)) (by simp; omega)
      · exact hxo
    try simp_arith []
    exact body2_ok K J L es hgd hr fun u4 u5 u6 u7 u8 l => hQ _ _ _ _ _ _ _ _ _ _ _ hj8
  · try simp_arith []
    exact body2_ok K J L es (gd_tup hxg (by simp; omega)) hr fun u4 u5 u6 u7 u8 l => hQ _ _ _ _ _ _ _ _ _ _ _ (hj6.less (by omega))
theorem right06 (er : T "_law_right" = fDef 13 (dS T Lt6.t__law_right.body)) {n : Nat} {j : List P} {S : Sto} (h : S[n]? = some j) (hj : Jar 300 j) :
    W (T "_law_right" [.c n] S) (fun u S' => u = .p (.bl true) ∧ ∃ j', S' = S.set n j') NoX := by
  have hn : n < S.length := (List.getElem?_eq_some_iff.mp h).1
  rw [er]
  refine W_def ?_
  rw [right_body]
  have er8 : rng1Of [.p (.int 8)] S = some ⟨(List.range 8).map fun i => .int (i : Nat), none⟩ := rng_s (k := 8) (by decide)
  simp_arith [er8]
  refine W_forL (fun r ρ S' => ∃ (j' : List P) (X : Sto) (u1 u2 u3 u4 u5 u6 u7 u8 u9 u10 u11 u12 : Option U), S' = S.set n j' ++ X ∧ Jar (24 * r.length) j' ∧ ρ = [some (.c n), u1, u2, u3, u4, u5, u6, u7, u8, u9, u10, u11, u12]) _ _ _ ⟨j, [], none, none, none, none, none, none, none, none, none, none, none, none, ?_, hj.less (by simp), rfl⟩ ?_ ?_
  · rw [set_same h, List.append_nil]
  · rintro x r ρ S' ⟨j', X, u1, u2, u3, u4, u5, u6, u7, u8, u9, u10, u11, u12, rfl, hj', rfl⟩
    refine ⟨_, rfl, ?_⟩
    refine body1_ok K J L es eo eb (B := 24 * r.length) (get_app hn) (hj'.less (by rw [List.length_cons]; omega)) fun u2 u3 u4 u5 u6 u7 u8 u9 u10 j2 l hj2 => ?_
    unfold ForQ
    dsimp only
    refine ⟨srcOk_nn, j2, X ++ [l], _, _, _, _, _, _, _, _, _, _, _, _, ?_, hj2, rfl⟩
    rw [set_app hn, List.append_assoc]
  · rintro ρ S' ⟨j', X, u1, u2, u3, u4, u5, u6, u7, u8, u9, u10, u11, u12, rfl, hj', rfl⟩
    simp_arith []
    exact ⟨trivial, j', rfl⟩
theorem law06 (el : T "law" = fDef 3 (dS T t_law.body)) (ej : T "_law_jar" = fDef 5 (dS T t__law_jar.body)) (er : T "_law_right" = fDef 13 (dS T Lt6.t__law_right.body))
    {ns : List Int} (hl : ns.length ≤ 63) : T "law" [.p (.scr ns)] [] = some (.ok (.p (.bl true)) []) := by
  rw [el]
  refine W_say (W_def ?_)
  simp only [t_law]
  simp_arith []
  have hmm : ∃ k : Nat, 2 ≤ k ∧ k ≤ 5 ∧ ∀ S : Sto, (dI T (.rng1 (.cons (.blt .max (.cons (.cst (.int 2)) (.cons (.blt .min (.cons (.blt .len (.cons (.var 0) .nil)) (.cons (.cst (.int 5)) .nil))) .nil))) .nil))) [some (.p (.scr ns)), none, none] S = some (.ok ⟨(List.range k).map fun i => .int (i : Nat), none⟩ S) := by
    refine ⟨max 2 (min ns.length 5), by omega, by omega, fun S => ?_⟩
    have key : W (dI T (.rng1 (.cons (.blt .max (.cons (.cst (.int 2)) (.cons (.blt .min (.cons (.blt .len (.cons (.var 0) .nil)) (.cons (.cst (.int 5)) .nil))) .nil))) .nil)) [some (.p (.scr ns)), none, none] S) (fun q S' => q = ⟨(List.range (max 2 (min ns.length 5))).map fun i => .int (i : Nat), none⟩ ∧ S' = S) NoX := by
      simp_arith [len_blt, l_scr, List.length_map]
      have e : (if (if (5 : Int) < ns.length then (5 : Int) else ns.length) > 2 then (if (5 : Int) < ns.length then (5 : Int) else ns.length) else 2) = ((max 2 (min ns.length 5) : Nat) : Int) := by
        split <;> split <;> omega
      rw [e, rng_s (by omega), SqQ_some]
      exact ⟨rfl, rfl⟩
    obtain ⟨q, S', e, rfl, rfl⟩ := W_eq key
    exact e
  obtain ⟨k, k2, k5, hk⟩ := hmm
  unfold fComp
  rw [hk, bind_ok, if_pos srcOk_nn, W_bind]
  refine W_compL' (A := Unit) (fun r acc S => (∀ x ∈ r, ∃ t : Int, x = .int t ∧ 0 ≤ t ∧ t < 5) ∧ acc.length + r.length = k ∧ ∃ m, acc = (List.replicate m true).map .bl) (fun _ _ _ _ => srcOk_nn) _ [] _ ⟨fun x hx => ?_, by simp, 0, rfl⟩ ?_ rfl ?_
  · obtain ⟨i, hi, rfl⟩ := List.mem_map.mp hx
    have := List.mem_range.mp hi
    exact ⟨i, rfl, by omega, by omega⟩
  · rintro x r acc S ⟨hx, hlen, m, rfl⟩ hS
    obtain ⟨t, rfl, t0, t1⟩ := hx x (by simp)
    refine ⟨_, rfl, ?_⟩
    rw [q_cno, if_pos rfl]
    try simp_arith []
    refine W_use (jar ej hl t0 t1) fun u S1 z => ?_
    obtain ⟨j, rfl, hj, rfl⟩ := z
    try simp_arith []
    refine W_use (right06 K J L es eo eb er (S := S ++ [j]) (n := S.length) (by simp) hj) fun u S1 z => ?_
    obtain ⟨rfl, j', rfl⟩ := z
    have h0 : 0 < S.length := (List.getElem?_eq_some_iff.mp hS).1
    refine ⟨.bl true, rfl, ?_, ?_, fun y hy => hx y (List.mem_cons_of_mem _ hy), by simp at hlen ⊢; omega, m + 1, ?_⟩
    · rw [List.getElem?_set_ne (by show S.length ≠ 0; omega), List.getElem?_append_left h0]
      exact hS
    · simp at hlen ⊢; omega
    · rw [List.replicate_succ']; simp
  · rintro acc S ⟨_, hlen, m, rfl⟩ hS
    unfold compEnd
    have hS : S[0]? = some ((List.replicate m true).map .bl) := hS
    rw [show S[([] : Sto).length]? = some ((List.replicate m true).map .bl) from hS]
    dsimp only
    rw [if_neg (by decide), W_ok, all_lst]
    try simp_arith []
    refine ⟨?_, ?_⟩
    · simp
    · simp
end
end Lb
end
section
set_option Elab.async false
set_option linter.all false
set_option maxRecDepth 100000
set_option maxHeartbeats 0
namespace L06
open PySem Ev L2
abbrev pw : Program := PySem.Challenge.pw_softchances_k06_whole_worths_at_chances
def top (i : Nat) : Stmt := pw.main.body.getD i (.Pass ⟨0, 0, 0, 0⟩)
def inC (st : Stmt) (i : Nat) : Stmt := match st with
  | .ClassDef _ _ _ body _ _ _ _ _ _ _ => body.getD i (.Pass ⟨0, 0, 0, 0⟩)
  | _ => .Pass ⟨0, 0, 0, 0⟩
def d__law_caught : He5.DefA := ⟨fun K => He.fAd K ("_law_caught", none), "_law_caught", "_law_caught", defArgs (top 62), defBody (top 62), defScope (top 62), [], []⟩
def eoL_0 : List (Str × Str × Bool) := [("InvalidPayoff", "InvalidChance", false), ("InvalidPayoff", "InvalidFraction", false), ("InvalidPayoff", "InvalidIndex", false), ("InvalidPayoff", "InvalidLot", false), ("InvalidPayoff", "InvalidNumber", false), ("InvalidPayoff", "InvalidPayoff", true), ("InvalidPayoff", "InvalidQuotes", false), ("InvalidPayoff", "InvalidSale", false), ("InvalidPayoff", "InvalidText", false), ("InvalidPayoff", "NoAnswer", false)]
def eoL_1 : List (Str × Str × Bool) := [("InvalidPayoff", "NotABook", false), ("InvalidPayoff", "NotSound", false), ("InvalidPayoff", "TooGreat", false), ("InvalidPayoff", "Unlike", false), ("InvalidPayoff", "WrongName", false), ("InvalidPayoff", "WrongValue", true), ("InvalidChance", "InvalidChance", true), ("InvalidChance", "InvalidFraction", false), ("InvalidChance", "InvalidIndex", false), ("InvalidChance", "InvalidLot", false)]
def eoL_2 : List (Str × Str × Bool) := [("InvalidChance", "InvalidNumber", false), ("InvalidChance", "InvalidPayoff", false), ("InvalidChance", "InvalidQuotes", false), ("InvalidChance", "InvalidSale", false), ("InvalidChance", "InvalidText", false), ("InvalidChance", "NoAnswer", false), ("InvalidChance", "NotABook", false), ("InvalidChance", "NotSound", false), ("InvalidChance", "TooGreat", false), ("InvalidChance", "Unlike", false)]
def eoL_3 : List (Str × Str × Bool) := [("InvalidChance", "WrongName", false), ("InvalidChance", "WrongValue", true)]
def g : Gt := ⟨["ArithmeticError", "LookupError", "ValueError", "abs", "all", "any", "bool", "divmod", "enumerate", "int", "isinstance", "len", "list", "max", "min", "range", "repr", "sum", "tuple", "zip"], true, [("MOST_OUTCOMES", (.int (6))), ("MOST_NUMBER", (.int (1000))), ("MOST_TOP", (.int (1000000000))), ("MOST_BOTTOM", (.int (1000000))), ("ZERO", (.tup [(.int (0)), (.int (1))])), ("ONE", (.tup [(.int (1)), (.int (1))]))], { cs := [], fl := [], pr := [], eq := [], st := [], rp := [], mk_ := [], kf := [], er := [("InvalidPayoff", "given", "InvalidPayoff.__init__"), ("InvalidChance", "index", "InvalidChance.__init__")], eo := (eoL_0 ++ eoL_1 ++ eoL_2 ++ eoL_3), eb := [("InvalidPayoff", .arith, false), ("InvalidPayoff", .lookup, false), ("InvalidPayoff", .value, true), ("InvalidChance", .arith, false), ("InvalidChance", .lookup, false), ("InvalidChance", .value, true)], ef := [("InvalidPayoff", "given"), ("InvalidChance", "index")] }, [⟨"_law_caught", "_law_sort", [("InvalidPayoff", true), ("InvalidChance", true)], "_law_act", "_law_gave", "_law_e", "WrongValue", "WrongName", "NoAnswer", d__law_caught⟩]⟩
def t_InvalidPayoff___init__ : Ev.Dn := ⟨"InvalidPayoff.__init__", ["self", "given"], ["self", "given"], .nil, false, none, some ("InvalidPayoff", "given"), false, false⟩
def d_InvalidPayoff___init__ : He5.DefA := ⟨fun K => He.ma K (He.ga K "InvalidPayoff") "__init__", "__init__", "InvalidPayoff.__init__", defArgs (inC (top 5) 0), defBody (inC (top 5) 0), defScope (inC (top 5) 0), [], []⟩
def t_is_integer : Ev.Dn := ⟨"is_integer", ["value"], ["value"],
  (.cons (.ret (.and_ (.more (.isi .int (.var 0)) (.one (.not_ (.isi .bool (.var 0))))))) .nil), true, none, none, false, false⟩
def d_is_integer : He5.DefA := ⟨fun K => He.fAd K ("is_integer", none), "is_integer", "is_integer", defArgs (top 23), defBody (top 23), defScope (top 23), [], []⟩
def t_is_integer_from : Ev.Dn := ⟨"is_integer_from", ["value", "low", "high"], ["value", "low", "high"],
  (.cons (.ret (.and_ (.more (.call "is_integer" (.cons (.var 0) .nil)) (.one (.cmp2 .le .le (.var 1) (.var 0) (.var 2)))))) .nil), true, none, none, false, false⟩
def d_is_integer_from : He5.DefA := ⟨fun K => He.fAd K ("is_integer_from", none), "is_integer_from", "is_integer_from", defArgs (top 24), defBody (top 24), defScope (top 24), [], []⟩
def t_is_payoff : Ev.Dn := ⟨"is_payoff", ["value", "outcomes"], ["value", "outcomes", ".0", "number"],
  (.cons (.if_ (.or_ (.more (.not_ (.tru (.isi .tuple (.var 0)))) (.one (.cmp .ne (.blt .len (.cons (.var 0) .nil)) (.var 1))))) (.cons (.ret (.cst (.bl false))) .nil) .nil) (.cons (.ret (.blt .all (.cons (.comp false [(".0", 2), ("number", 3)] (.nm 3) (.seq (.var 0)) .no (.call "is_integer_from" (.cons (.var 3) (.cons (.neg (.glo "MOST_NUMBER" (.int 1000))) (.cons (.glo "MOST_NUMBER" (.int 1000)) .nil))))) .nil))) .nil)), true, none, none, false, false⟩
def d_is_payoff : He5.DefA := ⟨fun K => He.fAd K ("is_payoff", none), "is_payoff", "is_payoff", defArgs (top 29), defBody (top 29), defScope (top 29), [], []⟩
def t_is_any_payoff : Ev.Dn := ⟨"is_any_payoff", ["value"], ["value", ".0", "outcomes"],
  (.cons (.ret (.blt .any (.cons (.comp false [(".0", 1), ("outcomes", 2)] (.nm 2) (.rng2 (.cons (.cst (.int 2)) (.cons (.bin .add (.glo "MOST_OUTCOMES" (.int 6)) (.cst (.int 1))) .nil))) .no (.call "is_payoff" (.cons (.var 0) (.cons (.var 2) .nil)))) .nil))) .nil), true, none, none, false, false⟩
def d_is_any_payoff : He5.DefA := ⟨fun K => He.fAd K ("is_any_payoff", none), "is_any_payoff", "is_any_payoff", defArgs (top 30), defBody (top 30), defScope (top 30), [], []⟩
def t_check_any_payoff : Ev.Dn := ⟨"check_any_payoff", ["given"], ["given"],
  (.cons (.if_ (.not_ (.tru (.call "is_any_payoff" (.cons (.var 0) .nil)))) (.cons (.raise_ "InvalidPayoff" "given" (.var 0)) .nil) .nil) .nil), true, none, none, false, false⟩
def d_check_any_payoff : He5.DefA := ⟨fun K => He.fAd K ("check_any_payoff", none), "check_any_payoff", "check_any_payoff", defArgs (top 40), defBody (top 40), defScope (top 40), [], []⟩
def t_InvalidChance___init__ : Ev.Dn := ⟨"InvalidChance.__init__", ["self", "index"], ["self", "index"], .nil, false, none, some ("InvalidChance", "index"), false, false⟩
def d_InvalidChance___init__ : He5.DefA := ⟨fun K => He.ma K (He.ga K "InvalidChance") "__init__", "__init__", "InvalidChance.__init__", defArgs (inC (top 10) 0), defBody (inC (top 10) 0), defScope (inC (top 10) 0), [], []⟩
def t_is_below : Ev.Dn := ⟨"is_below", ["one", "two"], ["one", "two"],
  (.cons (.ret (.cmp .lt (.bin .mul (.idx (.var 0) (.cst (.int 0))) (.idx (.var 1) (.cst (.int 1)))) (.bin .mul (.idx (.var 1) (.cst (.int 0))) (.idx (.var 0) (.cst (.int 1)))))) .nil), true, none, none, false, false⟩
def d_is_below : He5.DefA := ⟨fun K => He.fAd K ("is_below", none), "is_below", "is_below", defArgs (top 36), defBody (top 36), defScope (top 36), [], []⟩
def t_is_any_fraction : Ev.Dn := ⟨"is_any_fraction", ["value"], ["value", "top", "bottom"],
  (.cons (.if_ (.or_ (.more (.not_ (.tru (.isi .tuple (.var 0)))) (.one (.cmp .ne (.blt .len (.cons (.var 0) .nil)) (.cst (.int 2)))))) (.cons (.ret (.cst (.bl false))) .nil) .nil) (.cons (.asg (.tp [(.nm 1), (.nm 2)]) (.var 0)) (.cons (.ret (.and_ (.more (.call "is_integer" (.cons (.var 1) .nil)) (.more (.call "is_integer" (.cons (.var 2) .nil)) (.more (.cmp .gt (.var 2) (.cst (.int 0))) (.one (.cmp .eq (.gcd (.cons (.var 1) (.cons (.var 2) .nil))) (.cst (.int 1))))))))) .nil))), true, none, none, false, false⟩
def d_is_any_fraction : He5.DefA := ⟨fun K => He.fAd K ("is_any_fraction", none), "is_any_fraction", "is_any_fraction", defArgs (top 25), defBody (top 25), defScope (top 25), [], []⟩
def t_is_ratio : Ev.Dn := ⟨"is_ratio", ["value", "most_top", "most_bottom"], ["value", "most_top", "most_bottom"],
  (.cons (.ret (.and_ (.more (.call "is_any_fraction" (.cons (.var 0) .nil)) (.more (.cmp2 .le .le (.neg (.var 1)) (.idx (.var 0) (.cst (.int 0))) (.var 1)) (.one (.cmp .le (.idx (.var 0) (.cst (.int 1))) (.var 2))))))) .nil), true, none, none, false, false⟩
def d_is_ratio : He5.DefA := ⟨fun K => He.fAd K ("is_ratio", none), "is_ratio", "is_ratio", defArgs (top 26), defBody (top 26), defScope (top 26), [], []⟩
def t_is_fraction : Ev.Dn := ⟨"is_fraction", ["value"], ["value"],
  (.cons (.ret (.call "is_ratio" (.cons (.var 0) (.cons (.glo "MOST_TOP" (.int 1000000000)) (.cons (.glo "MOST_BOTTOM" (.int 1000000)) .nil))))) .nil), true, none, none, false, false⟩
def d_is_fraction : He5.DefA := ⟨fun K => He.fAd K ("is_fraction", none), "is_fraction", "is_fraction", defArgs (top 27), defBody (top 27), defScope (top 27), [], []⟩
def t_is_share : Ev.Dn := ⟨"is_share", ["value"], ["value"],
  (.cons (.ret (.and_ (.more (.call "is_fraction" (.cons (.var 0) .nil)) (.one (.cmp2 .le .le (.cst (.int 0)) (.idx (.var 0) (.cst (.int 0))) (.idx (.var 0) (.cst (.int 1)))))))) .nil), true, none, none, false, false⟩
def d_is_share : He5.DefA := ⟨fun K => He.fAd K ("is_share", none), "is_share", "is_share", defArgs (top 28), defBody (top 28), defScope (top 28), [], []⟩
def t_ratio : Ev.Dn := ⟨"ratio", ["top", "bottom"], ["top", "bottom", "shared"],
  (.cons (.set 2 (.gcd (.cons (.var 0) (.cons (.var 1) .nil)))) (.cons (.ret (.tup (.cons (.bin .div (.var 0) (.var 2)) (.cons (.bin .div (.var 1) (.var 2)) .nil)))) .nil)), true, none, none, false, false⟩
def d_ratio : He5.DefA := ⟨fun K => He.fAd K ("ratio", none), "ratio", "ratio", defArgs (top 34), defBody (top 34), defScope (top 34), [], []⟩
def t_plus : Ev.Dn := ⟨"plus", ["one", "two"], ["one", "two"],
  (.cons (.ret (.call "ratio" (.cons (.bin .add (.bin .mul (.idx (.var 0) (.cst (.int 0))) (.idx (.var 1) (.cst (.int 1)))) (.bin .mul (.idx (.var 1) (.cst (.int 0))) (.idx (.var 0) (.cst (.int 1))))) (.cons (.bin .mul (.idx (.var 0) (.cst (.int 1))) (.idx (.var 1) (.cst (.int 1)))) .nil)))) .nil), true, none, none, false, false⟩
def d_plus : He5.DefA := ⟨fun K => He.fAd K ("plus", none), "plus", "plus", defArgs (top 35), defBody (top 35), defScope (top 35), [], []⟩
def t_check_chance : Ev.Dn := ⟨"check_chance", ["given", "outcomes"], ["given", "outcomes", "so_far", "at", "share"],
  (.cons (.if_ (.or_ (.more (.not_ (.tru (.isi .tuple (.var 0)))) (.one (.cmp .ne (.blt .len (.cons (.var 0) .nil)) (.var 1))))) (.cons (.raise_ "InvalidChance" "index" (.cst .non)) .nil) .nil) (.cons (.set 2 (.glo "ZERO" (.tup [(.int 0), (.int 1)]))) (.cons (.for_ (.tp [(.nm 3), (.nm 4)]) (.enum (.cons (.var 0) .nil)) (.cons (.if_ (.not_ (.tru (.call "is_share" (.cons (.var 4) .nil)))) (.cons (.raise_ "InvalidChance" "index" (.var 3)) .nil) .nil) (.cons (.set 2 (.call "plus" (.cons (.var 2) (.cons (.var 4) .nil)))) (.cons (.if_ (.tru (.call "is_below" (.cons (.glo "ONE" (.tup [(.int 1), (.int 1)])) (.cons (.var 2) .nil)))) (.cons (.raise_ "InvalidChance" "index" (.var 3)) .nil) .nil) .nil)))) (.cons (.if_ (.tru (.call "is_below" (.cons (.var 2) (.cons (.glo "ONE" (.tup [(.int 1), (.int 1)])) .nil)))) (.cons (.raise_ "InvalidChance" "index" (.cst .non)) .nil) .nil) .nil)))), true, none, none, false, false⟩
def d_check_chance : He5.DefA := ⟨fun K => He.fAd K ("check_chance", none), "check_chance", "check_chance", defArgs (top 41), defBody (top 41), defScope (top 41), [], []⟩
def t_total : Ev.Dn := ⟨"total", ["parts"], ["parts", "so_far", "part"],
  (.cons (.set 1 (.glo "ZERO" (.tup [(.int 0), (.int 1)]))) (.cons (.for_ (.nm 2) (.seq (.var 0)) (.cons (.set 1 (.call "plus" (.cons (.var 1) (.cons (.var 2) .nil)))) .nil)) (.cons (.ret (.var 1)) .nil))), true, none, none, false, false⟩
def d_total : He5.DefA := ⟨fun K => He.fAd K ("total", none), "total", "total", defArgs (top 37), defBody (top 37), defScope (top 37), [], []⟩
def t_weighed : Ev.Dn := ⟨"weighed", ["numbers", "parts"], ["numbers", "parts", ".0", "number", "top", "bottom"],
  (.cons (.ret (.call "total" (.cons (.comp false [(".0", 2), ("number", 3), ("top", 4), ("bottom", 5)] (.tp [(.nm 3), (.tp [(.nm 4), (.nm 5)])]) (.zip (.cons (.var 0) (.cons (.var 1) .nil))) .no (.call "ratio" (.cons (.bin .mul (.var 3) (.var 4)) (.cons (.var 5) .nil)))) .nil))) .nil), true, none, none, false, false⟩
def d_weighed : He5.DefA := ⟨fun K => He.fAd K ("weighed", none), "weighed", "weighed", defArgs (top 38), defBody (top 38), defScope (top 38), [], []⟩
def t_worth : Ev.Dn := ⟨"worth", ["payoff", "chance"], ["payoff", "chance"],
  (.cons (.drop (.call "check_any_payoff" (.cons (.var 0) .nil))) (.cons (.drop (.call "check_chance" (.cons (.var 1) (.cons (.blt .len (.cons (.var 0) .nil)) .nil)))) (.cons (.ret (.call "weighed" (.cons (.var 0) (.cons (.var 1) .nil)))) .nil))), true, none, none, false, false⟩
def d_worth : He5.DefA := ⟨fun K => He.fAd K ("worth", none), "worth", "worth", defArgs (top 43), defBody (top 43), defScope (top 43), [], []⟩
def t__law_jar : Ev.Dn := ⟨"_law_jar", ["_law_cells", "_law_turn"], ["_law_cells", "_law_turn", "_law_cell", "_law_mixed", "_law_each"],
  (.cons (.set 2 (.ite (.cmp .lt (.var 1) (.blt .len (.cons (.var 0) .nil))) (.idx (.var 0) (.var 1)) (.bin .add (.bin .mul (.cst (.int 53)) (.var 1)) (.cst (.int 4))))) (.cons (.set 3 (.bin .add (.cst (.int 40009)) (.bin .mul (.cst (.int 9011)) (.var 1)))) (.cons (.for_ (.nm 4) (.seq (.bin .add (.sli (.var 0) .no (.so (.cst (.int 5)))) (.lst (.cons (.var 2) .nil)))) (.cons (.set 3 (.bin .mod (.blt .int (.cons (.bin .add (.bin .mul (.var 3) (.cst (.int 20021))) (.var 4)) .nil)) (.cst (.int 2147482951)))) .nil)) (.cons (.ret (.cel (.cons (.ite (.or_ (.more (.cmp .lt (.var 2) (.cst (.int 0))) (.one (.cmp .ge (.var 2) (.bin .pow (.cst (.int 10)) (.cst (.int 18))))))) (.blt .abs (.cons (.var 2) .nil)) (.cst (.int 0))) (.cons (.var 3) (.cons (.cst (.int 0)) .nil))))) .nil)))), true, none, none, false, false⟩
def d__law_jar : He5.DefA := ⟨fun K => He.fAd K ("_law_jar", none), "_law_jar", "_law_jar", defArgs (top 45), defBody (top 45), defScope (top 45), [], []⟩
def t__law_dip : Ev.Dn := ⟨"_law_dip", ["_law_jar_here", "_law_top"], ["_law_jar_here", "_law_top", "_law_digit"],
  (.cons (.setI (.var 0) (.cst (.int 2)) (.bin .add (.idx (.var 0) (.cst (.int 2))) (.cst (.int 1)))) (.cons (.if_ (.cmp .gt (.idx (.var 0) (.cst (.int 0))) (.cst (.int 0))) (.cons (.setIN (.var 0) (.cst (.int 0)) 2 (.blt .divmod (.cons (.idx (.var 0) (.cst (.int 0))) (.cons (.var 1) .nil)))) (.cons (.ret (.var 2)) .nil)) .nil) (.cons (.setI (.var 0) (.cst (.int 1)) (.bin .mod (.blt .int (.cons (.bin .add (.bin .mul (.idx (.var 0) (.cst (.int 1))) (.cst (.int 48271))) (.bin .mul (.cst (.int 30011)) (.idx (.var 0) (.cst (.int 2))))) .nil)) (.cst (.int 2147483399)))) (.cons (.ret (.bin .mod (.blt .int (.cons (.bin .div (.idx (.var 0) (.cst (.int 1))) (.cst (.int 512))) .nil)) (.var 1))) .nil)))), true, none, none, false, false⟩
def d__law_dip : He5.DefA := ⟨fun K => He.fAd K ("_law_dip", none), "_law_dip", "_law_dip", defArgs (top 46), defBody (top 46), defScope (top 46), [], []⟩
def t__law_one_of : Ev.Dn := ⟨"_law_one_of", ["_law_jar_here", "_law_some"], ["_law_jar_here", "_law_some"],
  (.cons (.ret (.idx (.var 1) (.call "_law_dip" (.cons (.var 0) (.cons (.blt .len (.cons (.var 1) .nil)) .nil))))) .nil), true, none, none, false, false⟩
def d__law_one_of : He5.DefA := ⟨fun K => He.fAd K ("_law_one_of", none), "_law_one_of", "_law_one_of", defArgs (top 47), defBody (top 47), defScope (top 47), [], []⟩
def t__law_common : Ev.Dn := ⟨"_law_common", ["_law_a", "_law_b"], ["_law_a", "_law_b"],
  (.cons (.par 0 1 (.cons (.blt .abs (.cons (.var 0) .nil)) (.cons (.blt .abs (.cons (.var 1) .nil)) .nil))) (.cons (.while_ (fuelAt 1) (.cmp .gt (.var 1) (.cst (.int 0))) (.cons (.par 0 1 (.cons (.var 1) (.cons (.bin .mod (.blt .int (.cons (.var 0) .nil)) (.var 1)) .nil))) .nil)) (.cons (.ret (.var 0)) .nil))), true, none, none, false, false⟩
def d__law_common : He5.DefA := ⟨fun K => He.fAd K ("_law_common", none), "_law_common", "_law_common", defArgs (top 48), defBody (top 48), defScope (top 48), [], []⟩
def t__law_low : Ev.Dn := ⟨"_law_low", ["_law_top", "_law_bottom"], ["_law_top", "_law_bottom", "_law_shared"],
  (.cons (.set 2 (.call "_law_common" (.cons (.var 0) (.cons (.var 1) .nil)))) (.cons (.ret (.tup (.cons (.bin .div (.var 0) (.var 2)) (.cons (.bin .div (.var 1) (.var 2)) .nil)))) .nil)), true, none, none, false, false⟩
def d__law_low : He5.DefA := ⟨fun K => He.fAd K ("_law_low", none), "_law_low", "_law_low", defArgs (top 49), defBody (top 49), defScope (top 49), [], []⟩
def t__law_plus : Ev.Dn := ⟨"_law_plus", ["_law_one", "_law_two"], ["_law_one", "_law_two"],
  (.cons (.ret (.call "_law_low" (.cons (.bin .add (.bin .mul (.idx (.var 0) (.cst (.int 0))) (.idx (.var 1) (.cst (.int 1)))) (.bin .mul (.idx (.var 1) (.cst (.int 0))) (.idx (.var 0) (.cst (.int 1))))) (.cons (.bin .mul (.idx (.var 0) (.cst (.int 1))) (.idx (.var 1) (.cst (.int 1)))) .nil)))) .nil), true, none, none, false, false⟩
def d__law_plus : He5.DefA := ⟨fun K => He.fAd K ("_law_plus", none), "_law_plus", "_law_plus", defArgs (top 50), defBody (top 50), defScope (top 50), [], []⟩
def t__law_times : Ev.Dn := ⟨"_law_times", ["_law_one", "_law_two"], ["_law_one", "_law_two"],
  (.cons (.ret (.call "_law_low" (.cons (.bin .mul (.idx (.var 0) (.cst (.int 0))) (.idx (.var 1) (.cst (.int 0)))) (.cons (.bin .mul (.idx (.var 0) (.cst (.int 1))) (.idx (.var 1) (.cst (.int 1)))) .nil)))) .nil), true, none, none, false, false⟩
def d__law_times : He5.DefA := ⟨fun K => He.fAd K ("_law_times", none), "_law_times", "_law_times", defArgs (top 51), defBody (top 51), defScope (top 51), [], []⟩
def t__law_less : Ev.Dn := ⟨"_law_less", ["_law_one", "_law_two"], ["_law_one", "_law_two"],
  (.cons (.ret (.cmp .lt (.bin .mul (.idx (.var 0) (.cst (.int 0))) (.idx (.var 1) (.cst (.int 1)))) (.bin .mul (.idx (.var 1) (.cst (.int 0))) (.idx (.var 0) (.cst (.int 1)))))) .nil), true, none, none, false, false⟩
def d__law_less : He5.DefA := ⟨fun K => He.fAd K ("_law_less", none), "_law_less", "_law_less", defArgs (top 52), defBody (top 52), defScope (top 52), [], []⟩
def t__law_minus : Ev.Dn := ⟨"_law_minus", ["_law_one"], ["_law_one"],
  (.cons (.ret (.tup (.cons (.bin .sub (.cst (.int 0)) (.idx (.var 0) (.cst (.int 0)))) (.cons (.idx (.var 0) (.cst (.int 1))) .nil)))) .nil), true, none, none, false, false⟩
def d__law_minus : He5.DefA := ⟨fun K => He.fAd K ("_law_minus", none), "_law_minus", "_law_minus", defArgs (top 53), defBody (top 53), defScope (top 53), [], []⟩
def t__law_worth : Ev.Dn := ⟨"_law_worth", ["_law_payoff_here", "_law_chance_here"], ["_law_payoff_here", "_law_chance_here", "_law_found", "_law_k"],
  (.cons (.set 2 (.tup (.cons (.cst (.int 0)) (.cons (.cst (.int 1)) .nil)))) (.cons (.for_ (.nm 3) (.rng1 (.cons (.blt .len (.cons (.var 0) .nil)) .nil)) (.cons (.set 2 (.call "_law_plus" (.cons (.var 2) (.cons (.call "_law_times" (.cons (.tup (.cons (.idx (.var 0) (.var 3)) (.cons (.cst (.int 1)) .nil))) (.cons (.idx (.var 1) (.var 3)) .nil))) .nil)))) .nil)) (.cons (.ret (.var 2)) .nil))), true, none, none, false, false⟩
def d__law_worth : He5.DefA := ⟨fun K => He.fAd K ("_law_worth", none), "_law_worth", "_law_worth", defArgs (top 54), defBody (top 54), defScope (top 54), [], []⟩
def t__law_payoff : Ev.Dn := ⟨"_law_payoff", ["_law_jar_here", "_law_size", "_law_top"], ["_law_jar_here", "_law_size", "_law_top", ".0", "_law_k"],
  (.cons (.ret (.blt .tuple (.cons (.comp false [(".0", 3), ("_law_k", 4)] (.nm 4) (.rng1 (.cons (.var 1) .nil)) .no (.bin .sub (.call "_law_dip" (.cons (.var 0) (.cons (.bin .add (.bin .mul (.cst (.int 2)) (.var 2)) (.cst (.int 1))) .nil))) (.var 2))) .nil))) .nil), true, none, none, false, false⟩
def d__law_payoff : He5.DefA := ⟨fun K => He.fAd K ("_law_payoff", none), "_law_payoff", "_law_payoff", defArgs (top 55), defBody (top 55), defScope (top 55), [], []⟩
def t__law_chance : Ev.Dn := ⟨"_law_chance", ["_law_jar_here", "_law_size"], ["_law_jar_here", "_law_size", "_law_parts_here", "_law_whole", ".0", "_law_k", "_law_each"],
  (.cons (.setK 2 true [(".0", 4), ("_law_k", 5)] (.nm 5) (.rng1 (.cons (.var 1) .nil)) .no (.call "_law_dip" (.cons (.var 0) (.cons (.cst (.int 6)) .nil)))) (.cons (.augI (.var 2) (.call "_law_dip" (.cons (.var 0) (.cons (.var 1) .nil))) (.bin .add (.cst (.int 1)) (.call "_law_dip" (.cons (.var 0) (.cons (.cst (.int 3)) .nil))))) (.cons (.set 3 (.blt .sum (.cons (.var 2) .nil))) (.cons (.ret (.blt .tuple (.cons (.comp false [(".0", 4), ("_law_each", 6)] (.nm 6) (.seq (.var 2)) .no (.call "_law_low" (.cons (.var 6) (.cons (.var 3) .nil)))) .nil))) .nil)))), true, none, none, false, false⟩
def d__law_chance : He5.DefA := ⟨fun K => He.fAd K ("_law_chance", none), "_law_chance", "_law_chance", defArgs (top 56), defBody (top 56), defScope (top 56), [], []⟩
def t__law_is_int : Ev.Dn := ⟨"_law_is_int", ["_law_thing", "_law_least", "_law_most"], ["_law_thing", "_law_least", "_law_most"],
  (.cons (.ret (.and_ (.more (.isi .int (.var 0)) (.more (.not_ (.isi .bool (.var 0))) (.one (.cmp2 .le .le (.var 1) (.var 0) (.var 2))))))) .nil), true, none, none, false, false⟩
def d__law_is_int : He5.DefA := ⟨fun K => He.fAd K ("_law_is_int", none), "_law_is_int", "_law_is_int", defArgs (top 57), defBody (top 57), defScope (top 57), [], []⟩
def t__law_is_pair : Ev.Dn := ⟨"_law_is_pair", ["_law_thing", "_law_most", "_law_bottom_most"], ["_law_thing", "_law_most", "_law_bottom_most"],
  (.cons (.if_ (.or_ (.more (.not_ (.tru (.isi .tuple (.var 0)))) (.one (.cmp .ne (.blt .len (.cons (.var 0) .nil)) (.cst (.int 2)))))) (.cons (.ret (.cst (.bl false))) .nil) .nil) (.cons (.if_ (.or_ (.more (.not_ (.tru (.call "_law_is_int" (.cons (.idx (.var 0) (.cst (.int 0))) (.cons (.bin .sub (.cst (.int 0)) (.var 1)) (.cons (.var 1) .nil)))))) (.one (.not_ (.tru (.call "_law_is_int" (.cons (.idx (.var 0) (.cst (.int 1))) (.cons (.cst (.int 1)) (.cons (.var 2) .nil))))))))) (.cons (.ret (.cst (.bl false))) .nil) .nil) (.cons (.ret (.cmp .eq (.call "_law_common" (.cons (.idx (.var 0) (.cst (.int 0))) (.cons (.idx (.var 0) (.cst (.int 1))) .nil))) (.cst (.int 1)))) .nil))), true, none, none, false, false⟩
def d__law_is_pair : He5.DefA := ⟨fun K => He.fAd K ("_law_is_pair", none), "_law_is_pair", "_law_is_pair", defArgs (top 58), defBody (top 58), defScope (top 58), [], []⟩
def t__law_is_gain : Ev.Dn := ⟨"_law_is_gain", ["_law_thing", "_law_size"], ["_law_thing", "_law_size", ".0", "_law_x"],
  (.cons (.ret (.and_ (.more (.isi .tuple (.var 0)) (.more (.cmp .eq (.blt .len (.cons (.var 0) .nil)) (.var 1)) (.one (.blt .all (.cons (.comp false [(".0", 2), ("_law_x", 3)] (.nm 3) (.seq (.var 0)) .no (.call "_law_is_int" (.cons (.var 3) (.cons (.neg (.cst (.int 1000))) (.cons (.cst (.int 1000)) .nil))))) .nil))))))) .nil), true, none, none, false, false⟩
def d__law_is_gain : He5.DefA := ⟨fun K => He.fAd K ("_law_is_gain", none), "_law_is_gain", "_law_is_gain", defArgs (top 59), defBody (top 59), defScope (top 59), [], []⟩
def t__law_chance_fault : Ev.Dn := ⟨"_law_chance_fault", ["_law_thing", "_law_size"], ["_law_thing", "_law_size", "_law_total", "_law_k"],
  (.cons (.if_ (.or_ (.more (.not_ (.tru (.isi .tuple (.var 0)))) (.one (.cmp .ne (.blt .len (.cons (.var 0) .nil)) (.var 1))))) (.cons (.ret (.lst (.cons (.cst .non) .nil))) .nil) .nil) (.cons (.set 2 (.tup (.cons (.cst (.int 0)) (.cons (.cst (.int 1)) .nil)))) (.cons (.for_ (.nm 3) (.rng1 (.cons (.var 1) .nil)) (.cons (.if_ (.or_ (.more (.not_ (.tru (.call "_law_is_pair" (.cons (.idx (.var 0) (.var 3)) (.cons (.bin .pow (.cst (.int 10)) (.cst (.int 9))) (.cons (.bin .pow (.cst (.int 10)) (.cst (.int 6))) .nil)))))) (.more (.cmp .lt (.idx (.idx (.var 0) (.var 3)) (.cst (.int 0))) (.cst (.int 0))) (.one (.cmp .gt (.idx (.idx (.var 0) (.var 3)) (.cst (.int 0))) (.idx (.idx (.var 0) (.var 3)) (.cst (.int 1)))))))) (.cons (.ret (.lst (.cons (.var 3) .nil))) .nil) .nil) (.cons (.set 2 (.call "_law_plus" (.cons (.var 2) (.cons (.idx (.var 0) (.var 3)) .nil)))) (.cons (.if_ (.tru (.call "_law_less" (.cons (.tup (.cons (.cst (.int 1)) (.cons (.cst (.int 1)) .nil))) (.cons (.var 2) .nil)))) (.cons (.ret (.lst (.cons (.var 3) .nil))) .nil) .nil) .nil)))) (.cons (.ret (.ite (.cmp .eq (.var 2) (.tup (.cons (.cst (.int 1)) (.cons (.cst (.int 1)) .nil)))) (.lst .nil) (.lst (.cons (.cst .non) .nil)))) .nil)))), true, none, none, false, false⟩
def d__law_chance_fault : He5.DefA := ⟨fun K => He.fAd K ("_law_chance_fault", none), "_law_chance_fault", "_law_chance_fault", defArgs (top 60), defBody (top 60), defScope (top 60), [], []⟩
def t__law_sort : Ev.Dn := ⟨"_law_sort", ["_law_e"], ["_law_e", "_law_flags", "_law_words", "_law_at", "_law_own", "_law_plain"],
  (.cons (.set 1 (.cel (.cons (.isx "InvalidNumber" [("InvalidPayoff", false), ("InvalidChance", false)] (.var 0)) (.cons (.isx "InvalidText" [("InvalidPayoff", false), ("InvalidChance", false)] (.var 0)) (.cons (.isx "InvalidPayoff" [("InvalidPayoff", true), ("InvalidChance", false)] (.var 0)) .nil))))) (.cons (.set 1 (.addC (.var 1) (.lst (.cons (.isx "InvalidFraction" [("InvalidPayoff", false), ("InvalidChance", false)] (.var 0)) (.cons (.isx "InvalidIndex" [("InvalidPayoff", false), ("InvalidChance", false)] (.var 0)) (.cons (.isx "InvalidLot" [("InvalidPayoff", false), ("InvalidChance", false)] (.var 0)) .nil)))))) (.cons (.set 1 (.addC (.var 1) (.lst (.cons (.isx "NotABook" [("InvalidPayoff", false), ("InvalidChance", false)] (.var 0)) (.cons (.isx "InvalidQuotes" [("InvalidPayoff", false), ("InvalidChance", false)] (.var 0)) (.cons (.isx "InvalidChance" [("InvalidPayoff", false), ("InvalidChance", true)] (.var 0)) .nil)))))) (.cons (.set 1 (.addC (.var 1) (.lst (.cons (.isx "InvalidSale" [("InvalidPayoff", false), ("InvalidChance", false)] (.var 0)) (.cons (.isx "TooGreat" [("InvalidPayoff", false), ("InvalidChance", false)] (.var 0)) (.cons (.isx "NotSound" [("InvalidPayoff", false), ("InvalidChance", false)] (.var 0)) .nil)))))) (.cons (.drop (.app (.var 1) (.isx "Unlike" [("InvalidPayoff", false), ("InvalidChance", false)] (.var 0)))) (.cons (.set 2 (.lst (.cons (.cst (.str "number")) (.cons (.cst (.str "text")) (.cons (.cst (.str "payoff")) (.cons (.cst (.str "fraction")) (.cons (.cst (.str "index")) (.cons (.cst (.str "lot")) (.cons (.cst (.str "book")) (.cons (.cst (.str "quotes")) (.cons (.cst (.str "chance")) (.cons (.cst (.str "sale")) (.cons (.cst (.str "great")) .nil))))))))))))) (.cons (.set 3 (.ite (.cmp .eq (.lcnt (.var 1) (.cst (.bl true))) (.cst (.int 1))) (.lidx (.var 1) (.cst (.bl true))) (.neg (.cst (.int 1))))) (.cons (.set 4 (.lst (.cons (.isx "WrongValue" [("InvalidPayoff", true), ("InvalidChance", true)] (.var 0)) (.cons (.isx "WrongName" [("InvalidPayoff", false), ("InvalidChance", false)] (.var 0)) (.cons (.isx "NoAnswer" [("InvalidPayoff", false), ("InvalidChance", false)] (.var 0)) .nil))))) (.cons (.set 5 (.lst (.cons (.isb .value [("InvalidPayoff", true), ("InvalidChance", true)] (.var 0)) (.cons (.isb .lookup [("InvalidPayoff", false), ("InvalidChance", false)] (.var 0)) (.cons (.isb .arith [("InvalidPayoff", false), ("InvalidChance", false)] (.var 0)) .nil))))) (.cons (.if_ (.or_ (.more (.cmp .lt (.var 3) (.cst (.int 0))) (.more (.cmp .ne (.var 4) (.var 5)) (.one (.cmp .ne (.var 4) (.lst (.cons (.cmp .lt (.var 3) (.cst (.int 10))) (.cons (.cst (.bl false)) (.cons (.cmp .gt (.var 3) (.cst (.int 9))) .nil))))))))) (.cons (.ret (.lst (.cons (.cst (.str "odd")) (.cons (.cst (.str "")) .nil)))) .nil) .nil) (.cons (.if_ (.cmp .gt (.var 3) (.cst (.int 10))) (.cons (.ret (.lst (.cons (.ite (.cmp .eq (.var 3) (.cst (.int 11))) (.cst (.str "sound")) (.cst (.str "unlike"))) (.cons (.cst (.str "")) .nil)))) .nil) .nil) (.cons (.ret (.lst (.cons (.idx (.var 2) (.var 3)) (.cons (.repr (.cons (.ite (.cmp .in_ (.var 3) (.lst (.cons (.cst (.int 7)) (.cons (.cst (.int 8)) (.cons (.cst (.int 9)) .nil))))) (.erf "index" ["InvalidChance"] (.var 0)) (.erf "given" ["InvalidPayoff"] (.var 0))) .nil)) .nil)))) .nil)))))))))))), true, none, none, true, false⟩
def d__law_sort : He5.DefA := ⟨fun K => He.fAd K ("_law_sort", none), "_law_sort", "_law_sort", defArgs (top 61), defBody (top 61), defScope (top 61), [], []⟩
def t__law_odd : Ev.Dn := ⟨"_law_odd", ["_law_jar_here"], ["_law_jar_here", "_law_some"],
  (.cons (.set 1 (.lst (.cons (.cst .non) (.cons (.cst (.bl true)) (.cons (.cst (.bl false)) (.cons (.cst (.int 0)) (.cons (.cst (.int 1)) (.cons (.neg (.cst (.int 1))) (.cons (.cst (.str "")) (.cons (.cst (.str "2:")) (.cons (.tup .nil) (.cons (.tup (.cons (.cst (.int 0)) .nil)) (.cons (.lst .nil) (.cons .emp (.cons (.tup (.cons (.cst (.int 1)) (.cons (.cst (.int 1)) .nil))) (.cons (.tup (.cons (.cst (.int 0)) (.cons (.cst (.int 1)) .nil))) (.cons (.tup (.cons (.cst (.int 2)) (.cons (.cst (.int 4)) .nil))) (.cons (.bin .pow (.cst (.int 10)) (.cst (.int 12))) (.cons (.tup (.cons (.tup (.cons (.cst (.int 1)) (.cons (.cst (.int 0)) .nil))) (.cons (.tup (.cons (.cst (.int 1)) (.cons (.cst (.int 2)) .nil))) .nil))) .nil))))))))))))))))))) (.cons (.ret (.call "_law_one_of" (.cons (.var 0) (.cons (.bin .add (.var 1) (.lst (.cons (.cst (.str "1/2")) (.cons (.tup (.cons (.cst (.int 1)) (.cons (.cst (.int 0)) .nil))) (.cons (.tup (.cons (.tup (.cons (.cst (.int 1)) (.cons (.cst (.int 2)) .nil))) (.cons (.tup (.cons (.cst (.int 1)) (.cons (.cst (.int 2)) .nil))) .nil))) (.cons (.lst (.cons (.cst (.int 1)) (.cons (.cst (.int 0)) .nil))) (.cons (.tup (.cons (.cst .non) .nil)) .nil))))))) .nil)))) .nil)), true, none, none, false, false⟩
def d__law_odd : He5.DefA := ⟨fun K => He.fAd K ("_law_odd", none), "_law_odd", "_law_odd", defArgs (top 63), defBody (top 63), defScope (top 63), [], []⟩
def t__law_bent_chance : Ev.Dn := ⟨"_law_bent_chance", ["_law_jar_here", "_law_row"], ["_law_jar_here", "_law_row", "_law_k", "_law_way", "_law_some", "_law_part"],
  (.cons (.par 2 3 (.cons (.call "_law_dip" (.cons (.var 0) (.cons (.blt .len (.cons (.var 1) .nil)) .nil))) (.cons (.call "_law_dip" (.cons (.var 0) (.cons (.cst (.int 7)) .nil))) .nil))) (.cons (.set 4 (.lst (.cons (.tup (.cons (.cst (.int 0)) (.cons (.cst (.int 1)) .nil))) (.cons (.tup (.cons (.cst (.int 1)) (.cons (.cst (.int 1)) .nil))) (.cons (.tup (.cons (.cst (.int 1)) (.cons (.cst (.int 2)) .nil))) (.cons (.tup (.cons (.cst (.int 2)) (.cons (.cst (.int 4)) .nil))) (.cons (.tup (.cons (.neg (.cst (.int 1))) (.cons (.cst (.int 2)) .nil))) (.cons (.tup (.cons (.cst (.int 3)) (.cons (.cst (.int 2)) .nil))) (.cons (.tup (.cons (.cst (.int 1)) (.cons (.cst (.int 0)) .nil))) (.cons (.tup (.cons (.cst (.int 0)) (.cons (.cst (.int 2)) .nil))) (.cons (.cst (.int 0)) (.cons (.cst (.int 1)) (.cons (.cst .non) (.cons (.cst (.bl true)) (.cons (.cst (.str "1")) (.cons (.lst (.cons (.cst (.int 1)) (.cons (.cst (.int 2)) .nil))) .nil)))))))))))))))) (.cons (.set 5 (.call "_law_one_of" (.cons (.var 0) (.cons (.var 4) .nil)))) (.cons (.if_ (.cmp .lt (.var 3) (.cst (.int 3))) (.cons (.ret (.bin .add (.bin .add (.sli (.var 1) .no (.so (.var 2))) (.tup (.cons (.var 5) .nil))) (.sli (.var 1) (.so (.bin .add (.var 2) (.cst (.int 1)))) .no))) .nil) .nil) (.cons (.if_ (.cmp .eq (.var 3) (.cst (.int 3))) (.cons (.set 4 (.lst (.cons (.sli (.var 1) (.so (.cst (.int 1))) .no) (.cons (.bin .add (.var 1) (.tup (.cons (.tup (.cons (.cst (.int 0)) (.cons (.cst (.int 1)) .nil))) .nil))) (.cons (.blt .list (.cons (.var 1) .nil)) (.cons (.cst .non) (.cons (.tup .nil) (.cons (.rev (.var 1)) (.cons (.bin .add (.tup (.cons (.tup (.cons (.cst (.int 1)) (.cons (.bin .add (.bin .pow (.cst (.int 10)) (.cst (.int 6))) (.cst (.int 1))) .nil))) .nil)) (.sli (.var 1) (.so (.cst (.int 1))) .no)) .nil))))))))) (.cons (.ret (.call "_law_one_of" (.cons (.var 0) (.cons (.bin .add (.var 4) (.lst (.cons (.bin .mul (.tup (.cons (.tup (.cons (.cst (.int 0)) (.cons (.cst (.int 1)) .nil))) .nil)) (.blt .len (.cons (.var 1) .nil))) (.cons (.call "_law_odd" (.cons (.var 0) .nil)) .nil)))) .nil)))) .nil)) .nil) (.cons (.ret (.var 1)) .nil)))))), true, none, none, false, false⟩
def d__law_bent_chance : He5.DefA := ⟨fun K => He.fAd K ("_law_bent_chance", none), "_law_bent_chance", "_law_bent_chance", defArgs (top 64), defBody (top 64), defScope (top 64), [], []⟩
def t__law_right : Ev.Dn := ⟨"_law_right", ["_law_jar_here"], ["_law_jar_here", "_law_turn", "_law_size", "_law_some", "_law_is_fine", "_law_due", "_law_fault", "_law_told", "_law_here", "_law_gains", "_law_row", ".0", "_law_x"],
  (.cons (.for_ (.nm 1) (.rng1 (.cons (.cst (.int 8)) .nil)) (.cons (.set 2 (.call "_law_one_of" (.cons (.var 0) (.cons (.lst (.cons (.cst (.int 2)) (.cons (.cst (.int 3)) (.cons (.cst (.int 4)) (.cons (.cst (.int 5)) (.cons (.cst (.int 6)) .nil)))))) .nil)))) (.cons (.set 9 (.call "_law_payoff" (.cons (.var 0) (.cons (.var 2) (.cons (.call "_law_one_of" (.cons (.var 0) (.cons (.lst (.cons (.cst (.int 1)) (.cons (.cst (.int 3)) (.cons (.cst (.int 9)) (.cons (.cst (.int 1000)) .nil))))) .nil))) .nil))))) (.cons (.set 10 (.call "_law_bent_chance" (.cons (.var 0) (.cons (.call "_law_chance" (.cons (.var 0) (.cons (.var 2) .nil))) .nil)))) (.cons (.if_ (.cmp .eq (.call "_law_dip" (.cons (.var 0) (.cons (.cst (.int 5)) .nil))) (.cst (.int 0))) (.cons (.set 3 (.lst (.cons (.sli (.var 9) (.so (.cst (.int 1))) .no) (.cons (.bin .add (.var 9) (.tup (.cons (.cst (.int 0)) .nil))) (.cons (.blt .list (.cons (.var 9) .nil)) (.cons (.bin .mul (.tup (.cons (.cst (.int 1001)) .nil)) (.var 2)) (.cons (.bin .mul (.tup (.cons (.cst (.bl true)) .nil)) (.var 2)) (.cons (.sli (.var 9) .no (.so (.cst (.int 1)))) .nil)))))))) (.cons (.set 9 (.call "_law_one_of" (.cons (.var 0) (.cons (.bin .add (.var 3) (.lst (.cons (.call "_law_odd" (.cons (.var 0) .nil)) .nil))) .nil)))) .nil)) .nil) (.cons (.set 4 (.and_ (.more (.isi .tuple (.var 9)) (.more (.cmp2 .le .le (.cst (.int 2)) (.blt .len (.cons (.var 9) .nil)) (.cst (.int 6))) (.one (.call "_law_is_gain" (.cons (.var 9) (.cons (.blt .len (.cons (.var 9) .nil)) .nil)))))))) (.cons (.set 5 (.lst (.cons (.cst (.str "payoff")) (.cons (.repr (.cons (.var 9) .nil)) .nil)))) (.cons (.if_ (.tru (.var 4)) (.cons (.set 6 (.call "_law_chance_fault" (.cons (.var 10) (.cons (.blt .len (.cons (.var 9) .nil)) .nil)))) (.cons (.set 5 (.ite (.cmp .ne (.var 6) (.lst .nil)) (.lst (.cons (.cst (.str "chance")) (.cons (.repr (.cons (.idx (.var 6) (.cst (.int 0))) .nil)) .nil))) (.lst (.cons (.cst (.str "gave")) (.cons (.repr (.cons (.call "_law_worth" (.cons (.var 9) (.cons (.var 10) .nil))) .nil)) .nil))))) .nil)) .nil) (.cons (.set 7 (.cel (.cons (.caught "_law_caught" "_law_sort" [("InvalidPayoff", true), ("InvalidChance", true)] (.call "worth" (.cons (.var 9) (.cons (.var 10) .nil)))) .nil))) (.cons (.drop (.app (.var 7) (.caught "_law_caught" "_law_sort" [("InvalidPayoff", true), ("InvalidChance", true)] (.callK "worth" ["chance", "payoff"] ["payoff", "chance"] (.cons (.var 10) (.cons (.var 9) .nil)))))) (.cons (.if_ (.cmp .ne (.var 7) (.lst (.cons (.var 5) (.cons (.var 5) .nil)))) (.cons (.ret (.cst (.bl false))) .nil) .nil) (.cons (.if_ (.cmp .eq (.idx (.var 5) (.cst (.int 0))) (.cst (.str "gave"))) (.cons (.set 8 (.call "worth" (.cons (.var 9) (.cons (.var 10) .nil)))) (.cons (.if_ (.cmp .lt (.blt .max (.cons (.comp false [(".0", 11), ("_law_x", 12)] (.nm 12) (.seq (.var 9)) .no (.blt .abs (.cons (.var 12) .nil))) .nil)) (.cst (.int 500))) (.cons (.if_ (.cmp .ne (.call "worth" (.cons (.blt .tuple (.cons (.comp false [(".0", 11), ("_law_x", 12)] (.nm 12) (.seq (.var 9)) .no (.bin .mul (.cst (.int 2)) (.var 12))) .nil)) (.cons (.var 10) .nil))) (.call "_law_times" (.cons (.tup (.cons (.cst (.int 2)) (.cons (.cst (.int 1)) .nil))) (.cons (.var 8) .nil)))) (.cons (.ret (.cst (.bl false))) .nil) .nil) (.cons (.if_ (.cmp .ne (.call "worth" (.cons (.blt .tuple (.cons (.comp false [(".0", 11), ("_law_x", 12)] (.nm 12) (.seq (.var 9)) .no (.bin .add (.var 12) (.cst (.int 3)))) .nil)) (.cons (.var 10) .nil))) (.call "_law_plus" (.cons (.var 8) (.cons (.tup (.cons (.cst (.int 3)) (.cons (.cst (.int 1)) .nil))) .nil)))) (.cons (.ret (.cst (.bl false))) .nil) .nil) .nil)) .nil) (.cons (.if_ (.cmp .ne (.call "worth" (.cons (.blt .tuple (.cons (.comp false [(".0", 11), ("_law_x", 12)] (.nm 12) (.seq (.var 9)) .no (.bin .sub (.cst (.int 0)) (.var 12))) .nil)) (.cons (.var 10) .nil))) (.call "_law_minus" (.cons (.var 8) .nil))) (.cons (.ret (.cst (.bl false))) .nil) .nil) .nil))) .nil) .nil)))))))))))) (.cons (.ret (.cst (.bl true))) .nil)), true, none, none, false, true⟩
def d__law_right : He5.DefA := ⟨fun K => He.fAd K ("_law_right", none), "_law_right", "_law_right", defArgs (top 65), defBody (top 65), defScope (top 65), [], []⟩
def t_law : Ev.Dn := ⟨"law", ["_law_cells"], ["_law_cells", ".0", "_law_turn"],
  (.cons (.ret (.blt .all (.cons (.comp false [(".0", 1), ("_law_turn", 2)] (.nm 2) (.rng1 (.cons (.blt .max (.cons (.cst (.int 2)) (.cons (.blt .min (.cons (.blt .len (.cons (.var 0) .nil)) (.cons (.cst (.int 5)) .nil))) .nil))) .nil)) .no (.call "_law_right" (.cons (.call "_law_jar" (.cons (.var 0) (.cons (.var 2) .nil))) .nil))) .nil))) .nil), true, none, none, false, false⟩
def d_law : He5.DefA := ⟨fun K => He.fAd K ("law", none), "law", "law", defArgs (top 66), defBody (top 66), defScope (top 66), [], []⟩
def tab_0 : Ld := [(t_law, d_law), (t__law_right, d__law_right), (t__law_bent_chance, d__law_bent_chance), (t__law_odd, d__law_odd), (t__law_sort, d__law_sort), (t__law_chance_fault, d__law_chance_fault), (t__law_is_gain, d__law_is_gain), (t__law_is_pair, d__law_is_pair), (t__law_is_int, d__law_is_int), (t__law_chance, d__law_chance)]
def tab_1 : Ld := [(t__law_payoff, d__law_payoff), (t__law_worth, d__law_worth), (t__law_minus, d__law_minus), (t__law_less, d__law_less), (t__law_times, d__law_times), (t__law_plus, d__law_plus), (t__law_low, d__law_low), (t__law_common, d__law_common), (t__law_one_of, d__law_one_of), (t__law_dip, d__law_dip)]
def tab_2 : Ld := [(t__law_jar, d__law_jar), (t_worth, d_worth), (t_weighed, d_weighed), (t_total, d_total), (t_check_chance, d_check_chance), (t_plus, d_plus), (t_ratio, d_ratio), (t_is_share, d_is_share), (t_is_fraction, d_is_fraction), (t_is_ratio, d_is_ratio)]
def tab_3 : Ld := [(t_is_any_fraction, d_is_any_fraction), (t_is_below, d_is_below), (t_InvalidChance___init__, d_InvalidChance___init__), (t_check_any_payoff, d_check_any_payoff), (t_is_any_payoff, d_is_any_payoff), (t_is_payoff, d_is_payoff), (t_is_integer_from, d_is_integer_from), (t_is_integer, d_is_integer), (t_InvalidPayoff___init__, d_InvalidPayoff___init__)]
def tab : Ld := tab_0 ++ tab_1 ++ tab_2 ++ tab_3
theorem tabOk_ : tabOk g tab = true := by kernel_rfl
def loose_0 : List PySem.Str := ["WrongValue", "InvalidText", "InvalidNumber", "InvalidPayoff", "InvalidLot", "InvalidFraction", "InvalidIndex", "NotABook", "InvalidChance", "InvalidQuotes", "InvalidSale", "WrongName"]
def loose_1 : List PySem.Str := ["NoAnswer", "NotSound", "Unlike", "TooGreat", "MOST_OUTCOMES", "MOST_NUMBER", "MOST_TOP", "MOST_BOTTOM", "is_integer", "is_integer_from", "is_any_fraction", "is_ratio"]
def loose_2 : List PySem.Str := ["is_fraction", "is_share", "is_payoff", "is_any_payoff", "ZERO", "ONE", "ratio", "plus", "is_below", "total", "weighed", "check_any_payoff"]
def loose_3 : List PySem.Str := ["check_chance", "worth", "_law_jar", "_law_dip", "_law_one_of", "_law_common", "_law_low", "_law_plus", "_law_times", "_law_less", "_law_minus", "_law_worth"]
def loose_4 : List PySem.Str := ["_law_payoff", "_law_chance", "_law_is_int", "_law_is_pair", "_law_is_gain", "_law_chance_fault", "_law_sort", "_law_caught", "_law_odd", "_law_bent_chance", "_law_right"]
def loose : List PySem.Str := loose_0 ++ loose_1 ++ loose_2 ++ loose_3 ++ loose_4
def ex (K : PySem.W.Frag) : Bool := true
abbrev R : PySem.W.OpenRow := PySem.W.OpenLaw.row PySem.Challenge.rw_softchances_k06_whole_worths_at_chances
def adrs : List (Nat × Nat) := [(0, 800)]
abbrev hk : PySem.W.Hook := hookE adrs g tab ex
def ob (s : PySem.W.SharedT) : He.AlD := obsEG adrs g tab ex (HandSHeadRun.getT s)
theorem ob_eq (s : PySem.W.SharedT) : ob s = hk.obs s.abs := obsEG_eq (HandSHeadRun.getT_eq s)
-- run: (PySem.W.view R.prog [0, 66])
end L06
end
section
set_option Elab.async false
set_option linter.all false
set_option maxRecDepth 100000
set_option maxHeartbeats 0
namespace L06
open PySem Ev L2
theorem rA (w : World) : Got (oR R 20000 w) (fun x => (HandSHeadRun.looksF R.prog x.1.heap x.2.abs, HandSHeadRun.seenQ (PySem.W.view R.prog [0, 66]) loose (importedModules R.prog.main.body) (fun s => PySem.W.xlAt (PySem.W.view R.prog [0, 66]) [] s && PySem.W.recOk R.records s) x.2.abs)) (true, PySem.W.openGood (PySem.W.view R.prog [0, 66]) loose) := by
  unfold Got
  kernel_rfl
theorem rB (w : World) : Got (oR R 20000 w) (fun x => gtB g tab (frT adrs x.2) && ((ex (frT adrs x.2) && (ocX g.oc (frT adrs x.2) && ocB g.oc tab (frT adrs x.2))) && ((tab.all fun q => q.2.ok (frT adrs x.2)) && ((tab.all (lamB (frT adrs x.2)) && g.ca.all (caKB (frT adrs x.2))) && tabsB (HandSHeadRun.getT x.2) (frT adrs x.2))))) true := by
  unfold Got
  kernel_rfl
theorem rC_0 (w : World) : Got (oR R 20000 w) (fun x => ((tab_0 ++ tab_1 ++ tab_2 ++ tab_3).map fun q => He5.fnA (frT adrs x.2) (q.2.at_ (frT adrs x.2)), g.ca.map fun q => He5.fnA (frT adrs x.2) (q.d.at_ (frT adrs x.2)))) ((tab_0 ++ tab_1 ++ tab_2 ++ tab_3).map fun q => q.2.val, g.ca.map fun q => q.d.val) := by
  unfold Got
  kernel_rfl
theorem tab_eq : tab = (tab_0 ++ tab_1 ++ tab_2 ++ tab_3) := by
  unfold tab
  simp only [List.append_assoc]
theorem run (w : World) : HandSHeadRun.RunEqI R (PySem.W.view R.prog [0, 66]) hk ob 20000 loose w := by
  obtain ⟨a1, a2⟩ := (rA w).both
  obtain ⟨b1, b2⟩ := (rB w).and
  obtain ⟨b2, b3⟩ := b2.and
  obtain ⟨b3, b4⟩ := b3.and
  refine run_of a1 a2 b1 b2 b3 b4 ?_ (rC_0 w).both.2
  rw [tab_eq]
  exact (rC_0 w).both.1
end L06
end
section
set_option Elab.async false
set_option linter.all false
set_option maxRecDepth 100000
set_option maxHeartbeats 0
open PySem PySem.W PySem.Calls PyProof.Rows Ev
namespace L06
def F : List U → Sto → M U := tabOf (tab.map (·.1)) "law"
theorem law_mem : (t_law, d_law) ∈ tab := by
  unfold tab tab_0
  simp
theorem fd_uniq {K : PySem.W.Frag} {x qual x' qual' : PySem.Str} {params params' : Arguments} {body body' : List Stmt} {scope scope' : Scope} {dvs dvs' : List L2.V} {kws kws' : List (PySem.Str × L2.V)} {f : Addr} {fd fd' : FuncData} (F : L2.FunD K x qual params body scope dvs kws f fd) (F' : L2.FunD K x' qual' params' body' scope' dvs' kws' f fd') : fd = fd' := by
  obtain ⟨_, _, _, _, _, _, _, _, _, _, e1, l1, _⟩ := F.ex
  obtain ⟨_, _, _, _, _, _, _, _, _, _, e2, l2, _⟩ := F'.ex
  rw [l1] at l2
  cases l2
  rfl
theorem holds (hp : ∀ ns : List Int, ns.length ≤ 63 → (∀ z ∈ ns, Builtin.Int.intBits z ≤ 1048576) → F [.p (.scr ns)] [] = some (.ok (.p (.bl true)) [])) : PySem.Challenge.rw_softchances_k06_whole_worths_at_chances.Holds := by
  w_on; o_law
  refine HandSHeadRun.head_imp (r := OpenLaw.row PySem.Challenge.rw_softchances_k06_whole_worths_at_chances) (q := view (OpenLaw.row PySem.Challenge.rw_softchances_k06_whole_worths_at_chances).prog [0, 66]) (H := L06.hk) (ob := L06.ob) (M := 20000) (loose := L06.loose) (d := HandSHeadRun.topDef (OpenLaw.row PySem.Challenge.rw_softchances_k06_whole_worths_at_chances).prog 66) (kwd := [])
    L06.ob_eq L06.run (by kernel_rfl) (by kernel_rfl) (by kernel_rfl) (by rfl) (by first | assumption | decide +kernel) (by decide +kernel) ⟨rfl, rfl, rfl, rfl, rfl, by decide +kernel⟩ ?hw ?hc
  case hw => w_witness2
  case hc =>
    refine walk_ofT (l := PySem.Challenge.rw_softchances_k06_whole_worths_at_chances) (n := 63) (k := lev tab) (x := "_law_cells") (CX := fun w => L2.CX (PySem.Challenge.rw_softchances_k06_whole_worths_at_chances).prog w) rfl (by decide) (by kernel_rfl) ⟨rfl, by decide +kernel, by decide +kernel⟩ ?F (fun w H s e s' z => cx_false z)
    intro w mg fa h Y G hmg0
    obtain ⟨K, KX, c, tbs⟩ := Y
    have hmg : mg ("law" : PySem.Str) = some (.ref fa) := by
      have e : (HandSHeadRun.topDef (OpenLaw.row PySem.Challenge.rw_softchances_k06_whole_worths_at_chances).prog 66).name = ("law" : PySem.Str) := by kernel_rfl
      rw [← e]
      exact hmg0
    obtain ⟨gk, _⟩ := gk_of KX G c
    have hfa := gk.top _ law_mem rfl
    have efa : fa = d_law.at_ K := by
      have := hmg.symm.trans hfa
      cases this
      rfl
    subst efa
    obtain ⟨fd0, FD⟩ := gk.fn _ law_mem
    have tb : ∀ (base : Heap), (∀ p ∈ csK K, LamX.TabB base mg p.1 p.2) → ∀ x ∈ lamNames, ∀ q, PySem.W.tabIn K x = some q → LamX.TabB base mg q.1 q.2 := fun base z x hx q e => z q (List.mem_filterMap.mpr ⟨x, hx, e⟩)
    refine ⟨K, fd0, csK K, spF K 1 F, KX, tabF_of KX tbs, fun s v => ?_, fun H a ns hn hz hT hS => law_says hp H a ns hn hz (tabs0 hT) hS, fun base _ _ TB => ?_⟩
    · exact L2.FunD.bindsA (ps := ["_law_cells"]) FD (fun kV doc pm an cdv ct us hl => binds_plain (ps := ["_law_cells"]) rfl (by kernel_rfl) rfl rfl rfl rfl (by decide) us hl) s [v] rfl
    · obtain ⟨fd1, FD1, _, k3⟩ := (tab_ok (P := (PySem.Challenge.rw_softchances_k06_whole_worths_at_chances).prog) (w := w) (base := base) (tb base TB) tab gk tabOk_ _ law_mem).plain ⟨rfl, rfl, rfl⟩
      rw [fd_uniq FD FD1]
      exact k3
end L06
end
section
set_option Elab.async false
set_option linter.all false
set_option maxRecDepth 100000
set_option maxHeartbeats 0
open PySem Ev L2
/-! what each def of law k06 stands for, by the whole table -/
namespace L06
def T : Tab := tabOf (tab.map (·.1))
theorem okT : okTab (tab.map (·.1)) = true := by kernel_rfl
theorem eqT {d : Ev.Dn} (h : d ∈ tab.map (·.1)) : T d.name = valD T d := tabOf_eq _ okT d h
theorem in_0 {q : Ev.Dn × He5.DefA} (h : q ∈ tab_0) : q.1 ∈ tab.map (·.1) := List.mem_map_of_mem (by unfold tab; simp only [List.mem_append]; simp only [h, true_or, or_true])
theorem in_1 {q : Ev.Dn × He5.DefA} (h : q ∈ tab_1) : q.1 ∈ tab.map (·.1) := List.mem_map_of_mem (by unfold tab; simp only [List.mem_append]; simp only [h, true_or, or_true])
theorem in_2 {q : Ev.Dn × He5.DefA} (h : q ∈ tab_2) : q.1 ∈ tab.map (·.1) := List.mem_map_of_mem (by unfold tab; simp only [List.mem_append]; simp only [h, true_or, or_true])
theorem in_3 {q : Ev.Dn × He5.DefA} (h : q ∈ tab_3) : q.1 ∈ tab.map (·.1) := List.mem_map_of_mem (by unfold tab; simp only [List.mem_append]; simp only [h, true_or, or_true])
theorem eq_is_integer : T "is_integer" = fDef 1 (dS T t_is_integer.body) := eqT (in_3 (q := (t_is_integer, d_is_integer)) (by unfold tab_3; simp only [List.mem_cons, true_or, or_true]))
theorem eq_is_integer_from : T "is_integer_from" = fDef 3 (dS T t_is_integer_from.body) := eqT (in_3 (q := (t_is_integer_from, d_is_integer_from)) (by unfold tab_3; simp only [List.mem_cons, true_or, or_true]))
theorem eq_is_payoff : T "is_payoff" = fDef 4 (dS T t_is_payoff.body) := eqT (in_3 (q := (t_is_payoff, d_is_payoff)) (by unfold tab_3; simp only [List.mem_cons, true_or, or_true]))
theorem eq_is_any_payoff : T "is_any_payoff" = fDef 3 (dS T t_is_any_payoff.body) := eqT (in_3 (q := (t_is_any_payoff, d_is_any_payoff)) (by unfold tab_3; simp only [List.mem_cons, true_or, or_true]))
theorem eq_check_any_payoff : T "check_any_payoff" = fDef 1 (dS T t_check_any_payoff.body) := eqT (in_3 (q := (t_check_any_payoff, d_check_any_payoff)) (by unfold tab_3; simp only [List.mem_cons, true_or, or_true]))
theorem eq_is_below : T "is_below" = fDef 2 (dS T t_is_below.body) := eqT (in_3 (q := (t_is_below, d_is_below)) (by unfold tab_3; simp only [List.mem_cons, true_or, or_true]))
theorem eq_is_any_fraction : T "is_any_fraction" = fDef 3 (dS T t_is_any_fraction.body) := eqT (in_3 (q := (t_is_any_fraction, d_is_any_fraction)) (by unfold tab_3; simp only [List.mem_cons, true_or, or_true]))
theorem eq_is_ratio : T "is_ratio" = fDef 3 (dS T t_is_ratio.body) := eqT (in_2 (q := (t_is_ratio, d_is_ratio)) (by unfold tab_2; simp only [List.mem_cons, true_or, or_true]))
theorem eq_is_fraction : T "is_fraction" = fDef 1 (dS T t_is_fraction.body) := eqT (in_2 (q := (t_is_fraction, d_is_fraction)) (by unfold tab_2; simp only [List.mem_cons, true_or, or_true]))
theorem eq_is_share : T "is_share" = fDef 1 (dS T t_is_share.body) := eqT (in_2 (q := (t_is_share, d_is_share)) (by unfold tab_2; simp only [List.mem_cons, true_or, or_true]))
theorem eq_ratio : T "ratio" = fDef 3 (dS T t_ratio.body) := eqT (in_2 (q := (t_ratio, d_ratio)) (by unfold tab_2; simp only [List.mem_cons, true_or, or_true]))
theorem eq_plus : T "plus" = fDef 2 (dS T t_plus.body) := eqT (in_2 (q := (t_plus, d_plus)) (by unfold tab_2; simp only [List.mem_cons, true_or, or_true]))
theorem eq_check_chance : T "check_chance" = fDef 5 (dS T t_check_chance.body) := eqT (in_2 (q := (t_check_chance, d_check_chance)) (by unfold tab_2; simp only [List.mem_cons, true_or, or_true]))
theorem eq_total : T "total" = fDef 3 (dS T t_total.body) := eqT (in_2 (q := (t_total, d_total)) (by unfold tab_2; simp only [List.mem_cons, true_or, or_true]))
theorem eq_weighed : T "weighed" = fDef 6 (dS T t_weighed.body) := eqT (in_2 (q := (t_weighed, d_weighed)) (by unfold tab_2; simp only [List.mem_cons, true_or, or_true]))
theorem eq_worth : T "worth" = fDef 2 (dS T t_worth.body) := eqT (in_2 (q := (t_worth, d_worth)) (by unfold tab_2; simp only [List.mem_cons, true_or, or_true]))
theorem eq__law_jar : T "_law_jar" = fDef 5 (dS T t__law_jar.body) := eqT (in_2 (q := (t__law_jar, d__law_jar)) (by unfold tab_2; simp only [List.mem_cons, true_or, or_true]))
theorem eq__law_dip : T "_law_dip" = fDef 3 (dS T t__law_dip.body) := eqT (in_1 (q := (t__law_dip, d__law_dip)) (by unfold tab_1; simp only [List.mem_cons, true_or, or_true]))
theorem eq__law_one_of : T "_law_one_of" = fDef 2 (dS T t__law_one_of.body) := eqT (in_1 (q := (t__law_one_of, d__law_one_of)) (by unfold tab_1; simp only [List.mem_cons, true_or, or_true]))
theorem eq__law_common : T "_law_common" = fDef 2 (dS T t__law_common.body) := eqT (in_1 (q := (t__law_common, d__law_common)) (by unfold tab_1; simp only [List.mem_cons, true_or, or_true]))
theorem eq__law_low : T "_law_low" = fDef 3 (dS T t__law_low.body) := eqT (in_1 (q := (t__law_low, d__law_low)) (by unfold tab_1; simp only [List.mem_cons, true_or, or_true]))
theorem eq__law_plus : T "_law_plus" = fDef 2 (dS T t__law_plus.body) := eqT (in_1 (q := (t__law_plus, d__law_plus)) (by unfold tab_1; simp only [List.mem_cons, true_or, or_true]))
theorem eq__law_times : T "_law_times" = fDef 2 (dS T t__law_times.body) := eqT (in_1 (q := (t__law_times, d__law_times)) (by unfold tab_1; simp only [List.mem_cons, true_or, or_true]))
theorem eq__law_less : T "_law_less" = fDef 2 (dS T t__law_less.body) := eqT (in_1 (q := (t__law_less, d__law_less)) (by unfold tab_1; simp only [List.mem_cons, true_or, or_true]))
theorem eq__law_minus : T "_law_minus" = fDef 1 (dS T t__law_minus.body) := eqT (in_1 (q := (t__law_minus, d__law_minus)) (by unfold tab_1; simp only [List.mem_cons, true_or, or_true]))
theorem eq__law_worth : T "_law_worth" = fDef 4 (dS T t__law_worth.body) := eqT (in_1 (q := (t__law_worth, d__law_worth)) (by unfold tab_1; simp only [List.mem_cons, true_or, or_true]))
theorem eq__law_payoff : T "_law_payoff" = fDef 5 (dS T t__law_payoff.body) := eqT (in_1 (q := (t__law_payoff, d__law_payoff)) (by unfold tab_1; simp only [List.mem_cons, true_or, or_true]))
theorem eq__law_chance : T "_law_chance" = fDef 7 (dS T t__law_chance.body) := eqT (in_0 (q := (t__law_chance, d__law_chance)) (by unfold tab_0; simp only [List.mem_cons, true_or, or_true]))
theorem eq__law_is_int : T "_law_is_int" = fDef 3 (dS T t__law_is_int.body) := eqT (in_0 (q := (t__law_is_int, d__law_is_int)) (by unfold tab_0; simp only [List.mem_cons, true_or, or_true]))
theorem eq__law_is_pair : T "_law_is_pair" = fDef 3 (dS T t__law_is_pair.body) := eqT (in_0 (q := (t__law_is_pair, d__law_is_pair)) (by unfold tab_0; simp only [List.mem_cons, true_or, or_true]))
theorem eq__law_is_gain : T "_law_is_gain" = fDef 4 (dS T t__law_is_gain.body) := eqT (in_0 (q := (t__law_is_gain, d__law_is_gain)) (by unfold tab_0; simp only [List.mem_cons, true_or, or_true]))
theorem eq__law_chance_fault : T "_law_chance_fault" = fDef 4 (dS T t__law_chance_fault.body) := eqT (in_0 (q := (t__law_chance_fault, d__law_chance_fault)) (by unfold tab_0; simp only [List.mem_cons, true_or, or_true]))
theorem eq__law_sort : T "_law_sort" = fDef 6 (dS T t__law_sort.body) := eqT (in_0 (q := (t__law_sort, d__law_sort)) (by unfold tab_0; simp only [List.mem_cons, true_or, or_true]))
theorem eq__law_odd : T "_law_odd" = fDef 2 (dS T t__law_odd.body) := eqT (in_0 (q := (t__law_odd, d__law_odd)) (by unfold tab_0; simp only [List.mem_cons, true_or, or_true]))
theorem eq__law_bent_chance : T "_law_bent_chance" = fDef 6 (dS T t__law_bent_chance.body) := eqT (in_0 (q := (t__law_bent_chance, d__law_bent_chance)) (by unfold tab_0; simp only [List.mem_cons, true_or, or_true]))
theorem eq__law_right : T "_law_right" = fDef 13 (dS T t__law_right.body) := eqT (in_0 (q := (t__law_right, d__law_right)) (by unfold tab_0; simp only [List.mem_cons, true_or, or_true]))
theorem eq_law : T "law" = fDef 3 (dS T t_law.body) := eqT (in_0 (q := (t_law, d_law)) (by unfold tab_0; simp only [List.mem_cons, true_or, or_true]))
end L06
end
section
set_option Elab.async false
open PySem Ev L2
namespace L06
theorem j0 : La.J0 T where
  common := eq__law_common
  low := eq__law_low
  plus := eq__law_plus
  times := eq__law_times
  dip := eq__law_dip
  one_of := eq__law_one_of
  worth := eq__law_worth
  payoff := eq__law_payoff
  chance := eq__law_chance
theorem kh : Lb.Kh T where
  is_integer := eq_is_integer
  is_integer_from := eq_is_integer_from
  is_any_fraction := eq_is_any_fraction
  is_ratio := eq_is_ratio
  is_payoff := eq_is_payoff
  is_fraction := eq_is_fraction
  is_share := eq_is_share
  is_below := eq_is_below
  ratio := eq_ratio
  plus := eq_plus
  total := eq_total
  weighed := eq_weighed
  check_chance := eq_check_chance
  is_any_payoff := eq_is_any_payoff
  check_any_payoff := eq_check_any_payoff
  worth := eq_worth
theorem kl : Lb.Kl T where
  less := eq__law_less
  minus := eq__law_minus
  is_int := eq__law_is_int
  is_pair := eq__law_is_pair
  is_gain := eq__law_is_gain
  chance_fault := eq__law_chance_fault
end L06
theorem PySem.Challenge.cw_softchances_k06_whole_worths_at_chances_holds : PySem.Challenge.rw_softchances_k06_whole_worths_at_chances.Holds := by
  exact L06.holds fun _ hl _ => Lb.law06 L06.kh L06.j0 L06.kl L06.eq__law_sort L06.eq__law_odd L06.eq__law_bent_chance L06.eq_law L06.eq__law_jar L06.eq__law_right hl
end
