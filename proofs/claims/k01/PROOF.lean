import PyProof.Rows.All
import Wide.All
import OpenK.AllK
import Wide.FinOn
import HandS.ForMost
import HandS.Exc
import HandS.TryOnly
import HandS.ExcOwn
import HandS.WordsExc
import HandS.IsInst
import HandS.Wide
import HandS.WideBits
import HandS.Flow
import HandS.GenList
import HandS.Defaults
import HandS.HotCalls
import HandS.ExcIs
import HandS.TupAny
import HandS.Zip
import HandS.SetKeys
import HandS.Conv
import HandS.EndBits
import HandS.Walk
import KE.KDictZip
import KE.GoesEnum
import HandS.SuiteRaise
import HandS.Deep
import PyProof.DictUpdate
import KE.DataFind
import HandS.Hot
import HandS.DictComp
import HandS.CallSlots
import HandS.More
import HandS.Style
import HandS.Star
import PySem.Challenge.RW_mixtrees_k01_trees
set_option Elab.async false
set_option maxRecDepth 100000
namespace Mx
open PySem L2
def top (i : Nat) : Stmt := PySem.Challenge.pw_mixtrees_k01_trees.main.body.getD i (.Pass ⟨0, 0, 0, 0⟩)
abbrev s_wall : Stmt := top 0
abbrev sIsTree : Stmt := top 20
abbrev sFeedsOf : Stmt := top 21
abbrev s_together : Stmt := top 22
abbrev s_fair : Stmt := top 23
abbrev s_plain : Stmt := top 24
abbrev s_restricted : Stmt := top 25
abbrev s_is_number : Stmt := top 26
abbrev sIsWhole : Stmt := top 27
abbrev sReqTree : Stmt := top 28
abbrev s_require_name : Stmt := top 29
abbrev s_require_names : Stmt := top 30
abbrev sHasShape : Stmt := top 31
abbrev sIsWP : Stmt := top 32
abbrev sIsName : Stmt := top 33
abbrev sNamesIn : Stmt := top 34
abbrev s_without_single_parts : Stmt := top 35
abbrev s_without_other_feeds : Stmt := top 36
abbrev sMixed : Stmt := top 40
abbrev sWalk : Stmt := top 41
abbrev sReqLen : Stmt := top 42
abbrev s_first_names : Stmt := top 43
abbrev sFeedC : Stmt := top 44
abbrev sMixC : Stmt := top 45
abbrev sSourceOf : Stmt := top 46
abbrev s_place_of : Stmt := top 48
abbrev s_item_at : Stmt := top 49
abbrev s_counts_in : Stmt := top 50
abbrev s_require_item : Stmt := top 51
abbrev s_lengths_by_name : Stmt := top 52
abbrev s_part_with : Stmt := top 53
abbrev s_total_in : Stmt := top 54
abbrev s_place_in : Stmt := top 55
abbrev s_turns_of : Stmt := top 56
abbrev s_taken_in_rounds : Stmt := top 57
abbrev s_counts_of_feeds : Stmt := top 58
abbrev s_counts_of_parts : Stmt := top 59
abbrev s_whole_rounds : Stmt := top 60
abbrev s_period : Stmt := top 62
abbrev s_period_of : Stmt := top 63
abbrev s_common_divisor : Stmt := top 64
abbrev s_same_always : Stmt := top 67
abbrev s_difference : Stmt := top 68
abbrev s_choices : Stmt := top 69
abbrev s_lengths_with : Stmt := top 70
abbrev s_lengths_for : Stmt := top 73
abbrev s_require_seen : Stmt := top 74
abbrev s_times_seen : Stmt := top 75
abbrev s_begins_with : Stmt := top 76
abbrev s_agrees : Stmt := top 77
abbrev s_Mixer : Stmt := top 79
abbrev sLSource : Stmt := top 81
abbrev sPick : Stmt := top 82
abbrev s_law_is_bool : Stmt := top 83
abbrev s_law_any_value : Stmt := top 84
abbrev s_law_variant : Stmt := top 85
abbrev s_law_is_integer : Stmt := top 86
abbrev sErrName : Stmt := top 87
abbrev sPart : Stmt := top 88
abbrev sMixNames : Stmt := top 89
abbrev sTree : Stmt := top 90
abbrev sLNames : Stmt := top 91
abbrev s_law_is_part : Stmt := top 92
abbrev s_law_is_tree : Stmt := top 93
abbrev sOutcome : Stmt := top 94
abbrev s_law_together : Stmt := top 95
abbrev s_law_fair : Stmt := top 96
abbrev sLaw : Stmt := top 97
/-- what the names that no text binds mean: the built-ins -/
structure Blt (mg : Str → Option Value) : Prop where
  len : mg "len" = none
  isinstance : mg "isinstance" = none
  int : mg "int" = none
  str : mg "str" = none
  bool : mg "bool" = none
  tuple : mg "tuple" = none
  list : mg "list" = none
  dict : mg "dict" = none
  zip : mg "zip" = none
  set : mg "set" = none
  all : mg "all" = none
  any : mg "any" = none
  range : mg "range" = none
  sum : mg "sum" = none
  max : mg "max" = none
  min : mg "min" = none
  valueError : mg "ValueError" = none
  enumerate : mg "enumerate" = none
/-- a source of draws: three ints -/
def SrcO (o : HO) : Prop := ∃ x y p : Int, o = .lst [.int x, .int y, .int p] ∧ 0 ≤ x ∧ 0 ≤ y ∧ y ≤ 4294967296 ∧ 0 < p ∧ p ≤ 2147483647
def spPick : Sp := fun vs H Q _ => ∃ (a : Addr) (n : Int) (o : HO), vs = [.ref a, .int n] ∧ H a = some o ∧ SrcO o ∧ 0 < n ∧ n < 4611686018427387904 ∧
  ∀ (d : Int) (o' : HO), 0 ≤ d → d < n → SrcO o' → Q (.int d) (upd H a o')
def spLSource (K : PySem.W.Frag) : Sp := fun vs H Q _ => ∃ (a : Addr) (ns : List Int) (j : Int), vs = [.ref a, .int j] ∧ SqL K H a (ns.map V.int) ∧ 0 ≤ j ∧ j ≤ 63 ∧
  ∀ (p : Addr) (o : HO), H p = none → SrcO o → ∀ H', Same H H' → H' p = some o → Q (.ref p) H'
end Mx
set_option Elab.async false
set_option maxRecDepth 100000
namespace Mx
open PySem L2
/-- a def of the top as its callers know it -/
structure Def (K : PySem.W.Frag) (mg : Str → Option Value) (x : Str) (st : Stmt) (ps : List Str) (f : Addr) (fd : FuncData) : Prop where
  fn : Fun K x x st f fd
  mg : mg x = some (.ref f)
  b : Binds K fd ps []
/-- all that was tracked is as it was, but for what stands at a -/
def But (a : Addr) (H H' : Hp) : Prop := ∀ b o, H b = some o → b ≠ a → H' b = some o
theorem But.refl {a : Addr} {H : Hp} : But a H H := fun _ _ e _ => e
theorem But.trans {a : Addr} {H H1 H2 : Hp} (x : But a H H1) (y : But a H1 H2) : But a H H2 := fun b o e n => y b o (x b o e n) n
theorem But.of {a : Addr} {H H' : Hp} (x : Same H H') : But a H H' := fun b o e _ => x b o e
theorem But.upd {a : Addr} {H H' : Hp} {o : HO} (x : But a H H') : But a H (upd H' a o) := fun b u e n => by rw [upd_ne n]; exact x b u e n
theorem But.new {a p : Addr} {H H' : Hp} {o : HO} (x : But a H H') (np : H' p = none) : But a H (L2.upd H' p o) := fun b u e n => by rw [upd_ne (ne_of_none (x b u e n) np)]; exact x b u e n
theorem Same.new {p : Addr} {H H' : Hp} {o : HO} (x : Same H H') (np : H' p = none) : Same H (L2.upd H' p o) := fun b u e => by rw [upd_ne (ne_of_none (x b u e) np)]; exact x b u e
/-- writing to what was not there before -/
theorem Same.own {p : Addr} {H H' : Hp} {o : HO} (x : Same H H') (np : H p = none) : Same H (L2.upd H' p o) := fun b u e => by rw [upd_ne (ne_of_none e np)]; exact x b u e
theorem But.own {a p : Addr} {H H' : Hp} {o : HO} (x : But a H H') (np : H p = none) : But a H (L2.upd H' p o) := fun b u e n => by rw [upd_ne (ne_of_none e np)]; exact x b u e n
theorem Same.but {a : Addr} {H H1 H2 : Hp} (x : Same H H1) (na : H a = none) (y : But a H1 H2) : Same H H2 := fun b o e => y b o (x b o e) (ne_of_none e na)
theorem none_of_upd {H : Hp} {p q : Addr} {o : HO} (h : L2.upd H p o q = none) : H q = none := by
  by_cases e : q = p
  · rw [e, upd_same] at h; cases h
  · rw [upd_ne e] at h; exact h
theorem But.free {a p : Addr} {H H' : Hp} (x : But a H H') (np : H' p = none) (h : p ≠ a) : H p = none := by
  cases q : H p with
  | none => rfl
  | some o => rw [x p o q h] at np; cases np
theorem Same.none {H H' : Hp} {p : Addr} (x : Same H H') (np : H' p = none) : H p = none := x.free np
/-! ### names -/
def U : List Str := ["a", "b", "c", "dd", "e", "fee", "g", "h"]
theorem U_nd : U.Nodup := by decide +kernel
theorem U_ok : ∀ x ∈ U, PyData.canLay0 (.str x) = true := by decide +kernel
structure NamesOk (ns : List Str) : Prop where
  nd : ns.Nodup
  mem : ∀ x ∈ ns, x ∈ U
  len : ns.length ≤ 8
theorem strs_dp {K : PySem.W.Frag} {H : Hp} : ∀ ns : List Str, DpAll K H (ns.map V.str) (ns.map PyData.str)
  | [] => .nil
  | n :: r => .cons (.str n) (strs_dp r)
theorem strs_can : ∀ {ns : List Str}, (∀ x ∈ ns, x ∈ U) → PyData.canLayAll0 (ns.map PyData.str) = true
  | [], _ => by simp [PyData.canLayAll0]
  | n :: r, h => by
    rw [List.map_cons, PyData.canLayAll0, U_ok n (h n List.mem_cons_self), strs_can fun x hx => h x (List.mem_cons_of_mem _ hx)]
    rfl
theorem strs_depth : ∀ ns : List Str, PyData.depthAll (ns.map PyData.str) = 0
  | [] => by simp [PyData.depthAll]
  | n :: r => by rw [List.map_cons, PyData.depthAll, strs_depth r, PyData.depth]; rfl
theorem strs_shaped {ns : List Str} (h : ∀ x ∈ ns, x ∈ U) : SeqAt.shaped (.list (ns.map PyData.str)) = true := by
  unfold SeqAt.shaped
  rw [PyData.canLay0, strs_can h, PyData.depth, strs_depth]
  decide
theorem nil_shaped : SeqAt.shaped (.list []) = true := by decide
theorem eqv_nil (ns : List Str) : PyData.eqv (.list (ns.map PyData.str)) (.list []) = decide (ns = []) := by
  cases ns with
  | nil => rw [PyData.eqv]; rfl
  | cons n r => rw [List.map_cons, PyData.eqv, PyData.eqvAll]; rfl
/-! ### trees -/
inductive Tr where
  | feed (s : Str)
  | mix (ps : List (Int × Tr))
mutual
def Tr.names : Tr → List Str
  | .feed s => [s]
  | .mix ps => Tr.namesL ps
def Tr.namesL : List (Int × Tr) → List Str
  | [] => []
  | (_, t) :: r => t.names ++ Tr.namesL r
end
theorem Tr.namesL_eq : ∀ ps : List (Int × Tr), Tr.namesL ps = (ps.map fun p => p.2.names).flatten
  | [] => by rw [Tr.namesL]; rfl
  | (w, t) :: r => by rw [Tr.namesL, Tr.namesL_eq r]; rfl
theorem Tr.names_mix (ps : List (Int × Tr)) : (Tr.mix ps).names = (ps.map fun p => p.2.names).flatten := by rw [Tr.names, Tr.namesL_eq]
theorem Tr.names_feed (s : Str) : (Tr.feed s).names = [s] := by rw [Tr.names]
/-- at most d mixers, one within another; weights and parts as they may be -/
def Tr.wf : Nat → Tr → Prop
  | _, .feed _ => True
  | 0, .mix _ => False
  | d + 1, .mix ps => ps ≠ [] ∧ ps.length ≤ 5 ∧ ∀ p ∈ ps, 1 ≤ p.1 ∧ p.1 ≤ 9 ∧ Tr.wf d p.2
/-- v is a tuple (or text) that is this tree -/
def TrAt (K : PySem.W.Frag) (H : Hp) : Nat → V → Tr → Prop
  | _, v, .feed s => v = .str s
  | 0, _, .mix _ => False
  | d + 1, v, .mix ps => ∃ (a : Addr) (xs : List V), v = .ref a ∧ SqT K H a xs ∧ xs.length = ps.length ∧
      ∀ (j : Nat) (x : V) (p : Int × Tr), xs[j]? = some x → ps[j]? = some p → ∃ (b : Addr) (y : V), x = .ref b ∧ SqT K H b [.int p.1, y] ∧ TrAt K H d y p.2
theorem TrAt.keep {K : PySem.W.Frag} {H H' : Hp} (h : ∀ a xs, SqT K H a xs → SqT K H' a xs) : ∀ (d : Nat) {v : V} {t : Tr}, TrAt K H d v t → TrAt K H' d v t
  | 0, v, .feed s, q => by unfold TrAt at q ⊢; exact q
  | 0, v, .mix ps, q => by unfold TrAt at q; exact q.elim
  | d + 1, v, .feed s, q => by unfold TrAt at q ⊢; exact q
  | d + 1, v, .mix ps, q => by
    unfold TrAt at q ⊢
    obtain ⟨a, xs, e, hs, hl, hj⟩ := q
    refine ⟨a, xs, e, h _ _ hs, hl, fun j x p hx hp => ?_⟩
    obtain ⟨b, y, e1, h1, h2⟩ := hj j x p hx hp
    exact ⟨b, y, e1, h _ _ h1, TrAt.keep h d h2⟩
theorem sqT_but {K : PySem.W.Frag} {H H' : Hp} {a : Addr} {l : List V} (e : H a = some (.lst l)) (b : But a H H') : ∀ c xs, SqT K H c xs → SqT K H' c xs := by
  intro c xs h
  rcases h with (h | ⟨o, h⟩) | h
  · exact .inl (.inl (b c _ h (ne_of h e (by intro z; cases z))))
  · exact .inl (.inr ⟨o, b c _ h (ne_of h e (by intro z; cases z))⟩)
  · exact .inr h
theorem sqT_same {K : PySem.W.Frag} {H H' : Hp} (b : Same H H') : ∀ c xs, SqT K H c xs → SqT K H' c xs := by
  intro c xs h
  rcases h with (h | ⟨o, h⟩) | h
  · exact .inl (.inl (b c _ h))
  · exact .inl (.inr ⟨o, b c _ h⟩)
  · exact .inr h
theorem TrAt.mono {K : PySem.W.Frag} {H : Hp} : ∀ (d e : Nat) {v : V} {t : Tr}, d ≤ e → TrAt K H d v t → TrAt K H e v t
  | 0, e, v, .feed s, _, q => by unfold TrAt at q ⊢; exact q
  | 0, e, v, .mix ps, _, q => by unfold TrAt at q; exact q.elim
  | d + 1, e, v, .feed s, _, q => by unfold TrAt at q ⊢; exact q
  | d + 1, 0, v, .mix ps, h, q => by omega
  | d + 1, e + 1, v, .mix ps, h, q => by
    unfold TrAt at q ⊢
    obtain ⟨a, xs, e0, hs, hl, hj⟩ := q
    refine ⟨a, xs, e0, hs, hl, fun j x p hx hp => ?_⟩
    obtain ⟨b, y, e1, h1, h2⟩ := hj j x p hx hp
    exact ⟨b, y, e1, h1, TrAt.mono d e (by omega) h2⟩
def KeepT (K : PySem.W.Frag) (H H' : Hp) : Prop := ∀ c xs, SqT K H c xs → SqT K H' c xs
theorem KeepT.refl {K : PySem.W.Frag} {H : Hp} : KeepT K H H := fun _ _ h => h
theorem KeepT.trans {K : PySem.W.Frag} {H H1 H2 : Hp} (a : KeepT K H H1) (b : KeepT K H1 H2) : KeepT K H H2 := fun c xs h => b c xs (a c xs h)
theorem KeepT.lst {K : PySem.W.Frag} {H : Hp} {a : Addr} {l : List V} {o : HO} (e : H a = some (.lst l)) : KeepT K H (L2.upd H a o) := sqT_but e (But.refl.upd)
theorem KeepT.new {K : PySem.W.Frag} {H : Hp} {a : Addr} {o : HO} (e : H a = none) : KeepT K H (L2.upd H a o) := sqT_same (Same.new (Same.refl _) e)
theorem KeepT.src {K : PySem.W.Frag} {H : Hp} {a : Addr} {o o' : HO} (e : H a = some o) (s : SrcO o) : KeepT K H (L2.upd H a o') := by
  obtain ⟨_, _, _, rfl, _⟩ := s
  exact KeepT.lst e
theorem KeepT.but {K : PySem.W.Frag} {H H' : Hp} {a : Addr} {o : HO} (e : H a = some o) (s : SrcO o) (b : But a H H') : KeepT K H H' := by
  obtain ⟨_, _, _, rfl, _⟩ := s
  exact sqT_but e b
def PsAt (K : PySem.W.Frag) (H : Hp) (d : Nat) (xs : List V) (ps : List (Int × Tr)) : Prop := xs.length = ps.length ∧
  ∀ (j : Nat) (x : V) (p : Int × Tr), xs[j]? = some x → ps[j]? = some p → ∃ (b : Addr) (y : V), x = .ref b ∧ SqT K H b [.int p.1, y] ∧ TrAt K H d y p.2
theorem TrAt_mix {K : PySem.W.Frag} {H : Hp} {d : Nat} {v : V} {ps : List (Int × Tr)} : TrAt K H (d + 1) v (.mix ps) ↔ ∃ (a : Addr) (xs : List V), v = .ref a ∧ SqT K H a xs ∧ PsAt K H d xs ps := by
  constructor
  · intro h
    unfold TrAt at h
    obtain ⟨a, xs, e, h1, h2, h3⟩ := h
    exact ⟨a, xs, e, h1, h2, h3⟩
  · rintro ⟨a, xs, e, h1, h2, h3⟩
    unfold TrAt
    exact ⟨a, xs, e, h1, h2, h3⟩
theorem TrAt_feed {K : PySem.W.Frag} {H : Hp} {d : Nat} {v : V} {s : Str} : TrAt K H d v (.feed s) ↔ v = .str s := by
  cases d <;> (unfold TrAt; exact Iff.rfl)
theorem TrAt_zero {K : PySem.W.Frag} {H : Hp} {v : V} {ps : List (Int × Tr)} : ¬ TrAt K H 0 v (.mix ps) := by
  intro h; unfold TrAt at h; exact h
theorem PsAt.nil {K : PySem.W.Frag} {H : Hp} {d : Nat} : PsAt K H d [] [] := ⟨rfl, fun j x p h => by simp at h⟩
theorem PsAt.keep {K : PySem.W.Frag} {H H' : Hp} {d : Nat} {xs : List V} {ps : List (Int × Tr)} (h : ∀ a xs, SqT K H a xs → SqT K H' a xs) (q : PsAt K H d xs ps) : PsAt K H' d xs ps :=
  ⟨q.1, fun j x p hx hp => by
    obtain ⟨b, y, e1, h1, h2⟩ := q.2 j x p hx hp
    exact ⟨b, y, e1, h _ _ h1, TrAt.keep h d h2⟩⟩
theorem PsAt.snoc {K : PySem.W.Frag} {H : Hp} {d : Nat} {xs : List V} {ps : List (Int × Tr)} {b : Addr} {y : V} {p : Int × Tr} (q : PsAt K H d xs ps) (h1 : SqT K H b [.int p.1, y]) (h2 : TrAt K H d y p.2) : PsAt K H d (xs ++ [.ref b]) (ps ++ [p]) := by
  refine ⟨by rw [List.length_append, List.length_append, q.1]; rfl, fun j x p' hx hp => ?_⟩
  by_cases hj : j < xs.length
  · rw [List.getElem?_append_left hj] at hx
    rw [List.getElem?_append_left (by rw [← q.1]; exact hj)] at hp
    exact q.2 j x p' hx hp
  · rw [List.getElem?_append_right (by omega)] at hx
    rw [List.getElem?_append_right (by rw [← q.1]; omega), ← q.1] at hp
    cases e : j - xs.length with
    | zero =>
      rw [e] at hx hp
      cases hx
      cases hp
      exact ⟨b, y, rfl, h1, h2⟩
    | succ m => rw [e] at hx; simp at hx
def pre (sp : Nat → Sp) : Nat → Sp
  | 0 => fun _ _ _ _ => False
  | d + 1 => sp d
end Mx
set_option Elab.async false
set_option maxRecDepth 100000
set_option linter.all false
/-! words and lemmas that know no law -/
namespace Mx
open PySem L2
/-- a tree that the law draws -/
structure TreeOk (t : Tr) : Prop where
  wf : t.wf 4
  nd : t.names.Nodup
  mem : ∀ x ∈ t.names, x ∈ U
  len : t.names.length ≤ 8
  ne : t.names ≠ []
def spTree (K : PySem.W.Frag) : Sp := fun vs H Q _ => ∃ (a : Addr) (m top : Int) (o : HO), vs = [.ref a, .int m, .int top] ∧ H a = some o ∧ SrcO o ∧ 1 ≤ m ∧ m ≤ 8 ∧ 1 ≤ top ∧ top ≤ 9 ∧
  ∀ (v : V) (t : Tr) (o' : HO) (H' : Hp), But a H H' → H' a = some o' → SrcO o' → TrAt K H' 4 v t → TreeOk t → (t.names.length : Int) ≤ m → Q v H'
def spNames (K : PySem.W.Frag) (d : Nat) : Sp := fun vs H Q _ => ∃ (v : V) (t : Tr), vs = [v] ∧ TrAt K H d v t ∧ t.wf d ∧ t.names.length ≤ 1000 ∧
  ∀ (p : Addr) (H' : Hp), Same H H' → H p = none → H' p = some (.lst (t.names.map V.str)) → Q (.ref p) H'
section
variable {P : Program} {w : World} {K : PySem.W.Frag} {mg : Str → Option Value} {base : Heap}
theorem cut_to {xs : List V} {j : Nat} (h : j ≤ xs.length) : cutV xs none (some (j : Int)) = xs.take j := by
  unfold cutV
  have e1 : HT.sIx xs.length 0 none = 0 := rfl
  have e2 : HT.sIx xs.length xs.length (some (j : Int)) = j := by
    unfold HT.sIx
    simp only []
    split <;> omega
  rw [e1, e2]
  simp
theorem cut_from {xs : List V} {j : Nat} (h : j ≤ xs.length) : cutV xs (some (j : Int)) none = xs.drop j := by
  unfold cutV
  rw [HT.sIx_nat, HT.sIx_none, Nat.min_eq_left h, List.take_of_length_le (by rw [List.length_drop]; exact Nat.le_refl _)]
theorem take_succ_of {α : Type} {l : List α} {i : Nat} {x : α} (h : l[i]? = some x) : l.take (i + 1) = l.take i ++ [x] := by
  rw [List.take_add_one, h]
  rfl
theorem mem_eraseIdx {α : Type} {l : List α} {k : Nat} {x : α} (h : x ∈ l.eraseIdx k) : x ∈ l := (List.eraseIdx_sublist l k).mem h
theorem map_eraseIdx {α β : Type} (f : α → β) : ∀ (l : List α) (k : Nat), (l.map f).eraseIdx k = (l.eraseIdx k).map f
  | [], _ => rfl
  | a :: r, 0 => rfl
  | a :: r, k + 1 => by
    show f a :: (r.map f).eraseIdx k = f a :: (r.eraseIdx k).map f
    rw [map_eraseIdx f r k]
theorem erase_perm {α : Type} : ∀ (l : List α) (k : Nat) (h : k < l.length), l.Perm (l[k] :: l.eraseIdx k)
  | a :: r, 0, h => by simp
  | a :: r, k + 1, h => by
    have hk : k < r.length := by simpa using h
    have ih := erase_perm r k hk
    show (a :: r).Perm (r[k] :: a :: r.eraseIdx k)
    exact (ih.cons a).trans (List.Perm.swap _ _ _)
theorem seqIx {d : Int} {n : Nat} (h0 : 0 ≤ d) (h1 : d < n) : seqIndex? d n = some d.toNat := by
  unfold seqIndex?
  simp
  omega
theorem U8 {α : Type} (f : Str → α) : [f "a", f "b", f "c", f "dd", f "e", f "fee", f "g", f "h"] = U.map f := rfl
theorem tyx_tup {H : Hp} {a : Addr} {xs : List V} (h : SqT K H a xs) : TyX K H (.ref a) (.type "tuple") := by
  rcases h with (h | ⟨o, h⟩) | ⟨o, its, n, h1, h2, _⟩
  · exact .base (.tup h)
  · exact .fTuple h
  · exact .kTuple h1 h2
theorem flat_len {ps : List (Int × Tr)} {i : Nat} : ((ps.take i).map fun p => p.2.names).flatten.length ≤ ((ps.map fun p => p.2.names).flatten).length := by
  have : ((ps.take i).map fun p => p.2.names).flatten.Sublist ((ps.map fun p => p.2.names).flatten) := by
    rw [List.map_take]
    conv => rhs; rw [← List.take_append_drop i (ps.map fun p => p.2.names), List.flatten_append]
    exact List.sublist_append_left _ _
  exact this.length_le
theorem flat_succ {ps : List (Int × Tr)} {i : Nat} {p : Int × Tr} (h : ps[i]? = some p) : ((ps.take (i + 1)).map fun p => p.2.names).flatten = ((ps.take i).map fun p => p.2.names).flatten ++ p.2.names := by
  rw [take_succ_of h, List.map_append, List.flatten_append, List.map_singleton, List.flatten_singleton]
end
end Mx
set_option Elab.async false
set_option maxRecDepth 100000
set_option linter.all false
/-! tuples put together and cut, whatever object comes of it; calls of what an expression gives -/
namespace Mx
open PySem PySem.Spec PyProof.Rows L2
theorem PsAt.take {K : PySem.W.Frag} {H : Hp} {d : Nat} {xs : List V} {ps : List (Int × Tr)} (q : PsAt K H d xs ps) (i : Nat) : PsAt K H d (xs.take i) (ps.take i) := by
  refine ⟨by rw [List.length_take, List.length_take, q.1], fun j x p hx hp => ?_⟩
  rw [List.getElem?_take] at hx hp
  split at hx
  · rw [if_pos (by assumption)] at hp
    exact q.2 j x p hx hp
  · cases hx
theorem PsAt.drop {K : PySem.W.Frag} {H : Hp} {d : Nat} {xs : List V} {ps : List (Int × Tr)} (q : PsAt K H d xs ps) (i : Nat) : PsAt K H d (xs.drop i) (ps.drop i) := by
  refine ⟨by rw [List.length_drop, List.length_drop, q.1], fun j x p hx hp => ?_⟩
  rw [List.getElem?_drop] at hx hp
  exact q.2 _ x p hx hp
theorem PsAt.mono {K : PySem.W.Frag} {H : Hp} {d e : Nat} {xs : List V} {ps : List (Int × Tr)} (h : d ≤ e) (q : PsAt K H d xs ps) : PsAt K H e xs ps := by
  refine ⟨q.1, fun j x p hx hp => ?_⟩
  obtain ⟨b, y, e1, h1, h2⟩ := q.2 j x p hx hp
  exact ⟨b, y, e1, h1, TrAt.mono d e h h2⟩
theorem PsAt.append {K : PySem.W.Frag} {H : Hp} {d : Nat} {xs ys : List V} {ps qs : List (Int × Tr)} (h : PsAt K H d xs ps) (g : PsAt K H d ys qs) : PsAt K H d (xs ++ ys) (ps ++ qs) := by
  refine ⟨by rw [List.length_append, List.length_append, h.1, g.1], fun j x p hx hp => ?_⟩
  by_cases c : j < xs.length
  · rw [List.getElem?_append_left c] at hx
    rw [List.getElem?_append_left (by rw [← h.1]; exact c)] at hp
    exact h.2 j x p hx hp
  · rw [List.getElem?_append_right (by omega)] at hx
    rw [List.getElem?_append_right (by rw [← h.1]; omega), ← h.1] at hp
    exact g.2 _ x p hx hp
section
variable {X : Cx}
theorem OpR.imp {f : Value → Value → Sem Value} {r r' : R2} (h : OpR X f r) (i : ∀ x y H Q, r' x y H Q → r x y H Q) : OpR X f r' := fun pins s σ H x y v u Q I rx ry q => h pins s σ H x y v u Q I rx ry (i x y H Q q)
theorem SlR.imp {r r' : V → Option Int → Option Int → Hp → VK → Prop} (h : SlR X r) (i : ∀ x lo hi H Q, r' x lo hi H Q → r x lo hi H Q) : SlR X r' := fun pins s σ H x v vl vu lo hi sl Q I rx hs pl pu q => h pins s σ H x v vl vu lo hi sl Q I rx hs pl pu (i x lo hi H Q q)
/-- f(e, ..), f what an expression gives -/
def tCallX (f : Addr) (sp : Sp) (E : L2.St → XK) (tf : TE) (t : TA) : TE := fun σ H Q => tf σ H fun y H1 => y = .ref f ∧ t σ H1 fun vs H2 => sp vs H2 Q (E σ)
theorem pe_callX {CX : CXT} {k : Nat} {f : Addr} {fd : FuncData} {ps : List Str} {sp : Sp} {E : L2.St → XK} {fe e : Expr} {es : List Expr} {tf : TE} {t : TA} {pos : PySem.Pos} (hf : PE X fe tf) (F : FnOk X.prog X.w X.K X.mg X.base CX k f fd ps sp) (hr : Room k X.A) (hk : PySem.W.keepIn X.K (.ref f) = true) (hb : Binds X.K fd ps [])
    (hx : ∀ σ, PassesAt CX X σ (E σ)) (ha : PA X (e :: es) t)
    (ht : eval (.Call fe (e :: es) [] pos) X.env = (do callWith pos (← eval fe X.env) [] (backTo pos (starEach (e :: es) X.env)) (backToKw pos (keywordEach [] X.env))) := by rfl)
    (he : starEach (e :: es) X.env = (false, eval e X.env) :: starEach es X.env := by rfl) (hpl : (backTo pos (starEach es X.env)).any (·.1) = false := by rfl) : PE X (.Call fe (e :: es) [] pos) (tCallX f sp E tf t) := by
  refine ⟨fun pins s σ H Q I h => ?_⟩
  refine Call_ (thn (hf.run pins s σ H _ I h) fun u s1 ⟨y, H1, I1, ry, ey, q⟩ => ?_) ht
  subst ey
  obtain rfl : u = Value.ref f := ry
  refine PySem.W.callWith_K (h₀ := X.base) I.ok.mod.kin hk (thn (ha.run pos pins s1 σ H1 _ I1 q) fun us s2 ⟨vs, H2, I2, r, q2⟩ => ⟨I2.kIn, ?_⟩) he hpl
  exact run_fnS F hr hb (hx σ) I2 r q2
end
end Mx
set_option Elab.async false
namespace Mx
section
variable {α : Type}
abbrev Rows (α : Type) := List (Nat × List α)
def rnd0 (rows : Rows α) : List α := (rows.map fun p => p.2.take p.1).flatten
def dropw (rows : Rows α) : Rows α := rows.map fun p => (p.1, p.2.drop p.1)
def tot (rows : Rows α) : Nat := (rows.map fun p => p.2.length).sum
def rds : Nat → Rows α → List α
  | 0, _ => []
  | n + 1, rows => rnd0 rows ++ rds n (dropw rows)
def R (rows : Rows α) : List α := rds (tot rows) rows
def Pos (rows : Rows α) : Prop := ∀ p ∈ rows, 1 ≤ p.1
theorem Pos.drop {rows : Rows α} (h : Pos rows) : Pos (dropw rows) := fun p hp => by
  obtain ⟨q, hq, rfl⟩ := List.mem_map.mp hp
  exact h q hq
theorem tot_cons (p : Nat × List α) (r : Rows α) : tot (p :: r) = p.2.length + tot r := by unfold tot; simp
theorem tot_append (a b : Rows α) : tot (a ++ b) = tot a + tot b := by unfold tot; simp
theorem rnd0_cons (p : Nat × List α) (r : Rows α) : rnd0 (p :: r) = p.2.take p.1 ++ rnd0 r := rfl
theorem dropw_cons (p : Nat × List α) (r : Rows α) : dropw (p :: r) = (p.1, p.2.drop p.1) :: dropw r := rfl
theorem len_rnd0 : ∀ rows : Rows α, (rnd0 rows).length + tot (dropw rows) = tot rows
  | [] => rfl
  | p :: r => by
    have ih := len_rnd0 r
    rw [rnd0_cons, dropw_cons, tot_cons, tot_cons, List.length_append, List.length_take, List.length_drop]
    omega
theorem rnd0_pos : ∀ {rows : Rows α}, Pos rows → 0 < tot rows → 0 < (rnd0 rows).length
  | [], _, h => by simp [tot] at h
  | p :: r, hp, h => by
    rw [tot_cons] at h
    rw [rnd0_cons, List.length_append, List.length_take]
    have h1 := hp p List.mem_cons_self
    rcases Nat.eq_zero_or_pos p.2.length with z | z
    · have := rnd0_pos (rows := r) (fun q hq => hp q (List.mem_cons_of_mem _ hq)) (by omega)
      omega
    · omega
theorem tot_dropw {rows : Rows α} (hp : Pos rows) (h : 0 < tot rows) : tot (dropw rows) < tot rows := by
  have h1 := len_rnd0 rows
  have h2 := rnd0_pos hp h
  omega
theorem tot_dropw_le (rows : Rows α) : tot (dropw rows) ≤ tot rows := by have := len_rnd0 rows; omega
theorem rds_zero : ∀ (n : Nat) {rows : Rows α}, tot rows = 0 → rds n rows = []
  | 0, _, _ => rfl
  | n + 1, rows, h => by
    have h1 := len_rnd0 rows
    have h2 : rnd0 rows = [] := List.length_eq_zero_iff.mp (by omega)
    show rnd0 rows ++ rds n (dropw rows) = []
    rw [h2, rds_zero n (by omega)]
    rfl
theorem rds_stable : ∀ (n m : Nat) {rows : Rows α}, Pos rows → tot rows ≤ n → tot rows ≤ m → rds n rows = rds m rows
  | 0, m, rows, _, h, _ => by rw [rds_zero m (by omega)]; rfl
  | n + 1, 0, rows, _, _, h => by rw [rds_zero (n + 1) (by omega)]; rfl
  | n + 1, m + 1, rows, hp, h1, h2 => by
    show rnd0 rows ++ rds n (dropw rows) = rnd0 rows ++ rds m (dropw rows)
    rcases Nat.eq_zero_or_pos (tot rows) with z | z
    · have := tot_dropw_le rows
      rw [rds_zero n (by omega), rds_zero m (by omega)]
    · have := tot_dropw hp z
      rw [rds_stable n m hp.drop (by omega) (by omega)]
theorem R_unfold {rows : Rows α} (hp : Pos rows) : R rows = rnd0 rows ++ R (dropw rows) := by
  have := tot_dropw_le rows
  have e : R rows = rds (tot rows + 1) rows := rds_stable _ _ hp (Nat.le_refl _) (by omega)
  rw [e]
  show rnd0 rows ++ rds (tot rows) (dropw rows) = _
  rw [rds_stable (tot rows) (tot (dropw rows)) hp.drop this (Nat.le_refl _)]
  rfl
theorem R_zero {rows : Rows α} (h : tot rows = 0) : R rows = [] := rds_zero _ h
theorem len_rds : ∀ (n : Nat) {rows : Rows α}, Pos rows → tot rows ≤ n → (rds n rows).length = tot rows
  | 0, rows, _, h => by show 0 = _; omega
  | n + 1, rows, hp, h => by
    show (rnd0 rows ++ rds n (dropw rows)).length = _
    rw [List.length_append]
    have h1 := len_rnd0 rows
    rcases Nat.eq_zero_or_pos (tot rows) with z | z
    · rw [rds_zero n (by omega)]
      have : (rnd0 rows).length = 0 := by omega
      rw [this, z]
      rfl
    · have := tot_dropw hp z
      rw [len_rds n hp.drop (by omega)]
      exact h1
theorem len_R {rows : Rows α} (hp : Pos rows) : (R rows).length = tot rows := len_rds _ hp (Nat.le_refl _)
/-! ### the law's rounds -/
def dropn (k : Nat) (rows : Rows α) : Rows α := rows.map fun p => (p.1, p.2.drop (p.1 * k))
theorem dropn_zero (rows : Rows α) : dropn 0 rows = rows := by
  unfold dropn
  simp
theorem dropn_pos {rows : Rows α} (h : Pos rows) (k : Nat) : Pos (dropn k rows) := fun p hp => by
  obtain ⟨q, hq, rfl⟩ := List.mem_map.mp hp
  exact h q hq
theorem dropn_succ (k : Nat) (rows : Rows α) : dropn (k + 1) rows = dropw (dropn k rows) := by
  unfold dropn dropw
  rw [List.map_map]
  refine List.map_congr_left fun p _ => ?_
  show (p.1, p.2.drop (p.1 * (k + 1))) = (p.1, (p.2.drop (p.1 * k)).drop p.1)
  rw [List.drop_drop]
  rfl
theorem R_rounds {rows : Rows α} (hp : Pos rows) : ∀ k, ∃ f, R rows = f ++ R (dropn k rows) ∧ f = ((List.range k).map fun j => rnd0 (dropn j rows)).flatten
  | 0 => ⟨[], by rw [dropn_zero]; rfl, rfl⟩
  | k + 1 => by
    obtain ⟨f, h1, h2⟩ := R_rounds hp k
    refine ⟨f ++ rnd0 (dropn k rows), ?_, ?_⟩
    · rw [h1, dropn_succ, List.append_assoc, ← R_unfold (dropn_pos hp k)]
    · rw [List.range_succ, List.map_append, List.flatten_append, h2]
      simp
/-! ### what a mixer that stands at a part, c items within its turn, will give -/
def futS (A : Rows α) (w : Nat) (x : List α) (B : Rows α) (c : Nat) : List α := x.take (w - c) ++ (rnd0 B ++ R (A ++ (w, x.drop (w - c)) :: dropw B))
theorem futS_take {A B : Rows α} {w c : Nat} {y : α} {x : List α} (h : c < w) : futS A w (y :: x) B c = y :: futS A w x B (c + 1) := by
  unfold futS
  rw [show w - c = (w - (c + 1)) + 1 by omega]
  rfl
theorem futS_done {A B : Rows α} {w c : Nat} {x : List α} (h : c = w ∨ x = []) : futS A w x B c = rnd0 B ++ R (A ++ (w, x) :: dropw B) := by
  unfold futS
  rcases h with h | h
  · rw [h, Nat.sub_self]
    rfl
  · subst h
    simp
theorem futS_next {A B : Rows α} {w c v : Nat} {x z : List α} (h : c = w ∨ x = []) : futS A w x ((v, z) :: B) c = futS (A ++ [(w, x)]) v z B 0 := by
  rw [futS_done h, rnd0_cons, dropw_cons]
  unfold futS
  rw [Nat.sub_zero, List.append_assoc, List.append_assoc]
  rfl
theorem futS_start {v : Nat} {z : List α} {B : Rows α} (hp : Pos ((v, z) :: B)) : futS [] v z B 0 = R ((v, z) :: B) := by
  rw [R_unfold hp, rnd0_cons, dropw_cons]
  unfold futS
  rw [Nat.sub_zero, List.append_assoc]
  rfl
theorem futS_wrap {A : Rows α} {w c v : Nat} {x z : List α} {B : Rows α} (h : c = w ∨ x = []) (e : A ++ [(w, x)] = (v, z) :: B) (hp : Pos ((v, z) :: B)) : futS A w x [] c = futS [] v z B 0 := by
  rw [futS_done h, futS_start hp, ← e]
  rfl
theorem futS_len {A B : Rows α} {w c : Nat} {x : List α} (hp : Pos (A ++ (w, x) :: B)) : (futS A w x B c).length = tot (A ++ (w, x) :: B) := by
  unfold futS
  have hp2 : Pos (A ++ (w, x.drop (w - c)) :: dropw B) := fun p hp0 => by
    rcases List.mem_append.mp hp0 with h | h
    · exact hp p (List.mem_append_left _ h)
    · rcases List.mem_cons.mp h with h | h
      · rw [h]; exact hp (w, x) (List.mem_append_right _ List.mem_cons_self)
      · obtain ⟨q, hq, rfl⟩ := List.mem_map.mp h
        exact hp q (List.mem_append_right _ (List.mem_cons_of_mem _ hq))
  rw [List.length_append, List.length_append, len_R hp2, tot_append, tot_append, tot_cons, tot_cons, List.length_take, List.length_drop]
  have := len_rnd0 B
  dsimp only
  omega
/-- the same by the part's place -/
def futI (rows : Rows α) (i c : Nat) : List α := match rows[i]? with
  | none => []
  | some p => futS (rows.take i) p.1 p.2 (rows.drop (i + 1)) c
theorem split_at {β : Type} {l : List β} {i : Nat} {p : β} (h : l[i]? = some p) : l = l.take i ++ p :: l.drop (i + 1) := by
  obtain ⟨hi, rfl⟩ := List.getElem?_eq_some_iff.mp h
  rw [← List.drop_eq_getElem_cons hi, List.take_append_drop]
theorem futI_eq {rows : Rows α} {i c : Nat} {p : Nat × List α} (h : rows[i]? = some p) : futI rows i c = futS (rows.take i) p.1 p.2 (rows.drop (i + 1)) c := by
  unfold futI
  rw [h]
theorem futI_len {rows : Rows α} {i c : Nat} (hp : Pos rows) (hi : i < rows.length) : (futI rows i c).length = tot rows := by
  have h : rows[i]? = some rows[i] := List.getElem?_eq_getElem hi
  rw [futI_eq h, futS_len (by rw [← split_at h]; exact hp), ← split_at h]
theorem futI_take {rows : Rows α} {i c w : Nat} {y : α} {x : List α} (h : rows[i]? = some (w, y :: x)) (hc : c < w) : futI rows i c = y :: futI (rows.set i (w, x)) i (c + 1) := by
  have hi := (List.getElem?_eq_some_iff.mp h).1
  rw [futI_eq h, futI_eq (p := (w, x)) (by rw [List.getElem?_set_self hi])]
  rw [futS_take hc, List.take_set_of_le (Nat.le_refl _), List.drop_set_of_lt (by omega)]
theorem futI_next {rows : Rows α} {i c : Nat} {p : Nat × List α} (hp : Pos rows) (h : rows[i]? = some p) (hc : c = p.1 ∨ p.2 = []) : futI rows i c = futI rows ((i + 1) % rows.length) 0 := by
  have hi := (List.getElem?_eq_some_iff.mp h).1
  rw [futI_eq h]
  by_cases hl : i + 1 < rows.length
  · rw [Nat.mod_eq_of_lt hl]
    have h2 : rows[i + 1]? = some rows[i + 1] := List.getElem?_eq_getElem hl
    rw [futI_eq h2, List.drop_eq_getElem_cons hl]
    rw [futS_next (v := rows[i + 1].1) (z := rows[i + 1].2) hc]
    congr 1
    rw [List.take_add_one, h]
    rfl
  · have e : i + 1 = rows.length := by omega
    rw [e, Nat.mod_self]
    have e2 : rows.drop rows.length = [] := List.drop_length
    rw [e2]
    cases rows with
    | nil => simp at hi
    | cons q r =>
      rw [futI_eq (p := q) rfl]
      refine futS_wrap hc ?_ hp
      have := split_at h
      rw [e, List.drop_length] at this
      exact this.symm
def rnd (k : Nat) (rows : Rows α) : List α := (rows.map fun p => (p.2.drop (p.1 * k)).take p.1).flatten
theorem rnd_eq (k : Nat) (rows : Rows α) : rnd0 (dropn k rows) = rnd k rows := by
  unfold rnd0 dropn rnd
  rw [List.map_map]
  rfl
def rndsTo (k : Nat) (rows : Rows α) : List α := ((List.range k).map fun j => rnd j rows).flatten
theorem rndsTo_succ (k : Nat) (rows : Rows α) : rndsTo (k + 1) rows = rndsTo k rows ++ rnd k rows := by
  unfold rndsTo
  rw [List.range_succ, List.map_append, List.flatten_append]
  simp
theorem R_split {rows : Rows α} (hp : Pos rows) (k : Nat) : R rows = rndsTo k rows ++ R (dropn k rows) := by
  obtain ⟨f, h1, h2⟩ := R_rounds hp k
  rw [h1, h2]
  unfold rndsTo
  rw [List.map_congr_left fun j _ => rnd_eq j rows]
end
end Mx
set_option Elab.async false
set_option maxRecDepth 100000
set_option linter.all false
namespace Mx
open PySem L2
abbrev Item := Str × Nat
mutual
def Tr.out (L : Str → Nat) : Tr → List Item
  | .feed s => (List.range (L s)).map fun i => (s, i)
  | .mix ps => R (Tr.rows L ps)
def Tr.rows (L : Str → Nat) : List (Int × Tr) → Rows Item
  | [] => []
  | (w, t) :: r => (w.toNat, t.out L) :: Tr.rows L r
end
theorem Tr.rows_eq (L : Str → Nat) : ∀ ps : List (Int × Tr), Tr.rows L ps = ps.map fun p => (p.1.toNat, p.2.out L)
  | [] => by rw [Tr.rows]; rfl
  | (w, t) :: r => by rw [Tr.rows, Tr.rows_eq L r]; rfl
theorem Tr.out_mix (L : Str → Nat) (ps : List (Int × Tr)) : (Tr.mix ps).out L = R (ps.map fun p => (p.1.toNat, p.2.out L)) := by rw [Tr.out, Tr.rows_eq]
theorem Tr.out_feed (L : Str → Nat) (s : Str) : (Tr.feed s).out L = (List.range (L s)).map fun i => (s, i) := by rw [Tr.out]
def ItemAt (H : Hp) (x : V) (it : Item) : Prop := ∃ q : Addr, x = .ref q ∧ H q = some (.tup [.str it.1, .int (it.2 : Nat)])
theorem ItemAt.same {H H' : Hp} (h : Same H H') {x : V} {it : Item} (q : ItemAt H x it) : ItemAt H' x it := by
  obtain ⟨a, e, h1⟩ := q
  exact ⟨a, e, h _ _ h1⟩
/-- what a heap keeps of its tuples -/
def KeepU (H H' : Hp) : Prop := ∀ b xs, H b = some (.tup xs) → H' b = some (.tup xs)
theorem KeepU.of {H H' : Hp} (h : Same H H') : KeepU H H' := fun b xs e => h b _ e
theorem KeepU.trans {H H1 H2 : Hp} (a : KeepU H H1) (b : KeepU H1 H2) : KeepU H H2 := fun c xs e => b c xs (a c xs e)
theorem KeepU.lst {H : Hp} {a : Addr} {l : List V} {o : HO} (e : H a = some (.lst l)) : KeepU H (L2.upd H a o) := fun b xs h => by
  rw [upd_ne (ne_of h e (by intro z; cases z))]; exact h
theorem KeepU.new {H : Hp} {a : Addr} {o : HO} (e : H a = none) : KeepU H (L2.upd H a o) := fun b xs h => by
  rw [upd_ne (ne_of_none h e)]; exact h
theorem ItemAt.keep {H H' : Hp} (h : KeepU H H') {x : V} {it : Item} (q : ItemAt H x it) : ItemAt H' x it := by
  obtain ⟨a, e, h1⟩ := q
  exact ⟨a, e, h _ _ h1⟩
abbrev ItemsAt (H : Hp) : List V → List Item → Prop := Paired (ItemAt H)
/-- a row of rows: its weight, its items -/
def RowAt (L : Str → Nat) (D : Addr) (H : Hp) (z : V) (p : Int × Tr) : Prop := ∃ (b rl : Addr) (ys : List V), rl ≠ D ∧ z = .ref b ∧ H b = some (.tup [.int p.1, .ref rl]) ∧ H rl = some (.lst ys) ∧ ItemsAt H ys (p.2.out L)
theorem RowAt.same {L : Str → Nat} {D : Addr} {H H' : Hp} (h : Same H H') {z : V} {p : Int × Tr} (q : RowAt L D H z p) : RowAt L D H' z p := by
  obtain ⟨b, rl, ys, n, e, h1, h2, h3⟩ := q
  exact ⟨b, rl, ys, n, e, h _ _ h1, h _ _ h2, Paired.mapP h3 fun _ _ => ItemAt.same h⟩
def rLenS (K : PySem.W.Frag) : List V → Hp → VK → Prop := fun xs H Q => ∃ p ys, xs = [V.ref p] ∧ (SqL K H p ys ∨ SqT K H p ys) ∧ Q (V.int ((ys.length : Nat) : Int)) H
end Mx
set_option Elab.async false
set_option maxRecDepth 100000
set_option linter.all false
namespace Mx
open PySem L2
/-- the constants of the program's modules -/
structure Cst (mg : Str → Option Value) : Prop where
  longest : ∃ t, mg "LONGEST_NAME" = some (.int 6 t)
  parts : ∃ t, mg "MOST_PARTS" = some (.int 5 t)
  weight : ∃ t, mg "GREATEST_WEIGHT" = some (.int 9 t)
  feeds : ∃ t, mg "MOST_FEEDS" = some (.int 8 t)
  around : ∃ t, mg "MOST_MIXERS_AROUND" = some (.int 3 t)
/-- an int (no bool) from lo to hi -/
def whole (v : V) (lo hi : Int) : Bool := match v with
  | .int i => decide (lo ≤ i) && decide (i ≤ hi)
  | _ => false
def isNum (v : V) : Bool := match v with
  | .int _ => true
  | _ => false
inductive Kind (K : PySem.W.Frag) (H : Hp) : V → Prop
  | int (i : Int) : Kind K H (.int i)
  | bl (b : Bool) : Kind K H (.bl b)
  | str (s : Str) : Kind K H (.str s)
  | non : Kind K H .non
  | lst {a : Addr} {xs : List V} (h : H a = some (.lst xs)) : Kind K H (.ref a)
  | tup {a : Addr} {xs : List V} (h : SqT K H a xs) : Kind K H (.ref a)
def spNum (K : PySem.W.Frag) : Sp := fun vs H Q _ => ∃ (v : V), vs = [v] ∧ Kind K H v ∧ Q (.bl (isNum v)) H
def spWhole (K : PySem.W.Frag) : Sp := fun vs H Q _ => ∃ (v : V) (lo hi : Int), vs = [v, .int lo, .int hi] ∧ Kind K H v ∧ Q (.bl (whole v lo hi)) H
/-- a text that may name a feed -/
def okName (s : Str) : Bool := decide (1 ≤ s.cps.size) && decide (s.cps.size ≤ 6) && s.cps.toList.all fun c => decide (97 ≤ c) && decide (c ≤ 122)
theorem U_name : ∀ x ∈ U, okName x = true := by decide +kernel
def spIsName (K : PySem.W.Frag) : Sp := fun vs H Q _ => ∃ (s : Str), vs = [.str s] ∧ s.cps.size ≤ 1000 ∧ ∀ H', Same H H' → Q (.bl (okName s)) H'
section
variable {P : Program} {w : World} {K : PySem.W.Frag} {mg : Str → Option Value} {base : Heap}
theorem scNum : FnScope ["value"] ["value"] (defScope s_is_number) := ⟨rfl, rfl, rfl, by decide +kernel, rfl, by decide +kernel, by decide +kernel⟩
theorem ok_num {f : Addr} {fd : FuncData} (F : Fun K "is_number" "is_number" s_is_number f fd) (B : Blt mg) : FnOk P w K mg base CX0 1 f fd ["value"] (spNum K) := by
  refine F.ok scNum (fun vs H Q E h => ?_) (fun cdv A outer s H vs Q E hr h => ?_)
  · obtain ⟨v, rfl, _⟩ := h
    rfl
  · obtain ⟨v, rfl, hk, k⟩ := h
    refine ⟨_, pss_one (ps_ret (pe_and (pe_callB call_isi (by rfl) B.isinstance (by decide +kernel) (pa_cons (pv 0) (pa_cons (pe_bltn (v := .ty "int") (by rfl) B.int (by decide +kernel) rfl) pa_nil)))
      (pe_one (pe_not (pe_callB call_isi (by rfl) B.isinstance (by decide +kernel) (pa_cons (pv 0) (pa_cons (pe_bltn (v := .ty "bool") (by rfl) B.bool (by decide +kernel) rfl) pa_nil))))))), ?_⟩
    cases hk with
    | int i =>
      refine ⟨_, rfl, _, _, _, _, true, rfl, .ty _, .base (.int i), kit_ty (by decide +kernel), true, rfl, ?_⟩
      exact ⟨_, rfl, _, _, _, _, false, rfl, .ty _, .base (.int i), kit_ty (by decide +kernel), false, rfl, k⟩
    | bl b =>
      refine ⟨_, rfl, _, _, _, _, true, rfl, .ty _, .base (.bl b), kit_ty (by decide +kernel), true, rfl, ?_⟩
      exact ⟨_, rfl, _, _, _, _, true, rfl, .ty _, .base (.bl b), kit_ty (by decide +kernel), true, rfl, k⟩
    | str x => exact ⟨_, rfl, _, _, _, _, false, rfl, .ty _, .base (.str x), kit_ty (by decide +kernel), false, rfl, k⟩
    | non => exact ⟨_, rfl, _, _, _, _, false, rfl, .ty _, .base .non, kit_ty (by decide +kernel), false, rfl, k⟩
    | lst h => exact ⟨_, rfl, _, _, _, _, false, rfl, .ty _, .base (.lst h), kit_ty (by decide +kernel), false, rfl, k⟩
    | tup h => exact ⟨_, rfl, _, _, _, _, false, rfl, .ty _, tyx_tup h, kit_ty (by decide +kernel), false, rfl, k⟩
theorem scWhole : FnScope ["value", "low", "high"] ["value", "low", "high"] (defScope sIsWhole) := ⟨rfl, rfl, rfl, by decide +kernel, rfl, by decide +kernel, by decide +kernel⟩
theorem ok_whole {f fN : Addr} {fd dN : FuncData} (F : Fun K "is_whole" "is_whole" sIsWhole f fd) (DN : Def K mg "is_number" s_is_number ["value"] fN dN) (GN : FnOk P w K mg base CX0 1 fN dN ["value"] (spNum K)) : FnOk P w K mg base CX0 2 f fd ["value", "low", "high"] (spWhole K) := by
  refine F.ok scWhole (fun vs H Q E h => ?_) (fun cdv A outer s H vs Q E hr h => ?_)
  · obtain ⟨v, lo, hi, rfl, _⟩ := h
    rfl
  · obtain ⟨v, lo, hi, rfl, hk, k⟩ := h
    refine ⟨_, pss_one (ps_ret (pe_and (pe_call GN hr rfl DN.mg DN.fn.kp DN.b .nil pass0 (pa_cons (pv 0) pa_nil))
      (pe_one (pe_chain op_le op_le (pv 1) (pv 0) (pv 2))))), ?_⟩
    refine ⟨_, rfl, v, rfl, hk, ?_⟩
    cases hk with
    | int i =>
      refine ⟨true, rfl, ?_⟩
      refine ⟨_, rfl, _, rfl, _, _, rfl, rfl, _, rfl, ?_⟩
      refine ite2 (fun c => ?_) (fun c => ?_)
      · refine ⟨_, rfl, _, _, rfl, rfl, ?_⟩
        have e : whole (.int i) lo hi = decide (i ≤ hi) := by unfold whole; dsimp only; rw [c]; rfl
        rw [e] at k
        exact k
      · have e : whole (.int i) lo hi = false := by unfold whole; dsimp only; rw [Bool.eq_false_iff.mpr c]; rfl
        rw [e] at k
        exact k
    | bl b => exact ⟨false, rfl, k⟩
    | str x => exact ⟨false, rfl, k⟩
    | non => exact ⟨false, rfl, k⟩
    | lst h => exact ⟨false, rfl, k⟩
    | tup h => exact ⟨false, rfl, k⟩
theorem one_lt (a b : Nat) : (([a] : List Nat) < [b]) ↔ a < b := by
  rw [List.cons_lt_cons_iff]
  constructor
  · rintro (h | ⟨_, h⟩)
    · exact h
    · exact absurd h (List.lt_irrefl _)
  · exact Or.inl
def nIsName : List Str := ["text", "letter"]
theorem scIsName : FnScope nIsName ["text"] (defScope sIsName) := ⟨rfl, rfl, rfl, by decide +kernel, rfl, by decide +kernel, by decide +kernel⟩
theorem ok_isName {f : Addr} {fd : FuncData} (F : Fun K "is_feed_name" "is_feed_name" sIsName f fd) (B : Blt mg) (C : Cst mg) : FnOk P w K mg base CX0 1 f fd ["text"] (spIsName K) := by
  obtain ⟨t6, h6⟩ := C.longest
  refine F.ok scIsName (fun vs H Q E h => ?_) (fun cdv A outer s H vs Q E hr h => ?_)
  · obtain ⟨v, rfl, _⟩ := h
    rfl
  · obtain ⟨z, rfl, hz, k⟩ := h
    refine ⟨_, pss_one (ps_ret (pe_and (pe_chain op_le op_le pe_int (pe_callB call_len_str (by rfl) B.len PySem.boot_len (pa_cons (pv 0) pa_nil)) (pe_glob (v := .int 6) rfl h6 ⟨_, rfl⟩))
      (pe_one (pe_callB (cr_all rfl) (by rfl) B.all (by decide +kernel) (pa_cons
        (pe_lc (own := [("letter", 1)]) (g := gName 1) (tt := tYes) (by rfl) scIsName.nd (pi_str (pv 0)) (blkOk_by (own := [("letter", 1)]) (N := nIsName) (sc := defScope sIsName) (by decide +kernel))
          (fun _ _ _ _ _ => pg_name (i := 1) scIsName.nd rfl (Or.inl rfl)) (fun _ _ _ _ _ => pts_nil)
          (fun _ _ _ _ _ => pe_chain op_le_str op_le_str pe_str (pv 1) pe_str)) pa_nil))))), ?_⟩
    have hzl : z.length = z.cps.size := rfl
    have e0 : ∀ b : Bool, (decide (1 ≤ (z.length : Int)) && decide ((z.length : Int) ≤ 6)) = b → okName z = (b && z.cps.toList.all fun c => decide (97 ≤ c) && decide (c ≤ 122)) := by
      intro b hb
      unfold okName
      rw [← hb, hzl]
      congr 1
      have a1 : decide (1 ≤ z.cps.size) = decide (1 ≤ (z.cps.size : Int)) := by apply decide_eq_decide.mpr; omega
      have a2 : decide (z.cps.size ≤ 6) = decide ((z.cps.size : Int) ≤ 6) := by apply decide_eq_decide.mpr; omega
      rw [a1, a2]
    refine ⟨_, rfl, z, rfl, Nat.le_of_lt (small1000 hz), _, _, rfl, rfl, _, rfl, ?_⟩
    refine ite2 (fun c => ?_) (fun c => ?_)
    · refine ⟨_, _, rfl, rfl, _, rfl, ?_⟩
      refine ite2 (fun c2 => ?_) (fun c2 => ?_)
      · refine ⟨_, rfl, z, rfl, fun D' nD => ?_⟩
        refine lc_it walk_str (fun i H' => Same H H' ∧ ∃ bs : List Bool, H' D' = some (.lst (bs.map V.bl)) ∧ bs.length = i ∧ bs = (z.cps.toList.take i).map fun c => decide (97 ≤ c) && decide (c ≤ 122)) ?_ (fun _ _ _ _ => trivial) ?_ ?_
        · exact ⟨Same.new (Same.refl _) nD, [], upd_same, rfl, rfl⟩
        · rintro i x H' H2 hi ⟨hS, bs, hD, hl, hb⟩ ⟨rfl, cc, hc, rfl⟩
          have hcl : z.cps.toList[i]? = some cc := by rw [Array.getElem?_toList]; exact hc
          refine ⟨rfl, _, rfl, _, _, rfl, rfl, _, rfl, ?_⟩
          have ea : (!decide (([cc] : List Nat) < [97])) = decide (97 ≤ cc) := by
            by_cases h : 97 ≤ cc
            · rw [decide_eq_true h, decide_eq_false (by rw [one_lt]; omega)]; rfl
            · rw [decide_eq_false h, decide_eq_true (by rw [one_lt]; omega)]; rfl
          have ez : (!decide (([122] : List Nat) < [cc])) = decide (cc ≤ 122) := by
            by_cases h : cc ≤ 122
            · rw [decide_eq_true h, decide_eq_false (by rw [one_lt]; omega)]; rfl
            · rw [decide_eq_false h, decide_eq_true (by rw [one_lt]; omega)]; rfl
          have push : ∀ b : Bool, b = (decide (97 ≤ cc) && decide (cc ≤ 122)) → ∃ acc, H2 D' = some (.lst acc) ∧ acc.length < sizeLine ∧ (Same H (upd H2 D' (.lst (acc ++ [.bl b]))) ∧ ∃ bs' : List Bool, (upd H2 D' (.lst (acc ++ [.bl b]))) D' = some (.lst (bs'.map V.bl)) ∧ bs'.length = i + 1 ∧ bs' = (z.cps.toList.take (i + 1)).map fun c => decide (97 ≤ c) && decide (c ≤ 122)) := by
            intro b eb
            refine ⟨_, hD, by rw [List.length_map, hl]; exact small1000 (by omega), Same.own hS nD, bs ++ [b], ?_, ?_, ?_⟩
            · rw [upd_same, List.map_append]; rfl
            · rw [List.length_append, hl]; rfl
            · rw [take_succ_of hcl, List.map_append, hb, eb]; rfl
          refine ite2 (fun c3 => ?_) (fun c3 => ?_)
          · refine ⟨_, _, rfl, rfl, push _ ?_⟩
            have c3' : (!decide (([cc] : List Nat) < [97])) = true := c3
            rw [ea] at c3'
            rw [c3']
            exact ez
          · refine push _ ?_
            have c3' : ¬ (!decide (([cc] : List Nat) < [97])) = true := c3
            rw [ea] at c3'
            rw [Bool.eq_false_iff.mpr c3']
            rfl
        · rintro H' ⟨hS, bs, hD, hl, hb⟩
          refine ⟨D', bs, rfl, SqL.of hD, ?_⟩
          have q := e0 true (by rw [c, c2]; rfl)
          have hall : bs.all id = (z.cps.toList.all fun c => decide (97 ≤ c) && decide (c ≤ 122)) := by
            rw [hb, List.take_of_length_le (by rw [Array.length_toList]; exact Nat.le_refl _), List.all_map]
            rfl
          rw [hall, ← Bool.true_and (List.all _ _), ← q]
          exact k H' hS
      · have := e0 false (by rw [c, Bool.eq_false_iff.mpr c2]; rfl)
        rw [this] at k
        exact k H (Same.refl _)
    · have := e0 false (by rw [Bool.eq_false_iff.mpr c]; rfl)
      rw [this] at k
      exact ⟨_, rfl, k H (Same.refl _)⟩
end
end Mx
set_option Elab.async false
set_option maxRecDepth 100000
set_option linter.all false
namespace Mx
open PySem L2
def NmOk (t : Tr) : Prop := ∀ n ∈ t.names, okName n = true ∧ n.cps.size ≤ 1000
def spShape (K : PySem.W.Frag) (d : Nat) : Sp := fun vs H Q _ => ∃ (v : V) (k : Int) (t : Tr), vs = [v, .int k] ∧ TrAt K H d v t ∧ t.wf d ∧ NmOk t ∧ 0 ≤ k ∧ k + d ≤ 4 ∧ ∀ H', Same H H' → Q (.bl true) H'
def spWP (K : PySem.W.Frag) (d : Nat) : Sp := fun vs H Q _ => ∃ (b : Addr) (y : V) (w k : Int) (t : Tr), vs = [.ref b, .int k] ∧ SqT K H b [.int w, y] ∧ 1 ≤ w ∧ w ≤ 9 ∧ TrAt K H d y t ∧ t.wf d ∧ NmOk t ∧ 0 ≤ k ∧ k + 1 + d ≤ 4 ∧ ∀ H', Same H H' → Q (.bl true) H'
section
variable {P : Program} {w : World} {K : PySem.W.Frag} {mg : Str → Option Value} {base : Heap}
def nShape : List Str := ["value", "around", "pair"]
theorem scShape : FnScope nShape ["value", "around"] (defScope sHasShape) := ⟨rfl, rfl, rfl, by decide +kernel, rfl, by decide +kernel, by decide +kernel⟩
theorem scWP : FnScope ["value", "around", "weight", "part"] ["value", "around"] (defScope sIsWP) := ⟨rfl, rfl, rfl, by decide +kernel, rfl, by decide +kernel, by decide +kernel⟩
theorem shape_step {d : Nat} {f fN fW : Addr} {fd fdN fdW : FuncData} (F : Def K mg "has_shape" sHasShape ["value", "around"] f fd) (B : Blt mg) (C : Cst mg) (DN : Def K mg "is_feed_name" sIsName ["text"] fN fdN) (GN : FnOk P w K mg base CX0 1 fN fdN ["text"] (spIsName K))
    (DW : Def K mg "is_weighted_part" sIsWP ["value", "around"] fW fdW) (GW : FnOk P w K mg base CX0 (2 * d + 1) fW fdW ["value", "around"] (pre (spWP K) d)) : FnOk P w K mg base CX0 (2 * d + 2) f fd ["value", "around"] (spShape K d) := by
  obtain ⟨t3, h3⟩ := C.around
  obtain ⟨t5, h5⟩ := C.parts
  refine F.fn.ok scShape (fun vs H Q E h => ?_) (fun cdv A outer s H vs Q E hr h => ?_)
  · obtain ⟨v, k, t, rfl, _⟩ := h
    rfl
  · obtain ⟨v, n, t, rfl, hT, hW, hN, hn0, hn4, k⟩ := h
    refine ⟨_, pss_cons (ps_if (pt_val (pe_callB call_isi (by rfl) B.isinstance (by decide +kernel) (pa_cons (pv 0) (pa_cons (pe_bltn (v := .ty "str") (by rfl) B.str (by decide +kernel) rfl) pa_nil))))
        (pss_one (ps_ret (pe_call GN (hr.mono (by omega)) rfl DN.mg DN.fn.kp DN.b .nil pass0 (pa_cons (pv 0) pa_nil)))) pss_nil)
      (pss_cons (ps_if (PW.pt (pw_or (pt_not (pt_val (pe_callB call_isi (by rfl) B.isinstance (by decide +kernel) (pa_cons (pv 0) (pa_cons (pe_bltn (v := .ty "tuple") (by rfl) B.tuple (by decide +kernel) rfl) pa_nil)))))
          (pw_or1 (pt_cmpR op_gt (pv 1) (pe_glob (v := .int 3) rfl h3 ⟨_, rfl⟩) (nomark _))))) (pss_one (ps_ret pe_bl)) pss_nil)
      (pss_cons (ps_if (pt_not (pt_chain op_le op_le pe_int (pe_callB call_len_seq (by rfl) B.len PySem.boot_len (pa_cons (pv 0) pa_nil)) (pe_glob (v := .int 5) rfl h5 ⟨_, rfl⟩))) (pss_one (ps_ret pe_bl)) pss_nil)
      (pss_one (ps_ret (pe_callB (cr_all rfl) (by rfl) B.all (by decide +kernel) (pa_cons
        (pe_lc (own := [("pair", 2)]) (g := gName 2) (tt := tYes) (by rfl) scShape.nd (pi_tup (pv 0)) (blkOk_by (own := [("pair", 2)]) (N := nShape) (sc := defScope sHasShape) (by decide +kernel))
          (fun _ _ _ _ _ => pg_name (i := 2) scShape.nd rfl (Or.inl rfl)) (fun _ _ _ _ _ => pts_nil)
          (fun _ _ _ _ _ => pe_call GW hr rfl DW.mg DW.fn.kp DW.b .nil pass0 (pa_cons (pv 2) (pa_cons (pv 1) pa_nil)))) pa_nil)))))), ?_⟩
    cases t with
    | feed x =>
      have hv := TrAt_feed.mp hT
      subst hv
      have hx := hN x (by rw [Tr.names_feed]; exact List.mem_cons_self)
      refine ⟨_, rfl, _, _, _, _, true, rfl, .ty _, .base (.str x), kit_ty (by decide +kernel), _, rfl, ?_⟩
      refine ⟨_, rfl, x, rfl, hx.2, fun H' hS => ?_⟩
      rw [hx.1]
      exact k H' hS
    | mix ps =>
      cases d with
      | zero => exact (TrAt_zero hT).elim
      | succ e =>
        obtain ⟨a, xs, rfl, hs, hP⟩ := TrAt_mix.mp hT
        have hw : ps ≠ [] ∧ ps.length ≤ 5 ∧ ∀ p ∈ ps, 1 ≤ p.1 ∧ p.1 ≤ 9 ∧ p.2.wf e := by unfold Tr.wf at hW; exact hW
        have hpl : 0 < ps.length := List.length_pos_iff.mpr hw.1
        refine ⟨_, rfl, _, _, _, _, false, rfl, .ty _, tyx_tup hs, kit_ty (by decide +kernel), _, rfl, ?_⟩
        refine ⟨_, rfl, _, _, _, _, true, rfl, .ty _, tyx_tup hs, kit_ty (by decide +kernel), _, rfl, ?_⟩
        refine ⟨_, rfl, _, _, rfl, rfl, _, rfl, ?_⟩
        refine ite2 (fun c => ?_) (fun c => ?_)
        · have z := of_decide_eq_true c
          omega
        refine ⟨_, rfl, a, _, rfl, .inr hs, _, _, rfl, rfl, _, rfl, ?_⟩
        refine ite2 (fun c2 => ?_) (fun c2 => ?_)
        · refine ⟨_, _, rfl, rfl, _, rfl, ?_⟩
          have e5 : decide ((xs.length : Int) ≤ 5) = true := decide_eq_true (by rw [hP.1]; omega)
          rw [e5]
          refine ⟨_, rfl, a, rfl, ⟨_, hs⟩, fun D' nD => ?_⟩
          refine lc_tup (K := K) (a := a) (xs := xs) (fun i H' => Same H H' ∧ ∃ bs : List Bool, H' D' = some (.lst (bs.map V.bl)) ∧ bs.length = i ∧ bs.all id = true) ?_ ?_ ?_ ?_
          · exact ⟨Same.new (Same.refl _) nD, [], upd_same, rfl, rfl⟩
          · rintro i H' _ ⟨hS, _⟩
            exact sqT_same hS _ _ hs
          · rintro i x H' hx ⟨hS, bs, hD, hl, hb⟩
            have hi : i < ps.length := by rw [← hP.1]; exact (List.getElem?_eq_some_iff.mp hx).1
            have hpi : ps[i]? = some ps[i] := List.getElem?_eq_getElem hi
            have hpm : ps[i] ∈ ps := List.getElem_mem hi
            obtain ⟨b, y, rfl, hb2, hy⟩ := hP.2 i x _ hx hpi
            obtain ⟨hw1, hw9, hwf⟩ := hw.2.2 _ hpm
            refine ⟨rfl, _, rfl, _, rfl, b, y, _, n, ps[i].2, rfl, sqT_same hS _ _ hb2, hw1, hw9, TrAt.keep (sqT_same hS) _ hy, hwf, ?_, hn0, by omega, fun H2 hS2 => ?_⟩
            · intro m hm
              refine hN m ?_
              rw [Tr.names_mix]
              exact List.mem_flatten.mpr ⟨_, List.mem_map.mpr ⟨_, hpm, rfl⟩, hm⟩
            · refine ⟨_, hS2 _ _ hD, by rw [List.length_map, hl]; exact small1000 (by omega), Same.own (hS.trans hS2) nD, bs ++ [true], ?_, ?_, ?_⟩
              · rw [upd_same, List.map_append]; rfl
              · rw [List.length_append, hl]; rfl
              · rw [List.all_append, hb]; rfl
          · rintro H' ⟨hS, bs, hD, hl, hb⟩
            refine ⟨D', bs, rfl, SqL.of hD, ?_⟩
            rw [hb]
            exact k H' hS
        · exact absurd (decide_eq_true (by rw [hP.1]; omega)) c2
theorem wp_step {d : Nat} {f fW fS : Addr} {fd fdW fdS : FuncData} (F : Def K mg "is_weighted_part" sIsWP ["value", "around"] f fd) (B : Blt mg) (C : Cst mg) (DW : Def K mg "is_whole" sIsWhole ["value", "low", "high"] fW fdW) (GW : FnOk P w K mg base CX0 2 fW fdW ["value", "low", "high"] (spWhole K))
    (DS : Def K mg "has_shape" sHasShape ["value", "around"] fS fdS) (GS : FnOk P w K mg base CX0 (2 * d + 2) fS fdS ["value", "around"] (spShape K d)) : FnOk P w K mg base CX0 (2 * d + 3) f fd ["value", "around"] (spWP K d) := by
  obtain ⟨t9, h9⟩ := C.weight
  refine F.fn.ok scWP (fun vs H Q E h => ?_) (fun cdv A outer s H vs Q E hr h => ?_)
  · obtain ⟨b, y, w, k, t, rfl, _⟩ := h
    rfl
  · obtain ⟨b, y, wt, n, t, rfl, hs, hw1, hw9, hT, hW, hN, hn0, hn4, k⟩ := h
    refine ⟨_, pss_cons (ps_if (PW.pt (pw_or (pt_not (pt_val (pe_callB call_isi (by rfl) B.isinstance (by decide +kernel) (pa_cons (pv 0) (pa_cons (pe_bltn (v := .ty "tuple") (by rfl) B.tuple (by decide +kernel) rfl) pa_nil)))))
          (pw_or1 (pt_cmpR op_ne (pe_callB call_len_seq (by rfl) B.len PySem.boot_len (pa_cons (pv 0) pa_nil)) pe_int (nomark _))))) (pss_one (ps_ret pe_bl)) pss_nil)
      (pss_cons (ps_asg (pv 0) (pg_tup rfl (pgs_cons (pg_name (i := 2) scWP.nd rfl (Or.inl rfl)) (pgs_cons (pg_name (i := 3) scWP.nd rfl (Or.inl rfl)) pgs_nil))))
      (pss_one (ps_ret (pe_and (pe_call GW (hr.mono (by omega)) rfl DW.mg DW.fn.kp DW.b .nil pass0 (pa_cons (pv 2) (pa_cons pe_int (pa_cons (pe_glob (v := .int 9) rfl h9 ⟨_, rfl⟩) pa_nil))))
        (pe_one (pe_call GS hr rfl DS.mg DS.fn.kp DS.b .nil pass0 (pa_cons (pv 3) (pa_cons (pe_op op_add (pv 1) pe_int) pa_nil)))))))), ?_⟩
    refine ⟨_, rfl, _, _, _, _, true, rfl, .ty _, tyx_tup hs, kit_ty (by decide +kernel), _, rfl, ?_⟩
    refine ⟨_, rfl, b, _, rfl, .inr hs, rfl, _, rfl, ?_⟩
    refine ⟨_, rfl, b, _, rfl, hs, rfl, _, _, rfl, _, _, rfl, rfl, ?_⟩
    refine ⟨_, rfl, _, _, _, rfl, .int wt, ?_⟩
    have e : whole (.int wt) 1 9 = true := by unfold whole; dsimp only; rw [decide_eq_true hw1, decide_eq_true hw9]; rfl
    refine ⟨_, rfl, ?_⟩
    rw [e]
    refine ⟨_, rfl, _, rfl, _, _, rfl, rfl, y, _, t, rfl, hT, hW, hN, by omega, by omega, k⟩
theorem ok_shape {f fN fW fH : Addr} {fd fdN fdW fdH : FuncData} (F : Def K mg "has_shape" sHasShape ["value", "around"] f fd) (B : Blt mg) (C : Cst mg) (DN : Def K mg "is_feed_name" sIsName ["text"] fN fdN) (GN : FnOk P w K mg base CX0 1 fN fdN ["text"] (spIsName K))
    (DW : Def K mg "is_weighted_part" sIsWP ["value", "around"] fW fdW) (DH : Def K mg "is_whole" sIsWhole ["value", "low", "high"] fH fdH) (GH : FnOk P w K mg base CX0 2 fH fdH ["value", "low", "high"] (spWhole K)) : ∀ d : Nat, FnOk P w K mg base CX0 (2 * d + 2) f fd ["value", "around"] (spShape K d)
  | 0 => shape_step F B C DN GN DW (DW.fn.ok (k := 0) scWP (fun _ _ _ _ h => h.elim) (fun _ _ _ _ _ _ _ _ _ h => h.elim))
  | d + 1 => shape_step F B C DN GN DW (wp_step DW B C DH GH F (ok_shape F B C DN GN DW DH GH d))
end
end Mx
set_option Elab.async false
set_option maxRecDepth 100000
set_option linter.all false
/-! len(set(xs)) of a list of texts, none of them twice -/
namespace Mx
open PySem PySem.Spec PyProof.Rows
section
variable {prog : Program} {w : World} {A : Around} {R : Result → Shared → Prop} {I : Addr} {fp wr : List Addr} {G : Array GenState → Array GenState → Prop} {n : Nat} {Py : Nat → Value → Prop} {St : Nat → Shared → Prop}
theorem set_stays {T : Addr} {h h' : Heap} {M : Str → Bool} {m : Nat} (z : h.SetOf (strKind prog w) T M m) (k : ∀ o, h.get? T = some o → h'.get? T = some o) : h'.SetOf (strKind prog w) T M m := by
  obtain ⟨ob, es, ep, tb, e, r⟩ := z
  exact ⟨ob, es, ep, tb, k _ e, r⟩
end
end Mx
set_option Elab.async false
set_option maxRecDepth 100000
set_option linter.all false
/-! how many different texts; the loop of set(..) -/
namespace Mx
/-- how many different ones are among the first -/
def dn {α : Type} [DecidableEq α] (xs : List α) : Nat → Nat
  | 0 => 0
  | i + 1 => match xs[i]? with
    | some x => if x ∈ xs.take i then dn xs i else dn xs i + 1
    | none => dn xs i
theorem dn_succ {α : Type} [DecidableEq α] {xs : List α} {i : Nat} {x : α} (h : xs[i]? = some x) : dn xs (i + 1) = if x ∈ xs.take i then dn xs i else dn xs i + 1 := by
  show (match xs[i]? with | some x => if x ∈ xs.take i then dn xs i else dn xs i + 1 | none => dn xs i) = _
  rw [h]
theorem dn_le {α : Type} [DecidableEq α] (xs : List α) : ∀ i, dn xs i ≤ i
  | 0 => Nat.le_refl _
  | i + 1 => by
    have ih := dn_le xs i
    cases h : xs[i]? with
    | none =>
      have e : dn xs (i + 1) = dn xs i := by
        show (match xs[i]? with | some x => if x ∈ xs.take i then dn xs i else dn xs i + 1 | none => dn xs i) = _
        rw [h]
      omega
    | some x =>
      rw [dn_succ h]
      split <;> omega
theorem dup_at {α : Type} [DecidableEq α] : ∀ {xs : List α}, ¬ xs.Nodup → ∃ (j : Nat) (x : α), xs[j]? = some x ∧ x ∈ xs.take j
  | [], h => absurd List.nodup_nil h
  | a :: r, h => by
    by_cases c : a ∈ r
    · obtain ⟨j, hj⟩ := List.mem_iff_getElem?.mp c
      exact ⟨j + 1, a, by simpa using hj, by simp⟩
    · have h2 : ¬ r.Nodup := fun z => h (List.nodup_cons.mpr ⟨c, z⟩)
      obtain ⟨j, x, hj, hm⟩ := dup_at h2
      exact ⟨j + 1, x, by simpa using hj, by simp [hm]⟩
/-- none twice -/
theorem dn_nd {α : Type} [DecidableEq α] {xs : List α} (nd : xs.Nodup) : ∀ i, i ≤ xs.length → dn xs i = i
  | 0, _ => rfl
  | i + 1, h => by
    have hx : xs[i]? = some xs[i] := List.getElem?_eq_getElem (by omega)
    rw [dn_succ hx, dn_nd nd i (by omega), if_neg fun q => ?_]
    obtain ⟨j, hj⟩ := List.mem_iff_getElem?.mp q
    rw [List.getElem?_take] at hj
    split at hj
    · rename_i lt
      obtain ⟨h1, e1⟩ := List.getElem?_eq_some_iff.mp hj
      exact absurd e1 (fun e => by
        have := List.pairwise_iff_getElem.mp nd j i h1 (by omega) lt
        exact this e)
    · cases hj
/-- one twice -/
theorem dn_lt {α : Type} [DecidableEq α] {xs : List α} {j : Nat} {x : α} (hx : xs[j]? = some x) (again : x ∈ xs.take j) : ∀ i, j < i → i ≤ xs.length → dn xs i < i
  | 0, h, _ => absurd h (Nat.not_lt_zero _)
  | i + 1, h, hl => by
    rcases Nat.lt_or_ge j i with lt | ge
    · have := dn_lt hx again i lt (by omega)
      have hy : xs[i]? = some xs[i] := List.getElem?_eq_getElem (by omega)
      rw [dn_succ hy]
      split <;> omega
    · obtain rfl : i = j := by omega
      rw [dn_succ hx, if_pos again]
      have := dn_le xs i
      omega
open PySem PySem.Spec PyProof.Rows
section
variable {prog : Program} {w : World} {A : Around} {R : Result → Shared → Prop} {I : Addr} {fp wr : List Addr} {G : Array GenState → Array GenState → Prop} {n : Nat} {Py : Nat → Value → Prop} {St : Nat → Shared → Prop}
/-- the loop of set(..), texts may come again -/
theorem txt_fillD (W : WalksS prog w A.in1 I fp wr G n Py St) {T : Addr} (out : T ∉ fp) {xs : List Str} (hn : xs.length = n) (small : n < 1000) (isT : ∀ i v, Py i v → ∃ t x, xs[i]? = some x ∧ v = .str x t) :
    ∀ (m i : Nat) (s : Shared), i + m = n → St i s → s.heap.SetOf (strKind prog w) T (fun y => decide (y ∈ xs.take i)) (dn xs i) →
      (∀ s', Moved (T :: wr) G s s' → s'.heap.SetOf (strKind prog w) T (fun y => decide (y ∈ xs.take n)) (dn xs n) → R (.ok (.ret .none)) s') →
      codeAny (model prog w) A (.builtin "set.update.loop" ⟨[.ref T, .ref I], []⟩) R s := by
  have outw : T ∉ wr := fun q => out (W.sub _ q)
  have more : ∀ b ∈ wr, b ∈ T :: wr := fun b q => .tail _ q
  intro m
  induction m with
  | zero =>
    intro i s e st z fin
    obtain rfl : i = n := by omega
    refine codeAny_builtin F.entry_set_update_loop (by
      rw [Around.under_plainId F.plain_set_update_loop _]
      exact wpAny_bind (m := pyNext (.ref I)) (W.done s _ _ st fun s' mv => wpAny_pure (fin s' (mv.mono more) (set_stays z fun o q => mv.heap T o outw q))))
  | succ m ih =>
    intro i s e st z fin
    have lt : i < n := by omega
    refine codeAny_builtin F.entry_set_update_loop ?_
    rw [Around.under_plainId F.plain_set_update_loop _]
    refine wpAny_bind (m := pyNext (.ref I)) (W.item i s _ _ lt st fun v s' pv st' mv => ?_)
    obtain ⟨t, x, hx, rfl⟩ := isT i v pv
    have z' := set_stays (h' := s'.heap) z fun o q => mv.heap T o outw q
    refine wpAny_bind (m := holding [Value.str x t] (setAdd T (.str x t))) (wpAny_holding ?_)
    unfold setAdd
    refine wpAny_holding (wpAny_bind ((strKind prog w).pyHash (k := x) (strKind_is _ _ _ _) ?_))
    refine wpAny_setAddHashed_of (knd := strKind prog w) (s := { s' with toks := s'.toks + 1 }) (strKind_is _ _ _ _) rfl z' (by have := dn_le xs i; unfold scanBound; omega) fun h2 sb z2 => ?_
    have z3 : h2.SetOf (strKind prog w) T (fun y => decide (y ∈ xs.take (i + 1))) (dn xs (i + 1)) := by
      refine SetOf_congr z2 (fun y => ?_) ?_
      · rw [take_succ_of hx, Bool.eq_iff_iff]
        simp [List.mem_append]
      · rw [dn_succ hx]
        by_cases q : x ∈ xs.take i
        · rw [decide_eq_true q, if_pos q]; rfl
        · rw [decide_eq_false q, if_neg q]; rfl
    refine wpAny_pure ⟨plainId_quiet F.plain_set_update_loop _, ih (i + 1) _ (by omega) (W.frame _ s' _ _ st' (Nat.le_succ _) fun b hb o q => ?_) z3 fun s3 mv3 z4 => ?_⟩
    · exact (sb.2 b fun e => out (e ▸ hb)).trans q
    · exact fin s3 (Moved.trans W.gtrans ((mv.mono more).then_heap (Nat.le_succ _) fun b o hb q => (sb.2 b fun e => hb (by rw [e]; exact .head _)).trans q) mv3) z4
end
end Mx
set_option Elab.async false
set_option maxRecDepth 100000
set_option linter.all false
namespace Mx
open PySem PySem.Spec PyProof.Rows
section
variable {prog : Program} {w : World} {A : Around} {E : Value → Shared → Prop} {s : Shared}
abbrev freshSet (led : Bool) : Obj := { cls := .type "set", dict := none, data := .set #[] 0 (.fresh 0 0 led) }
set_option maxHeartbeats 4000000 in
/-- set(t) of a list of texts -/
theorem txt_setL {l : Addr} {items : Array Value} {xs : List Str} {Q : Value → Shared → Prop} (hh : A.handled = none) (hl : s.heap.IsList l items) (hn : xs.length = items.size) (small : items.size < 1000)
    (isT : ∀ (i : Nat) (v : Value), items[i]? = some v → ∃ (t : Tok) (x : Str), xs[i]? = some x ∧ v = Value.str x t)
    (fin : ∀ (h' : Heap) (tk : Nat), h'.SetOf (strKind prog w) s.heap.objs.size (fun y => decide (y ∈ xs.take items.size)) (dn xs items.size) → (∀ b o, b < s.heap.objs.size → s.heap.get? b = some o → h'.get? b = some o) → Q (.ref s.heap.objs.size) { s with heap := h', toks := tk }) :
    wpAny (model prog w) A (call (.type "set") [.ref l]) Q E s := by
  have ct := PySem.F.called_set
  obtain ⟨c0, tl0, mro0⟩ := ct.mro
  have k1 := ct.made
  have k2 := ct.sub
  have k3 := ct.notType
  have k4 := ct.canCreate
  have k5 := PySem.F.typeCall_set_1 (.ref l)
  have k6 := ct.init.lookup
  refine wpAny_call (codeAny_of_tree (show wpAny _ _ (callAny (.type "set") _) _ _ _ from wpAny_pure ⟨Code.quiet_builtin _ (by decide +kernel), codeAny_builtin PySem.F.entry_type_call ?_⟩))
  rw [Around.under_plain (weight_type_call_type "set" [Value.ref l] ([] : List (Str × Value))) rfl]; repeat (any_goals (first | assumption | wp_step))
  refine codeAny_mono (code_set_new_1 (.ref l) (E := E) (Q₁ := fun obj s1 => ∃ led : Bool, obj = .ref s.heap.objs.size ∧ s1 = { s with heap := s.heap.push (freshSet led) }) fun led => ⟨led, rfl, rfl⟩) fun r s1 hr => ?_
  match r, hr with
  | .error e, hr => exact hr
  | .ok .next, hr => exact hr.elim
  | .ok .brk, hr => exact hr.elim
  | .ok .cont, hr => exact hr.elim
  | .ok (.ret obj), hr =>
    obtain ⟨led, rfl, rfl⟩ := hr
    have isS : (s.heap.push (freshSet led)).get? s.heap.objs.size = some (freshSet led) := Heap.get?_push_size _ rfl
    have tyS : Shared.TypeIs { s with heap := s.heap.push (freshSet led) } (.ref s.heap.objs.size) "set" := ⟨_, isS, rfl⟩
    have k7 := ct.init.bind (.ref s.heap.objs.size)
    repeat (any_goals (first | assumption | wp_step))
    obtain ⟨Z, hZ⟩ : ∃ Z : Shared → Prop, Z = fun s2 => ∃ h' tk, s2 = { s with heap := h', toks := tk } ∧ h'.SetOf (strKind prog w) s.heap.objs.size (fun y => decide (y ∈ xs.take items.size)) (dn xs items.size) ∧ (∀ b o, b < s.heap.objs.size → s.heap.get? b = some o → h'.get? b = some o) := ⟨_, rfl⟩
    refine codeAny_mono (codeAny_call_builtin (R := wants (fun r s2 => r = .none ∧ Z s2) E) ct.init.plain PySem.F.entry_set_init (check_set_init_1 tyS ?_)) fun r2 s2 hr2 => ?_
    · obtain ⟨⟨oc, od, odt, osl⟩, ho, hc, nl, hd⟩ := hl
      simp only at hc hd
      subst hc hd
      have ho2 : (s.heap.push (freshSet led)).get? l = some { cls := .type "list", dict := od, data := .seq items nl, slots := osl } := Heap.get?_push_of_some _ ho
      have isL : (s.heap.push (freshSet led)).IsList l items := ⟨_, ho2, rfl, nl, rfl⟩
      have f1 := PySem.F.sub_list_set
      have f2 := PySem.F.sub_list_frozenset
      have f3 : (Value.type "list" == Value.type "dict") = false := by decide
      have lt : l < s.heap.objs.size := Heap.lt_size ho
      unfold Builtin.«set.__init__» noKeywords Builtin.Frozenset.updateFrom; generalize hPI : pyIter = PI; wp_walk; subst hPI
      refine wpAny_pyIter_list isL ?_; refine wpAny_bind (wpAny_runValue ?_)
      have sz : (s.heap.push (freshSet led)).objs.size = s.heap.objs.size + 1 := Heap.size_push _ _
      have ne1 : l ≠ (s.heap.push (freshSet led)).objs.size := by rw [sz]; exact Nat.ne_of_lt (Nat.lt_of_lt_of_le lt (Nat.le_succ _))
      refine txt_fillD ((Walks.list (show A.in1.in1.in1.handled = none by simp [hh]) _ l ne1 items).toS) (T := s.heap.objs.size) ?_ hn small isT items.size 0 _ (Nat.zero_add _) ⟨⟨_, Heap.get?_push_size _ rfl, rfl, rfl⟩, isL.push _⟩ ?_ ?_
      · rw [sz]
        intro q
        rcases List.mem_cons.mp q with q | q
        · exact Nat.ne_of_lt (Nat.lt_succ_self _) q
        · rw [List.mem_singleton] at q
          exact Nat.ne_of_gt lt q
      · have g := Heap.get?_push_of_some (h := s.heap.push (freshSet led)) { cls := .type "list_iterator", data := .fields #[.ref l, .int 0 0] } isS
        exact SetOf_congr ((setObjOf_fresh (knd := strKind prog w) led).setOf g (by unfold scanBound; omega)) (fun _ => by simp) rfl
      · rintro ⟨h2, g2, d2, tk2, os2⟩ mv zz
        obtain rfl : g2 = s.gens := mv.gens
        obtain rfl : d2 = s.drawn := mv.drawn
        obtain rfl : os2 = s.os := mv.os
        show wpAny _ _ _ _ _ _
        refine wpAny_pure (wpAny_pure ⟨rfl, ?_⟩)
        rw [hZ]
        refine ⟨h2, tk2, rfl, zz, fun b o hb e => mv.heap b o ?_ (Heap.get?_push_of_some _ (Heap.get?_push_of_some _ e))⟩
        rw [sz]
        intro q
        rcases List.mem_cons.mp q with q | q
        · exact Nat.ne_of_lt hb q
        · rw [List.mem_singleton] at q
          exact Nat.ne_of_lt (Nat.lt_of_lt_of_le hb (Nat.le_succ _)) q
    · match r2, hr2 with
      | .error e, hr2 => exact hr2
      | .ok .next, hr2 => exact hr2.elim
      | .ok .brk, hr2 => exact hr2.elim
      | .ok .cont, hr2 => exact hr2.elim
      | .ok (.ret u), hr2 =>
        obtain ⟨rfl, z2⟩ := hr2
        rw [hZ] at z2
        obtain ⟨h2, tk2, rfl, z3, z4⟩ := z2
        repeat (any_goals (first | assumption | wp_step))
        exact fin _ _ z3 z4
/-- set(xs) of a list of texts, none twice -/
theorem txt_set {l : Addr} {items : Array Value} {xs : List Str} {Q : Value → Shared → Prop} (hh : A.handled = none) (hl : s.heap.IsList l items) (hn : xs.length = items.size) (nd : xs.Nodup) (small : items.size < 1000)
    (isT : ∀ (i : Nat) (v : Value), items[i]? = some v → ∃ (t : Tok) (x : Str), xs[i]? = some x ∧ v = Value.str x t)
    (fin : ∀ (h' : Heap) (tk : Nat), h'.SetOf (strKind prog w) s.heap.objs.size (fun y => decide (y ∈ xs.take items.size)) items.size → (∀ b o, b < s.heap.objs.size → s.heap.get? b = some o → h'.get? b = some o) → Q (.ref s.heap.objs.size) { s with heap := h', toks := tk }) :
    wpAny (model prog w) A (call (.type "set") [.ref l]) Q E s := by
  refine txt_setL hh hl hn small isT fun h' tk z k => ?_
  rw [dn_nd nd _ (by omega)] at z
  exact fin h' tk z k
end
end Mx
set_option Elab.async false
set_option maxRecDepth 100000
set_option linter.all false
namespace Mx
open PySem L2
section
variable {X : Cx}
/-- len(set(xs)), xs a list of texts, none twice -/
def tLenSetN (K : PySem.W.Frag) (ta : TE) : TE := fun σ H Q => ta σ H fun x H1 => ∃ (l : Addr) (xs : List Str), x = .ref l ∧ SqL K H1 l (xs.map V.str) ∧ xs.Nodup ∧ xs.length < 1000 ∧ Q (.int ((xs.length : Nat) : Int)) H1
theorem strs_get : ∀ {xs : List Str} {us : List Value}, Vals (xs.map V.str) us → ∀ (i : Nat) (v : Value), us[i]? = some v → ∃ (t : Tok) (x : Str), xs[i]? = some x ∧ v = Value.str x t
  | [], _, .nil, i, v, h => by simp at h
  | x :: r, _, .cons q t, 0, v, h => by
    obtain ⟨k, rfl⟩ := q
    cases h
    exact ⟨k, x, rfl, rfl⟩
  | x :: r, _, .cons q t, i + 1, v, h => strs_get (xs := r) t i v (by simpa using h)
open PySem.Spec PyProof.Rows in
theorem pe_lenSetN {a : Expr} {ta : TE} {p p2 q pos : PySem.Pos} (hc : X.calm = true) (hg : Gl X "len") (hm : X.mg "len" = none) (hg2 : Gl X "set") (hm2 : X.mg "set" = none) (ha : PE X a ta)
    (na : starEach [a] X.env = (false, eval a X.env) :: starEach [] X.env := by rfl) : PE X (.Call (.Name "len" p) [.Call (.Name "set" p2) [a] [] q] [] pos) (tLenSetN X.K ta) := by
  refine ⟨fun pins s σ H Q I h => Call_ (ld_blt I hg hm boot_len (PyProof.Rows.callWith_builtin1 (PyProof.Rows.args_cons (Call_ (ld_blt I hg2 hm2 boot_set ?_)) rfl) rfl rfl))⟩
  refine PyProof.Rows.callWith_type1 (PyProof.Rows.args_cons (thn (ha.run pins s σ H _ I h) fun v s1 hh => PyProof.Rows.args_nil ?_) na) na rfl
  obtain ⟨x, H1, I1, r1, l, xs, rfl, hq, nd, hlen, q1⟩ := hh
  cases r1
  obtain ⟨its, r, pl, _⟩ := I1.list hq
  have hsz : xs.length = its.toArray.size := by rw [List.size_toArray, ← r.length, List.length_map]
  refine txt_set (I1.ok.hd hc) pl.isList hsz nd (by omega) (fun i v e => strs_get r i v (by simpa using e)) fun h2 tk zz keep => PyProof.Rows.args_nil ?_
  have I2 : Inv X pins σ H1 { s1 with heap := h2, toks := tk } := I1.kept fun b o e => keep b o (Heap.lt_size e) e
  rw [← hsz] at zz
  obtain ⟨o, es, ep, t, ho, hex, hd, _, _, _, hf, hn⟩ := zz
  exact call_len_set ho hex hd hf (by rw [hn]; omega) ⟨.int ((xs.length : Nat) : Int), H1, I2.tok _, ⟨_, by rw [hn]⟩, q1⟩
end
structure TreeV (t : Tr) : Prop where
  wf : t.wf 4
  nd : t.names.Nodup
  len : t.names.length ≤ 8
  nm : NmOk t
theorem TreeOk.v {t : Tr} (h : TreeOk t) : TreeV t := ⟨h.wf, h.nd, h.len, fun n hn => ⟨U_name n (h.mem n hn), by
  have z := U_name n (h.mem n hn)
  unfold okName at z
  rw [Bool.and_eq_true, Bool.and_eq_true] at z
  have := of_decide_eq_true z.1.2
  omega⟩⟩
def spIsTree (K : PySem.W.Frag) : Sp := fun vs H Q _ => ∃ (v : V) (t : Tr), vs = [v] ∧ TrAt K H 4 v t ∧ TreeV t ∧ ∀ H', Same H H' → Q (.bl true) H'
def spReqTree (K : PySem.W.Frag) : Sp := fun vs H Q _ => ∃ (v : V) (t : Tr), vs = [v] ∧ TrAt K H 4 v t ∧ TreeV t ∧ ∀ H', Same H H' → Q .non H'
def spFeedsOf (K : PySem.W.Frag) : Sp := fun vs H Q _ => ∃ (v : V) (t : Tr), vs = [v] ∧ TrAt K H 4 v t ∧ TreeV t ∧
  ∀ (p : Addr) (H' : Hp), Same H H' → H p = none → H' p = some (.lst (t.names.map V.str)) → Q (.ref p) H'
section
variable {P : Program} {w : World} {K : PySem.W.Frag} {mg : Str → Option Value} {base : Heap}
theorem scNamesIn : FnScope ["tree", "names", "weight", "part"] ["tree"] (defScope sNamesIn) := ⟨rfl, rfl, rfl, by decide +kernel, rfl, by decide +kernel, by decide +kernel⟩
theorem namesIn_step {d : Nat} {f : Addr} {fd : FuncData} (F : Def K mg "names_in" sNamesIn ["tree"] f fd) (B : Blt mg) (GR : FnOk P w K mg base CX0 (d + 1) f fd ["tree"] (pre (spNames K) d)) :
    FnOk P w K mg base CX0 (d + 2) f fd ["tree"] (spNames K d) := by
  refine F.fn.ok scNamesIn (fun vs H Q E h => ?_) (fun cdv A outer s H vs Q E hr h => ?_)
  · obtain ⟨v, t, rfl, _⟩ := h
    rfl
  · obtain ⟨v, t, rfl, hT, hW, hL, k⟩ := h
    refine ⟨_, pss_cons (ps_if (pt_val (pe_callB call_isi (by rfl) B.isinstance (by decide +kernel) (pa_cons (pv 0) (pa_cons (pe_bltn (v := .ty "str") (by rfl) B.str (by decide +kernel) rfl) pa_nil))))
        (pss_one (ps_ret (pe_lst (pa_cons (pv 0) pa_nil)))) pss_nil)
      (pss_cons (ps_set (i := 1) scNamesIn.nd rfl (Or.inl rfl) (pe_lst pa_nil))
      (pss_cons (ps_for PassesOwn.never rfl (pi_tup (pv 0)) (pg_tup rfl (pgs_cons (pg_name (i := 2) scNamesIn.nd rfl (Or.inl rfl)) (pgs_cons (pg_name (i := 3) scNamesIn.nd rfl (Or.inl rfl)) pgs_nil)))
        (pss_one (ps_expr (pe_bm PySem.F.plainAttrs_list PySem.F.slot_list_extend PySem.F.type_list_extend mt_extend (pv 1) (pa_cons (pe_call GR hr rfl F.mg F.fn.kp F.b .nil pass0 (pa_cons (pv 3) pa_nil)) pa_nil)))))
      (pss_one (ps_ret (pv 1))))), ?_⟩
    cases t with
    | feed n =>
      have hv := TrAt_feed.mp hT
      subst hv
      refine ⟨_, rfl, _, _, _, _, true, rfl, .ty _, .base (.str n), kit_ty (by decide +kernel), _, rfl, ?_⟩
      refine ⟨_, rfl, by show 1 ≤ sizeLine; decide, fun p np => ?_⟩
      refine k p _ (Same.new (Same.refl _) np) np ?_
      rw [upd_same, Tr.names_feed]
      rfl
    | mix ps =>
      cases d with
      | zero => exact (TrAt_zero hT).elim
      | succ e =>
        obtain ⟨a, xs, rfl, hs, hP⟩ := TrAt_mix.mp hT
        have hw : ps ≠ [] ∧ ps.length ≤ 5 ∧ ∀ p ∈ ps, 1 ≤ p.1 ∧ p.1 ≤ 9 ∧ p.2.wf e := by unfold Tr.wf at hW; exact hW
        rw [Tr.names_mix] at hL
        refine ⟨_, rfl, _, _, _, _, false, rfl, .ty _, tyx_tup hs, kit_ty (by decide +kernel), _, rfl, ?_⟩
        refine ⟨Nat.zero_le _, fun p0 np0 => ?_⟩
        refine ⟨_, rfl, a, rfl, ⟨_, sqT_same (Same.new (Same.refl _) np0) _ _ hs⟩, for_tup (K := K) (a := a) (xs := xs) (fun i σ H' => ∃ (v2 v3 : Option V), σ = [some (.ref a), some (.ref p0), v2, v3] ∧ Same H H' ∧
          H' p0 = some (.lst ((((ps.take i).map fun p => p.2.names).flatten).map V.str))) ?_ ?_ ?_ ?_⟩
        · exact ⟨none, none, rfl, Same.new (Same.refl _) np0, upd_same⟩
        · rintro i σ H' _ ⟨v2, v3, _, hS, _⟩
          exact sqT_same hS _ _ hs
        · rintro i x σ H' hx ⟨v2, v3, rfl, hS, hp⟩
          have hi : i < ps.length := by rw [← hP.1]; exact (List.getElem?_eq_some_iff.mp hx).1
          have hpi : ps[i]? = some ps[i] := List.getElem?_eq_getElem hi
          obtain ⟨b, y, rfl, hb, hy⟩ := hP.2 i x _ hx hpi
          have hle := flat_len (ps := ps) (i := i + 1)
          rw [flat_succ hpi, List.length_append] at hle
          refine ⟨b, _, rfl, sqT_same hS _ _ hb, rfl, _, _, rfl, _, _, rfl, rfl, ?_⟩
          refine ⟨_, rfl, .inl ⟨rfl, _, SqL.of hp⟩, _, rfl, y, ps[i].2, rfl, TrAt.keep (sqT_same hS) _ hy, (hw.2.2 _ (List.getElem_mem hi)).2.2, by omega, fun q H2 hS2 nq hq => ?_⟩
          refine ⟨p0, q, _, _, rfl, rfl, hS2 _ _ hp, hq, ?_, ?_⟩
          · rw [List.length_map, List.length_map]
            exact Nat.le_of_lt (small1000 (by omega))
          · refine ⟨_, _, rfl, Same.own (hS.trans hS2) np0, ?_⟩
            rw [upd_same, flat_succ hpi, List.map_append]
        · rintro σ H' ⟨v2, v3, rfl, hS, hp⟩
          refine ⟨_, rfl, k p0 H' hS np0 ?_⟩
          rw [hp, Tr.names_mix, List.take_of_length_le (by rw [hP.1]; exact Nat.le_refl _)]
theorem ok_namesIn {f : Addr} {fd : FuncData} (F : Def K mg "names_in" sNamesIn ["tree"] f fd) (B : Blt mg) : ∀ d : Nat, FnOk P w K mg base CX0 (d + 2) f fd ["tree"] (spNames K d)
  | 0 => namesIn_step F B (F.fn.ok (k := 0) scNamesIn (fun _ _ _ _ h => h.elim) (fun _ _ _ _ _ _ _ _ _ h => h.elim))
  | d + 1 => namesIn_step F B (ok_namesIn F B d)
theorem scIsTree : FnScope ["value", "names"] ["value"] (defScope sIsTree) := ⟨rfl, rfl, rfl, by decide +kernel, rfl, by decide +kernel, by decide +kernel⟩
theorem ok_isTree {f fS fN : Addr} {fd fdS fdN : FuncData} (F : Fun K "is_tree" "is_tree" sIsTree f fd) (B : Blt mg) (C : Cst mg) (DS : Def K mg "has_shape" sHasShape ["value", "around"] fS fdS) (GS : FnOk P w K mg base CX0 10 fS fdS ["value", "around"] (spShape K 4))
    (DN : Def K mg "names_in" sNamesIn ["tree"] fN fdN) (GN : FnOk P w K mg base CX0 6 fN fdN ["tree"] (spNames K 4)) : FnOk P w K mg base CX0 11 f fd ["value"] (spIsTree K) := by
  obtain ⟨t8, h8⟩ := C.feeds
  refine F.ok scIsTree (fun vs H Q E h => ?_) (fun cdv A outer s H vs Q E hr h => ?_)
  · obtain ⟨v, t, rfl, _⟩ := h
    rfl
  · obtain ⟨v, t, rfl, hT, hV, k⟩ := h
    refine ⟨_, pss_cons (ps_if (pt_not (pt_val (pe_call GS hr rfl DS.mg DS.fn.kp DS.b .nil pass0 (pa_cons (pv 0) (pa_cons pe_int pa_nil))))) (pss_one (ps_ret pe_bl)) pss_nil)
      (pss_cons (ps_set (i := 1) scIsTree.nd rfl (Or.inl rfl) (pe_call GN (hr.mono (by decide)) rfl DN.mg DN.fn.kp DN.b .nil pass0 (pa_cons (pv 0) pa_nil)))
      (pss_one (ps_ret (pe_and (pe_cmpR op_le (pe_callB call_len_seq (by rfl) B.len PySem.boot_len (pa_cons (pv 1) pa_nil)) (pe_glob (v := .int 8) rfl h8 ⟨_, rfl⟩) (nomark _))
        (pe_one (pe_cmpR op_eq (pe_lenSetN rfl (by rfl) B.len (by rfl) B.set (pv 1)) (pe_callB call_len_seq (by rfl) B.len PySem.boot_len (pa_cons (pv 1) pa_nil)) (nomark _))))))), ?_⟩
    refine ⟨_, rfl, v, _, t, rfl, hT, hV.wf, hV.nm, by decide, by decide, fun H1 S1 => ⟨_, rfl, ?_⟩⟩
    refine ⟨_, rfl, v, t, rfl, TrAt.keep (sqT_same S1) _ hT, hV.wf, by have := hV.len; omega, fun p H2 S2 np hp => ?_⟩
    refine ⟨_, rfl, p, _, rfl, .inl (SqL.of hp), _, _, rfl, rfl, _, rfl, ?_⟩
    have e8 : decide (((t.names.map V.str).length : Int) ≤ 8) = true := decide_eq_true (by rw [List.length_map]; have := hV.len; omega)
    rw [e8]
    refine ⟨_, rfl, p, _, rfl, SqL.of hp, hV.nd, by have := hV.len; omega, ?_⟩
    refine ⟨_, rfl, p, _, rfl, .inl (SqL.of hp), rfl, ?_⟩
    have e9 : decide (V.int ((t.names.length : Nat) : Int) = V.int (((t.names.map V.str).length : Nat) : Int)) = true := decide_eq_true (by rw [List.length_map])
    rw [e9]
    exact k H2 (S1.trans S2)
theorem scReqTree : FnScope ["value"] ["value"] (defScope sReqTree) := ⟨rfl, rfl, rfl, by decide +kernel, rfl, by decide +kernel, by decide +kernel⟩
theorem ok_reqTree {f fT : Addr} {fd fdT : FuncData} (F : Fun K "require_tree" "require_tree" sReqTree f fd) (DT : Def K mg "is_tree" sIsTree ["value"] fT fdT) (GT : FnOk P w K mg base CX0 11 fT fdT ["value"] (spIsTree K)) : FnOk P w K mg base CX0 12 f fd ["value"] (spReqTree K) := by
  refine F.ok scReqTree (fun vs H Q E h => ?_) (fun cdv A outer s H vs Q E hr h => ?_)
  · obtain ⟨v, t, rfl, _⟩ := h
    rfl
  · obtain ⟨v, t, rfl, hT, hV, k⟩ := h
    refine ⟨_, pss_one (ps_if (pt_not (pt_val (pe_call GT hr rfl DT.mg DT.fn.kp DT.b .nil pass0 (pa_cons (pv 0) pa_nil)))) (pss_one ps_never) pss_nil), ?_⟩
    refine ⟨_, rfl, v, t, rfl, hT, hV, fun H1 S1 => ⟨_, rfl, ?_⟩⟩
    exact k H1 S1
end
end Mx
set_option Elab.async false
set_option maxRecDepth 100000
set_option linter.all false
/-! dict(zip(names, numbers)), the first a list, the second a tuple -/
set_option Elab.async false
set_option maxRecDepth 100000
set_option linter.all false
namespace Mx
open PySem L2
def tab (ns : List Str) (ls : List Int) : List (Key × V) := (ns.map (Sum.inr : Str → Key)).zip (ls.map V.int)
theorem tab_val : ∀ {ns : List Str} {ls : List Int} {n : Str}, ns.length = ls.length → n ∈ ns → ∃ l ∈ ls, valV (tab ns ls) (Sum.inr n) = some (.int l)
  | [], _, n, _, h => by cases h
  | m :: r, [], n, h, _ => by simp at h
  | m :: r, l :: t, n, h, hn => by
    by_cases e : m = n
    · exact ⟨l, List.mem_cons_self, by rw [e]; exact valV_pos rfl⟩
    · have hn' : n ∈ r := by
        rcases List.mem_cons.mp hn with z | z
        · exact absurd z.symm e
        · exact z
      obtain ⟨x, hx, ex⟩ := tab_val (ns := r) (ls := t) (n := n) (by simpa using h) hn'
      refine ⟨x, List.mem_cons_of_mem _ hx, ?_⟩
      rw [← ex]
      exact valV_neg (fun z => e (Sum.inr.inj z))
/-- the feeds' lengths by their names -/
def Lof (ns : List Str) (ls : List Int) (n : Str) : Nat := match valV (tab ns ls) (Sum.inr n) with
  | some (.int i) => i.toNat
  | _ => 0
theorem Lof_val {ns : List Str} {ls : List Int} {n : Str} (h : ns.length = ls.length) (hn : n ∈ ns) (h0 : ∀ l ∈ ls, 0 ≤ l) : valV (tab ns ls) (Sum.inr n) = some (.int (Lof ns ls n : Nat)) := by
  obtain ⟨l, hl, e⟩ := tab_val h hn
  unfold Lof
  rw [e, Int.toNat_of_nonneg (h0 l hl)]
theorem Lof_le {ns : List Str} {ls : List Int} {n : Str} {m : Nat} (h : ns.length = ls.length) (hn : n ∈ ns) (h0 : ∀ l ∈ ls, 0 ≤ l ∧ l ≤ m) : Lof ns ls n ≤ m := by
  obtain ⟨l, hl, e⟩ := tab_val h hn
  unfold Lof
  rw [e]
  have := h0 l hl
  show l.toNat ≤ m
  omega
theorem tot_map {ps : List (Int × Tr)} {L : Str → Nat} (h : ∀ p ∈ ps, (p.2.out L).length = (p.2.names.map L).sum) : tot (ps.map fun p => (p.1.toNat, p.2.out L)) = (((ps.map fun p => p.2.names).flatten).map L).sum := by
  induction ps with
  | nil => rfl
  | cons p r ih =>
    rw [List.map_cons, tot_cons, ih fun q hq => h q (List.mem_cons_of_mem _ hq), List.map_cons, List.flatten_cons, List.map_append, List.sum_append, ← h p List.mem_cons_self]
theorem wf_pos {d : Nat} {ps : List (Int × Tr)} {L : Str → Nat} (h : (Tr.mix ps).wf (d + 1)) : Pos (ps.map fun p => (p.1.toNat, p.2.out L)) := by
  unfold Tr.wf at h
  intro q hq
  obtain ⟨p, hp, rfl⟩ := List.mem_map.mp hq
  have := (h.2.2 p hp).1
  show 1 ≤ p.1.toNat
  omega
theorem out_len {L : Str → Nat} : ∀ (d : Nat) {t : Tr}, t.wf d → (t.out L).length = (t.names.map L).sum
  | d, .feed n, _ => by rw [Tr.out_feed, Tr.names_feed, List.length_map, List.length_range]; simp
  | 0, .mix ps, h => by unfold Tr.wf at h; exact h.elim
  | d + 1, .mix ps, h => by
    rw [Tr.out_mix, Tr.names_mix, len_R (wf_pos h)]
    refine tot_map fun p hp => ?_
    unfold Tr.wf at h
    exact out_len d (h.2.2 p hp).2.2
theorem sum_le {L : Str → Nat} {m : Nat} : ∀ {ns : List Str}, (∀ n ∈ ns, L n ≤ m) → (ns.map L).sum ≤ ns.length * m
  | [], _ => by simp
  | n :: r, h => by
    rw [List.map_cons, List.sum_cons, List.length_cons, Nat.succ_mul]
    have h1 := h n List.mem_cons_self
    have h2 := sum_le (ns := r) fun x hx => h x (List.mem_cons_of_mem _ hx)
    omega
/-- lengths that go with a tree -/
structure LenOk (t : Tr) (ls : List Int) : Prop where
  len : ls.length = t.names.length
  le : ∀ l ∈ ls, 0 ≤ l ∧ l ≤ 60
theorem LenOk.val {t : Tr} {ls : List Int} (h : LenOk t ls) : ∀ n ∈ t.names, valV (tab t.names ls) (Sum.inr n) = some (.int (Lof t.names ls n : Nat)) := fun n hn => Lof_val h.len.symm hn fun l hl => (h.le l hl).1
theorem LenOk.small {t : Tr} {ls : List Int} (h : LenOk t ls) : ∀ n ∈ t.names, Lof t.names ls n ≤ 60 := fun n hn => Lof_le h.len.symm hn h.le
theorem LenOk.out {t : Tr} {ls : List Int} (h : LenOk t ls) (v : TreeV t) : (t.out (Lof t.names ls)).length ≤ 480 := by
  rw [out_len 4 v.wf]
  have h1 := sum_le h.small
  have h2 := v.len
  have h3 : t.names.length * 60 ≤ 8 * 60 := Nat.mul_le_mul_right _ h2
  omega
end Mx
set_option Elab.async false
set_option maxRecDepth 100000
set_option linter.all false
/-! names in lists, parts with a name -/
namespace Mx
open PySem L2
theorem inV_strs {n : Str} : ∀ {ns : List Str}, inV (.str n) (ns.map V.str) = decide (n ∈ ns)
  | [] => rfl
  | m :: r => by
    show (eqV (.str m) (.str n) || inV (.str n) (r.map V.str)) = _
    rw [inV_strs]
    show ((m == n) || _) = _
    by_cases e : m = n
    · subst e; simp
    · have e' : n ≠ m := fun z => e z.symm
      simp [e, e']
theorem inV_other {x : V} (h : ∀ n, x ≠ .str n) : ∀ {ns : List Str}, inV x (ns.map V.str) = false
  | [] => rfl
  | m :: r => by
    show (eqV (.str m) x || inV x (r.map V.str)) = _
    rw [inV_other h (ns := r)]
    cases x with
    | str n => exact absurd rfl (h n)
    | _ => rfl
theorem flat_strs {ns : List Str} : (ns.map V.str).all flatV = true := by
  rw [List.all_eq_true]
  intro x hx
  obtain ⟨n, _, rfl⟩ := List.mem_map.mp hx
  rfl
end Mx
set_option Elab.async false
set_option maxRecDepth 100000
set_option linter.all false
/-! defs that raise -/
namespace Mx
open PySem L2
/-- an error class of the program, as it stands behind the top -/
structure ExcF (K : PySem.W.Frag) (mg : Str → Option Value) (x : Str) (C : Addr) : Prop where
  g : mg x = some (.ref C)
  x : PySem.W.excIn K C [.type "ValueError", .type "Exception", .type "BaseException", .type "object"] "ValueError.__new__" = true
  k : PySem.W.keepIn K (.ref C) = true
  b : PySem.W.subIn K (.ref C) (.type "BaseException") = some true
  t : PySem.W.typeIn K (.ref C) = some (.type "type")
theorem Kind.same {K : PySem.W.Frag} {H H' : Hp} {v : V} (s : Same H H') (h : Kind K H v) : Kind K H' v := by
  cases h with
  | int i => exact .int i
  | bl b => exact .bl b
  | str x => exact .str x
  | non => exact .non
  | lst h => exact .lst (s _ _ h)
  | tup h => exact .tup (sqT_same s _ _ h)
section
variable {P : Program} {w : World} {K : PySem.W.Frag} {mg : Str → Option Value} {base : Heap}
/-- a def whose exceptions have no context -/
theorem okN {x qual : Str} {st : Stmt} {f : Addr} {fd : FuncData} {N ps : List Str} {k : Nat} {sp : Sp} (F : Fun K x qual st f fd) (S : FnScope N ps (defScope st)) (len : ∀ vs H Q E, sp vs H Q E → vs.length = ps.length)
    (hb : ∀ (cdv : Value) (A : Around) (outer : List Env) (s : Shared) (H : Hp) (vs : List V) (Q : VK) (E : XK), Room k (A.deeper (PyProof.Rows.envOfC qual (defScope st) s.heap.objs.size f cdv)) → sp vs H Q E →
      ∃ t, PSs (cxOf (L2N.CX P w) P w K mg base N qual (defScope st) f cdv A outer s H E) (defBody st) t ∧ t { nx := fun _ H' => Q .non H', rt := Q } (L2.start N vs) H) : FnOk P w K mg base (L2N.CX P w) (k + 1) f fd ps sp := by
  obtain ⟨oc, od, kV, doc, pm, an, cdv, ct, osl, rfl, lk, hcd⟩ := F.ex
  exact fn_of lk hcd S len (hb cdv)
end
end Mx
set_option Elab.async false
set_option maxRecDepth 100000
set_option linter.all false
/-! require_name -/
namespace Mx
open PySem L2
/-- what is asked of a feed's name -/
def NameAsk (t : Tr) (x : V) (G : Str → Prop) (Bad : Prop) : Prop := flatV x = true ∧ (∀ n, x = .str n → n ∈ t.names → G n) ∧ ((¬ ∃ n, x = .str n ∧ n ∈ t.names) → Bad)
theorem NameAsk.good {t : Tr} {n : Str} {G : Str → Prop} {B : Prop} (h : n ∈ t.names) (g : G n) : NameAsk t (.str n) G B := ⟨rfl, fun m e _ => by cases e; exact g, fun no => absurd ⟨n, rfl, h⟩ no⟩
theorem NameAsk.bad {t : Tr} {x : V} {G : Str → Prop} {B : Prop} (f : flatV x = true) (h : ¬ ∃ n, x = .str n ∧ n ∈ t.names) (b : B) : NameAsk t x G B := ⟨f, fun n e hn => absurd ⟨n, e, hn⟩ h, fun _ => b⟩
theorem NameAsk.cases {t : Tr} {x : V} {G : Str → Prop} {B : Prop} (h : NameAsk t x G B) : (∃ n, x = .str n ∧ n ∈ t.names ∧ G n) ∨ (flatV x = true ∧ (¬ ∃ n, x = .str n ∧ n ∈ t.names) ∧ B) := by
  by_cases c : ∃ n, x = .str n ∧ n ∈ t.names
  · obtain ⟨n, e, hn⟩ := c
    exact .inl ⟨n, e, hn, h.2.1 n e hn⟩
  · exact .inr ⟨h.1, c, h.2.2 c⟩
def spReqName (K : PySem.W.Frag) (C : Addr) : Sp := fun vs H Q E => ∃ (v x : V) (t : Tr), vs = [v, x] ∧ TrAt K H 4 v t ∧ TreeV t ∧ NameAsk t x (fun _ => ∀ H', Same H H' → Q .non H') (∀ H', Same H H' → E (.ref C) none H')
section
variable {P : Program} {w : World} {K : PySem.W.Frag} {mg : Str → Option Value} {base : Heap}
theorem scRN : FnScope ["tree", "value"] ["tree", "value"] (defScope s_require_name) := ⟨rfl, rfl, rfl, by decide +kernel, rfl, by decide +kernel, by decide +kernel⟩
theorem ok_reqName {f fN C : Addr} {fd fdN : FuncData} (F : Fun K "require_name" "require_name" s_require_name f fd) (X : ExcF K mg "InvalidName" C) (DN : Def K mg "names_in" sNamesIn ["tree"] fN fdN) (GN : FnOk P w K mg base CX0 6 fN fdN ["tree"] (spNames K 4)) : FnOk P w K mg base (L2N.CX P w) 7 f fd ["tree", "value"] (spReqName K C) := by
  refine okN F scRN (fun vs H Q E h => ?_) (fun cdv A outer s H vs Q E hr h => ?_)
  · obtain ⟨v, x, t, rfl, _⟩ := h
    rfl
  · obtain ⟨v, x, t, rfl, hT, hV, h⟩ := h
    refine ⟨_, pss_one (ps_if (pt_cmpR op_notIn_seq (pv 1) (pe_call GN hr rfl DN.mg DN.fn.kp DN.b .nil pass0 (pa_cons (pv 0) pa_nil)) (by rfl))
        (pss_one (L2N.ps_raise rfl (L2N.takes_of rfl rfl rfl rfl) (L2N.pmk_own PySem.F.excBase_ValueError X.x X.g X.k (raises_own X.b X.t) rfl))) pss_nil), ?_⟩
    refine ⟨_, rfl, _, rfl, v, t, rfl, hT, hV.wf, by have := hV.len; omega, fun p H1 S1 np hp => ?_⟩
    refine ⟨p, _, rfl, .inl (SqL.of hp), h.1, flat_strs, _, rfl, ?_⟩
    rcases h.cases with ⟨n, rfl, hn, g⟩ | ⟨_, no, b⟩
    · refine ite2 (fun c => ?_) (fun _ => g H1 S1)
      have c' : (!inV (.str n) (t.names.map V.str)) = true := c
      rw [inV_strs, decide_eq_true hn] at c'
      cases c'
    · refine ite2 (fun _ => b H1 S1) (fun c => ?_)
      have ei : inV x (t.names.map V.str) = false := by
        cases x with
        | str n => rw [inV_strs, decide_eq_false fun hn => no ⟨n, rfl, hn⟩]
        | _ => exact inV_other fun n e => by cases e
      have c' : ¬ (!inV x (t.names.map V.str)) = true := c
      rw [ei] at c'
      exact absurd rfl c'
end
end Mx
set_option Elab.async false
set_option maxRecDepth 100000
set_option linter.all false
namespace Mx
open PySem L2
section
variable {P : Program} {w : World} {K : PySem.W.Frag} {mg : Str → Option Value} {base : Heap}
theorem scFeedsOf : FnScope ["tree"] ["tree"] (defScope sFeedsOf) := ⟨rfl, rfl, rfl, by decide +kernel, rfl, by decide +kernel, by decide +kernel⟩
theorem ok_feedsOf {f fT fN : Addr} {fd fdT fdN : FuncData} (F : Fun K "feeds_of" "feeds_of" sFeedsOf f fd) (DT : Def K mg "require_tree" sReqTree ["value"] fT fdT) (GT : FnOk P w K mg base CX0 12 fT fdT ["value"] (spReqTree K))
    (DN : Def K mg "names_in" sNamesIn ["tree"] fN fdN) (GN : FnOk P w K mg base CX0 6 fN fdN ["tree"] (spNames K 4)) : FnOk P w K mg base CX0 13 f fd ["tree"] (spFeedsOf K) := by
  refine F.ok scFeedsOf (fun vs H Q E h => ?_) (fun cdv A outer s H vs Q E hr h => ?_)
  · obtain ⟨v, t, rfl, _⟩ := h
    rfl
  · obtain ⟨v, t, rfl, hT, hV, k⟩ := h
    refine ⟨_, pss_cons (ps_expr (pe_call GT hr rfl DT.mg DT.fn.kp DT.b .nil pass0 (pa_cons (pv 0) pa_nil))) (pss_one (ps_ret (pe_call GN (hr.mono (by decide)) rfl DN.mg DN.fn.kp DN.b .nil pass0 (pa_cons (pv 0) pa_nil)))), ?_⟩
    refine ⟨_, rfl, v, t, rfl, hT, hV, fun H1 S1 => ?_⟩
    refine ⟨_, rfl, v, t, rfl, TrAt.keep (sqT_same S1) _ hT, hV.wf, by have := hV.len; omega, fun p H2 S2 np hp => ?_⟩
    exact k p H2 (S1.trans S2) (Same.free S1 np) hp
end
end Mx
set_option Elab.async false
set_option maxRecDepth 100000
set_option linter.all false
namespace Mx
open PySem L2
def okLens (t : Tr) (xs : List V) : Prop := xs.length = t.names.length ∧ ∀ x ∈ xs, whole x 0 60 = true
/-- lengths that may be anything of these kinds -/
def spReqLen (K : PySem.W.Frag) (C : Addr) : Sp := fun vs H Q E => ∃ (v u : V) (t : Tr), vs = [v, u] ∧ TrAt K H 4 v t ∧ TreeV t ∧
  ((∃ tl xs, u = .ref tl ∧ SqT K H tl xs ∧ xs.length ≤ 1000 ∧ (∀ x ∈ xs, Kind K H x) ∧ (okLens t xs → ∀ H', Same H H' → Q .non H') ∧ (¬ okLens t xs → ∀ H', Same H H' → E (.ref C) none H')) ∨
   ((u = .non ∨ ∃ a xs, u = .ref a ∧ H a = some (.lst xs)) ∧ ∀ H', Same H H' → E (.ref C) none H'))
section
variable {P : Program} {w : World} {K : PySem.W.Frag} {mg : Str → Option Value} {base : Heap}
theorem scReqLen : FnScope ["tree", "value", "length"] ["tree", "value"] (defScope sReqLen) := ⟨rfl, rfl, rfl, by decide +kernel, rfl, by decide +kernel, by decide +kernel⟩
theorem ok_reqLenN {f fF fW C : Addr} {fd fdF fdW : FuncData} (F : Fun K "require_lengths" "require_lengths" sReqLen f fd) (B : Blt mg) (Cs : ∃ t, mg "GREATEST_LENGTH" = some (.int 60 t)) (X : ExcF K mg "InvalidLengths" C) (DF : Def K mg "feeds_of" sFeedsOf ["tree"] fF fdF) (GF : FnOk P w K mg base CX0 13 fF fdF ["tree"] (spFeedsOf K))
    (DW : Def K mg "is_whole" sIsWhole ["value", "low", "high"] fW fdW) (GW : FnOk P w K mg base CX0 2 fW fdW ["value", "low", "high"] (spWhole K)) : FnOk P w K mg base (L2N.CX P w) 14 f fd ["tree", "value"] (spReqLen K C) := by
  obtain ⟨t60, h60⟩ := Cs
  refine okN F scReqLen (fun vs H Q E h => ?_) (fun cdv A outer s H vs Q E hr h => ?_)
  · obtain ⟨v, u, t, rfl, _⟩ := h
    rfl
  · obtain ⟨v, u, t, rfl, hT, hV, h⟩ := h
    refine ⟨_, pss_cons (ps_if (PW.pt (pw_or (pt_not (pt_val (pe_callB call_isi (by rfl) B.isinstance (by decide +kernel) (pa_cons (pv 1) (pa_cons (pe_bltn (v := .ty "tuple") (by rfl) B.tuple (by decide +kernel) rfl) pa_nil)))))
          (pw_or1 (pt_cmpR op_ne (pe_callB call_len_seq (by rfl) B.len PySem.boot_len (pa_cons (pv 1) pa_nil)) (pe_callB call_len_seq (by rfl) B.len PySem.boot_len (pa_cons (pe_call GF hr rfl DF.mg DF.fn.kp DF.b .nil pass0 (pa_cons (pv 0) pa_nil)) pa_nil)) (nomark _)))))
        (pss_one (L2N.ps_raise rfl (L2N.takes_of rfl rfl rfl rfl) (L2N.pmk_own PySem.F.excBase_ValueError X.x X.g X.k (raises_own X.b X.t) rfl))) pss_nil)
      (pss_one (ps_for (passes_of rfl) rfl (pi_tup (pv 1)) (pg_name (i := 2) scReqLen.nd rfl (Or.inl rfl))
        (pss_one (ps_if (pt_not (pt_val (pe_call GW (hr.mono (by decide)) rfl DW.mg DW.fn.kp DW.b .nil pass0 (pa_cons (pv 2) (pa_cons pe_int (pa_cons (pe_glob (v := .int 60) rfl h60 ⟨_, rfl⟩) pa_nil))))))
          (pss_one (L2N.ps_raise rfl (L2N.takes_of rfl rfl rfl rfl) (L2N.pmk_own PySem.F.excBase_ValueError X.x X.g X.k (raises_own X.b X.t) rfl))) pss_nil)))), ?_⟩
    rcases h with ⟨tl, xs, rfl, hs, hx1000, hk, good, bad⟩ | ⟨hu, bad⟩
    · refine ⟨_, rfl, _, _, _, _, true, rfl, .ty _, tyx_tup hs, kit_ty (by decide +kernel), _, rfl, ?_⟩
      refine ⟨_, rfl, tl, _, rfl, .inr hs, _, rfl, v, t, rfl, hT, hV, fun q H1 S1 nq hq => ?_⟩
      refine ⟨q, _, rfl, .inl (SqL.of hq), rfl, _, rfl, ?_⟩
      refine ite2 (fun c => ?_) (fun c => ?_)
      · refine bad (fun z => ?_) H1 S1
        have z1 := z.1
        rw [List.length_map, z1] at c
        simp at c
      · have hl : xs.length = t.names.length := by
          rw [List.length_map] at c
          have c' : ¬ (!decide (V.int ((xs.length : Nat) : Int) = V.int ((t.names.length : Nat) : Int))) = true := c
          simp at c'
          omega
        refine ⟨_, rfl, tl, rfl, ⟨_, sqT_same S1 _ _ hs⟩, for_tup (K := K) (a := tl) (xs := xs) (fun i σ H' => ∃ v2 : Option V, σ = [some v, some (.ref tl), v2] ∧ Same H H' ∧ ∀ x ∈ xs.take i, whole x 0 60 = true) ?_ ?_ ?_ ?_⟩
        · exact ⟨_, rfl, S1, fun x hx => by simp at hx⟩
        · rintro i σ H' _ ⟨v2, rfl, S2, _⟩
          exact sqT_same S2 _ _ hs
        · rintro i x σ H' hx ⟨v2, rfl, S2, hall⟩
          have hxm : x ∈ xs := List.mem_of_getElem? hx
          refine ⟨_, rfl, x, _, _, rfl, (hk x hxm).same S2, _, rfl, ?_⟩
          refine ite2 (fun c2 => ?_) (fun c2 => ?_)
          · refine bad (fun z => ?_) H' S2
            rw [z.2 x hxm] at c2
            cases c2
          · have c3 : whole x 0 60 = true := by simpa using c2
            refine ⟨_, rfl, S2, fun y hy => ?_⟩
            rw [take_succ_of hx] at hy
            rcases List.mem_append.mp hy with h | h
            · exact hall y h
            · rw [List.mem_singleton] at h
              rw [h]
              exact c3
        · rintro σ H' ⟨v2, rfl, S2, hall⟩
          rw [List.take_length] at hall
          exact good ⟨hl, hall⟩ H' S2
    · rcases hu with rfl | ⟨a, xs, rfl, ha⟩
      · exact ⟨_, rfl, _, _, _, _, false, rfl, .ty _, .base .non, kit_ty (by decide +kernel), _, rfl, bad H (Same.refl _)⟩
      · exact ⟨_, rfl, _, _, _, _, false, rfl, .ty _, .base (.lst ha), kit_ty (by decide +kernel), _, rfl, bad H (Same.refl _)⟩
end
end Mx
set_option Elab.async false
set_option maxRecDepth 100000
set_option linter.all false
/-! trees as data: their equality -/
namespace Mx
open PySem L2
mutual
def Tr.data : Tr → PyData
  | .feed s => .str s
  | .mix ps => .tuple (Tr.dataL ps)
def Tr.dataL : List (Int × Tr) → List PyData
  | [] => []
  | (w, t) :: r => .tuple [.int w, t.data] :: Tr.dataL r
end
theorem Tr.dataL_eq : ∀ ps : List (Int × Tr), Tr.dataL ps = ps.map fun p => .tuple [.int p.1, p.2.data]
  | [] => by rw [Tr.dataL]; rfl
  | (w, t) :: r => by rw [Tr.dataL, Tr.dataL_eq r]; rfl
def OkNm (t : Tr) : Prop := ∀ n ∈ t.names, PyData.canLay0 (.str n) = true
theorem tr_can : ∀ (d : Nat) {t : Tr}, t.wf d → OkNm t → PyData.canLay0 t.data = true
  | d, .feed s, _, h => by rw [Tr.data]; exact h s (by rw [Tr.names_feed]; exact List.mem_cons_self)
  | 0, .mix ps, w, _ => by unfold Tr.wf at w; exact w.elim
  | d + 1, .mix ps, w, h => by
    rw [Tr.data, Tr.dataL_eq, PyData.canLay0]
    have all : ∀ qs : List (Int × Tr), (∀ q ∈ qs, PyData.canLay0 q.2.data = true) → PyData.canLayAll0 (qs.map fun p => PyData.tuple [.int p.1, p.2.data]) = true := by
      intro qs
      induction qs with
      | nil => intro _; simp [PyData.canLayAll0]
      | cons q r ih =>
        intro hq
        rw [List.map_cons, PyData.canLayAll0, ih fun p hp => hq p (List.mem_cons_of_mem _ hp), PyData.canLay0, PyData.canLayAll0, PyData.canLayAll0, hq q List.mem_cons_self, PyData.canLayAll0]
        simp [PyData.canLay0]
    refine all ps fun q hq => tr_can d ?_ fun n hn => h n ?_
    · unfold Tr.wf at w
      exact (w.2.2 q hq).2.2
    · rw [Tr.names_mix]
      exact List.mem_flatten.mpr ⟨_, List.mem_map.mpr ⟨q, hq, rfl⟩, hn⟩
theorem tr_depth : ∀ (d : Nat) {t : Tr}, t.wf d → PyData.depth t.data ≤ 2 * d
  | d, .feed s, _ => by rw [Tr.data, PyData.depth]; omega
  | 0, .mix ps, w => by unfold Tr.wf at w; exact w.elim
  | d + 1, .mix ps, w => by
    rw [Tr.data, Tr.dataL_eq, PyData.depth]
    have all : ∀ qs : List (Int × Tr), (∀ q ∈ qs, PyData.depth q.2.data ≤ 2 * d) → PyData.depthAll (qs.map fun p => PyData.tuple [.int p.1, p.2.data]) ≤ 2 * d + 1 := by
      intro qs
      induction qs with
      | nil => intro _; simp [PyData.depthAll]
      | cons q r ih =>
        intro hq
        have h1 := hq q List.mem_cons_self
        have h2 := ih fun p hp => hq p (List.mem_cons_of_mem _ hp)
        rw [List.map_cons, PyData.depthAll, PyData.depth, PyData.depthAll, PyData.depthAll, PyData.depthAll, PyData.depth]
        omega
    have := all ps fun q hq => tr_depth d (by unfold Tr.wf at w; exact (w.2.2 q hq).2.2)
    omega
theorem tr_shaped {d : Nat} {t : Tr} (w : t.wf d) (hd : d ≤ 8) (h : OkNm t) : SeqAt.shaped t.data = true := by
  unfold SeqAt.shaped
  rw [tr_can d w h, Bool.true_and, decide_eq_true]
  have := tr_depth d w
  omega
end Mx
set_option Elab.async false
set_option maxRecDepth 100000
set_option linter.all false
/-! len(set(t)) of a tuple of texts -/
namespace Mx
open PySem PySem.Spec PyProof.Rows
section
variable {prog : Program} {w : World} {A : Around} {E : Value → Shared → Prop} {s : Shared}
set_option maxHeartbeats 4000000 in
/-- set(t) of a tuple of texts -/
theorem txt_setT {l : Addr} {items : Array Value} {xs : List Str} {Q : Value → Shared → Prop} (hh : A.handled = none) (hl : s.heap.IsTuple l items) (hn : xs.length = items.size) (small : items.size < 1000)
    (isT : ∀ (i : Nat) (v : Value), items[i]? = some v → ∃ (t : Tok) (x : Str), xs[i]? = some x ∧ v = Value.str x t)
    (fin : ∀ (h' : Heap) (tk : Nat), h'.SetOf (strKind prog w) s.heap.objs.size (fun y => decide (y ∈ xs.take items.size)) (dn xs items.size) → (∀ b o, b < s.heap.objs.size → s.heap.get? b = some o → h'.get? b = some o) → Q (.ref s.heap.objs.size) { s with heap := h', toks := tk }) :
    wpAny (model prog w) A (call (.type "set") [.ref l]) Q E s := by
  have ct := PySem.F.called_set
  obtain ⟨c0, tl0, mro0⟩ := ct.mro
  have k1 := ct.made
  have k2 := ct.sub
  have k3 := ct.notType
  have k4 := ct.canCreate
  have k5 := PySem.F.typeCall_set_1 (.ref l)
  have k6 := ct.init.lookup
  refine wpAny_call (codeAny_of_tree (show wpAny _ _ (callAny (.type "set") _) _ _ _ from wpAny_pure ⟨Code.quiet_builtin _ (by decide +kernel), codeAny_builtin PySem.F.entry_type_call ?_⟩))
  rw [Around.under_plain (weight_type_call_type "set" [Value.ref l] ([] : List (Str × Value))) rfl]; repeat (any_goals (first | assumption | wp_step))
  refine codeAny_mono (code_set_new_1 (.ref l) (E := E) (Q₁ := fun obj s1 => ∃ led : Bool, obj = .ref s.heap.objs.size ∧ s1 = { s with heap := s.heap.push (freshSet led) }) fun led => ⟨led, rfl, rfl⟩) fun r s1 hr => ?_
  match r, hr with
  | .error e, hr => exact hr
  | .ok .next, hr => exact hr.elim
  | .ok .brk, hr => exact hr.elim
  | .ok .cont, hr => exact hr.elim
  | .ok (.ret obj), hr =>
    obtain ⟨led, rfl, rfl⟩ := hr
    have isS : (s.heap.push (freshSet led)).get? s.heap.objs.size = some (freshSet led) := Heap.get?_push_size _ rfl
    have tyS : Shared.TypeIs { s with heap := s.heap.push (freshSet led) } (.ref s.heap.objs.size) "set" := ⟨_, isS, rfl⟩
    have k7 := ct.init.bind (.ref s.heap.objs.size)
    repeat (any_goals (first | assumption | wp_step))
    obtain ⟨Z, hZ⟩ : ∃ Z : Shared → Prop, Z = fun s2 => ∃ h' tk, s2 = { s with heap := h', toks := tk } ∧ h'.SetOf (strKind prog w) s.heap.objs.size (fun y => decide (y ∈ xs.take items.size)) (dn xs items.size) ∧ (∀ b o, b < s.heap.objs.size → s.heap.get? b = some o → h'.get? b = some o) := ⟨_, rfl⟩
    refine codeAny_mono (codeAny_call_builtin (R := wants (fun r s2 => r = .none ∧ Z s2) E) ct.init.plain PySem.F.entry_set_init (check_set_init_1 tyS ?_)) fun r2 s2 hr2 => ?_
    · obtain ⟨⟨oc, od, odt, osl⟩, ho, hc, nl, hd⟩ := hl
      simp only at hc hd
      subst hc hd
      have ho2 : (s.heap.push (freshSet led)).get? l = some { cls := .type "tuple", dict := od, data := .seq items nl, slots := osl } := Heap.get?_push_of_some _ ho
      have isL : (s.heap.push (freshSet led)).IsTuple l items := ⟨_, ho2, rfl, nl, rfl⟩
      have f1 := PySem.F.sub_tuple_set
      have f2 := PySem.F.sub_tuple_frozenset
      have f3 : (Value.type "tuple" == Value.type "dict") = false := by decide
      have lt : l < s.heap.objs.size := Heap.lt_size ho
      unfold Builtin.«set.__init__» noKeywords Builtin.Frozenset.updateFrom; generalize hPI : pyIter = PI; wp_walk; subst hPI
      refine wpAny_pyIter_tuple isL ?_; refine wpAny_bind (wpAny_runValue ?_)
      have sz : (s.heap.push (freshSet led)).objs.size = s.heap.objs.size + 1 := Heap.size_push _ _
      have ne1 : l ≠ (s.heap.push (freshSet led)).objs.size := by rw [sz]; exact Nat.ne_of_lt (Nat.lt_of_lt_of_le lt (Nat.le_succ _))
      refine txt_fillD ((Walks.tuple (show A.in1.in1.in1.handled = none by simp [hh]) _ l ne1 items).toS) (T := s.heap.objs.size) ?_ hn small isT items.size 0 _ (Nat.zero_add _) ⟨⟨_, Heap.get?_push_size _ rfl, rfl, rfl⟩, isL.at fun o q => Heap.get?_push_of_some _ q⟩ ?_ ?_
      · rw [sz]
        intro q
        rcases List.mem_cons.mp q with q | q
        · exact Nat.ne_of_lt (Nat.lt_succ_self _) q
        · rw [List.mem_singleton] at q
          exact Nat.ne_of_gt lt q
      · have g := Heap.get?_push_of_some (h := s.heap.push (freshSet led)) { cls := .type "tuple_iterator", data := .fields #[.ref l, .int 0 0] } isS
        exact SetOf_congr ((setObjOf_fresh (knd := strKind prog w) led).setOf g (by unfold scanBound; omega)) (fun _ => by simp) rfl
      · rintro ⟨h2, g2, d2, tk2, os2⟩ mv zz
        obtain rfl : g2 = s.gens := mv.gens
        obtain rfl : d2 = s.drawn := mv.drawn
        obtain rfl : os2 = s.os := mv.os
        show wpAny _ _ _ _ _ _
        refine wpAny_pure (wpAny_pure ⟨rfl, ?_⟩)
        rw [hZ]
        refine ⟨h2, tk2, rfl, zz, fun b o hb e => mv.heap b o ?_ (Heap.get?_push_of_some _ (Heap.get?_push_of_some _ e))⟩
        rw [sz]
        intro q
        rcases List.mem_cons.mp q with q | q
        · exact Nat.ne_of_lt hb q
        · rw [List.mem_singleton] at q
          exact Nat.ne_of_lt (Nat.lt_of_lt_of_le hb (Nat.le_succ _)) q
    · match r2, hr2 with
      | .error e, hr2 => exact hr2
      | .ok .next, hr2 => exact hr2.elim
      | .ok .brk, hr2 => exact hr2.elim
      | .ok .cont, hr2 => exact hr2.elim
      | .ok (.ret u), hr2 =>
        obtain ⟨rfl, z2⟩ := hr2
        rw [hZ] at z2
        obtain ⟨h2, tk2, rfl, z3, z4⟩ := z2
        repeat (any_goals (first | assumption | wp_step))
        exact fin _ _ z3 z4
end
open L2
section
variable {X : Cx}
/-- len(set(t)), t a tuple of texts -/
def tLenSetT (K : PySem.W.Frag) (ta : TE) : TE := fun σ H Q => ta σ H fun x H1 => ∃ (l : Addr) (xs : List Str), x = .ref l ∧ SqT K H1 l (xs.map V.str) ∧ xs.length < 1000 ∧ Q (.int ((dn xs xs.length : Nat) : Int)) H1
open PySem.Spec PyProof.Rows in
theorem pe_lenSetT {a : Expr} {ta : TE} {p p2 q pos : PySem.Pos} (hc : X.calm = true) (hg : Gl X "len") (hm : X.mg "len" = none) (hg2 : Gl X "set") (hm2 : X.mg "set" = none) (ha : PE X a ta)
    (na : starEach [a] X.env = (false, eval a X.env) :: starEach [] X.env := by rfl) : PE X (.Call (.Name "len" p) [.Call (.Name "set" p2) [a] [] q] [] pos) (tLenSetT X.K ta) := by
  refine ⟨fun pins s σ H Q I h => Call_ (ld_blt I hg hm boot_len (PyProof.Rows.callWith_builtin1 (PyProof.Rows.args_cons (Call_ (ld_blt I hg2 hm2 boot_set ?_)) rfl) rfl rfl))⟩
  refine PyProof.Rows.callWith_type1 (PyProof.Rows.args_cons (thn (ha.run pins s σ H _ I h) fun v s1 hh => PyProof.Rows.args_nil ?_) na) na rfl
  obtain ⟨x, H1, I1, r1, l, xs, rfl, hq, hlen, q1⟩ := hh
  cases r1
  obtain ⟨its, r, pl, _⟩ := I1.tuple hq
  have hsz : xs.length = its.toArray.size := by rw [List.size_toArray, ← r.length, List.length_map]
  refine txt_setT (I1.ok.hd hc) (show s1.heap.IsTuple l its.toArray from pl) hsz (by omega) (fun i v e => strs_get r i v (by simpa using e)) fun h2 tk zz keep => PyProof.Rows.args_nil ?_
  have I2 : Inv X pins σ H1 { s1 with heap := h2, toks := tk } := I1.kept fun b o e => keep b o (Heap.lt_size e) e
  rw [← hsz] at zz
  obtain ⟨o, es, ep, t, ho, hex, hd, _, _, _, hf, hn⟩ := zz
  exact call_len_set ho hex hd hf (by have := dn_le xs xs.length; rw [hn]; omega) ⟨.int ((dn xs xs.length : Nat) : Int), H1, I2.tok _, ⟨_, by rw [hn]⟩, q1⟩
end
end Mx
set_option Elab.async false
set_option maxRecDepth 100000
set_option linter.all false
/-! len(set(l)), l a list of texts, some of them perhaps twice -/
namespace Mx
open PySem PySem.Spec PyProof.Rows
open L2
section
variable {X : Cx}
/-- len(set(t)), t a list of texts -/
def tLenSetL (K : PySem.W.Frag) (ta : TE) : TE := fun σ H Q => ta σ H fun x H1 => ∃ (l : Addr) (xs : List Str), x = .ref l ∧ SqL K H1 l (xs.map V.str) ∧ xs.length < 1000 ∧ Q (.int ((dn xs xs.length : Nat) : Int)) H1
open PySem.Spec PyProof.Rows in
theorem pe_lenSetL {a : Expr} {ta : TE} {p p2 q pos : PySem.Pos} (hc : X.calm = true) (hg : Gl X "len") (hm : X.mg "len" = none) (hg2 : Gl X "set") (hm2 : X.mg "set" = none) (ha : PE X a ta)
    (na : starEach [a] X.env = (false, eval a X.env) :: starEach [] X.env := by rfl) : PE X (.Call (.Name "len" p) [.Call (.Name "set" p2) [a] [] q] [] pos) (tLenSetL X.K ta) := by
  refine ⟨fun pins s σ H Q I h => Call_ (ld_blt I hg hm boot_len (PyProof.Rows.callWith_builtin1 (PyProof.Rows.args_cons (Call_ (ld_blt I hg2 hm2 boot_set ?_)) rfl) rfl rfl))⟩
  refine PyProof.Rows.callWith_type1 (PyProof.Rows.args_cons (thn (ha.run pins s σ H _ I h) fun v s1 hh => PyProof.Rows.args_nil ?_) na) na rfl
  obtain ⟨x, H1, I1, r1, l, xs, rfl, hq, hlen, q1⟩ := hh
  cases r1
  obtain ⟨its, r, pl, _⟩ := I1.list hq
  have hsz : xs.length = its.toArray.size := by rw [List.size_toArray, ← r.length, List.length_map]
  refine txt_setL (I1.ok.hd hc) pl.isList hsz (by omega) (fun i v e => strs_get r i v (by simpa using e)) fun h2 tk zz keep => PyProof.Rows.args_nil ?_
  have I2 : Inv X pins σ H1 { s1 with heap := h2, toks := tk } := I1.kept fun b o e => keep b o (Heap.lt_size e) e
  rw [← hsz] at zz
  obtain ⟨o, es, ep, t, ho, hex, hd, _, _, _, hf, hn⟩ := zz
  exact call_len_set ho hex hd hf (by have := dn_le xs xs.length; rw [hn]; omega) ⟨.int ((dn xs xs.length : Nat) : Int), H1, I2.tok _, ⟨_, by rw [hn]⟩, q1⟩
end
end Mx
set_option Elab.async false
set_option maxRecDepth 100000
set_option linter.all false
/-! has_shape, is_tree, require_tree for any value -/
namespace Mx
open PySem L2
def wholeD (d : PyData) (lo hi : Int) : Bool := match d with
  | .int i => decide (lo ≤ i) && decide (i ≤ hi)
  | _ => false
/-- no text in it is too long -/
inductive Small : PyData → Prop
  | non : Small .none
  | bl (b : Bool) : Small (.bool b)
  | int (i : Int) : Small (.int i)
  | str (s : Str) (h : s.cps.size ≤ 1000) : Small (.str s)
  | lst (l : List PyData) (h : ∀ x ∈ l, Small x) : Small (.list l)
  | tup (l : List PyData) (h : ∀ x ∈ l, Small x) : Small (.tuple l)
def shapeD : Nat → PyData → Bool
  | 0, d => match d with
    | .str s => okName s
    | _ => false
  | j + 1, d => match d with
    | .str s => okName s
    | .tuple l => decide (1 ≤ l.length) && (decide (l.length ≤ 5) && l.all fun x => match x with
      | .tuple [w, p] => wholeD w 1 9 && shapeD j p
      | _ => false)
    | _ => false
def wpD (j : Nat) (x : PyData) : Bool := match x with
  | .tuple [w, p] => wholeD w 1 9 && shapeD j p
  | _ => false
theorem shapeD_tup (j : Nat) (l : List PyData) : shapeD (j + 1) (.tuple l) = (decide (1 ≤ l.length) && (decide (l.length ≤ 5) && l.all (wpD j))) := by
  unfold shapeD
  rfl
theorem shapeD_str (j : Nat) (s : Str) : shapeD j (.str s) = okName s := by cases j <;> rfl
mutual
/-- a value that is this data (lists are not locked) -/
inductive Dv (K : PySem.W.Frag) (H : Hp) : V → PyData → Prop
  | non : Dv K H .non .none
  | bl (b : Bool) : Dv K H (.bl b) (.bool b)
  | int (i : Int) : Dv K H (.int i) (.int i)
  | str (x : Str) : Dv K H (.str x) (.str x)
  | lst {a : Addr} {xs : List V} {ds : List PyData} : H a = some (.lst xs) → DvAll K H xs ds → Dv K H (.ref a) (.list ds)
  | tup {a : Addr} {xs : List V} {ds : List PyData} : SqT K H a xs → DvAll K H xs ds → Dv K H (.ref a) (.tuple ds)
inductive DvAll (K : PySem.W.Frag) (H : Hp) : List V → List PyData → Prop
  | nil : DvAll K H [] []
  | cons {v : V} {vs : List V} {d : PyData} {ds : List PyData} : Dv K H v d → DvAll K H vs ds → DvAll K H (v :: vs) (d :: ds)
end
mutual
theorem Dv.same {K : PySem.W.Frag} {H H' : Hp} (s : Same H H') : ∀ {v : V} {d : PyData}, Dv K H v d → Dv K H' v d
  | _, _, .non => .non
  | _, _, .bl b => .bl b
  | _, _, .int i => .int i
  | _, _, .str x => .str x
  | _, _, .lst h t => .lst (s _ _ h) (DvAll.same s t)
  | _, _, .tup h t => .tup (sqT_same s _ _ h) (DvAll.same s t)
theorem DvAll.same {K : PySem.W.Frag} {H H' : Hp} (s : Same H H') : ∀ {xs : List V} {ds : List PyData}, DvAll K H xs ds → DvAll K H' xs ds
  | _, _, .nil => .nil
  | _, _, .cons q t => .cons (Dv.same s q) (DvAll.same s t)
end
mutual
theorem Dv.dp {K : PySem.W.Frag} {H : Hp} : ∀ {v : V} {d : PyData}, Dv K H v d → Dp K H v d
  | _, _, .non => .non
  | _, _, .bl b => .bl b
  | _, _, .int i => .int i
  | _, _, .str x => .str x
  | _, _, .lst h t => .lst (SqL.of h) (DvAll.dp t)
  | _, _, .tup h t => .tup h (DvAll.dp t)
theorem DvAll.dp {K : PySem.W.Frag} {H : Hp} : ∀ {xs : List V} {ds : List PyData}, DvAll K H xs ds → DpAll K H xs ds
  | _, _, .nil => .nil
  | _, _, .cons q t => .cons (Dv.dp q) (DvAll.dp t)
end
theorem Dv.kind {K : PySem.W.Frag} {H : Hp} {v : V} {d : PyData} (h : Dv K H v d) : Kind K H v := by
  cases h with
  | non => exact .non
  | bl b => exact .bl b
  | int i => exact .int i
  | str x => exact .str x
  | lst hs _ => exact .lst hs
  | tup hs _ => exact .tup hs
theorem dvAll_get {K : PySem.W.Frag} {H : Hp} : ∀ {xs : List V} {ds : List PyData}, DvAll K H xs ds → ∀ {i : Nat} {x : V}, xs[i]? = some x → ∃ d, ds[i]? = some d ∧ Dv K H x d
  | _, _, .nil, i, x, h => by simp at h
  | _, _, .cons q t, 0, x, h => by cases h; exact ⟨_, rfl, q⟩
  | _, _, .cons q t, i + 1, x, h => by
    obtain ⟨d, h1, h2⟩ := dvAll_get t (i := i) (x := x) (by simpa using h)
    exact ⟨d, by simpa using h1, h2⟩
theorem dvAll_len {K : PySem.W.Frag} {H : Hp} : ∀ {xs : List V} {ds : List PyData}, DvAll K H xs ds → xs.length = ds.length
  | _, _, .nil => rfl
  | _, _, .cons _ t => by rw [List.length_cons, List.length_cons, dvAll_len t]
theorem Dv.whole {K : PySem.W.Frag} {H : Hp} {v : V} {d : PyData} (h : Dv K H v d) (lo hi : Int) : Mx.whole v lo hi = wholeD d lo hi := by
  cases h <;> rfl
def spShapeD (K : PySem.W.Frag) (j : Nat) : Sp := fun vs H Q _ => ∃ (v : V) (k : Int) (d : PyData), vs = [v, .int k] ∧ k + j = 4 ∧ j ≤ 4 ∧ Dv K H v d ∧ Small d ∧ ∀ H', Same H H' → Q (.bl (shapeD j d)) H'
def spWPD (K : PySem.W.Frag) (j : Nat) : Sp := fun vs H Q _ => ∃ (v : V) (k : Int) (d : PyData), vs = [v, .int k] ∧ k + j = 3 ∧ j ≤ 3 ∧ Dv K H v d ∧ Small d ∧ ∀ H', Same H H' → Q (.bl (wpD j d)) H'
theorem wpD_ne {j : Nat} : ∀ {ds : List PyData}, ds.length ≠ 2 → wpD j (.tuple ds) = false
  | [], _ => rfl
  | [_], _ => rfl
  | [_, _], h => absurd rfl h
  | _ :: _ :: _ :: _, _ => rfl
theorem Small.mem {l : List PyData} (h : Small (.tuple l)) : ∀ x ∈ l, Small x := by cases h with | tup _ h => exact h
section
variable {P : Program} {w : World} {K : PySem.W.Frag} {mg : Str → Option Value} {base : Heap}
theorem shapeD_step {j : Nat} {f fN fW : Addr} {fd fdN fdW : FuncData} (F : Def K mg "has_shape" sHasShape ["value", "around"] f fd) (B : Blt mg) (C : Cst mg) (DN : Def K mg "is_feed_name" sIsName ["text"] fN fdN) (GN : FnOk P w K mg base CX0 1 fN fdN ["text"] (spIsName K))
    (DW : Def K mg "is_weighted_part" sIsWP ["value", "around"] fW fdW) (GW : FnOk P w K mg base CX0 (2 * j + 1) fW fdW ["value", "around"] (pre (spWPD K) j)) : FnOk P w K mg base CX0 (2 * j + 2) f fd ["value", "around"] (spShapeD K j) := by
  obtain ⟨t3, h3⟩ := C.around
  obtain ⟨t5, h5⟩ := C.parts
  refine F.fn.ok scShape (fun vs H Q E h => ?_) (fun cdv A outer s H vs Q E hr h => ?_)
  · obtain ⟨v, k, d, rfl, _⟩ := h
    rfl
  · obtain ⟨v, n, d, rfl, hn, hj4, hD, hS, k⟩ := h
    refine ⟨_, pss_cons (ps_if (pt_val (pe_callB call_isi (by rfl) B.isinstance (by decide +kernel) (pa_cons (pv 0) (pa_cons (pe_bltn (v := .ty "str") (by rfl) B.str (by decide +kernel) rfl) pa_nil))))
        (pss_one (ps_ret (pe_call GN (hr.mono (by omega)) rfl DN.mg DN.fn.kp DN.b .nil pass0 (pa_cons (pv 0) pa_nil)))) pss_nil)
      (pss_cons (ps_if (PW.pt (pw_or (pt_not (pt_val (pe_callB call_isi (by rfl) B.isinstance (by decide +kernel) (pa_cons (pv 0) (pa_cons (pe_bltn (v := .ty "tuple") (by rfl) B.tuple (by decide +kernel) rfl) pa_nil)))))
          (pw_or1 (pt_cmpR op_gt (pv 1) (pe_glob (v := .int 3) rfl h3 ⟨_, rfl⟩) (nomark _))))) (pss_one (ps_ret pe_bl)) pss_nil)
      (pss_cons (ps_if (pt_not (pt_chain op_le op_le pe_int (pe_callB call_len_seq (by rfl) B.len PySem.boot_len (pa_cons (pv 0) pa_nil)) (pe_glob (v := .int 5) rfl h5 ⟨_, rfl⟩))) (pss_one (ps_ret pe_bl)) pss_nil)
      (pss_one (ps_ret (pe_callB (cr_all rfl) (by rfl) B.all (by decide +kernel) (pa_cons
        (pe_lc (own := [("pair", 2)]) (g := gName 2) (tt := tYes) (by rfl) scShape.nd (pi_tup (pv 0)) (blkOk_by (own := [("pair", 2)]) (N := nShape) (sc := defScope sHasShape) (by decide +kernel))
          (fun _ _ _ _ _ => pg_name (i := 2) scShape.nd rfl (Or.inl rfl)) (fun _ _ _ _ _ => pts_nil)
          (fun _ _ _ _ _ => pe_call GW hr rfl DW.mg DW.fn.kp DW.b .nil pass0 (pa_cons (pv 2) (pa_cons (pv 1) pa_nil)))) pa_nil)))))), ?_⟩
    have no : ∀ b, shapeD j d = b → ∀ H', Same H H' → Q (.bl b) H' := fun b e H' s => e ▸ k H' s
    cases hD with
    | non =>
      have e : shapeD j .none = false := by cases j <;> rfl
      exact ⟨_, rfl, _, _, _, _, false, rfl, .ty _, .base .non, kit_ty (by decide +kernel), _, rfl, _, rfl, _, _, _, _, false, rfl, .ty _, .base .non, kit_ty (by decide +kernel), _, rfl, no _ e H (Same.refl _)⟩
    | bl b =>
      have e : shapeD j (.bool b) = false := by cases j <;> rfl
      exact ⟨_, rfl, _, _, _, _, false, rfl, .ty _, .base (.bl b), kit_ty (by decide +kernel), _, rfl, _, rfl, _, _, _, _, false, rfl, .ty _, .base (.bl b), kit_ty (by decide +kernel), _, rfl, no _ e H (Same.refl _)⟩
    | int i =>
      have e : shapeD j (.int i) = false := by cases j <;> rfl
      exact ⟨_, rfl, _, _, _, _, false, rfl, .ty _, .base (.int i), kit_ty (by decide +kernel), _, rfl, _, rfl, _, _, _, _, false, rfl, .ty _, .base (.int i), kit_ty (by decide +kernel), _, rfl, no _ e H (Same.refl _)⟩
    | lst ha _ =>
      rename_i ds _
      have e : shapeD j (.list ds) = false := by cases j <;> rfl
      exact ⟨_, rfl, _, _, _, _, false, rfl, .ty _, .base (.lst ha), kit_ty (by decide +kernel), _, rfl, _, rfl, _, _, _, _, false, rfl, .ty _, .base (.lst ha), kit_ty (by decide +kernel), _, rfl, no _ e H (Same.refl _)⟩
    | str x =>
      have hx : x.cps.size ≤ 1000 := by cases hS with | str _ h => exact h
      refine ⟨_, rfl, _, _, _, _, true, rfl, .ty _, .base (.str x), kit_ty (by decide +kernel), _, rfl, ?_⟩
      exact ⟨_, rfl, x, rfl, hx, fun H' hS' => no _ (shapeD_str j x) H' hS'⟩
    | tup hs hA =>
      rename_i a xs ds
      have hl := dvAll_len hA
      refine ⟨_, rfl, _, _, _, _, false, rfl, .ty _, tyx_tup hs, kit_ty (by decide +kernel), _, rfl, ?_⟩
      refine ⟨_, rfl, _, _, _, _, true, rfl, .ty _, tyx_tup hs, kit_ty (by decide +kernel), _, rfl, ?_⟩
      refine ⟨_, rfl, _, _, rfl, rfl, _, rfl, ?_⟩
      cases j with
      | zero =>
        refine ite2 (fun _ => no _ rfl H (Same.refl _)) (fun c => absurd (decide_eq_true (by omega)) c)
      | succ i =>
        refine ite2 (fun c => absurd (of_decide_eq_true c) (by omega)) (fun _ => ?_)
        have hsh := shapeD_tup i ds
        refine ⟨_, rfl, a, _, rfl, .inr hs, _, _, rfl, rfl, _, rfl, ?_⟩
        refine ite2 (fun c2 => ?_) (fun c2 => ?_)
        · have c2' : 1 ≤ ds.length := by have z := of_decide_eq_true c2; omega
          refine ⟨_, _, rfl, rfl, _, rfl, ?_⟩
          by_cases c5 : ds.length ≤ 5
          · have e5 : decide ((xs.length : Int) ≤ 5) = true := decide_eq_true (by omega)
            rw [e5]
            refine ⟨_, rfl, a, rfl, ⟨_, hs⟩, fun D' nD => ?_⟩
            refine lc_tup (K := K) (a := a) (xs := xs) (fun i' H' => Same H H' ∧ H' D' = some (.lst (((ds.take i').map (wpD i)).map V.bl))) ?_ ?_ ?_ ?_
            · exact ⟨Same.new (Same.refl _) nD, upd_same⟩
            · rintro i' H' _ ⟨hS', _⟩
              exact sqT_same hS' _ _ hs
            · rintro i' x H' hx ⟨hS', hD'⟩
              obtain ⟨dx, hdx, hxd⟩ := dvAll_get hA hx
              have hil : i' < ds.length := (List.getElem?_eq_some_iff.mp hdx).1
              refine ⟨rfl, ?_⟩
              refine ⟨_, rfl, _, rfl, x, n, dx, rfl, by omega, by omega, hxd.same hS', hS.mem dx (List.mem_of_getElem? hdx), fun H2 S2 => ?_⟩
              refine ⟨_, S2 _ _ hD', by rw [List.length_map, List.length_map, List.length_take]; exact small1000 (by omega), Same.own (hS'.trans S2) nD, ?_⟩
              rw [upd_same, take_succ_of hdx, List.map_append, List.map_append]
              rfl
            · rintro H' ⟨hS', hD'⟩
              rw [hl, List.take_length] at hD'
              refine ⟨D', _, rfl, SqL.of hD', no _ ?_ H' hS'⟩
              rw [hsh, decide_eq_true c2', decide_eq_true c5, Bool.true_and, Bool.true_and, List.all_map]
              rfl
          · have e5 : decide ((xs.length : Int) ≤ 5) = false := decide_eq_false (by omega)
            rw [e5]
            refine no _ ?_ H (Same.refl _)
            rw [hsh, decide_eq_false c5, Bool.false_and, Bool.and_false]
        · have c2' : ¬ 1 ≤ ds.length := fun z => c2 (decide_eq_true (by omega))
          refine ⟨_, rfl, no _ ?_ H (Same.refl _)⟩
          rw [hsh, decide_eq_false c2', Bool.false_and]
theorem wpD_step {j : Nat} {f fW fS : Addr} {fd fdW fdS : FuncData} (F : Def K mg "is_weighted_part" sIsWP ["value", "around"] f fd) (B : Blt mg) (C : Cst mg) (DW : Def K mg "is_whole" sIsWhole ["value", "low", "high"] fW fdW) (GW : FnOk P w K mg base CX0 2 fW fdW ["value", "low", "high"] (spWhole K))
    (DS : Def K mg "has_shape" sHasShape ["value", "around"] fS fdS) (GS : FnOk P w K mg base CX0 (2 * j + 2) fS fdS ["value", "around"] (spShapeD K j)) : FnOk P w K mg base CX0 (2 * j + 3) f fd ["value", "around"] (spWPD K j) := by
  obtain ⟨t9, h9⟩ := C.weight
  refine F.fn.ok scWP (fun vs H Q E h => ?_) (fun cdv A outer s H vs Q E hr h => ?_)
  · obtain ⟨v, k, d, rfl, _⟩ := h
    rfl
  · obtain ⟨v, n, d, rfl, hn, hj3, hD, hS, k⟩ := h
    refine ⟨_, pss_cons (ps_if (PW.pt (pw_or (pt_not (pt_val (pe_callB call_isi (by rfl) B.isinstance (by decide +kernel) (pa_cons (pv 0) (pa_cons (pe_bltn (v := .ty "tuple") (by rfl) B.tuple (by decide +kernel) rfl) pa_nil)))))
          (pw_or1 (pt_cmpR op_ne (pe_callB call_len_seq (by rfl) B.len PySem.boot_len (pa_cons (pv 0) pa_nil)) pe_int (nomark _))))) (pss_one (ps_ret pe_bl)) pss_nil)
      (pss_cons (ps_asg (pv 0) (pg_tup rfl (pgs_cons (pg_name (i := 2) scWP.nd rfl (Or.inl rfl)) (pgs_cons (pg_name (i := 3) scWP.nd rfl (Or.inl rfl)) pgs_nil))))
      (pss_one (ps_ret (pe_and (pe_call GW (hr.mono (by omega)) rfl DW.mg DW.fn.kp DW.b .nil pass0 (pa_cons (pv 2) (pa_cons pe_int (pa_cons (pe_glob (v := .int 9) rfl h9 ⟨_, rfl⟩) pa_nil))))
        (pe_one (pe_call GS hr rfl DS.mg DS.fn.kp DS.b .nil pass0 (pa_cons (pv 3) (pa_cons (pe_op op_add (pv 1) pe_int) pa_nil)))))))), ?_⟩
    have no : ∀ b, wpD j d = b → ∀ H', Same H H' → Q (.bl b) H' := fun b e H' s => e ▸ k H' s
    cases hD with
    | non => exact ⟨_, rfl, _, _, _, _, false, rfl, .ty _, .base .non, kit_ty (by decide +kernel), _, rfl, no _ rfl H (Same.refl _)⟩
    | bl b => exact ⟨_, rfl, _, _, _, _, false, rfl, .ty _, .base (.bl b), kit_ty (by decide +kernel), _, rfl, no _ rfl H (Same.refl _)⟩
    | int i => exact ⟨_, rfl, _, _, _, _, false, rfl, .ty _, .base (.int i), kit_ty (by decide +kernel), _, rfl, no _ rfl H (Same.refl _)⟩
    | str x => exact ⟨_, rfl, _, _, _, _, false, rfl, .ty _, .base (.str x), kit_ty (by decide +kernel), _, rfl, no _ rfl H (Same.refl _)⟩
    | lst ha _ => exact ⟨_, rfl, _, _, _, _, false, rfl, .ty _, .base (.lst ha), kit_ty (by decide +kernel), _, rfl, no _ rfl H (Same.refl _)⟩
    | tup hs hA =>
      rename_i b xs ds
      refine ⟨_, rfl, _, _, _, _, true, rfl, .ty _, tyx_tup hs, kit_ty (by decide +kernel), _, rfl, ?_⟩
      refine ⟨_, rfl, b, _, rfl, .inr hs, rfl, _, rfl, ?_⟩
      have hl := dvAll_len hA
      by_cases h2 : ds.length = 2
      · obtain ⟨d1, d2, rfl⟩ : ∃ d1 d2, ds = [d1, d2] := by
          match ds, h2 with
          | [d1, d2], _ => exact ⟨d1, d2, rfl⟩
        obtain ⟨x1, x2, rfl⟩ : ∃ x1 x2, xs = [x1, x2] := by
          match xs, (hl.trans h2) with
          | [x1, x2], _ => exact ⟨x1, x2, rfl⟩
        refine ite2 (fun c => absurd c (by show ¬ (!decide (V.int (2 : Int) = V.int 2)) = true; decide)) (fun _ => ?_)
        cases hA with
        | cons q1 t1 =>
          cases t1 with
          | cons q2 t2 =>
            have hS2 := hS.mem d2 (.tail _ (.head _))
            refine ⟨_, rfl, b, _, rfl, hs, rfl, _, _, rfl, _, _, rfl, rfl, ?_⟩
            refine ⟨_, rfl, _, _, _, rfl, q1.kind, _, rfl, ?_⟩
            rw [q1.whole]
            by_cases cw : wholeD d1 1 9 = true
            · rw [cw]
              refine ⟨_, rfl, _, rfl, _, _, rfl, rfl, x2, _, d2, rfl, by omega, by omega, q2, hS2, fun H' hS' => no _ ?_ H' hS'⟩
              show (wholeD d1 1 9 && shapeD j d2) = _
              rw [cw, Bool.true_and]
            · have cw' : wholeD d1 1 9 = false := by simpa using cw
              rw [cw']
              refine no _ ?_ H (Same.refl _)
              show (wholeD d1 1 9 && shapeD j d2) = _
              rw [cw', Bool.false_and]
      · refine ite2 (fun _ => no _ (wpD_ne h2) H (Same.refl _)) (fun c => ?_)
        exfalso
        refine c ?_
        have e : ¬ (V.int ((xs.length : Nat) : Int) = V.int 2) := fun z => by
          have z2 := V.int.inj z
          omega
        show (!decide (V.int ((xs.length : Nat) : Int) = V.int 2)) = true
        rw [decide_eq_false e]
        rfl
theorem ok_shapeD {f fN fW fH : Addr} {fd fdN fdW fdH : FuncData} (F : Def K mg "has_shape" sHasShape ["value", "around"] f fd) (B : Blt mg) (C : Cst mg) (DN : Def K mg "is_feed_name" sIsName ["text"] fN fdN) (GN : FnOk P w K mg base CX0 1 fN fdN ["text"] (spIsName K))
    (DW : Def K mg "is_weighted_part" sIsWP ["value", "around"] fW fdW) (DH : Def K mg "is_whole" sIsWhole ["value", "low", "high"] fH fdH) (GH : FnOk P w K mg base CX0 2 fH fdH ["value", "low", "high"] (spWhole K)) : ∀ j : Nat, FnOk P w K mg base CX0 (2 * j + 2) f fd ["value", "around"] (spShapeD K j)
  | 0 => shapeD_step F B C DN GN DW (DW.fn.ok (k := 0) scWP (fun _ _ _ _ h => h.elim) (fun _ _ _ _ _ _ _ _ _ h => h.elim))
  | j + 1 => shapeD_step F B C DN GN DW (wpD_step DW B C DH GH F (ok_shapeD F B C DN GN DW DH GH j))
end
end Mx
set_option Elab.async false
set_option maxRecDepth 100000
set_option linter.all false
/-! is_tree, require_tree for any value -/
namespace Mx
open PySem L2
/-- data that has the shape is a tree's -/
theorem shape_tr (j : Nat) : ∀ {d : PyData}, Small d → shapeD j d = true → ∃ t : Tr, t.data = d ∧ t.wf j ∧ NmOk t := by
  have str : ∀ (j : Nat) {s : Str}, s.cps.size ≤ 1000 → shapeD j (.str s) = true → ∃ t : Tr, t.data = .str s ∧ t.wf j ∧ NmOk t := by
    intro j s hs h
    rw [shapeD_str] at h
    exact ⟨.feed s, by rw [Tr.data], by cases j <;> (unfold Tr.wf; trivial), fun n hn => by rw [Tr.names_feed, List.mem_singleton] at hn; rw [hn]; exact ⟨h, hs⟩⟩
  induction j with
  | zero =>
    intro d hS h
    cases hS with
    | str s hs => exact str 0 hs h
    | _ => cases h
  | succ j ih0 =>
    intro d hS h
    cases hS with
    | str s hs => exact str _ hs h
    | non => cases h
    | bl => cases h
    | int => cases h
    | lst => cases h
    | tup l hm =>
      rw [shapeD_tup, Bool.and_eq_true, Bool.and_eq_true, List.all_eq_true] at h
      obtain ⟨h1, h2, h3⟩ := h
      have h1 := of_decide_eq_true h1
      have h2 := of_decide_eq_true h2
      have all : ∀ (m : List PyData), (∀ x ∈ m, Small x) → (∀ x ∈ m, wpD j x = true) → ∃ ps : List (Int × Tr), (ps.map fun p => PyData.tuple [.int p.1, p.2.data]) = m ∧ ∀ p ∈ ps, 1 ≤ p.1 ∧ p.1 ≤ 9 ∧ p.2.wf j ∧ NmOk p.2 := by
        intro m
        induction m with
        | nil => intro _ _; exact ⟨[], rfl, fun p hp => by cases hp⟩
        | cons x r ih =>
          intro hs hw
          obtain ⟨ps, e, hp⟩ := ih (fun y hy => hs y (List.mem_cons_of_mem _ hy)) (fun y hy => hw y (List.mem_cons_of_mem _ hy))
          have hx := hw x List.mem_cons_self
          have sx := hs x List.mem_cons_self
          unfold wpD at hx
          split at hx
          · rename_i w p
            rw [Bool.and_eq_true] at hx
            obtain ⟨a1, a2⟩ := hx
            obtain ⟨i, rfl, i1, i9⟩ : ∃ i, w = .int i ∧ 1 ≤ i ∧ i ≤ 9 := by
              unfold wholeD at a1
              split at a1
              · rename_i i
                rw [Bool.and_eq_true] at a1
                exact ⟨i, rfl, of_decide_eq_true a1.1, of_decide_eq_true a1.2⟩
              · cases a1
            obtain ⟨t, et, wt, nt⟩ := ih0 (sx.mem p (.tail _ (.head _))) a2
            refine ⟨(i, t) :: ps, ?_, fun q hq => ?_⟩
            · rw [List.map_cons, e, et]
            · rcases List.mem_cons.mp hq with rfl | hq
              · exact ⟨i1, i9, wt, nt⟩
              · exact hp q hq
          · cases hx
      obtain ⟨ps, e, hp⟩ := all l hm h3
      have hl : ps.length = l.length := by rw [← e, List.length_map]
      refine ⟨.mix ps, by rw [Tr.data, Tr.dataL_eq, e], ?_, fun n hn => ?_⟩
      · unfold Tr.wf
        exact ⟨fun z => by rw [z] at hl; simp at hl; omega, by omega, fun p hpp => ⟨(hp p hpp).1, (hp p hpp).2.1, (hp p hpp).2.2.1⟩⟩
      · rw [Tr.names_mix] at hn
        obtain ⟨ms, hms, hnm⟩ := List.mem_flatten.mp hn
        obtain ⟨p, hpp, rfl⟩ := List.mem_map.mp hms
        exact (hp p hpp).2.2.2 n hnm
/-- a tree's data has the shape -/
theorem tr_shape : ∀ (j : Nat) {t : Tr}, t.wf j → NmOk t → shapeD j t.data = true
  | j, .feed s, _, h => by
    rw [Tr.data, shapeD_str]
    exact (h s (by rw [Tr.names_feed]; exact List.mem_cons_self)).1
  | 0, .mix ps, w, _ => by unfold Tr.wf at w; exact w.elim
  | j + 1, .mix ps, w, h => by
    have hw : ps ≠ [] ∧ ps.length ≤ 5 ∧ ∀ p ∈ ps, 1 ≤ p.1 ∧ p.1 ≤ 9 ∧ p.2.wf j := by unfold Tr.wf at w; exact w
    rw [Tr.data, Tr.dataL_eq, shapeD_tup, List.length_map, decide_eq_true hw.2.1, decide_eq_true (show 1 ≤ ps.length from List.length_pos_iff.mpr hw.1), Bool.true_and, Bool.true_and, List.all_eq_true]
    intro x hx
    obtain ⟨p, hp, rfl⟩ := List.mem_map.mp hx
    show (wholeD (.int p.1) 1 9 && shapeD j p.2.data) = true
    rw [tr_shape j (hw.2.2 p hp).2.2 fun n hn => h n (by rw [Tr.names_mix]; exact List.mem_flatten.mpr ⟨_, List.mem_map.mpr ⟨p, hp, rfl⟩, hn⟩)]
    unfold wholeD
    dsimp only
    rw [decide_eq_true (hw.2.2 p hp).1, decide_eq_true (hw.2.2 p hp).2.1]
    rfl
/-- a value that is a tree's data is the tree -/
theorem dv_tr {K : PySem.W.Frag} {H : Hp} : ∀ (j : Nat) {t : Tr} {v : V}, t.wf j → Dv K H v t.data → TrAt K H j v t
  | j, .feed s, v, _, h => by
    rw [Tr.data] at h
    cases h
    exact TrAt_feed.mpr rfl
  | 0, .mix ps, v, w, _ => by unfold Tr.wf at w; exact w.elim
  | j + 1, .mix ps, v, w, h => by
    have hw : ps ≠ [] ∧ ps.length ≤ 5 ∧ ∀ p ∈ ps, 1 ≤ p.1 ∧ p.1 ≤ 9 ∧ p.2.wf j := by unfold Tr.wf at w; exact w
    rw [Tr.data, Tr.dataL_eq] at h
    cases h with
    | tup hs hA =>
      rename_i a xs
      have hl := dvAll_len hA
      rw [List.length_map] at hl
      refine TrAt_mix.mpr ⟨a, xs, rfl, hs, hl, fun i x p hx hp => ?_⟩
      obtain ⟨d, hd, hxd⟩ := dvAll_get hA hx
      rw [List.getElem?_map, hp] at hd
      cases hd
      cases hxd with
      | tup hb hB =>
        cases hB with
        | cons q1 t1 =>
          cases t1 with
          | cons q2 t2 =>
            cases t2
            cases q1
            exact ⟨_, _, rfl, hb, dv_tr j (hw.2.2 p (List.mem_of_getElem? hp)).2.2 q2⟩
theorem tr_dv {K : PySem.W.Frag} {H : Hp} : ∀ (d : Nat) {v : V} {t : Tr}, TrAt K H d v t → Dv K H v t.data
  | d, v, .feed s, h => by
    rw [TrAt_feed.mp h, Tr.data]
    exact .str s
  | 0, v, .mix ps, h => (TrAt_zero h).elim
  | d + 1, v, .mix ps, h => by
    obtain ⟨a, xs, rfl, hs, hP⟩ := TrAt_mix.mp h
    rw [Tr.data, Tr.dataL_eq]
    have all : ∀ (xs : List V) (ps : List (Int × Tr)), PsAt K H d xs ps → DvAll K H xs (ps.map fun p => .tuple [.int p.1, p.2.data]) := by
      intro xs
      induction xs with
      | nil =>
        intro ps h
        have := h.1
        have e : ps = [] := List.eq_nil_of_length_eq_zero (by simpa using this.symm)
        rw [e]
        exact .nil
      | cons x xs ih =>
        intro ps h
        match ps, h with
        | [], h => have := h.1; simp at this
        | p :: ps, h =>
          obtain ⟨b, y, rfl, hb, hy⟩ := h.2 0 x p rfl rfl
          exact .cons (.tup hb (.cons (.int _) (.cons (tr_dv d hy) .nil))) (ih ps ⟨by have := h.1; simpa using this, fun j x' p' hx hp => h.2 (j + 1) x' p' (by simpa using hx) (by simpa using hp)⟩)
    exact .tup hs (all xs ps hP)
/-- a tree's data is that of no other tree -/
theorem data_inj : ∀ (t u : Tr), t.data = u.data → t = u
  | .feed s, .feed r, h => by rw [Tr.data, Tr.data] at h; cases h; rfl
  | .feed s, .mix ps, h => by rw [Tr.data, Tr.data] at h; cases h
  | .mix ps, .feed r, h => by rw [Tr.data, Tr.data] at h; cases h
  | .mix ps, .mix qs, h => by
    rw [Tr.data, Tr.data] at h
    have h2 : Tr.dataL ps = Tr.dataL qs := PyData.tuple.inj h
    congr 1
    exact dataL_inj ps qs h2
where
  dataL_inj : ∀ (ps qs : List (Int × Tr)), Tr.dataL ps = Tr.dataL qs → ps = qs
  | [], [], _ => rfl
  | [], (w, t) :: r, h => by rw [Tr.dataL, Tr.dataL] at h; cases h
  | (w, t) :: r, [], h => by rw [Tr.dataL, Tr.dataL] at h; cases h
  | (w, t) :: r, (x, u) :: r2, h => by
    rw [Tr.dataL, Tr.dataL] at h
    obtain ⟨h1, h2⟩ := List.cons.inj h
    have h3 := PyData.tuple.inj h1
    obtain ⟨h4, h5⟩ := List.cons.inj h3
    obtain ⟨h6, _⟩ := List.cons.inj h5
    have h7 := PyData.int.inj h4
    rw [h7, data_inj t u h6, dataL_inj r r2 h2]
theorem names_bound : ∀ (d : Nat) {t : Tr}, t.wf d → t.names.length ≤ 5 ^ d
  | d, .feed s, _ => by rw [Tr.names_feed]; exact Nat.pow_pos (by decide)
  | 0, .mix ps, w => by unfold Tr.wf at w; exact w.elim
  | d + 1, .mix ps, w => by
    have hw : ps ≠ [] ∧ ps.length ≤ 5 ∧ ∀ p ∈ ps, 1 ≤ p.1 ∧ p.1 ≤ 9 ∧ p.2.wf d := by unfold Tr.wf at w; exact w
    rw [Tr.names_mix]
    have all : ∀ qs : List (Int × Tr), (∀ q ∈ qs, q.2.wf d) → ((qs.map fun p => p.2.names).flatten).length ≤ qs.length * 5 ^ d := by
      intro qs
      induction qs with
      | nil => intro _; exact Nat.zero_le _
      | cons q r ih =>
        intro hq
        have h1 := names_bound d (hq q List.mem_cons_self)
        have h2 := ih fun p hp => hq p (List.mem_cons_of_mem _ hp)
        rw [List.map_cons, List.flatten_cons, List.length_append, List.length_cons, Nat.add_mul, Nat.one_mul]
        omega
    refine Nat.le_trans (all ps fun p hp => (hw.2.2 p hp).2.2) ?_
    rw [Nat.pow_succ, Nat.mul_comm (5 ^ d) 5]
    exact Nat.mul_le_mul_right _ hw.2.1
def spIsTreeD (K : PySem.W.Frag) : Sp := fun vs H Q _ => ∃ (v : V) (d : PyData), vs = [v] ∧ Dv K H v d ∧ Small d ∧ ∀ (b : Bool) (H' : Hp), Same H H' → (b = true ↔ ∃ t : Tr, t.data = d ∧ TreeV t) → Q (.bl b) H'
section
variable {P : Program} {w : World} {K : PySem.W.Frag} {mg : Str → Option Value} {base : Heap}
theorem ok_isTreeD {f fS fN : Addr} {fd fdS fdN : FuncData} (F : Fun K "is_tree" "is_tree" sIsTree f fd) (B : Blt mg) (C : Cst mg) (DS : Def K mg "has_shape" sHasShape ["value", "around"] fS fdS) (GS : FnOk P w K mg base CX0 10 fS fdS ["value", "around"] (spShapeD K 4))
    (DN : Def K mg "names_in" sNamesIn ["tree"] fN fdN) (GN : FnOk P w K mg base CX0 6 fN fdN ["tree"] (spNames K 4)) : FnOk P w K mg base CX0 11 f fd ["value"] (spIsTreeD K) := by
  obtain ⟨t8, h8⟩ := C.feeds
  refine F.ok scIsTree (fun vs H Q E h => ?_) (fun cdv A outer s H vs Q E hr h => ?_)
  · obtain ⟨v, d, rfl, _⟩ := h
    rfl
  · obtain ⟨v, d, rfl, hD, hS, k⟩ := h
    refine ⟨_, pss_cons (ps_if (pt_not (pt_val (pe_call GS hr rfl DS.mg DS.fn.kp DS.b .nil pass0 (pa_cons (pv 0) (pa_cons pe_int pa_nil))))) (pss_one (ps_ret pe_bl)) pss_nil)
      (pss_cons (ps_set (i := 1) scIsTree.nd rfl (Or.inl rfl) (pe_call GN (hr.mono (by decide)) rfl DN.mg DN.fn.kp DN.b .nil pass0 (pa_cons (pv 0) pa_nil)))
      (pss_one (ps_ret (pe_and (pe_cmpR op_le (pe_callB call_len_seq (by rfl) B.len PySem.boot_len (pa_cons (pv 1) pa_nil)) (pe_glob (v := .int 8) rfl h8 ⟨_, rfl⟩) (nomark _))
        (pe_one (pe_cmpR op_eq (pe_lenSetL rfl (by rfl) B.len (by rfl) B.set (pv 1)) (pe_callB call_len_seq (by rfl) B.len PySem.boot_len (pa_cons (pv 1) pa_nil)) (nomark _))))))), ?_⟩
    refine ⟨_, rfl, v, _, d, rfl, by decide, by decide, hD, hS, fun H1 S1 => ⟨_, rfl, ?_⟩⟩
    by_cases c : shapeD 4 d = true
    · rw [c]
      obtain ⟨t, rfl, hw, hn⟩ := shape_tr 4 hS c
      have hT := dv_tr 4 hw hD
      have hb : t.names.length ≤ 625 := names_bound 4 hw
      have huniq : ∀ u : Tr, u.data = t.data → u = t := fun u e => data_inj u t e
      refine ite2 (fun z => by cases z) (fun _ => ?_)
      refine ⟨_, rfl, v, t, rfl, TrAt.keep (sqT_same S1) _ hT, hw, by omega, fun p H2 S2 np hp => ?_⟩
      refine ⟨_, rfl, p, _, rfl, .inl (SqL.of hp), _, _, rfl, rfl, _, rfl, ?_⟩
      by_cases c8 : t.names.length ≤ 8
      · have e8 : decide (((t.names.map V.str).length : Int) ≤ 8) = true := decide_eq_true (by rw [List.length_map]; omega)
        rw [e8]
        refine ⟨_, rfl, p, _, rfl, SqL.of hp, by omega, ?_⟩
        refine ⟨_, rfl, p, _, rfl, .inl (SqL.of hp), rfl, ?_⟩
        by_cases nd : t.names.Nodup
        · have e9 : decide (V.int ((dn t.names t.names.length : Nat) : Int) = V.int (((t.names.map V.str).length : Nat) : Int)) = true := decide_eq_true (by rw [List.length_map, dn_nd nd _ (Nat.le_refl _)])
          rw [e9]
          exact k true H2 (S1.trans S2) ⟨fun _ => ⟨t, rfl, hw, nd, c8, hn⟩, fun _ => rfl⟩
        · obtain ⟨j, x, hx, hxt⟩ := dup_at nd
          have hlt := dn_lt hx hxt t.names.length (List.getElem?_eq_some_iff.mp hx).1 (Nat.le_refl _)
          have e9 : decide (V.int ((dn t.names t.names.length : Nat) : Int) = V.int (((t.names.map V.str).length : Nat) : Int)) = false := decide_eq_false (fun z => by
            have z2 := V.int.inj z
            rw [List.length_map] at z2
            omega)
          rw [e9]
          refine k false H2 (S1.trans S2) ⟨fun z => by (cases z), fun ⟨u, e, hu⟩ => ?_⟩
          rw [huniq u e] at hu
          exact absurd hu.nd nd
      · have e8 : decide (((t.names.map V.str).length : Int) ≤ 8) = false := decide_eq_false (by rw [List.length_map]; omega)
        rw [e8]
        refine k false H2 (S1.trans S2) ⟨fun z => by (cases z), fun ⟨u, e, hu⟩ => ?_⟩
        rw [huniq u e] at hu
        exact absurd hu.len c8
    · have c' : shapeD 4 d = false := by simpa using c
      rw [c']
      refine ite2 (fun _ => ?_) (fun z => absurd rfl z)
      refine k false H1 S1 ⟨fun z => by (cases z), fun ⟨u, e, hu⟩ => ?_⟩
      rw [← e, tr_shape 4 hu.wf hu.nm] at c'
      cases c'
def spReqTreeD (K : PySem.W.Frag) (CT : Addr) : Sp := fun vs H Q E => ∃ (v : V) (d : PyData), vs = [v] ∧ Dv K H v d ∧ Small d ∧ (∀ t : Tr, t.data = d → TreeV t → ∀ H', Same H H' → Q .non H') ∧ ((¬ ∃ t : Tr, t.data = d ∧ TreeV t) → ∀ H', Same H H' → E (.ref CT) none H')
theorem ok_reqTreeD {f fT CT : Addr} {fd fdT : FuncData} (F : Fun K "require_tree" "require_tree" sReqTree f fd) (X : ExcF K mg "InvalidTree" CT) (DT : Def K mg "is_tree" sIsTree ["value"] fT fdT) (GT : FnOk P w K mg base CX0 11 fT fdT ["value"] (spIsTreeD K)) : FnOk P w K mg base (L2N.CX P w) 12 f fd ["value"] (spReqTreeD K CT) := by
  refine okN F scReqTree (fun vs H Q E h => ?_) (fun cdv A outer s H vs Q E hr h => ?_)
  · obtain ⟨v, d, rfl, _⟩ := h
    rfl
  · obtain ⟨v, d, rfl, hD, hS, good, bad⟩ := h
    refine ⟨_, pss_one (ps_if (pt_not (pt_val (pe_call GT hr rfl DT.mg DT.fn.kp DT.b .nil pass0 (pa_cons (pv 0) pa_nil)))) (pss_one (L2N.ps_raise rfl (L2N.takes_of rfl rfl rfl rfl) (L2N.pmk_own PySem.F.excBase_ValueError X.x X.g X.k (raises_own X.b X.t) rfl))) pss_nil), ?_⟩
    refine ⟨_, rfl, v, d, rfl, hD, hS, fun b H1 S1 hb => ⟨_, rfl, ?_⟩⟩
    cases b with
    | true =>
      obtain ⟨t, e, hV⟩ := hb.mp rfl
      exact ite2 (fun z => by cases z) (fun _ => good t e hV H1 S1)
    | false => exact ite2 (fun _ => bad (fun z => by have := hb.mpr z; cases this) H1 S1) (fun z => absurd rfl z)
end
end Mx
set_option Elab.async false
set_option maxRecDepth 100000
set_option linter.all false
/-! values that are nothing that is asked for, and what the require_ functions say of them -/
namespace Mx
open PySem L2
/-- what is never reached -/
def sNo : TS := fun _ _ _ => False
theorem pss_no {X : Cx} {sts : List Stmt} : PSs X sts sNo := ⟨fun _ _ _ _ _ _ h => h.elim⟩
inductive OddV (K : PySem.W.Frag) (H : Hp) : V → Prop
  | non : OddV K H .non
  | bl (b : Bool) : OddV K H (.bl b)
  | int (i : Int) (h : i < 0) : OddV K H (.int i)
  | str (s : Str) (h : okName s = false) (hs : s.cps.size ≤ 1000) (hc : PyData.canLay0 (.str s) = true) : OddV K H (.str s)
  | tup {a : Addr} (h : SqT K H a [.int 1]) : OddV K H (.ref a)
theorem OddV.same {K : PySem.W.Frag} {H H' : Hp} {x : V} (s : Same H H') (h : OddV K H x) : OddV K H' x := by
  cases h with
  | non => exact .non
  | bl b => exact .bl b
  | int i h => exact .int i h
  | str t h hs hc => exact .str t h hs hc
  | tup h => exact .tup (sqT_same s _ _ h)
theorem OddV.kind {K : PySem.W.Frag} {H : Hp} {x : V} (h : OddV K H x) : Kind K H x := by
  cases h with
  | non => exact .non
  | bl b => exact .bl b
  | int i h => exact .int i
  | str t h hs hc => exact .str t
  | tup h => exact .tup h
end Mx
set_option Elab.async false
set_option maxRecDepth 100000
set_option linter.all false
/-! the order of the items in an output -/
namespace Mx
section
variable {α β : Type}
theorem rnd0_map (f : α → β) (rows : Rows α) : rnd0 (rows.map fun r => (r.1, r.2.map f)) = (rnd0 rows).map f := by
  induction rows with
  | nil => rfl
  | cons r rest ih => rw [List.map_cons, rnd0_cons, rnd0_cons, List.map_append, ih]; simp [List.map_take]
theorem dropw_map (f : α → β) (rows : Rows α) : dropw (rows.map fun r => (r.1, r.2.map f)) = (dropw rows).map fun r => (r.1, r.2.map f) := by
  unfold dropw
  simp [List.map_map, Function.comp_def, List.map_drop]
theorem rds_map (f : α → β) : ∀ (n : Nat) (rows : Rows α), rds n (rows.map fun r => (r.1, r.2.map f)) = (rds n rows).map f
  | 0, _ => rfl
  | n + 1, rows => by
    show rnd0 _ ++ rds n _ = (rnd0 rows ++ rds n (dropw rows)).map f
    rw [rnd0_map, dropw_map, rds_map f n, List.map_append]
theorem tot_rmap (f : α → β) (rows : Rows α) : tot (rows.map fun r => (r.1, r.2.map f)) = tot rows := by
  unfold tot
  simp [List.map_map, Function.comp_def]
theorem R_map (f : α → β) (rows : Rows α) : R (rows.map fun r => (r.1, r.2.map f)) = (R rows).map f := by
  unfold R
  rw [tot_rmap, rds_map]
/-- all items of the rows -/
def flat (rows : Rows α) : List α := (rows.map (·.2)).flatten
theorem flat_cons (r : Nat × List α) (rest : Rows α) : flat (r :: rest) = r.2 ++ flat rest := rfl
theorem rnd0_perm : ∀ rows : Rows α, List.Perm (rnd0 rows ++ flat (dropw rows)) (flat rows)
  | [] => List.Perm.refl _
  | r :: rest => by
    rw [rnd0_cons, dropw_cons, flat_cons, flat_cons]
    show List.Perm ((r.2.take r.1 ++ rnd0 rest) ++ (r.2.drop r.1 ++ flat (dropw rest))) (r.2 ++ flat rest)
    have h1 : List.Perm ((r.2.take r.1 ++ rnd0 rest) ++ (r.2.drop r.1 ++ flat (dropw rest))) (r.2.take r.1 ++ (r.2.drop r.1 ++ (rnd0 rest ++ flat (dropw rest)))) := by
      rw [List.append_assoc, ← List.append_assoc (rnd0 rest), ← List.append_assoc (r.2.drop r.1)]
      exact List.Perm.append_left _ (List.Perm.append_right _ List.perm_append_comm)
    refine h1.trans ?_
    rw [← List.append_assoc, List.take_append_drop]
    exact List.Perm.append_left _ (rnd0_perm rest)
theorem flat_nil {rows : Rows α} (h : tot rows = 0) : flat rows = [] := by
  have : (flat rows).length = tot rows := by unfold flat tot; simp [List.length_flatten, List.map_map, Function.comp_def]
  exact List.length_eq_zero_iff.mp (by omega)
theorem R_perm : ∀ (n : Nat) {rows : Rows α}, Pos rows → tot rows ≤ n → List.Perm (R rows) (flat rows)
  | 0, rows, _, h => by rw [R_zero (by omega), flat_nil (by omega)]
  | n + 1, rows, hp, h => by
    rcases Nat.eq_zero_or_pos (tot rows) with z | z
    · rw [R_zero z, flat_nil z]
    · have := tot_dropw hp z
      rw [R_unfold hp]
      exact (List.Perm.append_left _ (R_perm n hp.drop (by omega))).trans (rnd0_perm rows)
/-- ahead by the round, the row, the place -/
def Ahead (W : Nat → Nat) (a b : Nat × Nat) : Prop := a.2 / W a.1 < b.2 / W b.1 ∨ (a.2 / W a.1 = b.2 / W b.1 ∧ (a.1 < b.1 ∨ (a.1 = b.1 ∧ a.2 < b.2)))
theorem Ahead.irrefl {W : Nat → Nat} {a : Nat × Nat} : ¬ Ahead W a a := by
  unfold Ahead
  omega
theorem Ahead.asymm {W : Nat → Nat} {a b : Nat × Nat} (h : Ahead W a b) : ¬ Ahead W b a := by
  unfold Ahead at *
  omega
abbrev Tg (α : Type) := Nat × Nat × α
abbrev tk (y : Tg α) : Nat × Nat := (y.1, y.2.1)
/-- rows of tagged items, t rounds gone, the first row is the s-th -/
def Iv (W : Nat → Nat) (t s : Nat) (rows : Rows (Tg α)) : Prop := ∀ j r, rows[j]? = some r → r.1 = W (s + j) ∧ 1 ≤ r.1 ∧ ∀ k y, r.2[k]? = some y → y.1 = s + j ∧ y.2.1 = r.1 * t + k
theorem Iv.tail {W : Nat → Nat} {t s : Nat} {r : Nat × List (Tg α)} {rest : Rows (Tg α)} (h : Iv W t s (r :: rest)) : Iv W t (s + 1) rest := fun j q hq => by
  obtain ⟨h1, h2, h3⟩ := h (j + 1) q (by simpa using hq)
  have e : s + (j + 1) = s + 1 + j := by omega
  rw [e] at h1 h3
  exact ⟨h1, h2, h3⟩
theorem Iv.drop {W : Nat → Nat} {t s : Nat} {rows : Rows (Tg α)} (h : Iv W t s rows) : Iv W (t + 1) s (dropw rows) := fun j q hq => by
  unfold dropw at hq
  rw [List.getElem?_map] at hq
  obtain ⟨r, hr, rfl⟩ := Option.map_eq_some_iff.mp hq
  obtain ⟨h1, h2, h3⟩ := h j r hr
  refine ⟨h1, h2, fun k y hy => ?_⟩
  have hy' : r.2[r.1 + k]? = some y := by
    have : (r.2.drop r.1)[k]? = some y := hy
    rw [List.getElem?_drop] at this
    exact this
  obtain ⟨e1, e2⟩ := h3 _ _ hy'
  refine ⟨e1, ?_⟩
  show y.2.1 = r.1 * (t + 1) + k
  rw [e2, Nat.mul_succ]
  omega
theorem Iv.rnd {W : Nat → Nat} {t : Nat} : ∀ {s : Nat} {rows : Rows (Tg α)}, Iv W t s rows → ((rnd0 rows).Pairwise fun a b => Ahead W (tk a) (tk b)) ∧ ∀ y ∈ rnd0 rows, y.2.1 / W y.1 = t ∧ s ≤ y.1
  | s, [], _ => ⟨List.Pairwise.nil, fun y hy => by cases hy⟩
  | s, r :: rest, h => by
    obtain ⟨p1, p2⟩ := Iv.rnd h.tail
    obtain ⟨h1, h2, h3⟩ := h 0 r rfl
    have inT : ∀ k y, (r.2.take r.1)[k]? = some y → y.1 = s ∧ y.2.1 = r.1 * t + k ∧ k < r.1 := fun k y hy => by
      have hk : k < r.1 := by
        have := (List.getElem?_eq_some_iff.mp hy).1
        rw [List.length_take] at this
        omega
      rw [List.getElem?_take_of_lt hk] at hy
      obtain ⟨e1, e2⟩ := h3 k y hy
      exact ⟨e1, e2, hk⟩
    have rd : ∀ k, k < r.1 → (r.1 * t + k) / r.1 = t := fun k hk => by
      rw [Nat.mul_add_div (by omega), Nat.div_eq_of_lt hk]
      omega
    have inM : ∀ y ∈ r.2.take r.1, y.2.1 / W y.1 = t ∧ y.1 = s := fun y hy => by
      obtain ⟨k, hk⟩ := List.mem_iff_getElem?.mp hy
      obtain ⟨e1, e2, e3⟩ := inT k y hk
      have e4 : W y.1 = r.1 := by rw [e1, h1]; rfl
      exact ⟨by rw [e4, e2, rd k e3], e1⟩
    rw [rnd0_cons]
    refine ⟨List.pairwise_append.mpr ⟨?_, p1, fun a ha b hb => ?_⟩, fun y hy => ?_⟩
    · rw [List.pairwise_iff_getElem]
      intro i j hi hj hij
      obtain ⟨a1, a2, a3⟩ := inT i _ (List.getElem?_eq_getElem hi)
      obtain ⟨b1, b2, b3⟩ := inT j _ (List.getElem?_eq_getElem hj)
      obtain ⟨a4, _⟩ := inM _ (List.getElem_mem hi)
      obtain ⟨b4, _⟩ := inM _ (List.getElem_mem hj)
      refine .inr ⟨a4.trans b4.symm, .inr ⟨a1.trans b1.symm, ?_⟩⟩
      show ((r.2.take r.1)[i]).2.1 < ((r.2.take r.1)[j]).2.1
      rw [a2, b2]
      omega
    · obtain ⟨a1, a2⟩ := inM a ha
      obtain ⟨b1, b2⟩ := p2 b hb
      refine .inr ⟨a1.trans b1.symm, .inl ?_⟩
      show a.1 < b.1
      omega
    · rcases List.mem_append.mp hy with hy | hy
      · obtain ⟨a1, a2⟩ := inM y hy
        exact ⟨a1, by omega⟩
      · obtain ⟨b1, b2⟩ := p2 y hy
        exact ⟨b1, by omega⟩
theorem Iv.rds {W : Nat → Nat} : ∀ (n : Nat) {t : Nat} {rows : Rows (Tg α)}, Iv W t 0 rows → ((rds n rows).Pairwise fun a b => Ahead W (tk a) (tk b)) ∧ ∀ y ∈ rds n rows, t ≤ y.2.1 / W y.1
  | 0, _, _, _ => ⟨List.Pairwise.nil, fun y hy => by cases hy⟩
  | n + 1, t, rows, h => by
    obtain ⟨p1, p2⟩ := h.rnd
    obtain ⟨q1, q2⟩ := Iv.rds n h.drop
    show ((rnd0 rows ++ Mx.rds n (dropw rows)).Pairwise _) ∧ _
    refine ⟨List.pairwise_append.mpr ⟨p1, q1, fun a ha b hb => .inl ?_⟩, fun y hy => ?_⟩
    · show a.2.1 / W a.1 < b.2.1 / W b.1
      have := (p2 a ha).1
      have := q2 b hb
      omega
    · rcases List.mem_append.mp hy with hy | hy
      · have := (p2 y hy).1
        omega
      · have := q2 y hy
        omega
def tag (rows : Rows α) : Rows (Tg α) := rows.mapIdx fun i r => (r.1, r.2.mapIdx fun p x => (i, p, x))
def wt (rows : Rows α) (i : Nat) : Nat := ((rows[i]?).map (·.1)).getD 1
theorem tag_get {rows : Rows α} {i : Nat} {q : Nat × List (Tg α)} (h : (tag rows)[i]? = some q) : ∃ r, rows[i]? = some r ∧ q = (r.1, r.2.mapIdx fun p x => (i, p, x)) := by
  unfold tag at h
  rw [List.getElem?_mapIdx] at h
  obtain ⟨r, hr, rfl⟩ := Option.map_eq_some_iff.mp h
  exact ⟨r, hr, rfl⟩
theorem tag_un (rows : Rows α) : (tag rows).map (fun r => (r.1, r.2.map fun y => y.2.2)) = rows := by
  apply List.ext_getElem?
  intro i
  unfold tag
  rw [List.getElem?_map, List.getElem?_mapIdx]
  cases h : rows[i]? with
  | none => rfl
  | some r =>
    simp only [Option.map_some]
    congr 1
    have : (r.2.mapIdx fun p x => (i, p, x)).map (fun y : Tg α => y.2.2) = r.2 := by
      apply List.ext_getElem?
      intro k
      rw [List.getElem?_map, List.getElem?_mapIdx]
      cases r.2[k]? <;> rfl
    rw [this]
theorem tag_R (rows : Rows α) : R rows = (R (tag rows)).map fun y => y.2.2 := by
  rw [← R_map, tag_un]
theorem tag_pos {rows : Rows α} (hp : Pos rows) : Pos (tag rows) := fun q hq => by
  obtain ⟨i, hi⟩ := List.mem_iff_getElem?.mp hq
  obtain ⟨r, hr, rfl⟩ := tag_get hi
  exact hp r (List.mem_of_getElem? hr)
theorem tag_iv {rows : Rows α} (hp : Pos rows) : Iv (wt rows) 0 0 (tag rows) := fun j q hq => by
  obtain ⟨r, hr, rfl⟩ := tag_get hq
  refine ⟨?_, hp r (List.mem_of_getElem? hr), fun k y hy => ?_⟩
  · show r.1 = wt rows (0 + j)
    unfold wt
    rw [Nat.zero_add, hr]
    rfl
  · have hy' : (r.2.mapIdx fun p x => (j, p, x))[k]? = some y := hy
    rw [List.getElem?_mapIdx] at hy'
    obtain ⟨x, hx, rfl⟩ := Option.map_eq_some_iff.mp hy'
    exact ⟨by simp, by simp⟩
theorem tag_mem {rows : Rows α} (hp : Pos rows) {i p w : Nat} {x : α} {xs : List α} (h : rows[i]? = some (w, xs)) (hx : xs[p]? = some x) : (i, p, x) ∈ R (tag rows) := by
  refine (R_perm _ (tag_pos hp) (Nat.le_refl _)).mem_iff.mpr (List.mem_flatten.mpr ⟨xs.mapIdx fun p x => (i, p, x), List.mem_map.mpr ⟨(w, xs.mapIdx fun p x => (i, p, x)), List.mem_of_getElem? (i := i) ?_, rfl⟩, List.mem_of_getElem? (i := p) ?_⟩)
  · unfold tag
    rw [List.getElem?_mapIdx, h]
    rfl
  · rw [List.getElem?_mapIdx, hx]
    rfl
end
end Mx
set_option Elab.async false
set_option maxRecDepth 100000
set_option linter.all false
/-! the order of the items in the output of a tree -/
namespace Mx
open PySem L2
theorem flat_rows (L : Str → Nat) (ps : List (Int × Tr)) : flat (ps.map fun p => (p.1.toNat, p.2.out L)) = (ps.map fun p => p.2.out L).flatten := by
  unfold flat
  simp [List.map_map, Function.comp_def]
theorem out_perm {L : Str → Nat} {d : Nat} {ps : List (Int × Tr)} (h : (Tr.mix ps).wf (d + 1)) : List.Perm ((Tr.mix ps).out L) ((ps.map fun p => p.2.out L).flatten) := by
  rw [Tr.out_mix, ← flat_rows]
  exact R_perm _ (wf_pos h) (Nat.le_refl _)
theorem wf_part {d : Nat} {ps : List (Int × Tr)} (h : (Tr.mix ps).wf (d + 1)) {p : Int × Tr} (hp : p ∈ ps) : p.2.wf d := by
  unfold Tr.wf at h
  exact (h.2.2 p hp).2.2
/-- what stands in an output -/
theorem mem_out {L : Str → Nat} : ∀ (d : Nat) {t : Tr}, t.wf d → ∀ x : Item, x ∈ t.out L ↔ x.1 ∈ t.names ∧ x.2 < L x.1
  | d, .feed s, _, x => by
    rw [Tr.out_feed, Tr.names_feed, List.mem_map, List.mem_singleton]
    constructor
    · rintro ⟨i, hi, rfl⟩
      exact ⟨rfl, List.mem_range.mp hi⟩
    · rintro ⟨h1, h2⟩
      exact ⟨x.2, List.mem_range.mpr (h1 ▸ h2), by rw [← h1]⟩
  | 0, .mix ps, h, x => by unfold Tr.wf at h; exact h.elim
  | d + 1, .mix ps, h, x => by
    rw [(out_perm h).mem_iff, Tr.names_mix, List.mem_flatten, List.mem_flatten]
    constructor
    · rintro ⟨l, hl, hx⟩
      obtain ⟨p, hp, rfl⟩ := List.mem_map.mp hl
      obtain ⟨h1, h2⟩ := (mem_out d (wf_part h hp) x).mp hx
      exact ⟨⟨_, List.mem_map.mpr ⟨p, hp, rfl⟩, h1⟩, h2⟩
    · rintro ⟨⟨l, hl, hx⟩, h2⟩
      obtain ⟨p, hp, rfl⟩ := List.mem_map.mp hl
      exact ⟨_, List.mem_map.mpr ⟨p, hp, rfl⟩, (mem_out d (wf_part h hp) x).mpr ⟨hx, h2⟩⟩
theorem nodup_flat {α : Type} {ls : List (List α)} : ls.flatten.Nodup ↔ (∀ l ∈ ls, l.Nodup) ∧ ls.Pairwise fun a b => ∀ x ∈ a, ∀ y ∈ b, x ≠ y := List.pairwise_flatten
theorem nodup_part {ps : List (Int × Tr)} (h : (Tr.mix ps).names.Nodup) {p : Int × Tr} (hp : p ∈ ps) : p.2.names.Nodup := by
  rw [Tr.names_mix] at h
  exact (nodup_flat.mp h).1 _ (List.mem_map.mpr ⟨p, hp, rfl⟩)
/-- no item twice -/
theorem out_nodup {L : Str → Nat} : ∀ (d : Nat) {t : Tr}, t.wf d → t.names.Nodup → (t.out L).Nodup
  | d, .feed s, _, _ => by
    rw [Tr.out_feed]
    refine List.pairwise_map.mpr (List.Pairwise.imp (fun {a b} h e => h (Prod.mk.inj e).2) (List.nodup_range (n := L s)))
  | 0, .mix ps, h, _ => by unfold Tr.wf at h; exact h.elim
  | d + 1, .mix ps, h, nd => by
    rw [(out_perm h).nodup_iff, nodup_flat]
    have nd2 := nd
    rw [Tr.names_mix, nodup_flat] at nd2
    refine ⟨fun l hl => ?_, ?_⟩
    · obtain ⟨p, hp, rfl⟩ := List.mem_map.mp hl
      exact out_nodup d (wf_part h hp) (nodup_part nd hp)
    · rw [List.pairwise_map]
      have pw := List.pairwise_map.mp nd2.2
      refine List.Pairwise.imp_of_mem (fun {a b} ha hb q => ?_) pw
      intro x hx y hy e
      subst e
      exact q x.1 ((mem_out d (wf_part h ha) x).mp hx).1 x.1 ((mem_out d (wf_part h hb) x).mp hy).1 rfl
/-- it depends on the lengths of its own feeds alone -/
theorem out_ext {L L' : Str → Nat} : ∀ (d : Nat) {t : Tr}, t.wf d → (∀ n ∈ t.names, L n = L' n) → t.out L = t.out L'
  | d, .feed s, _, e => by rw [Tr.out_feed, Tr.out_feed, e s (by rw [Tr.names_feed]; exact List.mem_singleton.mpr rfl)]
  | 0, .mix ps, h, _ => by unfold Tr.wf at h; exact h.elim
  | d + 1, .mix ps, h, e => by
    rw [Tr.out_mix, Tr.out_mix]
    congr 1
    refine List.map_congr_left fun p hp => ?_
    rw [out_ext d (wf_part h hp) fun n hn => e n ?_]
    rw [Tr.names_mix]
    exact List.mem_flatten.mpr ⟨_, List.mem_map.mpr ⟨p, hp, rfl⟩, hn⟩
theorem at_unique {α : Type} {l : List α} (h : l.Nodup) {a b : Nat} {x : α} (ha : l[a]? = some x) (hb : l[b]? = some x) : a = b := by
  obtain ⟨l1, e1⟩ := List.getElem?_eq_some_iff.mp ha
  obtain ⟨l2, e2⟩ := List.getElem?_eq_some_iff.mp hb
  exact (List.getElem_inj h).mp (e1.trans e2.symm)
end Mx
set_option Elab.async false
set_option maxRecDepth 100000
set_option linter.all false
/-! longer feeds change nothing ahead of the first new item -/
namespace Mx
open PySem L2
section
variable {α : Type} {g : α → Prop}
/-- r and r' are alike up to the first item of r' that is not g; where there is none they are equal -/
def Agree (g : α → Prop) (r r' : List α) : Prop := ∃ u v v', r = u ++ v ∧ r' = u ++ v' ∧ (∀ x ∈ u, g x) ∧ ((v = [] ∧ v' = []) ∨ ∃ b s, v' = b :: s ∧ ¬ g b)
theorem Agree.nil : Agree g [] [] := ⟨[], [], [], rfl, rfl, fun x hx => (by cases hx), .inl ⟨rfl, rfl⟩⟩
theorem Agree.pre {z r r' : List α} (hz : ∀ x ∈ z, g x) (h : Agree g r r') : Agree g (z ++ r) (z ++ r') := by
  obtain ⟨u, v, v', rfl, rfl, hu, e⟩ := h
  exact ⟨z ++ u, v, v', (List.append_assoc ..).symm, (List.append_assoc ..).symm, fun x hx => (List.mem_append.mp hx).elim (hz x) (hu x), e⟩
inductive Rag (g : α → Prop) : Rows α → Rows α → Prop
  | nil : Rag g [] []
  | cons {w : Nat} {r r' : List α} {rs rs' : Rows α} (h : Agree g r r') (t : Rag g rs rs') : Rag g ((w, r) :: rs) ((w, r') :: rs')
theorem Rag.zero {rs rs' : Rows α} (h : Rag g rs rs') (e : tot rs' = 0) : tot rs = 0 := by
  induction h with
  | nil => rfl
  | @cons w r r' rs rs' h t ih =>
    rw [tot_cons] at e
    rw [tot_cons]
    obtain ⟨u, v, v', rfl, rfl, hu, q⟩ := h
    have e0 : (u ++ v').length + tot rs' = 0 := e
    have e1 : (u ++ v').length = 0 := by omega
    rw [List.length_append] at e1
    rcases q with ⟨rfl, rfl⟩ | ⟨b, s, rfl, _⟩
    · have := ih (by omega)
      show (u ++ []).length + _ = 0
      rw [List.length_append, this]
      simp
      have : u.length = 0 := by omega
      exact List.length_eq_zero_iff.mp this
    · rw [List.length_cons] at e1
      omega
/-- one round -/
theorem Rag.rnd {rs rs' : Rows α} (h : Rag g rs rs') : ∀ {Z Z' : List α}, (Rag g (dropw rs) (dropw rs') → Agree g Z Z') → Agree g (rnd0 rs ++ Z) (rnd0 rs' ++ Z') := by
  induction h with
  | nil => exact fun k => k .nil
  | @cons w r r' rs rs' h t ih =>
    intro Z Z' k
    obtain ⟨u, v, v', rfl, rfl, hu, q⟩ := h
    rw [rnd0_cons, rnd0_cons, List.append_assoc, List.append_assoc]
    show Agree g ((u ++ v).take w ++ (rnd0 rs ++ Z)) ((u ++ v').take w ++ (rnd0 rs' ++ Z'))
    have good : ∀ {d d' : List α}, (u ++ v).drop w = d → (u ++ v').drop w = d' → Agree g d d' → (u ++ v).take w = (u ++ v').take w → (∀ x ∈ (u ++ v').take w, g x) → Agree g ((u ++ v).take w ++ (rnd0 rs ++ Z)) ((u ++ v').take w ++ (rnd0 rs' ++ Z')) := by
      intro d d' e1 e2 ag et hg
      rw [et]
      refine Agree.pre hg (ih fun tl => k ?_)
      rw [dropw_cons, dropw_cons]
      show Rag g ((w, (u ++ v).drop w) :: dropw rs) ((w, (u ++ v').drop w) :: dropw rs')
      rw [e1, e2]
      exact .cons ag tl
    rcases Nat.le_total w u.length with hw | hw
    · refine good (List.drop_append_of_le_length hw) (List.drop_append_of_le_length hw) ⟨u.drop w, v, v', rfl, rfl, fun x hx => hu x (List.mem_of_mem_drop hx), q⟩ ?_ ?_
      · rw [List.take_append_of_le_length hw, List.take_append_of_le_length hw]
      · rw [List.take_append_of_le_length hw]
        exact fun x hx => hu x (List.mem_of_mem_take hx)
    · rcases q with ⟨rfl, rfl⟩ | ⟨b, s, rfl, nb⟩
      · refine good (d := []) (d' := []) ?_ ?_ .nil rfl ?_
        · rw [List.append_nil]; exact List.drop_of_length_le hw
        · rw [List.append_nil]; exact List.drop_of_length_le hw
        · rw [List.append_nil]
          exact fun x hx => hu x (List.mem_of_mem_take hx)
      · rcases Nat.eq_or_lt_of_le hw with e | lt
        · refine good (d := v) (d' := b :: s) ?_ ?_ ⟨[], v, b :: s, rfl, rfl, fun x hx => (by cases hx), .inr ⟨b, s, rfl, nb⟩⟩ ?_ ?_
          · rw [← e, List.drop_left]
          · rw [← e, List.drop_left]
          · rw [← e, List.take_left, List.take_left]
          · rw [← e, List.take_left]; exact hu
        · have e1 : (u ++ b :: s).take w = u ++ b :: s.take (w - u.length - 1) := by
            rw [List.take_append, List.take_of_length_le hw]
            obtain ⟨j, hj⟩ : ∃ j, w - u.length = j + 1 := ⟨w - u.length - 1, by omega⟩
            rw [hj]
            rfl
          have e2 : (u ++ v).take w = u ++ v.take (w - u.length) := by rw [List.take_append, List.take_of_length_le hw]
          rw [e1, e2, List.append_assoc, List.append_assoc]
          exact Agree.pre hu ⟨[], _, _, rfl, rfl, fun x hx => (by cases hx), .inr ⟨b, _, rfl, nb⟩⟩
theorem Rag.all : ∀ (n : Nat) {rs rs' : Rows α}, Rag g rs rs' → Pos rs → Pos rs' → tot rs' ≤ n → Agree g (R rs) (R rs')
  | n, rs, rs', h, p, p', hn => by
    rcases Nat.eq_zero_or_pos (tot rs') with z | z
    · rw [R_zero z, R_zero (h.zero z)]
      exact .nil
    · cases n with
      | zero => omega
      | succ n =>
        have := tot_dropw p' z
        rw [R_unfold p, R_unfold p']
        exact h.rnd fun hd => Rag.all n hd p.drop p'.drop (by omega)
/-- a place ahead of all that is not g -/
theorem Agree.at {r r' : List α} (h : Agree g r r') {a : Nat} {x : α} (ha : r'[a]? = some x) (hg : ∀ b y, b ≤ a → r'[b]? = some y → g y) : r[a]? = some x := by
  obtain ⟨u, v, v', rfl, rfl, hu, q⟩ := h
  rcases Nat.lt_or_ge a u.length with lt | ge
  · rw [List.getElem?_append_left lt] at ha ⊢
    exact ha
  · rcases q with ⟨rfl, rfl⟩ | ⟨b, s, rfl, nb⟩
    · exact ha
    · refine absurd (hg u.length b ge ?_) nb
      rw [List.getElem?_append_right (Nat.le_refl _), Nat.sub_self]
      rfl
end
end Mx
set_option Elab.async false
set_option maxRecDepth 100000
set_option linter.all false
/-! more items push no item forward -/
namespace Mx
open PySem L2
section
variable {α β : Type}
instance {W : Nat → Nat} {a b : Nat × Nat} : Decidable (Ahead W a b) := by unfold Ahead; exact inferInstance
/-- in a sorted list a place is the number of those ahead -/
theorem sorted_count {r : α → α → Prop} [∀ a b, Decidable (r a b)] (ir : ∀ a, ¬ r a a) (as : ∀ a b, r a b → ¬ r b a) : ∀ {l : List α}, l.Pairwise r → ∀ {a : Nat} {x : α}, l[a]? = some x → l.countP (fun y => decide (r y x)) = a
  | [], _, a, x, h => by simp at h
  | y :: l, pw, 0, x, h => by
    have e : y = x := by simpa using h
    subst e
    rw [List.countP_eq_zero]
    intro z hz
    rcases List.mem_cons.mp hz with rfl | hz
    · simpa using ir z
    · simpa using as _ _ ((List.pairwise_cons.mp pw).1 z hz)
  | y :: l, pw, a + 1, x, h => by
    have h' : l[a]? = some x := by simpa using h
    have hy := (List.pairwise_cons.mp pw).1 x (List.mem_of_getElem? h')
    rw [List.countP_cons_of_pos (by simpa using hy), sorted_count ir as (List.pairwise_cons.mp pw).2 h']
theorem countP_tag (P : Nat × Nat → Bool) (i : Nat) (xs : List α) : (xs.mapIdx fun p x => ((i, p, x) : Tg α)).countP (fun y => P (tk y)) = (xs.mapIdx fun p _ => P (i, p)).countP id := by
  have : (xs.mapIdx fun p _ => P (i, p)) = (xs.mapIdx fun p x => ((i, p, x) : Tg α)).map fun y => P (tk y) := by
    apply List.ext_getElem?
    intro k
    rw [List.getElem?_map, List.getElem?_mapIdx, List.getElem?_mapIdx]
    cases xs[k]? <;> rfl
  rw [this, List.countP_map]
  rfl
/-- the same weights, no row shorter -/
inductive Wider : Rows α → Rows α → Prop
  | nil : Wider [] []
  | cons {w : Nat} {r r' : List α} {a b : Rows α} (h : r.length ≤ r'.length) (t : Wider a b) : Wider ((w, r) :: a) ((w, r') :: b)
def tagF (s : Nat) (rows : Rows α) : Rows (Tg α) := rows.mapIdx fun i r => (r.1, r.2.mapIdx fun p x => (s + i, p, x))
theorem tagF_cons (s : Nat) (r : Nat × List α) (rest : Rows α) : tagF s (r :: rest) = (r.1, r.2.mapIdx fun p x => (s, p, x)) :: tagF (s + 1) rest := by
  unfold tagF
  rw [List.mapIdx_cons]
  congr 1
  congr 1
  funext i q
  rw [show s + (i + 1) = s + 1 + i from by omega]
theorem tagF_zero (rows : Rows α) : tagF 0 rows = tag rows := by
  unfold tagF tag
  congr 1
  funext i r
  rw [Nat.zero_add]
/-- a place by the number of items ahead -/
theorem R_place {rows : Rows α} (hp : Pos rows) {i p w : Nat} {x : α} {xs : List α} (h : rows[i]? = some (w, xs)) (hx : xs[p]? = some x) : ∃ a : Nat, (R rows)[a]? = some x ∧ a = (flat (tag rows)).countP fun y => decide (Ahead (wt rows) (tk y) (i, p)) := by
  obtain ⟨a, ha⟩ := List.mem_iff_getElem?.mp (tag_mem hp h hx)
  refine ⟨a, by rw [tag_R, List.getElem?_map, ha]; rfl, ?_⟩
  have c := sorted_count (r := fun y z : Tg α => Ahead (wt rows) (tk y) (tk z)) (fun _ => Ahead.irrefl) (fun _ _ z => z.asymm) ((tag_iv hp).rds (tot (tag rows))).1 ha
  rw [← c]
  exact ((R_perm _ (tag_pos hp) (Nat.le_refl _)).countP_eq _).symm ▸ rfl
end
end Mx
set_option Elab.async false
set_option maxRecDepth 100000
set_option linter.all false
/-! places by sums, the limit of pushes -/
namespace Mx
open PySem L2
section
variable {α : Type}
/-- of each row at most so many -/
def sumB (f : Nat → Nat → Nat) : Nat → Rows α → Nat
  | _, [] => 0
  | s, r :: rest => min r.2.length (f s r.1) + sumB f (s + 1) rest
theorem count_below : ∀ {xs : List α} {P : Nat → Bool} {B : Nat}, (∀ q, P q = decide (q < B)) → (xs.mapIdx fun p _ => P p).countP id = min xs.length B
  | [], _, _, _ => by simp
  | x :: xs, P, 0, h => by
    have e : ∀ q, P q = false := fun q => by rw [h q]; simp
    rw [List.countP_eq_zero.mpr]
    · simp
    · intro b hb
      obtain ⟨k, hk⟩ := List.mem_iff_getElem?.mp hb
      rw [List.getElem?_mapIdx] at hk
      obtain ⟨_, _, rfl⟩ := Option.map_eq_some_iff.mp hk
      simp [e]
  | x :: xs, P, B + 1, h => by
    have ih := count_below (xs := xs) (P := fun p => P (p + 1)) (B := B) fun q => by rw [h]; simp
    have e0 : P 0 = true := by rw [h]; simp
    rw [List.mapIdx_cons, List.countP_cons, e0, ih]
    simp only [id, if_true, List.length_cons]
    omega
/-- the bound of row j ahead of the item p of row i -/
def bd (wi i p : Nat) (j w : Nat) : Nat := if j < i then w * (p / wi + 1) else if j = i then p else w * (p / wi)
theorem lt_mul_succ {q w t : Nat} (hw : 1 ≤ w) : q / w < t ↔ q < w * t := by
  rw [Nat.div_lt_iff_lt_mul (by omega), Nat.mul_comm]
theorem ahead_bd {W : Nat → Nat} {i p j q : Nat} (hj : 1 ≤ W j) : Ahead W (j, q) (i, p) ↔ q < bd (W i) i p j (W j) := by
  unfold Ahead bd
  dsimp only
  have h1 := lt_mul_succ (q := q) (t := p / W i) hj
  have h2 := lt_mul_succ (q := q) (t := p / W i + 1) hj
  by_cases c : j < i
  · rw [if_pos c, ← h2]
    omega
  · rw [if_neg c]
    by_cases e : j = i
    · subst e
      rw [if_pos rfl]
      constructor
      · rintro (z | ⟨_, z | ⟨_, z⟩⟩)
        · rcases Nat.lt_or_ge q p with w | w
          · exact w
          · have := Nat.div_le_div_right (c := W j) w
            omega
        · omega
        · exact z
      · intro z
        have := Nat.div_le_div_right (c := W j) (Nat.le_of_lt z)
        omega
    · rw [if_neg e, ← h1]
      omega
theorem count_sum {W : Nat → Nat} {i p : Nat} : ∀ {rows : Rows α} (s : Nat), (∀ j r, rows[j]? = some r → r.1 = W (s + j) ∧ 1 ≤ r.1) → (flat (tagF s rows)).countP (fun y => decide (Ahead W (tk y) (i, p))) = sumB (bd (W i) i p) s rows
  | [], s, _ => rfl
  | r :: rest, s, h => by
    obtain ⟨h1, h2⟩ := h 0 r rfl
    have h1' : r.1 = W s := h1
    rw [tagF_cons, flat_cons, List.countP_append]
    show (r.2.mapIdx fun p x => ((s, p, x) : Tg α)).countP (fun y => decide (Ahead W (tk y) (i, p))) + _ = min r.2.length (bd (W i) i p s r.1) + sumB (bd (W i) i p) (s + 1) rest
    rw [count_sum (s + 1) fun j q hq => by
      have := h (j + 1) q (by simpa using hq)
      rw [show s + (j + 1) = s + 1 + j from by omega] at this
      exact this]
    congr 1
    have c := countP_tag (fun y => decide (Ahead W y (i, p))) s r.2
    refine c.trans (count_below fun q => ?_)
    rw [h1']
    exact decide_eq_decide.mpr (ahead_bd (by omega))
/-- where an item stands -/
theorem R_sum {rows : Rows α} (hp : Pos rows) {i p w : Nat} {x : α} {xs : List α} (h : rows[i]? = some (w, xs)) (hx : xs[p]? = some x) : (R rows)[sumB (bd w i p) 0 rows]? = some x := by
  obtain ⟨a, ha, ea⟩ := R_place hp h hx
  have wi : wt rows i = w := by unfold wt; rw [h]; rfl
  rw [← tagF_zero, count_sum 0 fun j r hr => ⟨by unfold wt; rw [Nat.zero_add, hr]; rfl, hp r (List.mem_of_getElem? hr)⟩, wi] at ea
  rw [← ea]
  exact ha
end
end Mx
set_option Elab.async false
set_option maxRecDepth 100000
set_option linter.all false
/-! places.py: total_in, turns_of, taken_in_rounds -/
namespace Mx
open PySem L2
/-- a dict has these numbers at a tree's names -/
def ValsAt (H : Hp) (td : Addr) (L : Str → Nat) (ns : List Str) : Prop := ∃ kvs : List (Key × V), H td = some (.dK kvs) ∧ ∀ n ∈ ns, valV kvs (.inr n) = some (.int (L n : Nat))
theorem ValsAt.same {H H' : Hp} {td : Addr} {L : Str → Nat} {ns : List Str} (s : Same H H') (h : ValsAt H td L ns) : ValsAt H' td L ns := by
  obtain ⟨kvs, h1, h2⟩ := h
  exact ⟨kvs, s _ _ h1, h2⟩
theorem ValsAt.sub {H : Hp} {td : Addr} {L : Str → Nat} {ns ms : List Str} (s : ∀ n ∈ ms, n ∈ ns) (h : ValsAt H td L ns) : ValsAt H td L ms := by
  obtain ⟨kvs, h1, h2⟩ := h
  exact ⟨kvs, h1, fun n hn => h2 n (s n hn)⟩
/-- a mixer's turns: weights and numbers of items -/
def TurnAt (H : Hp) (z : V) (p : Int × Nat) : Prop := ∃ b : Addr, z = .ref b ∧ H b = some (.tup [.int p.1, .int (p.2 : Nat)])
theorem TurnAt.keep {H H' : Hp} (h : KeepU H H') {z : V} {p : Int × Nat} (q : TurnAt H z p) : TurnAt H' z p := by
  obtain ⟨b, e, h1⟩ := q
  exact ⟨b, e, h _ _ h1⟩
end Mx
set_option Elab.async false
set_option maxRecDepth 100000
set_option linter.all false
/-! places.py: part_with -/
set_option Elab.async false
set_option maxRecDepth 100000
set_option linter.all false
/-! places.py: place_in -/
set_option Elab.async false
set_option maxRecDepth 100000
set_option linter.all false
/-! what is asked of lengths -/
namespace Mx
open PySem L2
/-- lengths as ints -/
theorem okLens_ints {t : Tr} {xs : List V} (h : okLens t xs) : ∃ ls : List Int, xs = ls.map V.int ∧ LenOk t ls := by
  have : ∀ xs : List V, (∀ x ∈ xs, whole x 0 60 = true) → ∃ ls : List Int, xs = ls.map V.int ∧ ∀ l ∈ ls, 0 ≤ l ∧ l ≤ 60 := by
    intro xs
    induction xs with
    | nil => exact fun _ => ⟨[], rfl, fun l hl => by cases hl⟩
    | cons x r ih =>
      intro hx
      obtain ⟨ls, e, hl⟩ := ih fun y hy => hx y (List.mem_cons_of_mem _ hy)
      have h1 := hx x List.mem_cons_self
      cases x with
      | int i =>
        unfold whole at h1
        rw [Bool.and_eq_true] at h1
        refine ⟨i :: ls, by rw [e]; rfl, fun l hm => ?_⟩
        rcases List.mem_cons.mp hm with rfl | hm
        · exact ⟨of_decide_eq_true h1.1, of_decide_eq_true h1.2⟩
        · exact hl l hm
      | _ => cases h1
  obtain ⟨ls, e, hl⟩ := this xs h.2
  refine ⟨ls, e, ?_, hl⟩
  have := h.1
  rw [e, List.length_map] at this
  exact this
/-- what is asked of lengths; G: what is wanted where they are right -/
def LensAsk (K : PySem.W.Frag) (H : Hp) (t : Tr) (u : V) (G : List Int → Prop) (Bad : Prop) : Prop :=
  (∃ tl xs, u = .ref tl ∧ SqT K H tl xs ∧ xs.length ≤ 1000 ∧ (∀ x ∈ xs, Kind K H x) ∧ (∀ ls, xs = ls.map V.int → LenOk t ls → G ls) ∧ (¬ okLens t xs → Bad)) ∨
   ((u = .non ∨ ∃ a xs, u = .ref a ∧ H a = some (.lst xs)) ∧ Bad)
theorem LensAsk.same {K : PySem.W.Frag} {H H' : Hp} {t : Tr} {u : V} {G : List Int → Prop} {Bad : Prop} (s : Same H H') (h : LensAsk K H t u G Bad) : LensAsk K H' t u G Bad := by
  rcases h with ⟨tl, xs, e, h1, h2, h3, h4, h5⟩ | ⟨h1, h2⟩
  · exact .inl ⟨tl, xs, e, sqT_same s _ _ h1, h2, fun x hx => (h3 x hx).same s, h4, h5⟩
  · refine .inr ⟨?_, h2⟩
    rcases h1 with h1 | ⟨a, xs, e, h1⟩
    · exact .inl h1
    · exact .inr ⟨a, xs, e, s _ _ h1⟩
/-- right lengths, or not -/
theorem LensAsk.split {K : PySem.W.Frag} {H : Hp} {t : Tr} {u : V} {G : List Int → Prop} {Bad : Prop} (h : LensAsk K H t u G Bad) : ∃ L : Str → Nat, (∃ tl ls, u = .ref tl ∧ SqT K H tl (ls.map V.int) ∧ LenOk t ls ∧ L = Lof t.names ls ∧ G ls) ∨
    (Bad ∧ ((∃ tl xs, u = .ref tl ∧ SqT K H tl xs ∧ xs.length ≤ 1000 ∧ (∀ x ∈ xs, Kind K H x) ∧ ¬ okLens t xs) ∨ (u = .non ∨ ∃ a xs, u = .ref a ∧ H a = some (.lst xs)))) := by
  rcases h with ⟨tl, xs, e, h1, h2, h3, h4, h5⟩ | ⟨h1, h2⟩
  · by_cases ok : okLens t xs
    · obtain ⟨ls, rfl, hl⟩ := okLens_ints ok
      exact ⟨Lof t.names ls, .inl ⟨tl, ls, e, h1, hl, rfl, h4 ls rfl hl⟩⟩
    · exact ⟨fun _ => 0, .inr ⟨h5 ok, .inl ⟨tl, xs, e, h1, h2, h3, ok⟩⟩⟩
  · exact ⟨fun _ => 0, .inr ⟨h2, .inr h1⟩⟩
theorem LenOk.ok {t : Tr} {ls : List Int} (h : LenOk t ls) : okLens t (ls.map V.int) := by
  refine ⟨by rw [List.length_map, h.len], fun x hx => ?_⟩
  obtain ⟨l, hl, rfl⟩ := List.mem_map.mp hx
  have := h.le l hl
  unfold whole
  dsimp only
  rw [decide_eq_true this.1, decide_eq_true this.2]
  rfl
/-- no lengths -/
def NotLens (K : PySem.W.Frag) (H : Hp) (t : Tr) (u : V) : Prop := (∃ tl xs, u = .ref tl ∧ SqT K H tl xs ∧ xs.length ≤ 1000 ∧ (∀ x ∈ xs, Kind K H x) ∧ ¬ okLens t xs) ∨ (u = .non ∨ ∃ a xs, u = .ref a ∧ H a = some (.lst xs))
theorem NotLens.same {K : PySem.W.Frag} {H H' : Hp} {t : Tr} {u : V} (s : Same H H') (h : NotLens K H t u) : NotLens K H' t u := by
  rcases h with ⟨tl, xs, e, h1, h2, h3, h4⟩ | h1 | ⟨a, xs, e, h1⟩
  · exact .inl ⟨tl, xs, e, sqT_same s _ _ h1, h2, fun x hx => (h3 x hx).same s, h4⟩
  · exact .inr (.inl h1)
  · exact .inr (.inr ⟨a, xs, e, s _ _ h1⟩)
theorem LensAsk.bad {K : PySem.W.Frag} {H : Hp} {t : Tr} {u : V} {G : List Int → Prop} {B : Prop} (h : NotLens K H t u) (b : B) : LensAsk K H t u G B := by
  rcases h with ⟨tl, xs, e, h1, h2, h3, h4⟩ | h1
  · exact .inl ⟨tl, xs, e, h1, h2, h3, fun ls e2 ok => absurd (e2 ▸ ok.ok) h4, fun _ => b⟩
  · exact .inr ⟨h1, b⟩
theorem LensAsk.good {K : PySem.W.Frag} {H : Hp} {t : Tr} {tl : Addr} {ls : List Int} {G : List Int → Prop} {B : Prop} (h : SqT K H tl (ls.map V.int)) (hV : TreeV t) (hL : LenOk t ls) (g : G ls) : LensAsk K H t (.ref tl) G B := by
  refine .inl ⟨tl, _, rfl, h, ?_, fun x hx => ?_, fun ls' e _ => ?_, fun no => absurd hL.ok no⟩
  · have h1 := hV.len
    have h2 := hL.len
    rw [List.length_map]
    omega
  · obtain ⟨l, _, rfl⟩ := List.mem_map.mp hx
    exact .int l
  · have e2 : ls' = ls := (List.map_inj_right (fun a b h => V.int.inj h)).mp e.symm
    rw [e2]
    exact g
theorem LensAsk.cases {K : PySem.W.Frag} {H : Hp} {t : Tr} {u : V} {G : List Int → Prop} {B : Prop} (h : LensAsk K H t u G B) : ∃ L : Str → Nat, (∃ tl ls, u = .ref tl ∧ SqT K H tl (ls.map V.int) ∧ LenOk t ls ∧ L = Lof t.names ls ∧ G ls) ∨ (NotLens K H t u ∧ B) := by
  obtain ⟨L, h⟩ := h.split
  rcases h with h | ⟨b, h⟩
  · exact ⟨L, .inl h⟩
  · exact ⟨L, .inr ⟨h, b⟩⟩
end Mx
set_option Elab.async false
set_option maxRecDepth 100000
set_option linter.all false
/-! places.py: lengths_by_name, require_item, place_of -/
namespace Mx
open PySem L2
/-- what is asked of an item; G: what is wanted where it is one -/
def ItemAsk (K : PySem.W.Frag) (H : Hp) (t : Tr) (ls : List Int) (x : V) (G : Str → Nat → Prop) (Bad : Prop) : Prop :=
  (∃ (q : Addr) (a b : V), x = .ref q ∧ SqT K H q [a, b] ∧ flatV a = true ∧ Kind K H b ∧ (∀ (n : Str) (i : Nat), a = .str n → b = .int (i : Nat) → n ∈ t.names → i < Lof t.names ls n → G n i) ∧
    ((¬ ∃ (n : Str) (i : Nat), a = .str n ∧ b = .int (i : Nat) ∧ n ∈ t.names ∧ i < Lof t.names ls n) → Bad)) ∨
  (∃ (q : Addr) (xs : List V), x = .ref q ∧ SqT K H q xs ∧ xs.length ≠ 2 ∧ Bad) ∨ ((x = .non ∨ ∃ a xs, x = .ref a ∧ H a = some (.lst xs)) ∧ Bad)
theorem ItemAsk.imp {K : PySem.W.Frag} {H : Hp} {t : Tr} {ls : List Int} {x : V} {G G' : Str → Nat → Prop} {B B' : Prop} (h : ItemAsk K H t ls x G B) (g : ∀ n i, n ∈ t.names → i < Lof t.names ls n → G n i → G' n i) (b : B → B') : ItemAsk K H t ls x G' B' := by
  rcases h with ⟨q, y, z, e, h1, h2, h3, h4, h5⟩ | ⟨q, xs, e, h1, h2, h3⟩ | ⟨h1, h2⟩
  · exact .inl ⟨q, y, z, e, h1, h2, h3, fun n i e1 e2 hn hi => g n i hn hi (h4 n i e1 e2 hn hi), fun no => b (h5 no)⟩
  · exact .inr (.inl ⟨q, xs, e, h1, h2, b h3⟩)
  · exact .inr (.inr ⟨h1, b h2⟩)
theorem ItemAsk.same {K : PySem.W.Frag} {H H' : Hp} {t : Tr} {ls : List Int} {x : V} {G : Str → Nat → Prop} {B : Prop} (s : Same H H') (h : ItemAsk K H t ls x G B) : ItemAsk K H' t ls x G B := by
  rcases h with ⟨q, y, z, e, h1, h2, h3, h4, h5⟩ | ⟨q, xs, e, h1, h2, h3⟩ | ⟨h1, h2⟩
  · exact .inl ⟨q, y, z, e, sqT_same s _ _ h1, h2, h3.same s, h4, h5⟩
  · exact .inr (.inl ⟨q, xs, e, sqT_same s _ _ h1, h2, h3⟩)
  · refine .inr (.inr ⟨?_, h2⟩)
    rcases h1 with h1 | ⟨a, xs, e, h1⟩
    · exact .inl h1
    · exact .inr ⟨a, xs, e, s _ _ h1⟩
/-- no item -/
def NotItem (K : PySem.W.Frag) (H : Hp) (t : Tr) (ls : List Int) (x : V) : Prop :=
  (∃ (q : Addr) (a b : V), x = .ref q ∧ SqT K H q [a, b] ∧ flatV a = true ∧ Kind K H b ∧ ¬ ∃ (n : Str) (i : Nat), a = .str n ∧ b = .int (i : Nat) ∧ n ∈ t.names ∧ i < Lof t.names ls n) ∨
  (∃ (q : Addr) (xs : List V), x = .ref q ∧ SqT K H q xs ∧ xs.length ≠ 2) ∨ (x = .non ∨ ∃ a xs, x = .ref a ∧ H a = some (.lst xs))
theorem NotItem.same {K : PySem.W.Frag} {H H' : Hp} {t : Tr} {ls : List Int} {x : V} (s : Same H H') (h : NotItem K H t ls x) : NotItem K H' t ls x := by
  rcases h with ⟨q, y, z, e, h1, h2, h3, h4⟩ | ⟨q, xs, e, h1, h2⟩ | h1 | ⟨a, xs, e, h1⟩
  · exact .inl ⟨q, y, z, e, sqT_same s _ _ h1, h2, h3.same s, h4⟩
  · exact .inr (.inl ⟨q, xs, e, sqT_same s _ _ h1, h2⟩)
  · exact .inr (.inr (.inl h1))
  · exact .inr (.inr (.inr ⟨a, xs, e, s _ _ h1⟩))
theorem ItemAsk.bad {K : PySem.W.Frag} {H : Hp} {t : Tr} {ls : List Int} {x : V} {G : Str → Nat → Prop} {B : Prop} (h : NotItem K H t ls x) (b : B) : ItemAsk K H t ls x G B := by
  rcases h with ⟨q, y, z, e, h1, h2, h3, h4⟩ | ⟨q, xs, e, h1, h2⟩ | h1
  · exact .inl ⟨q, y, z, e, h1, h2, h3, fun n i e1 e2 hn hi => absurd ⟨n, i, e1, e2, hn, hi⟩ h4, fun _ => b⟩
  · exact .inr (.inl ⟨q, xs, e, h1, h2, b⟩)
  · exact .inr (.inr ⟨h1, b⟩)
/-- right, or not -/
theorem ItemAsk.split {K : PySem.W.Frag} {H : Hp} {t : Tr} {ls : List Int} {x : V} {G : Str → Nat → Prop} {B : Prop} (h : ItemAsk K H t ls x G B) :
    (∃ (q : Addr) (n : Str) (i : Nat), x = .ref q ∧ SqT K H q [.str n, .int (i : Nat)] ∧ n ∈ t.names ∧ i < Lof t.names ls n ∧ G n i) ∨ (NotItem K H t ls x ∧ B) := by
  rcases h with ⟨q, y, z, e, h1, h2, h3, h4, h5⟩ | ⟨q, xs, e, h1, h2, h3⟩ | ⟨h1, h2⟩
  · by_cases c : ∃ (n : Str) (i : Nat), y = .str n ∧ z = .int (i : Nat) ∧ n ∈ t.names ∧ i < Lof t.names ls n
    · obtain ⟨n, i, rfl, rfl, hn, hi⟩ := c
      exact .inl ⟨q, n, i, e, h1, hn, hi, h4 n i rfl rfl hn hi⟩
    · exact .inr ⟨.inl ⟨q, y, z, e, h1, h2, h3, c⟩, h5 c⟩
  · exact .inr ⟨.inr (.inl ⟨q, xs, e, h1, h2⟩), h3⟩
  · exact .inr ⟨.inr (.inr h1), h2⟩
theorem ItemAsk.good {K : PySem.W.Frag} {H : Hp} {t : Tr} {ls : List Int} {G : Str → Nat → Prop} {B : Prop} {q : Addr} {n : Str} {i : Nat} (h : SqT K H q [.str n, .int (i : Nat)]) (hn : n ∈ t.names) (hi : i < Lof t.names ls n) (g : G n i) : ItemAsk K H t ls (.ref q) G B :=
  .inl ⟨q, _, _, rfl, h, rfl, .int _, fun m j e1 e2 _ _ => by cases e1; cases (Int.ofNat.inj (V.int.inj e2)); exact g, fun no => absurd ⟨n, i, rfl, rfl, hn, hi⟩ no⟩
end Mx
set_option Elab.async false
set_option maxRecDepth 100000
set_option linter.all false
namespace Mx
open PySem L2
/-! ### the objects' fields -/
def ff (n : Str) (l : Addr) (g : Nat) : List (Str × V) := [("name", .str n), ("lengths", .ref l), ("given", .int (g : Nat))]
def mf (lw lp : Addr) (i c : Nat) : List (Str × V) := [("weights", .ref lw), ("parts", .ref lp), ("at", .int (i : Nat)), ("in_turn", .int (c : Nat))]
theorem ff_make (n : Str) (l : Addr) : putF "given" (.int 0) (putF "lengths" (.ref l) (putF "name" (.str n) [])) = ff n l 0 := by
  have h1 : ¬ (("name" : Str) = "lengths") := by decide +kernel
  have h2 : ¬ (("name" : Str) = "given") := by decide +kernel
  have h3 : ¬ (("lengths" : Str) = "given") := by decide +kernel
  simp only [putF, h1, h2, h3, if_false]
  rfl
theorem mf_make (lw lp : Addr) : putF "in_turn" (.int 0) (putF "at" (.int 0) (putF "parts" (.ref lp) (putF "weights" (.ref lw) []))) = mf lw lp 0 0 := by
  have h1 : ¬ (("weights" : Str) = "parts") := by decide +kernel
  have h2 : ¬ (("weights" : Str) = "at") := by decide +kernel
  have h3 : ¬ (("weights" : Str) = "in_turn") := by decide +kernel
  have h4 : ¬ (("parts" : Str) = "at") := by decide +kernel
  have h5 : ¬ (("parts" : Str) = "in_turn") := by decide +kernel
  have h6 : ¬ (("at" : Str) = "in_turn") := by decide +kernel
  simp only [putF, h1, h2, h3, h4, h5, h6, if_false]
  rfl
/-! ### sources -/
def feedRem (n : Str) (l g : Nat) : List Item := (List.range' g (l - g)).map fun i => (n, i)
theorem feedRem_nil (n : Str) {l g : Nat} (h : l ≤ g) : feedRem n l g = [] := by
  unfold feedRem
  rw [show l - g = 0 by omega]
  rfl
theorem feedRem_cons (n : Str) {l g : Nat} (h : g < l) : feedRem n l g = (n, g) :: feedRem n l (g + 1) := by
  unfold feedRem
  rw [show l - g = (l - (g + 1)) + 1 by omega, List.range'_succ]
  rfl
/-- where a source stands -/
inductive Sta where
  | feed (n : Str) (g : Nat)
  | mix (ks : List (Nat × Sta)) (i c : Nat)
mutual
def Sta.rem (L : Str → Nat) : Sta → List Item
  | .feed n g => feedRem n (L n) g
  | .mix ks i c => futI (Sta.remL L ks) i c
def Sta.remL (L : Str → Nat) : List (Nat × Sta) → Rows Item
  | [] => []
  | (w, s) :: r => (w, s.rem L) :: Sta.remL L r
end
theorem Sta.remL_eq (L : Str → Nat) : ∀ ks : List (Nat × Sta), Sta.remL L ks = ks.map fun p => (p.1, p.2.rem L)
  | [] => by rw [Sta.remL]; rfl
  | (w, s) :: r => by rw [Sta.remL, Sta.remL_eq L r]; rfl
theorem Sta.rem_feed (L : Str → Nat) (n : Str) (g : Nat) : (Sta.feed n g).rem L = feedRem n (L n) g := by rw [Sta.rem]
theorem Sta.rem_mix (L : Str → Nat) (ks : List (Nat × Sta)) (i c : Nat) : (Sta.mix ks i c).rem L = futI (ks.map fun p => (p.1, p.2.rem L)) i c := by rw [Sta.rem, Sta.remL_eq]
/-- to which part a mixer goes that is to take an item -/
inductive Moves (L : Str → Nat) (ks : List (Nat × Sta)) : Nat → Nat → Nat → Nat → Prop
  | stay {i c w : Nat} {s : Sta} (h : ks[i]? = some (w, s)) (hc : c < w) (hr : s.rem L ≠ []) : Moves L ks i c i c
  | step {i c w j c' : Nat} {s : Sta} (h : ks[i]? = some (w, s)) (hc : c = w ∨ s.rem L = []) (m : Moves L ks ((i + 1) % ks.length) 0 j c') : Moves L ks i c j c'
/-- a source gives an item -/
inductive Nxt (L : Str → Nat) : Sta → Item → Sta → Prop
  | feed {n : Str} {g : Nat} (h : g < L n) : Nxt L (.feed n g) (n, g) (.feed n (g + 1))
  | mix {ks : List (Nat × Sta)} {i c j c' w : Nat} {s s' : Sta} {y : Item} (m : Moves L ks i c j c') (h : ks[j]? = some (w, s)) (n : Nxt L s y s') : Nxt L (.mix ks i c) y (.mix (ks.set j (w, s')) j (c' + 1))
structure Kid where
  w : Nat
  a : Addr
  S : List Addr
  st : Sta
def kSta (ks : List Kid) : List (Nat × Sta) := ks.map fun k => (k.w, k.st)
def kRows (L : Str → Nat) (ks : List Kid) : Rows Item := ks.map fun k => (k.w, k.st.rem L)
def kFoot (ks : List Kid) : List Addr := (ks.map Kid.S).flatten
theorem kSta_rows (L : Str → Nat) (ks : List Kid) : ((kSta ks).map fun p => (p.1, p.2.rem L)) = kRows L ks := by
  unfold kSta kRows
  rw [List.map_map]
  rfl
theorem kSta_rem (L : Str → Nat) (ks : List Kid) (i c : Nat) : (Sta.mix (kSta ks) i c).rem L = futI (kRows L ks) i c := by rw [Sta.rem_mix, kSta_rows]
/-- the dict of the lengths -/
def DictL (H : Hp) (td : Addr) (N : List Str) (L : Str → Nat) : Prop := ∃ kvs : List (Key × V), H td = some (.dK kvs) ∧ ∀ n ∈ N, valV kvs (.inr n) = some (.int (L n : Nat))
theorem DictL.same {H H' : Hp} {td : Addr} {N : List Str} {L : Str → Nat} (s : Same H H') (h : DictL H td N L) : DictL H' td N L := by
  obtain ⟨kvs, h1, h2⟩ := h
  exact ⟨kvs, s _ _ h1, h2⟩
structure FeedAt (CF td : Addr) (N : List Str) (H : Hp) (p : Addr) (S : List Addr) (st : Sta) (n : Str) (g : Nat) (dx : Addr) : Prop where
  s : S = [p]
  h : H p = some (.ins CF dx (ff n td g))
  st : st = .feed n g
  m : n ∈ N
/-- a mixer whose parts keep the promise D -/
structure MixAt (CM : Addr) (D : Addr → List Addr → Sta → Prop) (H : Hp) (p : Addr) (S : List Addr) (st : Sta) (ks : List Kid) (dx lw lp : Addr) (i c : Nat) : Prop where
  s : S = p :: lw :: lp :: kFoot ks
  nd : S.Nodup
  h : H p = some (.ins CM dx (mf lw lp i c))
  hw : H lw = some (.lst (ks.map fun k => V.int (k.w : Nat)))
  hp : H lp = some (.lst (ks.map fun k => V.ref k.a))
  kid : ∀ k ∈ ks, D k.a k.S k.st
  pw : ∀ k ∈ ks, 1 ≤ k.w
  few : ks.length ≤ 5
  at_ : i < ks.length
  turn : ∀ k, ks[i]? = some k → c ≤ k.w
  st : st = .mix (kSta ks) i c
theorem MixAt.rem {CM : Addr} {D : Addr → List Addr → Sta → Prop} {H : Hp} {p : Addr} {S : List Addr} {st : Sta} {ks : List Kid} {dx lw lp : Addr} {i c : Nat} (M : MixAt CM D H p S st ks dx lw lp i c) (L : Str → Nat) : st.rem L = futI (kRows L ks) i c := by rw [M.st, kSta_rem]
def Src (CF CM td : Addr) (N : List Str) (H : Hp) : Nat → Addr → List Addr → Sta → Prop
  | 0, p, S, st => ∃ n g dx, FeedAt CF td N H p S st n g dx
  | d + 1, p, S, st => (∃ n g dx, FeedAt CF td N H p S st n g dx) ∨ ∃ ks dx lw lp i c, MixAt CM (Src CF CM td N H d) H p S st ks dx lw lp i c
section
variable {CF CM td : Addr} {N : List Str}
theorem foot_mem {ks : List Kid} {k : Kid} (h : k ∈ ks) {b : Addr} (hb : b ∈ k.S) : b ∈ kFoot ks := List.mem_flatten.mpr ⟨_, List.mem_map.mpr ⟨k, h, rfl⟩, hb⟩
theorem Src.frame {H H' : Hp} : ∀ (d : Nat) {p : Addr} {S : List Addr} {st : Sta}, (∀ b ∈ S, H' b = H b) → Src CF CM td N H d p S st → Src CF CM td N H' d p S st
  | 0, p, S, st, e, h => by
    unfold Src at h ⊢
    obtain ⟨n, g, dx, h1, h2, h3, h4⟩ := h
    exact ⟨n, g, dx, h1, by rw [e p (by rw [h1]; exact List.mem_cons_self)]; exact h2, h3, h4⟩
  | d + 1, p, S, st, e, h => by
    unfold Src at h ⊢
    rcases h with ⟨n, g, dx, h1, h2, h3, h4⟩ | ⟨ks, dx, lw, lp, i, c, M⟩
    · exact .inl ⟨n, g, dx, h1, by rw [e p (by rw [h1]; exact List.mem_cons_self)]; exact h2, h3, h4⟩
    · have e0 : ∀ b ∈ p :: lw :: lp :: kFoot ks, H' b = H b := by rw [← M.s]; exact e
      exact .inr ⟨ks, dx, lw, lp, i, c, M.s, M.nd, by rw [e0 p List.mem_cons_self]; exact M.h, by rw [e0 lw (.tail _ (.head _))]; exact M.hw, by rw [e0 lp (.tail _ (.tail _ (.head _)))]; exact M.hp,
        fun k hk => Src.frame d (fun b hb => e0 b (.tail _ (.tail _ (.tail _ (foot_mem hk hb))))) (M.kid k hk), M.pw, M.few, M.at_, M.turn, M.st⟩
/-- what a source's own places hold: objects and lists -/
def Own (o : HO) : Prop := (∃ C dx l, o = .ins C dx l) ∨ ∃ l, o = .lst l
theorem Src.own {H : Hp} : ∀ (d : Nat) {p : Addr} {S : List Addr} {st : Sta}, Src CF CM td N H d p S st → ∀ b ∈ S, ∃ o, H b = some o ∧ Own o
  | 0, p, S, st, h, b, hb => by
    unfold Src at h
    obtain ⟨n, g, dx, h1, h2, h3, h4⟩ := h
    rw [h1, List.mem_singleton] at hb
    exact ⟨_, hb ▸ h2, .inl ⟨_, _, _, rfl⟩⟩
  | d + 1, p, S, st, h, b, hb => by
    unfold Src at h
    rcases h with ⟨n, g, dx, h1, h2, h3, h4⟩ | ⟨ks, dx, lw, lp, i, c, M⟩
    · rw [h1, List.mem_singleton] at hb
      exact ⟨_, hb ▸ h2, .inl ⟨_, _, _, rfl⟩⟩
    · rw [M.s] at hb
      rcases List.mem_cons.mp hb with hb | hb
      · exact ⟨_, hb ▸ M.h, .inl ⟨_, _, _, rfl⟩⟩
      rcases List.mem_cons.mp hb with hb | hb
      · exact ⟨_, hb ▸ M.hw, .inr ⟨_, rfl⟩⟩
      rcases List.mem_cons.mp hb with hb | hb
      · exact ⟨_, hb ▸ M.hp, .inr ⟨_, rfl⟩⟩
      obtain ⟨T, hT, hbT⟩ := List.mem_flatten.mp hb
      obtain ⟨k, hk, rfl⟩ := List.mem_map.mp hT
      exact Src.own d (M.kid k hk) b hbT
theorem Src.tracked {H : Hp} (d : Nat) {p : Addr} {S : List Addr} {st : Sta} (h : Src CF CM td N H d p S st) (b : Addr) (hb : b ∈ S) : ∃ o, H b = some o := by
  obtain ⟨o, e, _⟩ := Src.own d h b hb
  exact ⟨o, e⟩
theorem Src.same {H H' : Hp} {d : Nat} {p : Addr} {S : List Addr} {st : Sta} (s : Same H H') (h : Src CF CM td N H d p S st) : Src CF CM td N H' d p S st :=
  Src.frame d (fun b hb => by
    obtain ⟨o, e⟩ := Src.tracked d h b hb
    rw [e, s b o e]) h
theorem Src.nodup {H : Hp} : ∀ (d : Nat) {p : Addr} {S : List Addr} {st : Sta}, Src CF CM td N H d p S st → S.Nodup
  | 0, p, S, st, h => by
    unfold Src at h
    obtain ⟨n, g, dx, h1, _⟩ := h
    rw [h1]
    exact List.nodup_cons.mpr ⟨by simp, List.nodup_nil⟩
  | d + 1, p, S, st, h => by
    unfold Src at h
    rcases h with ⟨n, g, dx, h1, _⟩ | ⟨ks, dx, lw, lp, i, c, M⟩
    · rw [h1]
      exact List.nodup_cons.mpr ⟨by simp, List.nodup_nil⟩
    · exact M.nd
theorem MixAt.same {H H' : Hp} {d : Nat} {p : Addr} {S : List Addr} {st : Sta} {ks : List Kid} {dx lw lp : Addr} {i c : Nat} (s : Same H H') (M : MixAt CM (Src CF CM td N H d) H p S st ks dx lw lp i c) : MixAt CM (Src CF CM td N H' d) H' p S st ks dx lw lp i c :=
  ⟨M.s, M.nd, s _ _ M.h, s _ _ M.hw, s _ _ M.hp, fun k hk => (M.kid k hk).same s, M.pw, M.few, M.at_, M.turn, M.st⟩
end
end Mx
set_option Elab.async false
set_option maxRecDepth 100000
set_option linter.all false
namespace Mx
open PySem L2
abbrev sFI : Stmt := inClass sFeedC 0
abbrev sFH : Stmt := inClass sFeedC 1
abbrev sFT : Stmt := inClass sFeedC 2
abbrev sMI : Stmt := inClass sMixC 0
abbrev sMH : Stmt := inClass sMixC 1
abbrev sMT : Stmt := inClass sMixC 2
abbrev sMG : Stmt := inClass sMixC 3
/-- a method as its callers know it -/
structure MDef (K : PySem.W.Frag) (C : Addr) (m qual : Str) (st : Stmt) (ps : List Str) (f : Addr) (fd : FuncData) : Prop where
  fn : Fun K m qual st f fd
  m : Meth K C m f
  b : Binds K fd ps []
structure FeedC (K : PySem.W.Frag) (mg : Str → Option Value) (C : Addr) : Prop where
  cl : Cls K C
  n1 : NoAttr K C "name"
  n2 : NoAttr K C "lengths"
  n3 : NoAttr K C "given"
  mg : mg "FeedSource" = some (.ref C)
structure MixC (K : PySem.W.Frag) (mg : Str → Option Value) (C : Addr) : Prop where
  cl : Cls K C
  n1 : NoAttr K C "weights"
  n2 : NoAttr K C "parts"
  n3 : NoAttr K C "at"
  n4 : NoAttr K C "in_turn"
  mg : mg "MixerSource" = some (.ref C)
def spFI (C : Addr) : Sp := fun vs H Q _ => ∃ (p dx : Addr) (n : Str) (l : Addr), vs = [.ref p, .str n, .ref l] ∧ H p = some (.ins C dx []) ∧ Q .non (upd H p (.ins C dx (ff n l 0)))
def spMI (C : Addr) : Sp := fun vs H Q _ => ∃ (p dx lw lp : Addr), vs = [.ref p, .ref lw, .ref lp] ∧ H p = some (.ins C dx []) ∧ Q .non (upd H p (.ins C dx (mf lw lp 0 0)))
section
variable {P : Program} {w : World} {K : PySem.W.Frag} {mg : Str → Option Value} {base : Heap}
theorem scFI : FnScope ["self", "name", "lengths"] ["self", "name", "lengths"] (defScope sFI) := ⟨rfl, rfl, rfl, by decide +kernel, rfl, by decide +kernel, by decide +kernel⟩
theorem ok_FI {f C : Addr} {fd : FuncData} (F : Fun K "__init__" "FeedSource.__init__" sFI f fd) (T : FeedC K mg C) : FnOk P w K mg base CX0 1 f fd ["self", "name", "lengths"] (spFI C) := by
  refine F.ok scFI (fun vs H Q E h => ?_) (fun cdv A outer s H vs Q E hr h => ?_)
  · obtain ⟨p, dx, n, l, rfl, _⟩ := h
    rfl
  · obtain ⟨p, dx, n, l, rfl, hp, k⟩ := h
    refine ⟨_, pss_cons (ps_fld (pv 0) (pv 1) rfl) (pss_cons (ps_fld (pv 0) (pv 2) rfl) (pss_one (ps_fld (pv 0) pe_int rfl))), ?_⟩
    refine ⟨_, rfl, _, rfl, p, C, dx, [], rfl, hp, T.cl, T.n1, (by show 0 < 1000; decide), _, rfl, _, rfl, p, C, dx, _, rfl, upd_same, T.cl, T.n2, (by show 1 < 1000; decide), _, rfl, p, C, dx, _, rfl, upd_same, T.cl, T.n3, ?_, ?_⟩
    · have h1 : ¬ (("name" : Str) = "lengths") := by decide +kernel
      simp [putF, h1]
    · rw [upd_upd, upd_upd, ff_make]
      exact k
theorem scMI : FnScope ["self", "weights", "parts"] ["self", "weights", "parts"] (defScope sMI) := ⟨rfl, rfl, rfl, by decide +kernel, rfl, by decide +kernel, by decide +kernel⟩
theorem ok_MI {f C : Addr} {fd : FuncData} (F : Fun K "__init__" "MixerSource.__init__" sMI f fd) (T : MixC K mg C) : FnOk P w K mg base CX0 1 f fd ["self", "weights", "parts"] (spMI C) := by
  refine F.ok scMI (fun vs H Q E h => ?_) (fun cdv A outer s H vs Q E hr h => ?_)
  · obtain ⟨p, dx, lw, lp, rfl, _⟩ := h
    rfl
  · obtain ⟨p, dx, lw, lp, rfl, hp, k⟩ := h
    refine ⟨_, pss_cons (ps_fld (pv 0) (pv 1) rfl) (pss_cons (ps_fld (pv 0) (pv 2) rfl) (pss_cons (ps_fld (pv 0) pe_int rfl) (pss_one (ps_fld (pv 0) pe_int rfl)))), ?_⟩
    have h1 : ¬ (("weights" : Str) = "parts") := by decide +kernel
    have h2 : ¬ (("weights" : Str) = "at") := by decide +kernel
    have h3 : ¬ (("parts" : Str) = "at") := by decide +kernel
    refine ⟨_, rfl, _, rfl, p, C, dx, [], rfl, hp, T.cl, T.n1, (by show 0 < 1000; decide), _, rfl, _, rfl, p, C, dx, _, rfl, upd_same, T.cl, T.n2, (by show 1 < 1000; decide), _, rfl, p, C, dx, _, rfl, upd_same, T.cl, T.n3, ?_, _, rfl, p, C, dx, _, rfl, upd_same, T.cl, T.n4, ?_, ?_⟩
    · simp [putF, h1]
    · simp [putF, h1, h2, h3]
    · rw [upd_upd, upd_upd, upd_upd, mf_make]
      exact k
end
end Mx
set_option Elab.async false
set_option maxRecDepth 100000
set_option linter.all false
namespace Mx
open PySem L2
structure SC (K : PySem.W.Frag) (mg : Str → Option Value) (CF CM fFI fFH fFT fMI fMH fMT fMG : Addr) (dFI dFH dFT dMI dMH dMT dMG : FuncData) : Prop where
  F : FeedC K mg CF
  M : MixC K mg CM
  mkF : Mk K CF fFI
  FI : Fun K "__init__" "FeedSource.__init__" sFI fFI dFI
  bFI : Binds K dFI ["self", "name", "lengths"] []
  FH : MDef K CF "has_more" "FeedSource.has_more" sFH ["self"] fFH dFH
  FT : MDef K CF "take" "FeedSource.take" sFT ["self"] fFT dFT
  mkM : Mk K CM fMI
  MI : Fun K "__init__" "MixerSource.__init__" sMI fMI dMI
  bMI : Binds K dMI ["self", "weights", "parts"] []
  MH : MDef K CM "has_more" "MixerSource.has_more" sMH ["self"] fMH dMH
  MT : MDef K CM "take" "MixerSource.take" sMT ["self"] fMT dMT
  MG : MDef K CM "go_to_next_part" "MixerSource.go_to_next_part" sMG ["self"] fMG dMG
theorem Src.cases {CF CM td : Addr} {N : List Str} {H : Hp} {d : Nat} {p : Addr} {S : List Addr} {st : Sta} (h : Src CF CM td N H d p S st) : (∃ n g dx, FeedAt CF td N H p S st n g dx) ∨ ∃ e, d = e + 1 ∧ ∃ ks dx lw lp i c, MixAt CM (Src CF CM td N H e) H p S st ks dx lw lp i c := by
  cases d with
  | zero => unfold Src at h; exact .inl h
  | succ e =>
    unfold Src at h
    rcases h with h | h
    · exact .inl h
    · exact .inr ⟨e, rfl, h⟩
section
variable {P : Program} {w : World} {K : PySem.W.Frag} {mg : Str → Option Value} {base : Heap} {CF CM fFI fFH fFT fMI fMH fMT fMG : Addr} {dFI dFH dFT dMI dMH dMT dMG : FuncData}
theorem nT : (("take" : Str) == ("name" : Str)) = false ∧ (("take" : Str) == ("lengths" : Str)) = false ∧ (("take" : Str) == ("given" : Str)) = false ∧ (("take" : Str) == ("weights" : Str)) = false ∧ (("take" : Str) == ("parts" : Str)) = false ∧ (("take" : Str) == ("at" : Str)) = false ∧ (("take" : Str) == ("in_turn" : Str)) = false := by decide +kernel
end
end Mx
set_option Elab.async false
set_option maxRecDepth 100000
set_option linter.all false
namespace Mx
open PySem L2
theorem Src.mono0 {CF CM td : Addr} {N : List Str} {H : Hp} {d : Nat} {p : Addr} {S : List Addr} {st : Sta} (h : ∃ n g dx, FeedAt CF td N H p S st n g dx) : Src CF CM td N H d p S st := by
  cases d with
  | zero => unfold Src; exact h
  | succ e => unfold Src; exact .inl h
theorem Moves.fut {L : Str → Nat} {ks : List (Nat × Sta)} {i c j c' : Nat} (m : Moves L ks i c j c') (hp : Pos (ks.map fun p => (p.1, p.2.rem L))) : (Sta.mix ks i c).rem L = (Sta.mix ks j c').rem L ∧ ∃ w s, ks[j]? = some (w, s) ∧ c' < w ∧ s.rem L ≠ [] := by
  induction m with
  | stay h hc hr => exact ⟨rfl, _, _, h, hc, hr⟩
  | step h hc m ih =>
    refine ⟨?_, ih.2⟩
    rw [← ih.1, Sta.rem_mix, Sta.rem_mix, futI_next hp (by rw [List.getElem?_map, h]; rfl) hc, List.length_map]
theorem set_map {α β : Type} (f : α → β) (l : List α) (i : Nat) (x : α) : (l.set i x).map f = (l.map f).set i (f x) := by
  rw [List.map_set]
theorem mem_set {α : Type} {l : List α} {i : Nat} {x y : α} (h : y ∈ l.set i x) : y = x ∨ ∃ j, j ≠ i ∧ l[j]? = some y := by
  obtain ⟨j, hj⟩ := List.mem_iff_getElem?.mp h
  by_cases e : j = i
  · subst e
    rw [List.getElem?_set_self'] at hj
    cases q : l[j]? with
    | none => rw [q] at hj; cases hj
    | some z => rw [q] at hj; exact .inl (Option.some.inj hj).symm
  · rw [List.getElem?_set_ne (Ne.symm e)] at hj
    exact .inr ⟨j, e, hj⟩
end Mx
set_option Elab.async false
set_option maxRecDepth 100000
set_option linter.all false
namespace Mx
open PySem L2
mutual
/-- a tree's source in the beginning -/
def Tr.sta : Tr → Sta
  | .feed n => .feed n 0
  | .mix ps => .mix (Tr.staL ps) 0 0
def Tr.staL : List (Int × Tr) → List (Nat × Sta)
  | [] => []
  | (w, t) :: r => (w.toNat, t.sta) :: Tr.staL r
end
theorem Tr.staL_eq : ∀ ps : List (Int × Tr), Tr.staL ps = ps.map fun p => (p.1.toNat, p.2.sta)
  | [] => by rw [Tr.staL]; rfl
  | (w, t) :: r => by rw [Tr.staL, Tr.staL_eq r]; rfl
theorem Tr.sta_feed (n : Str) : (Tr.feed n).sta = .feed n 0 := by rw [Tr.sta]
theorem Tr.sta_mix (ps : List (Int × Tr)) : (Tr.mix ps).sta = .mix (ps.map fun p => (p.1.toNat, p.2.sta)) 0 0 := by rw [Tr.sta, Tr.staL_eq]
def spSO (K : PySem.W.Frag) (CF CM : Addr) (d : Nat) : Sp := fun vs H Q _ => ∃ (v : V) (t : Tr) (td : Addr) (N : List Str), vs = [v, .ref td] ∧ TrAt K H d v t ∧ t.wf d ∧ (∀ n ∈ t.names, n ∈ N) ∧
  ∀ (p : Addr) (S : List Addr) (H' : Hp), Same H H' → Src CF CM td N H' d p S t.sta → (∀ b ∈ S, H b = none) → Q (.ref p) H'
section
variable {P : Program} {w : World} {K : PySem.W.Frag} {mg : Str → Option Value} {base : Heap} {CF CM fFI fFH fFT fMI fMH fMT fMG : Addr} {dFI dFH dFT dMI dMH dMT dMG : FuncData}
def nSO : List Str := ["tree", "lengths", "weights", "weight", "part"]
theorem scSO : FnScope nSO ["tree", "lengths"] (defScope sSourceOf) := ⟨rfl, rfl, rfl, by decide +kernel, rfl, by decide +kernel, by decide +kernel⟩
theorem so_step {d : Nat} {f : Addr} {fd : FuncData} (F : Def K mg "source_of" sSourceOf ["tree", "lengths"] f fd) (C : SC K mg CF CM fFI fFH fFT fMI fMH fMT fMG dFI dFH dFT dMI dMH dMT dMG) (B : Blt mg)
    (GR : FnOk P w K mg base CX0 (d + 2) f fd ["tree", "lengths"] (pre (spSO K CF CM) d)) : FnOk P w K mg base CX0 (d + 3) f fd ["tree", "lengths"] (spSO K CF CM d) := by
  have GFI : FnOk P w K mg base CX0 1 fFI dFI ["self", "name", "lengths"] (spFI CF) := ok_FI C.FI C.F
  have GMI : FnOk P w K mg base CX0 1 fMI dMI ["self", "weights", "parts"] (spMI CM) := ok_MI C.MI C.M
  refine F.fn.ok scSO (fun vs H Q E h => ?_) (fun cdv A outer s H vs Q E hr h => ?_)
  · obtain ⟨v, t, td, N, rfl, _⟩ := h
    rfl
  · obtain ⟨v, t, td, N, rfl, hT, hW, hN, k⟩ := h
    refine ⟨_, pss_cons (ps_if (pt_val (pe_callB call_isi (by rfl) B.isinstance (by decide +kernel) (pa_cons (pv 0) (pa_cons (pe_bltn (v := .ty "str") (by rfl) B.str (by decide +kernel) rfl) pa_nil))))
        (pss_one (ps_ret (pe_make C.mkF GFI (hr.mono (by omega)) rfl C.F.mg C.bFI .nil pass0 (pa_cons (pv 0) (pa_cons (pv 1) pa_nil))))) pss_nil)
      (pss_cons (ps_setLc (i := 2) (own := [("weight", 3), ("part", 4)]) (g := gTup K 2 (gCons (gName 3) (gCons (gName 4) gNil))) (tt := tYes) (by rfl) scSO.nd rfl rfl (sw_true rfl rfl rfl (by decide +kernel)) (pi_tup (pv 0)) (blkOk_by (own := [("weight", 3), ("part", 4)]) (N := nSO) (sc := defScope sSourceOf) (by decide +kernel))
            (fun _ _ _ _ _ => pg_tup rfl (pgs_cons (pg_name (i := 3) scSO.nd rfl (Or.inl rfl)) (pgs_cons (pg_name (i := 4) scSO.nd rfl (Or.inl rfl)) pgs_nil))) (fun _ _ _ _ _ => pts_nil)
            (fun _ _ _ _ _ => pv 3))
      (pss_one (ps_ret (pe_make C.mkM GMI (hr.mono (by omega)) rfl C.M.mg C.bMI .nil pass0 (pa_cons (pv 2) (pa_cons
        (pe_lc (own := [("weight", 3), ("part", 4)]) (g := gTup K 2 (gCons (gName 3) (gCons (gName 4) gNil))) (tt := tYes) (by rfl) scSO.nd (pi_tup (pv 0)) (blkOk_by (own := [("weight", 3), ("part", 4)]) (N := nSO) (sc := defScope sSourceOf) (by decide +kernel))
          (fun _ _ _ _ _ => pg_tup rfl (pgs_cons (pg_name (i := 3) scSO.nd rfl (Or.inl rfl)) (pgs_cons (pg_name (i := 4) scSO.nd rfl (Or.inl rfl)) pgs_nil))) (fun _ _ _ _ _ => pts_nil)
          (fun _ _ _ _ _ => pe_call GR hr rfl F.mg F.fn.kp F.b .nil pass0 (pa_cons (pv 4) (pa_cons (pv 1) pa_nil)))) pa_nil)))))), ?_⟩
    cases t with
    | feed n =>
      have hv := TrAt_feed.mp hT
      subst hv
      have hn : n ∈ (Tr.feed n).names := by rw [Tr.names_feed]; exact List.mem_cons_self
      refine ⟨_, rfl, _, _, _, _, true, rfl, .ty _, .base (.str n), kit_ty (by decide +kernel), _, rfl, ?_⟩
      refine ⟨_, rfl, _, rfl, fun x dx nx ndx ne => ?_⟩
      refine ⟨x, dx, n, td, rfl, upd_same, rfl, ?_⟩
      rw [upd_upd]
      refine k x [x] _ ?_ (Src.mono0 ⟨n, 0, dx, rfl, upd_same, Tr.sta_feed n, hN n hn⟩) (fun b hb => by rw [List.mem_singleton] at hb; rw [hb]; exact nx)
      exact Same.own (Same.new (Same.refl _) ndx) nx
    | mix ps =>
      cases d with
      | zero => exact (TrAt_zero hT).elim
      | succ e =>
        obtain ⟨a, xs, rfl, hs, hP⟩ := TrAt_mix.mp hT
        have hw : ps ≠ [] ∧ ps.length ≤ 5 ∧ ∀ p ∈ ps, 1 ≤ p.1 ∧ p.1 ≤ 9 ∧ p.2.wf e := by unfold Tr.wf at hW; exact hW
        have hsub : ∀ p ∈ ps, ∀ n ∈ p.2.names, n ∈ (Tr.mix ps).names := fun p hp n hn => by
          rw [Tr.names_mix]
          exact List.mem_flatten.mpr ⟨_, List.mem_map.mpr ⟨p, hp, rfl⟩, hn⟩
        refine ⟨_, rfl, _, _, _, _, false, rfl, .ty _, tyx_tup hs, kit_ty (by decide +kernel), _, rfl, ?_⟩
        refine ⟨_, rfl, a, rfl, ⟨_, hs⟩, fun lw nlw => ?_⟩
        refine lc_tup (K := K) (a := a) (xs := xs) (fun i H' => Same H H' ∧ H' lw = some (.lst ((ps.take i).map fun p => V.int p.1))) ?_ ?_ ?_ ?_
        · exact ⟨Same.new (Same.refl _) nlw, upd_same⟩
        · rintro i H' _ ⟨hS, _⟩
          exact sqT_same hS _ _ hs
        · rintro i x H' hx ⟨hS, hD⟩
          have hi : i < ps.length := by rw [← hP.1]; exact (List.getElem?_eq_some_iff.mp hx).1
          have hpi : ps[i]? = some ps[i] := List.getElem?_eq_getElem hi
          obtain ⟨b, y, rfl, hb, hy⟩ := hP.2 i x _ hx hpi
          refine ⟨b, _, rfl, sqT_same hS _ _ hb, rfl, _, _, rfl, _, _, rfl, rfl, rfl, ?_⟩
          refine ⟨_, rfl, _, hD, ?_, Same.own hS nlw, ?_⟩
          · rw [List.length_map, List.length_take]; exact small1000 (by omega)
          · rw [upd_same, take_succ_of hpi, List.map_append]; rfl
        · rintro H1 ⟨hS1, hlw⟩
          rw [List.take_of_length_le (by rw [hP.1]; exact Nat.le_refl _)] at hlw
          refine ⟨_, rfl, _, rfl, a, rfl, ⟨_, sqT_same hS1 _ _ hs⟩, fun lp nlp => ?_⟩
          have nlpw : lw ≠ lp := ne_of_none hlw nlp
          refine lc_tup (K := K) (a := a) (xs := xs) (fun i H' => Same H1 H' ∧ ∃ ks : List Kid, H' lp = some (.lst (ks.map fun k => V.ref k.a)) ∧ (∀ k ∈ ks, Src CF CM td N H' e k.a k.S k.st) ∧ kSta ks = (ps.take i).map (fun p => (p.1.toNat, p.2.sta)) ∧ (kFoot ks).Nodup ∧ (∀ b ∈ kFoot ks, H1 b = none ∧ b ≠ lp)) ?_ ?_ ?_ ?_
          · exact ⟨Same.new (Same.refl _) nlp, [], upd_same, (fun k hk => by cases hk), rfl, List.nodup_nil, fun b hb => by cases hb⟩
          · rintro i H' _ ⟨hS, _⟩
            exact sqT_same (hS1.trans hS) _ _ hs
          · rintro i x H' hx ⟨hS, ks, hlp, hkid, hrows, hnd, hfr⟩
            have hS0 := hS1.trans hS
            have hi : i < ps.length := by rw [← hP.1]; exact (List.getElem?_eq_some_iff.mp hx).1
            have hpi : ps[i]? = some ps[i] := List.getElem?_eq_getElem hi
            have hpm : ps[i] ∈ ps := List.getElem_mem hi
            obtain ⟨b, y, rfl, hb, hy⟩ := hP.2 i x _ hx hpi
            refine ⟨b, _, rfl, sqT_same hS0 _ _ hb, rfl, _, _, rfl, _, _, rfl, rfl, rfl, ?_⟩
            refine ⟨_, rfl, _, rfl, y, ps[i].2, td, N, rfl, TrAt.keep (sqT_same hS0) _ hy, (hw.2.2 _ hpm).2.2, fun n hn => hN n (hsub _ hpm n hn), fun p S H2 hS2 hsrc hfresh => ?_⟩
            have hlp2 := hS2 _ _ hlp
            have hkl : ks.length ≤ i := by
              have z := congrArg List.length hrows
              unfold kSta at z
              rw [List.length_map, List.length_map, List.length_take] at z
              omega
            have nS : lp ∉ S := fun z => by rw [hfresh lp z] at hlp; cases hlp
            refine ⟨_, hlp2, by rw [List.length_map]; exact small1000 (by omega), Same.own (hS.trans hS2) nlp, ks ++ [⟨ps[i].1.toNat, p, S, ps[i].2.sta⟩], ?_, ?_, ?_, ?_, ?_⟩
            · rw [upd_same, List.map_append]; rfl
            · intro kd hkd
              rcases List.mem_append.mp hkd with h | h
              · refine Src.frame e (fun c hc => ?_) ((hkid kd h).same hS2)
                exact upd_ne (hfr c (foot_mem h hc)).2
              · rw [List.mem_singleton] at h
                subst h
                exact Src.frame e (fun c hc => upd_ne (fun z => nS (z ▸ hc))) hsrc
            · rw [take_succ_of hpi, List.map_append, ← hrows]
              unfold kSta
              rw [List.map_append]
              rfl
            · have e0 : kFoot (ks ++ [⟨ps[i].1.toNat, p, S, ps[i].2.sta⟩]) = kFoot ks ++ S := by unfold kFoot; rw [List.map_append, List.flatten_append]; simp
              rw [e0]
              refine List.nodup_append.mpr ⟨hnd, Src.nodup e hsrc, fun c hc c2 hc2 z => ?_⟩
              subst z
              obtain ⟨T, hT2, hcT⟩ := List.mem_flatten.mp hc
              obtain ⟨kd, hkd, rfl⟩ := List.mem_map.mp hT2
              obtain ⟨o, ho⟩ := Src.tracked e (hkid kd hkd) c hcT
              rw [hfresh c hc2] at ho
              cases ho
            · have e0 : kFoot (ks ++ [⟨ps[i].1.toNat, p, S, ps[i].2.sta⟩]) = kFoot ks ++ S := by unfold kFoot; rw [List.map_append, List.flatten_append]; simp
              rw [e0]
              intro c hc
              rcases List.mem_append.mp hc with h | h
              · exact hfr c h
              · exact ⟨Same.free hS (hfresh c h), fun z => nS (z ▸ h)⟩
          · rintro H3 ⟨hS, ks, hlp, hkid, hrows, hnd, hfr⟩
            rw [List.take_of_length_le (by rw [hP.1]; exact Nat.le_refl _)] at hrows
            have hlw3 := hS _ _ hlw
            have hkl : ks.length = ps.length := by
              have z := congrArg List.length hrows
              unfold kSta at z
              rw [List.length_map, List.length_map] at z
              exact z
            have hpl : 0 < ps.length := List.length_pos_iff.mpr hw.1
            intro x dx nx ndx ne
            refine ⟨x, dx, lw, lp, rfl, upd_same, rfl, ?_⟩
            rw [upd_upd]
            have nxw : lw ≠ x := ne_of_none hlw3 nx
            have nxp : lp ≠ x := ne_of_none hlp nx
            have S4 : Same H3 (upd (upd H3 dx (.own x)) x (.ins CM dx (mf lw lp 0 0))) := Same.own (Same.new (Same.refl _) ndx) nx
            have hwk : (ps.map fun p => V.int p.1) = ks.map fun k => V.int (k.w : Nat) := by
              have z : (kSta ks).map (fun q => V.int (q.1 : Nat)) = (ps.map (fun p => (p.1.toNat, p.2.sta))).map (fun q => V.int (q.1 : Nat)) := by rw [hrows]
              unfold kSta at z
              rw [List.map_map, List.map_map] at z
              have z2 : ks.map (fun k => V.int (k.w : Nat)) = ps.map ((fun q : Nat × Sta => V.int (q.1 : Nat)) ∘ fun p => (p.1.toNat, p.2.sta)) := z
              rw [z2]
              refine List.map_congr_left fun p hp => ?_
              have := (hw.2.2 p hp).1
              show V.int p.1 = V.int ((p.1.toNat : Nat) : Int)
              rw [Int.toNat_of_nonneg (by omega)]
            have hfoot3 : ∀ c ∈ kFoot ks, ∃ o, H3 c = some o := fun c hc => by
              obtain ⟨T, hT2, hcT⟩ := List.mem_flatten.mp hc
              obtain ⟨kd, hkd, rfl⟩ := List.mem_map.mp hT2
              exact Src.tracked e (hkid kd hkd) c hcT
            have hpos : ∀ k ∈ ks, 1 ≤ k.w := by
              intro k hk
              have hq : (k.w, k.st) ∈ kSta ks := List.mem_map.mpr ⟨k, hk, rfl⟩
              rw [hrows] at hq
              obtain ⟨p, hp, e⟩ := List.mem_map.mp hq
              have := (hw.2.2 p hp).1
              have e1 : p.1.toNat = k.w := (Prod.mk.inj e).1
              omega
            refine k x (x :: lw :: lp :: kFoot ks) _ ((hS1.trans hS).trans S4) ?_ ?_
            · unfold Src
              refine .inr ⟨ks, dx, lw, lp, 0, 0, ⟨rfl, ?_, upd_same, ?_, ?_, ?_, hpos, by omega, by omega, fun _ _ => Nat.zero_le _, ?_⟩⟩
              · refine List.nodup_cons.mpr ⟨fun z => ?_, List.nodup_cons.mpr ⟨fun z => ?_, List.nodup_cons.mpr ⟨fun z => (hfr lp z).2 rfl, hnd⟩⟩⟩
                · rcases List.mem_cons.mp z with z | z
                  · exact nxw z.symm
                  rcases List.mem_cons.mp z with z | z
                  · exact nxp z.symm
                  obtain ⟨o, ho⟩ := hfoot3 x z
                  rw [nx] at ho
                  cases ho
                · rcases List.mem_cons.mp z with z | z
                  · exact nlpw z
                  have := (hfr lw z).1
                  rw [hlw] at this
                  cases this
              · rw [S4 _ _ hlw3, hwk]
              · exact S4 _ _ hlp
              · exact fun kd hkd => (hkid kd hkd).same S4
              · rw [hrows, Tr.sta_mix]
            · intro c hc
              rcases List.mem_cons.mp hc with rfl | hc
              · exact Same.free hS1 (Same.free hS nx)
              rcases List.mem_cons.mp hc with rfl | hc
              · exact nlw
              rcases List.mem_cons.mp hc with rfl | hc
              · exact Same.free hS1 nlp
              exact Same.free hS1 (hfr c hc).1
theorem ok_SO {f : Addr} {fd : FuncData} (F : Def K mg "source_of" sSourceOf ["tree", "lengths"] f fd) (C : SC K mg CF CM fFI fFH fFT fMI fMH fMT fMG dFI dFH dFT dMI dMH dMT dMG) (B : Blt mg) : ∀ d : Nat, FnOk P w K mg base CX0 (d + 3) f fd ["tree", "lengths"] (spSO K CF CM d)
  | 0 => so_step F C B (F.fn.ok (k := 1) scSO (fun _ _ _ _ h => h.elim) (fun _ _ _ _ _ _ _ _ _ h => h.elim))
  | d + 1 => so_step F C B (ok_SO F C B d)
end
end Mx
set_option Elab.async false
set_option maxRecDepth 100000
set_option linter.all false
/-! the mixer at which two feeds meet -/
namespace Mx
open PySem L2
inductive Meet (n m : Str) : Tr → Nat × Int × Tr → Nat × Int × Tr → Prop
  | here {ps : List (Int × Tr)} {i j : Nat} {P Q : Int × Tr} (hi : ps[i]? = some P) (hj : ps[j]? = some Q) (hn : n ∈ P.2.names) (hm : m ∈ Q.2.names) (ne : i ≠ j) : Meet n m (.mix ps) (i, P.1, P.2) (j, Q.1, Q.2)
  | deep {ps : List (Int × Tr)} {i : Nat} {P : Int × Tr} {a b : Nat × Int × Tr} (hi : ps[i]? = some P) (h : Meet n m P.2 a b) : Meet n m (.mix ps) a b
theorem names_part {ps : List (Int × Tr)} {p : Int × Tr} (hp : p ∈ ps) {n : Str} (h : n ∈ p.2.names) : n ∈ (Tr.mix ps).names := by
  rw [Tr.names_mix]
  exact List.mem_flatten.mpr ⟨_, List.mem_map.mpr ⟨p, hp, rfl⟩, h⟩
theorem Meet.names {n m : Str} {t : Tr} {a b : Nat × Int × Tr} (h : Meet n m t a b) : n ∈ a.2.2.names ∧ m ∈ b.2.2.names ∧ (∀ x ∈ a.2.2.names, x ∈ t.names) ∧ ∀ x ∈ b.2.2.names, x ∈ t.names := by
  induction h with
  | here hi hj hn hm ne => exact ⟨hn, hm, fun x hx => names_part (List.mem_of_getElem? hi) hx, fun x hx => names_part (List.mem_of_getElem? hj) hx⟩
  | deep hi h ih =>
    obtain ⟨h1, h2, h3, h4⟩ := ih
    exact ⟨h1, h2, fun x hx => names_part (List.mem_of_getElem? hi) (h3 x hx), fun x hx => names_part (List.mem_of_getElem? hi) (h4 x hx)⟩
/-- the parts at the meeting are well formed trees -/
theorem Meet.wf {n m : Str} {t : Tr} {a b : Nat × Int × Tr} (h : Meet n m t a b) : ∀ {d : Nat}, t.wf d → ∃ e, a.2.2.wf e ∧ b.2.2.wf e := by
  induction h with
  | here hi hj hn hm ne =>
    intro d hw
    cases d with
    | zero => unfold Tr.wf at hw; exact hw.elim
    | succ e => exact ⟨e, wf_part hw (List.mem_of_getElem? hi), wf_part hw (List.mem_of_getElem? hj)⟩
  | deep hi h ih =>
    intro d hw
    cases d with
    | zero => unfold Tr.wf at hw; exact hw.elim
    | succ e => exact ih (wf_part hw (List.mem_of_getElem? hi))
/-- two feeds of a tree meet somewhere -/
theorem Meet.some {n m : Str} (ne : n ≠ m) : ∀ (d : Nat) {t : Tr}, t.wf d → t.names.Nodup → n ∈ t.names → m ∈ t.names → ∃ A B, Meet n m t A B
  | d, .feed s, _, _, hn, hm => by
    rw [Tr.names_feed, List.mem_singleton] at hn hm
    exact absurd (hn.trans hm.symm) ne
  | 0, .mix ps, h, _, _, _ => by unfold Tr.wf at h; exact h.elim
  | d + 1, .mix ps, h, nd, hn, hm => by
    rw [Tr.names_mix, List.mem_flatten] at hn hm
    obtain ⟨l, hl, hn⟩ := hn
    obtain ⟨P, hP, rfl⟩ := List.mem_map.mp hl
    obtain ⟨l2, hl2, hm⟩ := hm
    obtain ⟨Q, hQ, rfl⟩ := List.mem_map.mp hl2
    obtain ⟨i, hi⟩ := List.mem_iff_getElem?.mp hP
    obtain ⟨j, hj⟩ := List.mem_iff_getElem?.mp hQ
    by_cases e : i = j
    · subst e
      rw [hi] at hj
      cases hj
      obtain ⟨A, B, q⟩ := Meet.some ne d (wf_part h hP) (nodup_part nd hP) hn hm
      exact ⟨A, B, .deep hi q⟩
    · exact ⟨_, _, .here hi hj hn hm e⟩
end Mx
set_option Elab.async false
set_option maxRecDepth 100000
set_option linter.all false
/-! the limit of pushes -/
namespace Mx
open PySem L2
section
variable {α : Type}
theorem wider_sum {f : Nat → Nat → Nat} {a b : Rows α} (h : Wider a b) : ∀ s, sumB f s b + tot a ≤ sumB f s a + tot b := by
  induction h with
  | nil => intro s; exact Nat.le_refl _
  | @cons w r r' a b h t ih =>
    intro s
    have := ih (s + 1)
    rw [tot_cons, tot_cons]
    show min r'.length (f s w) + sumB f (s + 1) b + (r.length + tot a) ≤ min r.length (f s w) + sumB f (s + 1) a + (r'.length + tot b)
    omega
def sumW (i c k : Nat) : Nat → Rows α → Nat
  | _, [] => 0
  | s, r :: rest => (if s = i then k else r.1 * c) + sumW i c k (s + 1) rest
/-- the rows are alike but for the i-th one -/
inductive But1 (i : Nat) : Nat → Rows α → Rows α → Prop
  | nil {s : Nat} : But1 i s [] []
  | cons {s : Nat} {r r' : Nat × List α} {a b : Rows α} (h : s ≠ i → r = r') (t : But1 i (s + 1) a b) : But1 i s (r :: a) (r' :: b)
theorem but1_sum {w i p p' k c : Nat} (hp : p' ≤ p + k) (hc : p' / w ≤ p / w + c) {s : Nat} {a b : Rows α} (h : But1 i s a b) : (∀ j r, a[j]? = some r → s + j = i → p ≤ r.2.length) → sumB (bd w i p') s b ≤ sumB (bd w i p) s a + sumW i c k s a := by
  induction h with
  | nil => exact fun _ => Nat.le_refl _
  | @cons s r r' a b h t ih =>
    intro hl
    have ih' := ih fun j q hq e => hl (j + 1) q (by simpa using hq) (by omega)
    show min r'.2.length (bd w i p' s r'.1) + sumB (bd w i p') (s + 1) b ≤ min r.2.length (bd w i p s r.1) + sumB (bd w i p) (s + 1) a + ((if s = i then k else r.1 * c) + sumW i c k (s + 1) a)
    have key : min r'.2.length (bd w i p' s r'.1) ≤ min r.2.length (bd w i p s r.1) + (if s = i then k else r.1 * c) := by
      by_cases e : s = i
      · have h0 := hl 0 r rfl (by omega)
        unfold bd
        rw [if_neg (by omega), if_pos e, if_neg (by omega), if_pos e, if_pos e]
        omega
      · rw [← h e, if_neg e]
        unfold bd
        by_cases l : s < i
        · rw [if_pos l, if_pos l]
          have : r.1 * (p' / w + 1) ≤ r.1 * (p / w + 1) + r.1 * c := by
            rw [← Nat.mul_add]
            exact Nat.mul_le_mul_left _ (by omega)
          omega
        · rw [if_neg l, if_neg e, if_neg l, if_neg e]
          have : r.1 * (p' / w) ≤ r.1 * (p / w) + r.1 * c := by
            rw [← Nat.mul_add]
            exact Nat.mul_le_mul_left _ hc
          omega
    omega
def wsum (rows : Rows α) : Nat := (rows.map (·.1)).sum
theorem wsum_cons (r : Nat × List α) (rest : Rows α) : wsum (r :: rest) = r.1 + wsum rest := by unfold wsum; simp
theorem sumW_far {i c k : Nat} : ∀ {rows : Rows α} {s : Nat}, i < s → sumW i c k s rows = wsum rows * c
  | [], s, _ => by simp [sumW, wsum]
  | r :: rest, s, h => by
    show (if s = i then k else r.1 * c) + sumW i c k (s + 1) rest = _
    rw [if_neg (by omega), sumW_far (by omega), wsum_cons, Nat.add_mul]
theorem sumW_at {i c k : Nat} : ∀ {rows : Rows α} {s j : Nat} {r : Nat × List α}, rows[j]? = some r → s + j = i → r.1 ≤ wsum rows ∧ sumW i c k s rows = k + (wsum rows - r.1) * c
  | [], s, j, r, h, _ => by simp at h
  | q :: rest, s, 0, r, h, e => by
    have eq : q = r := by simpa using h
    subst eq
    show _ ∧ (if s = i then k else q.1 * c) + sumW i c k (s + 1) rest = _
    rw [if_pos (by omega), sumW_far (by omega), wsum_cons]
    exact ⟨by omega, by rw [Nat.add_sub_cancel_left]⟩
  | q :: rest, s, j + 1, r, h, e => by
    obtain ⟨i1, i2⟩ := sumW_at (i := i) (c := c) (k := k) (rows := rest) (s := s + 1) (j := j) (r := r) (by simpa using h) (by omega)
    show _ ∧ (if s = i then k else q.1 * c) + sumW i c k (s + 1) rest = _
    rw [if_neg (by omega), i2, wsum_cons]
    refine ⟨by omega, ?_⟩
    rw [show q.1 + wsum rest - r.1 = q.1 + (wsum rest - r.1) from by omega, Nat.add_mul]
    omega
end
theorem ceil_le {p p' k w : Nat} (hw : 1 ≤ w) (h : p' ≤ p + k) : p' / w ≤ p / w + (k / w + if k % w > 0 then 1 else 0) := by
  refine Nat.le_trans (Nat.div_le_div_right h) ?_
  rw [Nat.add_div (by omega)]
  have := Nat.mod_lt p (show w > 0 from by omega)
  split <;> split <;> omega
/-- the limit of pushes of m's items by n -/
inductive Lim (n m : Str) : Tr → Nat → Prop
  | here {ps : List (Int × Tr)} {i j : Nat} {P Q : Int × Tr} (hi : ps[i]? = some P) (hj : ps[j]? = some Q) (hn : n ∈ P.2.names) (hm : m ∈ Q.2.names) (ne : i ≠ j) : Lim n m (.mix ps) 1
  | deep {ps : List (Int × Tr)} {i k : Nat} {P : Int × Tr} (hi : ps[i]? = some P) (hn : n ∈ P.2.names) (hm : m ∈ P.2.names) (h : Lim n m P.2 k) :
      Lim n m (.mix ps) (k + ((ps.map fun p => p.1.toNat).sum - P.1.toNat) * (k / P.1.toNat + if k % P.1.toNat > 0 then 1 else 0))
theorem other_part {ps : List (Int × Tr)} (nd : (Tr.mix ps).names.Nodup) {i j : Nat} {P Q : Int × Tr} (hi : ps[i]? = some P) (hj : ps[j]? = some Q) (ne : i ≠ j) {n : Str} (hn : n ∈ P.2.names) : n ∉ Q.2.names := by
  rw [Tr.names_mix, nodup_flat, List.pairwise_map] at nd
  intro hq
  obtain ⟨l1, e1⟩ := List.getElem?_eq_some_iff.mp hi
  obtain ⟨l2, e2⟩ := List.getElem?_eq_some_iff.mp hj
  rcases Nat.lt_or_gt_of_ne ne with z | z
  · exact List.pairwise_iff_getElem.mp nd.2 i j l1 l2 z n (by rw [e1]; exact hn) n (by rw [e2]; exact hq) rfl
  · exact List.pairwise_iff_getElem.mp nd.2 j i l2 l1 z n (by rw [e2]; exact hq) n (by rw [e1]; exact hn) rfl
theorem sum_one {L L' : Str → Nat} {n : Str} (h1 : L' n = L n + 1) (h2 : ∀ m, m ≠ n → L' m = L m) : ∀ {ns : List Str}, ns.Nodup → (ns.map L').sum ≤ (ns.map L).sum + 1
  | [], _ => Nat.zero_le _
  | m :: ns, nd => by
    rw [List.map_cons, List.map_cons, List.sum_cons, List.sum_cons]
    have hc := List.nodup_cons.mp nd
    by_cases e : m = n
    · subst e
      have : ns.map L' = ns.map L := List.map_congr_left fun x hx => h2 x fun z => hc.1 (z ▸ hx)
      rw [this]
      omega
    · have := sum_one h1 h2 hc.2
      rw [h2 m e]
      omega
theorem wider_of {L L' : Str → Nat} {d : Nat} : ∀ {ps : List (Int × Tr)}, (∀ p ∈ ps, p.2.wf d) → (∀ p ∈ ps, ∀ n ∈ p.2.names, L n ≤ L' n) → Wider (ps.map fun p => (p.1.toNat, p.2.out L)) (ps.map fun p => (p.1.toNat, p.2.out L'))
  | [], _, _ => .nil
  | q :: r, hw, hl => by
    refine .cons ?_ (wider_of (fun p hp => hw p (List.mem_cons_of_mem _ hp)) fun p hp => hl p (List.mem_cons_of_mem _ hp))
    rw [out_len d (hw q List.mem_cons_self), out_len d (hw q List.mem_cons_self)]
    have hq := hl q List.mem_cons_self
    generalize q.2.names = ns at hq
    induction ns with
    | nil => exact Nat.le_refl _
    | cons n ns ih =>
      rw [List.map_cons, List.map_cons, List.sum_cons, List.sum_cons]
      have := hq n List.mem_cons_self
      have := ih fun m hm => hq m (List.mem_cons_of_mem _ hm)
      omega
theorem but1_of {L L' : Str → Nat} {i : Nat} : ∀ {ps : List (Int × Tr)} {s : Nat}, (∀ j Q, ps[j]? = some Q → s + j ≠ i → Q.2.out L' = Q.2.out L) → But1 i s (ps.map fun p => (p.1.toNat, p.2.out L)) (ps.map fun p => (p.1.toNat, p.2.out L'))
  | [], _, _ => .nil
  | q :: r, s, h => .cons (fun ne => by show (q.1.toNat, q.2.out L) = (q.1.toNat, q.2.out L'); rw [h 0 q rfl (by omega)]) (but1_of fun j Q hj ne => h (j + 1) Q (by simpa using hj) (by omega))
/-- no push is greater -/
theorem Lim.le {n m : Str} {t : Tr} {k : Nat} (h : Lim n m t k) {L L' : Str → Nat} (h1 : L' n = L n + 1) (h2 : ∀ m, m ≠ n → L' m = L m) : ∀ {d : Nat}, t.wf d → t.names.Nodup → ∀ {a a' : Nat} {x : Item}, x.1 = m → (t.out L)[a]? = some x → (t.out L')[a']? = some x → a' ≤ a + k := by
  have le : ∀ y, L y ≤ L' y := fun y => by
    by_cases e : y = n
    · subst e; omega
    · rw [h2 y e]; exact Nat.le_refl _
  have same : ∀ {d : Nat} {u : Tr}, u.wf d → n ∉ u.names → u.out L' = u.out L := fun {d u} hu nn => out_ext d hu fun y hy => h2 y fun z => nn (z ▸ hy)
  induction h with
  | @here ps i j P Q hi hj hn hm ne =>
    intro d hw nd a a' x ex ha ha'
    cases d with
    | zero => unfold Tr.wf at hw; exact hw.elim
    | succ d =>
      have hQ := List.mem_of_getElem? hj
      have eQ := same (wf_part hw hQ) (other_part nd hi hj ne hn)
      have mx := (mem_out (d + 1) hw x).mp (List.mem_of_getElem? ha)
      obtain ⟨q, hq⟩ := List.mem_iff_getElem?.mp ((mem_out (L := L) d (wf_part hw hQ) x).mpr ⟨by rw [ex]; exact hm, mx.2⟩)
      have rj : ∀ L : Str → Nat, (ps.map fun p => (p.1.toNat, p.2.out L))[j]? = some (Q.1.toNat, Q.2.out L) := fun L => by rw [List.getElem?_map, hj]; rfl
      have s1 := R_sum (wf_pos hw) (rj L) hq
      have s2 := R_sum (wf_pos hw) (rj L') (by rw [eQ]; exact hq)
      rw [← Tr.out_mix] at s1 s2
      rw [at_unique (out_nodup (d + 1) hw nd) ha s1, at_unique (out_nodup (d + 1) hw nd) ha' s2]
      have wd := wider_sum (f := bd Q.1.toNat j q) (wider_of (fun p hp => wf_part hw hp) (fun p hp y _ => le y)) 0
      have t1 := len_R (wf_pos (L := L) hw)
      have t2 := len_R (wf_pos (L := L') hw)
      rw [← Tr.out_mix, out_len (d + 1) hw] at t1 t2
      have so := sum_one h1 h2 nd
      omega
  | @deep ps i k P hi hn hm h ih =>
    intro d hw nd a a' x ex ha ha'
    cases d with
    | zero => unfold Tr.wf at hw; exact hw.elim
    | succ d =>
      have hP := List.mem_of_getElem? hi
      have mx := (mem_out (d + 1) hw x).mp (List.mem_of_getElem? ha)
      have mx' := (mem_out (d + 1) hw x).mp (List.mem_of_getElem? ha')
      obtain ⟨p, hp⟩ := List.mem_iff_getElem?.mp ((mem_out (L := L) d (wf_part hw hP) x).mpr ⟨by rw [ex]; exact hm, mx.2⟩)
      obtain ⟨p', hp'⟩ := List.mem_iff_getElem?.mp ((mem_out (L := L') d (wf_part hw hP) x).mpr ⟨by rw [ex]; exact hm, mx'.2⟩)
      have ple := ih (wf_part hw hP) (nodup_part nd hP) ex hp hp'
      have ri : ∀ L : Str → Nat, (ps.map fun p => (p.1.toNat, p.2.out L))[i]? = some (P.1.toNat, P.2.out L) := fun L => by rw [List.getElem?_map, hi]; rfl
      have s1 := R_sum (wf_pos hw) (ri L) hp
      have s2 := R_sum (wf_pos hw) (ri L') hp'
      rw [← Tr.out_mix] at s1 s2
      rw [at_unique (out_nodup (d + 1) hw nd) ha s1, at_unique (out_nodup (d + 1) hw nd) ha' s2]
      have w1 : 1 ≤ P.1.toNat := (wf_pos (L := L) hw) _ (List.mem_of_getElem? (ri L))
      have b1 : But1 i 0 (ps.map fun p => (p.1.toNat, p.2.out L)) (ps.map fun p => (p.1.toNat, p.2.out L')) := by
        refine but1_of fun j Q hj ne => ?_
        rw [same (wf_part hw (List.mem_of_getElem? hj)) (other_part nd hi hj (fun z => ne (by omega)) hn)]
      have hl : ∀ j r, (ps.map fun p => (p.1.toNat, p.2.out L))[j]? = some r → 0 + j = i → p ≤ r.2.length := fun j r hr e => by
        obtain rfl : j = i := by omega
        rw [ri L] at hr
        cases hr
        exact Nat.le_of_lt (List.getElem?_eq_some_iff.mp hp).1
      have fin := but1_sum ple (ceil_le w1 ple) b1 hl
      obtain ⟨_, sw⟩ := sumW_at (i := i) (c := k / P.1.toNat + if k % P.1.toNat > 0 then 1 else 0) (k := k) (s := 0) (ri L) (by omega)
      rw [sw] at fin
      have ew : wsum (ps.map fun p => (p.1.toNat, p.2.out L)) = (ps.map fun p => p.1.toNat).sum := by unfold wsum; rw [List.map_map]; rfl
      rw [ew] at fin
      omega
end Mx
set_option Elab.async false
set_option maxRecDepth 100000
set_option linter.all false
/-! endless rows: the names of the first items -/
namespace Mx
open PySem L2
section
variable {α β : Type}
theorem rnd_map (f : α → β) (k : Nat) (rows : Rows α) : rnd k (rows.map fun r => (r.1, r.2.map f)) = (rnd k rows).map f := by
  unfold rnd
  rw [List.map_flatten, List.map_map, List.map_map]
  congr 1
  refine List.map_congr_left fun p _ => ?_
  show ((p.2.map f).drop (p.1 * k)).take p.1 = ((p.2.drop (p.1 * k)).take p.1).map f
  rw [← List.map_drop, ← List.map_take]
theorem rndsTo_map (f : α → β) (k : Nat) (rows : Rows α) : rndsTo k (rows.map fun r => (r.1, r.2.map f)) = (rndsTo k rows).map f := by
  unfold rndsTo
  rw [List.map_flatten, List.map_map]
  congr 1
  refine List.map_congr_left fun j _ => ?_
  exact rnd_map f j rows
/-- so many rounds see no more than so many items of each row -/
theorem rnd_cut {k r : Nat} (h : k < r) (rows : Rows α) : rnd k (rows.map fun p => (p.1, p.2.take (p.1 * r))) = rnd k rows := by
  unfold rnd
  rw [List.map_map]
  congr 1
  refine List.map_congr_left fun p _ => ?_
  show ((p.2.take (p.1 * r)).drop (p.1 * k)).take p.1 = _
  rw [List.drop_take, List.take_take]
  have : p.1 ≤ p.1 * r - p.1 * k := by
    rw [← Nat.mul_sub]
    exact Nat.le_mul_of_pos_right _ (by omega)
  rw [Nat.min_eq_left this]
theorem rndsTo_cut (r : Nat) (rows : Rows α) : rndsTo r (rows.map fun p => (p.1, p.2.take (p.1 * r))) = rndsTo r rows := by
  unfold rndsTo
  congr 1
  refine List.map_congr_left fun j hj => ?_
  exact rnd_cut (List.mem_range.mp hj) rows
theorem rnd_full {k r : Nat} (h : k < r) : ∀ {rows : Rows α}, (∀ p ∈ rows, p.1 * r ≤ p.2.length) → (rnd k rows).length = wsum rows
  | [], _ => rfl
  | p :: rest, hf => by
    have h1 := hf p List.mem_cons_self
    have ih := rnd_full h (rows := rest) fun q hq => hf q (List.mem_cons_of_mem _ hq)
    rw [wsum_cons, ← ih]
    show ((p.2.drop (p.1 * k)).take p.1 ++ rnd k rest).length = _
    rw [List.length_append, List.length_take, List.length_drop]
    have h2 : p.1 * k + p.1 ≤ p.1 * r := by
      rw [← Nat.mul_succ]
      exact Nat.mul_le_mul_left _ h
    omega
theorem rndsTo_full {r : Nat} {rows : Rows α} (hf : ∀ p ∈ rows, p.1 * r ≤ p.2.length) : ∀ k, k ≤ r → (rndsTo k rows).length = wsum rows * k
  | 0, _ => by unfold rndsTo; simp
  | k + 1, h => by
    rw [rndsTo_succ, List.length_append, rndsTo_full hf k (by omega), rnd_full (show k < r from h) hf, Nat.mul_succ]
end
mutual
/-- the names of the first n items of endless feeds -/
def Tr.row : Tr → Nat → List Str
  | .feed s, n => List.replicate n s
  | .mix ps, n => (rndsTo (n / (ps.map fun p => p.1.toNat).sum + 1) (Tr.rowL ps (n / (ps.map fun p => p.1.toNat).sum + 1))).take n
def Tr.rowL : List (Int × Tr) → Nat → Rows Str
  | [], _ => []
  | (w, t) :: r, k => (w.toNat, t.row (w.toNat * k)) :: Tr.rowL r k
end
theorem Tr.rowL_eq (k : Nat) : ∀ ps : List (Int × Tr), Tr.rowL ps k = ps.map fun p => (p.1.toNat, p.2.row (p.1.toNat * k))
  | [] => by rw [Tr.rowL]; rfl
  | (w, t) :: r => by rw [Tr.rowL, Tr.rowL_eq k r]; rfl
/-- it is the beginning of the outputs of all feeds that are long enough -/
theorem row_out : ∀ (d : Nat) {t : Tr}, t.wf d → ∀ n, ∃ N0, ∀ N, N0 ≤ N → n ≤ (t.out fun _ => N).length ∧ t.row n = ((t.out fun _ => N).map (·.1)).take n
  | d, .feed s, _, n => by
    refine ⟨n, fun N h => ?_⟩
    rw [Tr.row, Tr.out_feed, List.length_map, List.length_range, List.map_map, ← List.map_take]
    refine ⟨h, ?_⟩
    apply List.ext_getElem?
    intro k
    rw [List.getElem?_map, List.getElem?_replicate, List.getElem?_take]
    by_cases c : k < n
    · rw [if_pos c, if_pos c, List.getElem?_range (by omega)]
      rfl
    · rw [if_neg c, if_neg c]
      rfl
  | 0, .mix ps, h, _ => by unfold Tr.wf at h; exact h.elim
  | d + 1, .mix ps, h, n => by
    obtain ⟨r, hr⟩ : ∃ r, r = n / (ps.map fun p => p.1.toNat).sum + 1 := ⟨_, rfl⟩
    have ih : ∃ N0, ∀ N, N0 ≤ N → ∀ p ∈ ps, p.1.toNat * r ≤ (p.2.out fun _ => N).length ∧ p.2.row (p.1.toNat * r) = ((p.2.out fun _ => N).map (·.1)).take (p.1.toNat * r) := by
      have hw : ∀ p ∈ ps, p.2.wf d := fun p hp => wf_part h hp
      have each : ∀ p ∈ ps, ∃ N0, ∀ N, N0 ≤ N → p.1.toNat * r ≤ (p.2.out fun _ => N).length ∧ p.2.row (p.1.toNat * r) = ((p.2.out fun _ => N).map (·.1)).take (p.1.toNat * r) := fun p hp => row_out d (hw p hp) _
      clear h hw hr
      induction ps with
      | nil => exact ⟨0, fun N _ p hp => by cases hp⟩
      | cons q rest ih2 =>
        obtain ⟨A, hA⟩ := each q List.mem_cons_self
        obtain ⟨B, hB⟩ := ih2 fun p hp => each p (List.mem_cons_of_mem _ hp)
        refine ⟨max A B, fun N hN p hp => ?_⟩
        rcases List.mem_cons.mp hp with rfl | hp
        · exact hA N (by omega)
        · exact hB N (by omega) p hp
    obtain ⟨N0, ih⟩ := ih
    refine ⟨N0, fun N hN => ?_⟩
    have q := ih N hN
    have full : ∀ p ∈ (ps.map fun p => (p.1.toNat, p.2.out fun _ => N)), p.1 * r ≤ p.2.length := fun p hp => by
      obtain ⟨z, hz, rfl⟩ := List.mem_map.mp hp
      exact (q z hz).1
    have len := rndsTo_full full r (Nat.le_refl _)
    have ew : wsum (ps.map fun p => (p.1.toNat, p.2.out fun _ => N)) = (ps.map fun p => p.1.toNat).sum := by unfold wsum; rw [List.map_map]; rfl
    have sp := R_split (wf_pos (L := fun _ => N) h) r
    have pos : 0 < (ps.map fun p => p.1.toNat).sum := by
      unfold Tr.wf at h
      match ps, h with
      | [], h => exact absurd rfl h.1
      | p :: rest, h =>
        have := (h.2.2 p List.mem_cons_self).1
        rw [List.map_cons, List.sum_cons]
        omega
    have ge : n ≤ (rndsTo r (ps.map fun p => (p.1.toNat, p.2.out fun _ => N))).length := by
      rw [len, ew, hr]
      have := Nat.lt_mul_div_succ n pos
      omega
    rw [Tr.out_mix, sp]
    refine ⟨by rw [List.length_append]; omega, ?_⟩
    rw [Tr.row, ← hr, Tr.rowL_eq, List.map_append, List.take_append_of_le_length (by rw [List.length_map]; exact ge), ← rndsTo_map]
    congr 1
    have e : (ps.map fun p => (p.1.toNat, p.2.row (p.1.toNat * r))) = ((ps.map fun p => (p.1.toNat, p.2.out fun _ => N)).map fun p => (p.1, p.2.map (·.1))).map fun p => (p.1, p.2.take (p.1 * r)) := by
      rw [List.map_map, List.map_map]
      refine List.map_congr_left fun p hp => ?_
      show (p.1.toNat, p.2.row (p.1.toNat * r)) = (p.1.toNat, ((p.2.out fun _ => N).map (·.1)).take (p.1.toNat * r))
      rw [(q p hp).2]
    rw [e, rndsTo_cut]
theorem row_len {d : Nat} {t : Tr} (h : t.wf d) (n : Nat) : (t.row n).length = n := by
  obtain ⟨N, hN⟩ := row_out d h n
  obtain ⟨h1, h2⟩ := hN N (Nat.le_refl _)
  rw [h2, List.length_take, List.length_map]
  omega
end Mx
set_option Elab.async false
set_option maxRecDepth 100000
set_option linter.all false
/-! an output begins like the endless row until a feed ends -/
set_option Elab.async false
set_option maxRecDepth 100000
set_option linter.all false
/-! a source's next item asks only which feeds have items left -/
namespace Mx
open PySem L2
/-- weights and places as they may be; at most d mixers, one within another -/
def Sta.ok : Nat → Sta → Prop
  | _, .feed _ _ => True
  | 0, .mix _ _ _ => False
  | d + 1, .mix ks i _ => i < ks.length ∧ ∀ p ∈ ks, 1 ≤ p.1 ∧ Sta.ok d p.2
mutual
def Sta.feeds : Sta → List (Str × Nat)
  | .feed n g => [(n, g)]
  | .mix ks _ _ => Sta.feedsL ks
def Sta.feedsL : List (Nat × Sta) → List (Str × Nat)
  | [] => []
  | (_, s) :: r => s.feeds ++ Sta.feedsL r
end
theorem Sta.feedsL_eq : ∀ ks : List (Nat × Sta), Sta.feedsL ks = (ks.map fun p => p.2.feeds).flatten
  | [] => by rw [Sta.feedsL]; rfl
  | (w, s) :: r => by rw [Sta.feedsL, Sta.feedsL_eq r]; rfl
theorem Sta.feeds_feed (n : Str) (g : Nat) : (Sta.feed n g).feeds = [(n, g)] := by rw [Sta.feeds]
theorem Sta.feeds_mix (ks : List (Nat × Sta)) (i c : Nat) : (Sta.mix ks i c).feeds = (ks.map fun p => p.2.feeds).flatten := by rw [Sta.feeds, Sta.feedsL_eq]
theorem okS_part {d : Nat} {ks : List (Nat × Sta)} {i c : Nat} (h : (Sta.mix ks i c).ok (d + 1)) {p : Nat × Sta} (hp : p ∈ ks) : 1 ≤ p.1 ∧ p.2.ok d := by
  unfold Sta.ok at h
  exact h.2 p hp
theorem okS_pos {d : Nat} {ks : List (Nat × Sta)} {i c : Nat} (L : Str → Nat) (h : (Sta.mix ks i c).ok (d + 1)) : Pos (ks.map fun p => (p.1, p.2.rem L)) := fun q hq => by
  obtain ⟨p, hp, rfl⟩ := List.mem_map.mp hq
  exact (okS_part h hp).1
theorem tot_zero {α : Type} : ∀ {rows : Rows α}, tot rows = 0 ↔ ∀ q ∈ rows, q.2 = []
  | [] => ⟨fun _ q h => (by cases h), fun _ => rfl⟩
  | r :: rows => by
    rw [tot_cons]
    constructor
    · intro h q hq
      rcases List.mem_cons.mp hq with rfl | hq
      · exact List.length_eq_zero_iff.mp (by omega)
      · exact tot_zero.mp (by omega) q hq
    · intro h
      rw [tot_zero.mpr fun q hq => h q (List.mem_cons_of_mem _ hq), h r List.mem_cons_self]
      rfl
/-- nothing is left just if no feed has an item left -/
theorem rem_nil {L : Str → Nat} : ∀ (d : Nat) {st : Sta}, st.ok d → (st.rem L = [] ↔ ∀ f ∈ st.feeds, L f.1 ≤ f.2)
  | d, .feed n g, _ => by
    rw [Sta.rem_feed, Sta.feeds_feed]
    constructor
    · intro h f hf
      rw [List.mem_singleton.mp hf]
      rcases Nat.lt_or_ge g (L n) with z | z
      · rw [feedRem_cons n z] at h; cases h
      · exact z
    · intro h
      exact feedRem_nil n (h _ List.mem_cons_self)
  | 0, .mix ks i c, h => by unfold Sta.ok at h; exact h.elim
  | d + 1, .mix ks i c, h => by
    have hi : i < ks.length := by unfold Sta.ok at h; exact h.1
    rw [Sta.rem_mix, Sta.feeds_mix, ← List.length_eq_zero_iff, futI_len (okS_pos L h) (by rw [List.length_map]; exact hi), tot_zero]
    constructor
    · intro z f hf
      obtain ⟨l, hl, hfl⟩ := List.mem_flatten.mp hf
      obtain ⟨p, hp, rfl⟩ := List.mem_map.mp hl
      exact (rem_nil d (okS_part h hp).2).mp (z _ (List.mem_map.mpr ⟨p, hp, rfl⟩)) f hfl
    · intro z q hq
      obtain ⟨p, hp, rfl⟩ := List.mem_map.mp hq
      exact (rem_nil d (okS_part h hp).2).mpr fun f hf => z f (List.mem_flatten.mpr ⟨_, List.mem_map.mpr ⟨p, hp, rfl⟩, hf⟩)
/-- the same feeds have items left -/
def Alike (L L' : Str → Nat) (st : Sta) : Prop := ∀ f ∈ st.feeds, (f.2 < L f.1 ↔ f.2 < L' f.1)
theorem Alike.nil {L L' : Str → Nat} {d : Nat} {st : Sta} (h : st.ok d) (a : Alike L L' st) : st.rem L = [] ↔ st.rem L' = [] := by
  rw [rem_nil d h, rem_nil d h]
  constructor
  · intro z f hf
    have := z f hf
    have := a f hf
    omega
  · intro z f hf
    have := z f hf
    have := a f hf
    omega
theorem Alike.part {L L' : Str → Nat} {ks : List (Nat × Sta)} {i c : Nat} (a : Alike L L' (.mix ks i c)) {p : Nat × Sta} (hp : p ∈ ks) : Alike L L' p.2 := fun f hf => a f (by rw [Sta.feeds_mix]; exact List.mem_flatten.mpr ⟨_, List.mem_map.mpr ⟨p, hp, rfl⟩, hf⟩)
theorem Nxt.ok {L : Str → Nat} {st st' : Sta} {y : Item} (n : Nxt L st y st') : ∀ {d : Nat}, st.ok d → st'.ok d := by
  induction n with
  | feed h =>
    intro d _
    cases d <;> (unfold Sta.ok; trivial)
  | @mix ks i c j c' w s s' y m h n ih =>
    intro d hok
    cases d with
    | zero => unfold Sta.ok at hok; exact hok.elim
    | succ d =>
      have hm := List.mem_of_getElem? h
      unfold Sta.ok
      refine ⟨by rw [List.length_set]; exact (List.getElem?_eq_some_iff.mp h).1, fun p hp => ?_⟩
      rcases mem_set hp with rfl | ⟨k, _, hk⟩
      · exact ⟨(okS_part hok hm).1, ih (okS_part hok hm).2⟩
      · exact okS_part hok (List.mem_of_getElem? hk)
theorem Nxt.rem {L : Str → Nat} {st st' : Sta} {y : Item} (n : Nxt L st y st') : ∀ {d : Nat}, st.ok d → st.rem L = y :: st'.rem L := by
  induction n with
  | @feed n g h =>
    intro d _
    rw [Sta.rem_feed, Sta.rem_feed, feedRem_cons n h]
  | @mix ks i c j c' w s s' y m h n ih =>
    intro d hok
    cases d with
    | zero => unfold Sta.ok at hok; exact hok.elim
    | succ d =>
      have hm := List.mem_of_getElem? h
      obtain ⟨e1, w', s2, h2, hc, _⟩ := m.fut (okS_pos L hok)
      rw [h] at h2
      cases h2
      rw [e1, Sta.rem_mix, Sta.rem_mix, set_map]
      exact futI_take (by rw [List.getElem?_map, h]; show some (w, s.rem L) = _; rw [ih (okS_part hok hm).2]) hc
theorem flat_set {α : Type} {ls : List (List α)} {j : Nat} {a b l1 l2 : List α} {x z : α} (h : ls[j]? = some a) (ea : a = l1 ++ x :: l2) (eb : b = l1 ++ z :: l2) : ∃ m1 m2, ls.flatten = m1 ++ x :: m2 ∧ (ls.set j b).flatten = m1 ++ z :: m2 := by
  obtain ⟨hj, e⟩ := List.getElem?_eq_some_iff.mp h
  refine ⟨(ls.take j).flatten ++ l1, l2 ++ (ls.drop (j + 1)).flatten, ?_, ?_⟩
  · conv => lhs; rw [← List.take_append_drop j ls, List.drop_eq_getElem_cons hj, e, List.flatten_append, List.flatten_cons, ea]
    simp
  · rw [List.set_eq_take_append_cons_drop, if_pos hj, List.flatten_append, List.flatten_cons, eb]
    simp
/-- the feed that gives the item goes on by one -/
theorem Nxt.feeds {L : Str → Nat} {st st' : Sta} {y : Item} (n : Nxt L st y st') : ∃ l1 l2, st.feeds = l1 ++ y :: l2 ∧ st'.feeds = l1 ++ (y.1, y.2 + 1) :: l2 := by
  induction n with
  | @feed n g h => exact ⟨[], [], by rw [Sta.feeds_feed]; rfl, by rw [Sta.feeds_feed]; rfl⟩
  | @mix ks i c j c' w s s' y m h n ih =>
    obtain ⟨l1, l2, e1, e2⟩ := ih
    rw [Sta.feeds_mix, Sta.feeds_mix, set_map]
    exact flat_set (by rw [List.getElem?_map, h]; rfl) e1 e2
/-- how far each feed is, by what has come -/
def Far (st : Sta) (out : List Item) (N : List Str) : Prop := st.feeds = N.map fun n => (n, out.countP fun x => decide (x.1 = n))
theorem Far.next {L : Str → Nat} {st st' : Sta} {y : Item} {out : List Item} {N : List Str} (nd : N.Nodup) (f : Far st out N) (n : Nxt L st y st') : Far st' (out ++ [y]) N ∧ y.1 ∈ N ∧ y.2 = out.countP fun x => decide (x.1 = y.1) := by
  obtain ⟨l1, l2, e1, e2⟩ := n.feeds
  unfold Far at f ⊢
  rw [f] at e1
  obtain ⟨m1, m2', eN, f1, f2'⟩ := List.map_eq_append_iff.mp e1
  obtain ⟨a, m2, rfl, fa, f2⟩ := List.map_eq_cons_iff.mp f2'
  have ya : y.1 = a := by rw [← fa]
  have y2 : y.2 = out.countP fun x => decide (x.1 = y.1) := by
    have z := congrArg Prod.snd fa
    rw [ya]
    exact z.symm
  refine ⟨?_, by rw [eN, ya]; exact List.mem_append_right _ List.mem_cons_self, y2⟩
  rw [e2, eN, List.map_append, List.map_cons, ← f1, ← f2]
  rw [eN] at nd
  obtain ⟨_, nd2, nd3⟩ := List.nodup_append.mp nd
  obtain ⟨n1, _⟩ := List.nodup_cons.mp nd2
  have other : ∀ m, m ≠ a → (out ++ [y]).countP (fun x => decide (x.1 = m)) = out.countP fun x => decide (x.1 = m) := fun m hm => by
    rw [List.countP_append, List.countP_singleton, decide_eq_false (fun z => hm (by rw [← z, ya])), if_neg (by simp), Nat.add_zero]
  congr 1
  · refine List.map_congr_left fun m hm => ?_
    rw [other m (fun z => nd3 m hm a List.mem_cons_self z)]
  · congr 1
    · rw [List.countP_append, List.countP_singleton, decide_eq_true ya, if_pos rfl, y2, ya]
    · refine List.map_congr_left fun m hm => ?_
      rw [other m (fun z => n1 (z ▸ hm))]
end Mx
set_option Elab.async false
set_option maxRecDepth 100000
set_option linter.all false
/-! what was seen: fewer items give the same beginning -/
namespace Mx
open PySem L2
/-- nowhere more items -/
def Le (L L' : Str → Nat) (st : Sta) : Prop := ∀ f ∈ st.feeds, L f.1 ≤ L' f.1
theorem Le.part {L L' : Str → Nat} {ks : List (Nat × Sta)} {i c : Nat} (a : Le L L' (.mix ks i c)) {p : Nat × Sta} (hp : p ∈ ks) : Le L L' p.2 := fun f hf => a f (by rw [Sta.feeds_mix]; exact List.mem_flatten.mpr ⟨_, List.mem_map.mpr ⟨p, hp, rfl⟩, hf⟩)
theorem Le.nil {L L' : Str → Nat} {d : Nat} {st : Sta} (h : st.ok d) (a : Le L L' st) (z : st.rem L' = []) : st.rem L = [] := (rem_nil d h).mpr fun f hf => Nat.le_trans (a f hf) ((rem_nil d h).mp z f hf)
theorem Nxt.le {L1 L L' : Str → Nat} {st st' : Sta} {y : Item} (n : Nxt L1 st y st') (a : Le L L' st) : Le L L' st' := by
  obtain ⟨l1, l2, e1, e2⟩ := n.feeds
  intro f hf
  rw [e2] at hf
  rcases List.mem_append.mp hf with h | h
  · exact a f (by rw [e1]; exact List.mem_append_left _ h)
  · rcases List.mem_cons.mp h with rfl | h
    · exact a y (by rw [e1]; exact List.mem_append_right _ List.mem_cons_self)
    · exact a f (by rw [e1]; exact List.mem_append_right _ (List.mem_cons_of_mem _ h))
end Mx
set_option Elab.async false
set_option maxRecDepth 100000
set_option linter.all false
namespace Mx
open PySem L2
/-! ### the dict of the lengths -/
def tabL (N : List Str) (L : Str → Nat) : List (Key × V) := N.map fun n => (Sum.inr n, V.int ((L n : Nat) : Int))
theorem tabL_none {L : Str → Nat} : ∀ {N : List Str} {n : Str}, n ∉ N → valV (tabL N L) (Sum.inr n) = none
  | [], n, _ => valV_nil
  | a :: N, n, h => by
    rw [show valV (tabL (a :: N) L) (Sum.inr n) = valV (tabL N L) (Sum.inr n) from valV_neg (fun z => h (by rw [← Sum.inr.inj z]; exact List.mem_cons_self))]
    exact tabL_none fun z => h (List.mem_cons_of_mem _ z)
theorem tabL_snoc (N : List Str) (L : Str → Nat) (n : Str) (h : n ∉ N) : putK (tabL N L) (Sum.inr n) (.int (L n : Nat)) = tabL (N ++ [n]) L := by
  unfold putK
  rw [if_neg (by rw [valV_any, tabL_none h]; simp)]
  unfold tabL
  rw [List.map_append]
  rfl
end Mx
set_option Elab.async false
set_option maxRecDepth 100000
set_option linter.all false
/-! mixing.py: first_names -/
set_option Elab.async false
set_option maxRecDepth 100000
set_option linter.all false
/-! {**d, k: v} -/
set_option Elab.async false
set_option maxRecDepth 100000
set_option linter.all false
/-! l.count(x), t.count(x) over texts and None -/
set_option Elab.async false
set_option maxRecDepth 100000
set_option linter.all false
/-! tuples that are known to have no dict: what has methods of tuples called -/
namespace Mx
open PySem PySem.Spec PyProof.Rows L2
/-- a tuple made at run time, by its very object -/
def TupF (H : Hp) (a : Addr) (xs : List V) : Prop := ∃ o, H a = some (.frz o (.tup xs)) ∧ o.cls = .type "tuple" ∧ o.dict = none
theorem TupF.same {H H' : Hp} {a : Addr} {xs : List V} (s : Same H H') (h : TupF H a xs) : TupF H' a xs := by
  obtain ⟨o, h, g⟩ := h
  exact ⟨o, s _ _ h, g⟩
end Mx
set_option Elab.async false
set_option maxRecDepth 100000
set_option linter.all false
/-! zip of two, each a list or a tuple -/
namespace Mx
open PySem PySem.Spec PyProof.Rows L2
/-- the iterator of a list (false) or a tuple (true) -/
def SqIter (k : Bool) (h : Heap) (it l : Addr) (i : Nat) : Prop := if k then h.IsTupleIter it l i else h.IsListIter it l i
def Sq (k : Bool) (K : PySem.W.Frag) (H : Hp) (a : Addr) (xs : List V) : Prop := if k then SqT K H a xs else SqL K H a xs
theorem Sq.same {k : Bool} {K : PySem.W.Frag} {H H' : Hp} (s : Same H H') {a : Addr} {xs : List V} (h : Sq k K H a xs) : Sq k K H' a xs := by
  cases k
  · exact Same.seq s h
  · exact sqT_same s _ _ h
theorem Sq.t {K : PySem.W.Frag} {H : Hp} {a : Addr} {xs : List V} (h : SqT K H a xs) : Sq true K H a xs := h
theorem SqIter.at {k : Bool} {h h' : Heap} {it l : Addr} {i : Nat} (x : SqIter k h it l i) (q : ∀ o, h.get? it = some o → h'.get? it = some o) : SqIter k h' it l i := by
  cases k
  · exact Heap.IsListIter.at x q
  · exact Heap.IsTupleIter.at x q
end Mx
set_option Elab.async false
set_option maxRecDepth 100000
set_option linter.all false
/-! a list comprehension over zip of two lists, while an exception is handled -/
namespace Mx
open PySem PySem.Spec PyProof.Rows HotX
section
variable {prog : Program} {w : World} {A : Around} {E : Value → Shared → Prop} {s : Shared}
/-- a list's iterator at its end: the StopIteration gets the handled exception as its context -/
theorem lh_end {it l x1 : Addr} {i : Nat} {items : Array Value} {Q : Value → Shared → Prop} (hot : HotAt A x1 s.heap) (nx : x1 ≠ it) (hit : s.heap.IsListIter it l i) (hl : s.heap.IsList l items) (hx : items[i]? = none)
    (fin : ∀ h' e, Heap.ExtBut it s.heap h' → (∃ o, h'.get? e = some o ∧ o.cls = .type "StopIteration") → E (.ref e) { s with heap := h' }) : wpAny (model prog w) A (Builtin.SmallTypes.nextOf (.ref it)) Q E s := by
  obtain ⟨o, ho, hc, hd⟩ := id hit
  obtain ⟨ol, hol, _, nl, hdl⟩ := hl
  obtain ⟨hh, o1, vs1, e1, d1, c1⟩ := hot
  unfold Builtin.SmallTypes.nextOf
  refine wpAny_bind (wpAny_callSpecial?_slot (name := Str.ofString "__next__") hit.typeIs slot_listiter_next (wpAny_call_entry slot_listiter_next hit.typeIs entry_listiter_next ?_ (args_listiter_next _)))
  refine wpAny_bind (m := field (.ref it) 0) (wpAny_field ho hd (x := .ref l) rfl ?_)
  rw [if_neg (show ¬ ((Value.ref l == Value.none) = true) from Bool.false_ne_true)]; refine wpAny_bind (m := field (.ref it) 1) (wpAny_field ho hd (x := .int i 0) rfl (wpAny_bind (m := seqItems? (.ref l)) (wpAny_seqItems hol hdl ?_)))
  simp only [Int.toNat_natCast, hx]; refine wpAny_bind (wpAny_rule (wpAny_bind (wpAny_setField ho hd (by simp) ?_)))
  have keep : ∀ b ob, b ≠ it → s.heap.get? b = some ob → (s.heap.update it (Obj.mapFields (·.setIfInBounds 0 Value.none))).get? b = some ob := fun b ob hb q => (Heap.get?_update_other _ _ (Ne.symm hb)).trans q
  refine wpAny_bind (m := newExc (.type "StopIteration") []) ?_
  simp only [newExc, newTuple]; refine wpAny_bind (wpAny_newObj_type ?_ (by size_fits))
  refine wpAny_bind (m := firstArgMember _ _) (wpAny_of_eq (a := Value.none) (by first | rfl | (simp only [firstArgMember]; rfl)) (wpAny_newObj_type ?_ (by size_fits)))
  refine raiseNew_hot ⟨hh, o1, vs1, Heap.get?_push_of_some _ (Heap.get?_push_of_some _ (keep _ _ nx e1)), d1, c1⟩ (Nat.ne_of_lt (Heap.lt_size (Heap.get?_push_of_some _ (keep _ _ nx e1)))) (Heap.get?_push_size _ rfl) rfl (by first | (simp; done) | (simp; omega) | (simp only [Array.size_append]; simp; omega)) ?_
  refine fin _ _ (fun b ob hb q => ?_) ⟨_, Heap.get?_update_self _ (Heap.get?_push_size _ rfl) rfl, rfl⟩
  rw [Heap.get?_update_other _ _ (Nat.ne_of_gt (Heap.lt_size (Heap.get?_push_of_some _ (keep b ob hb q))))]
  exact Heap.get?_push_of_some _ (Heap.get?_push_of_some _ (keep b ob hb q))
/-- a tuple's iterator at its end -/
theorem th_end {it t x1 : Addr} {i : Nat} {items : Array Value} {Q : Option Value → Shared → Prop} (hot : HotAt A x1 s.heap) (nx : x1 ≠ it) (hit : s.heap.IsTupleIter it t i) (ht : s.heap.IsTuple t items) (hx : items[i]? = none)
    (fin : ∀ h', Heap.ExtBut it s.heap h' → Q none { s with heap := h' }) : wpAny (model prog w) A (pyNext (.ref it)) Q E s := by
  obtain ⟨o, ho, hc, hd⟩ := id hit
  obtain ⟨ol, hol, _, nl, hdl⟩ := ht
  obtain ⟨hh, o1, vs1, e1, d1, c1⟩ := hot
  unfold pyNext
  refine wpAny_bind (wpAny_attempt (wpAny_callSpecial?_slot (name := Str.ofString "__next__") hit.typeIs PySem.F.slot_tuple_iterator_next (wpAny_call_entry PySem.F.slot_tuple_iterator_next hit.typeIs PySem.F.entry_tuple_iterator_next ?_ (PySem.F.args_tuple_iterator_next_1 _))))
  refine wpAny_bind (m := field (.ref it) 0) (wpAny_field ho hd (x := .ref t) rfl ?_)
  rw [if_neg (show ¬ ((Value.ref t == Value.none) = true) from Bool.false_ne_true)]; refine wpAny_bind (m := field (.ref it) 1) (wpAny_field ho hd (x := .int i 0) rfl (wpAny_bind (m := seqItems? (.ref t)) (wpAny_seqItems hol hdl ?_)))
  simp only [Int.toNat_natCast, hx]; refine wpAny_bind (wpAny_rule (wpAny_bind (wpAny_setField ho hd (by simp) ?_)))
  have keep : ∀ b ob, b ≠ it → s.heap.get? b = some ob → (s.heap.update it (Obj.mapFields (·.setIfInBounds 0 Value.none))).get? b = some ob := fun b ob hb q => (Heap.get?_update_other _ _ (Ne.symm hb)).trans q
  refine wpAny_bind (m := newExc (.type "StopIteration") []) ?_
  simp only [newExc, newTuple]; refine wpAny_bind (wpAny_newObj_type ?_ (by size_fits))
  refine wpAny_bind (m := firstArgMember _ _) (wpAny_of_eq (a := Value.none) (by first | rfl | (simp only [firstArgMember]; rfl)) (wpAny_newObj_type ?_ (by size_fits)))
  refine raiseNew_hot ⟨hh, o1, vs1, Heap.get?_push_of_some _ (Heap.get?_push_of_some _ (keep _ _ nx e1)), d1, c1⟩ (Nat.ne_of_lt (Heap.lt_size (Heap.get?_push_of_some _ (keep _ _ nx e1)))) (Heap.get?_push_size _ rfl) rfl (by first | (simp; done) | (simp; omega) | (simp only [Array.size_append]; simp; omega)) ?_
  refine wpAny_bind (wpAny_isInstance (T := "StopIteration") (b := true) ⟨_, Heap.get?_update_self _ (Heap.get?_push_size _ rfl) rfl, rfl⟩ isSubtype_stop (wpAny_pure (fin _ fun b ob hb q => ?_)))
  rw [Heap.get?_update_other _ _ (Nat.ne_of_gt (Heap.lt_size (Heap.get?_push_of_some _ (keep b ob hb q))))]
  exact Heap.get?_push_of_some _ (Heap.get?_push_of_some _ (keep b ob hb q))
/-- (a, b, ..) = t, a tuple -/
theorem th_assign {env : Env} {elts : List Expr} {kk : Nat} {pos : PySem.Pos} {t x1 : Addr} {items : Array Value} {Q : Unit → Shared → Prop} (hot : HotAt A x1 s.heap) (ht : s.heap.IsTuple t items) (hn : (assignEach elts env).length = items.size) (hst : (assignEach elts env).findIdx? (·.1) = none)
    (fin : ∀ h', Heap.ExtBut s.heap.objs.size s.heap h' → wpAny (model prog w) A (assignInOrder ((assignEach elts env).map (·.2)) items.toList) Q E { s with heap := h' }) : wpAny (model prog w) A (assign (.Tuple elts kk pos) env (.ref t)) Q E s := by
  obtain ⟨hh, o1, vs1, e1, d1, c1⟩ := hot
  have nt : t ≠ s.heap.objs.size := by obtain ⟨o, ho, _⟩ := id ht; exact Nat.ne_of_lt (Heap.lt_size ho)
  have nx : x1 ≠ s.heap.objs.size := Nat.ne_of_lt (Heap.lt_size e1)
  rw [arm_assign_Tuple]; refine wpAny_bind (wpAny_standAt ?_)
  unfold unpack; rw [hn, hst]; refine wpAny_bind (wpAny_holding ?_)
  unfold unpackItems; refine wpAny_bind ?_; unfold notIterableAtAll; refine wpAny_bind (wpAny_specialOf ht.typeIs PySem.F.slot_tuple_iter.lookup (wpAny_pure ?_))
  simp only [Bool.false_eq_true, if_false]; refine wpAny_bind (wpAny_holding (wpAny_pyIter_tuple ht ?_))
  refine wpAny_bind (wpAny_holding (wpAny_draw_tuple nt items.size 0 _ _ ⟨_, Heap.get?_push_size _ rfl, rfl, rfl⟩ (ht.push _) (by omega) fun g1 it1 q1 => ?_))
  rw [show List.take items.size (List.drop 0 items.toList) = items.toList by rw [List.drop_zero]; exact List.take_of_length_le (by simp), if_neg (by simp)]
  refine wpAny_bind (wpAny_holding (th_end (x1 := x1) ⟨hh, o1, vs1, q1.extBut _ _ nx (Heap.get?_push_of_some _ e1), d1, c1⟩ nx it1 ((ht.push _).extBut q1.extBut nt) (by simp) fun g2 q2 => ?_))
  simp only [Option.isSome_none, Bool.false_eq_true, if_false]; exact wpAny_pure (fin g2 fun b o hb e => q2 b o hb (q1.extBut b o hb (Heap.get?_push_of_some _ e)))
/-- zip of two lists at the first one's end -/
theorem zq_end {z TI TO i1 i2 l1 l2 x1 : Addr} {k1 : Nat} {xs : Array Value} {a b : Value} {Q : Option Value → Shared → Prop} (hot : HotAt A x1 s.heap) (D : ZipApart z TI TO i1 i2 l1 l2) (nz : x1 ≠ z) (n1 : x1 ≠ i1) (hz : IsZip s.heap z TI TO .none) (hTI : IsPair s.heap TI (.ref i1) (.ref i2))
    (h1 : s.heap.IsListIter i1 l1 k1) (hl1 : s.heap.IsList l1 xs) (hx : xs[k1]? = none)
    (fin : ∀ h', (∀ c o, c ≠ z → c ≠ i1 → s.heap.get? c = some o → h'.get? c = some o) → Q none { s with heap := h' }) : wpAny (model prog w) A (pyNext (.ref z)) Q E s := by
  have ty : s.TypeIs (.ref z) "zip" := ⟨_, hz, rfl⟩
  obtain ⟨hh, o1, vs1, e1, d1, c1⟩ := hot
  unfold pyNext
  refine wpAny_bind (wpAny_attempt (wpAny_callSpecial?_slot (name := Str.ofString "__next__") ty PySem.F.slot_zip_next (wpAny_call_entry PySem.F.slot_zip_next ty PySem.F.entry_zip_next ?_ (PySem.F.args_zip_next_1 _))))
  refine wpAny_bind (m := field (.ref z) 2) (wpAny_field hz rfl (x := .bool false) rfl (wpAny_bind (m := field (.ref z) 3) (wpAny_field hz rfl (x := .ref TI) rfl (wpAny_bind (wpAny_seqItems hTI rfl ?_)))))
  refine wpAny_bind (m := Builtin.SmallTypes.ownedTupleIsFree (.ref z)) ?_
  unfold Builtin.SmallTypes.ownedTupleIsFree; refine wpAny_bind (wpAny_field hz rfl (x := .none) rfl (wpAny_pure ?_))
  simp only [if_true]; refine wpAny_bind (wpAny_rule (wpAny_bind (wpAny_field hz rfl (x := .ref TO) rfl (wpAny_bind (wpAny_setField_rec hz (by simp) fun g1 z1 q1 => ?_)))))
  replace z1 : IsZip g1 z TI TO .ellipsis := z1
  refine wpAny_bind ?_
  simp only [List.zipIdx_cons, List.zipIdx_nil, List.forIn_cons, List.forIn_nil]; refine wpAny_bind (wpAny_bind (wpAny_onRaise ?_))
  refine wpAny_bind (m := Builtin.SmallTypes.nextOf (.ref i1)) (lh_end (x1 := x1) ⟨hh, o1, vs1, q1.extBut _ _ nz e1, d1, c1⟩ n1 (h1.extBut q1.extBut D.i1z) (hl1.extBut q1.extBut D.l1z) hx fun g2 e q2 he => ?_)
  obtain ⟨oe, hoe, hce⟩ := he
  have z2 : IsZip g2 z TI TO .ellipsis := q2 _ _ D.i1z.symm z1
  have nez : e ≠ z := fun q => by subst q; rw [z2] at hoe; cases hoe; simp at hce
  refine wpAny_setField_rec z2 (by simp) fun g3 _ q3 => ?_
  exact wpAny_bind (wpAny_isInstance (T := "StopIteration") (b := true) ⟨oe, q3.extBut _ _ nez hoe, hce⟩ isSubtype_stop (wpAny_pure (fin _ fun c o n1 n2 q => q3.extBut _ _ n1 (q2 _ _ n2 (q1.extBut _ _ n1 q)))))
end
section
open L2
/-- an iterator that is drawn while the exception o1 at x1 is handled -/
structure HTurn (P : Program) (w : World) (K : PySem.W.Frag) (A : Around) (x1 : Addr) (o1 : Obj) (tg : Expr) (J : It) (fp : List Addr) (it : Addr) (tn : Nat → Heap → Prop) : Prop where
  obj : ∀ i h, tn i h → ∀ b ∈ fp, ∃ o, h.get? b = some o ∧ ∀ v, o.data ≠ .cell v
  keep : ∀ i h h', tn i h → (∀ b ∈ fp, ∀ o, h.get? b = some o → h'.get? b = some o) → tn i h'
  item : ∀ (X : Cx), X.prog = P → X.w = w → X.K = K → X.A = A → ∀ (i : Nat) (pins : List (Addr × Obj)) (s : Shared) (σ : L2.St) (H : Hp) (E : Value → Shared → Prop), s.heap.get? x1 = some o1 → Inv X pins σ H s → (∀ b ∈ fp, FpOk X pins H b) → tn i s.heap → J.go i H →
    wpAny (model P w) X.A (pyNext (.ref it)) (fun r s1 => ∃ u, r = some u ∧
      wpAny (model P w) X.A (letOwnedTupleGo tg (.ref it) u) (fun _ s2 => ∃ x H', Inv X pins σ H' s2 ∧ RelV x u ∧ J.yld i H x H' ∧ tn (i + 1) s2.heap ∧ ∀ b ∈ fp, H' b = none) E s1) E s
  done : ∀ (X : Cx), X.prog = P → X.w = w → X.K = K → X.A = A → ∀ (i : Nat) (pins : List (Addr × Obj)) (s : Shared) (σ : L2.St) (H : Hp) (E : Value → Shared → Prop), s.heap.get? x1 = some o1 → Inv X pins σ H s → (∀ b ∈ fp, FpOk X pins H b) → tn i s.heap → J.stop i H →
    wpAny (model P w) X.A (pyNext (.ref it)) (fun r s1 => r = none ∧ Inv X pins σ H s1) E s
  self : ∀ (A : Around) (i : Nat) (s : Shared) (Q : Value → Shared → Prop) (E : Value → Shared → Prop), tn i s.heap → Q (.ref it) s → wpAny (model P w) A (pyIter (.ref it)) Q E s
structure HPG (X : Cx) (x1 : Addr) (o1 : Obj) (target : Expr) (t : TG) : Prop where
  run : ∀ (pins : List (Addr × Obj)) (s : Shared) (σ : L2.St) (H : Hp) (v : V) (u : Value) (Q : L2.St → Hp → Prop), s.heap.get? x1 = some o1 → Inv X pins σ H s → RelV v u → t v σ H Q → wpAny (model X.prog X.w) X.A (assign target X.env u) (fun _ s' => ∃ σ' H', Inv X pins σ' H' s' ∧ Q σ' H') X.xe s
structure HPI (X : Cx) (x1 : Addr) (o1 : Obj) (tg iter : Expr) (wi : TI) : Prop where
  run : ∀ (pins : List (Addr × Obj)) (s : Shared) (σ : L2.St) (H : Hp) (R : It → Hp → Prop), Inv X pins σ H s → wi σ H R →
    wpAny (model X.prog X.w) X.A (eval iter X.env) (fun v s1 => wpAny (model X.prog X.w) X.A (pyIter v) (fun itv s2 => ∃ (it : Addr) (fp : List Addr) (tn : Nat → Heap → Prop) (J : It) (H' : Hp), itv = .ref it ∧ Inv X pins σ H' s2 ∧ HTurn X.prog X.w X.K X.A x1 o1 tg J fp it tn ∧ tn 0 s2.heap ∧ (∀ b ∈ fp, FpOk X pins H' b) ∧ R J H') X.xe s1) X.xe s
variable {X : Cx}
theorem lc_hot {pins : List (Addr × Obj)} {s : Shared} {σ : L2.St} {H : Hp} {Q : VK} {x1 : Addr} {o1 : Obj} {elt tg iter : Expr} {ifs : List Expr} {scope : Scope} {own : List (Str × Nat)} {pos pos' : PySem.Pos} {wi : TI} {g : TG} {tt : TT} {te : TE} {use : Option (Value → Sem Unit)} {Qf : Value → Shared → Prop}
    (hx : (x1, o1) ∈ X.pn) (hN : X.N.Nodup) (I : Inv X pins σ H s) (hi : HPI X x1 o1 tg iter wi) (ok : BlkOk X.N X.env.scope scope own)
    (hg : ∀ s H C cl fp, HPG (X.blk s H scope (compEnvC scope cl C X.env) fp) x1 o1 tg g) (ht : ∀ s H C cl fp, PTs (X.blk s H scope (compEnvC scope cl C X.env) fp) ifs tt) (he : ∀ s H C cl fp, PE (X.blk s H scope (compEnvC scope cl C X.env) fp) elt te)
    (hs : ∀ x, foldedSetIterable iter X.env x = pure x) (h : tLc wi g tt te (own.map (·.2)) σ H Q)
    (fin : ∀ D C s' m H', Inv X pins σ H' s' → Q (.ref D) H' → s'.heap.Ns C m → FpOk X pins H' C → compPost (model X.prog X.w) X.A X.xe use Qf (.ref D) C (.ok .next) s') :
    wpAny (model X.prog X.w) X.A (comprehension (.ListComp elt [⟨tg, iter, ifs, 0⟩] scope pos) scope X.env pos' (newList []) false (eval iter X.env) use) Qf X.xe s := by
  have has : ∀ y ∈ scope.names, y.2 = .free → ∃ c, X.env.cells.lookup y.1 = some c := fun y hy e => (ok.free y hy e).elim (fun k => I.ok.has _ (.inl k)) fun k => I.ok.has _ (.inr k)
  refine wpAny_comprehension_free (use := use) rfl hs (closure_ok has) ok.kind (fun y hy e => by rw [ok.uniq y hy, e]) (thn (hi.run pins s σ H _ I h) fun xv s1 hq => thn hq fun itv s2 h2 => ?_)
  obtain ⟨it, fp, tn, J, H2, rfl, I2, T, st2, f2, q⟩ := h2
  refine wpAny_newObj_type (newEnv_comp ?_) (by show 0 ≤ sizeLine; decide)
  obtain ⟨D, hD⟩ : ∃ D, D = s2.heap.objs.size := ⟨_, rfl⟩
  have dn : H2 D = none := I2.hok.fresh (Nat.le_of_eq hD.symm)
  obtain ⟨W, ⟨m0, w0⟩, turn⟩ := q D dn
  obtain ⟨s3, e3⟩ : ∃ s3 : Shared, s3 = { s2 with heap := s2.heap.push { cls := .type "list", data := .seq ([] : List Value).toArray } } := ⟨_, rfl⟩
  have hp3 : s3.heap = s2.heap.push { cls := .type "list", data := .seq ([] : List Value).toArray } := by rw [e3]
  have I3 : Inv X pins σ (L2.upd H2 D (.lst [])) s3 := by
    rw [e3]
    exact I2.laid (t' := s2.toks) (fun b o e => Heap.get?_push_of_some _ e) (Nat.le_of_eq hD.symm) ⟨Nat.zero_le _, [], 0, .nil, by rw [hD]; exact Heap.get?_push_size _ rfl⟩
  have lt2 : ∀ b ∈ fp, b < s2.heap.objs.size := fun b hb => let ⟨_, e, _⟩ := T.obj _ _ st2 b hb; Heap.lt_size e
  have f3 : ∀ b ∈ fp, FpOk X pins (L2.upd H2 D (.lst [])) b ∧ b < s3.heap.objs.size := fun b hb =>
    ⟨⟨(upd_ne (by rw [hD]; exact Nat.ne_of_lt (lt2 b hb))).trans (f2 b hb).1, (f2 b hb).2⟩, by rw [hp3, Heap.size_push]; exact Nat.lt_succ_of_lt (lt2 b hb)⟩
  have I4 := block_start I3 ok hN f3
  obtain ⟨cl, hcl⟩ : ∃ cl, cl = cellsFrom (s3.heap.objs.size + 1) scope.names (cloFrom X.env.cells scope.names []) := ⟨_, rfl⟩
  obtain ⟨ce, hce⟩ : ∃ ce, ce = compEnvC scope cl s3.heap.objs.size X.env := ⟨_, rfl⟩
  obtain ⟨H3, eH3⟩ : ∃ H3, H3 = L2.upd H2 D (.lst []) := ⟨_, rfl⟩
  obtain ⟨s4, e4⟩ : ∃ s4 : Shared, s4 = { s3 with heap := pushCells (s3.heap.push { cls := .type "dict", data := .dict #[] }) scope.names } := ⟨_, rfl⟩
  have pg := hg s3 H3 s3.heap.objs.size cl fp
  have pt := ht s3 H3 s3.heap.objs.size cl fp
  have pe := he s3 H3 s3.heap.objs.size cl fp
  rw [← hcl, ← hce, ← eH3, ← e4] at I4
  rw [← hce] at pg pt pe
  rw [← eH3] at I3 w0 f3
  have st3 : tn 0 s3.heap := T.keep _ _ _ st2 fun b _ o e => by rw [hp3]; exact Heap.get?_push_of_some _ e
  have st4 : tn 0 s4.heap := T.keep _ _ _ st3 fun b _ o e => by rw [e4]; exact pushCells_keeps _ _ _ _ (Heap.get?_push_of_some _ e)
  have cL : ce.locals = s3.heap.objs.size := by rw [hce]; rfl
  -- the handled exception stands in the block, too
  have P3 := I3.pin (x1, o1) (List.mem_append_left _ hx)
  have hotB : ∀ {σ' : L2.St} {H' : Hp} {s' : Shared} {ps : List (Addr × Obj)}, Inv (X.blk s3 H3 scope ce fp) ps σ' H' s' → s'.heap.get? x1 = some o1 := fun {σ' H' s' ps} I' =>
    I'.base.keep x1 o1 P3.1 P3.2.1 (fun z => (List.mem_cons.mp (I3.stkSub x1 z)).elim P3.2.2.1 P3.2.2.2.1) fun z => (f3 x1 z).1.2.2.2.2.2 (x1, o1) (List.mem_append_left _ hx) rfl
  have stat : ∀ {σ' : L2.St} {H' : Hp} {s' : Shared}, Inv (X.blk s3 H3 scope ce fp) [] σ' H' s' → (∀ b ∈ fp, H' b = none) → ∀ b ∈ fp, FpOk (X.blk s3 H3 scope ce fp) [] H' b := fun {σ' H' s'} I' hn b hb =>
    ⟨hn b hb, (I'.ok.exf b hb).1, I'.ok.exfs b hb, .inl hb, fun y c e => (I'.ok.exf b hb).2 y c e, fun p hp => by cases (show p ∈ ([] : List (Addr × Obj)) from hp)⟩
  have loop : codeAny (model X.prog X.w) X.A (.compLoop (.ListComp elt [⟨tg, iter, ifs, 0⟩] scope pos) 0 (.ref it) (.ref D) ce) (compPost (model X.prog X.w) X.A X.xe use Qf (.ref D) s3.heap.objs.size) s4 := by
    refine compLoop_any (fun n s' => ∃ i H', Inv (X.blk s3 H3 scope ce fp) [] (wipe σ (own.map (·.2))) H' s' ∧ tn i s'.heap ∧ (∀ b ∈ fp, H' b = none) ∧ W i n H') (fun n s5 inv => ?_) m0 ⟨0, H3, I4, st4, fun b hb => (f3 b hb).1.1, w0⟩
    obtain ⟨i, H5, I5, st5, n5, w5⟩ := inv
    rcases turn i n H5 w5 with ⟨stop, qq⟩ | ⟨go, Nx, hNx, step⟩
    · refine thnF (T.done (X.blk s3 H3 scope ce fp) rfl rfl rfl rfl i [] s5 _ H5 (fun _ _ => False) (hotB I5) I5 (stat I5 n5) st5 stop) fun r s6 hr => ?_
      obtain ⟨rfl, I6⟩ := hr
      have I7 : Inv X pins σ H5 s6 := I3.call' (ch := fp) I6.os I6.base I6.hok I6.bare fun b hb => let z := (f3 b hb).1.2; ⟨z.2.2.1, z.1, z.2.2.2.1, z.2.2.2.2⟩
      have nC : H5 s3.heap.objs.size = none := cL ▸ (show H5 ce.locals = none from I6.free)
      obtain ⟨m, hn, _⟩ := I6.loc
      exact fin D s3.heap.objs.size s6 m H5 I7 qq (cL ▸ (show s6.heap.Ns ce.locals m from hn)) (I3.fpOk (Nat.le_refl _) nC)
    · refine thnF (T.item (X.blk s3 H3 scope ce fp) rfl rfl rfl rfl i [] s5 _ H5 (fun _ _ => False) (hotB I5) I5 (stat I5 n5) st5 go) fun r s6 hr => ?_
      obtain ⟨u, rfl, h6⟩ := hr
      refine thnF h6 fun _ s7 h7 => ?_
      obtain ⟨xv7, H7, I7, r7, y7, st7, n7⟩ := h7
      refine thnF (pg.run _ s7 _ H7 xv7 u _ (hotB I7) (I7.pinned (stat I7 n7) (T.obj _ _ st7)) r7 (step xv7 H7 y7)) fun _ s8 h8 => ?_
      obtain ⟨σ8, H8, I8, hw8, q8⟩ := h8
      refine thnF (pt.run _ s8 σ8 H8 _ I8 q8) fun b s9 h9 => ?_
      obtain ⟨H9, I9, q9⟩ := h9
      have back : ∀ {s' : Shared} {H' : Hp}, Inv (X.blk s3 H3 scope ce fp) ([] ++ pinsAt fp s7.heap) σ8 H' s' → Nx H' → ∃ m, m < n ∧ ∃ i H', Inv (X.blk s3 H3 scope ce fp) [] (wipe σ (own.map (·.2))) H' s' ∧ tn i s'.heap ∧ (∀ b ∈ fp, H' b = none) ∧ W i m H' := fun {s' H'} I' nx => by
        obtain ⟨m', hm, w'⟩ := hNx H' nx
        have pn7 : ∀ b ∈ fp, ∀ o, s7.heap.get? b = some o → s'.heap.get? b = some o ∧ H' b = none := fun b hb o e => let z := I'.pin (b, o) (List.mem_append_right _ (List.mem_append_right _ (mem_pinsAt hb e))); ⟨z.1, z.2.1⟩
        refine ⟨m', hm, i + 1, H', (I'.unpinned (pins := [])).weak (by rw [← hw8, wipe_length]) (fun j v e => (wipe_some (hw8 ▸ e)).1), T.keep _ _ _ st7 fun b hb o e => (pn7 b hb o e).1, fun b hb => ?_, w'⟩
        obtain ⟨o, e, _⟩ := T.obj _ _ st7 b hb
        exact (pn7 b hb o e).2
      cases b with
      | false => simp only [Bool.false_eq_true, if_false] at q9 ⊢; exact back I9 q9
      | true =>
        simp only [if_true] at q9 ⊢
        refine thnF (pe.run _ s9 σ8 H9 _ I9 q9) fun z s10 h10 => ?_
        obtain ⟨yv, H10, I10, r10, acc, hD10, hz10, nx⟩ := h10
        exact app_ok (X := X.blk s3 H3 scope ce fp) I10 hD10 hz10 r10 fun s11 I11 => back I11 nx
  have gl := codeAny_compStart_list loop (T.self X.A 0 _ _ _ st4 loop)
  rw [hce, hcl, hD, e4] at gl
  rw [e3] at gl
  exact gl
/-- the handled exception's object -/
def HotO (o1 : Obj) : Prop := ∃ vs : Array Value, o1.data = .fields vs ∧ vs[2]? = some .none
theorem hpg_tup {x1 : Addr} {o1 : Obj} {es : List Expr} {k : Nat} {t : TGs} {n : Nat} {pos : PySem.Pos} (hh : X.A.handled = some (.ref x1)) (ho : HotO o1) (h : PGs X es t) (hn : (assignEach es X.env).length = n := by rfl) (hst : (assignEach es X.env).findIdx? (·.1) = none := by rfl) :
    HPG X x1 o1 (.Tuple es k pos) (gTup X.K n t) := by
  refine ⟨fun pins s σ H v u Q hx I r hw => ?_⟩
  obtain ⟨a, xs, rfl, hq, hl, hw⟩ := hw
  cases r
  obtain ⟨its, rv, ht, _⟩ := I.tuple hq
  obtain ⟨vs, d1, c1⟩ := ho
  refine th_assign ⟨hh, o1, vs, hx, d1, c1⟩ (show s.heap.IsTuple a its.toArray from ht) (by simp [hn, ← hl, rv.length]) hst fun h' k => ?_
  exact h.run pins _ σ H xs _ Q (I.kept (t' := s.toks) fun b o e => k b o (Nat.ne_of_lt (Heap.lt_size e)) e) (by simpa using rv) hw
/-- two lists of one length, side by side -/
def Jz (K : PySem.W.Frag) (a b : Addr) (xs ys : List V) : It := ⟨fun i H => i < xs.length ∧ SqL K H a xs ∧ SqL K H b ys, fun i H v H' => ∃ T x y, v = .ref T ∧ H T = none ∧ H' = L2.upd H T (.tup [x, y]) ∧ xs[i]? = some x ∧ ys[i]? = some y, fun i H => xs.length ≤ i ∧ SqL K H a xs⟩
theorem walk_jz {K : PySem.W.Frag} {a b : Addr} {xs ys : List V} : Walk (Jz K a b xs ys) xs.length (fun H => SqL K H a xs ∧ SqL K H b ys) (fun i H v H' => ∃ T x y, v = .ref T ∧ H T = none ∧ H' = L2.upd H T (.tup [x, y]) ∧ xs[i]? = some x ∧ ys[i]? = some y) :=
  ⟨fun i H lt g => ⟨lt, g.1, g.2⟩, fun H g => ⟨Nat.le_refl _, g.1⟩, fun i H x H' _ _ y => y⟩
theorem zip_hturn {A : Around} {x1 : Addr} {o1 : Obj} {elts : List Expr} {kk : Nat} {tpos : PySem.Pos} {K : PySem.W.Frag} {P : Program} {w : World} {a b z TI TO i1 i2 : Addr} (hh : A.handled = some (.ref x1)) (ho : HotO o1) (D : ZipApart z TI TO i1 i2 a b) (nz : x1 ≠ z) (n1 : x1 ≠ i1) {xs ys : List V} (hlen : xs.length = ys.length) :
    HTurn P w K A x1 o1 (.Tuple elts kk tpos) (Jz K a b xs ys)
      [z, TI, TO, i1, i2] z (fun i h => IsZip h z TI TO .none ∧ IsPair h TI (.ref i1) (.ref i2) ∧ (∃ x y, IsPair h TO x y) ∧ h.IsListIter i1 a i ∧ h.IsListIter i2 b i) where
  obj := (turn_zip (P := P) (w := w) (K := K) (elts := elts) (kk := kk) (tpos := tpos) D).obj
  keep := (turn_zip (P := P) (w := w) (K := K) (elts := elts) (kk := kk) (tpos := tpos) D).keep
  self := (turn_zip (P := P) (w := w) (K := K) (elts := elts) (kk := kk) (tpos := tpos) D).self
  item := by
    intro X hP hw hK hA i pins s σ H E hx I hf st go
    subst hP hw hK
    obtain ⟨t1, t2, ⟨x0, y0, t3⟩, t4, t5⟩ := st
    obtain ⟨lt, q1, q2⟩ := go
    obtain ⟨its, rv, p, _⟩ := I.list q1
    obtain ⟨its2, rv2, p2, _⟩ := I.list q2
    have ex : xs[i]? = some xs[i] := List.getElem?_eq_getElem lt
    have ey : ys[i]? = some (ys[i]'(hlen ▸ lt)) := List.getElem?_eq_getElem (hlen ▸ lt)
    obtain ⟨u, hu, ru⟩ := rv.get ex
    obtain ⟨u2, hu2, ru2⟩ := rv2.get ey
    have zl : z < s.heap.objs.size := Heap.lt_size t1
    refine wpAny_pyNext_zip_item D t1 t2 t3 t4 t5 p.isList p2.isList (x := u) (y := u2) (by simpa using hu) (by simpa using hu2) fun g1 z1 TO1 j1 j2 pT _ kp => ⟨_, rfl, wpAny_letOwnedTupleGo_zip (s := { s with heap := g1 }) z1 fun g2 z2 sb => ?_⟩
    have out : ∀ c o, c ∉ [z, TI, TO, i1, i2] → s.heap.get? c = some o → g2.get? c = some o := fun c o hb q => (sb.2 c fun e => hb (by simp [e])).trans (kp c o (fun e => hb (by simp [e])) (fun e => hb (by simp [e])) (fun e => hb (by simp [e])) (fun e => hb (by simp [e])) q)
    have nT : s.heap.objs.size ≠ z := Nat.ne_of_gt zl
    have new : ObjOk X.prog X.w (L2.upd H s.heap.objs.size (.tup [xs[i], ys[i]'(hlen ▸ lt)])) g2 s.heap.objs.size (.tup [xs[i], ys[i]'(hlen ▸ lt)]) := ⟨by show 2 ≤ sizeLine; decide, [u, u2], .cons ru (.cons ru2 .nil), ⟨_, (sb.2 _ nT).trans pT, rfl, _, rfl⟩⟩
    refine ⟨.ref s.heap.objs.size, _, I.turnedNew (t' := s.toks) (ch := [z, TI, TO, i1, i2]) out hf (Nat.le_refl _) new, rfl, ⟨_, _, _, rfl, I.hok.fresh (Nat.le_refl _), rfl, ex, ey⟩, ⟨z2, (sb.2 _ D.TIz).trans (kp _ _ D.TIz D.TITO D.TIi1 D.TIi2 t2), ⟨u, u2, (sb.2 _ D.TOz).trans TO1⟩, j1.at fun o q => (sb.2 _ D.i1z).trans q, j2.at fun o q => (sb.2 _ D.i2z).trans q⟩, fun c hc => ?_⟩
    have hlt : c < s.heap.objs.size := let ⟨_, e, _⟩ := (turn_zip (P := X.prog) (w := X.w) (K := X.K) (elts := elts) (kk := kk) (tpos := tpos) D).obj i s.heap ⟨t1, t2, ⟨x0, y0, t3⟩, t4, t5⟩ c hc; Heap.lt_size e
    rw [upd_ne (Nat.ne_of_lt hlt)]
    exact (hf c hc).1
  done := by
    intro X hP hw hK hA i pins s σ H E hx I hf st stop
    subst hP hw hK
    obtain ⟨t1, t2, ⟨x0, y0, t3⟩, t4, t5⟩ := st
    obtain ⟨ge, q1⟩ := stop
    obtain ⟨its, rv, p, _⟩ := I.list q1
    obtain ⟨vs, d1, c1⟩ := ho
    have l1 := rv.length
    exact zq_end (a := x0) (b := y0) (x1 := x1) ⟨hA ▸ hh, o1, vs, hx, d1, c1⟩ D nz n1 t1 t2 t4 p.isList (by simp; omega) fun h' k => ⟨rfl, I.turnedL (t' := s.toks) (ch := [z, TI, TO, i1, i2]) (fun c o hb q => k c o (fun e => hb (by simp [e])) (fun e => hb (by simp [e])) q) hf⟩
def iZipH (K : PySem.W.Frag) (ta : TA) : TI := fun σ H R => ta σ H fun vs H1 => ∃ a b xs ys, vs = [.ref a, .ref b] ∧ SqL K H1 a xs ∧ SqL K H1 b ys ∧ xs.length = ys.length ∧ R (Jz K a b xs ys) H1
theorem hpi_zip {x1 : Addr} {o1 : Obj} {e e2 : Expr} {ta : TA} {p pos tpos : PySem.Pos} {elts : List Expr} {kk : Nat} (hx : (x1, o1) ∈ X.pn) (hh : X.A.handled = some (.ref x1)) (ho : HotO o1) (hg : Gl X "zip") (hm : X.mg "zip" = none) (ha : PA X [e, e2] ta)
    (hs : starEach [e, e2] X.env = (false, eval e X.env) :: starEach [e2] X.env := by rfl) (hpl : (backTo pos (starEach [e2] X.env)).any (·.1) = false := by rfl) :
    HPI X x1 o1 (.Tuple elts kk tpos) (.Call (.Name "zip" p) [e, e2] [] pos) (iZipH X.K ta) := by
  refine ⟨fun pins s σ H R I h => Call_ (ld_blt I hg hm PyProof.Rows.boot_zip (PyProof.Rows.callWith_type1 (thn (ha.run pos pins s σ H _ I h) fun us s1 hq => ?_) hs hpl))⟩
  obtain ⟨vs, H1, I1, r1, a, b, xs, ys, rfl, qx, qy, hlen, q⟩ := hq
  obtain ⟨u1, u2, rfl, r2, r3⟩ := vals2 r1
  cases r2
  cases r3
  obtain ⟨its, rv, p1, _⟩ := I1.list qx
  obtain ⟨its2, rv2, p2, _⟩ := I1.list qy
  have lx : x1 < s1.heap.objs.size := Heap.lt_size (I1.pin (x1, o1) (List.mem_append_left _ hx)).1
  refine call_zip_2 p1.isList p2.isList fun h' t1 t2 t3 t4 t5 _ kp => wpAny_pyIter_zip t1 ⟨s1.heap.objs.size + 4, [s1.heap.objs.size + 4, s1.heap.objs.size + 2, s1.heap.objs.size + 3, s1.heap.objs.size, s1.heap.objs.size + 1], _, _, H1, rfl, I1.kept (t' := s1.toks) kp,
    zip_hturn hh ho (PySem.W.ktu_apart s1.heap.objs.size a b p1.lt p2.lt) (Nat.ne_of_lt (Nat.lt_of_lt_of_le lx (Nat.le_add_right _ _))) (Nat.ne_of_lt lx) hlen, ⟨t1, t2, ⟨_, _, t3⟩, t4, t5⟩, fun c hc => ?_, q⟩
  have le : s1.heap.objs.size ≤ c := by
    simp only [List.mem_cons, List.not_mem_nil, or_false] at hc
    rcases hc with z | z | z | z | z <;> (rw [z]; first | exact Nat.le_refl _ | exact Nat.le_add_right _ _)
  exact I1.fpOk le (I1.hok.fresh le)
theorem ps_setLcH {i : Nat} {y : Str} {x1 : Addr} {o1 : Obj} {py : PySem.Pos} {elt tg iter : Expr} {ifs : List Expr} {scope : Scope} {own : List (Str × Nat)} {pos spos : PySem.Pos} {wi : TI} {g : TG} {tt : TT} {te : TE} (hx : (x1, o1) ∈ X.pn) (hN : X.N.Nodup) (hy : X.N[i]? = some y) (hyl : X.env.scope.names.lookup y = some .local)
    (hsw : swapsWith (.ListComp elt [⟨tg, iter, ifs, 0⟩] scope pos) (some (.Name y py)) spos.line X.env = pure true) (hi : HPI X x1 o1 tg iter wi) (ok : BlkOk X.N X.env.scope scope own)
    (hg : ∀ s H C cl fp, HPG (X.blk s H scope (compEnvC scope cl C X.env) fp) x1 o1 tg g) (ht : ∀ s H C cl fp, PTs (X.blk s H scope (compEnvC scope cl C X.env) fp) ifs tt) (he : ∀ s H C cl fp, PE (X.blk s H scope (compEnvC scope cl C X.env) fp) elt te)
    (hs : ∀ x, foldedSetIterable iter X.env x = pure x := by intro _; rfl) : PS X (.Assign [.Name y py] (.ListComp elt [⟨tg, iter, ifs, 0⟩] scope pos) spos) (tAsg (tLc wi g tt te (own.map (·.2))) (gName i)) := by
  refine ⟨fun pins s σ H D I h => ?_⟩
  rw [exec_Assign_Name_used _ _ _ _ hsw]; refine wpAny_bind (wpAny_standAt (wpAny_bind ?_))
  have h' : tLc wi g tt te (own.map (·.2)) σ H (fun x H1 => gName i x σ H1 D.nx) := h
  refine wpAny_bind (m := comprehension (.ListComp elt [⟨tg, iter, ifs, 0⟩] scope pos) scope X.env (firstIterPos [⟨tg, iter, ifs, 0⟩] pos) (newList []) false (eval iter X.env) (some (assign (.Name y py) X.env))) (thn (lc_hot (Qf := fun _ s' => SP X pins D .next s') hx hN I hi ok hg ht he hs h' fun L C s' m H' I' q hn f => ?_) fun _ s' hq => wpAny_pure (wpAny_pure hq))
  show wpAny _ _ (assign (.Name y py) X.env (.ref L)) _ _ _
  refine wpAny_assign_Name (store_ok2 (v := V.ref L) I' hN hy (.inl hyl) rfl (fun s2 I2 hz => ?_) (.inr hyl))
  obtain ⟨a, sb, ha⟩ := hz
  obtain ⟨f0, f1, f2, f3, f4, f5⟩ := f
  have na : C ≠ a := ha.elim (fun z => z ▸ f1) fun z e => f4 y a z e.symm
  exact ⟨m, hn.sameBut sb na, fun h3 sb3 => ⟨_, H', I2.turned (t' := s2.toks) (fun b o hb e => (sb3.2 b hb).trans e) f0 f1 f3 f4 f5, q⟩⟩
end
end Mx
set_option Elab.async false
set_option maxRecDepth 100000
set_option linter.all false
/-! a def that is called in an except suite and knows which exception is handled; isinstance of that one -/
namespace Mx
open PySem PySem.Spec PyProof.Rows HotX L2 L2H
/-- as FnH, the promise speaks of the handled exception -/
structure FnE (P : Program) (w : World) (K : PySem.W.Frag) (mg : Str → Option Value) (base : Heap) (k : Nat) (f : Addr) (fd : FuncData) (ps : List Str) (sp : Addr × Obj → Sp) : Prop where
  len : ∀ p vs H Q E, sp p vs H Q E → vs.length = ps.length
  run : ∀ (p : Addr × Obj) (A : Around) (outer : List Env) (s : Shared) (H : Hp) (args : Args) (us : List Value) (vs : List V) (Q : VK) (E : XK), RoomH k A → Hot1 A p → PinOk outer H s p → Env0 P w K mg base A outer s H → BindsTo s fd args (ps.zip us) → Vals vs us → sp p vs H Q E →
    codeAny (model P w) A (.call (.ref f) args) (CR CX0 outer P w H s Q E) s
theorem fnE_of {P : Program} {w : World} {K : PySem.W.Frag} {mg : Str → Option Value} {base : Heap} {k : Nat} {x qual : Str} {st : Stmt} {f : Addr} {fd : FuncData} {N ps : List Str} {sp : Addr × Obj → Sp} (F : Fun K x qual st f fd) (S : FnScope N ps (defScope st)) (len : ∀ p vs H Q E, sp p vs H Q E → vs.length = ps.length)
    (hb : ∀ (cdv : Value) (A : Around) (outer : List Env) (s : Shared) (H : Hp) (vs : List V) (Q : VK) (E : XK) (p : Addr × Obj), Hot1 A p → RoomH k (A.deeper (envOfC qual (defScope st) s.heap.objs.size f cdv)) → sp p vs H Q E →
      ∃ t, PSs (cxH CX0 P w K mg base N qual (defScope st) f cdv A outer s H E p) (defBody st) t ∧ t { nx := fun _ H' => Q .non H', rt := Q } (L2.start N vs) H) : FnE P w K mg base (k + 1) f fd ps sp := by
  obtain ⟨oc, od, kV, doc, pm, an, cdv, ct, osl, rfl, lk, hcd⟩ := F.ex
  refine ⟨len, fun p A outer s H args us vs Q E room hot pin e0 bnd rel h => ?_⟩
  have stay : ∀ b o, base.get? b = some o → s.heap.get? b = some o := fun b o e => (e0.bs b o e).1
  have kin : K.In s.heap := e0.mod.kin.keeps stay
  refine codeAny_call_function room.depth (kin _ _ lk) rfl S.co S.gen rfl (PySem.W.codeRec_of kin hcd) (bnd _ _ _ _ (wpAny_newFunctionEnv_cells S.kind (fun y hy => ?_) fun env he s1 x => ?_))
  · rcases S.par y.1 (List.of_mem_zip (show (y.1, y.2) ∈ ps.zip us from hy)).1 with q | q
    · exact .inl q
    · exact .inr ⟨q, PySem.W.cellsFrom_some _ _ _ (.inl q)⟩
  · subst he; obtain ⟨t, ht, hq⟩ := hb cdv A outer s H vs Q E p hot (room.deeper _) h
    refine ⟨(e0.mod.nolimit.keeps stay).keeps x.toInCall.keep, codeAny_func (wpAny_mono (ht.run [] s1 (L2.start N vs) H _ (inv_startH S pin e0 (len _ _ _ _ _ h) rel x) hq) (fun fl s' hs => ?_) fun e s' hs => hs)⟩
    cases fl with
    | ret u => obtain ⟨v, σ', H', J, rv, q⟩ := hs; exact ⟨v, H', J.os, J.bare, J.base, J.hok, rv, q⟩
    | next => obtain ⟨σ', H', J, q⟩ := hs; exact ⟨V.non, H', J.os, J.bare, J.base, J.hok, rfl, q⟩
    | brk => obtain ⟨_, _, _, q⟩ := hs; cases q
    | cont => obtain ⟨_, _, _, q⟩ := hs; cases q
section
variable {X : Cx}
theorem pe_callE {p : Addr × Obj} {k : Nat} {f : Addr} {fd : FuncData} {ps : List Str} {sp : Addr × Obj → Sp} {x : Str} {q pos : PySem.Pos} {e : Expr} {es : List Expr} {t : TA} (F : FnE X.prog X.w X.K X.mg X.base k f fd ps sp) (room : RoomH k X.A) (hot : Hot1 X.A p) (hp : p ∈ X.pn) (hg : Gl X x) (hm : X.mg x = some (.ref f)) (hk : PySem.W.keepIn X.K (.ref f) = true) (hb : Binds X.K fd ps [])
    (ha : PA X (e :: es) t) (hdb : (x == ("__debug__" : Str)) = false := by decide) (he : starEach (e :: es) X.env = (false, eval e X.env) :: starEach es X.env := by rfl) (hpl : (backTo pos (starEach es X.env)).any (·.1) = false := by rfl) :
    PE X (.Call (.Name x q) (e :: es) [] pos) (tCallS (sp p) (fun _ => E0) t) := by
  refine ⟨fun pins s σ H Q I h => wpAny_Call_Name_kw (ld_glob I hg hm (PySem.W.callWith_K (h₀ := X.base) I.ok.mod.kin hk (thn (ha.run pos pins s σ H _ I h) fun us s1 hh => ?_) he hpl) hdb)⟩
  obtain ⟨vs, H1, I1, r, h1⟩ := hh
  refine ⟨I1.kIn, ?_⟩
  have b := hb s1 us I1.kIn (by rw [List.append_nil, ← r.length]; exact F.len _ _ _ _ _ h1)
  rw [List.append_nil] at b
  obtain ⟨g1, g2, g3, g4, g5⟩ := I1.pin p (List.mem_append_left _ hp)
  refine wpAny_call (codeAny_mono (F.run p X.A X.stack s1 H1 ⟨us, []⟩ us vs Q _ room hot ⟨g1, g2, fun hm => (List.mem_cons.mp (I1.stkSub p.1 hm)).elim g3 g4, g5⟩ I1.env0 b r h1) fun r s' hq => ?_)
  cases r with
  | error e => cases hq
  | ok fl =>
    cases fl with
    | ret u => exact I1.after hq
    | next => cases hq
    | brk => cases hq
    | cont => cases hq
/-- isinstance of the handled exception -/
theorem call_isP {a D : Addr} {oe : Obj} (hp : (a, oe) ∈ X.pn) (C : ExcC X.K D) (hz : Zc (.ref D) none oe) (hf : ∃ vs, oe.data = .fields vs) : CallR X (.builtin "isinstance") (rIsE X.K D a) := by
  intro pins s σ H xs us Q I r h
  obtain ⟨c, cv, b, rfl, hcv, e, q⟩ := h
  obtain ⟨u1, u2, rfl, rx, rt⟩ := vals2 r
  cases rx
  obtain rfl := hcv _ rt
  obtain ⟨hget, _⟩ := I.pin (a, oe) (List.mem_append.mpr (.inl hp))
  obtain ⟨vs, hv⟩ := hf
  have J : PySem.W.InstAt s.heap a oe D none := by
    obtain ⟨oc, od, oda, osl⟩ := oe
    obtain ⟨h1, h2⟩ := hz
    dsimp only at h1 h2 hv
    subst h1 h2 hv
    exact ⟨hget, rfl, rfl, trivial⟩
  exact PySem.W.kia_one (PySem.W.handS_kitx_exc C.hg C.hk C.hs C.hd C.ha C.hn C.ht C.hm) I.kIn J e (fun z => nomatch z) fun tk => ⟨.bl b, H, I.kept (t' := tk) fun _ _ z => z, rfl, q⟩
end
end Mx
set_option Elab.async false
set_option maxRecDepth 100000
set_option linter.all false
/-! lists of numbers as data -/
namespace Mx
open PySem L2
theorem eqv_strsA : ∀ ns ms : List Str, PyData.eqvAll (ns.map PyData.str) (ms.map PyData.str) = decide (ns = ms)
  | [], [] => by rw [List.map_nil, PyData.eqvAll]; rfl
  | [], m :: r => by rw [List.map_nil, List.map_cons, PyData.eqvAll]; rfl
  | n :: r, [] => by rw [List.map_nil, List.map_cons, PyData.eqvAll]; rfl
  | n :: r, m :: s => by
    rw [List.map_cons, List.map_cons, PyData.eqvAll, PyData.eqv, eqv_strsA r s]
    by_cases e : n = m
    · subst e; simp
    · simp [e]
theorem eqv_strs (ns ms : List Str) : PyData.eqv (.list (ns.map PyData.str)) (.list (ms.map PyData.str)) = decide (ns = ms) := by rw [PyData.eqv, eqv_strsA]
end Mx
set_option Elab.async false
set_option maxRecDepth 100000
set_option linter.all false
/-! items as data: their equality, their places in lists -/
namespace Mx
open PySem L2
theorem u65 {k : Nat} {A : Around} (r : Room k A) : A.units + 65 < cLine := by
  have := r.un
  omega
end Mx
set_option Elab.async false
set_option maxRecDepth 100000
set_option linter.all false
/-! dict comprehensions -/
set_option Elab.async false
set_option maxRecDepth 100000
set_option linter.all false
/-! seen.py: lengths_for, ended -/
namespace Mx
open PySem L2
/-- not what may have been seen -/
def NotSeen (K : PySem.W.Frag) (H : Hp) (as : List V) (x : V) : Prop :=
  (x = .non ∨ (∃ s, x = .str s) ∨ ∃ l xs, x = .ref l ∧ H l = some (.lst xs)) ∨ (∃ b xs, x = .ref b ∧ SqT K H b xs ∧ 60 < xs.length) ∨ (∃ b xs, x = .ref b ∧ SqT K H b xs ∧ xs.length ≤ 60 ∧ xs.all flatV = true ∧ ∃ y ∈ xs, inV y as = false)
theorem NotSeen.same {K : PySem.W.Frag} {H H' : Hp} {as : List V} {x : V} (s : Same H H') (h : NotSeen K H as x) : NotSeen K H' as x := by
  rcases h with (h | h | ⟨l, xs, e, h⟩) | ⟨b, xs, e, h, g⟩ | ⟨b, xs, e, h, g⟩
  · exact .inl (.inl h)
  · exact .inl (.inr (.inl h))
  · exact .inl (.inr (.inr ⟨l, xs, e, s _ _ h⟩))
  · exact .inr (.inl ⟨b, xs, e, sqT_same s _ _ h, g⟩)
  · exact .inr (.inr ⟨b, xs, e, sqT_same s _ _ h, g⟩)
/-- what was seen, as it may be -/
def IsSeen (K : PySem.W.Frag) (H : Hp) (as : List V) (b : Addr) (xs : List V) : Prop := SqT K H b xs ∧ xs.length ≤ 60 ∧ xs.all flatV = true ∧ ∀ y ∈ xs, inV y as = true
def spReqSeen (K : PySem.W.Frag) (C : Addr) : Sp := fun vs H Q E => ∃ (a : Addr) (as : List V) (x : V), vs = [.ref a, x] ∧ (SqL K H a as ∨ SqT K H a as) ∧ as.all flatV = true ∧
  ((∃ b xs, x = .ref b ∧ IsSeen K H as b xs ∧ ∀ H', Same H H' → Q .non H') ∨ (NotSeen K H as x ∧ ∀ H', Same H H' → E (.ref C) none H'))
section
variable {P : Program} {w : World} {K : PySem.W.Frag} {mg : Str → Option Value} {base : Heap}
theorem scRs : FnScope ["allowed", "value", "name"] ["allowed", "value"] (defScope s_require_seen) := ⟨rfl, rfl, rfl, by decide +kernel, rfl, by decide +kernel, by decide +kernel⟩
theorem ok_reqSeen {f C : Addr} {fd : FuncData} (F : Fun K "require_seen" "require_seen" s_require_seen f fd) (B : Blt mg) (Cs : ∃ t, mg "MOST_SEEN" = some (.int 60 t)) (X : ExcF K mg "InvalidSeen" C) : FnOk P w K mg base (L2N.CX P w) 1 f fd ["allowed", "value"] (spReqSeen K C) := by
  obtain ⟨t60, h60⟩ := Cs
  refine okN F scRs (fun vs H Q E h => ?_) (fun cdv A outer s H vs Q E hr h => ?_)
  · obtain ⟨a, as, x, rfl, _⟩ := h
    rfl
  · obtain ⟨a, as, x, rfl, ha, hfa, h⟩ := h
    refine ⟨_, pss_cons (ps_if (PW.pt (pw_or (pt_not (pt_val (pe_callB call_isi (by rfl) B.isinstance (by decide +kernel) (pa_cons (pv 1) (pa_cons (pe_bltn (v := .ty "tuple") (by rfl) B.tuple (by decide +kernel) rfl) pa_nil)))))
          (pw_or1 (pt_cmpR op_gt (pe_callB call_len_seq (by rfl) B.len PySem.boot_len (pa_cons (pv 1) pa_nil)) (pe_glob (v := .int 60) rfl h60 ⟨_, rfl⟩) (nomark _)))))
        (pss_one (L2N.ps_raise rfl (L2N.takes_of rfl rfl rfl rfl) (L2N.pmk_own PySem.F.excBase_ValueError X.x X.g X.k (raises_own X.b X.t) rfl))) pss_nil)
      (pss_one (ps_for (passes_of rfl) rfl (pi_tup (pv 1)) (pg_name (i := 2) scRs.nd rfl (Or.inl rfl))
        (pss_one (ps_if (pt_cmpR op_notIn_seq (pv 2) (pv 0) (by rfl))
          (pss_one (L2N.ps_raise rfl (L2N.takes_of rfl rfl rfl rfl) (L2N.pmk_own PySem.F.excBase_ValueError X.x X.g X.k (raises_own X.b X.t) rfl))) pss_nil)))), ?_⟩
    have h' : (∃ b xs, x = .ref b ∧ SqT K H b xs ∧ xs.length ≤ 60 ∧ xs.all flatV = true ∧ (∀ y ∈ xs, inV y as = false → ∀ H', Same H H' → E (.ref C) none H') ∧ ((∀ y ∈ xs, inV y as = true) → ∀ H', Same H H' → Q .non H')) ∨ (((x = .non ∨ (∃ s, x = .str s) ∨ ∃ l xs, x = .ref l ∧ H l = some (.lst xs)) ∨ (∃ b xs, x = .ref b ∧ SqT K H b xs ∧ 60 < xs.length)) ∧ ∀ H', Same H H' → E (.ref C) none H') := by
      rcases h with ⟨b, xs, rfl, ⟨hb, hl, hf, hin⟩, good⟩ | ⟨h | h | ⟨b, xs, rfl, hb, hl, hf, y, hy, hin⟩, bad⟩
      · exact .inl ⟨b, xs, rfl, hb, hl, hf, fun y hy z => (by rw [hin y hy] at z; cases z), fun _ => good⟩
      · exact .inr ⟨.inl h, bad⟩
      · exact .inr ⟨.inr h, bad⟩
      · exact .inl ⟨b, xs, rfl, hb, hl, hf, fun _ _ _ => bad, fun h => by rw [h y hy] at hin; cases hin⟩
    rcases h' with ⟨b, xs, rfl, hb, hl, hf, bad, good⟩ | ⟨(rfl | ⟨s', rfl⟩ | ⟨l, xs, rfl, hl⟩) | ⟨b, xs, rfl, hb, hl⟩, bad⟩
    · refine ⟨_, rfl, _, _, _, _, true, rfl, .ty _, tyx_tup hb, kit_ty (by decide +kernel), _, rfl, ?_⟩
      refine ⟨_, rfl, b, _, rfl, .inr hb, _, _, rfl, rfl, _, rfl, ite2 (fun c => ?_) (fun _ => ?_)⟩
      · have c' := of_decide_eq_true c
        omega
      refine ⟨_, rfl, b, rfl, ⟨_, hb⟩, for_tup (K := K) (a := b) (xs := xs) (fun i σ H' => ∃ v2 : Option V, σ = [some (.ref a), some (.ref b), v2] ∧ H' = H ∧ ∀ y ∈ xs.take i, inV y as = true) ?_ ?_ ?_ ?_⟩
      · exact ⟨_, rfl, rfl, fun y hy => by simp at hy⟩
      · rintro i σ H' _ ⟨v2, rfl, rfl, _⟩
        exact hb
      · rintro i y σ H' hy ⟨v2, rfl, rfl, hall⟩
        have hym := List.mem_of_getElem? hy
        have hyf : flatV y = true := List.all_eq_true.mp hf y hym
        refine ⟨_, rfl, _, rfl, a, _, rfl, ha, hyf, hfa, _, rfl, ite2 (fun c => ?_) (fun c => ?_)⟩
        · have c' : (!inV y as) = true := c
          exact bad y hym (by simpa using c') H' (Same.refl _)
        · have c' : ¬ (!inV y as) = true := c
          refine ⟨_, rfl, rfl, fun z hz => ?_⟩
          rw [take_succ_of hy] at hz
          rcases List.mem_append.mp hz with h | h
          · exact hall z h
          · rw [List.mem_singleton.mp h]
            simpa using c'
      · rintro σ H' ⟨v2, rfl, rfl, hall⟩
        rw [List.take_length] at hall
        exact good hall H' (Same.refl _)
    · exact ⟨_, rfl, _, _, _, _, false, rfl, .ty _, .base .non, kit_ty (by decide +kernel), _, rfl, bad H (Same.refl _)⟩
    · exact ⟨_, rfl, _, _, _, _, false, rfl, .ty _, .base (.str _), kit_ty (by decide +kernel), _, rfl, bad H (Same.refl _)⟩
    · exact ⟨_, rfl, _, _, _, _, false, rfl, .ty _, .base (.lst hl), kit_ty (by decide +kernel), _, rfl, bad H (Same.refl _)⟩
    · refine ⟨_, rfl, _, _, _, _, true, rfl, .ty _, tyx_tup hb, kit_ty (by decide +kernel), _, rfl, ?_⟩
      refine ⟨_, rfl, b, _, rfl, .inr hb, _, _, rfl, rfl, _, rfl, ite2 (fun _ => bad H (Same.refl _)) (fun c => ?_)⟩
      exact absurd (decide_eq_true (by omega)) c
end
end Mx
set_option Elab.async false
set_option maxRecDepth 100000
set_option linter.all false
/-! .. and what the require_ functions say of them -/
namespace Mx
open PySem L2
theorem strs_canQ : ∀ {ns : List Str}, (∀ x ∈ ns, PyData.canLay0 (.str x) = true) → PyData.canLayAll0 (ns.map PyData.str) = true
  | [], _ => by simp [PyData.canLayAll0]
  | n :: r, h => by
    rw [List.map_cons, PyData.canLayAll0, h n List.mem_cons_self, strs_canQ fun x hx => h x (List.mem_cons_of_mem _ hx)]
    rfl
theorem strs_shapedQ {ns : List Str} (h : ∀ x ∈ ns, PyData.canLay0 (.str x) = true) : SeqAt.shaped (.list (ns.map PyData.str)) = true := by
  unfold SeqAt.shaped
  rw [PyData.canLay0, strs_canQ h, PyData.depth, strs_depth]
  decide
def spTBad (K : PySem.W.Frag) (C : Addr) : Sp := fun vs H Q E => ∃ (x : V) (d : PyData), vs = [x] ∧ Dv K H x d ∧ Small d ∧ (¬ ∃ t : Tr, t.data = d ∧ TreeV t) ∧ ∀ H', Same H H' → E (.ref C) none H'
def spSBad (K : PySem.W.Frag) (C : Addr) : Sp := fun vs H Q E => ∃ (v x : V), vs = [v, x] ∧ ((∃ b, x = .bl b) ∨ ∃ i, x = .int i) ∧ ∀ H', Same H H' → E (.ref C) none H'
section
variable {P : Program} {w : World} {K : PySem.W.Frag} {mg : Str → Option Value} {base : Heap}
theorem ok_TBad {f C : Addr} {fd : FuncData} (G : FnOk P w K mg base (L2N.CX P w) 12 f fd ["value"] (spReqTreeD K C)) : FnOk P w K mg base (L2N.CX P w) 12 f fd ["value"] (spTBad K C) :=
  ⟨fun vs H Q E h => by obtain ⟨x, d, rfl, _⟩ := h; rfl, fun A outer s H args us vs Q E r e b v h => by
    obtain ⟨x, d, rfl, hD, hS, hn, k⟩ := h
    exact G.run A outer s H args us _ Q E r e b v ⟨x, d, rfl, hD, hS, fun t e9 hV => absurd ⟨t, e9, hV⟩ hn, fun _ => k⟩⟩
theorem ok_SBad {f C : Addr} {fd : FuncData} (F : Fun K "require_seen" "require_seen" s_require_seen f fd) (B : Blt mg) (Cs : ∃ t, mg "MOST_SEEN" = some (.int 60 t)) (X : ExcF K mg "InvalidSeen" C) : FnOk P w K mg base (L2N.CX P w) 1 f fd ["allowed", "value"] (spSBad K C) := by
  obtain ⟨t60, h60⟩ := Cs
  refine okN F scRs (fun vs H Q E h => ?_) (fun cdv A outer s H vs Q E hr h => ?_)
  · obtain ⟨v, x, rfl, _⟩ := h
    rfl
  · obtain ⟨v, x, rfl, hx, k⟩ := h
    refine ⟨_, pss_cons (ps_if (PW.pt (pw_or (pt_not (pt_val (pe_callB call_isi (by rfl) B.isinstance (by decide +kernel) (pa_cons (pv 1) (pa_cons (pe_bltn (v := .ty "tuple") (by rfl) B.tuple (by decide +kernel) rfl) pa_nil)))))
          (pw_or1 (pt_cmpR op_gt (pe_callB call_len_seq (by rfl) B.len PySem.boot_len (pa_cons (pv 1) pa_nil)) (pe_glob (v := .int 60) rfl h60 ⟨_, rfl⟩) (nomark _)))))
        (pss_one (L2N.ps_raise rfl (L2N.takes_of rfl rfl rfl rfl) (L2N.pmk_own PySem.F.excBase_ValueError X.x X.g X.k (raises_own X.b X.t) rfl))) pss_nil) pss_no, ?_⟩
    rcases hx with ⟨b, rfl⟩ | ⟨i, rfl⟩
    · exact ⟨_, rfl, _, _, _, _, false, rfl, .ty _, .base (.bl b), kit_ty (by decide +kernel), _, rfl, k H (Same.refl _)⟩
    · exact ⟨_, rfl, _, _, _, _, false, rfl, .ty _, .base (.int i), kit_ty (by decide +kernel), _, rfl, k H (Same.refl _)⟩
end
end Mx
set_option Elab.async false
set_option maxRecDepth 100000
set_option linter.all false
/-! promises for odd arguments -/
namespace Mx
open PySem L2
def spOr (a b : L2.Sp) : L2.Sp := fun vs H Q E => a vs H Q E ∨ b vs H Q E
theorem ok_or {P : Program} {w : World} {K : PySem.W.Frag} {mg : Str → Option Value} {base : Heap} {CX : CXT} {k : Nat} {f : Addr} {fd : FuncData} {ps : List Str} {a b : L2.Sp} (F : FnOk P w K mg base CX k f fd ps a) (G : FnOk P w K mg base CX k f fd ps b) : FnOk P w K mg base CX k f fd ps (spOr a b) :=
  ⟨fun vs H Q E h => h.elim (F.len vs H Q E) (G.len vs H Q E), fun A outer s H args us vs Q E r e bd v h => h.elim (F.run A outer s H args us vs Q E r e bd v) (G.run A outer s H args us vs Q E r e bd v)⟩
/-- what raises nothing raises nothing with a context -/
theorem ok_toN {P : Program} {w : World} {K : PySem.W.Frag} {mg : Str → Option Value} {base : Heap} {k : Nat} {f : Addr} {fd : FuncData} {ps : List Str} {a : L2.Sp} (F : FnOk P w K mg base CX0 k f fd ps a) : FnOk P w K mg base (L2N.CX P w) k f fd ps a := by
  refine ⟨F.len, fun A outer s H args us vs Q E r e b v h => codeAny_mono (F.run A outer s H args us vs Q E r e b v h) fun u s' hq => ?_⟩
  cases u with
  | error e => exact (show False from hq).elim
  | ok fl => cases fl <;> exact hq
def spE1 (K : PySem.W.Frag) (C : Addr) (n : Nat) : Sp := fun vs H Q E => ∃ (x : V) (rest : List V) (d : PyData), vs = x :: rest ∧ rest.length + 1 = n ∧ Dv K H x d ∧ Small d ∧ (¬ ∃ t : Tr, t.data = d ∧ TreeV t) ∧ ∀ H', Same H H' → E (.ref C) none H'
def spT2 (K : PySem.W.Frag) (C : Addr) : Sp := fun vs H Q E => ∃ (v y : V) (t : Tr) (d : PyData), vs = [v, y] ∧ TrAt K H 4 v t ∧ TreeV t ∧ Dv K H y d ∧ Small d ∧ (¬ ∃ t : Tr, t.data = d ∧ TreeV t) ∧ ∀ H', Same H H' → E (.ref C) none H'
def spS2 (K : PySem.W.Frag) (C : Addr) : Sp := fun vs H Q E => ∃ (v y : V) (t : Tr), vs = [v, y] ∧ TrAt K H 4 v t ∧ TreeV t ∧ OddV K H y ∧ ∀ H', Same H H' → E (.ref C) none H'
end Mx
set_option Elab.async false
set_option maxRecDepth 100000
set_option linter.all false
/-! list(text); xs[a:b] = ys where b may be too large; a call of what an expression gives, with defaults -/
namespace Mx
open PySem PySem.Spec PyProof.Rows L2 PySem.SeqAt PySem.MeetsSeq PySem.MeetsSeq2 PySem.MeetsSeq3
theorem bounds_clamp {a c n : Nat} (ha : a ≤ n) : sliceBounds (some (a : Int)) (some (c : Int)) none n = ((a : Int), ((min c n : Nat) : Int), 1) := by
  simp only [sliceBounds, Option.getD_none]
  have h1 : ¬ ((a : Int) < 0) := by omega
  have h2 : ¬ ((c : Int) < 0) := by omega
  simp only [h1, h2, if_false, show (1 : Int) > 0 by decide, if_true]
  congr 1
  · omega
  · congr 1; omega
section
variable {prog : Program} {w : World} {A : Around} {E : Value → Shared → Prop} {s : Shared}
set_option maxHeartbeats 2000000 in
theorem setItem_clamp {l b sl : Addr} {its new : Array Value} {n n2 : Nat} {vl vu : Value} {a c : Nat} {Q : Unit → Shared → Prop} (e : s.heap.get? l = some { cls := .type "list", data := .seq its n }) (e2 : s.heap.get? b = some { cls := .type "list", data := .seq new n2 }) (hne : l ≠ b)
    (hs : s.heap.IsSliceOf sl vl vu .none) (pl : IsPart vl (some (a : Int))) (pu : IsPart vu (some (c : Int))) (ha : a ≤ its.size) (hac : a ≤ c) (hsz : its.size + new.size ≤ sizeLine)
    (h : ∀ f : Array Value → Array Value, f its = its.extract 0 a ++ new ++ its.extract (min c its.size) its.size → Q () { s with heap := s.heap.update l (Obj.mapSeq f) }) : wpAny (model prog w) A (setItem (.ref l) (.ref sl) (.ref b)) Q E s := by
  have hl : s.heap.IsList l its := PySem.IsL.isList e
  have hb : s.heap.IsList b new := PySem.IsL.isList e2
  obtain ⟨os, hos, hcs, hds⟩ := id hs
  have hTs : s.TypeIs (.ref sl) "slice" := ⟨os, hos, hcs⟩
  have hstep : ¬ ((rawPart none == rawInt 0) = true) := Bool.false_ne_true
  have hsame : Builtin.List.listSameRef (.ref l) (.ref b) = false := by unfold Builtin.List.listSameRef; exact beq_eq_false_iff_ne.mpr hne
  obtain ⟨m, em⟩ : ∃ m, m = min c its.size := ⟨_, rfl⟩
  have hm1 : m ≤ its.size := by omega
  have hm2 : a ≤ m := by omega
  have hmax : (max (a : Int) (m : Int)).toNat = m := by omega
  have hz : (its.extract 0 a ++ new ++ its.extract m its.size).size ≤ sizeLine + 1 := by
    simp only [Array.size_append, Array.size_extract]
    omega
  unfold setItem
  try with_reducible refine wpAny_holding ?_
  first | refine wpAny_bind (wpAny_pure ?_) | skip
  refine wpAny_bind (wpAny_sequenceKey hl.typeIs (by decide) ?_)
  refine wpAny_bind (wpAny_callSpecial?_slot (name := Str.ofString "__setitem__") hl.typeIs slot_list_setitem (wpAny_call_entry slot_list_setitem hl.typeIs entry_list_setitem ?_ (args_list_setitem _ _ _)))
  show wpAny _ _ (Builtin.List.listSubscript? (.ref sl) >>= _) _ _ s
  refine wpAny_bind ?_
  unfold Builtin.List.listSubscript?
  refine wpAny_bind (wpAny_specialOf hTs slice_no_index ?_)
  simp only [Option.isNone_none, if_true]
  refine wpAny_pure ?_
  show wpAny _ _ (typeOf (.ref sl) >>= _) _ _ s
  refine wpAny_bind (wpAny_typeOf hTs ?_)
  refine PySem.W.KFB.if_not (by decide) ?_
  rw [listSliceParts_eq]
  refine wpAny_bind (wpAny_bind (wpAny_field hos hds (x := .none) rfl (wpAny_bind (wpAny_listPart .none ?_))))
  rw [if_neg hstep]
  refine wpAny_bind (wpAny_field hos hds (x := vl) rfl (wpAny_bind (wpAny_listPart pl ?_)))
  refine wpAny_bind (wpAny_field hos hds (x := vu) rfl (wpAny_bind (wpAny_listPart pu (wpAny_pure ?_))))
  first
    | simp only [hsame, Bool.false_eq_true, if_false]
    | refine PySem.W.KFB.if_not hsame ?_
  refine wpAny_bind (m := Builtin.List.listAllItems (.ref b) "must assign iterable to extended slice") ?_
  unfold Builtin.List.listAllItems
  refine wpAny_bind (wpAny_typeOf hb.typeIs ?_)
  first
    | refine PySem.W.KFB.if_so (by decide) ?_
    | rw [if_pos (by decide)]
  unfold Builtin.List.listItems
  refine wpAny_bind (wpAny_seqItems e2 rfl (wpAny_pure ?_))
  refine wpAny_bind (wpAny_bind (wpAny_seqItems e rfl (wpAny_pure ?_)))
  refine wpAny_bind (wpAny_of_eq ((sliceIndices_raw (some (a : Int)) (some (c : Int)) none its.size (by simp)).trans (congrArg (pure : Int × Int × Int → Sem (Int × Int × Int)) ((bounds_clamp ha).trans (by rw [← em])))) ?_)
  show wpAny _ _ (if ((1 : Int) == 1) = true then _ else _) _ _ s
  rw [if_pos (by decide)]
  refine wpAny_bind (wpAny_rule ?_)
  first
    | simp only [notLongL hsz, Bool.false_eq_true, if_false]
    | refine PySem.W.KFB.if_not (notLongL hsz) ?_
  first | refine wpAny_bind (wpAny_pure ?_) | skip
  show wpAny _ _ (updateSeq l (fun xs => xs.extract 0 ((a : Int)).toNat ++ new ++ xs.extract (max (a : Int) (m : Int)).toNat xs.size) >>= _) _ _ s
  rw [hmax, Int.toNat_natCast]
  refine wpAny_bind (wpAny_updateSeq (hz := Nat.le_trans (Nat.le_add_right _ _) hsz) (_hz' := hz) e rfl ?_)
  refine wpAny_bind (wpAny_letGo ?_)
  have fin := h (fun xs => xs.extract 0 a ++ new ++ xs.extract m xs.size) (by rw [em])
  first
    | exact wpAny_bind (wpAny_pure (wpAny_pure ⟨.none, rfl, wpAny_pure fin⟩))
    | exact wpAny_pure ⟨.none, rfl, wpAny_pure fin⟩
end
section
variable {X : Cx}
theorem set_clamp {pins : List (Addr × Obj)} {s : Shared} {σ : L2.St} {H : Hp} {l b sl : Addr} {xs ys : List V} {a c : Nat} {vl vu : Value} {Q : Unit → Shared → Prop} (I : Inv X pins σ H s) (hH : H l = some (.lst xs)) (hB : H b = some (.lst ys)) (hne : l ≠ b) (hs : s.heap.IsSliceOf sl vl vu .none)
    (pl : IsPart vl (some (a : Int))) (pu : IsPart vu (some (c : Int))) (ha : a ≤ xs.length) (hac : a ≤ c) (hz : xs.length + ys.length ≤ sizeLine)
    (h : ∀ s', Inv X pins σ (L2.upd H l (.lst (xs.take a ++ ys ++ xs.drop (min c xs.length)))) s' → Q () s') : wpAny (model X.prog X.w) X.A (setItem (.ref l) (.ref sl) (.ref b)) Q X.xe s := by
  obtain ⟨z, its, n, r, hl, e⟩ := I.lstM hH
  obtain ⟨z2, its2, n2, r2, hl2, e2⟩ := I.lstM hB
  have q1 := r.length
  have q2 := r2.length
  refine setItem_clamp (a := a) (c := c) e e2 hne hs pl pu (by rw [List.size_toArray]; omega) hac (by rw [List.size_toArray, List.size_toArray]; omega) fun f hf => h _ ?_
  refine I.lset (its' := its.take a ++ its2 ++ its.drop (min c its.length)) (t' := s.toks) hH e ?_ (Vals.append (Vals.append (r.take _) r2) (by rw [q1]; exact r.drop _)) ?_
  · rw [hf, List.size_toArray]
    exact splice_eq its its2 a (min c its.length)
  · rw [List.length_append, List.length_append, List.length_take, List.length_drop]
    omega
/-- o[lo:hi] = a list -/
def gSlL (to : TE) (tl th : TO) : TG := fun v σ H Q => to σ H fun x H1 => tl σ H1 fun lo H2 => th σ H2 fun hi H3 => ∃ (l b : Addr) (xs ys : List V) (a c : Nat), x = .ref l ∧ v = .ref b ∧ lo = some (a : Int) ∧ hi = some (c : Int) ∧ H3 l = some (.lst xs) ∧ H3 b = some (.lst ys) ∧ l ≠ b ∧ a ≤ xs.length ∧ a ≤ c ∧ xs.length + ys.length ≤ sizeLine ∧
  Q σ (L2.upd H3 l (.lst (xs.take a ++ ys ++ xs.drop (min c xs.length))))
theorem pg_slL {o : Expr} {lo hi : Option Expr} {to : TE} {tl th : TO} {p2 pos : PySem.Pos} (ho : PE X o to) (hl : PO X lo tl) (hh : PO X hi th)
    (ha : ∀ v, assign (.Subscript o (.Slice lo hi none p2) pos) X.env v = (do
      let ov ← holding [v] (eval o X.env)
      let iv ← holding [v, ov] (eval (.Slice lo hi none p2) X.env)
      standAt pos
      holding [v, ov, iv] (setItem ov iv v)
      release [iv, v, ov] []) := by intro _; rfl) : PG X (.Subscript o (.Slice lo hi none p2) pos) (gSlL to tl th) := by
  refine ⟨fun pins s σ H v u Q I r h => ?_⟩
  rw [ha]
  refine wpAny_bind (wpAny_holding (thn (ho.run pins s σ H _ I h) fun ov s1 ⟨x, H1, I1, r1, q1⟩ => ?_))
  refine wpAny_bind (wpAny_holding (wpAny_Slice (thn (hl.run pins s1 σ H1 _ I1 q1) fun vl s2 ⟨lo, H2, I2, pl, q2⟩ => thn (hh.run pins s2 σ H2 _ I2 q2) fun vu s3 ⟨hi, H3, I3, pu, q3⟩ => ?_)))
  rw [evalPart_none]
  refine wpAny_pure ?_
  obtain ⟨l, b, xs, ys, a, c, rfl, rfl, rfl, rfl, h1, h2, hne, h3, h4, h5, q⟩ := q3
  cases (show ov = Value.ref l from r1)
  cases (show u = Value.ref b from r)
  have I4 : L2.Inv X pins σ H3 { s3 with heap := s3.heap.push { cls := .type "slice", data := .fields #[vl, vu, .none] } } := I3.kept (t' := s3.toks) fun b ob q => Heap.get?_push_of_some _ q
  refine wpAny_bind (wpAny_standAt (wpAny_bind (wpAny_holding ?_)))
  exact set_clamp I4 h1 h2 hne (Heap.IsSliceOf.new ..) pl pu h3 h4 h5 fun s4 I5 => wpAny_release ⟨σ, _, I5, q⟩
/-- list(text), list(list), list(tuple) -/
def rListS (K : PySem.W.Frag) : List V → Hp → VK → Prop := fun xs H Q => (∃ z : Str, xs = [.str z] ∧ z.cps.size ≤ sizeLine ∧ ∀ l, H l = none → Q (.ref l) (L2.upd H l (.lst ((signs z).map V.str)))) ∨ (∃ p ys, xs = [.ref p] ∧ (SqL K H p ys ∨ SqT K H p ys) ∧ ∀ l, H l = none → Q (.ref l) (L2.upd H l (.lst ys)))
theorem call_listS (hc : X.calm = true) : CallR X (.type "list") (rListS X.K) := by
  intro pins s σ H xs us Q I r h
  rcases h with ⟨z, rfl, hz, q⟩ | h
  · obtain ⟨u, rfl, t, rfl⟩ := vals1 r
    refine call_list_str (I.ok.hd hc) z t (hn := hz) fun h' tk acc c' hk e hi => ?_
    have hsl : (signs z).length = z.cps.size := by unfold signs; rw [List.length_map, Array.length_toList]
    refine ⟨.ref s.heap.objs.size, L2.upd H s.heap.objs.size (.lst ((signs z).map V.str)), I.laid hk (Nat.le_refl _) ⟨by rw [List.length_map, hsl]; exact hz, acc.toList, c', ?_, by rw [Array.toArray_toList]; exact e⟩, rfl, q _ (I.hok.fresh (Nat.le_refl _))⟩
    refine vals_of_idx _ _ (by rw [List.length_map, hsl, Array.length_toList]; exact hi.1) fun j u hj => ?_
    obtain ⟨c, t', hc, rfl⟩ := hi.2 j u (by rw [← Array.getElem?_toList]; exact hj)
    exact ⟨.str ⟨#[c]⟩, by simp [signs, hc], ⟨_, rfl⟩⟩
  · exact call_list_of pins s σ H xs us Q I r h
/-- f(e, ..), f what an expression gives, with defaults -/
def tCallXD (f : Addr) (sp : Sp) (dvs : List V) (E : L2.St → XK) (tf : TE) (t : TA) : TE := fun σ H Q => tf σ H fun y H1 => y = .ref f ∧ t σ H1 fun vs H2 => sp (vs ++ dvs) H2 Q (E σ)
theorem pe_callXD {CX : CXT} {k : Nat} {f : Addr} {fd : FuncData} {ps : List Str} {sp : Sp} {E : L2.St → XK} {fe e : Expr} {es : List Expr} {tf : TE} {t : TA} {pos : PySem.Pos} {dvs : List V} {ds : List Value} (hf : PE X fe tf) (F : FnOk X.prog X.w X.K X.mg X.base CX k f fd ps sp) (hr : Room k X.A) (hk : PySem.W.keepIn X.K (.ref f) = true)
    (hb : Binds X.K fd ps ds) (hd : Vals dvs ds) (hx : ∀ σ, PassesAt CX X σ (E σ)) (ha : PA X (e :: es) t)
    (ht : eval (.Call fe (e :: es) [] pos) X.env = (do callWith pos (← eval fe X.env) [] (backTo pos (starEach (e :: es) X.env)) (backToKw pos (keywordEach [] X.env))) := by rfl)
    (he : starEach (e :: es) X.env = (false, eval e X.env) :: starEach es X.env := by rfl) (hpl : (backTo pos (starEach es X.env)).any (·.1) = false := by rfl) : PE X (.Call fe (e :: es) [] pos) (tCallXD f sp dvs E tf t) := by
  refine ⟨fun pins s σ H Q I h => ?_⟩
  refine Call_ (thn (hf.run pins s σ H _ I h) fun u s1 ⟨y, H1, I1, ry, ey, q⟩ => ?_) ht
  subst ey
  obtain rfl : u = Value.ref f := ry
  refine PySem.W.callWith_K (h₀ := X.base) I.ok.mod.kin hk (thn (ha.run pos pins s1 σ H1 _ I1 q) fun us s2 ⟨vs, H2, I2, r, q2⟩ => ⟨I2.kIn, ?_⟩) he hpl
  exact run_fnSD F hr hb hd (hx σ) I2 r q2
end
end Mx
set_option Elab.async false
set_option maxRecDepth 100000
set_option linter.all false
/-! the laws' _law_is_integer -/
namespace Mx
open PySem L2
def spIsInt (K : PySem.W.Frag) : Sp := fun vs H Q _ => ∃ (v : V) (lo hi : Int), vs = [v, .int lo, .int hi] ∧ Kind K H v ∧ Q (.bl (whole v lo hi)) H
section
variable {P : Program} {w : World} {K : PySem.W.Frag} {mg : Str → Option Value} {base : Heap}
theorem scIsInt : FnScope ["value", "low", "high"] ["value", "low", "high"] (defScope s_law_is_integer) := ⟨rfl, rfl, rfl, by decide +kernel, rfl, by decide +kernel, by decide +kernel⟩
theorem ok_isInt {f : Addr} {fd : FuncData} (F : Fun K "_law_is_integer" "_law_is_integer" s_law_is_integer f fd) (B : Blt mg) : FnOk P w K mg base CX0 1 f fd ["value", "low", "high"] (spIsInt K) := by
  refine F.ok scIsInt (fun vs H Q E h => ?_) (fun cdv A outer s H vs Q E hr h => ?_)
  · obtain ⟨v, lo, hi, rfl, _⟩ := h
    rfl
  · obtain ⟨v, lo, hi, rfl, hk, k⟩ := h
    refine ⟨_, pss_one (ps_ret (pe_and (pe_callB call_isi (by rfl) B.isinstance (by decide +kernel) (pa_cons (pv 0) (pa_cons (pe_bltn (v := .ty "int") (by rfl) B.int (by decide +kernel) rfl) pa_nil)))
      (pe_and (pe_not (pe_callB call_isi (by rfl) B.isinstance (by decide +kernel) (pa_cons (pv 0) (pa_cons (pe_bltn (v := .ty "bool") (by rfl) B.bool (by decide +kernel) rfl) pa_nil))))
        (pe_and (pe_cmpR op_le (pv 1) (pv 0) (nomark _)) (pe_one (pe_cmpR op_le (pv 0) (pv 2) (nomark _))))))), ?_⟩
    cases hk with
    | int i =>
      refine ⟨_, rfl, _, _, _, _, true, rfl, .ty _, .base (.int i), kit_ty (by decide +kernel), true, rfl, ?_⟩
      refine ⟨_, rfl, _, _, _, _, false, rfl, .ty _, .base (.int i), kit_ty (by decide +kernel), false, rfl, true, rfl, ?_⟩
      refine ⟨_, rfl, _, rfl, _, _, rfl, rfl, _, rfl, ?_⟩
      refine ite2 (fun c => ?_) (fun c => ?_)
      · refine ⟨_, rfl, _, rfl, _, _, rfl, rfl, ?_⟩
        have e : whole (.int i) lo hi = decide (i ≤ hi) := by unfold whole; dsimp only; rw [c]; rfl
        rw [e] at k
        exact k
      · have e : whole (.int i) lo hi = false := by unfold whole; dsimp only; rw [eq_false_of_ne_true c]; rfl
        rw [e] at k
        exact k
    | bl b =>
      refine ⟨_, rfl, _, _, _, _, true, rfl, .ty _, .base (.bl b), kit_ty (by decide +kernel), true, rfl, ?_⟩
      exact ⟨_, rfl, _, _, _, _, true, rfl, .ty _, .base (.bl b), kit_ty (by decide +kernel), true, rfl, false, rfl, k⟩
    | str x => exact ⟨_, rfl, _, _, _, _, false, rfl, .ty _, .base (.str x), kit_ty (by decide +kernel), false, rfl, k⟩
    | non => exact ⟨_, rfl, _, _, _, _, false, rfl, .ty _, .base .non, kit_ty (by decide +kernel), false, rfl, k⟩
    | lst h => exact ⟨_, rfl, _, _, _, _, false, rfl, .ty _, .base (.lst h), kit_ty (by decide +kernel), false, rfl, k⟩
    | tup h => exact ⟨_, rfl, _, _, _, _, false, rfl, .ty _, tyx_tup h, kit_ty (by decide +kernel), false, rfl, k⟩
end
end Mx
set_option Elab.async false
set_option maxRecDepth 100000
set_option linter.all false
/-! law_k01: _law_is_part of any value -/
namespace Mx
open PySem L2
/-- no text in it is too long, and all its signs are some -/
inductive Tame : PyData → Prop
  | non : Tame .none
  | bl (b : Bool) : Tame (.bool b)
  | int (i : Int) : Tame (.int i)
  | str (s : Str) (h : s.cps.size ≤ 1000) (g : ∀ c ∈ s.cps.toList, c < 1114112) : Tame (.str s)
  | lst (l : List PyData) (h : ∀ x ∈ l, Tame x) : Tame (.list l)
  | tup (l : List PyData) (h : ∀ x ∈ l, Tame x) : Tame (.tuple l)
theorem Tame.small {d : PyData} (h : Tame d) : Small d := by
  induction h with
  | non => exact .non
  | bl b => exact .bl b
  | int i => exact .int i
  | str s h _ => exact .str s h
  | lst l _ ih => exact .lst l ih
  | tup l _ ih => exact .tup l ih
theorem Tame.mem {l : List PyData} (h : Tame (.tuple l)) : ∀ x ∈ l, Tame x := by cases h with | tup _ h => exact h
/-- the small letters -/
def abc : Str := "abcdefghijklmnopqrstuvwxyz"
theorem abc_all : abc.cps.toList = (List.range 26).map (· + 97) := by decide +kernel
theorem abc_mem {c : Nat} : c ∈ abc.cps.toList ↔ 97 ≤ c ∧ c ≤ 122 := by
  rw [abc_all, List.mem_map]
  constructor
  · rintro ⟨a, ha, rfl⟩
    have := List.mem_range.mp ha
    omega
  · intro h
    exact ⟨c - 97, List.mem_range.mpr (by omega), by omega⟩
def isLow (c : Nat) : Bool := decide (97 ≤ c) && decide (c ≤ 122)
theorem abc_dec (c : Nat) : decide (c ∈ abc.cps.toList) = isLow c := by
  unfold isLow
  by_cases h : c ∈ abc.cps.toList
  · have := abc_mem.mp h
    rw [decide_eq_true h, decide_eq_true this.1, decide_eq_true this.2]
    rfl
  · rw [decide_eq_false h]
    by_cases a : 97 ≤ c
    · by_cases b : c ≤ 122
      · exact absurd (abc_mem.mpr ⟨a, b⟩) h
      · rw [decide_eq_false b, Bool.and_false]
    · rw [decide_eq_false a, Bool.false_and]
def sgD (c : Nat) : Str := ⟨#[c]⟩
theorem sgs_shaped {l : List Nat} (h : ∀ c ∈ l, c < 1114112) : SeqAt.shaped (.list ((l.map sgD).map PyData.str)) = true := by
  have c : PyData.canLayAll0 ((l.map sgD).map PyData.str) = true := by
    induction l with
    | nil => simp [PyData.canLayAll0]
    | cons a r ih =>
      rw [List.map_cons, List.map_cons, PyData.canLayAll0, ih fun x hx => h x (List.mem_cons_of_mem _ hx), Bool.and_true]
      show PyData.canLay0 (.str (sgD a)) = true
      rw [PyData.canLay0]
      unfold PyData.strOk sgD
      simpa using h a List.mem_cons_self
  unfold SeqAt.shaped
  rw [PyData.canLay0, c, PyData.depth, strs_depth, Bool.true_and]
  rfl
def spLPart (K : PySem.W.Frag) (j : Nat) : Sp := fun vs H Q _ => ∃ (v : V) (d : PyData), vs = [v, .int (j : Nat)] ∧ j ≤ 4 ∧ Dv K H v d ∧ Tame d ∧ ∀ H', Same H H' → Q (.bl (shapeD j d)) H'
section
variable {P : Program} {w : World} {K : PySem.W.Frag} {mg : Str → Option Value} {base : Heap}
def nLPt : List Str := ["value", "levels", "pair", "sign"]
theorem scLPt : FnScope nLPt ["value", "levels"] (defScope s_law_is_part) := ⟨rfl, rfl, rfl, by decide +kernel, rfl, by decide +kernel, by decide +kernel⟩
set_option maxHeartbeats 1000000 in
theorem lpart_step {j : Nat} {f fI : Addr} {fd dI : FuncData} (F : Def K mg "_law_is_part" s_law_is_part ["value", "levels"] f fd) (B : Blt mg) (DI : Def K mg "_law_is_integer" s_law_is_integer ["value", "low", "high"] fI dI) (GI : FnOk P w K mg base CX0 1 fI dI ["value", "low", "high"] (spIsInt K))
    (GR : FnOk P w K mg base CX0 (j + 1) f fd ["value", "levels"] (pre (spLPart K) j)) : FnOk P w K mg base CX0 (j + 2) f fd ["value", "levels"] (spLPart K j) := by
  refine F.fn.ok scLPt (fun vs H Q E h => ?_) (fun cdv A outer s H vs Q E hr h => ?_)
  · obtain ⟨v, d, rfl, _⟩ := h
    rfl
  · obtain ⟨v, d, rfl, hj4, hD, hS, k⟩ := h
    refine ⟨_, pss_cons (ps_if (pt_val (pe_callB call_isi (by rfl) B.isinstance (by decide +kernel) (pa_cons (pv 0) (pa_cons (pe_bltn (v := .ty "str") (by rfl) B.str (by decide +kernel) rfl) pa_nil))))
        (pss_one (ps_ret (pe_and (pe_chain op_le op_le pe_int (pe_callB call_len_str (by rfl) B.len PySem.boot_len (pa_cons (pv 0) pa_nil)) pe_int)
          (pe_one (pe_cmpR (op_eqD hr.units) (pe_lc (own := [("sign", 3)]) (g := gName 3) (tt := tTest (tOp (fun x y H Q => ∃ (c : Nat) (z : Str), x = .str ⟨#[c]⟩ ∧ y = .str z ∧ Q (.bl (!decide (c ∈ z.cps.toList))) H) (tVar 3) (tC (.str abc)))) (te := tVar 3) (by rfl) scLPt.nd (pi_str (pv 0)) (blkOk_by (own := [("sign", 3)]) (N := nLPt) (sc := defScope s_law_is_part) (by decide +kernel))
            (fun _ _ _ _ _ => pg_name (i := 3) scLPt.nd rfl (Or.inl rfl)) (fun _ _ _ _ _ => pts_one (pt_cmpR op_notIn_sign (pv 3) pe_str (by rfl))) (fun _ _ _ _ _ => pv 3)) (pe_lst pa_nil) (nomark _)))))) pss_nil)
      (pss_cons (ps_if (PW.pt (pw_or (pt_not (pt_val (pe_callB call_isi (by rfl) B.isinstance (by decide +kernel) (pa_cons (pv 0) (pa_cons (pe_bltn (v := .ty "tuple") (by rfl) B.tuple (by decide +kernel) rfl) pa_nil)))))
          (pw_or (pt_not (pt_chain op_le op_le pe_int (pe_callB call_len_seq (by rfl) B.len PySem.boot_len (pa_cons (pv 0) pa_nil)) pe_int)) (pw_or1 (pt_cmpR op_eq (pv 1) pe_int (nomark _)))))) (pss_one (ps_ret pe_bl)) pss_nil)
      (pss_cons (ps_for PassesOwn.never rfl (pi_tup (pv 0)) (pg_name (i := 2) scLPt.nd rfl (Or.inl rfl))
        (pss_cons (ps_if (PW.pt (pw_or (pt_not (pt_val (pe_callB call_isi (by rfl) B.isinstance (by decide +kernel) (pa_cons (pv 2) (pa_cons (pe_bltn (v := .ty "tuple") (by rfl) B.tuple (by decide +kernel) rfl) pa_nil)))))
            (pw_or (pt_cmpR op_ne (pe_callB call_len_seq (by rfl) B.len PySem.boot_len (pa_cons (pv 2) pa_nil)) pe_int (nomark _)) (pw_or1 (pt_not (pt_val (pe_call GI (hr.mono (by omega)) rfl DI.mg DI.fn.kp DI.b .nil pass0 (pa_cons (pe_ix ix_tup (pv 2) pe_int (fun _ _ => rfl)) (pa_cons pe_int (pa_cons pe_int pa_nil))))))))))
            (pss_one (ps_ret pe_bl)) pss_nil)
        (pss_one (ps_if (pt_not (pt_val (pe_call GR hr rfl F.mg F.fn.kp F.b .nil pass0 (pa_cons (pe_ix ix_tup (pv 2) pe_int (fun _ _ => rfl)) (pa_cons (pe_op op_sub (pv 1) pe_int) pa_nil))))) (pss_one (ps_ret pe_bl)) pss_nil))))
      (pss_one (ps_ret pe_bl)))), ?_⟩
    have no : ∀ b, shapeD j d = b → ∀ H', Same H H' → Q (.bl b) H' := fun b e H' s => e ▸ k H' s
    cases hD with
    | non =>
      have e : shapeD j .none = false := by cases j <;> rfl
      exact ⟨_, rfl, _, _, _, _, false, rfl, .ty _, .base .non, kit_ty (by decide +kernel), _, rfl, _, rfl, _, _, _, _, false, rfl, .ty _, .base .non, kit_ty (by decide +kernel), _, rfl, no _ e H (Same.refl _)⟩
    | bl b =>
      have e : shapeD j (.bool b) = false := by cases j <;> rfl
      exact ⟨_, rfl, _, _, _, _, false, rfl, .ty _, .base (.bl b), kit_ty (by decide +kernel), _, rfl, _, rfl, _, _, _, _, false, rfl, .ty _, .base (.bl b), kit_ty (by decide +kernel), _, rfl, no _ e H (Same.refl _)⟩
    | int i =>
      have e : shapeD j (.int i) = false := by cases j <;> rfl
      exact ⟨_, rfl, _, _, _, _, false, rfl, .ty _, .base (.int i), kit_ty (by decide +kernel), _, rfl, _, rfl, _, _, _, _, false, rfl, .ty _, .base (.int i), kit_ty (by decide +kernel), _, rfl, no _ e H (Same.refl _)⟩
    | lst ha _ =>
      rename_i ds _
      have e : shapeD j (.list ds) = false := by cases j <;> rfl
      exact ⟨_, rfl, _, _, _, _, false, rfl, .ty _, .base (.lst ha), kit_ty (by decide +kernel), _, rfl, _, rfl, _, _, _, _, false, rfl, .ty _, .base (.lst ha), kit_ty (by decide +kernel), _, rfl, no _ e H (Same.refl _)⟩
    | str x =>
      obtain ⟨hx, hg⟩ : x.cps.size ≤ 1000 ∧ ∀ c ∈ x.cps.toList, c < 1114112 := by cases hS with | str _ h g => exact ⟨h, g⟩
      have hzl : x.length = x.cps.size := rfl
      have ec : (fun c => decide (97 ≤ c) && decide (c ≤ 122)) = isLow := rfl
      have e0 : okName x = ((decide (1 ≤ (x.length : Int)) && decide ((x.length : Int) ≤ 6)) && x.cps.toList.all isLow) := by
        unfold okName
        rw [hzl]
        congr 1
        have a1 : decide (1 ≤ x.cps.size) = decide (1 ≤ (x.cps.size : Int)) := by apply decide_eq_decide.mpr; omega
        have a2 : decide (x.cps.size ≤ 6) = decide ((x.cps.size : Int) ≤ 6) := by apply decide_eq_decide.mpr; omega
        rw [a1, a2]
      have es := shapeD_str j x
      refine ⟨_, rfl, _, _, _, _, true, rfl, .ty _, .base (.str x), kit_ty (by decide +kernel), _, rfl, ?_⟩
      refine ite2 (fun _ => ?_) (fun z => absurd rfl z)
      refine ⟨_, rfl, x, rfl, Nat.le_of_lt (small1000 hx), _, _, rfl, rfl, _, rfl, ?_⟩
      refine ite2 (fun c => ?_) (fun c => ?_)
      · refine ⟨_, _, rfl, rfl, _, rfl, ?_⟩
        by_cases c2 : decide ((x.length : Int) ≤ 6) = true
        · refine ite2 (fun _ => ?_) (fun z => absurd c2 z)
          refine ⟨_, rfl, x, rfl, fun D' nD => ?_⟩
          refine lc_it walk_str (fun i H' => Same H H' ∧ H' D' = some (.lst ((((x.cps.toList.take i).filter fun c => !isLow c).map sgD).map V.str))) ?_ (fun _ _ _ _ => trivial) ?_ ?_
          · exact ⟨Same.new (Same.refl _) nD, upd_same⟩
          · rintro i y H' H2 hi ⟨hS', hD'⟩ ⟨rfl, cc, hc, rfl⟩
            have hcl : x.cps.toList[i]? = some cc := by rw [Array.getElem?_toList]; exact hc
            have hfl : ((x.cps.toList.take i).filter fun c => !isLow c).length ≤ i := Nat.le_trans (List.length_filter_le _ _) (List.length_take_le _ _)
            refine ⟨rfl, _, rfl, cc, abc, rfl, rfl, _, rfl, ?_⟩
            rw [abc_dec]
            by_cases cl : isLow cc = true
            · rw [cl]
              refine ite2 (fun z => by cases z) (fun _ => ?_)
              refine ⟨hS', ?_⟩
              rw [take_succ_of hcl, List.filter_append, List.filter_cons_of_neg (by rw [cl]; simp), List.filter_nil, List.append_nil]
              exact hD'
            · have cl' : isLow cc = false := by simpa using cl
              rw [cl']
              refine ite2 (fun _ => ?_) (fun z => absurd rfl z)
              refine ⟨_, rfl, _, hD', by rw [List.length_map, List.length_map]; exact small1000 (by omega), Same.own hS' nD, ?_⟩
              rw [upd_same, take_succ_of hcl, List.filter_append, List.filter_cons_of_pos (by rw [cl']; rfl), List.filter_nil, List.map_append, List.map_append]
              rfl
          · rintro H1 ⟨S1, hD1⟩
            rw [List.take_of_length_le (by rw [Array.length_toList]; exact Nat.le_refl _)] at hD1
            refine ⟨Nat.zero_le _, fun l nl => ?_⟩
            have S2 : Same H1 (L2.upd H1 l (.lst [])) := Same.new (Same.refl _) nl
            have sh : SeqAt.shaped (.list (((x.cps.toList.filter fun c => !isLow c).map sgD).map PyData.str)) = true := sgs_shaped fun c hc => hg c (List.mem_filter.mp hc).1
            refine ⟨_, _, .lst (SqL.of (S2 _ _ hD1)) (strs_dp _), .lst (SqL.of upd_same) .nil, sh, nil_shaped, ?_⟩
            rw [eqv_nil]
            refine no _ ?_ _ (S1.trans S2)
            rw [es, e0, c, c2, Bool.true_and, Bool.true_and]
            rw [Bool.eq_iff_iff, List.all_eq_true, decide_eq_true_iff, List.map_eq_nil_iff, List.filter_eq_nil_iff]
            constructor
            · intro h a ha
              simp [h a ha]
            · intro h a ha
              simpa using h a ha
        · have c2' : decide ((x.length : Int) ≤ 6) = false := by simpa using c2
          refine ite2 (fun z => absurd z c2) (fun _ => ?_)
          exact no _ (by rw [es, e0, c2', Bool.and_false, Bool.false_and]) H (Same.refl _)
      · have c' : decide (1 ≤ (x.length : Int)) = false := by simpa using c
        refine ⟨_, rfl, ite2 (fun z => by cases z) (fun _ => ?_)⟩
        exact no _ (by rw [es, e0, c', Bool.false_and, Bool.false_and]) H (Same.refl _)
    | tup hs hA =>
      rename_i a xs ds
      have hl := dvAll_len hA
      refine ⟨_, rfl, _, _, _, _, false, rfl, .ty _, tyx_tup hs, kit_ty (by decide +kernel), _, rfl, ?_⟩
      refine ite2 (fun z => by cases z) (fun _ => ?_)
      refine ⟨_, rfl, _, _, _, _, true, rfl, .ty _, tyx_tup hs, kit_ty (by decide +kernel), _, rfl, ?_⟩
      refine ite2 (fun z => by cases z) (fun _ => ?_)
      have short : ¬ (1 ≤ ds.length ∧ ds.length ≤ 5) → shapeD j (.tuple ds) = false := fun h => by
        cases j with
        | zero => rfl
        | succ j =>
          rw [shapeD_tup]
          by_cases a1 : 1 ≤ ds.length
          · rw [decide_eq_false fun z => h ⟨a1, z⟩, Bool.false_and, Bool.and_false]
          · rw [decide_eq_false a1, Bool.false_and]
      refine ⟨_, rfl, a, _, rfl, .inr hs, _, _, rfl, rfl, _, rfl, ?_⟩
      refine ite2 (fun c2 => ?_) (fun c2 => ?_)
      rotate_left
      · have c2' : ¬ 1 ≤ ds.length := fun z => c2 (decide_eq_true (by omega))
        exact ⟨_, rfl, no _ (short fun z => c2' z.1) H (Same.refl _)⟩
      have c2' : 1 ≤ ds.length := by have z := of_decide_eq_true c2; omega
      refine ⟨_, _, rfl, rfl, _, rfl, ?_⟩
      by_cases c5 : ds.length ≤ 5
      rotate_left
      · have e5 : decide ((xs.length : Int) ≤ 5) = false := decide_eq_false (by omega)
        rw [e5]
        exact no _ (short fun z => c5 z.2) H (Same.refl _)
      have e5 : decide ((xs.length : Int) ≤ 5) = true := decide_eq_true (by omega)
      rw [e5]
      refine ite2 (fun z => by cases z) (fun _ => ?_)
      cases j with
      | zero => exact ⟨_, rfl, rfl, _, rfl, no _ rfl H (Same.refl _)⟩
      | succ j =>
        have hsh := shapeD_tup j ds
        have ej : decide (V.int ((j + 1 : Nat) : Int) = V.int 0) = false := decide_eq_false fun z => by have := V.int.inj z; omega
        refine ⟨_, rfl, rfl, _, rfl, ?_⟩
        rw [ej]
        refine ite2 (fun z => by cases z) (fun _ => ?_)
        refine ⟨_, rfl, a, rfl, ⟨_, hs⟩, for_tup (K := K) (a := a) (xs := xs) (fun i σ H' => ∃ v2 : Option V, σ = [some (.ref a), some (.int ((j + 1 : Nat) : Int)), v2, none] ∧ Same H H' ∧ ∀ x ∈ ds.take i, wpD j x = true) ?_ ?_ ?_ ?_⟩
        · exact ⟨_, rfl, Same.refl _, fun x h => by cases h⟩
        · rintro i σ H' _ ⟨v2, rfl, hS', _⟩
          exact sqT_same hS' _ _ hs
        · rintro i x σ H' hx ⟨v2, rfl, hS', hall⟩
          obtain ⟨dx, hdx, hxd⟩ := dvAll_get hA hx
          have hxd := hxd.same hS'
          have hSx := hS.mem dx (List.mem_of_getElem? hdx)
          have bad : wpD j dx = false → ∀ H2, Same H H2 → Q (.bl false) H2 := fun e H2 S2 => no _ (by
            rw [hsh]
            have : ds.all (wpD j) = false := by
              rw [List.all_eq_false]
              exact ⟨dx, List.mem_of_getElem? hdx, by rw [e]; simp⟩
            rw [this, Bool.and_false, Bool.and_false]) H2 S2
          have next : wpD j dx = true → ∀ x' ∈ ds.take (i + 1), wpD j x' = true := fun e x' h' => by
            rw [take_succ_of hdx] at h'
            rcases List.mem_append.mp h' with h' | h'
            · exact hall x' h'
            · rw [List.mem_singleton.mp h']
              exact e
          cases hxd with
          | non => exact ⟨_, rfl, _, _, _, _, false, rfl, .ty _, .base .non, kit_ty (by decide +kernel), _, rfl, bad rfl H' hS'⟩
          | bl b => exact ⟨_, rfl, _, _, _, _, false, rfl, .ty _, .base (.bl b), kit_ty (by decide +kernel), _, rfl, bad rfl H' hS'⟩
          | int n => exact ⟨_, rfl, _, _, _, _, false, rfl, .ty _, .base (.int n), kit_ty (by decide +kernel), _, rfl, bad rfl H' hS'⟩
          | str s => exact ⟨_, rfl, _, _, _, _, false, rfl, .ty _, .base (.str s), kit_ty (by decide +kernel), _, rfl, bad rfl H' hS'⟩
          | lst ha _ => exact ⟨_, rfl, _, _, _, _, false, rfl, .ty _, .base (.lst ha), kit_ty (by decide +kernel), _, rfl, bad rfl H' hS'⟩
          | tup hb hB =>
            rename_i b ys es
            have hyl := dvAll_len hB
            refine ⟨_, rfl, _, _, _, _, true, rfl, .ty _, tyx_tup hb, kit_ty (by decide +kernel), _, rfl, ?_⟩
            refine ⟨_, rfl, b, _, rfl, .inr hb, rfl, _, rfl, ?_⟩
            by_cases h2 : es.length = 2
            · obtain ⟨d1, d2, rfl⟩ : ∃ d1 d2, es = [d1, d2] := by
                match es, h2 with
                | [d1, d2], _ => exact ⟨d1, d2, rfl⟩
              obtain ⟨x1, x2, rfl⟩ : ∃ x1 x2, ys = [x1, x2] := by
                match ys, (hyl.trans h2) with
                | [x1, x2], _ => exact ⟨x1, x2, rfl⟩
              refine ite2 (fun c => absurd c (by show ¬ (!decide (V.int (2 : Int) = V.int 2)) = true; decide)) (fun _ => ?_)
              cases hB with
              | cons q1 t1 =>
                cases t1 with
                | cons q2 t2 =>
                  have hS2 := hSx.mem d2 (.tail _ (.head _))
                  refine ⟨_, rfl, b, _, _, x1, rfl, rfl, hb, rfl, x1, 1, 9, rfl, q1.kind, _, rfl, ?_⟩
                  rw [q1.whole]
                  by_cases cw : wholeD d1 1 9 = true
                  · rw [cw]
                    refine ⟨_, rfl, b, _, _, x2, rfl, rfl, hb, rfl, _, rfl, _, _, rfl, rfl, ?_⟩
                    have ee : (((j + 1 : Nat) : Int) - 1) = ((j : Nat) : Int) := by omega
                    refine ⟨x2, d2, by show [x2, V.int (((j + 1 : Nat) : Int) - 1)] = _; rw [ee], by omega, q2, hS2, fun H2 S2 => ⟨_, rfl, ?_⟩⟩
                    by_cases cs : shapeD j d2 = true
                    · rw [cs]
                      refine ⟨_, rfl, hS'.trans S2, next ?_⟩
                      show (wholeD d1 1 9 && shapeD j d2) = _
                      rw [cw, cs]
                      rfl
                    · have cs' : shapeD j d2 = false := by simpa using cs
                      rw [cs']
                      refine bad ?_ H2 (hS'.trans S2)
                      show (wholeD d1 1 9 && shapeD j d2) = _
                      rw [cs', Bool.and_false]
                  · have cw' : wholeD d1 1 9 = false := by simpa using cw
                    rw [cw']
                    refine bad ?_ H' hS'
                    show (wholeD d1 1 9 && shapeD j d2) = _
                    rw [cw', Bool.false_and]
            · refine ite2 (fun _ => bad (wpD_ne h2) H' hS') (fun c => ?_)
              exfalso
              refine c ?_
              have e : ¬ (V.int ((ys.length : Nat) : Int) = V.int 2) := fun z => by
                have z2 := V.int.inj z
                omega
              show (!decide (V.int ((ys.length : Nat) : Int) = V.int 2)) = true
              rw [decide_eq_false e]
              rfl
        · rintro σ H' ⟨v2, rfl, hS', hall⟩
          refine no _ ?_ H' hS'
          rw [hl, List.take_length] at hall
          rw [hsh, decide_eq_true c2', decide_eq_true c5, Bool.true_and, Bool.true_and, List.all_eq_true]
          exact hall
theorem ok_lpart {f fI : Addr} {fd dI : FuncData} (F : Def K mg "_law_is_part" s_law_is_part ["value", "levels"] f fd) (B : Blt mg) (DI : Def K mg "_law_is_integer" s_law_is_integer ["value", "low", "high"] fI dI) (GI : FnOk P w K mg base CX0 1 fI dI ["value", "low", "high"] (spIsInt K)) : ∀ j : Nat, FnOk P w K mg base CX0 (j + 2) f fd ["value", "levels"] (spLPart K j)
  | 0 => lpart_step F B DI GI (F.fn.ok (k := 0) scLPt (fun _ _ _ _ h => h.elim) (fun _ _ _ _ _ _ _ _ _ h => h.elim))
  | j + 1 => lpart_step F B DI GI (ok_lpart F B DI GI j)
def spLTree (K : PySem.W.Frag) : Sp := fun vs H Q _ => ∃ (v : V) (d : PyData), vs = [v] ∧ Dv K H v d ∧ Tame d ∧ ∀ (b : Bool) (H' : Hp), Same H H' → (b = true ↔ ∃ t : Tr, t.data = d ∧ TreeV t) → Q (.bl b) H'
theorem scLTr : FnScope ["value", "names"] ["value"] (defScope s_law_is_tree) := ⟨rfl, rfl, rfl, by decide +kernel, rfl, by decide +kernel, by decide +kernel⟩
theorem ok_ltree {f fS fN : Addr} {fd dS dN : FuncData} (F : Fun K "_law_is_tree" "_law_is_tree" s_law_is_tree f fd) (B : Blt mg) (DS : Def K mg "_law_is_part" s_law_is_part ["value", "levels"] fS dS) (GS : FnOk P w K mg base CX0 6 fS dS ["value", "levels"] (spLPart K 4))
    (DN : Def K mg "_law_names" sLNames ["tree"] fN dN) (GN : FnOk P w K mg base CX0 6 fN dN ["tree"] (spNames K 4)) : FnOk P w K mg base CX0 7 f fd ["value"] (spLTree K) := by
  refine F.ok scLTr (fun vs H Q E h => ?_) (fun cdv A outer s H vs Q E hr h => ?_)
  · obtain ⟨v, d, rfl, _⟩ := h
    rfl
  · obtain ⟨v, d, rfl, hD, hS, k⟩ := h
    refine ⟨_, pss_cons (ps_if (pt_not (pt_val (pe_call GS hr rfl DS.mg DS.fn.kp DS.b .nil pass0 (pa_cons (pv 0) (pa_cons pe_int pa_nil))))) (pss_one (ps_ret pe_bl)) pss_nil)
      (pss_cons (ps_set (i := 1) scLTr.nd rfl (Or.inl rfl) (pe_call GN hr rfl DN.mg DN.fn.kp DN.b .nil pass0 (pa_cons (pv 0) pa_nil)))
      (pss_one (ps_ret (pe_and (pe_cmpR op_le (pe_callB call_len_seq (by rfl) B.len PySem.boot_len (pa_cons (pv 1) pa_nil)) pe_int (nomark _))
        (pe_one (pe_cmpR op_eq (pe_lenSetL rfl (by rfl) B.len (by rfl) B.set (pe_callTy call_list_of (by rfl) B.list (by decide +kernel) (pa_cons (pv 1) pa_nil))) (pe_callB call_len_seq (by rfl) B.len PySem.boot_len (pa_cons (pv 1) pa_nil)) (nomark _))))))), ?_⟩
    refine ⟨_, rfl, v, d, rfl, by decide, hD, hS, fun H1 S1 => ⟨_, rfl, ?_⟩⟩
    by_cases c : shapeD 4 d = true
    · rw [c]
      obtain ⟨t, rfl, hw, hn⟩ := shape_tr 4 hS.small c
      have hT := dv_tr 4 hw hD
      have hb : t.names.length ≤ 625 := names_bound 4 hw
      have huniq : ∀ u : Tr, u.data = t.data → u = t := fun u e => data_inj u t e
      refine ite2 (fun z => by cases z) (fun _ => ?_)
      refine ⟨_, rfl, v, t, rfl, TrAt.keep (sqT_same S1) _ hT, hw, by omega, fun p H2 S2 np hp => ?_⟩
      refine ⟨_, rfl, p, _, rfl, .inl (SqL.of hp), _, _, rfl, rfl, _, rfl, ?_⟩
      by_cases c8 : t.names.length ≤ 8
      · have e8 : decide (((t.names.map V.str).length : Int) ≤ 8) = true := decide_eq_true (by rw [List.length_map]; omega)
        rw [e8]
        refine ⟨_, rfl, p, _, rfl, .inl (SqL.of hp), fun p2 np2 => ?_⟩
        have S3 : Same H2 (L2.upd H2 p2 (.lst (t.names.map V.str))) := Same.new (Same.refl _) np2
        refine ⟨p2, _, rfl, SqL.of upd_same, by omega, ?_⟩
        refine ⟨_, rfl, p, _, rfl, .inl (SqL.of (S3 _ _ hp)), rfl, ?_⟩
        by_cases nd : t.names.Nodup
        · have e9 : decide (V.int ((dn t.names t.names.length : Nat) : Int) = V.int (((t.names.map V.str).length : Nat) : Int)) = true := decide_eq_true (by rw [List.length_map, dn_nd nd _ (Nat.le_refl _)])
          rw [e9]
          exact k true _ (S1.trans (S2.trans S3)) ⟨fun _ => ⟨t, rfl, hw, nd, c8, hn⟩, fun _ => rfl⟩
        · obtain ⟨j, x, hx, hxt⟩ := dup_at nd
          have hlt := dn_lt hx hxt t.names.length (List.getElem?_eq_some_iff.mp hx).1 (Nat.le_refl _)
          have e9 : decide (V.int ((dn t.names t.names.length : Nat) : Int) = V.int (((t.names.map V.str).length : Nat) : Int)) = false := decide_eq_false (fun z => by
            have z2 := V.int.inj z
            rw [List.length_map] at z2
            omega)
          rw [e9]
          refine k false _ (S1.trans (S2.trans S3)) ⟨fun z => by (cases z), fun ⟨u, e, hu⟩ => ?_⟩
          rw [huniq u e] at hu
          exact absurd hu.nd nd
      · have e8 : decide (((t.names.map V.str).length : Int) ≤ 8) = false := decide_eq_false (by rw [List.length_map]; omega)
        rw [e8]
        refine k false H2 (S1.trans S2) ⟨fun z => by (cases z), fun ⟨u, e, hu⟩ => ?_⟩
        rw [huniq u e] at hu
        exact absurd hu.len c8
    · have c' : shapeD 4 d = false := by simpa using c
      rw [c']
      refine ite2 (fun _ => ?_) (fun z => absurd rfl z)
      refine k false H1 S1 ⟨fun z => by (cases z), fun ⟨u, e, hu⟩ => ?_⟩
      rw [← e, tr_shape 4 hu.wf hu.nm] at c'
      cases c'
end
end Mx
set_option Elab.async false
set_option maxRecDepth 100000
namespace Mx
open PySem L2
section
variable {P : Program} {w : World} {K : PySem.W.Frag} {mg : Str → Option Value} {base : Heap}
theorem scPick : FnScope ["source", "size", "drawn"] ["source", "size"] (defScope sPick) := ⟨rfl, rfl, rfl, by decide +kernel, rfl, by decide +kernel, by decide +kernel⟩
theorem at0 {x y z : V} : atI [x, y, z] 0 = some x := rfl
theorem at1 {x y z : V} : atI [x, y, z] 1 = some y := rfl
theorem at2 {x y z : V} : atI [x, y, z] 2 = some z := rfl
theorem ok_pick {f : Addr} {fd : FuncData} (F : Fun K "_law_pick" "_law_pick" sPick f fd) : FnOk P w K mg base CX0 1 f fd ["source", "size"] spPick := by
  refine F.ok scPick (fun vs H Q E h => ?_) (fun cdv A outer s H vs Q E hr h => ?_)
  · obtain ⟨a, n, o, rfl, _⟩ := h
    rfl
  · obtain ⟨a, n, o, rfl, ha, ⟨x, y, p, rfl, hx, hy, hy2, hp, hp2⟩, hn, hn2, k⟩ := h
    refine ⟨_, pss_cons (ps_if (pt_cmpR op_gt (pe_ix ix_list (pv 0) pe_int (fun _ _ => rfl)) pe_int (nomark _))
        (pss_cons (ps_set (i := 2) scPick.nd rfl (Or.inl rfl) (pe_op op_mod (pe_ix ix_list (pv 0) pe_int (fun _ _ => rfl)) (pv 1)))
        (pss_cons (ps_asg (pe_op op_fdivW (pe_ix ix_list (pv 0) pe_int (fun _ _ => rfl)) (pv 1)) (pg_sub (pv 0) pe_int set_list))
        (pss_one (ps_ret (pv 2))))) pss_nil)
      (pss_cons (ps_asg (pe_op op_add (pe_op op_mod (pe_op op_mul (pe_ix ix_list (pv 0) pe_int (fun _ _ => rfl)) pe_int) (pe_ix ix_list (pv 0) pe_int (fun _ _ => rfl))) pe_int) (pg_sub (pv 0) pe_int set_list))
      (pss_one (ps_ret (pe_op op_mod (pe_op op_fdiv (pe_op op_mod (pe_op op_mul (pe_ix ix_list (pv 0) pe_int (fun _ _ => rfl)) (pe_ix ix_list (pv 0) pe_int (fun _ _ => rfl))) pe_int) pe_int) (pv 1))))), ?_⟩
    have hq := SqL.of (K := K) ha
    refine ⟨_, rfl, a, _, _, _, rfl, rfl, hq, at0, _, _, rfl, rfl, _, rfl, ?_⟩
    refine ite2 (fun c => ?_) (fun c => ?_)
    · refine ⟨_, rfl, a, _, _, _, rfl, rfl, hq, at0, _, rfl, _, _, rfl, rfl, hn, ?_⟩
      refine ⟨_, rfl, a, _, _, _, rfl, rfl, hq, at0, _, rfl, _, _, rfl, rfl, ⟨hn, ?_⟩, _, rfl, a, _, _, 0, rfl, rfl, ha, rfl, ?_⟩
      · exact Nat.lt_of_lt_of_le (PySem.Flt.log2_lt_of (k := 62) (by decide) (by omega)) (by decide)
      · refine ⟨_, rfl, k _ _ (Int.emod_nonneg _ (by omega)) (Int.emod_lt_of_pos _ hn) ?_⟩
        exact ⟨_, y, p, rfl, Int.ediv_nonneg hx (by omega), hy, hy2, hp, hp2⟩
    · have e1 : (0 : Int) ≤ y * 48271 % p := Int.emod_nonneg _ (by omega)
      have e2 : y * 48271 % p < p := Int.emod_lt_of_pos _ hp
      refine ⟨_, rfl, a, _, _, _, rfl, rfl, hq, at1, _, _, rfl, rfl, .inl ⟨by omega, by omega⟩, _, rfl, a, _, _, _, rfl, rfl, hq, at2, _, _, rfl, rfl, hp, _, _, rfl, rfl, _, rfl, a, _, _, 1, rfl, rfl, ha, rfl, ?_⟩
      have hq2 := SqL.of (K := K) (upd_same (H := H) (a := a) (o := .lst [.int x, .int (y * 48271 % p + 1), .int p]))
      refine ⟨_, rfl, a, _, _, _, rfl, rfl, hq2, at1, _, rfl, a, _, _, _, rfl, rfl, hq2, at1, _, _, rfl, rfl, .inl ⟨by omega, by omega⟩, _, _, rfl, rfl, (by show (0 : Int) < 2147483423; decide), _, _, rfl, rfl, ⟨by decide, by decide⟩, _, rfl, _, _, rfl, rfl, hn, ?_⟩
      exact k _ _ (Int.emod_nonneg _ (by omega)) (Int.emod_lt_of_pos _ hn) ⟨x, _, p, rfl, hx, by omega, by omega, hp, hp2⟩
theorem scLSource : FnScope ["script", "k", "cell", "primes", "seed"] ["script", "k"] (defScope sLSource) := ⟨rfl, rfl, rfl, by decide +kernel, rfl, by decide +kernel, by decide +kernel⟩
theorem primes_at (k : Int) : ∃ p : Int, atI [V.int 2147483647, V.int 2147483629, V.int 2147483587, V.int 2147483579, V.int 2147483563, V.int 2147483549, V.int 2147483543, V.int 2147483497] (k % 8) = some (.int p) ∧ 0 < p ∧ p ≤ 2147483647 := by
  have h1 : 0 ≤ k % 8 := Int.emod_nonneg _ (by decide)
  have h2 : k % 8 < 8 := Int.emod_lt_of_pos _ (by decide)
  generalize k % 8 = j at h1 h2
  obtain ⟨n, rfl⟩ := Int.eq_ofNat_of_zero_le h1
  have h3 : n < 8 := by omega
  match n, h3 with
  | 0, _ => exact ⟨_, rfl, by decide, by decide⟩
  | 1, _ => exact ⟨_, rfl, by decide, by decide⟩
  | 2, _ => exact ⟨_, rfl, by decide, by decide⟩
  | 3, _ => exact ⟨_, rfl, by decide, by decide⟩
  | 4, _ => exact ⟨_, rfl, by decide, by decide⟩
  | 5, _ => exact ⟨_, rfl, by decide, by decide⟩
  | 6, _ => exact ⟨_, rfl, by decide, by decide⟩
  | 7, _ => exact ⟨_, rfl, by decide, by decide⟩
theorem ok_lsource {f : Addr} {fd : FuncData} (F : Fun K "_law_source" "_law_source" sLSource f fd) (B : Blt mg) : FnOk P w K mg base CX0 1 f fd ["script", "k"] (spLSource K) := by
  refine F.ok scLSource (fun vs H Q E h => ?_) (fun cdv A outer s H vs Q E hr h => ?_)
  · obtain ⟨a, ns, j, rfl, _⟩ := h
    rfl
  · obtain ⟨a, ns, j, rfl, hs, hj, hj2, k⟩ := h
    refine ⟨_, pss_cons (ps_set (i := 2) scLSource.nd rfl (Or.inl rfl) pe_int)
      (pss_cons (ps_if (pt_cmpR op_lt (pv 1) (pe_callB call_len_seq (by rfl) B.len PySem.boot_len (pa_cons (pv 0) pa_nil)) (nomark _))
        (pss_one (ps_set (i := 2) scLSource.nd rfl (Or.inl rfl) (pe_ix ix_list (pv 0) (pv 1) (fun _ _ => rfl)))) pss_nil)
      (pss_cons (ps_set (i := 3) scLSource.nd rfl (Or.inl rfl) (pe_lst (pa_cons pe_int (pa_cons pe_int (pa_cons pe_int (pa_cons pe_int (pa_cons pe_int (pa_cons pe_int (pa_cons pe_int (pa_cons pe_int pa_nil))))))))))
      (pss_cons (ps_set (i := 4) scLSource.nd rfl (Or.inl rfl) (pe_op op_mod (pe_op op_mul (pe_op op_add (pe_op op_mod (pv 2) pe_int) pe_int) (pe_op op_add pe_int (pe_op op_mul pe_int (pv 1)))) pe_int))
      (pss_cons (ps_set (i := 4) scLSource.nd rfl (Or.inl rfl) (pe_op op_add (pe_op op_add (pe_op op_mod (pe_op op_mul (pv 4) (pv 4)) pe_int) (pv 1)) pe_int))
      (pss_cons (ps_if (pt_cmpR op_ge (pv 2) (pe_op op_pow pe_int pe_int) (nomark _))
        (pss_one (ps_ret (pe_lst (pa_cons (pv 2) (pa_cons (pv 4) (pa_cons (pe_ix ix_list (pv 3) (pe_op op_mod (pv 1) pe_int) (fun _ _ => rfl)) pa_nil)))))) pss_nil)
      (pss_one (ps_ret (pe_lst (pa_cons pe_int (pa_cons (pv 4) (pa_cons (pe_ix ix_list (pv 3) (pe_op op_mod (pv 1) pe_int) (fun _ _ => rfl)) pa_nil))))))))))), ?_⟩
    refine ⟨_, rfl, _, rfl, a, _, rfl, .inl hs, _, _, rfl, rfl, _, rfl, ?_⟩
    obtain ⟨m, rfl⟩ := Int.eq_ofNat_of_zero_le hj
    obtain ⟨q, hq, hq1, hq2⟩ := primes_at (m : Int)
    have h1 : ∀ c : Int, 0 ≤ (c % 2147483489 + 1) * (48271 + 2 * (m : Int)) % 2147483489 ∧ (c % 2147483489 + 1) * (48271 + 2 * (m : Int)) % 2147483489 < 2147483489 := fun c => ⟨Int.emod_nonneg _ (by decide), Int.emod_lt_of_pos _ (by decide)⟩
    have h2 : ∀ c : Int, 0 ≤ c * c % 2147483477 ∧ c * c % 2147483477 < 2147483477 := fun c => ⟨Int.emod_nonneg _ (by decide), Int.emod_lt_of_pos _ (by decide)⟩
    have h3 : ∀ c : Int, 0 ≤ c % 2147483489 ∧ c % 2147483489 < 2147483489 := fun c => ⟨Int.emod_nonneg _ (by decide), Int.emod_lt_of_pos _ (by decide)⟩
    refine ite2 (fun c => ?_) (fun c => ?_)
    · have hm : m < ns.length := by
        have q := of_decide_eq_true c
        rw [List.length_map] at q
        omega
      refine ⟨_, rfl, _, rfl, a, _, _, V.int ns[m], rfl, rfl, hs, atI_nat (by rw [List.getElem?_map, List.getElem?_eq_getElem hm]; rfl), ?_⟩
      refine ⟨by show 8 ≤ sizeLine; decide, fun pl npl => ?_⟩
      have hp := SqL.of (K := K) (upd_same (H := H) (a := pl) (o := .lst [V.int 2147483647, V.int 2147483629, V.int 2147483587, V.int 2147483579, V.int 2147483563, V.int 2147483549, V.int 2147483543, V.int 2147483497]))
      have z1 := h1 ns[m]
      have z2 := h2 ((ns[m] % 2147483489 + 1) * (48271 + 2 * (m : Int)) % 2147483489)
      have z3 := h3 ns[m]
      refine ⟨_, rfl, _, _, rfl, rfl, (by show (0 : Int) < 2147483489; decide), _, _, rfl, rfl, _, rfl, _, _, rfl, rfl, .inl ⟨by decide, by decide⟩, _, _, rfl, rfl, _, _, rfl, rfl, .inl ⟨by omega, by omega⟩, _, _, rfl, rfl, (by show (0 : Int) < 2147483489; decide), ?_⟩
      refine ⟨_, rfl, _, rfl, _, _, rfl, rfl, .inl ⟨by omega, by omega⟩, _, _, rfl, rfl, (by show (0 : Int) < 2147483477; decide), _, rfl, _, _, rfl, rfl, _, _, rfl, rfl, ?_⟩
      refine ⟨_, rfl, _, _, rfl, rfl, ⟨by decide, by decide, by decide⟩, _, _, rfl, rfl, _, rfl, ?_⟩
      refine ite2 (fun c2 => ?_) (fun c2 => ?_)
      · refine ⟨_, rfl, _, rfl, _, rfl, _, rfl, _, _, rfl, rfl, (by show (0 : Int) < 8; decide), pl, _, _, _, rfl, rfl, hp, hq, (by show 3 ≤ sizeLine; decide), fun r nr => ?_⟩
        refine k r _ (by rw [upd_ne (Ne.symm (ne_of_none upd_same nr))] at nr; exact nr) ⟨ns[m], _, q, rfl, ?_, ?_, ?_, hq1, hq2⟩ _ (fun b o e => ?_) upd_same
        · have q := of_decide_eq_true c2
          have : (0:Int) ≤ 10 ^ (18:Int).toNat := by decide
          omega
        · omega
        · omega
        · rw [upd_ne (ne_of_none (by rw [upd_ne (ne_of_none e npl)]; exact e) nr), upd_ne (ne_of_none e npl)]; exact e
      · refine ⟨_, rfl, _, rfl, _, rfl, _, _, rfl, rfl, (by show (0 : Int) < 8; decide), pl, _, _, _, rfl, rfl, hp, hq, (by show 3 ≤ sizeLine; decide), fun r nr => ?_⟩
        refine k r _ (by rw [upd_ne (Ne.symm (ne_of_none upd_same nr))] at nr; exact nr) ⟨0, _, q, rfl, by omega, ?_, ?_, hq1, hq2⟩ _ (fun b o e => ?_) upd_same
        · omega
        · omega
        · rw [upd_ne (ne_of_none (by rw [upd_ne (ne_of_none e npl)]; exact e) nr), upd_ne (ne_of_none e npl)]; exact e
    · refine ⟨by show 8 ≤ sizeLine; decide, fun pl npl => ?_⟩
      have hp := SqL.of (K := K) (upd_same (H := H) (a := pl) (o := .lst [V.int 2147483647, V.int 2147483629, V.int 2147483587, V.int 2147483579, V.int 2147483563, V.int 2147483549, V.int 2147483543, V.int 2147483497]))
      have z1 := h1 (0:Int)
      have z2 := h2 (((0:Int) % 2147483489 + 1) * (48271 + 2 * (m : Int)) % 2147483489)
      have z3 := h3 (0:Int)
      refine ⟨_, rfl, _, _, rfl, rfl, (by show (0 : Int) < 2147483489; decide), _, _, rfl, rfl, _, rfl, _, _, rfl, rfl, .inl ⟨by decide, by decide⟩, _, _, rfl, rfl, _, _, rfl, rfl, .inl ⟨by omega, by omega⟩, _, _, rfl, rfl, (by show (0 : Int) < 2147483489; decide), ?_⟩
      refine ⟨_, rfl, _, rfl, _, _, rfl, rfl, .inl ⟨by omega, by omega⟩, _, _, rfl, rfl, (by show (0 : Int) < 2147483477; decide), _, rfl, _, _, rfl, rfl, _, _, rfl, rfl, ?_⟩
      refine ⟨_, rfl, _, _, rfl, rfl, ⟨by decide, by decide, by decide⟩, _, _, rfl, rfl, _, rfl, ?_⟩
      refine ite2 (fun c2 => ?_) (fun c2 => ?_)
      · refine ⟨_, rfl, _, rfl, _, rfl, _, rfl, _, _, rfl, rfl, (by show (0 : Int) < 8; decide), pl, _, _, _, rfl, rfl, hp, hq, (by show 3 ≤ sizeLine; decide), fun r nr => ?_⟩
        refine k r _ (by rw [upd_ne (Ne.symm (ne_of_none upd_same nr))] at nr; exact nr) ⟨(0:Int), _, q, rfl, ?_, ?_, ?_, hq1, hq2⟩ _ (fun b o e => ?_) upd_same
        · have q := of_decide_eq_true c2
          have : (0:Int) ≤ 10 ^ (18:Int).toNat := by decide
          omega
        · omega
        · omega
        · rw [upd_ne (ne_of_none (by rw [upd_ne (ne_of_none e npl)]; exact e) nr), upd_ne (ne_of_none e npl)]; exact e
      · refine ⟨_, rfl, _, rfl, _, rfl, _, _, rfl, rfl, (by show (0 : Int) < 8; decide), pl, _, _, _, rfl, rfl, hp, hq, (by show 3 ≤ sizeLine; decide), fun r nr => ?_⟩
        refine k r _ (by rw [upd_ne (Ne.symm (ne_of_none upd_same nr))] at nr; exact nr) ⟨0, _, q, rfl, by omega, ?_, ?_, hq1, hq2⟩ _ (fun b o e => ?_) upd_same
        · omega
        · omega
        · rw [upd_ne (ne_of_none (by rw [upd_ne (ne_of_none e npl)]; exact e) nr), upd_ne (ne_of_none e npl)]; exact e
end
end Mx
set_option Elab.async false
set_option maxRecDepth 100000
set_option linter.all false
/-! law_k01: _law_any_value -/
namespace Mx
open PySem L2
theorem PE.ofAv {X : Cx} {e : Expr} {t t' : TE} (h : PE X e t) (i : ∀ σ H Q, t' σ H Q → t σ H Q) : PE X e t' := ⟨fun pins s σ H Q I q => h.run pins s σ H Q I (i σ H Q q)⟩
theorem PT.of01 {X : Cx} {e : Expr} {t t' : TT} (h : PT X e t) (i : ∀ σ H Q, t' σ H Q → t σ H Q) : PT X e t' := ⟨fun pins s σ H Q I q => h.run pins s σ H Q I (i σ H Q q)⟩
/-- what stands at H' where nothing stood at H, S left out -/
def nw (H : Hp) (S : List Addr) (H' : Hp) : Hp := fun b => if (H b).isNone = true ∧ b ∉ S then H' b else none
theorem nw_some {H : Hp} {S : List Addr} {H' : Hp} {b : Addr} {o : HO} : nw H S H' b = some o ↔ H b = none ∧ b ∉ S ∧ H' b = some o := by
  unfold nw
  constructor
  · intro h
    split at h
    · rename_i c
      exact ⟨Option.isNone_iff_eq_none.mp c.1, c.2, h⟩
    · cases h
  · rintro ⟨h1, h2, h3⟩
    rw [if_pos ⟨by rw [h1]; rfl, h2⟩]
    exact h3
theorem nw_to {H H1 H2 H3 : Hp} {S1 S : List Addr} (h : ∀ b o, H1 b = none → b ∉ S1 → H2 b = some o → H b = none ∧ b ∉ S ∧ H3 b = some o) : Same (nw H1 S1 H2) (nw H S H3) := fun b o e => by
  obtain ⟨a1, a2, a3⟩ := nw_some.mp e
  exact nw_some.mpr (h b o a1 a2 a3)
/-- kind < 6 or depth == 0 -/
def tLeaf : TT := fun σ H Q => ∃ (kd : Int) (j : Nat), σ[2]? = some (some (.int kd)) ∧ σ[1]? = some (some (.int (j : Nat))) ∧ Q (decide (kd < 6) || decide (j = 0)) H
theorem leaf_ok (σ : L2.St) (H : Hp) (Q : Bool → Hp → Prop) (h : tLeaf σ H Q) : tOr (tTest (tOp (rI0 fun i j => V.bl (decide (i < j))) (tVar 2) (tC (.int 6)))) (tTest (tOp rEq (tVar 1) (tC (.int 0)))) σ H Q := by
  obtain ⟨kd, j, h2, h1, q⟩ := h
  refine ⟨_, h2, _, _, rfl, rfl, _, rfl, ite2 (fun c => ?_) (fun c => ?_)⟩
  · rw [c, Bool.true_or] at q
    exact q
  · have c' : decide (kd < 6) = false := by simpa using c
    rw [c', Bool.false_or] at q
    refine ⟨_, h1, rfl, _, rfl, ?_⟩
    rw [show decide (V.int ((j : Nat) : Int) = V.int 0) = decide (j = 0) from decide_eq_decide.mpr ⟨fun z => by have := V.int.inj z; omega, fun z => by rw [z]; rfl⟩]
    exact q
def lits : List V := [.int 0, .int (-1), .int 1, .bl true, .bl false, .non, .str "", .str "a", .str "ab", .str "A", .str "a b", .str "abcdefghi", .int 2, .int 3, .int (-7), .str "a", .int (10 ^ 11), .int 8]
theorem tame_str {s : Str} (h : (decide (s.cps.size ≤ 1000) && s.cps.toList.all fun c => decide (c < 1114112)) = true) : Tame (.str s) := by
  rw [Bool.and_eq_true, List.all_eq_true] at h
  exact .str s (of_decide_eq_true h.1) fun c hc => of_decide_eq_true (h.2 c hc)
theorem lits_dv {K : PySem.W.Frag} {H : Hp} : ∀ x ∈ lits, ∃ d, Dv K H x d ∧ Tame d := by
  intro x hx
  have st : ∀ s : Str, (decide (s.cps.size ≤ 1000) && s.cps.toList.all fun c => decide (c < 1114112)) = true → ∃ d, Dv K H (.str s) d ∧ Tame d := fun s h => ⟨_, .str s, tame_str h⟩
  unfold lits at hx
  simp only [List.mem_cons, List.not_mem_nil, or_false] at hx
  rcases hx with rfl | rfl | rfl | rfl | rfl | rfl | rfl | rfl | rfl | rfl | rfl | rfl | rfl | rfl | rfl | rfl | rfl | rfl
  all_goals first
    | exact ⟨_, .int _, .int _⟩
    | exact ⟨_, .bl _, .bl _⟩
    | exact ⟨_, .non, .non⟩
    | exact st _ (by decide +kernel)
/-- some = [..] -/
def tLits : TE := fun _ H Q => ∀ l H', Same H H' → H' l = some (.lst lits) → Q (.ref l) H'
/-- (some + [(), [], (0, 1)])[_law_pick(source, 21)] -/
def tLeafR (K : PySem.W.Frag) : TE := fun σ H Q => ∃ (sa l : Addr) (o : HO), σ[0]? = some (some (.ref sa)) ∧ σ[3]? = some (some (.ref l)) ∧ H l = some (.lst lits) ∧ H sa = some o ∧ SrcO o ∧
  ∀ (v : V) (d : PyData) (o' : HO) (H' : Hp), But sa H H' → H' sa = some o' → SrcO o' → Dv K (nw H [] H') v d → Tame d → Q v H'
theorem leafR_ok {K : PySem.W.Frag} (σ : L2.St) (H : Hp) (Q : V → Hp → Prop) (h : tLeafR K σ H Q) : tOp (rIxL K) (tOp rCat (tVar 3) (tLst (tCons (tTup tNil) (tCons (tLst tNil) (tCons (tTup (tCons (tC (.int 0)) (tCons (tC (.int 1)) tNil))) tNil))))) (tCall spPick [] E0 (tCons (tVar 0) (tCons (tC (.int 21)) tNil))) σ H Q := by
  obtain ⟨sa, l, o, g0, g3, hl, hsa, hO, k⟩ := h
  refine ⟨_, g3, Nat.zero_le _, fun e0 n0 => ?_⟩
  obtain ⟨A0, eA0⟩ : ∃ A, A = L2.upd H e0 (.tup []) := ⟨_, rfl⟩
  have S0 : Same H A0 := by rw [eA0]; exact Same.new (Same.refl _) n0
  have h0 : A0 e0 = some (.tup []) := by rw [eA0]; exact upd_same
  rw [← eA0]
  refine ⟨Nat.zero_le _, fun e1 n1 => ?_⟩
  obtain ⟨A1, eA1⟩ : ∃ A, A = L2.upd A0 e1 (.lst []) := ⟨_, rfl⟩
  have S1 : Same A0 A1 := by rw [eA1]; exact Same.new (Same.refl _) n1
  have h1 : A1 e1 = some (.lst []) := by rw [eA1]; exact upd_same
  rw [← eA1]
  refine ⟨by show 2 ≤ sizeLine; decide, fun e2 n2 => ?_⟩
  obtain ⟨A2, eA2⟩ : ∃ A, A = L2.upd A1 e2 (.tup [.int 0, .int 1]) := ⟨_, rfl⟩
  have S2 : Same A1 A2 := by rw [eA2]; exact Same.new (Same.refl _) n2
  have h2 : A2 e2 = some (.tup [.int 0, .int 1]) := by rw [eA2]; exact upd_same
  rw [← eA2]
  refine ⟨by show 3 ≤ sizeLine; decide, fun l2 n3 => ?_⟩
  obtain ⟨A3, eA3⟩ : ∃ A, A = L2.upd A2 l2 (.lst [.ref e0, .ref e1, .ref e2]) := ⟨_, rfl⟩
  have S3 : Same A2 A3 := by rw [eA3]; exact Same.new (Same.refl _) n3
  have h3 : A3 l2 = some (.lst [.ref e0, .ref e1, .ref e2]) := by rw [eA3]; exact upd_same
  rw [← eA3]
  have S03 := ((S0.trans S1).trans S2).trans S3
  refine ⟨l, l2, lits, _, rfl, rfl, S03 _ _ hl, h3, by show 21 ≤ sizeLine; decide, fun l3 n4 => ?_⟩
  obtain ⟨A4, eA4⟩ : ∃ A, A = L2.upd A3 l3 (.lst (lits ++ [.ref e0, .ref e1, .ref e2])) := ⟨_, rfl⟩
  have S4 : Same A3 A4 := by rw [eA4]; exact Same.new (Same.refl _) n4
  have h4 : A4 l3 = some (.lst (lits ++ [.ref e0, .ref e1, .ref e2])) := by rw [eA4]; exact upd_same
  rw [← eA4]
  have S04 := S03.trans S4
  have hsa4 := S04 _ _ hsa
  refine ⟨_, g0, sa, 21, o, rfl, hsa4, hO, by decide, by decide, fun d o' d0 d21 hO' => ?_⟩
  have nsl : l3 ≠ sa := (ne_of_none (S03 _ _ hsa) n4).symm
  have ne0 : e0 ≠ sa := (ne_of_none hsa n0).symm
  have ne1 : e1 ≠ sa := (ne_of_none (S0 _ _ hsa) n1).symm
  have ne2 : e2 ≠ sa := (ne_of_none ((S0.trans S1) _ _ hsa) n2).symm
  obtain ⟨n, rfl⟩ := Int.eq_ofNat_of_zero_le d0
  have hlen : (lits ++ [V.ref e0, .ref e1, .ref e2]).length = 21 := rfl
  have hn : n < (lits ++ [V.ref e0, .ref e1, .ref e2]).length := by rw [hlen]; omega
  have hat := List.getElem?_eq_getElem hn
  have hmem := List.mem_of_getElem? hat
  refine ⟨l3, _, _, _, rfl, rfl, SqL.of (by rw [upd_ne nsl]; exact h4), atI_nat hat, ?_⟩
  generalize (lits ++ [V.ref e0, .ref e1, .ref e2])[n] = x at hmem
  have BB : But sa H (L2.upd A4 sa o') := (But.of S04).trans But.refl.upd
  have none1 : H e1 = none := Same.free S0 n1
  have none2 : H e2 = none := Same.free (S0.trans S1) n2
  have at0 : nw H [] (L2.upd A4 sa o') e0 = some (.tup []) := nw_some.mpr ⟨n0, by simp, by rw [upd_ne ne0]; exact (((S1.trans S2).trans S3).trans S4) _ _ h0⟩
  have at1 : nw H [] (L2.upd A4 sa o') e1 = some (.lst []) := nw_some.mpr ⟨none1, by simp, by rw [upd_ne ne1]; exact ((S2.trans S3).trans S4) _ _ h1⟩
  have at2 : nw H [] (L2.upd A4 sa o') e2 = some (.tup [.int 0, .int 1]) := nw_some.mpr ⟨none2, by simp, by rw [upd_ne ne2]; exact (S3.trans S4) _ _ h2⟩
  have fin : ∃ d, Dv K (nw H [] (L2.upd A4 sa o')) x d ∧ Tame d := by
    rcases List.mem_append.mp hmem with hx | hx
    · exact lits_dv x hx
    · have hx : x = .ref e0 ∨ x = .ref e1 ∨ x = .ref e2 := by simpa using hx
      rcases hx with rfl | rfl | rfl
      · exact ⟨_, .tup (SqT.of at0) .nil, .tup _ fun y h => by cases h⟩
      · exact ⟨_, .lst at1 .nil, .lst _ fun y h => by cases h⟩
      · refine ⟨_, .tup (SqT.of at2) (.cons (.int 0) (.cons (.int 1) .nil)), .tup _ fun y h => ?_⟩
        have h : y = .int 0 ∨ y = .int 1 := by simpa using h
        rcases h with rfl | rfl
        · exact .int _
        · exact .int _
  obtain ⟨dd, f1, f2⟩ := fin
  exact k x dd o' _ BB upd_same hO' f1 f2
theorem dvAll_snoc {K : PySem.W.Frag} {H : Hp} {v : V} {d : PyData} : ∀ {xs : List V} {ds : List PyData}, DvAll K H xs ds → Dv K H v d → DvAll K H (xs ++ [v]) (ds ++ [d])
  | _, _, .nil, h => .cons h .nil
  | _, _, .cons q t, h => .cons q (dvAll_snoc t h)
def spAnyV (K : PySem.W.Frag) (j : Nat) : Sp := fun vs H Q _ => ∃ (sa : Addr) (o : HO), vs = [.ref sa, .int (j : Nat)] ∧ j ≤ 4 ∧ H sa = some o ∧ SrcO o ∧
  ∀ (v : V) (d : PyData) (o' : HO) (H' : Hp), But sa H H' → H' sa = some o' → SrcO o' → Dv K (nw H [] H') v d → Tame d → Q v H'
section
variable {P : Program} {w : World} {K : PySem.W.Frag} {mg : Str → Option Value} {base : Heap}
def nAv : List Str := ["source", "depth", "kind", "some", "items", "k"]
theorem scAv : FnScope nAv ["source", "depth"] (defScope s_law_any_value) := ⟨rfl, rfl, rfl, by decide +kernel, rfl, by decide +kernel, by decide +kernel⟩
set_option maxHeartbeats 1000000 in
theorem anyV_step {j : Nat} {f fP : Addr} {fd dP : FuncData} (F : Def K mg "_law_any_value" s_law_any_value ["source", "depth"] f fd) (B : Blt mg) (DP : Def K mg "_law_pick" sPick ["source", "size"] fP dP) (GP : FnOk P w K mg base CX0 1 fP dP ["source", "size"] spPick)
    (GR : FnOk P w K mg base CX0 (j + 1) f fd ["source", "depth"] (pre (spAnyV K) j)) : FnOk P w K mg base CX0 (j + 2) f fd ["source", "depth"] (spAnyV K j) := by
  refine F.fn.ok scAv (fun vs H Q E h => ?_) (fun cdv A outer s H vs Q E hr h => ?_)
  · obtain ⟨sa, o, rfl, _⟩ := h
    rfl
  · obtain ⟨sa, o, rfl, hj4, hsa, hO, k⟩ := h
    refine ⟨_, pss_cons (ps_set (i := 2) scAv.nd rfl (Or.inl rfl) (pe_call GP (hr.mono (by omega)) rfl DP.mg DP.fn.kp DP.b .nil pass0 (pa_cons (pv 0) (pa_cons pe_int pa_nil))))
      (pss_cons (ps_if (PT.of01 (t' := tLeaf) (PW.pt (pw_or (pt_cmpR op_lt (pv 2) pe_int (nomark _)) (pw_or1 (pt_cmpR op_eq (pv 1) pe_int (nomark _))))) leaf_ok)
        (pss_cons (ps_set (i := 3) scAv.nd rfl (Or.inl rfl) (PE.ofAv (t' := tLits) (pe_lst (pa_cons pe_int (pa_cons (pe_un un_neg pe_int) (pa_cons pe_int (pa_cons pe_bl (pa_cons pe_bl (pa_cons pe_non (pa_cons pe_str (pa_cons pe_str (pa_cons pe_str (pa_cons pe_str (pa_cons pe_str (pa_cons pe_str (pa_cons pe_int (pa_cons pe_int (pa_cons (pe_un un_neg pe_int) (pa_cons pe_str (pa_cons (pe_op op_pow pe_int pe_int) (pa_cons pe_int pa_nil))))))))))))))))))) (fun σ H Q h => ⟨_, rfl, _, rfl, _, _, rfl, rfl, ⟨by decide, by decide, by decide⟩, by show 18 ≤ sizeLine; decide, fun l nl => h l _ (Same.new (Same.refl _) nl) upd_same⟩)))
        (pss_one (ps_ret (PE.ofAv (t' := tLeafR K) (pe_ix ix_list (pe_op op_cat (pv 3) (pe_lst (pa_cons (pe_tup pa_nil) (pa_cons (pe_lst pa_nil) (pa_cons (pe_tup (pa_cons pe_int (pa_cons pe_int pa_nil))) pa_nil))))) (pe_call GP (hr.mono (by omega)) rfl DP.mg DP.fn.kp DP.b .nil pass0 (pa_cons (pv 0) (pa_cons pe_int pa_nil))) (fun _ _ => rfl)) leafR_ok)))) pss_nil)
      (pss_cons (ps_setLc (i := 4) (own := [("k", 5)]) (g := gName 5) (tt := tYes) (te := tCall (pre (spAnyV K) j) [] E0 (tCons (tVar 0) (tCons (tOp (rI0 fun i j => V.int (i - j)) (tVar 1) (tC (.int 1))) tNil))) (by rfl) scAv.nd rfl rfl (sw_true rfl rfl rfl (by decide +kernel)) (pi_range1 (by rfl) B.range (pa_cons (pe_call GP (hr.mono (by omega)) rfl DP.mg DP.fn.kp DP.b .nil pass0 (pa_cons (pv 0) (pa_cons pe_int pa_nil))) pa_nil)) (blkOk_by (own := [("k", 5)]) (N := nAv) (sc := defScope s_law_any_value) (by decide +kernel))
          (fun _ _ _ _ _ => pg_name (i := 5) scAv.nd rfl (Or.inl rfl)) (fun _ _ _ _ _ => pts_nil) (fun _ _ _ _ _ => pe_call GR hr rfl F.mg F.fn.kp F.b .nil pass0 (pa_cons (pv 0) (pa_cons (pe_op op_sub (pv 1) pe_int) pa_nil))))
      (pss_one (ps_ret (pe_ix ix_list (pe_lst (pa_cons (pv 4) (pa_cons (pe_callTy call_tuple_of (by rfl) B.tuple (by decide +kernel) (pa_cons (pv 4) pa_nil)) (pa_cons (pe_callTy call_tuple_of (by rfl) B.tuple (by decide +kernel) (pa_cons (pv 4) pa_nil)) pa_nil)))) (pe_op op_sub (pv 2) pe_int) (fun _ _ => rfl)))))), ?_⟩
    refine ⟨_, rfl, sa, 9, o, rfl, hsa, hO, by decide, by decide, fun kd o1 hk0 hk9 hO1 => ?_⟩
    obtain ⟨H1, eH1⟩ : ∃ H1, H1 = L2.upd H sa o1 := ⟨_, rfl⟩
    have B1 : But sa H H1 := by rw [eH1]; exact But.refl.upd
    have hsa1 : H1 sa = some o1 := by rw [eH1]; exact upd_same
    rw [← eH1]
    refine ⟨kd, j, rfl, rfl, ?_⟩
    by_cases c : (decide (kd < 6) || decide (j = 0)) = true
    · rw [c]
      refine ite2 (fun _ => ?_) (fun z => absurd rfl z)
      refine fun l H2 S2 hl => ?_
      have hsa2 := S2 _ _ hsa1
      refine ⟨sa, l, o1, rfl, rfl, hl, hsa2, hO1, fun v d o' H' B2 hsa' hO' hv hd => ?_⟩
      have BT : But sa H H' := (B1.trans (But.of S2)).trans B2
      refine k v d o' H' BT hsa' hO' (hv.same (nw_to fun b o hb _ hG => ⟨?_, by simp, hG⟩)) hd
      cases e : H b with
      | none => rfl
      | some oo =>
        by_cases eb : b = sa
        · rw [eb, hsa2] at hb
          cases hb
        · rw [S2 _ _ (B1 _ _ e eb)] at hb
          cases hb
    · have c' : (decide (kd < 6) || decide (j = 0)) = false := by simpa using c
      rw [c']
      refine ite2 (fun z => by cases z) (fun _ => ?_)
      rw [Bool.or_eq_false_iff] at c'
      have hk6 : 6 ≤ kd := by have := of_decide_eq_false c'.1; omega
      cases j with
      | zero => exact absurd rfl (of_decide_eq_false c'.2)
      | succ j =>
        refine ⟨_, rfl, sa, 6, o1, rfl, hsa1, hO1, by decide, by decide, fun d2 o2 h20 h26 hO2 => ?_⟩
        obtain ⟨n2, rfl⟩ := Int.eq_ofNat_of_zero_le h20
        obtain ⟨H2, eH2⟩ : ∃ H2, H2 = L2.upd H1 sa o2 := ⟨_, rfl⟩
        have B12 : But sa H1 H2 := by rw [eH2]; exact But.refl.upd
        have hsa2 : H2 sa = some o2 := by rw [eH2]; exact upd_same
        have B02 := B1.trans B12
        rw [← eH2]
        refine ⟨_, rfl, by omega, by omega, fun D nD => ?_⟩
        have nsD : D ≠ sa := (ne_of_none hsa2 nD).symm
        have HD : H D = none := by
          cases e : H D with
          | none => rfl
          | some oo =>
            have := B02 _ _ e nsD
            rw [nD] at this
            cases this
        rw [Int.toNat_natCast]
        refine lc_range (lo := 0) (n := n2) (fun i G => ∃ (zs : List V) (ds : List PyData) (o : HO), But sa H2 G ∧ G sa = some o ∧ SrcO o ∧ G D = some (.lst zs) ∧ zs.length = i ∧ DvAll K (nw H [D] G) zs ds ∧ ∀ d ∈ ds, Tame d) ?_ ?_ ?_
        · exact ⟨[], [], o2, But.refl.own nD, by rw [upd_ne nsD.symm]; exact hsa2, hO2, upd_same, rfl, .nil, fun d h => by cases h⟩
        · rintro i G hi ⟨zs, ds, o, BG, hsaG, hOG, hD, hzl, hA, hTm⟩
          have ee : (((j + 1 : Nat) : Int) - 1) = ((j : Nat) : Int) := by omega
          refine ⟨rfl, ?_⟩
          refine ⟨_, rfl, _, rfl, _, _, rfl, rfl, sa, o, by show [V.ref sa, V.int (((j + 1 : Nat) : Int) - 1)] = _; rw [ee], by omega, hsaG, hOG, fun v d o' G2 B2 hsa2' hO2' hv hd => ?_⟩
          have hD2 := B2 _ _ hD nsD
          have keep : Same (nw H [D] G) (nw H [D] (L2.upd G2 D (.lst (zs ++ [v])))) := nw_to fun b o hb hS hG => ⟨hb, hS, by
            have nb : b ≠ D := fun z => hS (by rw [z]; exact List.mem_cons_self)
            rw [upd_ne nb]
            exact B2 _ _ hG fun z => by rw [z, hsa] at hb; cases hb⟩
          have new : Same (nw G [] G2) (nw H [D] (L2.upd G2 D (.lst (zs ++ [v])))) := nw_to fun b o hb _ hG => by
            have nb : b ≠ D := fun z => by rw [z, hD] at hb; cases hb
            have nsb : b ≠ sa := fun z => by rw [z, hsaG] at hb; cases hb
            refine ⟨?_, fun h => nb (List.mem_singleton.mp h), by rw [upd_ne nb]; exact hG⟩
            cases e : H b with
            | none => rfl
            | some oo =>
              rw [BG _ _ (B02 _ _ e nsb) nsb] at hb
              cases hb
          refine ⟨zs, hD2, by rw [hzl]; exact small1000 (by omega), zs ++ [v], ds ++ [d], o', (BG.trans B2).own nD, by rw [upd_ne nsD.symm]; exact hsa2', hO2', upd_same, by rw [List.length_append, hzl]; rfl, dvAll_snoc (DvAll.same keep hA) (hv.same new), fun x hx => ?_⟩
          rcases List.mem_append.mp hx with hx | hx
          · exact hTm x hx
          · rw [List.mem_singleton.mp hx]
            exact hd
        rintro G ⟨zs, ds, o, BG, hsaG, hOG, hD, hzl, hA, hTm⟩
        refine ⟨_, rfl, _, rfl, D, _, rfl, .inl ⟨SqL.of hD, fun t1 nt1 => ?_⟩⟩
        obtain ⟨A1, eA1⟩ : ∃ A, A = L2.upd G t1 (.tup zs) := ⟨_, rfl⟩
        have S1 : Same G A1 := by rw [eA1]; exact Same.new (Same.refl _) nt1
        have ht1 : A1 t1 = some (.tup zs) := by rw [eA1]; exact upd_same
        rw [← eA1]
        refine ⟨_, rfl, D, _, rfl, .inl ⟨SqL.of (S1 _ _ hD), fun t2 nt2 => ?_⟩⟩
        obtain ⟨A2, eA2⟩ : ∃ A, A = L2.upd A1 t2 (.tup zs) := ⟨_, rfl⟩
        have S2 : Same A1 A2 := by rw [eA2]; exact Same.new (Same.refl _) nt2
        have ht2 : A2 t2 = some (.tup zs) := by rw [eA2]; exact upd_same
        rw [← eA2]
        refine ⟨by show 3 ≤ sizeLine; decide, fun l3 nl3 => ?_⟩
        obtain ⟨A3, eA3⟩ : ∃ A, A = L2.upd A2 l3 (.lst [.ref D, .ref t1, .ref t2]) := ⟨_, rfl⟩
        have S3 : Same A2 A3 := by rw [eA3]; exact Same.new (Same.refl _) nl3
        have hl3 : A3 l3 = some (.lst [.ref D, .ref t1, .ref t2]) := by rw [eA3]; exact upd_same
        rw [← eA3]
        have S03 := (S1.trans S2).trans S3
        obtain ⟨m, em, hm⟩ : ∃ m : Nat, kd - 6 = (m : Int) ∧ m < 3 := ⟨(kd - 6).toNat, by omega, by omega⟩
        have hat : ∃ x, [V.ref D, .ref t1, .ref t2][m]? = some x ∧ (x = .ref D ∨ x = .ref t1 ∨ x = .ref t2) := by
          match m, hm with
          | 0, _ => exact ⟨_, rfl, .inl rfl⟩
          | 1, _ => exact ⟨_, rfl, .inr (.inl rfl)⟩
          | 2, _ => exact ⟨_, rfl, .inr (.inr rfl)⟩
        obtain ⟨x, hx, hxm⟩ := hat
        have hat2 : atI [V.ref D, .ref t1, .ref t2] (kd - 6) = some x := by rw [em]; exact atI_nat hx
        refine ⟨_, rfl, _, _, rfl, rfl, l3, _, _, x, rfl, rfl, SqL.of hl3, hat2, ?_⟩
        have free : ∀ b, G b = none → H b = none := fun b hb => by
          cases e : H b with
          | none => rfl
          | some oo =>
            by_cases eb : b = sa
            · rw [eb, hsaG] at hb
              cases hb
            · rw [BG _ _ (B02 _ _ e eb) eb] at hb
              cases hb
        have hA3 : DvAll K (nw H [] A3) zs ds := DvAll.same (nw_to fun b o hb _ hG => ⟨hb, by simp, S03 _ _ hG⟩) hA
        have BT : But sa H A3 := (B02.trans BG).trans (But.of S03)
        have a0 : nw H [] A3 D = some (.lst zs) := nw_some.mpr ⟨HD, by simp, S03 _ _ hD⟩
        have a1 : nw H [] A3 t1 = some (.tup zs) := nw_some.mpr ⟨free _ nt1, by simp, (S2.trans S3) _ _ ht1⟩
        have a2 : nw H [] A3 t2 = some (.tup zs) := nw_some.mpr ⟨free _ (Same.free S1 nt2), by simp, S3 _ _ ht2⟩
        have hsaA := S03 _ _ hsaG
        rcases hxm with rfl | rfl | rfl
        · exact k _ _ o A3 BT hsaA hOG (.lst a0 hA3) (.lst _ hTm)
        · exact k _ _ o A3 BT hsaA hOG (.tup (SqT.of a1) hA3) (.tup _ hTm)
        · exact k _ _ o A3 BT hsaA hOG (.tup (SqT.of a2) hA3) (.tup _ hTm)
theorem ok_anyV {f fP : Addr} {fd dP : FuncData} (F : Def K mg "_law_any_value" s_law_any_value ["source", "depth"] f fd) (B : Blt mg) (DP : Def K mg "_law_pick" sPick ["source", "size"] fP dP) (GP : FnOk P w K mg base CX0 1 fP dP ["source", "size"] spPick) : ∀ j : Nat, FnOk P w K mg base CX0 (j + 2) f fd ["source", "depth"] (spAnyV K j)
  | 0 => anyV_step F B DP GP (F.fn.ok (k := 0) scAv (fun _ _ _ _ h => h.elim) (fun _ _ _ _ _ _ _ _ _ h => h.elim))
  | j + 1 => anyV_step F B DP GP (ok_anyV F B DP GP j)
end
end Mx
set_option Elab.async false
set_option maxRecDepth 100000
set_option linter.all false
/-! law_k01: what _law_variant needs -/
namespace Mx
open PySem L2
/-- what is data of a tree, and a little more -/
inductive Low : Nat → PyData → Prop
  | int {n : Nat} (i : Int) : Low n (.int i)
  | str {n : Nat} (s : Str) (h0 : 1 ≤ s.cps.size) (h : s.cps.size ≤ 900) (g : ∀ c ∈ s.cps.toList, c < 1114112) : Low n (.str s)
  | tup {n : Nat} (l : List PyData) (h0 : l ≠ []) (hl : l.length ≤ 100) (h : ∀ x ∈ l, Low n x) : Low (n + 1) (.tuple l)
theorem Low.tame {n : Nat} {d : PyData} (h : Low n d) : Tame d := by
  induction h with
  | int i => exact .int i
  | str s _ h g => exact .str s (by omega) g
  | tup l _ _ _ ih => exact .tup l ih
theorem can_all : ∀ l : List PyData, (∀ x ∈ l, PyData.canLay0 x = true) → PyData.canLayAll0 l = true
  | [], _ => by simp [PyData.canLayAll0]
  | a :: r, h => by
    rw [PyData.canLayAll0, h a List.mem_cons_self, can_all r fun x hx => h x (List.mem_cons_of_mem _ hx)]
    rfl
theorem depth_all {n : Nat} : ∀ l : List PyData, (∀ x ∈ l, x.depth ≤ n) → PyData.depthAll l ≤ n
  | [], _ => by rw [PyData.depthAll]; exact Nat.zero_le _
  | a :: r, h => by
    rw [PyData.depthAll]
    exact Nat.max_le.mpr ⟨h a List.mem_cons_self, depth_all r fun x hx => h x (List.mem_cons_of_mem _ hx)⟩
theorem Low.can {n : Nat} {d : PyData} (h : Low n d) : PyData.canLay0 d = true := by
  induction h with
  | int i => simp [PyData.canLay0]
  | str s _ h g =>
    rw [PyData.canLay0]
    unfold PyData.strOk
    rw [Array.all_eq_true_iff_forall_mem]
    intro c hc
    exact decide_eq_true (g c (by simpa using hc))
  | tup l _ _ _ ih =>
    rw [PyData.canLay0]
    exact can_all l ih
theorem Low.depth {n : Nat} {d : PyData} (h : Low n d) : d.depth ≤ n := by
  induction h with
  | int i => rw [PyData.depth]; exact Nat.zero_le _
  | str s _ h g => rw [PyData.depth]; exact Nat.zero_le _
  | @tup n l _ _ _ ih =>
    rw [PyData.depth]
    exact Nat.succ_le_succ (depth_all l ih)
theorem Low.shapedL {n : Nat} (hn : n ≤ 20) {ds : List PyData} (h : ∀ d ∈ ds, Low n d) : SeqAt.shaped (.list ds) = true := by
  have hc : PyData.canLayAll0 ds = true := can_all ds fun x hx => (h x hx).can
  have hd : PyData.depthAll ds ≤ n := depth_all ds fun x hx => (h x hx).depth
  unfold SeqAt.shaped
  rw [PyData.canLay0, hc, PyData.depth, Bool.true_and]
  exact decide_eq_true (by omega)
theorem eqv_list_nil {ds : List PyData} (h : ds ≠ []) : PyData.eqv (.list ds) (.list []) = false := by
  cases ds with
  | nil => exact absurd rfl h
  | cons a r => rw [PyData.eqv, PyData.eqvAll] <;> simp
/-- some data's value -/
def Okv (K : PySem.W.Frag) (H : Hp) (v : V) : Prop := ∃ d, Dv K H v d ∧ Tame d
theorem Okv.same {K : PySem.W.Frag} {H H' : Hp} {v : V} (s : Same H H') (h : Okv K H v) : Okv K H' v := by
  obtain ⟨d, h1, h2⟩ := h
  exact ⟨d, h1.same s, h2⟩
theorem okv_all {K : PySem.W.Frag} {H : Hp} : ∀ {zs : List V}, (∀ z ∈ zs, Okv K H z) → ∃ ds, DvAll K H zs ds ∧ ∀ d ∈ ds, Tame d
  | [], _ => ⟨[], .nil, fun d h => by cases h⟩
  | z :: r, h => by
    obtain ⟨d, h1, h2⟩ := h z List.mem_cons_self
    obtain ⟨ds, h3, h4⟩ := okv_all fun x hx => h x (List.mem_cons_of_mem _ hx)
    exact ⟨d :: ds, .cons h1 h3, fun x hx => by
      rcases List.mem_cons.mp hx with rfl | hx
      · exact h2
      · exact h4 x hx⟩
theorem dvAll_mem {K : PySem.W.Frag} {H : Hp} {zs : List V} {ds : List PyData} (h : DvAll K H zs ds) : ∀ z ∈ zs, ∃ d ∈ ds, Dv K H z d := fun z hz => by
  obtain ⟨i, hi⟩ := List.getElem?_of_mem hz
  obtain ⟨d, h1, h2⟩ := dvAll_get h hi
  exact ⟨d, List.mem_of_getElem? h1, h2⟩
/-- the old heap F, and what is new since H -/
def jn (F H : Hp) (S : List Addr) (G : Hp) : Hp := fun b => match F b with
  | some o => some o
  | none => nw H S G b
theorem jn_base {F H : Hp} {S : List Addr} {G : Hp} : Same F (jn F H S G) := fun b o e => by
  unfold jn
  rw [e]
theorem jn_new {F H : Hp} {S : List Addr} {G : Hp} {b : Addr} {o : HO} (hF : Same F H) (e : nw H S G b = some o) : jn F H S G b = some o := by
  have h := (nw_some.mp e).1
  unfold jn
  rw [hF.free h]
  exact e
theorem jn_mono {F H H2 : Hp} {S S2 : List Addr} {G G2 : Hp} (h : Same (nw H S G) (nw H2 S2 G2)) : Same (jn F H S G) (jn F H2 S2 G2) := fun b o e => by
  unfold jn at e ⊢
  cases x : F b with
  | some u => rw [x] at e; exact e
  | none => rw [x] at e; exact h b o e
theorem newJ {H G G' G'' : Hp} {D : Addr} {u : HO} (f : ∀ b, G b = none → H b = none) (hD : G D = some u) (k : ∀ b o, G b = none → G' b = some o → G'' b = some o) : Same (nw G [] G') (nw H [D] G'') := nw_to fun b o hb _ hG => ⟨f b hb, (fun z => by rw [List.mem_singleton.mp z, hD] at hb; cases hb), k b o hb hG⟩
/-- a value that a tree's data has in it -/
inductive Elt (K : PySem.W.Frag) (H : Hp) : V → Prop
  | int (i : Int) : Elt K H (.int i)
  | str (s : Str) : Elt K H (.str s)
  | tup {a : Addr} {xs : List V} (h : SqT K H a xs) : Elt K H (.ref a)
theorem elt_of {K : PySem.W.Frag} {F H : Hp} {n : Nat} {v : V} {d : PyData} (h : Dv K F v d) (l : Low n d) (s : Same F H) : Elt K H v := by
  cases l with
  | int i => cases h; exact .int i
  | str t _ _ _ => cases h; exact .str t
  | tup l _ _ _ => cases h with | tup h1 h2 => exact .tup (sqT_same s _ _ h1)
def isI : V → String → Bool
  | .int _, T => T == "int"
  | .str _, T => T == "str"
  | .ref _, T => T == "tuple"
  | _, _ => false
/-- isinstance(items[at], T) -/
def tIsA (K : PySem.W.Frag) (T : String) : TE := fun σ H Q => ∃ (D : Addr) (m : Nat) (zs : List V) (x : V), σ[3]? = some (some (.ref D)) ∧ σ[4]? = some (some (.int (m : Nat))) ∧ H D = some (.lst zs) ∧ zs[m]? = some x ∧ Elt K H x ∧ Q (.bl (isI x T)) H
abbrev tAt (K : PySem.W.Frag) : TE := tOp (rIxL K) (tVar 3) (tVar 4)
theorem isA_ok {K : PySem.W.Frag} {T : String} (hT : T = "tuple" ∨ T = "int" ∨ T = "bool" ∨ T = "str") (σ : L2.St) (H : Hp) (Q : V → Hp → Prop) (h : tIsA K T σ H Q) : tCB (rIsi K) (tCons (tAt K) (tCons (tC (.ty T)) tNil)) σ H Q := by
  obtain ⟨D, m, zs, x, h3, h4, hD, hx, he, q⟩ := h
  rcases hT with rfl | rfl | rfl | rfl
  · cases he with
    | int i => exact ⟨_, h3, _, h4, D, zs, _, _, rfl, rfl, SqL.of hD, atI_nat hx, _, _, _, _, false, rfl, .ty _, .base (.int i), kit_ty (by decide +kernel), q⟩
    | str s => exact ⟨_, h3, _, h4, D, zs, _, _, rfl, rfl, SqL.of hD, atI_nat hx, _, _, _, _, false, rfl, .ty _, .base (.str s), kit_ty (by decide +kernel), q⟩
    | tup hs => exact ⟨_, h3, _, h4, D, zs, _, _, rfl, rfl, SqL.of hD, atI_nat hx, _, _, _, _, true, rfl, .ty _, tyx_tup hs, kit_ty (by decide +kernel), q⟩
  · cases he with
    | int i => exact ⟨_, h3, _, h4, D, zs, _, _, rfl, rfl, SqL.of hD, atI_nat hx, _, _, _, _, true, rfl, .ty _, .base (.int i), kit_ty (by decide +kernel), q⟩
    | str s => exact ⟨_, h3, _, h4, D, zs, _, _, rfl, rfl, SqL.of hD, atI_nat hx, _, _, _, _, false, rfl, .ty _, .base (.str s), kit_ty (by decide +kernel), q⟩
    | tup hs => exact ⟨_, h3, _, h4, D, zs, _, _, rfl, rfl, SqL.of hD, atI_nat hx, _, _, _, _, false, rfl, .ty _, tyx_tup hs, kit_ty (by decide +kernel), q⟩
  · cases he with
    | int i => exact ⟨_, h3, _, h4, D, zs, _, _, rfl, rfl, SqL.of hD, atI_nat hx, _, _, _, _, false, rfl, .ty _, .base (.int i), kit_ty (by decide +kernel), q⟩
    | str s => exact ⟨_, h3, _, h4, D, zs, _, _, rfl, rfl, SqL.of hD, atI_nat hx, _, _, _, _, false, rfl, .ty _, .base (.str s), kit_ty (by decide +kernel), q⟩
    | tup hs => exact ⟨_, h3, _, h4, D, zs, _, _, rfl, rfl, SqL.of hD, atI_nat hx, _, _, _, _, false, rfl, .ty _, tyx_tup hs, kit_ty (by decide +kernel), q⟩
  · cases he with
    | int i => exact ⟨_, h3, _, h4, D, zs, _, _, rfl, rfl, SqL.of hD, atI_nat hx, _, _, _, _, false, rfl, .ty _, .base (.int i), kit_ty (by decide +kernel), q⟩
    | str s => exact ⟨_, h3, _, h4, D, zs, _, _, rfl, rfl, SqL.of hD, atI_nat hx, _, _, _, _, true, rfl, .ty _, .base (.str s), kit_ty (by decide +kernel), q⟩
    | tup hs => exact ⟨_, h3, _, h4, D, zs, _, _, rfl, rfl, SqL.of hD, atI_nat hx, _, _, _, _, false, rfl, .ty _, tyx_tup hs, kit_ty (by decide +kernel), q⟩
/-- kind == n -/
def tKd (n : Int) : TT := fun σ H Q => ∃ kd : Int, σ[5]? = some (some (.int kd)) ∧ Q (decide (kd = n)) H
theorem kd_ok (n : Int) (σ : L2.St) (H : Hp) (Q : Bool → Hp → Prop) (h : tKd n σ H Q) : tTest (tOp rEq (tVar 5) (tC (.int n))) σ H Q := by
  obtain ⟨kd, h5, q⟩ := h
  refine ⟨_, h5, rfl, _, rfl, ?_⟩
  rw [show decide (V.int kd = V.int n) = decide (kd = n) from decide_eq_decide.mpr ⟨fun z => V.int.inj z, fun z => by rw [z]⟩]
  exact q
/-- tuple(items) -/
def tFin : TE := fun σ H Q => ∃ (D : Addr) (zs : List V), σ[3]? = some (some (.ref D)) ∧ H D = some (.lst zs) ∧ ∀ t, H t = none → Q (.ref t) (L2.upd H t (.tup zs))
def near1 : List V := [.int 0, .int 1, .int (-1), .int 2, .int 9, .int 10, .str "b", .non, .bl true, .bl false]
def tNear1 : TE := fun _ H Q => ∀ l, H l = none → Q (.ref l) (L2.upd H l (.lst near1))
theorem near1_ok {K : PySem.W.Frag} {H : Hp} : ∀ z ∈ near1, Okv K H z := by
  intro x hx
  unfold near1 at hx
  simp only [List.mem_cons, List.not_mem_nil, or_false] at hx
  rcases hx with rfl | rfl | rfl | rfl | rfl | rfl | rfl | rfl | rfl | rfl
  all_goals first
    | exact ⟨_, .int _, .int _⟩
    | exact ⟨_, .bl _, .bl _⟩
    | exact ⟨_, .non, .non⟩
    | exact ⟨_, .str _, tame_str (by decide +kernel)⟩
theorem okv_str {K : PySem.W.Frag} {H : Hp} {s : Str} (h : (decide (s.cps.size ≤ 1000) && s.cps.toList.all fun c => decide (c < 1114112)) = true) : Okv K H (.str s) := ⟨_, .str s, tame_str h⟩
theorem okv_int {K : PySem.W.Frag} {H : Hp} (i : Int) : Okv K H (.int i) := ⟨_, .int i, .int i⟩
theorem okv_tup {K : PySem.W.Frag} {H : Hp} {a : Addr} {zs : List V} (h : H a = some (.tup zs)) (k : ∀ z ∈ zs, Okv K H z) : Okv K H (.ref a) := by
  obtain ⟨ds, h1, h2⟩ := okv_all k
  exact ⟨_, .tup (SqT.of h) h1, .tup _ h2⟩
theorem okv_lst {K : PySem.W.Frag} {H : Hp} {a : Addr} {zs : List V} (h : H a = some (.lst zs)) (k : ∀ z ∈ zs, Okv K H z) : Okv K H (.ref a) := by
  obtain ⟨ds, h1, h2⟩ := okv_all k
  exact ⟨_, .lst h h1, .lst _ h2⟩
/-- near + [..] -/
def tNear2 (K : PySem.W.Frag) : TE := fun σ H Q => ∃ l, σ[6]? = some (some (.ref l)) ∧ H l = some (.lst near1) ∧ ∀ (l3 : Addr) (H' : Hp) (ys : List V), Same H H' → H' l3 = some (.lst (near1 ++ ys)) → ys.length = 9 → (∀ z ∈ ys, Okv K (nw H [] H') z) → Q (.ref l3) H'
theorem near2_ok {K : PySem.W.Frag} (σ : L2.St) (H : Hp) (Q : V → Hp → Prop) (h : tNear2 K σ H Q) : tOp rCat (tVar 6) (tLst (tCons (tC (.str "a")) (tCons (tTup tNil) (tCons (tTup (tCons (tC (.int 1)) (tCons (tC (.str "a")) tNil))) (tCons (tC (.str "ann")) (tCons (tTup (tCons (tTup (tCons (tC (.int 1)) (tCons (tC (.str "zz")) tNil))) tNil)) (tCons (tC (.int 61)) (tCons (tC (.str "")) (tCons (tC (.str "Ann")) (tCons (tC (.str "abcdefg")) tNil)))))))))) σ H Q := by
  obtain ⟨l, g6, hl, k⟩ := h
  refine ⟨_, g6, Nat.zero_le _, fun e0 n0 => ?_⟩
  obtain ⟨A0, eA0⟩ : ∃ A, A = L2.upd H e0 (.tup []) := ⟨_, rfl⟩
  have S0 : Same H A0 := by rw [eA0]; exact Same.new (Same.refl _) n0
  have h0 : A0 e0 = some (.tup []) := by rw [eA0]; exact upd_same
  rw [← eA0]
  refine ⟨by show 2 ≤ sizeLine; decide, fun e1 n1 => ?_⟩
  obtain ⟨A1, eA1⟩ : ∃ A, A = L2.upd A0 e1 (.tup [.int 1, .str "a"]) := ⟨_, rfl⟩
  have S1 : Same A0 A1 := by rw [eA1]; exact Same.new (Same.refl _) n1
  have h1 : A1 e1 = some (.tup [.int 1, .str "a"]) := by rw [eA1]; exact upd_same
  rw [← eA1]
  refine ⟨by show 2 ≤ sizeLine; decide, fun e2 n2 => ?_⟩
  obtain ⟨A2, eA2⟩ : ∃ A, A = L2.upd A1 e2 (.tup [.int 1, .str "zz"]) := ⟨_, rfl⟩
  have S2 : Same A1 A2 := by rw [eA2]; exact Same.new (Same.refl _) n2
  have h2 : A2 e2 = some (.tup [.int 1, .str "zz"]) := by rw [eA2]; exact upd_same
  rw [← eA2]
  refine ⟨by show 1 ≤ sizeLine; decide, fun e3 n3 => ?_⟩
  obtain ⟨A3, eA3⟩ : ∃ A, A = L2.upd A2 e3 (.tup [.ref e2]) := ⟨_, rfl⟩
  have S3 : Same A2 A3 := by rw [eA3]; exact Same.new (Same.refl _) n3
  have h3 : A3 e3 = some (.tup [.ref e2]) := by rw [eA3]; exact upd_same
  rw [← eA3]
  refine ⟨by show 9 ≤ sizeLine; decide, fun l2 n4 => ?_⟩
  obtain ⟨ys, ey⟩ : ∃ ys : List V, ys = [.str "a", .ref e0, .ref e1, .str "ann", .ref e3, .int 61, .str "", .str "Ann", .str "abcdefg"] := ⟨_, rfl⟩
  have yl : ys.length = 9 := by rw [ey]; rfl
  obtain ⟨A4, eA4⟩ : ∃ A, A = L2.upd A3 l2 (.lst ys) := ⟨_, rfl⟩
  have S4 : Same A3 A4 := by rw [eA4]; exact Same.new (Same.refl _) n4
  have h4 : A4 l2 = some (.lst ys) := by rw [eA4]; exact upd_same
  rw [← ey, ← eA4]
  have S04 := (((S0.trans S1).trans S2).trans S3).trans S4
  refine ⟨l, l2, near1, _, rfl, rfl, S04 _ _ hl, h4, by rw [yl]; show 19 ≤ sizeLine; decide, fun l3 n5 => ?_⟩
  obtain ⟨A5, eA5⟩ : ∃ A, A = L2.upd A4 l3 (.lst (near1 ++ ys)) := ⟨_, rfl⟩
  have S5 : Same A4 A5 := by rw [eA5]; exact Same.new (Same.refl _) n5
  have h5 : A5 l3 = some (.lst (near1 ++ ys)) := by rw [eA5]; exact upd_same
  rw [← eA5]
  refine k l3 A5 ys (S04.trans S5) h5 yl ?_
  have f1 : H e1 = none := Same.free S0 n1
  have f2 : H e2 = none := Same.free (S0.trans S1) n2
  have f3 : H e3 = none := Same.free ((S0.trans S1).trans S2) n3
  have at0 : nw H [] A5 e0 = some (.tup []) := nw_some.mpr ⟨n0, by simp, ((((S1.trans S2).trans S3).trans S4).trans S5) _ _ h0⟩
  have at1 : nw H [] A5 e1 = some (.tup [.int 1, .str "a"]) := nw_some.mpr ⟨f1, by simp, (((S2.trans S3).trans S4).trans S5) _ _ h1⟩
  have at2 : nw H [] A5 e2 = some (.tup [.int 1, .str "zz"]) := nw_some.mpr ⟨f2, by simp, ((S3.trans S4).trans S5) _ _ h2⟩
  have at3 : nw H [] A5 e3 = some (.tup [.ref e2]) := nw_some.mpr ⟨f3, by simp, (S4.trans S5) _ _ h3⟩
  intro z hz
  rw [ey] at hz
  simp only [List.mem_cons, List.not_mem_nil, or_false] at hz
  rcases hz with rfl | rfl | rfl | rfl | rfl | rfl | rfl | rfl | rfl
  · exact okv_str (by decide +kernel)
  · exact okv_tup at0 fun z h => by cases h
  · refine okv_tup at1 fun z h => ?_
    have h : z = .int 1 ∨ z = .str "a" := by simpa using h
    rcases h with rfl | rfl
    · exact okv_int 1
    · exact okv_str (by decide +kernel)
  · exact okv_str (by decide +kernel)
  · refine okv_tup at3 fun z h => ?_
    rw [List.mem_singleton.mp h]
    refine okv_tup at2 fun z h => ?_
    have h : z = .int 1 ∨ z = .str "zz" := by simpa using h
    rcases h with rfl | rfl
    · exact okv_int 1
    · exact okv_str (by decide +kernel)
  · exact okv_int 61
  · exact okv_str (by decide +kernel)
  · exact okv_str (by decide +kernel)
  · exact okv_str (by decide +kernel)
/-- items[at] + [1, -1, 8, -12][..] -/
def tAddI (K : PySem.W.Frag) : TE := fun σ H Q => ∃ (sa D : Addr) (m : Nat) (zs : List V) (i : Int) (o : HO), σ[0]? = some (some (.ref sa)) ∧ σ[3]? = some (some (.ref D)) ∧ σ[4]? = some (some (.int (m : Nat))) ∧ H D = some (.lst zs) ∧ zs[m]? = some (.int i) ∧ H sa = some o ∧ SrcO o ∧
  ∀ (k : Int) (o' : HO) (H' : Hp), But sa H H' → H' sa = some o' → SrcO o' → Q (.int k) H'
abbrev tPk (n : Int) : TE := tCall spPick [] E0 (tCons (tVar 0) (tCons (tC (.int n)) tNil))
abbrev tNeg (n : Int) : TE := tUn (rU fun i => .int (-i)) (tC (.int n))
theorem addI_ok {K : PySem.W.Frag} (σ : L2.St) (H : Hp) (Q : V → Hp → Prop) (h : tAddI K σ H Q) : tOp (rI0 fun i j => .int (i + j)) (tAt K) (tOp (rIxL K) (tLst (tCons (tC (.int 1)) (tCons (tNeg 1) (tCons (tC (.int 8)) (tCons (tNeg 12) tNil))))) (tPk 4)) σ H Q := by
  obtain ⟨sa, D, m, zs, i, o, h0, h3, h4, hD, hx, hsa, hO, k⟩ := h
  refine ⟨_, h3, _, h4, D, zs, _, _, rfl, rfl, SqL.of hD, atI_nat hx, ?_⟩
  refine ⟨_, rfl, _, rfl, by show 4 ≤ sizeLine; decide, fun l nl => ?_⟩
  have nls : l ≠ sa := (ne_of_none hsa nl).symm
  refine ⟨_, h0, sa, 4, o, rfl, by rw [upd_ne nls.symm]; exact hsa, hO, by decide, by decide, fun d o' d0 d4 hO' => ?_⟩
  obtain ⟨n, rfl⟩ := Int.eq_ofNat_of_zero_le d0
  have : ∃ e : Int, [V.int 1, .int (-1), .int 8, .int (-12)][n]? = some (.int e) := by
    match n, d4 with
    | 0, _ => exact ⟨_, rfl⟩
    | 1, _ => exact ⟨_, rfl⟩
    | 2, _ => exact ⟨_, rfl⟩
    | 3, _ => exact ⟨_, rfl⟩
    | n + 4, h => omega
  obtain ⟨e, he⟩ := this
  refine ⟨l, _, _, _, rfl, rfl, SqL.of (by rw [upd_ne nls]; exact upd_same), atI_nat he, ?_⟩
  exact ⟨_, _, rfl, rfl, k _ o' _ ((But.of (Same.new (Same.refl _) nl)).trans But.refl.upd) upd_same hO'⟩
/-- items[at] + ['a', 'A', ' ', 'bbbbbbbb'][..] -/
def tAddS (K : PySem.W.Frag) : TE := fun σ H Q => ∃ (sa D : Addr) (m : Nat) (zs : List V) (s : Str) (o : HO), σ[0]? = some (some (.ref sa)) ∧ σ[3]? = some (some (.ref D)) ∧ σ[4]? = some (some (.int (m : Nat))) ∧ H D = some (.lst zs) ∧ zs[m]? = some (.str s) ∧ s.cps.size ≤ 900 ∧ (∀ c ∈ s.cps.toList, c < 1114112) ∧ H sa = some o ∧ SrcO o ∧
  ∀ (k : Str) (o' : HO) (H' : Hp), But sa H H' → H' sa = some o' → SrcO o' → Tame (.str k) → Q (.str k) H'
def rAdS : R2 := fun x y H Q => ∃ i j, x = .str i ∧ y = .str j ∧ i.length + j.length ≤ sizeLine ∧ Q (.str (i ++ j)) H
theorem addS_ok {K : PySem.W.Frag} (σ : L2.St) (H : Hp) (Q : V → Hp → Prop) (h : tAddS K σ H Q) : tOp rAdS (tAt K) (tOp (rIxL K) (tLst (tCons (tC (.str "a")) (tCons (tC (.str "A")) (tCons (tC (.str " ")) (tCons (tC (.str "bbbbbbbb")) tNil))))) (tPk 4)) σ H Q := by
  obtain ⟨sa, D, m, zs, s, o, h0, h3, h4, hD, hx, hs9, hsg, hsa, hO, k⟩ := h
  refine ⟨_, h3, _, h4, D, zs, _, _, rfl, rfl, SqL.of hD, atI_nat hx, ?_⟩
  refine ⟨by show 4 ≤ sizeLine; decide, fun l nl => ?_⟩
  have nls : l ≠ sa := (ne_of_none hsa nl).symm
  refine ⟨_, h0, sa, 4, o, rfl, by rw [upd_ne nls.symm]; exact hsa, hO, by decide, by decide, fun d o' d0 d4 hO' => ?_⟩
  obtain ⟨n, rfl⟩ := Int.eq_ofNat_of_zero_le d0
  have : ∃ e : Str, [V.str "a", .str "A", .str " ", .str "bbbbbbbb"][n]? = some (.str e) ∧ e.cps.size ≤ 8 ∧ ∀ c ∈ e.cps.toList, c < 1114112 := by
    match n, d4 with
    | 0, _ => exact ⟨_, rfl, by decide +kernel, by decide +kernel⟩
    | 1, _ => exact ⟨_, rfl, by decide +kernel, by decide +kernel⟩
    | 2, _ => exact ⟨_, rfl, by decide +kernel, by decide +kernel⟩
    | 3, _ => exact ⟨_, rfl, by decide +kernel, by decide +kernel⟩
    | n + 4, h => omega
  obtain ⟨e, he, he8, heg⟩ := this
  refine ⟨l, _, _, _, rfl, rfl, SqL.of (by rw [upd_ne nls]; exact upd_same), atI_nat he, ?_⟩
  have e1 : (s ++ e).cps = s.cps ++ e.cps := rfl
  refine ⟨_, _, rfl, rfl, Nat.le_of_lt (small1000 (by show s.cps.size + e.cps.size ≤ 1000; omega)), k _ o' _ ((But.of (Same.new (Same.refl _) nl)).trans But.refl.upd) upd_same hO' (.str _ ?_ ?_)⟩
  · rw [e1, Array.size_append]
    omega
  · intro c hc
    rw [e1, Array.toList_append] at hc
    rcases List.mem_append.mp hc with hc | hc
    · exact hsg c hc
    · exact heg c hc
end Mx
set_option Elab.async false
set_option maxRecDepth 100000
set_option linter.all false
/-! law_k01: _law_variant -/
namespace Mx
open PySem PyProof.Rows L2
def spVar (K : PySem.W.Frag) (j : Nat) : Sp := fun vs H Q _ => ∃ (sa : Addr) (v : V) (d : PyData) (n : Nat) (o : HO) (F : Hp), vs = [.ref sa, v, .int (j : Nat)] ∧ j ≤ 2 ∧ n ≤ 20 ∧ H sa = some o ∧ SrcO o ∧ Same F H ∧ F sa = none ∧ Dv K F v d ∧ Low n d ∧ (∀ i, d ≠ .int i) ∧
  ∀ (v' : V) (o' : HO) (H' : Hp), But sa H H' → H' sa = some o' → SrcO o' → Okv K (jn F H [] H') v' → Q v' H'
/-- isinstance(items[at], tuple) and depth > 0 and _law_pick(source, 4) > 0 -/
def tCond (K : PySem.W.Frag) (j : Nat) : TT := fun σ H Q => ∃ (sa D : Addr) (m : Nat) (zs : List V) (x : V) (o : HO), σ[0]? = some (some (.ref sa)) ∧ σ[2]? = some (some (.int (j : Nat))) ∧ σ[3]? = some (some (.ref D)) ∧ σ[4]? = some (some (.int (m : Nat))) ∧ H D = some (.lst zs) ∧ zs[m]? = some x ∧ Elt K H x ∧ H sa = some o ∧ SrcO o ∧
  ∀ (b : Bool) (o' : HO) (H' : Hp), (b = true → isI x "tuple" = true ∧ 0 < j) → But sa H H' → H' sa = some o' → SrcO o' → Q b H'
theorem cond_ok {K : PySem.W.Frag} {j : Nat} (σ : L2.St) (H : Hp) (Q : Bool → Hp → Prop) (h : tCond K j σ H Q) : tAnd (tB (tIsA K "tuple")) (tAnd (tTest (tOp (rI0 fun i j => V.bl (decide (j < i))) (tVar 2) (tC (.int 0)))) (tTest (tOp (rI0 fun i j => V.bl (decide (j < i))) (tPk 4) (tC (.int 0))))) σ H Q := by
  obtain ⟨sa, D, m, zs, x, o, h0, h2, h3, h4, hD, hx, he, hsa, hO, k⟩ := h
  refine ⟨D, m, zs, x, h3, h4, hD, hx, he, _, rfl, ?_⟩
  by_cases c : isI x "tuple" = true
  · rw [c]
    refine ite2 (fun _ => ?_) (fun z => absurd rfl z)
    refine ⟨_, h2, _, _, rfl, rfl, _, rfl, ?_⟩
    refine ite2 (fun c2 => ?_) (fun c2 => ?_)
    · have hj : 0 < j := by have := of_decide_eq_true c2; omega
      refine ⟨_, h0, sa, 4, o, rfl, hsa, hO, by decide, by decide, fun d o' d0 d4 hO' => ?_⟩
      exact ⟨_, _, rfl, rfl, _, rfl, k _ o' _ (fun _ => ⟨c, hj⟩) But.refl.upd upd_same hO'⟩
    · exact k false o H (fun z => by cases z) But.refl hsa hO
  · rw [eq_false_of_ne_true c]
    refine ite2 (fun z => by cases z) (fun _ => ?_)
    exact k false o H (fun z => by cases z) But.refl hsa hO
def tKd45 : TT := fun σ H Q => ∃ kd : Int, σ[5]? = some (some (.int kd)) ∧ Q (decide (kd = 4 ∨ kd = 5)) H
theorem kd45_ok (σ : L2.St) (H : Hp) (Q : Bool → Hp → Prop) (h : tKd45 σ H Q) : tOr (tKd 4) (tKd 5) σ H Q := by
  obtain ⟨kd, h5, q⟩ := h
  by_cases c : kd = 4
  · rw [decide_eq_true (.inl c)] at q
    exact ⟨kd, h5, ite2 (fun _ => q) (fun z => absurd (decide_eq_true c) z)⟩
  · refine ⟨kd, h5, ite2 (fun z => absurd (of_decide_eq_true z) c) (fun _ => ⟨kd, h5, ?_⟩)⟩
    rw [show decide (kd = 5) = decide (kd = 4 ∨ kd = 5) from decide_eq_decide.mpr ⟨.inr, fun z => z.resolve_left c⟩]
    exact q
theorem ixn {n m : Nat} (h : m < n) : ixN n (m : Int) = some m := by
  unfold ixN
  rw [if_pos (by omega), if_pos (by omega)]
  simp
section
variable {P : Program} {w : World} {K : PySem.W.Frag} {mg : Str → Option Value} {base : Heap}
def nVr : List Str := ["source", "value", "depth", "items", "at", "kind", "near"]
theorem scVr : FnScope nVr ["source", "value", "depth"] (defScope s_law_variant) := ⟨rfl, rfl, rfl, by decide +kernel, rfl, by decide +kernel, by decide +kernel⟩
set_option maxHeartbeats 2000000 in
theorem var_step {j : Nat} {f fP fA : Addr} {fd dP dA : FuncData} (F : Def K mg "_law_variant" s_law_variant ["source", "value", "depth"] f fd) (B : Blt mg) (DP : Def K mg "_law_pick" sPick ["source", "size"] fP dP) (GP : FnOk P w K mg base CX0 1 fP dP ["source", "size"] spPick)
    (DA : Def K mg "_law_any_value" s_law_any_value ["source", "depth"] fA dA) (GA : FnOk P w K mg base CX0 4 fA dA ["source", "depth"] (spAnyV K 2))
    (GR : FnOk P w K mg base CX0 (j + 4) f fd ["source", "value", "depth"] (pre (spVar K) j)) : FnOk P w K mg base CX0 (j + 5) f fd ["source", "value", "depth"] (spVar K j) := by
  refine F.fn.ok scVr (fun vs H Q E h => ?_) (fun cdv A outer s H vs Q E hr h => ?_)
  · obtain ⟨sa, v, d, n, o, F, rfl, _⟩ := h
    rfl
  · obtain ⟨sa, v, d, n, o, F0, rfl, hj2, hn, hsa, hO, hF, hFs, hD, hL, hni, k⟩ := h
    refine ⟨_, pss_cons (ps_set (i := 3) scVr.nd rfl (Or.inl rfl) (pe_callTy (call_listS rfl) (by rfl) B.list (by decide +kernel) (pa_cons (pv 1) pa_nil)))
      (pss_cons (ps_if (pt_cmpR (op_eqD hr.units) (pv 3) (pe_lst pa_nil) (nomark _)) pss_no pss_nil)
      (pss_cons (ps_set (i := 4) scVr.nd rfl (Or.inl rfl) (pe_call GP (hr.mono (by omega)) rfl DP.mg DP.fn.kp DP.b .nil pass0 (pa_cons (pv 0) (pa_cons (pe_callB call_len_seq (by rfl) B.len PySem.boot_len (pa_cons (pv 3) pa_nil)) pa_nil))))
      (pss_cons (ps_if (PT.of01 (t' := tCond K j) (PW.pt (pw_and (pt_val (PE.ofAv (t' := tIsA K "tuple") (pe_callB call_isi (by rfl) B.isinstance (by decide +kernel) (pa_cons (pe_ix ix_list (pv 3) (pv 4) (fun _ _ => rfl)) (pa_cons (pe_bltn (v := .ty "tuple") (by rfl) B.tuple (by decide +kernel) rfl) pa_nil))) (isA_ok (.inl rfl))))
          (pw_and (pt_cmpR op_gt (pv 2) pe_int (nomark _)) (pw_and1 (pt_cmpR op_gt (pe_call GP (hr.mono (by omega)) rfl DP.mg DP.fn.kp DP.b .nil pass0 (pa_cons (pv 0) (pa_cons pe_int pa_nil))) pe_int (nomark _)))))) (fun σ H Q h => cond_ok σ H Q h))
        (pss_cons (ps_asg (pe_call GR hr rfl F.mg F.fn.kp F.b .nil pass0 (pa_cons (pv 0) (pa_cons (pe_ix ix_list (pv 3) (pv 4) (fun _ _ => rfl)) (pa_cons (pe_op op_sub (pv 2) pe_int) pa_nil)))) (pg_sub (pv 3) (pv 4) set_list))
        (pss_one (ps_ret (PE.ofAv (t' := tFin) (pe_callTy call_tuple_of (by rfl) B.tuple (by decide +kernel) (pa_cons (pv 3) pa_nil)) (fun σ H Q h => by
          obtain ⟨D, zs, h3, hD, k⟩ := h
          exact ⟨_, h3, D, _, rfl, .inl ⟨SqL.of hD, k⟩⟩))))) pss_nil)
      (pss_cons (ps_set (i := 5) scVr.nd rfl (Or.inl rfl) (pe_call GP (hr.mono (by omega)) rfl DP.mg DP.fn.kp DP.b .nil pass0 (pa_cons (pv 0) (pa_cons pe_int pa_nil))))
      (pss_cons (ps_if (PT.of01 (t' := tKd 0) (pt_cmpR op_eq (pv 5) pe_int (nomark _)) (kd_ok 0)) (pss_one (ps_expr (pe_bm PySem.F.plainAttrs_list PySem.F.slot_list_pop PySem.F.type_list_pop mt_popAt (pv 3) (pa_cons (pv 4) pa_nil))))
        (pss_one (ps_if (PT.of01 (t' := tKd 1) (pt_cmpR op_eq (pv 5) pe_int (nomark _)) (kd_ok 1)) (pss_one (ps_expr (pe_bm PySem.F.plainAttrs_list PySem.F.slot_list_insert PySem.F.type_list_insert mt_insert (pv 3) (pa_cons (pv 4) (pa_cons (pe_ix ix_list (pv 3) (pv 4) (fun _ _ => rfl)) pa_nil)))))
        (pss_one (ps_if (PT.of01 (t' := tKd 2) (pt_cmpR op_eq (pv 5) pe_int (nomark _)) (kd_ok 2)) (pss_one (ps_asg (pe_revL (pe_slice sl_list (pv 3) (po_some (pv 4)) (po_some (pe_op op_add (pv 4) pe_int)))) (pg_slL (pv 3) (po_some (pv 4)) (po_some (pe_op op_add (pv 4) pe_int)))))
        (pss_one (ps_if (PT.of01 (t' := tKd 3) (pt_cmpR op_eq (pv 5) pe_int (nomark _)) (kd_ok 3)) (pss_one (ps_asg (pe_call GA (hr.mono (by omega)) rfl DA.mg DA.fn.kp DA.b .nil pass0 (pa_cons (pv 0) (pa_cons pe_int pa_nil))) (pg_sub (pv 3) (pv 4) set_list)))
        (pss_one (ps_if (PT.of01 (t' := tKd45) (PW.pt (pw_or (PT.of01 (t' := tKd 4) (pt_cmpR op_eq (pv 5) pe_int (nomark _)) (kd_ok 4)) (pw_or1 (PT.of01 (t' := tKd 5) (pt_cmpR op_eq (pv 5) pe_int (nomark _)) (kd_ok 5))))) kd45_ok)
          (pss_cons (ps_set (i := 6) scVr.nd rfl (Or.inl rfl) (PE.ofAv (t' := tNear1) (pe_lst (pa_cons pe_int (pa_cons pe_int (pa_cons (pe_un un_neg pe_int) (pa_cons pe_int (pa_cons pe_int (pa_cons pe_int (pa_cons pe_str (pa_cons pe_non (pa_cons pe_bl (pa_cons pe_bl pa_nil))))))))))) (fun σ H Q h => ⟨_, rfl, by show 10 ≤ sizeLine; decide, fun l nl => h l nl⟩)))
          (pss_cons (ps_set (i := 6) scVr.nd rfl (Or.inl rfl) (PE.ofAv (t' := tNear2 K) (pe_op op_cat (pv 6) (pe_lst (pa_cons pe_str (pa_cons (pe_tup pa_nil) (pa_cons (pe_tup (pa_cons pe_int (pa_cons pe_str pa_nil))) (pa_cons pe_str (pa_cons (pe_tup (pa_cons (pe_tup (pa_cons pe_int (pa_cons pe_str pa_nil))) pa_nil)) (pa_cons pe_int (pa_cons pe_str (pa_cons pe_str (pa_cons pe_str pa_nil))))))))))) near2_ok))
          (pss_one (ps_asg (pe_ix ix_list (pv 6) (pe_call GP (hr.mono (by omega)) rfl DP.mg DP.fn.kp DP.b .nil pass0 (pa_cons (pv 0) (pa_cons pe_int pa_nil))) (fun _ _ => rfl)) (pg_sub (pv 3) (pv 4) set_list)))))
        (pss_one (ps_if (PW.pt (pw_and (PT.of01 (t' := tKd 6) (pt_cmpR op_eq (pv 5) pe_int (nomark _)) (kd_ok 6)) (pw_and (pt_val (PE.ofAv (t' := tIsA K "int") (pe_callB call_isi (by rfl) B.isinstance (by decide +kernel) (pa_cons (pe_ix ix_list (pv 3) (pv 4) (fun _ _ => rfl)) (pa_cons (pe_bltn (v := .ty "int") (by rfl) B.int (by decide +kernel) rfl) pa_nil))) (isA_ok (.inr (.inl rfl)))))
              (pw_and1 (pt_not (pt_val (PE.ofAv (t' := tIsA K "bool") (pe_callB call_isi (by rfl) B.isinstance (by decide +kernel) (pa_cons (pe_ix ix_list (pv 3) (pv 4) (fun _ _ => rfl)) (pa_cons (pe_bltn (v := .ty "bool") (by rfl) B.bool (by decide +kernel) rfl) pa_nil))) (isA_ok (.inr (.inr (.inl rfl)))))))))))
          (pss_one (ps_asg (PE.ofAv (t' := tAddI K) (pe_op op_add (pe_ix ix_list (pv 3) (pv 4) (fun _ _ => rfl)) (pe_ix ix_list (pe_lst (pa_cons pe_int (pa_cons (pe_un un_neg pe_int) (pa_cons pe_int (pa_cons (pe_un un_neg pe_int) pa_nil))))) (pe_call GP (hr.mono (by omega)) rfl DP.mg DP.fn.kp DP.b .nil pass0 (pa_cons (pv 0) (pa_cons pe_int pa_nil))) (fun _ _ => rfl))) addI_ok) (pg_sub (pv 3) (pv 4) set_list)))
        (pss_one (ps_if (PW.pt (pw_and (PT.of01 (t' := tKd 7) (pt_cmpR op_eq (pv 5) pe_int (nomark _)) (kd_ok 7)) (pw_and1 (pt_val (PE.ofAv (t' := tIsA K "tuple") (pe_callB call_isi (by rfl) B.isinstance (by decide +kernel) (pa_cons (pe_ix ix_list (pv 3) (pv 4) (fun _ _ => rfl)) (pa_cons (pe_bltn (v := .ty "tuple") (by rfl) B.tuple (by decide +kernel) rfl) pa_nil))) (isA_ok (.inl rfl)))))))
          (pss_one (ps_asg (pe_callTy call_list_of (by rfl) B.list (by decide +kernel) (pa_cons (pe_ix ix_list (pv 3) (pv 4) (fun _ _ => rfl)) pa_nil)) (pg_sub (pv 3) (pv 4) set_list)))
        (pss_one (ps_if (PW.pt (pw_and (PT.of01 (t' := tKd 8) (pt_cmpR op_eq (pv 5) pe_int (nomark _)) (kd_ok 8)) (pw_and1 (pt_val (PE.ofAv (t' := tIsA K "str") (pe_callB call_isi (by rfl) B.isinstance (by decide +kernel) (pa_cons (pe_ix ix_list (pv 3) (pv 4) (fun _ _ => rfl)) (pa_cons (pe_bltn (v := .ty "str") (by rfl) B.str (by decide +kernel) rfl) pa_nil))) (isA_ok (.inr (.inr (.inr rfl)))))))))
          (pss_one (ps_asg (PE.ofAv (t' := tAddS K) (pe_op op_add_str (pe_ix ix_list (pv 3) (pv 4) (fun _ _ => rfl)) (pe_ix ix_list (pe_lst (pa_cons pe_str (pa_cons pe_str (pa_cons pe_str (pa_cons pe_str pa_nil))))) (pe_call GP (hr.mono (by omega)) rfl DP.mg DP.fn.kp DP.b .nil pass0 (pa_cons (pv 0) (pa_cons pe_int pa_nil))) (fun _ _ => rfl))) addS_ok) (pg_sub (pv 3) (pv 4) set_list)))
        (pss_one (ps_ret (pv 3))))))))))))))))))
      (pss_one (ps_ret (PE.ofAv (t' := tFin) (pe_callTy call_tuple_of (by rfl) B.tuple (by decide +kernel) (pa_cons (pv 3) pa_nil)) (fun σ H Q h => by
          obtain ⟨D, zs, h3, hD, k⟩ := h
          exact ⟨_, h3, D, _, rfl, .inl ⟨SqL.of hD, k⟩⟩))))))))), ?_⟩
    have main : ∃ (xs : List V) (ds : List PyData) (n0 : Nat), n0 ≤ 20 ∧ DvAll K F0 xs ds ∧ (∀ d ∈ ds, Low n0 d) ∧ ds ≠ [] ∧ xs.length ≤ 900 ∧ ∀ Q' : V → Hp → Prop, (∀ l, H l = none → Q' (.ref l) (L2.upd H l (.lst xs))) → rListS K [v] H Q' := by
      cases hL with
      | int i => exact absurd rfl (hni i)
      | str s h0 h9 hg =>
        cases hD
        have hl : (signs s).length = s.cps.size := by unfold signs; rw [List.length_map, Array.length_toList]
        refine ⟨(signs s).map V.str, (signs s).map PyData.str, n, hn, ?_, fun d hd => ?_, fun z => ?_, by rw [List.length_map, hl]; exact h9, fun Q' q => .inl ⟨s, rfl, Nat.le_of_lt (small1000 (by omega)), q⟩⟩
        · generalize signs s = l
          induction l with
          | nil => exact .nil
          | cons a r ih => exact .cons (.str a) ih
        · obtain ⟨t, ht, rfl⟩ := List.mem_map.mp hd
          unfold signs at ht
          obtain ⟨c, hc, rfl⟩ := List.mem_map.mp ht
          refine .str _ (by show 1 ≤ 1; decide) (by show 1 ≤ 900; decide) fun c' hc' => ?_
          rw [List.mem_singleton.mp (show c' ∈ [c] from hc')]
          exact hg c hc
        · have z2 := congrArg List.length z
          rw [List.length_map, hl, List.length_nil] at z2
          omega
      | @tup n1 l h0 hl h =>
        cases hD with
        | tup hs hA => exact ⟨_, l, n1, by omega, hA, h, h0, by rw [dvAll_len hA]; omega, fun Q' q => .inr ⟨_, _, rfl, .inr (sqT_same hF _ _ hs), q⟩⟩
    obtain ⟨xs, ds, n0, hn0, hA, hlow, hne, hxl, mk⟩ := main
    have hlen := dvAll_len hA
    refine ⟨_, rfl, ?_⟩
    dsimp only [tNil]
    refine mk _ fun D nD => ?_
    have nDs : D ≠ sa := (ne_of_none hsa nD).symm
    obtain ⟨A1, eA1⟩ : ∃ A, A = L2.upd H D (.lst xs) := ⟨_, rfl⟩
    have S1 : Same H A1 := by rw [eA1]; exact Same.new (Same.refl _) nD
    have hD1 : A1 D = some (.lst xs) := by rw [eA1]; exact upd_same
    rw [← eA1]
    refine ⟨_, rfl, Nat.zero_le _, fun z nz => ?_⟩
    obtain ⟨A2, eA2⟩ : ∃ A, A = L2.upd A1 z (.lst []) := ⟨_, rfl⟩
    have S2 : Same A1 A2 := by rw [eA2]; exact Same.new (Same.refl _) nz
    have hz2 : A2 z = some (.lst []) := by rw [eA2]; exact upd_same
    rw [← eA2]
    have S02 := S1.trans S2
    refine ⟨_, _, .lst (SqL.of (S2 _ _ hD1)) (DvAll.dp (DvAll.same (hF.trans S02) hA)), .lst (SqL.of hz2) .nil, Low.shapedL hn0 hlow, nil_shaped, _, rfl, ?_⟩
    rw [eqv_list_nil hne]
    refine ite2 (fun z => by cases z) (fun _ => ?_)
    have hpos : 0 < xs.length := by rw [hlen]; exact List.length_pos_iff.mpr hne
    refine ⟨_, rfl, _, rfl, D, _, rfl, .inl (SqL.of (S2 _ _ hD1)), ?_⟩
    refine ⟨sa, _, o, rfl, S02 _ _ hsa, hO, by omega, by omega, fun mi o2 m0 m1 hO2 => ?_⟩
    obtain ⟨m, rfl⟩ := Int.eq_ofNat_of_zero_le m0
    have hm : m < xs.length := by omega
    obtain ⟨G0, eG0⟩ : ∃ A, A = L2.upd A2 sa o2 := ⟨_, rfl⟩
    have B0 : But sa H G0 := by rw [eG0]; exact (But.of S02).upd
    have hsa0 : G0 sa = some o2 := by rw [eG0]; exact upd_same
    have hD0 : G0 D = some (.lst xs) := by rw [eG0, upd_ne nDs]; exact S2 _ _ hD1
    rw [← eG0]
    have hx := List.getElem?_eq_getElem hm
    generalize xs[m] = x at hx
    obtain ⟨dx, hdx, hxD⟩ := dvAll_get hA hx
    have hLx := hlow dx (List.mem_of_getElem? hdx)
    have sf : ∀ G, But sa H G → Same F0 G := fun G b c u e => b c u (hF c u e) fun z => by rw [z, hFs] at e; cases e
    have els : ∀ G, ∀ z ∈ xs, Okv K (jn F0 H [D] G) z := fun G z hz => by
      obtain ⟨d, hd, h1⟩ := dvAll_mem hA z hz
      exact ⟨d, h1.same jn_base, (hlow d hd).tame⟩
    have fin : ∀ (σ' : L2.St) (G : Hp) (zs : List V) (o' : HO), σ'[3]? = some (some (.ref D)) → But sa H G → G sa = some o' → SrcO o' → G D = some (.lst zs) → (∀ z ∈ zs, Okv K (jn F0 H [D] G) z) → tFin σ' G Q := fun σ' G zs o' h3 b hs ho hd he => by
      refine ⟨D, zs, h3, hd, fun t nt => ?_⟩
      have nts : t ≠ sa := fun z => by rw [z, hs] at nt; cases nt
      refine k _ o' _ (b.new nt) (by rw [upd_ne nts.symm]; exact hs) ho ?_
      refine okv_tup (jn_new hF (nw_some.mpr ⟨b.free nt nts, by simp, upd_same⟩)) fun z hz => (he z hz).same (jn_mono (nw_to fun c u hb _ hG => ⟨hb, by simp, by rw [upd_ne (ne_of_none hG nt)]; exact hG⟩))
    have store : ∀ (G : Hp) (o3 : HO), But sa H G → G sa = some o3 → G D = some (.lst xs) → ∀ (σ' : L2.St) (G' : Hp) (o' : HO) (v' : V), σ'[3]? = some (some (.ref D)) → But sa G G' → G' sa = some o' → SrcO o' → Okv K (jn F0 G [] G') v' → G' D = some (.lst xs) ∧ tFin σ' (L2.upd G' D (.lst (xs.set m v'))) Q := fun G o3 b hs hd σ' G' o' v' h3 b2 hs2 ho2 hv => by
      refine ⟨b2 _ _ hd nDs, fin σ' _ _ o' h3 ((b.trans b2).own nD) (by rw [upd_ne nDs.symm]; exact hs2) ho2 upd_same fun z hz => ?_⟩
      rcases List.mem_or_eq_of_mem_set hz with hz | rfl
      · exact els _ z hz
      · refine hv.same (jn_mono (newJ (fun c hc => b.free hc fun z => by rw [z, hs] at hc; cases hc) hd fun c u hc hu => by rw [upd_ne fun z => by rw [z, hd] at hc; cases hc]; exact hu))
    refine ⟨sa, D, m, xs, x, o2, rfl, rfl, rfl, rfl, hD0, hx, elt_of hxD hLx (sf _ B0), hsa0, hO2, fun b o3 G hb BG hsaG hOG => ?_⟩
    have BHG := B0.trans BG
    have hDG := BG _ _ hD0 nDs
    cases b with
    | true =>
      refine ite2 (fun _ => ?_) (fun z => absurd rfl z)
      obtain ⟨hT, hj⟩ := hb rfl
      cases j with
      | zero => exact absurd hj (by decide)
      | succ j =>
        have ee : (((j + 1 : Nat) : Int) - 1) = ((j : Nat) : Int) := by omega
        refine ⟨_, rfl, _, rfl, _, rfl, D, xs, _, x, rfl, rfl, SqL.of hDG, atI_nat hx, _, rfl, _, _, rfl, rfl, ?_⟩
        refine ⟨sa, x, dx, n0, o3, F0, by show [V.ref sa, x, V.int (((j + 1 : Nat) : Int) - 1)] = _; rw [ee], by omega, hn0, hsaG, hOG, sf _ BHG, hFs, hxD, hLx, fun i z => ?_, fun v' o4 G' B4 hsa4 hO4 hv => ?_⟩
        · subst z
          cases hxD
          exact absurd (show ("tuple" == "int") = true from hT) (by decide)
        · obtain ⟨hD4, fi⟩ := store G o3 BHG hsaG hDG [some (.ref sa), some v, some (.int ((j + 1 : Nat) : Int)), some (.ref D), some (.int (m : Nat)), none, none] G' o4 v' rfl B4 hsa4 hO4 hv
          exact ⟨_, rfl, _, rfl, D, xs, _, m, rfl, rfl, hD4, ixn hm, fi⟩
    | false =>
      refine ite2 (fun z => by cases z) (fun _ => ?_)
      refine ⟨_, rfl, sa, 9, o3, rfl, hsaG, hOG, by decide, by decide, fun kd o4 hk0 hk9 hO4 => ?_⟩
      obtain ⟨G4, eG4⟩ : ∃ A, A = L2.upd G sa o4 := ⟨_, rfl⟩
      have B4 : But sa H G4 := by rw [eG4]; exact BHG.upd
      have hsa4 : G4 sa = some o4 := by rw [eG4]; exact upd_same
      have hD4 : G4 D = some (.lst xs) := by rw [eG4, upd_ne nDs]; exact hDG
      rw [← eG4]
      have he4 : Elt K G4 x := elt_of hxD hLx (sf _ B4)
      have st4 := store G4 o4 B4 hsa4 hD4
      have lst4 : Q (.ref D) G4 := k _ o4 G4 B4 hsa4 hO4 (okv_lst (jn_new hF (nw_some.mpr ⟨nD, by simp, hD4⟩)) fun z hz => (els G4 z hz).same (jn_mono (nw_to fun c u hb _ hG => ⟨hb, by simp, hG⟩)))
      have lin : (m : Int) < 2 ^ 63 := by omega
      have lin2 : -(2 ^ 63) ≤ (m : Int) := by omega
      have cs : kd = 0 ∨ kd = 1 ∨ kd = 2 ∨ kd = 3 ∨ (kd = 4 ∨ kd = 5) ∨ kd = 6 ∨ kd = 7 ∨ kd = 8 := by omega
      have part : ∀ (σ' : L2.St) (G5 : Hp) (zs : List V), Same G4 G5 → σ'[3]? = some (some (.ref D)) → (∀ z ∈ zs, z ∈ xs) → tFin σ' (L2.upd G5 D (.lst zs)) Q := fun σ' G5 zs S5 h3 hz => fin σ' _ zs o4 h3 ((B4.trans (But.of S5)).own nD) (by rw [upd_ne nDs.symm]; exact S5 _ _ hsa4) hO4 upd_same fun z h => els _ z (hz z h)
      rcases cs with rfl | rfl | rfl | rfl | h45 | rfl | rfl | rfl
      · refine ⟨_, rfl, ite2 (fun _ => ?_) (fun z => absurd rfl z)⟩
        refine ⟨_, rfl, .inl ⟨rfl, _, SqL.of hD4⟩, _, rfl, D, xs, _, m, x, rfl, rfl, hD4, lin2, lin, ?_, hx, ?_⟩
        · rw [seqIx (by omega) (by omega)]
          rfl
        · exact part _ _ _ (Same.refl _) rfl fun z h => mem_eraseIdx h
      · refine ⟨_, rfl, ite2 (fun z => absurd z (by decide)) (fun _ => ?_)⟩
        refine ⟨_, rfl, ite2 (fun _ => ?_) (fun z => absurd rfl z)⟩
        refine ⟨_, rfl, .inl ⟨rfl, _, SqL.of hD4⟩, _, rfl, _, rfl, _, rfl, D, xs, _, x, rfl, rfl, SqL.of hD4, atI_nat hx, D, xs, _, x, rfl, rfl, hD4, small1000 (by omega), by omega, lin, ?_⟩
        refine part _ _ _ (Same.refl _) rfl fun z h => ?_
        rcases List.mem_append.mp h with h | h
        · rcases List.mem_append.mp h with h | h
          · exact List.mem_of_mem_take h
          · rw [List.mem_singleton.mp h]
            exact List.mem_of_getElem? hx
        · exact List.mem_of_mem_drop h
      · refine ⟨_, rfl, ite2 (fun z => absurd z (by decide)) (fun _ => ?_)⟩
        refine ⟨_, rfl, ite2 (fun z => absurd z (by decide)) (fun _ => ?_)⟩
        refine ⟨_, rfl, ite2 (fun _ => ?_) (fun z => absurd rfl z)⟩
        refine ⟨_, rfl, _, rfl, _, rfl, _, rfl, _, _, rfl, rfl, _, rfl, D, xs, rfl, SqL.of hD4, fun p1 np1 => ?_⟩
        refine ⟨p1, _, rfl, SqL.of upd_same, fun p2 np2 => ?_⟩
        have Sa : Same G4 (L2.upd G4 p1 (.lst (cutV xs (some (m : Int)) (some ((m : Int) + 2))))) := Same.new (Same.refl _) np1
        have Sb := Same.new (o := HO.lst (cutV xs (some (m : Int)) (some ((m : Int) + 2))).reverse) Sa np2
        have nDp : D ≠ p2 := ne_of_none (Sa _ _ hD4) np2
        have cl := cutV_length xs (some (m : Int)) (some ((m : Int) + 2))
        refine ⟨_, rfl, _, rfl, _, rfl, _, rfl, _, _, rfl, rfl, _, rfl, D, p2, xs, _, m, m + 2, rfl, rfl, rfl, congrArg some (by omega), Sb _ _ hD4, upd_same, nDp, by omega, by omega, ?_, ?_⟩
        · rw [List.length_reverse]
          exact Nat.le_trans (Nat.add_le_add hxl (Nat.le_trans cl hxl)) (by show 1800 ≤ sizeLine; decide)
        · refine part _ _ _ Sb rfl fun z h => ?_
          rcases List.mem_append.mp h with h | h
          · rcases List.mem_append.mp h with h | h
            · exact List.mem_of_mem_take h
            · have h := List.mem_reverse.mp h
              unfold cutV at h
              exact List.mem_of_mem_drop (List.mem_of_mem_take h)
          · exact List.mem_of_mem_drop h
      · refine ⟨_, rfl, ite2 (fun z => absurd z (by decide)) (fun _ => ?_)⟩
        refine ⟨_, rfl, ite2 (fun z => absurd z (by decide)) (fun _ => ?_)⟩
        refine ⟨_, rfl, ite2 (fun z => absurd z (by decide)) (fun _ => ?_)⟩
        refine ⟨_, rfl, ite2 (fun _ => ?_) (fun z => absurd rfl z)⟩
        refine ⟨_, rfl, sa, o4, rfl, by decide, hsa4, hO4, fun v' d' o5 H5 B5 hsa5 hO5 hv hd => ?_⟩
        obtain ⟨hD5, fi⟩ := st4 [some (.ref sa), some v, some (.int (j : Nat)), some (.ref D), some (.int (m : Nat)), some (.int 3), none] H5 o5 v' rfl B5 hsa5 hO5 ⟨d', hv.same fun c u e => jn_new (sf _ B4) e, hd⟩
        exact ⟨_, rfl, _, rfl, D, xs, _, m, rfl, rfl, hD5, ixn hm, fi⟩
      · refine ⟨_, rfl, ite2 (fun z => absurd (of_decide_eq_true z) (by omega)) (fun _ => ?_)⟩
        refine ⟨_, rfl, ite2 (fun z => absurd (of_decide_eq_true z) (by omega)) (fun _ => ?_)⟩
        refine ⟨_, rfl, ite2 (fun z => absurd (of_decide_eq_true z) (by omega)) (fun _ => ?_)⟩
        refine ⟨_, rfl, ite2 (fun z => absurd (of_decide_eq_true z) (by omega)) (fun _ => ?_)⟩
        refine ⟨_, rfl, ite2 (fun _ => ?_) (fun z => absurd (decide_eq_true h45) z)⟩
        refine fun l nl => ?_
        refine ⟨l, rfl, upd_same, fun l3 H5 ys S5 hl3 hyl hys => ?_⟩
        have Sa : Same G4 (L2.upd G4 l (.lst near1)) := Same.new (Same.refl _) nl
        have hsa5 := (Sa.trans S5) _ _ hsa4
        refine ⟨_, rfl, _, rfl, sa, 18, o4, rfl, hsa5, hO4, by decide, by decide, fun d o6 d0 d18 hO6 => ?_⟩
        obtain ⟨i, rfl⟩ := Int.eq_ofNat_of_zero_le d0
        have nls : l3 ≠ sa := fun z => by
          rw [z, hsa5] at hl3
          obtain ⟨_, _, _, e1, _⟩ := hO4
          have e2 := congrArg List.length (HO.lst.inj (e1.symm.trans (Option.some.inj hl3)))
          rw [List.length_append, hyl] at e2
          exact absurd (show (3 : Nat) = 19 from e2) (by decide)
        have hi : i < (near1 ++ ys).length := by rw [List.length_append, hyl]; show i < 19; omega
        have hat := List.getElem?_eq_getElem hi
        have hmem := List.mem_of_getElem? hat
        refine ⟨l3, _, _, _, rfl, rfl, SqL.of (by rw [upd_ne nls]; exact hl3), atI_nat hat, ?_⟩
        generalize (near1 ++ ys)[i] = y at hmem
        have hy : Okv K (jn F0 G4 [] (L2.upd H5 sa o6)) y := by
          rcases List.mem_append.mp hmem with h | h
          · exact near1_ok y h
          · refine (hys y h).same fun c u e => jn_new (sf _ B4) (nw_to (fun b o hb _ hG => ⟨none_of_upd hb, by simp, ?_⟩) c u e)
            rw [upd_ne fun z => by rw [z, Sa _ _ hsa4] at hb; cases hb]
            exact hG
        obtain ⟨hD5, fi⟩ := st4 [some (.ref sa), some v, some (.int (j : Nat)), some (.ref D), some (.int (m : Nat)), some (.int kd), some (.ref l3)] _ o6 y rfl ((But.of (Sa.trans S5)).upd) upd_same hO6 hy
        exact ⟨_, rfl, _, rfl, D, xs, _, m, rfl, rfl, hD5, ixn hm, fi⟩
      · refine ⟨_, rfl, ite2 (fun z => absurd z (by decide)) (fun _ => ?_)⟩
        refine ⟨_, rfl, ite2 (fun z => absurd z (by decide)) (fun _ => ?_)⟩
        refine ⟨_, rfl, ite2 (fun z => absurd z (by decide)) (fun _ => ?_)⟩
        refine ⟨_, rfl, ite2 (fun z => absurd z (by decide)) (fun _ => ?_)⟩
        refine ⟨_, rfl, ite2 (fun z => absurd z (by decide)) (fun _ => ?_)⟩
        refine ⟨_, rfl, ite2 (fun _ => ?_) (fun z => absurd rfl z)⟩
        refine ⟨D, m, xs, x, rfl, rfl, hD4, hx, he4, _, rfl, ?_⟩
        by_cases hI : isI x "int" = true
        rotate_left
        · rw [eq_false_of_ne_true hI]
          refine ite2 (fun z => by cases z) (fun _ => ite2 (fun z => by cases z) (fun _ => ?_))
          refine ⟨_, rfl, ite2 (fun z => absurd z (by decide)) (fun _ => ite2 (fun z => by cases z) (fun _ => ?_))⟩
          refine ⟨_, rfl, ite2 (fun z => absurd z (by decide)) (fun _ => ite2 (fun z => by cases z) (fun _ => ?_))⟩
          exact ⟨_, rfl, lst4⟩
        rw [hI]
        cases hLx with
        | str s _ _ _ => cases hxD; exact absurd (show ("int" == "str") = true from hI) (by decide)
        | tup l _ _ _ => cases hxD; exact absurd (show ("int" == "tuple") = true from hI) (by decide)
        | int i =>
          cases hxD
          refine ite2 (fun _ => ?_) (fun z => absurd rfl z)
          refine ⟨D, m, xs, _, rfl, rfl, hD4, hx, he4, _, rfl, ite2 (fun _ => ?_) (fun z => absurd rfl z)⟩
          refine ⟨sa, D, m, xs, i, o4, rfl, rfl, rfl, hD4, hx, hsa4, hO4, fun k' o5 H5 B5 hsa5 hO5 => ?_⟩
          obtain ⟨hD5, fi⟩ := st4 [some (.ref sa), some v, some (.int (j : Nat)), some (.ref D), some (.int (m : Nat)), some (.int 6), none] H5 o5 _ rfl B5 hsa5 hO5 (okv_int k')
          exact ⟨_, rfl, _, rfl, D, xs, _, m, rfl, rfl, hD5, ixn hm, fi⟩
      · refine ⟨_, rfl, ite2 (fun z => absurd z (by decide)) (fun _ => ?_)⟩
        refine ⟨_, rfl, ite2 (fun z => absurd z (by decide)) (fun _ => ?_)⟩
        refine ⟨_, rfl, ite2 (fun z => absurd z (by decide)) (fun _ => ?_)⟩
        refine ⟨_, rfl, ite2 (fun z => absurd z (by decide)) (fun _ => ?_)⟩
        refine ⟨_, rfl, ite2 (fun z => absurd z (by decide)) (fun _ => ?_)⟩
        refine ⟨_, rfl, ite2 (fun z => absurd z (by decide)) (fun _ => ite2 (fun z => by cases z) (fun _ => ?_))⟩
        refine ⟨_, rfl, ite2 (fun _ => ?_) (fun z => absurd rfl z)⟩
        refine ⟨D, m, xs, x, rfl, rfl, hD4, hx, he4, _, rfl, ?_⟩
        by_cases hI : isI x "tuple" = true
        rotate_left
        · rw [eq_false_of_ne_true hI]
          refine ite2 (fun z => by cases z) (fun _ => ?_)
          refine ⟨_, rfl, ite2 (fun z => absurd z (by decide)) (fun _ => ite2 (fun z => by cases z) (fun _ => ?_))⟩
          exact ⟨_, rfl, lst4⟩
        rw [hI]
        cases hLx with
        | int i => cases hxD; exact absurd (show ("tuple" == "int") = true from hI) (by decide)
        | str s _ _ _ => cases hxD; exact absurd (show ("tuple" == "str") = true from hI) (by decide)
        | tup l _ _ hl =>
          cases hxD with
          | tup hs hA2 =>
            refine ite2 (fun _ => ?_) (fun z => absurd rfl z)
            refine ⟨_, rfl, _, rfl, D, xs, _, _, rfl, rfl, SqL.of hD4, atI_nat hx, _, _, rfl, .inr (sqT_same (sf _ B4) _ _ hs), fun p np => ?_⟩
            have nps : p ≠ sa := fun z => by rw [z, hsa4] at np; cases np
            obtain ⟨hD5, fi⟩ := st4 [some (.ref sa), some v, some (.int (j : Nat)), some (.ref D), some (.int (m : Nat)), some (.int 7), none] _ o4 (.ref p) rfl (But.refl.new np) (by rw [upd_ne nps.symm]; exact hsa4) hO4 (okv_lst (jn_new (sf _ B4) (nw_some.mpr ⟨np, by simp, upd_same⟩)) fun z hz => by
              obtain ⟨d, hd, h1⟩ := dvAll_mem hA2 z hz
              exact ⟨d, h1.same jn_base, (hl d hd).tame⟩)
            exact ⟨_, rfl, _, rfl, D, xs, _, m, rfl, rfl, hD5, ixn hm, fi⟩
      · refine ⟨_, rfl, ite2 (fun z => absurd z (by decide)) (fun _ => ?_)⟩
        refine ⟨_, rfl, ite2 (fun z => absurd z (by decide)) (fun _ => ?_)⟩
        refine ⟨_, rfl, ite2 (fun z => absurd z (by decide)) (fun _ => ?_)⟩
        refine ⟨_, rfl, ite2 (fun z => absurd z (by decide)) (fun _ => ?_)⟩
        refine ⟨_, rfl, ite2 (fun z => absurd z (by decide)) (fun _ => ?_)⟩
        refine ⟨_, rfl, ite2 (fun z => absurd z (by decide)) (fun _ => ite2 (fun z => by cases z) (fun _ => ?_))⟩
        refine ⟨_, rfl, ite2 (fun z => absurd z (by decide)) (fun _ => ite2 (fun z => by cases z) (fun _ => ?_))⟩
        refine ⟨_, rfl, ite2 (fun _ => ?_) (fun z => absurd rfl z)⟩
        refine ⟨D, m, xs, x, rfl, rfl, hD4, hx, he4, _, rfl, ?_⟩
        by_cases hI : isI x "str" = true
        rotate_left
        · rw [eq_false_of_ne_true hI]
          refine ite2 (fun z => by cases z) (fun _ => ?_)
          exact ⟨_, rfl, lst4⟩
        rw [hI]
        cases hLx with
        | int i => cases hxD; exact absurd (show ("str" == "int") = true from hI) (by decide)
        | tup l _ _ _ => cases hxD; exact absurd (show ("str" == "tuple") = true from hI) (by decide)
        | str s _ hs9 hsg =>
          cases hxD
          refine ite2 (fun _ => ?_) (fun z => absurd rfl z)
          refine ⟨sa, D, m, xs, s, o4, rfl, rfl, rfl, hD4, hx, hs9, hsg, hsa4, hO4, fun k' o5 H5 B5 hsa5 hO5 ht => ?_⟩
          obtain ⟨hD5, fi⟩ := st4 [some (.ref sa), some v, some (.int (j : Nat)), some (.ref D), some (.int (m : Nat)), some (.int 8), none] H5 o5 _ rfl B5 hsa5 hO5 ⟨_, .str k', ht⟩
          exact ⟨_, rfl, _, rfl, D, xs, _, m, rfl, rfl, hD5, ixn hm, fi⟩
theorem ok_var {f fP fA : Addr} {fd dP dA : FuncData} (F : Def K mg "_law_variant" s_law_variant ["source", "value", "depth"] f fd) (B : Blt mg) (DP : Def K mg "_law_pick" sPick ["source", "size"] fP dP) (GP : FnOk P w K mg base CX0 1 fP dP ["source", "size"] spPick)
    (DA : Def K mg "_law_any_value" s_law_any_value ["source", "depth"] fA dA) (GA : FnOk P w K mg base CX0 4 fA dA ["source", "depth"] (spAnyV K 2)) : ∀ j : Nat, FnOk P w K mg base CX0 (j + 5) f fd ["source", "value", "depth"] (spVar K j)
  | 0 => var_step F B DP GP DA GA (F.fn.ok (k := 3) scVr (fun _ _ _ _ h => h.elim) (fun _ _ _ _ _ _ _ _ _ h => h.elim))
  | j + 1 => var_step F B DP GP DA GA (ok_var F B DP GP DA GA j)
end
end Mx
set_option Elab.async false
set_option maxRecDepth 100000
set_option linter.all false
/-! defs with a star parameter; trees.py: fair's names -/
namespace Mx
open PySem PySem.Spec PyProof.Rows L2
/-- a def with a star parameter -/
structure FunS (K : PySem.W.Frag) (name qual : Str) (st : Stmt) (ps : List Str) (pv : Str) (f : Addr) : Prop where
  ex : ∃ (oc : Value) (od an : Option Addr) (dV kV doc pm cdv ct : Value) (osl : Array (Option Value)), K.lookup f = some ⟨oc, od, .func (PySem.W.fnOf name qual (defArgs st) (defBody st) (defScope st) dV kV doc pm an cdv ct), osl⟩ ∧ PySem.W.codeIn K cdv qual = true ∧
    ∀ us rest : List Value, us.length = ps.length → bindArgs (PySem.W.fnOf name qual (defArgs st) (defBody st) (defScope st) dV kV doc pm an cdv ct) ⟨us ++ rest, []⟩ = (newTuple rest >>= fun t => pure (ps.zip us ++ [(pv, t)]))
def nFr : List Str := ["names", "name", "tree"]
theorem scFr : FnScope nFr (([] : List Str) ++ [("names" : Str)]) (defScope s_fair) := ⟨rfl, rfl, rfl, by decide +kernel, rfl, by decide +kernel, by decide +kernel⟩
end Mx
set_option Elab.async false
set_option maxRecDepth 100000
set_option linter.all false
/-! trees.py: together and fair, of any values, with what they raise -/
namespace Mx
open PySem PySem.Spec PyProof.Rows L2
theorem cxUpN {P : Program} {w : World} : StX.CXUp (L2N.CX P w) := by
  intro outer s H s2 H2 E e s' un kp ho h
  obtain ⟨a, B, H', cls, d, ea, fl, hok, ub, na, os, ag, he⟩ := h
  have fr : ∀ b o, s.heap.get? b = some o → H b = none → H2 b = none := fun b o q n => un.free b o q n (fun z => by cases z)
  refine ⟨a, B, H', cls, d, ea, fl, hok, ?_, na, os.trans ho, ag, he⟩
  constructor
  · intro b o q n hb
    exact ub.keep b o (kp b o q) (fr b o q n) hb
  · intro b o q hb
    exact ub.slot b o (kp b o q) hb
  · intro b o q n
    exact ub.free b o (kp b o q) (fr b o q n)
  · intro b o q hb
    exact ub.there b o (kp b o q) hb
  · intro b xs q
    exact ub.tups b xs (un.tups b xs q)
  · intro b o xs q
    exact ub.frzs b o xs (un.frzs b o xs q)
  · intro b ps q
    obtain ⟨m1, z1⟩ := un.tbls b ps q
    obtain ⟨m2, z2⟩ := ub.tbls b _ z1
    refine ⟨m1 ++ m2, ?_⟩
    rw [z2, Array.append_assoc]
def spTogB (K : PySem.W.Frag) (CT : Addr) : Sp := fun vs H Q E => ∃ (a : Addr) (xs : List V) (ds : List PyData), vs = [.ref a] ∧ SqT K H a xs ∧ DvAll K H xs ds ∧ (∀ d ∈ ds, Tame d) ∧
  (∀ t : Tr, t.data = .tuple ds → TreeV t → ∀ H', Same H H' → Q (.ref a) H') ∧ ((¬ ∃ t : Tr, t.data = .tuple ds ∧ TreeV t) → ∀ H', Same H H' → E (.ref CT) none H')
def spTog (K : PySem.W.Frag) (CT : Addr) : Sp := fun vs H Q E => ∃ ws rest, vs = ws ++ rest ∧ ws.length = ([] : List Str).length ∧ rest.length ≤ sizeLine ∧ ∀ p, H p = Option.none → spTogB K CT (ws ++ [V.ref p]) (L2.upd H p (.tup rest)) Q E
section
variable {P : Program} {w : World} {K : PySem.W.Frag} {mg : Str → Option Value} {base : Heap}
theorem scTog : FnScope ["parts"] (([] : List Str) ++ [("parts" : Str)]) (defScope s_together) := ⟨rfl, rfl, rfl, by decide +kernel, rfl, by decide +kernel, by decide +kernel⟩
theorem ok_tog {f fT CT : Addr} {dT : FuncData} (D : FunS K "together" "together" s_together [] "parts" f) (DT : Def K mg "require_tree" sReqTree ["value"] fT dT) (GT : FnOk P w K mg base (L2N.CX P w) 12 fT dT ["value"] (spReqTreeD K CT)) : FnR P w K mg base (L2N.CX P w) 14 f (spTog K CT) := by
  obtain ⟨oc, od, an, dV, kV, doc, pm, cdv, ct, osl, lk, hcd, hb⟩ := D.ex
  refine StX.fn_star (k := 13) (ps := []) (pv := "parts") (N := ["parts"]) lk hcd scTog cxUpN hb (fun A outer s H vs Q E hr h => ?_)
  obtain ⟨a, xs, ds, rfl, ha, hA, hT, good, bad⟩ := h
  refine ⟨_, pss_cons (ps_expr (pe_call GT (hr.mono (by decide)) rfl DT.mg DT.fn.kp DT.b .nil (L2N.passes_call (L2N.takes_of rfl rfl rfl rfl) (fun _ _ _ _ h => h)) (pa_cons (pv 0) pa_nil))) (pss_one (ps_ret (pv 0))), ?_⟩
  exact ⟨_, rfl, .ref a, .tuple ds, rfl, .tup ha hA, (Tame.tup _ hT).small, fun t e hV H1 S1 => ⟨_, rfl, good t e hV H1 S1⟩, fun z H1 S1 => bad z H1 S1⟩
/-- fair of these names, as data -/
def fairD (ns : List Str) : PyData := .tuple (ns.map fun n => .tuple [.int 1, .str n])
def isStrD : PyData → Bool
  | .str _ => true
  | _ => false
theorem strs_all : ∀ {ds : List PyData}, (∀ d ∈ ds, isStrD d = true) → ∃ ns : List Str, ds = ns.map PyData.str
  | [], _ => ⟨[], rfl⟩
  | d :: ds, h => by
    obtain ⟨ns, e⟩ := strs_all fun x hx => h x (List.mem_cons_of_mem _ hx)
    have hd := h d List.mem_cons_self
    cases d with
    | str s => exact ⟨s :: ns, by rw [e]; rfl⟩
    | _ => cases hd
theorem dv_strs {K : PySem.W.Frag} {H : Hp} : ∀ {xs : List V} {ns : List Str}, DvAll K H xs (ns.map PyData.str) → xs = ns.map V.str
  | _, [], h => by cases h; rfl
  | _, n :: ns, h => by
    cases h with
    | cons q t =>
      cases q
      rw [dv_strs t]
      rfl
def spFrEB (K : PySem.W.Frag) (CT : Addr) : Sp := fun vs H Q E => ∃ (a : Addr) (xs : List V) (ds : List PyData), vs = [.ref a] ∧ SqT K H a xs ∧ DvAll K H xs ds ∧ (∀ d ∈ ds, Tame d) ∧ ds.length ≤ 900 ∧
  ((∃ d ∈ ds, isStrD d = false) → ∀ H', Same H H' → E (.ref CT) none H') ∧ (∀ ns : List Str, ds = ns.map PyData.str → (∀ t : Tr, t.data = fairD ns → TreeV t → ∀ v H', Same H H' → TrAt K H' 4 v t → Q v H') ∧ ((¬ ∃ t : Tr, t.data = fairD ns ∧ TreeV t) → ∀ H', Same H H' → E (.ref CT) none H'))
def spFrE (K : PySem.W.Frag) (CT : Addr) : Sp := fun vs H Q E => ∃ ws rest, vs = ws ++ rest ∧ ws.length = ([] : List Str).length ∧ rest.length ≤ sizeLine ∧ ∀ p, H p = Option.none → spFrEB K CT (ws ++ [V.ref p]) (L2.upd H p (.tup rest)) Q E
theorem ok_frE {f fT CT : Addr} {dT : FuncData} (D : FunS K "fair" "fair" s_fair [] "names" f) (B : Blt mg) (X : ExcF K mg "InvalidTree" CT) (DT : Def K mg "require_tree" sReqTree ["value"] fT dT) (GT : FnOk P w K mg base (L2N.CX P w) 12 fT dT ["value"] (spReqTreeD K CT)) : FnR P w K mg base (L2N.CX P w) 14 f (spFrE K CT) := by
  obtain ⟨oc, od, an, dV, kV, doc, pm, cdv, ct, osl, lk, hcd, hb⟩ := D.ex
  refine StX.fn_star (k := 13) (ps := []) (pv := "names") (N := nFr) lk hcd scFr cxUpN hb (fun A outer s H vs Q E hr h => ?_)
  obtain ⟨a, xs, ds, rfl, ha, hA, hT, hl9, notStr, isStr⟩ := h
  have hl := dvAll_len hA
  refine ⟨_, pss_cons (ps_for (passes_of rfl) rfl (pi_tup (pv 0)) (pg_name (i := 1) scFr.nd rfl (Or.inl rfl)) (pss_one (ps_if (pt_not (pt_val (pe_callB call_isi (by rfl) B.isinstance (by decide +kernel) (pa_cons (pv 1) (pa_cons (pe_bltn (v := .ty "str") (by rfl) B.str (by decide +kernel) rfl) pa_nil))))) (pss_one (L2N.ps_raise rfl (L2N.takes_of rfl rfl rfl rfl) (L2N.pmk_own PySem.F.excBase_ValueError X.x X.g X.k (raises_own X.b X.t) rfl))) pss_nil)))
    (pss_cons (ps_set (i := 2) scFr.nd rfl (Or.inl rfl) (pe_callTy call_tuple_of (by rfl) B.tuple (by decide +kernel) (pa_cons (pe_lc (own := [("name", 1)]) (g := gName 1) (tt := tYes) (by rfl) scFr.nd (pi_tup (pv 0)) (blkOk_by (own := [("name", 1)]) (N := nFr) (sc := defScope s_fair) (by decide +kernel))
      (fun _ _ _ _ _ => pg_name (i := 1) scFr.nd rfl (Or.inl rfl)) (fun _ _ _ _ _ => pts_nil) (fun _ _ _ _ _ => pe_tup (pa_cons pe_int (pa_cons (pv 1) pa_nil)))) pa_nil)))
    (pss_cons (ps_expr (pe_call GT (hr.mono (by decide)) rfl DT.mg DT.fn.kp DT.b .nil (L2N.passes_call (L2N.takes_of rfl rfl rfl rfl) (fun _ _ _ _ h => h)) (pa_cons (pv 2) pa_nil)))
    (pss_one (ps_ret (pv 2))))), ?_⟩
  refine ⟨_, rfl, a, rfl, ⟨_, ha⟩, for_tup (K := K) (a := a) (xs := xs) (fun i σ H' => ∃ v1 : Option V, σ = [some (.ref a), v1, none] ∧ H' = H ∧ ∀ d ∈ ds.take i, isStrD d = true) ?_ ?_ ?_ ?_⟩
  · exact ⟨_, rfl, rfl, fun d h => by cases h⟩
  · rintro i σ H' _ ⟨v1, rfl, rfl, _⟩
    exact ha
  · rintro i x σ H' hx ⟨v1, rfl, rfl, hS⟩
    obtain ⟨d, hd, hxd⟩ := dvAll_get hA hx
    have hm := List.mem_of_getElem? hd
    cases hxd with
    | non => exact ⟨_, rfl, _, _, _, _, false, rfl, .ty _, .base .non, kit_ty (by decide +kernel), _, rfl, notStr ⟨_, hm, rfl⟩ H' (Same.refl _)⟩
    | bl b => exact ⟨_, rfl, _, _, _, _, false, rfl, .ty _, .base (.bl b), kit_ty (by decide +kernel), _, rfl, notStr ⟨_, hm, rfl⟩ H' (Same.refl _)⟩
    | int n => exact ⟨_, rfl, _, _, _, _, false, rfl, .ty _, .base (.int n), kit_ty (by decide +kernel), _, rfl, notStr ⟨_, hm, rfl⟩ H' (Same.refl _)⟩
    | lst hq _ => exact ⟨_, rfl, _, _, _, _, false, rfl, .ty _, .base (.lst hq), kit_ty (by decide +kernel), _, rfl, notStr ⟨_, hm, rfl⟩ H' (Same.refl _)⟩
    | tup hq _ => exact ⟨_, rfl, _, _, _, _, false, rfl, .ty _, tyx_tup hq, kit_ty (by decide +kernel), _, rfl, notStr ⟨_, hm, rfl⟩ H' (Same.refl _)⟩
    | str n =>
      refine ⟨_, rfl, _, _, _, _, true, rfl, .ty _, .base (.str n), kit_ty (by decide +kernel), _, rfl, _, rfl, rfl, fun d h => ?_⟩
      rw [take_succ_of hd] at h
      rcases List.mem_append.mp h with h | h
      · exact hS d h
      · rw [List.mem_singleton.mp h]
        rfl
  · rintro σ H1 ⟨v1, rfl, rfl, hS⟩
    rw [hl, List.take_length] at hS
    obtain ⟨ns, rfl⟩ := strs_all hS
    obtain ⟨good, bad⟩ := isStr ns rfl
    obtain rfl := dv_strs hA
    rw [List.length_map] at hl9
    refine ⟨_, rfl, a, rfl, ⟨_, ha⟩, fun D nD => ?_⟩
    refine lc_tup (K := K) (a := a) (xs := ns.map V.str) (fun i H' => ∃ zs, Same H1 H' ∧ H' D = some (.lst zs) ∧ zs.length = i ∧ DvAll K (fun b => if b = D then none else H' b) zs ((ns.take i).map fun n => .tuple [.int 1, .str n])) ?_ ?_ ?_ ?_
    · exact ⟨[], Same.new (Same.refl _) nD, upd_same, rfl, .nil⟩
    · rintro i H' _ ⟨zs, hS, _⟩
      exact sqT_same hS _ _ ha
    · rintro i x H' hx ⟨zs, hS', hD, hzl, hZ⟩
      rw [List.getElem?_map] at hx
      cases e : ns[i]? with
      | none => rw [e] at hx; cases hx
      | some n =>
        rw [e] at hx
        cases hx
        have hi : i < ns.length := (List.getElem?_eq_some_iff.mp e).1
        refine ⟨rfl, ?_⟩
        refine ⟨_, rfl, by show 2 ≤ sizeLine; decide, fun q nq => ?_⟩
        have nDq : D ≠ q := ne_of_none hD nq
        have hDq : (L2.upd H' q (.tup [.int 1, .str n])) D = some (.lst zs) := by rw [upd_ne nDq]; exact hD
        have S9 : Same (fun b => if b = D then none else H' b) (fun b => if b = D then none else L2.upd (L2.upd H' q (.tup [.int 1, .str n])) D (.lst (zs ++ [.ref q])) b) := fun b o hb => by
          dsimp only at hb ⊢
          split at hb
          · cases hb
          · rename_i nb
            rw [if_neg nb, upd_ne nb, upd_ne (ne_of_none hb nq)]
            exact hb
        refine ⟨zs, hDq, by rw [hzl]; exact small1000 (by omega), zs ++ [.ref q], Same.own (Same.new hS' nq) nD, upd_same, by rw [List.length_append, hzl]; rfl, ?_⟩
        rw [take_succ_of e, List.map_append]
        refine dvAll_snoc (DvAll.same S9 hZ) (.tup (SqT.of ?_) (.cons (.int 1) (.cons (.str n) .nil)))
        rw [if_neg nDq.symm, upd_ne nDq.symm]
        exact upd_same
    · rintro H2 ⟨zs, S2, hD, hzl, hZ⟩
      rw [List.length_map, List.take_length] at hZ
      refine ⟨D, _, rfl, .inl ⟨SqL.of hD, fun r nr => ?_⟩⟩
      have S3 : Same H2 (L2.upd H2 r (.tup zs)) := Same.new (Same.refl _) nr
      have S8 : Same (fun b => if b = D then none else H2 b) (L2.upd H2 r (.tup zs)) := fun b o hb => by
        dsimp only at hb
        split at hb
        · cases hb
        · exact S3 _ _ hb
      have hv : Dv K (L2.upd H2 r (.tup zs)) (.ref r) (fairD ns) := .tup (SqT.of upd_same) (DvAll.same S8 hZ)
      have htame : Tame (fairD ns) := .tup _ fun d hd => by
        obtain ⟨n, hn, rfl⟩ := List.mem_map.mp hd
        refine .tup _ fun y hy => ?_
        have hy : y = .int 1 ∨ y = .str n := by simpa using hy
        rcases hy with rfl | rfl
        · exact .int 1
        · exact hT _ (List.mem_map.mpr ⟨n, hn, rfl⟩)
      refine ⟨_, rfl, .ref r, fairD ns, rfl, hv, htame.small, fun t e hV H4 S4 => ⟨_, rfl, ?_⟩, fun z H4 S4 => bad z H4 ((S2.trans S3).trans S4)⟩
      rw [← e] at hv
      exact good t e hV _ H4 ((S2.trans S3).trans S4) (dv_tr 4 hV.wf (hv.same S4))
end
end Mx
set_option Elab.async false
set_option maxRecDepth 100000
set_option linter.all false
/-! displays of data: what comes of them, whatever objects these are -/
namespace Mx
open PySem L2
def tDat (K : PySem.W.Frag) (d : PyData) : TE := fun _ H Q => ∀ v H', Same H H' → Dv K H' v d → Q v H'
def tDats (K : PySem.W.Frag) (ds : List PyData) : TA := fun _ H Q => ∀ vs H', Same H H' → DvAll K H' vs ds → Q vs H'
section
variable {X : Cx}
theorem PE.ofD {e : Expr} {t t' : TE} (h : PE X e t) (i : ∀ σ H Q, t' σ H Q → t σ H Q) : PE X e t' := ⟨fun pins s σ H Q I q => h.run pins s σ H Q I (i σ H Q q)⟩
theorem PA.ofD {es : List Expr} {t t' : TA} (h : PA X es t) (i : ∀ σ H Q, t' σ H Q → t σ H Q) : PA X es t' := ⟨fun pos pins s σ H Q I q => h.run pos pins s σ H Q I (i σ H Q q)⟩
theorem pd_int {n : Int} {e : Expr} (K : PySem.W.Frag) (h : PE X e (tC (.int n))) : PE X e (tDat K (.int n)) := PE.ofD h fun _ H _ q => q _ H (Same.refl _) (.int n)
theorem pd_str {s : Str} {e : Expr} (K : PySem.W.Frag) (h : PE X e (tC (.str s))) : PE X e (tDat K (.str s)) := PE.ofD h fun _ H _ q => q _ H (Same.refl _) (.str s)
theorem pds_nil (K : PySem.W.Frag) : PA X [] (tDats K []) := PA.ofD pa_nil fun _ H _ q => q [] H (Same.refl _) .nil
theorem pds_cons {K : PySem.W.Frag} {e : Expr} {es : List Expr} {d : PyData} {ds : List PyData} (h : PE X e (tDat K d)) (g : PA X es (tDats K ds)) (hs : starEach (e :: es) X.env = (false, eval e X.env) :: starEach es X.env := by rfl) : PA X (e :: es) (tDats K (d :: ds)) :=
  PA.ofD (pa_cons h g hs) fun σ H Q q => fun v H1 S1 h1 vs H2 S2 h2 => q (v :: vs) H2 (S1.trans S2) (.cons (h1.same S2) h2)
theorem pd_tup {K : PySem.W.Frag} {es : List Expr} {ds : List PyData} {x1 : Nat} {pos : PySem.Pos} (h : PA X es (tDats K ds)) (hl : ds.length ≤ 1000 := by decide) : PE X (.Tuple es x1 pos) (tDat K (.tuple ds)) :=
  PE.ofD (pe_tup h) fun σ H Q q => fun vs H1 S1 h1 => ⟨by rw [dvAll_len h1]; exact Nat.le_of_lt (small1000 (by omega)), fun p np => q (.ref p) _ (Same.new S1 np) (.tup (SqT.of upd_same) (h1.same (Same.new (Same.refl _) np)))⟩
theorem pd_lst {K : PySem.W.Frag} {es : List Expr} {ds : List PyData} {pos : PySem.Pos} (h : PA X es (tDats K ds)) (hl : ds.length ≤ 1000 := by decide) : PE X (.List es pos) (tDat K (.list ds)) :=
  PE.ofD (pe_lst h) fun σ H Q q => fun vs H1 S1 h1 => ⟨by rw [dvAll_len h1]; exact Nat.le_of_lt (small1000 (by omega)), fun p np => q (.ref p) _ (Same.new S1 np) (.lst upd_same (h1.same (Same.new (Same.refl _) np)))⟩
end
end Mx
set_option Elab.async false
set_option maxRecDepth 100000
set_option linter.all false
/-! displays with variables in them: what data comes of them -/
namespace Mx
open PySem L2
structure DF where
  F : St → Hp → PyData → Prop
  mono : ∀ {σ H H' d}, Same H H' → F σ H d → F σ H' d
end Mx
set_option Elab.async false
set_option maxRecDepth 100000
set_option linter.all false
/-! law_k01: values that stay while the source of draws changes; the pairs for fair -/
namespace Mx
open PySem PySem.Spec PyProof.Rows L2
/-- all but what stands at a -/
def off (a : Addr) (H : Hp) : Hp := fun b => if b = a then none else H b
theorem off_self {a : Addr} {H : Hp} : off a H a = none := if_pos rfl
theorem off_some {a b : Addr} {H : Hp} {o : HO} : off a H b = some o ↔ b ≠ a ∧ H b = some o := by
  unfold off
  constructor
  · intro h
    split at h
    · cases h
    · exact ⟨by assumption, h⟩
  · rintro ⟨n, h⟩
    rw [if_neg n]
    exact h
theorem off_up {a : Addr} {H : Hp} : Same (off a H) H := fun b o e => (off_some.mp e).2
theorem off_but {a : Addr} {H H' : Hp} (s : But a H H') : Same (off a H) (off a H') := fun b o e => by
  obtain ⟨n, h⟩ := off_some.mp e
  exact off_some.mpr ⟨n, s b o h n⟩
theorem off_same {a : Addr} {H H' : Hp} (s : Same H H') : Same (off a H) (off a H') := off_but (But.of s)
theorem off_sqT {K : PySem.W.Frag} {a c : Addr} {H : Hp} {o : HO} {xs : List V} (h : H a = some o) (ho : SrcO o) (q : SqT K H c xs) : SqT K (off a H) c xs := by
  obtain ⟨_, _, _, rfl, _⟩ := ho
  rcases q with (q | ⟨o, q⟩) | q
  · exact .inl (.inl (off_some.mpr ⟨(fun z => by rw [z, h] at q; cases q), q⟩))
  · exact .inl (.inr ⟨o, off_some.mpr ⟨(fun z => by rw [z, h] at q; cases q), q⟩⟩)
  · exact .inr q
theorem off_tr {K : PySem.W.Frag} {a : Addr} {H : Hp} {o : HO} {d : Nat} {v : V} {t : Tr} (h : H a = some o) (ho : SrcO o) (q : TrAt K H d v t) : Dv K (off a H) v t.data := tr_dv d (TrAt.keep (fun c zs k => off_sqT h ho k) _ q)
theorem tr_low : ∀ (d : Nat) {t : Tr}, t.wf d → NmOk t → Low (2 * d) t.data
  | d, .feed s, _, h => by
    rw [Tr.data]
    have z := okName_low ((h s (by rw [Tr.names_feed]; exact List.mem_cons_self)).1)
    exact .str s z.1 (by omega) fun c hc => by have := z.2.2 c hc; omega
  | 0, .mix ps, w, _ => by unfold Tr.wf at w; exact w.elim
  | d + 1, .mix ps, w, h => by
    have hw : ps ≠ [] ∧ ps.length ≤ 5 ∧ ∀ p ∈ ps, 1 ≤ p.1 ∧ p.1 ≤ 9 ∧ p.2.wf d := by unfold Tr.wf at w; exact w
    rw [Tr.data, Tr.dataL_eq]
    refine .tup (n := 2 * d + 1) _ (fun z => hw.1 (List.map_eq_nil_iff.mp z)) (by rw [List.length_map]; omega) fun x hx => ?_
    obtain ⟨p, hp, rfl⟩ := List.mem_map.mp hx
    refine .tup (n := 2 * d) _ (by simp) (by show 2 ≤ 100; decide) fun y hy => ?_
    have hy : y = .int p.1 ∨ y = p.2.data := by simpa using hy
    rcases hy with rfl | rfl
    · exact .int _
    · refine tr_low d (hw.2.2 p hp).2.2 fun n hn => h n ?_
      rw [Tr.names_mix]
      exact List.mem_flatten.mpr ⟨_, List.mem_map.mpr ⟨p, hp, rfl⟩, hn⟩
where
  okName_low {s : Str} (h : okName s = true) : 1 ≤ s.cps.size ∧ s.cps.size ≤ 6 ∧ ∀ c ∈ s.cps.toList, 97 ≤ c ∧ c ≤ 122 := by
    unfold okName at h
    simp only [Bool.and_eq_true, decide_eq_true_eq, List.all_eq_true] at h
    exact ⟨h.1.1, h.1.2, fun c hc => by have := h.2 c hc; omega⟩
/-! ### displays of values that stay -/
structure SOk (K : PySem.W.Frag) (sa : Addr) (i : Nat) (σ : L2.St) (H : Hp) : Prop where
  src : ∃ o, H sa = some o
  var : ∃ x, σ[i]? = some (some x) ∧ Okv K (off sa H) x
theorem SOk.mono {K : PySem.W.Frag} {sa : Addr} {i : Nat} {σ : L2.St} {H H' : Hp} (s : Same H H') (h : SOk K sa i σ H) : SOk K sa i σ H' := by
  obtain ⟨⟨o, h1⟩, x, h2, h3⟩ := h
  exact ⟨⟨o, s _ _ h1⟩, x, h2, h3.same (off_same s)⟩
theorem off_new {sa p : Addr} {H : Hp} {o u : HO} (h : H sa = some u) (np : H p = none) : off sa (L2.upd H p o) p = some o := off_some.mpr ⟨(fun z => by rw [z, h] at np; cases np), upd_same⟩
def tGo (K : PySem.W.Frag) (i : Nat) : TE := fun σ H Q => ∃ sa, SOk K sa i σ H ∧ ∀ v H', Same H H' → Okv K (off sa H') v → Q v H'
def tGos (K : PySem.W.Frag) (i n : Nat) : TA := fun σ H Q => ∃ sa, SOk K sa i σ H ∧ ∀ vs H', Same H H' → vs.length = n → (∀ v ∈ vs, Okv K (off sa H') v) → Q vs H'
def tGoL (K : PySem.W.Frag) (i n : Nat) : TE := fun σ H Q => ∃ sa, SOk K sa i σ H ∧ ∀ l vs H', Same H H' → H' l = some (.lst vs) → vs.length = n → (∀ v ∈ vs, Okv K (off sa H') v) → Q (.ref l) H'
section
variable {X : Cx}
theorem PA.ofAv {es : List Expr} {t t' : TA} (h : PA X es t) (i : ∀ σ H Q, t' σ H Q → t σ H Q) : PA X es t' := ⟨fun pos pins s σ H Q I q => h.run pos pins s σ H Q I (i σ H Q q)⟩
theorem go_var {i : Nat} {e : Expr} (K : PySem.W.Frag) (h : PE X e (tVar i)) : PE X e (tGo K i) := PE.ofAv h fun σ H Q ⟨sa, ⟨_, x, h2, h3⟩, k⟩ => ⟨x, h2, k x H (Same.refl _) h3⟩
theorem go_int {i : Nat} {n : Int} {e : Expr} (K : PySem.W.Frag) (h : PE X e (tC (.int n))) : PE X e (tGo K i) := PE.ofAv h fun σ H Q ⟨sa, _, k⟩ => k _ H (Same.refl _) (okv_int n)
theorem go_str {i : Nat} {s : Str} {e : Expr} (K : PySem.W.Frag) (h : PE X e (tC (.str s))) (c : (decide (s.cps.size ≤ 1000) && s.cps.toList.all fun c => decide (c < 1114112)) = true := by decide +kernel) : PE X e (tGo K i) := PE.ofAv h fun σ H Q ⟨sa, _, k⟩ => k _ H (Same.refl _) (okv_str c)
theorem gos_nil {i : Nat} (K : PySem.W.Frag) : PA X [] (tGos K i 0) := PA.ofAv pa_nil fun σ H Q ⟨sa, _, k⟩ => k [] H (Same.refl _) rfl fun v h => by cases h
theorem gos_cons {i n : Nat} {K : PySem.W.Frag} {e : Expr} {es : List Expr} (h : PE X e (tGo K i)) (t : PA X es (tGos K i n)) (hs : starEach (e :: es) X.env = (false, eval e X.env) :: starEach es X.env := by rfl) : PA X (e :: es) (tGos K i (n + 1)) :=
  PA.ofAv (pa_cons h t hs) fun σ H Q ⟨sa, ok, k⟩ => ⟨sa, ok, fun v H1 S1 hv => ⟨sa, ok.mono S1, fun vs H2 S2 hl hvs => k (v :: vs) H2 (S1.trans S2) (by rw [List.length_cons, hl]) fun z hz => by
    rcases List.mem_cons.mp hz with rfl | hz
    · exact hv.same (off_same S2)
    · exact hvs z hz⟩⟩
theorem go_tup {i n : Nat} {K : PySem.W.Frag} {es : List Expr} {x1 : Nat} {pos : PySem.Pos} (h : PA X es (tGos K i n)) (hn : n ≤ 100 := by decide) : PE X (.Tuple es x1 pos) (tGo K i) :=
  PE.ofAv (pe_tup h) fun σ H Q ⟨sa, ok, k⟩ => ⟨sa, ok, fun vs H1 S1 hl hv => ⟨by rw [hl]; exact Nat.le_of_lt (small1000 (by omega)), fun p np => by
    obtain ⟨o, ho⟩ := (ok.mono S1).src
    exact k (.ref p) _ (Same.new S1 np) (okv_tup (off_new ho np) fun z hz => (hv z hz).same (off_same (Same.new (Same.refl _) np)))⟩⟩
theorem go_lst {i n : Nat} {K : PySem.W.Frag} {es : List Expr} {pos : PySem.Pos} (h : PA X es (tGos K i n)) (hn : n ≤ 100 := by decide) : PE X (.List es pos) (tGo K i) :=
  PE.ofAv (pe_lst h) fun σ H Q ⟨sa, ok, k⟩ => ⟨sa, ok, fun vs H1 S1 hl hv => ⟨by rw [hl]; exact Nat.le_of_lt (small1000 (by omega)), fun p np => by
    obtain ⟨o, ho⟩ := (ok.mono S1).src
    exact k (.ref p) _ (Same.new S1 np) (okv_lst (off_new ho np) fun z hz => (hv z hz).same (off_same (Same.new (Same.refl _) np)))⟩⟩
theorem gol_lst {i n : Nat} {K : PySem.W.Frag} {es : List Expr} {pos : PySem.Pos} (h : PA X es (tGos K i n)) (hn : n ≤ 100 := by decide) : PE X (.List es pos) (tGoL K i n) :=
  PE.ofAv (pe_lst h) fun σ H Q ⟨sa, ok, k⟩ => ⟨sa, ok, fun vs H1 S1 hl hv => ⟨by rw [hl]; exact Nat.le_of_lt (small1000 (by omega)), fun p np =>
    k p vs _ (Same.new S1 np) upd_same hl fun z hz => (hv z hz).same (off_same (Same.new (Same.refl _) np))⟩⟩
/-- x not in a tuple -/
def rNotInT (K : PySem.W.Frag) : R2 := fun x y H Q => ∃ d ds, Dp K H x d ∧ Dp K H y (.tuple ds) ∧ SeqAt.shaped d = true ∧ PyData.canLayAll0 ds = true ∧ Q (.bl (!ds.any fun z => PyData.eqv z d)) H
theorem op_notInT (hu : X.A.units + 65 < cLine) : OpR X (compareOp .NotIn) (rNotInT X.K) := by
  intro pins s σ H x y v u Q I rx ry h
  obtain ⟨d, ds, hd, he, sd, se, q⟩ := h
  obtain ⟨as, r1⟩ := Dp.reads I d x v hd rx
  obtain ⟨bs, r2⟩ := Dp.reads I (.tuple ds) y u he ry
  exact SeqAt.notIn_tuple_reads r2 r1 se (SeqAt.canLay_of_shaped sd) (room_in_shaped sd hu) ⟨.bl _, H, I, rfl, q⟩
end
theorem pd_non {e : Expr} (K : PySem.W.Frag) {X : Cx} (h : PE X e (tC .non)) : PE X e (tDat K .none) := PE.ofD h fun _ H _ q => q _ H (Same.refl _) .non
/-! ### the pairs for fair -/
def pairD : List PyData := [.str "zz", .str "b", .str "", .none, .tuple [.tuple [.int 1, .str "c"]], .str "A", .int 5]
def otherD (d : PyData) : Bool := !([PyData.str "zz", .str "b"].any fun z => PyData.eqv z d)
def goodP (a b : PyData) : Bool := !PyData.eqv a b && decide ([a, b].filter otherD = [])
theorem pairD_shaped : ∀ d ∈ pairD, SeqAt.shaped d = true := by decide +kernel
theorem pairD_tame : ∀ d ∈ pairD, Tame d := by
  have st : ∀ s : Str, (decide (s.cps.size ≤ 1000) && s.cps.toList.all fun c => decide (c < 1114112)) = true → Tame (.str s) := fun s h => tame_str h
  intro d hd
  unfold pairD at hd
  simp only [List.mem_cons, List.not_mem_nil, or_false] at hd
  rcases hd with rfl | rfl | rfl | rfl | rfl | rfl | rfl
  · exact st _ (by decide +kernel)
  · exact st _ (by decide +kernel)
  · exact st _ (by decide +kernel)
  · exact .non
  · refine .tup _ fun x hx => ?_
    rw [List.mem_singleton.mp hx]
    refine .tup _ fun y hy => ?_
    have hy : y = .int 1 ∨ y = .str "c" := by simpa using hy
    rcases hy with rfl | rfl
    · exact .int 1
    · exact st _ (by decide +kernel)
  · exact st _ (by decide +kernel)
  · exact .int 5
def tDats2 (K : PySem.W.Frag) : TE := tDat K (.list pairD)
abbrev tPk2 (n : Int) : TE := tCall spPick [] E0 (tCons (tVar 2) (tCons (tC (.int n)) tNil))
def fairT1 (ns : List Str) : Tr := .mix (ns.map fun n => (1, .feed n))
theorem fairT1_data (ns : List Str) : (fairT1 ns).data = fairD ns := by
  unfold fairT1 fairD
  rw [Tr.data, Tr.dataL_eq, List.map_map]
  congr 1
theorem fairT1_names (ns : List Str) : (fairT1 ns).names = ns := by
  unfold fairT1
  rw [Tr.names_mix, List.map_map]
  induction ns with
  | nil => rfl
  | cons n r ih =>
    rw [List.map_cons, List.flatten_cons, ih]
    show (Tr.feed n).names ++ r = _
    rw [Tr.names_feed]
    rfl
theorem fair_tree {ns : List Str} : (∃ t : Tr, t.data = fairD ns ∧ TreeV t) ↔ TreeV (fairT1 ns) := by
  constructor
  · rintro ⟨t, e, hV⟩
    rw [← fairT1_data] at e
    rw [← data_inj t _ e]
    exact hV
  · exact fun h => ⟨_, fairT1_data ns, h⟩
theorem fair_tree2 {a b : Str} (h : (okName a && (okName b && decide (a ≠ b))) = true) : TreeV (fairT1 [a, b]) := by
  rw [Bool.and_eq_true, Bool.and_eq_true] at h
  obtain ⟨h1, h2, h3⟩ := h
  have ne := of_decide_eq_true h3
  refine ⟨?_, by rw [fairT1_names]; simpa using ne, by rw [fairT1_names]; show 2 ≤ 8; decide, fun n hn => ?_⟩
  · unfold fairT1
    simp [Tr.wf]
  · rw [fairT1_names] at hn
    have hn : n = a ∨ n = b := by simpa using hn
    rcases hn with rfl | rfl
    · exact ⟨h1, by have := tr_low.okName_low h1; omega⟩
    · exact ⟨h2, by have := tr_low.okName_low h2; omega⟩
theorem fair_not2 {a b : Str} (h : (okName a && (okName b && decide (a ≠ b))) = false) : ¬ TreeV (fairT1 [a, b]) := fun hV => by
  have e := fairT1_names [a, b]
  have n1 := (hV.nm a (by rw [e]; simp)).1
  have n2 := (hV.nm b (by rw [e]; simp)).1
  have n3 := hV.nd
  rw [e] at n3
  have n4 : a ≠ b := by simpa using n3
  rw [n1, n2, decide_eq_true n4] at h
  cases h
def strOf : PyData → Str
  | .str s => s
  | _ => ""
def pairB (a b : PyData) : Bool := isStrD a && isStrD b && (okName (strOf a) && (okName (strOf b) && decide (strOf a ≠ strOf b)))
theorem pair_all : (pairD.all fun a => pairD.all fun b => goodP a b == pairB a b) = true := by decide +kernel
theorem pair_good {a b : PyData} (ha : a ∈ pairD) (hb : b ∈ pairD) : goodP a b = pairB a b := by
  have h := pair_all
  rw [List.all_eq_true] at h
  have h := h a ha
  rw [List.all_eq_true] at h
  exact beq_iff_eq.mp (h b hb)
end Mx
set_option Elab.async false
set_option maxRecDepth 100000
set_option linter.all false
/-! what the functions raise whose arguments are odd (written by genOdd.py) -/
namespace Mx
open PySem L2
section
variable {P : Program} {w : World} {K : PySem.W.Frag} {mg : Str → Option Value} {base : Heap}
theorem scO_feeds_of : FnScope ["tree"] ["tree"] (defScope sFeedsOf) := ⟨rfl, rfl, rfl, by decide +kernel, rfl, by decide +kernel, by decide +kernel⟩
theorem ok_feeds_of_E1 {f : Addr} {fd : FuncData} (F : Fun K "feeds_of" "feeds_of" sFeedsOf f fd) {fT CT : Addr} {dT : FuncData} (DT : Def K mg "require_tree" sReqTree ["value"] fT dT) (GT : FnOk P w K mg base (L2N.CX P w) 12 fT dT ["value"] (spTBad K CT)) : FnOk P w K mg base (L2N.CX P w) 21 f fd ["tree"] (spE1 K CT 1) := by
  refine okN F scO_feeds_of (fun vs H Q E h => ?_) (fun cdv A outer s H vs Q E hr h => ?_)
  · obtain ⟨x, rest, d, rfl, hn, hD, hS, hx, k⟩ := h
    simpa using hn
  · obtain ⟨x, rest, d, rfl, hn, hD, hS, hx, k⟩ := h
    refine ⟨_, pss_cons (ps_expr (pe_call GT (hr.mono (by decide)) rfl DT.mg DT.fn.kp DT.b .nil (L2N.passes_call (L2N.takes_of rfl rfl rfl rfl) (fun _ _ _ _ h => h)) (pa_cons (pv 0) pa_nil))) pss_no, ?_⟩
    exact ⟨_, rfl, x, d, rfl, hD, hS, hx, k⟩
theorem scO_plain : FnScope ["tree"] ["tree"] (defScope s_plain) := ⟨rfl, rfl, rfl, by decide +kernel, rfl, by decide +kernel, by decide +kernel⟩
theorem ok_plain_E1 {f : Addr} {fd : FuncData} (F : Fun K "plain" "plain" s_plain f fd) {fT CT : Addr} {dT : FuncData} (DT : Def K mg "require_tree" sReqTree ["value"] fT dT) (GT : FnOk P w K mg base (L2N.CX P w) 12 fT dT ["value"] (spTBad K CT)) : FnOk P w K mg base (L2N.CX P w) 21 f fd ["tree"] (spE1 K CT 1) := by
  refine okN F scO_plain (fun vs H Q E h => ?_) (fun cdv A outer s H vs Q E hr h => ?_)
  · obtain ⟨x, rest, d, rfl, hn, hD, hS, hx, k⟩ := h
    simpa using hn
  · obtain ⟨x, rest, d, rfl, hn, hD, hS, hx, k⟩ := h
    refine ⟨_, pss_cons (ps_expr (pe_call GT (hr.mono (by decide)) rfl DT.mg DT.fn.kp DT.b .nil (L2N.passes_call (L2N.takes_of rfl rfl rfl rfl) (fun _ _ _ _ h => h)) (pa_cons (pv 0) pa_nil))) pss_no, ?_⟩
    exact ⟨_, rfl, x, d, rfl, hD, hS, hx, k⟩
theorem scO_period : FnScope ["tree"] ["tree"] (defScope s_period) := ⟨rfl, rfl, rfl, by decide +kernel, rfl, by decide +kernel, by decide +kernel⟩
theorem ok_period_E1 {f : Addr} {fd : FuncData} (F : Fun K "period" "period" s_period f fd) {fT CT : Addr} {dT : FuncData} (DT : Def K mg "require_tree" sReqTree ["value"] fT dT) (GT : FnOk P w K mg base (L2N.CX P w) 12 fT dT ["value"] (spTBad K CT)) : FnOk P w K mg base (L2N.CX P w) 21 f fd ["tree"] (spE1 K CT 1) := by
  refine okN F scO_period (fun vs H Q E h => ?_) (fun cdv A outer s H vs Q E hr h => ?_)
  · obtain ⟨x, rest, d, rfl, hn, hD, hS, hx, k⟩ := h
    simpa using hn
  · obtain ⟨x, rest, d, rfl, hn, hD, hS, hx, k⟩ := h
    refine ⟨_, pss_cons (ps_expr (pe_call GT (hr.mono (by decide)) rfl DT.mg DT.fn.kp DT.b .nil (L2N.passes_call (L2N.takes_of rfl rfl rfl rfl) (fun _ _ _ _ h => h)) (pa_cons (pv 0) pa_nil))) pss_no, ?_⟩
    exact ⟨_, rfl, x, d, rfl, hD, hS, hx, k⟩
theorem scO_restricted : FnScope ["tree", "names"] ["tree", "names"] (defScope s_restricted) := ⟨rfl, rfl, rfl, by decide +kernel, rfl, by decide +kernel, by decide +kernel⟩
theorem ok_restricted_E1 {f : Addr} {fd : FuncData} (F : Fun K "restricted" "restricted" s_restricted f fd) {fT CT : Addr} {dT : FuncData} (DT : Def K mg "require_tree" sReqTree ["value"] fT dT) (GT : FnOk P w K mg base (L2N.CX P w) 12 fT dT ["value"] (spTBad K CT)) : FnOk P w K mg base (L2N.CX P w) 21 f fd ["tree", "names"] (spE1 K CT 2) := by
  refine okN F scO_restricted (fun vs H Q E h => ?_) (fun cdv A outer s H vs Q E hr h => ?_)
  · obtain ⟨x, rest, d, rfl, hn, hD, hS, hx, k⟩ := h
    simpa using hn
  · obtain ⟨x, rest, d, rfl, hn, hD, hS, hx, k⟩ := h
    refine ⟨_, pss_cons (ps_expr (pe_call GT (hr.mono (by decide)) rfl DT.mg DT.fn.kp DT.b .nil (L2N.passes_call (L2N.takes_of rfl rfl rfl rfl) (fun _ _ _ _ h => h)) (pa_cons (pv 0) pa_nil))) pss_no, ?_⟩
    exact ⟨_, rfl, x, d, rfl, hD, hS, hx, k⟩
theorem scO_place_of : FnScope ["tree", "lengths", "item", "name", "index"] ["tree", "lengths", "item"] (defScope s_place_of) := ⟨rfl, rfl, rfl, by decide +kernel, rfl, by decide +kernel, by decide +kernel⟩
theorem ok_place_of_E1 {f : Addr} {fd : FuncData} (F : Fun K "place_of" "place_of" s_place_of f fd) {fT CT : Addr} {dT : FuncData} (DT : Def K mg "require_tree" sReqTree ["value"] fT dT) (GT : FnOk P w K mg base (L2N.CX P w) 12 fT dT ["value"] (spTBad K CT)) : FnOk P w K mg base (L2N.CX P w) 21 f fd ["tree", "lengths", "item"] (spE1 K CT 3) := by
  refine okN F scO_place_of (fun vs H Q E h => ?_) (fun cdv A outer s H vs Q E hr h => ?_)
  · obtain ⟨x, rest, d, rfl, hn, hD, hS, hx, k⟩ := h
    simpa using hn
  · obtain ⟨x, rest, d, rfl, hn, hD, hS, hx, k⟩ := h
    refine ⟨_, pss_cons (ps_expr (pe_call GT (hr.mono (by decide)) rfl DT.mg DT.fn.kp DT.b .nil (L2N.passes_call (L2N.takes_of rfl rfl rfl rfl) (fun _ _ _ _ h => h)) (pa_cons (pv 0) pa_nil))) pss_no, ?_⟩
    exact ⟨_, rfl, x, d, rfl, hD, hS, hx, k⟩
theorem scO_item_at : FnScope ["tree", "lengths", "place", "by_name", "before", "after", "added"] ["tree", "lengths", "place"] (defScope s_item_at) := ⟨rfl, rfl, rfl, by decide +kernel, rfl, by decide +kernel, by decide +kernel⟩
theorem ok_item_at_E1 {f : Addr} {fd : FuncData} (F : Fun K "item_at" "item_at" s_item_at f fd) {fT CT : Addr} {dT : FuncData} (DT : Def K mg "require_tree" sReqTree ["value"] fT dT) (GT : FnOk P w K mg base (L2N.CX P w) 12 fT dT ["value"] (spTBad K CT)) : FnOk P w K mg base (L2N.CX P w) 21 f fd ["tree", "lengths", "place"] (spE1 K CT 3) := by
  refine okN F scO_item_at (fun vs H Q E h => ?_) (fun cdv A outer s H vs Q E hr h => ?_)
  · obtain ⟨x, rest, d, rfl, hn, hD, hS, hx, k⟩ := h
    simpa using hn
  · obtain ⟨x, rest, d, rfl, hn, hD, hS, hx, k⟩ := h
    refine ⟨_, pss_cons (ps_expr (pe_call GT (hr.mono (by decide)) rfl DT.mg DT.fn.kp DT.b .nil (L2N.passes_call (L2N.takes_of rfl rfl rfl rfl) (fun _ _ _ _ h => h)) (pa_cons (pv 0) pa_nil))) pss_no, ?_⟩
    exact ⟨_, rfl, x, d, rfl, hD, hS, hx, k⟩
theorem scO_counts_in : FnScope ["tree", "lengths", "many"] ["tree", "lengths", "many"] (defScope s_counts_in) := ⟨rfl, rfl, rfl, by decide +kernel, rfl, by decide +kernel, by decide +kernel⟩
theorem ok_counts_in_E1 {f : Addr} {fd : FuncData} (F : Fun K "counts_in" "counts_in" s_counts_in f fd) {fT CT : Addr} {dT : FuncData} (DT : Def K mg "require_tree" sReqTree ["value"] fT dT) (GT : FnOk P w K mg base (L2N.CX P w) 12 fT dT ["value"] (spTBad K CT)) : FnOk P w K mg base (L2N.CX P w) 21 f fd ["tree", "lengths", "many"] (spE1 K CT 3) := by
  refine okN F scO_counts_in (fun vs H Q E h => ?_) (fun cdv A outer s H vs Q E hr h => ?_)
  · obtain ⟨x, rest, d, rfl, hn, hD, hS, hx, k⟩ := h
    simpa using hn
  · obtain ⟨x, rest, d, rfl, hn, hD, hS, hx, k⟩ := h
    refine ⟨_, pss_cons (ps_expr (pe_call GT (hr.mono (by decide)) rfl DT.mg DT.fn.kp DT.b .nil (L2N.passes_call (L2N.takes_of rfl rfl rfl rfl) (fun _ _ _ _ h => h)) (pa_cons (pv 0) pa_nil))) pss_no, ?_⟩
    exact ⟨_, rfl, x, d, rfl, hD, hS, hx, k⟩
theorem scO_lengths_for : FnScope ["tree", "seen", "lengths", "name"] ["tree", "seen"] (defScope s_lengths_for) := ⟨rfl, rfl, rfl, by decide +kernel, rfl, by decide +kernel, by decide +kernel⟩
theorem ok_lengths_for_E1 {f : Addr} {fd : FuncData} (F : Fun K "lengths_for" "lengths_for" s_lengths_for f fd) {fT CT : Addr} {dT : FuncData} (DT : Def K mg "require_tree" sReqTree ["value"] fT dT) (GT : FnOk P w K mg base (L2N.CX P w) 12 fT dT ["value"] (spTBad K CT)) : FnOk P w K mg base (L2N.CX P w) 21 f fd ["tree", "seen"] (spE1 K CT 2) := by
  refine okN F scO_lengths_for (fun vs H Q E h => ?_) (fun cdv A outer s H vs Q E hr h => ?_)
  · obtain ⟨x, rest, d, rfl, hn, hD, hS, hx, k⟩ := h
    simpa using hn
  · obtain ⟨x, rest, d, rfl, hn, hD, hS, hx, k⟩ := h
    refine ⟨_, pss_cons (ps_expr (pe_call GT (hr.mono (by decide)) rfl DT.mg DT.fn.kp DT.b .nil (L2N.passes_call (L2N.takes_of rfl rfl rfl rfl) (fun _ _ _ _ h => h)) (pa_cons (pv 0) pa_nil))) pss_no, ?_⟩
    exact ⟨_, rfl, x, d, rfl, hD, hS, hx, k⟩
theorem ok_lengths_for_S2 {f : Addr} {fd : FuncData} (F : Fun K "lengths_for" "lengths_for" s_lengths_for f fd) {fT : Addr} {dT : FuncData} (DT : Def K mg "require_tree" sReqTree ["value"] fT dT) (GT : FnOk P w K mg base CX0 12 fT dT ["value"] (spReqTree K)) {fN fS CS : Addr} {dN dS : FuncData} (DN : Def K mg "names_in" sNamesIn ["tree"] fN dN) (GN : FnOk P w K mg base CX0 6 fN dN ["tree"] (spNames K 4)) (DS : Def K mg "require_seen" s_require_seen ["allowed", "value"] fS dS) (GS : FnOk P w K mg base (L2N.CX P w) 1 fS dS ["allowed", "value"] (spOr (spReqSeen K CS) (spSBad K CS))) : FnOk P w K mg base (L2N.CX P w) 21 f fd ["tree", "seen"] (spS2 K CS) := by
  refine okN F scO_lengths_for (fun vs H Q E h => ?_) (fun cdv A outer s H vs Q E hr h => ?_)
  · obtain ⟨v, y, t, rfl, hT, hV, hy, k⟩ := h
    rfl
  · obtain ⟨v, y, t, rfl, hT, hV, hy, k⟩ := h
    refine ⟨_, pss_cons (ps_expr (pe_call GT (hr.mono (by decide)) rfl DT.mg DT.fn.kp DT.b .nil pass0 (pa_cons (pv 0) pa_nil))) (pss_cons (ps_expr (pe_call GS (hr.mono (by decide)) rfl DS.mg DS.fn.kp DS.b .nil (L2N.passes_call (L2N.takes_of rfl rfl rfl rfl) (fun _ _ _ _ h => h)) (pa_cons (pe_call GN (hr.mono (by decide)) rfl DN.mg DN.fn.kp DN.b .nil pass0 (pa_cons (pv 0) pa_nil)) (pa_cons (pv 1) pa_nil)))) pss_no), ?_⟩
    refine ⟨_, rfl, v, t, rfl, hT, hV, fun H1 S1 => ⟨_, rfl, v, t, rfl, TrAt.keep (sqT_same S1) _ hT, hV.wf, by have := hV.len; omega, fun p H2 S2 np hp => ⟨_, rfl, ?_⟩⟩⟩
    have S02 := S1.trans S2
    have bad : ∀ H', Same H2 H' → E (.ref CS) none H' := fun H' S => k H' (S02.trans S)
    cases hy.same S02 with
    | non => exact .inl ⟨p, _, _, rfl, .inl (SqL.of hp), flat_strs, .inr ⟨.inl (.inl rfl), bad⟩⟩
    | bl b => exact .inr ⟨_, _, rfl, .inl ⟨b, rfl⟩, bad⟩
    | int i h => exact .inr ⟨_, _, rfl, .inr ⟨i, rfl⟩, bad⟩
    | str z h hs hc => exact .inl ⟨p, _, _, rfl, .inl (SqL.of hp), flat_strs, .inr ⟨.inl (.inr (.inl ⟨z, rfl⟩)), bad⟩⟩
    | tup hs => exact .inl ⟨p, _, _, rfl, .inl (SqL.of hp), flat_strs, .inr ⟨.inr (.inr ⟨_, _, rfl, hs, by decide, rfl, .int 1, List.mem_cons_self, inV_other fun n e => by cases e⟩), bad⟩⟩
theorem scO_difference : FnScope ["one", "other", "names", "chosen", "lengths"] ["one", "other"] (defScope s_difference) := ⟨rfl, rfl, rfl, by decide +kernel, rfl, by decide +kernel, by decide +kernel⟩
theorem ok_difference_E1 {f : Addr} {fd : FuncData} (F : Fun K "difference" "difference" s_difference f fd) {fT CT : Addr} {dT : FuncData} (DT : Def K mg "require_tree" sReqTree ["value"] fT dT) (GT : FnOk P w K mg base (L2N.CX P w) 12 fT dT ["value"] (spTBad K CT)) : FnOk P w K mg base (L2N.CX P w) 21 f fd ["one", "other"] (spE1 K CT 2) := by
  refine okN F scO_difference (fun vs H Q E h => ?_) (fun cdv A outer s H vs Q E hr h => ?_)
  · obtain ⟨x, rest, d, rfl, hn, hD, hS, hx, k⟩ := h
    simpa using hn
  · obtain ⟨x, rest, d, rfl, hn, hD, hS, hx, k⟩ := h
    refine ⟨_, pss_cons (ps_expr (pe_call GT (hr.mono (by decide)) rfl DT.mg DT.fn.kp DT.b .nil (L2N.passes_call (L2N.takes_of rfl rfl rfl rfl) (fun _ _ _ _ h => h)) (pa_cons (pv 0) pa_nil))) pss_no, ?_⟩
    exact ⟨_, rfl, x, d, rfl, hD, hS, hx, k⟩
theorem ok_difference_T2 {f : Addr} {fd : FuncData} (F : Fun K "difference" "difference" s_difference f fd) {fT CT : Addr} {dT : FuncData} (DT : Def K mg "require_tree" sReqTree ["value"] fT dT) (GT : FnOk P w K mg base CX0 12 fT dT ["value"] (spReqTree K)) (GB : FnOk P w K mg base (L2N.CX P w) 12 fT dT ["value"] (spTBad K CT)) : FnOk P w K mg base (L2N.CX P w) 21 f fd ["one", "other"] (spT2 K CT) := by
  refine okN F scO_difference (fun vs H Q E h => ?_) (fun cdv A outer s H vs Q E hr h => ?_)
  · obtain ⟨v, y, t, d, rfl, hT, hV, hD, hS, hx, k⟩ := h
    rfl
  · obtain ⟨v, y, t, d, rfl, hT, hV, hD, hS, hx, k⟩ := h
    refine ⟨_, pss_cons (ps_expr (pe_call GT (hr.mono (by decide)) rfl DT.mg DT.fn.kp DT.b .nil pass0 (pa_cons (pv 0) pa_nil))) (pss_cons (ps_expr (pe_call GB (hr.mono (by decide)) rfl DT.mg DT.fn.kp DT.b .nil (L2N.passes_call (L2N.takes_of rfl rfl rfl rfl) (fun _ _ _ _ h => h)) (pa_cons (pv 1) pa_nil))) pss_no), ?_⟩
    exact ⟨_, rfl, v, t, rfl, hT, hV, fun H1 S1 => ⟨_, rfl, y, d, rfl, hD.same S1, hS, hx, fun H2 S2 => k H2 (S1.trans S2)⟩⟩
end
end Mx
set_option Elab.async false
set_option maxRecDepth 100000
set_option linter.all false
/-! periods of endless rows -/
namespace Mx
open PySem L2
section
variable {α : Type}
theorem rnd_dropn (m j : Nat) (rows : Rows α) : rnd j (dropn m rows) = rnd (m + j) rows := by
  unfold rnd dropn
  rw [List.map_map]
  congr 1
  refine List.map_congr_left fun p _ => ?_
  show ((p.2.drop (p.1 * m)).drop (p.1 * j)).take p.1 = _
  rw [List.drop_drop, ← Nat.mul_add]
theorem rndsTo_add (m : Nat) (rows : Rows α) : ∀ r, rndsTo (m + r) rows = rndsTo m rows ++ rndsTo r (dropn m rows)
  | 0 => by
    show rndsTo m rows = rndsTo m rows ++ rndsTo 0 (dropn m rows)
    have : rndsTo 0 (dropn m rows) = [] := rfl
    rw [this, List.append_nil]
  | r + 1 => by
    rw [← Nat.add_assoc, rndsTo_succ, rndsTo_add m rows r, rndsTo_succ, rnd_dropn, List.append_assoc]
end
/-- the sum of the weights of a mixer -/
def wW (ps : List (Int × Tr)) : Nat := (ps.map fun p => p.1.toNat).sum
/-- a period, as it is put together -/
inductive Per : Tr → Nat → Prop
  | feed (s : Str) (n : Nat) : Per (.feed s) n
  | mix {ps : List (Int × Tr)} (m : Nat) (h : ∀ p ∈ ps, Per p.2 (p.1.toNat * m)) : Per (.mix ps) (wW ps * m)
theorem wW_pos {d : Nat} {ps : List (Int × Tr)} (h : (Tr.mix ps).wf (d + 1)) : 0 < wW ps := by
  unfold Tr.wf at h
  unfold wW
  match ps, h with
  | [], h => exact absurd rfl h.1
  | p :: rest, h =>
    have := (h.2.2 p List.mem_cons_self).1
    rw [List.map_cons, List.sum_cons]
    omega
/-- the row goes on behind a period as it began -/
theorem Per.drop {t : Tr} {P : Nat} (h : Per t P) : ∀ {d : Nat}, t.wf d → ∀ n, (t.row (n + P)).drop P = t.row n := by
  induction h with
  | feed s n =>
    intro d _ k
    rw [Tr.row, Tr.row, List.drop_replicate, Nat.add_sub_cancel]
  | @mix ps m hper ih =>
    intro d hw n
    cases d with
    | zero => unfold Tr.wf at hw; exact hw.elim
    | succ d =>
      have pos := wW_pos hw
      have er : (n + wW ps * m) / (ps.map fun p => p.1.toNat).sum + 1 = m + (n / wW ps + 1) := by
        show (n + wW ps * m) / wW ps + 1 = _
        rw [Nat.add_mul_div_left _ _ pos]
        omega
      rw [Tr.row, Tr.row, er]
      show ((rndsTo (m + (n / wW ps + 1)) (Tr.rowL ps (m + (n / wW ps + 1)))).take (n + wW ps * m)).drop (wW ps * m) = (rndsTo (n / wW ps + 1) (Tr.rowL ps (n / wW ps + 1))).take n
      have full : ∀ p ∈ Tr.rowL ps (m + (n / wW ps + 1)), p.1 * (m + (n / wW ps + 1)) ≤ p.2.length := fun p hp => by
        rw [Tr.rowL_eq] at hp
        obtain ⟨q, hq, rfl⟩ := List.mem_map.mp hp
        show q.1.toNat * _ ≤ (q.2.row _).length
        rw [row_len (wf_part hw hq)]
        exact Nat.le_refl _
      have len := rndsTo_full full m (Nat.le_add_right _ _)
      have ew : wsum (Tr.rowL ps (m + (n / wW ps + 1))) = wW ps := by
        unfold wsum wW
        rw [Tr.rowL_eq, List.map_map]
        rfl
      rw [ew] at len
      have ed : dropn m (Tr.rowL ps (m + (n / wW ps + 1))) = Tr.rowL ps (n / wW ps + 1) := by
        unfold dropn
        rw [Tr.rowL_eq, Tr.rowL_eq, List.map_map]
        refine List.map_congr_left fun p hp => ?_
        show (p.1.toNat, (p.2.row (p.1.toNat * (m + (n / wW ps + 1)))).drop (p.1.toNat * m)) = _
        rw [Nat.mul_add, Nat.add_comm (p.1.toNat * m), ih p hp (wf_part hw hp)]
      rw [rndsTo_add, ed, List.drop_take, List.drop_append_of_le_length (by omega), List.drop_of_length_le (by omega), List.nil_append, Nat.add_sub_cancel]
end Mx
set_option Elab.async false
set_option maxRecDepth 100000
set_option linter.all false
/-! mixers of one part, feeds that are left out -/
namespace Mx
open PySem L2
section
variable {α : Type}
/-- b: a without some rows that have no items -/
inductive Skip : Rows α → Rows α → Prop
  | nil : Skip [] []
  | keep {r : Nat × List α} {a b : Rows α} (h : Skip a b) : Skip (r :: a) (r :: b)
  | drop {w : Nat} {a b : Rows α} (h : Skip a b) : Skip ((w, []) :: a) b
theorem Skip.same {a b : Rows α} (h : Skip a b) : tot a = tot b ∧ rnd0 a = rnd0 b ∧ Skip (dropw a) (dropw b) := by
  induction h with
  | nil => exact ⟨rfl, rfl, .nil⟩
  | keep h ih =>
    obtain ⟨i1, i2, i3⟩ := ih
    rw [tot_cons, tot_cons, rnd0_cons, rnd0_cons, dropw_cons, dropw_cons, i1, i2]
    exact ⟨rfl, rfl, .keep i3⟩
  | @drop w a b h ih =>
    obtain ⟨i1, i2, i3⟩ := ih
    rw [tot_cons, rnd0_cons, dropw_cons, i1, i2]
    refine ⟨by simp, by simp, ?_⟩
    have e : ((w, ([] : List α).drop w) : Nat × List α) = (w, []) := by simp
    show Skip ((w, ([] : List α).drop w) :: dropw a) (dropw b)
    rw [e]
    exact .drop i3
end
mutual
/-- the tree without mixers of one part -/
def Tr.plain : Tr → Tr
  | .feed s => .feed s
  | .mix ps => match Tr.plainL ps with
    | [(_, t)] => t
    | qs => .mix qs
def Tr.plainL : List (Int × Tr) → List (Int × Tr)
  | [] => []
  | (w, t) :: r => (w, t.plain) :: Tr.plainL r
end
theorem Tr.plainL_eq : ∀ ps : List (Int × Tr), Tr.plainL ps = ps.map fun p => (p.1, p.2.plain)
  | [] => by rw [Tr.plainL]; rfl
  | (w, t) :: r => by rw [Tr.plainL, Tr.plainL_eq r]; rfl
mutual
/-- what is left of a tree, if anything -/
def Tr.left (S : Str → Bool) : Tr → Option Tr
  | .feed s => if S s = true then some (.feed s) else none
  | .mix ps => match Tr.leftL S ps with
    | [] => none
    | qs => some (.mix qs)
def Tr.leftL (S : Str → Bool) : List (Int × Tr) → List (Int × Tr)
  | [] => []
  | (w, t) :: r => match t.left S with
    | none => Tr.leftL S r
    | some u => (w, u) :: Tr.leftL S r
end
end Mx
set_option Elab.async false
set_option maxRecDepth 100000
set_option linter.all false
/-! every period is one by its making -/
set_option Elab.async false
set_option maxRecDepth 100000
set_option linter.all false
/-! every period of the row of a tree without mixers of one part is one by its making -/
namespace Mx
open PySem L2
def Tr.two : Nat → Tr → Prop
  | _, .feed _ => True
  | 0, .mix _ => False
  | d + 1, .mix ps => 2 ≤ ps.length ∧ ∀ p ∈ ps, Tr.two d p.2
/-- the k-th name of the endless row -/
def Tr.nm (t : Tr) (k : Nat) : Option Str := (t.row (k + 1))[k]?
end Mx
set_option Elab.async false
set_option maxRecDepth 100000
set_option linter.all false
/-! the smallest period -/
namespace Mx
open PySem L2
def lcmL (l : List Nat) : Nat := l.foldr Nat.lcm 1
theorem lcmL_pos : ∀ {l : List Nat}, (∀ x ∈ l, 0 < x) → 0 < lcmL l
  | [], _ => Nat.one_pos
  | x :: r, h => Nat.lcm_pos (h x List.mem_cons_self) (lcmL_pos fun y hy => h y (List.mem_cons_of_mem _ hy))
mutual
def Tr.per : Tr → Nat
  | .feed _ => 1
  | .mix ps => wW ps * lcmL (Tr.perL ps)
def Tr.perL : List (Int × Tr) → List Nat
  | [] => []
  | (w, t) :: r => (t.per / Nat.gcd t.per w.toNat) :: Tr.perL r
end
theorem Tr.perL_eq : ∀ ps : List (Int × Tr), Tr.perL ps = ps.map fun p => p.2.per / Nat.gcd p.2.per p.1.toNat
  | [] => by rw [Tr.perL]; rfl
  | (w, t) :: r => by rw [Tr.perL, Tr.perL_eq r]; rfl
theorem per_pos : ∀ (d : Nat) {t : Tr}, t.wf d → 0 < t.per
  | d, .feed s, _ => by rw [Tr.per]; exact Nat.one_pos
  | 0, .mix ps, h => by unfold Tr.wf at h; exact h.elim
  | d + 1, .mix ps, h => by
    rw [Tr.per, Tr.perL_eq]
    refine Nat.mul_pos (wW_pos h) (lcmL_pos fun x hx => ?_)
    obtain ⟨p, hp, rfl⟩ := List.mem_map.mp hx
    have q := per_pos d (wf_part h hp)
    exact Nat.div_pos (Nat.le_of_dvd q (Nat.gcd_dvd_left _ _)) (Nat.gcd_pos_of_pos_left _ q)
end Mx
set_option Elab.async false
set_option maxRecDepth 100000
set_option linter.all false
/-! the row of the tree without mixers of one part -/
namespace Mx
open PySem L2
theorem wf_mono : ∀ (d : Nat) {t : Tr}, t.wf d → t.wf (d + 1)
  | d, .feed s, _ => by unfold Tr.wf; trivial
  | 0, .mix ps, h => by unfold Tr.wf at h; exact h.elim
  | d + 1, .mix ps, h => by
    unfold Tr.wf at h ⊢
    exact ⟨h.1, h.2.1, fun p hp => ⟨(h.2.2 p hp).1, (h.2.2 p hp).2.1, wf_mono d (h.2.2 p hp).2.2⟩⟩
theorem two_mono : ∀ (d : Nat) {t : Tr}, t.two d → t.two (d + 1)
  | d, .feed s, _ => by unfold Tr.two; trivial
  | 0, .mix ps, h => by unfold Tr.two at h; exact h.elim
  | d + 1, .mix ps, h => by
    unfold Tr.two at h ⊢
    exact ⟨h.1, fun p hp => two_mono d (h.2 p hp)⟩
theorem plain_ok : ∀ (d : Nat) {t : Tr}, t.wf d → t.plain.wf d ∧ t.plain.two d ∧ t.plain.names = t.names
  | d, .feed s, _ => by
    rw [Tr.plain]
    exact ⟨by unfold Tr.wf; trivial, by unfold Tr.two; trivial, rfl⟩
  | 0, .mix ps, h => by unfold Tr.wf at h; exact h.elim
  | d + 1, .mix ps, h => by
    rw [Tr.plain, Tr.plainL_eq]
    have ih : ∀ p ∈ ps, p.2.plain.wf d ∧ p.2.plain.two d ∧ p.2.plain.names = p.2.names := fun p hp => plain_ok d (wf_part h hp)
    match ps, h, ih with
    | [], h, _ => unfold Tr.wf at h; exact absurd rfl h.1
    | [p], h, ih =>
      obtain ⟨h1, h2, h3⟩ := ih p List.mem_cons_self
      refine ⟨wf_mono d h1, two_mono d h2, ?_⟩
      show p.2.plain.names = _
      rw [h3, Tr.names_mix]
      simp
    | p :: q :: r, h, ih =>
      show (Tr.mix ((p :: q :: r).map fun p => (p.1, p.2.plain))).wf (d + 1) ∧ (Tr.mix ((p :: q :: r).map fun p => (p.1, p.2.plain))).two (d + 1) ∧ (Tr.mix ((p :: q :: r).map fun p => (p.1, p.2.plain))).names = _
      refine ⟨?_, ?_, ?_⟩
      · unfold Tr.wf at h ⊢
        refine ⟨by simp, by rw [List.length_map]; exact h.2.1, fun x hx => ?_⟩
        obtain ⟨y, hy, rfl⟩ := List.mem_map.mp hx
        exact ⟨(h.2.2 y hy).1, (h.2.2 y hy).2.1, (ih y hy).1⟩
      · unfold Tr.two
        refine ⟨by simp, fun x hx => ?_⟩
        obtain ⟨y, hy, rfl⟩ := List.mem_map.mp hx
        exact (ih y hy).2.1
      · rw [Tr.names_mix, Tr.names_mix, List.map_map]
        congr 1
        refine List.map_congr_left fun y hy => ?_
        exact (ih y hy).2.2
end Mx
set_option Elab.async false
set_option maxRecDepth 100000
set_option linter.all false
/-! without_single_parts, _law_plain -/
namespace Mx
open PySem L2
theorem plain_one (p : Int × Tr) : (Tr.mix [p]).plain = p.2.plain := by rw [Tr.plain, Tr.plainL_eq]; rfl
theorem plain_more {ps : List (Int × Tr)} (h : ps.length ≠ 1) : (Tr.mix ps).plain = .mix (ps.map fun p => (p.1, p.2.plain)) := by
  rw [Tr.plain, Tr.plainL_eq]
  match ps, h with
  | [], _ => rfl
  | [p], h => exact absurd rfl h
  | p :: q :: r, _ => rfl
def spPlainP (K : PySem.W.Frag) (d : Nat) : Sp := fun vs H Q _ => ∃ (v : V) (t : Tr), vs = [v] ∧ TrAt K H d v t ∧ t.wf d ∧ ∀ (v' : V) (H' : Hp), Same H H' → TrAt K H' d v' t.plain → Q v' H'
section
variable {P : Program} {w : World} {K : PySem.W.Frag} {mg : Str → Option Value} {base : Heap}
def nWS : List Str := ["tree", "weight", "part"]
theorem scWS : FnScope nWS ["tree"] (defScope s_without_single_parts) := ⟨rfl, rfl, rfl, by decide +kernel, rfl, by decide +kernel, by decide +kernel⟩
theorem single_step {d : Nat} {f : Addr} {fd : FuncData} (F : Def K mg "without_single_parts" s_without_single_parts ["tree"] f fd) (B : Blt mg) (GR : FnOk P w K mg base CX0 (d + 1) f fd ["tree"] (pre (spPlainP K) d)) :
    FnOk P w K mg base CX0 (d + 2) f fd ["tree"] (spPlainP K d) := by
  refine F.fn.ok scWS (fun vs H Q E h => ?_) (fun cdv A outer s H vs Q E hr h => ?_)
  · obtain ⟨v, t, rfl, _⟩ := h
    rfl
  · obtain ⟨v, t, rfl, hT, hW, k⟩ := h
    refine ⟨_, pss_cons (ps_if (pt_val (pe_callB call_isi (by rfl) B.isinstance (by decide +kernel) (pa_cons (pv 0) (pa_cons (pe_bltn (v := .ty "str") (by rfl) B.str (by decide +kernel) rfl) pa_nil)))) (pss_one (ps_ret (pv 0))) pss_nil)
      (pss_cons (ps_if (pt_cmpR op_eq (pe_callB call_len_seq (by rfl) B.len PySem.boot_len (pa_cons (pv 0) pa_nil)) pe_int (nomark _))
        (pss_cons (ps_asg (pe_ix ix_tup (pv 0) pe_int (fun _ _ => rfl)) (pg_tup (by rfl) (pgs_cons (pg_name (i := 1) scWS.nd rfl (Or.inl rfl)) (pgs_cons (pg_name (i := 2) scWS.nd rfl (Or.inl rfl)) pgs_nil))))
          (pss_one (ps_ret (pe_call GR hr rfl F.mg F.fn.kp F.b .nil pass0 (pa_cons (pv 2) pa_nil))))) pss_nil)
      (pss_one (ps_ret (pe_callTy call_tuple_of (by rfl) B.tuple (by decide +kernel) (pa_cons
        (pe_lc (own := [("weight", 1), ("part", 2)]) (g := gTup K 2 (gCons (gName 1) (gCons (gName 2) gNil))) (tt := tYes) (by rfl) scWS.nd (pi_tup (pv 0)) (blkOk_by (own := [("weight", 1), ("part", 2)]) (N := nWS) (sc := defScope s_without_single_parts) (by decide +kernel))
          (fun _ _ _ _ _ => pg_tup rfl (pgs_cons (pg_name (i := 1) scWS.nd rfl (Or.inl rfl)) (pgs_cons (pg_name (i := 2) scWS.nd rfl (Or.inl rfl)) pgs_nil))) (fun _ _ _ _ _ => pts_nil)
          (fun _ _ _ _ _ => pe_tup (pa_cons (pv 1) (pa_cons (pe_call GR hr rfl F.mg F.fn.kp F.b .nil pass0 (pa_cons (pv 2) pa_nil)) pa_nil)))) pa_nil))))), ?_⟩
    cases t with
    | feed n =>
      have hv := TrAt_feed.mp hT
      subst hv
      refine ⟨_, rfl, _, _, _, _, true, rfl, .ty _, .base (.str n), kit_ty (by decide +kernel), _, rfl, ?_⟩
      exact ⟨_, rfl, k _ H (Same.refl _) (by rw [Tr.plain]; exact TrAt_feed.mpr rfl)⟩
    | mix ps =>
      cases d with
      | zero => exact (TrAt_zero hT).elim
      | succ e =>
        obtain ⟨a, xs, rfl, hs, hP⟩ := TrAt_mix.mp hT
        have hw : ps ≠ [] ∧ ps.length ≤ 5 ∧ ∀ p ∈ ps, 1 ≤ p.1 ∧ p.1 ≤ 9 ∧ p.2.wf e := by unfold Tr.wf at hW; exact hW
        refine ⟨_, rfl, _, _, _, _, false, rfl, .ty _, tyx_tup hs, kit_ty (by decide +kernel), _, rfl, ?_⟩
        refine ⟨_, rfl, a, _, rfl, .inr hs, rfl, _, rfl, ?_⟩
        have hxl := hP.1
        by_cases c1 : ps.length = 1
        · refine ite2 (fun _ => ?_) (fun c => absurd (by rw [hxl, c1]; rfl) c)
          obtain ⟨p, rfl⟩ : ∃ p, ps = [p] := List.length_eq_one_iff.mp c1
          obtain ⟨x, rfl⟩ : ∃ x, xs = [x] := List.length_eq_one_iff.mp hxl
          obtain ⟨b, y, rfl, hb, hy⟩ := hP.2 0 _ p rfl rfl
          have hwe := (hw.2.2 p List.mem_cons_self).2.2
          refine ⟨_, rfl, a, _, _, _, rfl, rfl, hs, rfl, ?_⟩
          refine ⟨b, _, rfl, hb, rfl, _, _, rfl, _, _, rfl, rfl, ?_⟩
          refine ⟨_, rfl, y, p.2, rfl, hy, hwe, ?_⟩
          exact fun v' H1 S1 h1 => k v' H1 S1 (by rw [plain_one]; exact TrAt.mono e (e + 1) (by omega) h1)
        · refine ite2 (fun c => ?_) (fun _ => ?_)
          · have c' : decide (V.int ((xs.length : Nat) : Int) = V.int 1) = true := c
            simp at c'
            omega
          refine ⟨_, rfl, a, rfl, ⟨_, hs⟩, fun D nD => ?_⟩
          refine lc_tup (K := K) (a := a) (xs := xs) (fun i H' => ∃ zs, Same H H' ∧ H' D = some (.lst zs) ∧ PsAt K H' e zs ((ps.take i).map fun p => (p.1, p.2.plain))) ?_ ?_ ?_ ?_
          · exact ⟨[], Same.new (Same.refl _) nD, upd_same, .nil⟩
          · rintro i H' _ ⟨zs, hS, _⟩
            exact sqT_same hS _ _ hs
          · rintro i x H' hx ⟨zs, hS, hD, hZ⟩
            have hi : i < ps.length := by rw [← hP.1]; exact (List.getElem?_eq_some_iff.mp hx).1
            have hpi : ps[i]? = some ps[i] := List.getElem?_eq_getElem hi
            have hpm : ps[i] ∈ ps := List.getElem_mem hi
            obtain ⟨b, y, rfl, hb, hy⟩ := hP.2 i x _ hx hpi
            refine ⟨b, _, rfl, sqT_same hS _ _ hb, rfl, _, _, rfl, _, _, rfl, rfl, rfl, ?_⟩
            refine ⟨_, rfl, _, rfl, y, ps[i].2, rfl, TrAt.keep (sqT_same hS) _ hy, (hw.2.2 _ hpm).2.2, fun v' H2 S2 h2 => ?_⟩
            refine ⟨by show 2 ≤ sizeLine; decide, fun q nq => ?_⟩
            have hD2 := S2 _ _ hD
            have nDq : D ≠ q := ne_of_none hD2 nq
            have hzl := hZ.1
            rw [List.length_map, List.length_take] at hzl
            have hDq : (L2.upd H2 q (.tup [.int ps[i].1, v'])) D = some (.lst zs) := by rw [upd_ne nDq]; exact hD2
            have kT : KeepT K H2 (L2.upd (L2.upd H2 q (.tup [.int ps[i].1, v'])) D (.lst (zs ++ [.ref q]))) := (KeepT.new nq).trans (KeepT.lst hDq)
            refine ⟨zs, hDq, by rw [hzl]; exact small1000 (by omega), zs ++ [.ref q], Same.own (Same.new (hS.trans S2) nq) nD, upd_same, ?_⟩
            rw [take_succ_of hpi, List.map_append]
            refine (hZ.keep fun c ys hc => kT _ _ (sqT_same S2 _ _ hc)).snoc (p := (ps[i].1, ps[i].2.plain)) (SqT.of ?_) (TrAt.keep kT _ h2)
            rw [upd_ne nDq.symm]
            exact upd_same
          · rintro H' ⟨zs, hS, hD, hZ⟩
            rw [List.take_of_length_le (by rw [hP.1]; exact Nat.le_refl _)] at hZ
            refine ⟨D, _, rfl, .inl ⟨SqL.of hD, fun r nr => ?_⟩⟩
            refine k _ _ (Same.new hS nr) ?_
            rw [plain_more c1]
            exact TrAt_mix.mpr ⟨r, zs, rfl, SqT.of upd_same, hZ.keep (sqT_same (Same.new (Same.refl _) nr))⟩
theorem ok_single {f : Addr} {fd : FuncData} (F : Def K mg "without_single_parts" s_without_single_parts ["tree"] f fd) (B : Blt mg) : ∀ d : Nat, FnOk P w K mg base CX0 (d + 2) f fd ["tree"] (spPlainP K d)
  | 0 => single_step F B (F.fn.ok (k := 0) scWS (fun _ _ _ _ h => h.elim) (fun _ _ _ _ _ _ _ _ _ h => h.elim))
  | d + 1 => single_step F B (ok_single F B d)
end
end Mx
set_option Elab.async false
set_option maxRecDepth 100000
set_option linter.all false
/-! trees.py: plain -/
namespace Mx
open PySem L2
def spPlain (K : PySem.W.Frag) : Sp := fun vs H Q _ => ∃ (v : V) (t : Tr), vs = [v] ∧ TrAt K H 4 v t ∧ TreeV t ∧ ∀ (v' : V) (H' : Hp), Same H H' → TrAt K H' 4 v' t.plain → Q v' H'
section
variable {P : Program} {w : World} {K : PySem.W.Frag} {mg : Str → Option Value} {base : Heap}
theorem scPlain : FnScope ["tree"] ["tree"] (defScope s_plain) := ⟨rfl, rfl, rfl, by decide +kernel, rfl, by decide +kernel, by decide +kernel⟩
theorem ok_plain {f fT fS : Addr} {fd dT dS : FuncData} (F : Fun K "plain" "plain" s_plain f fd) (DT : Def K mg "require_tree" sReqTree ["value"] fT dT) (GT : FnOk P w K mg base CX0 12 fT dT ["value"] (spReqTree K))
    (DS : Def K mg "without_single_parts" s_without_single_parts ["tree"] fS dS) (GS : FnOk P w K mg base CX0 6 fS dS ["tree"] (spPlainP K 4)) : FnOk P w K mg base CX0 13 f fd ["tree"] (spPlain K) := by
  refine F.ok scPlain (fun vs H Q E h => ?_) (fun cdv A outer s H vs Q E hr h => ?_)
  · obtain ⟨v, t, rfl, _⟩ := h
    rfl
  · obtain ⟨v, t, rfl, hT, hV, k⟩ := h
    refine ⟨_, pss_cons (ps_expr (pe_call GT hr rfl DT.mg DT.fn.kp DT.b .nil pass0 (pa_cons (pv 0) pa_nil))) (pss_one (ps_ret (pe_call GS (hr.mono (by decide)) rfl DS.mg DS.fn.kp DS.b .nil pass0 (pa_cons (pv 0) pa_nil)))), ?_⟩
    refine ⟨_, rfl, v, t, rfl, hT, hV, fun H1 S1 => ?_⟩
    exact ⟨_, rfl, v, t, rfl, TrAt.keep (sqT_same S1) _ hT, hV.wf, fun v' H2 S2 h2 => k v' H2 (S1.trans S2) h2⟩
end
end Mx
set_option Elab.async false
set_option maxRecDepth 100000
set_option linter.all false
/-! what the top has written: defs, methods, errors, numbers -/
namespace Mx
open PySem PySem.Spec PyProof.Rows L2
section
variable {K : PySem.W.Frag} {h : Heap} {mg : Str → Option Value} {x m qual : Str} {st : Stmt} {ps : List Str} {f C : Addr} {oc kV doc pm cdv ct : Value} {od an : Option Addr} {osl : Array (Option Value)}
/-- how a def without defaults binds -/
abbrev BindsAs (x qual : Str) (st : Stmt) (ps : List Str) : Prop := ∀ (kV doc pm : Value) (an : Option Addr) (cdv ct : Value) (us : List Value), us.length = ps.length → bindArgs (PySem.W.fnOf x qual (defArgs st) (defBody st) (defScope st) .none kV doc pm an cdv ct) ⟨us, []⟩ = pure (ps.zip us)
theorem def_mk (X : K.In h) (G : h.Ns mainGlobals mg) (hb : BindsAs x x st ps) (a : PySem.W.nsIn K mainGlobals x = some (some (.ref f))) (l : K.lookup f = some ⟨oc, od, .func (PySem.W.fnOf x x (defArgs st) (defBody st) (defScope st) .none kV doc pm an cdv ct), osl⟩)
    (c : PySem.W.codeIn K cdv x = true) (k : PySem.W.keepIn K (.ref f) = true) : ∃ f fd, Def K mg x st ps f fd :=
  ⟨f, _, fun_mk l c k, PySem.W.mg_of X G a, (fun_mk (st := st) l c k).binds hb⟩
theorem init_mk (hb : BindsAs "__init__" qual st ps) (mk : PySem.W.makesIn K C = true) (kc : PySem.W.keepIn K (.ref C) = true) (a : PySem.W.findIn K (.ref C) "__init__" = some (some (.ref f))) (i : PySem.W.isFn K (.ref f) = true) (l : K.lookup f = some ⟨oc, od, .func (PySem.W.fnOf "__init__" qual (defArgs st) (defBody st) (defScope st) .none kV doc pm an cdv ct), osl⟩)
    (c : PySem.W.codeIn K cdv qual = true) (k : PySem.W.keepIn K (.ref f) = true) : ∃ f fd, Mk K C f ∧ Fun K "__init__" qual st f fd ∧ Binds K fd ps [] :=
  ⟨f, _, ⟨mk, a, i, kc⟩, fun_mk l c k, (fun_mk (st := st) l c k).binds hb⟩
theorem cst_mk {n : Int} {t : Tok} (X : K.In h) (G : h.Ns mainGlobals mg) (a : PySem.W.nsIn K mainGlobals x = some (some (.int n t))) : ∃ t, mg x = some (.int n t) := ⟨t, PySem.W.mg_of X G a⟩
end
end Mx
set_option Elab.async false
set_option maxRecDepth 100000
set_option linter.all false
/-! from the law's own promise to what the end asks -/
namespace Mx
open PySem PySem.Spec PyProof.Rows L2
/-- a def stands at its name -/
abbrev Has (K : PySem.W.Frag) (mg : Str → Option Value) (x : Str) (st : Stmt) (ps : List Str) : Prop := ∃ f fd, Def K mg x st ps f fd
/-- .. and keeps a promise -/
def Pr (P : Program) (w : World) (K : PySem.W.Frag) (mg : Str → Option Value) (base : Heap) (CX : CXT) (k : Nat) (x : Str) (st : Stmt) (ps : List Str) (sp : Sp) : Prop := ∃ f fd, Def K mg x st ps f fd ∧ FnOk P w K mg base CX k f fd ps sp
def spLaw (K : PySem.W.Frag) : Sp := fun vs H Q _ => ∃ (a : Addr) (ns : List Int), vs = [.ref a] ∧ SqL K H a (ns.map V.int) ∧ ns.length ≤ 63 ∧ ∀ H', Q (.bl true) H'
theorem law_end {P : Program} {w : World} {K : PySem.W.Frag} {mg : Str → Option Value} {fa : Addr} {k : Nat} (hmg : mg "law" = some (.ref fa)) (D : Has K mg "law" sLaw ["script"])
    (F : ∀ (base : Heap) (f : Addr) (fd : FuncData), Def K mg "law" sLaw ["script"] f fd → FnOk P w K mg base CX0 k f fd ["script"] (spLaw K)) :
    ∃ fd : FuncData, (∀ (s : Shared) (v : Value), BindsTo s fd ⟨[v], []⟩ [("script", v)]) ∧ ∀ base : Heap, K.In base → base.Ns mainGlobals mg → FnOk P w K mg base CX0 k fa fd ["script"] (spLaw K) := by
  obtain ⟨f, fd, D⟩ := D
  have e := hmg.symm.trans D.mg
  cases e
  have D0 := D
  obtain ⟨oc, od, kV, doc, pm, an, cdv, ct, osl, rfl, lk, hcd⟩ := D.fn.ex
  exact ⟨_, fun s v => .of_eq rfl, fun base _ _ => F base _ _ D0⟩
/-- a promise with exceptions whose way of exceptions is not gone -/
theorem passN {X : Cx} : Passes (L2N.CX X.prog X.w) X E0 := fun _ _ _ _ _ _ _ h => by
  obtain ⟨_, _, _, _, _, _, _, _, _, _, _, _, z⟩ := h
  exact z.elim
end Mx
set_option Elab.async false
set_option maxRecDepth 100000
set_option linter.all false
/-! law_k01: same_always of what is no tree -/
namespace Mx
open PySem L2
section
variable {P : Program} {w : World} {K : PySem.W.Frag} {mg : Str → Option Value} {base : Heap} {CT : Addr}
theorem scSmO : FnScope ["one", "other"] ["one", "other"] (defScope s_same_always) := ⟨rfl, rfl, rfl, by decide +kernel, rfl, by decide +kernel, by decide +kernel⟩
theorem ok_same_E1 {f fP : Addr} {fd dP : FuncData} (F : Fun K "same_always" "same_always" s_same_always f fd) (DP : Def K mg "plain" s_plain ["tree"] fP dP) (GP : FnOk P w K mg base (L2N.CX P w) 21 fP dP ["tree"] (spE1 K CT 1)) : FnOk P w K mg base (L2N.CX P w) 22 f fd ["one", "other"] (spE1 K CT 2) := by
  refine okN F scSmO (fun vs H Q E h => ?_) (fun cdv A outer s H vs Q E hr h => ?_)
  · obtain ⟨x, rest, d, rfl, hn, hD, hS, hx, k⟩ := h
    simpa using hn
  · obtain ⟨x, rest, d, rfl, hn, hD, hS, hx, k⟩ := h
    match rest, hn with
    | [y], _ =>
      refine ⟨_, pss_one (ps_ret (pe_cmpR (op_eqD hr.units) (pe_call GP hr rfl DP.mg DP.fn.kp DP.b .nil (L2N.passes_call (L2N.takes_of rfl rfl rfl rfl) (fun _ _ _ _ h => h)) (pa_cons (pv 0) pa_nil)) (pe_call GP hr rfl DP.mg DP.fn.kp DP.b .nil (L2N.passes_call (L2N.takes_of rfl rfl rfl rfl) (fun _ _ _ _ h => h)) (pa_cons (pv 1) pa_nil)) (nomark _))), ?_⟩
      exact ⟨_, rfl, x, [], d, rfl, rfl, hD, hS, hx, k⟩
theorem ok_same_T2 {f fP : Addr} {fd dP : FuncData} (F : Fun K "same_always" "same_always" s_same_always f fd) (DP : Def K mg "plain" s_plain ["tree"] fP dP) (GG : FnOk P w K mg base CX0 13 fP dP ["tree"] (spPlain K)) (GP : FnOk P w K mg base (L2N.CX P w) 21 fP dP ["tree"] (spE1 K CT 1)) : FnOk P w K mg base (L2N.CX P w) 22 f fd ["one", "other"] (spT2 K CT) := by
  refine okN F scSmO (fun vs H Q E h => ?_) (fun cdv A outer s H vs Q E hr h => ?_)
  · obtain ⟨v, y, t, d, rfl, _⟩ := h
    rfl
  · obtain ⟨v, y, t, d, rfl, hT, hV, hD, hS, hx, k⟩ := h
    refine ⟨_, pss_one (ps_ret (pe_cmpR (op_eqD hr.units) (pe_call GG (hr.mono (by decide)) rfl DP.mg DP.fn.kp DP.b .nil pass0 (pa_cons (pv 0) pa_nil)) (pe_call GP hr rfl DP.mg DP.fn.kp DP.b .nil (L2N.passes_call (L2N.takes_of rfl rfl rfl rfl) (fun _ _ _ _ h => h)) (pa_cons (pv 1) pa_nil)) (nomark _))), ?_⟩
    exact ⟨_, rfl, v, t, rfl, hT, hV, fun v' H1 S1 _ => ⟨_, rfl, y, [], d, rfl, rfl, hD.same S1, hS, hx, fun H2 S2 => k H2 (S1.trans S2)⟩⟩
end
end Mx
set_option Elab.async false
set_option maxRecDepth 100000
set_option linter.all false
set_option Elab.async false
set_option maxRecDepth 100000
set_option linter.all false
namespace Mx
open PySem L2
section
variable {P : Program} {w : World} {K : PySem.W.Frag} {mg : Str → Option Value} {base : Heap}
abbrev FunM (K : PySem.W.Frag) (f : Addr) (fd : FuncData) : Prop := FunD K "mixed" "mixed" (defArgs sMixed) (defBody sMixed) (defScope sMixed) [] [("first", .non)] f fd
theorem mixed_b2 {f : Addr} {fd : FuncData} (F : FunM K f fd) : ∃ ds, Vals [V.non] ds ∧ Binds K fd ["tree", "lengths", "first"] ds :=
  F.binds0 2 (by simp) rfl fun D doc pm an cdv ct us ks h1 h2 => match us, ks, h1, h2 with
    | [a, b], [c], _, _ => ⟨_, _, _, _, _, _, rfl, rfl, rfl⟩
theorem scMixed : FnScope ["tree", "lengths", "first"] ["tree", "lengths", "first"] (defScope sMixed) := ⟨rfl, rfl, rfl, by decide +kernel, rfl, by decide +kernel, by decide +kernel⟩
end
end Mx
set_option Elab.async false
set_option maxRecDepth 100000
set_option linter.all false
/-! law_k01: mixed of what is no tree -/
namespace Mx
open PySem L2
section
variable {P : Program} {w : World} {K : PySem.W.Frag} {mg : Str → Option Value} {base : Heap}
theorem ok_mixed_E1 {f fT CT : Addr} {fd dT : FuncData} (F : FunM K f fd) (DT : Def K mg "require_tree" sReqTree ["value"] fT dT) (GT : FnOk P w K mg base (L2N.CX P w) 12 fT dT ["value"] (spTBad K CT)) : FnOk P w K mg base (L2N.CX P w) 21 f fd ["tree", "lengths", "first"] (spE1 K CT 3) := by
  refine F.ok scMixed (fun vs H Q E h => ?_) (fun cdv A outer s H vs Q E hr h => ?_)
  · obtain ⟨x, rest, d, rfl, hn, hD, hS, hx, k⟩ := h
    simpa using hn
  · obtain ⟨x, rest, d, rfl, hn, hD, hS, hx, k⟩ := h
    refine ⟨_, pss_cons (ps_expr (pe_call GT (hr.mono (by decide)) rfl DT.mg DT.fn.kp DT.b .nil (L2N.passes_call (L2N.takes_of rfl rfl rfl rfl) (fun _ _ _ _ h => h)) (pa_cons (pv 0) pa_nil))) pss_no, ?_⟩
    exact ⟨_, rfl, x, d, rfl, hD, hS, hx, k⟩
end
end Mx
set_option Elab.async false
set_option maxRecDepth 100000
set_option linter.all false
/-! mixing.py: mark -/
set_option Elab.async false
set_option maxRecDepth 100000
set_option linter.all false
/-! mixers.py: a mixer on the heap -/
namespace Mx
open PySem L2
def xf (v : V) (td sp po pe : Addr) : List (Str × V) := [("shape", v), ("lengths", .ref td), ("source", .ref sp), ("output", .ref po), ("earlier", .ref pe)]
theorem xf_ne : (("lengths" : Str) == "shape") = false ∧ (("source" : Str) == "shape") = false ∧ (("source" : Str) == "lengths") = false ∧ (("output" : Str) == "shape") = false ∧ (("output" : Str) == "lengths") = false ∧ (("output" : Str) == "source") = false ∧
    (("earlier" : Str) == "shape") = false ∧ (("earlier" : Str) == "lengths") = false ∧ (("earlier" : Str) == "source") = false ∧ (("earlier" : Str) == "output") = false := by decide +kernel
theorem xf_make (v : V) (td sp po pe : Addr) : putF "earlier" (.ref pe) (putF "output" (.ref po) (putF "source" (.ref sp) (putF "lengths" (.ref td) (putF "shape" v [])))) = xf v td sp po pe := by
  have h1 : ¬ (("shape" : Str) = "lengths") := by decide +kernel
  have h2 : ¬ (("shape" : Str) = "source") := by decide +kernel
  have h3 : ¬ (("shape" : Str) = "output") := by decide +kernel
  have h4 : ¬ (("shape" : Str) = "earlier") := by decide +kernel
  have h5 : ¬ (("lengths" : Str) = "source") := by decide +kernel
  have h6 : ¬ (("lengths" : Str) = "output") := by decide +kernel
  have h7 : ¬ (("lengths" : Str) = "earlier") := by decide +kernel
  have h8 : ¬ (("source" : Str) = "output") := by decide +kernel
  have h9 : ¬ (("source" : Str) = "earlier") := by decide +kernel
  have h10 : ¬ (("output" : Str) = "earlier") := by decide +kernel
  simp only [putF, h1, h2, h3, h4, h5, h6, h7, h8, h9, h10, if_false]
  rfl
/-! ### the mixer -/
structure MxAt (K : PySem.W.Frag) (CX CF CM : Addr) (H : Hp) (p : Addr) (F : List Addr) (t : Tr) (L : Str → Nat) (st : Sta) (out : List Item) (m : Nat) (dx : Addr) (v : V) (td sp po pe : Addr) (S : List Addr) (xs es : List V) : Prop where
  h : H p = some (.ins CX dx (xf v td sp po pe))
  tr : TrAt K H 4 v t
  tv : TreeV t
  ld : H td = some (.dK (tabL t.names L))
  src : Src CF CM td t.names H 4 sp S st
  ho : H po = some (.lst xs)
  hi : ItemsAt H xs out
  he : H pe = some (.lst es)
  el : es.length ≤ m
  f : F = p :: td :: po :: pe :: S
  nd : F.Nodup
def Mxr (K : PySem.W.Frag) (CX CF CM : Addr) (H : Hp) (p : Addr) (F : List Addr) (t : Tr) (L : Str → Nat) (st : Sta) (out : List Item) (m : Nat) : Prop := ∃ dx v td sp po pe S xs es, MxAt K CX CF CM H p F t L st out m dx v td sp po pe S xs es
/-- all but what stands at these places -/
def Keeps (F : List Addr) (H H' : Hp) : Prop := ∀ b o, H b = some o → b ∉ F → H' b = some o
theorem Keeps.of {F : List Addr} {H H' : Hp} (s : Same H H') : Keeps F H H' := fun b o e _ => s b o e
theorem Keeps.trans {F : List Addr} {H H1 H2 : Hp} (a : Keeps F H H1) (b : Keeps F H1 H2) : Keeps F H H2 := fun c o e n => b c o (a c o e n) n
theorem Keeps.same {F : List Addr} {H H0 H' : Hp} (s : Same H H0) (fr : ∀ b ∈ F, H b = none) (k : Keeps F H0 H') : Same H H' := fun b o e => k b o (s b o e) fun z => by rw [fr b z] at e; cases e
section
variable {K : PySem.W.Frag} {CX CF CM : Addr} {H H' : Hp} {p : Addr} {F : List Addr} {t : Tr} {L : Str → Nat} {st : Sta} {out : List Item} {m : Nat} {dx : Addr} {v : V} {td sp po pe : Addr} {S : List Addr} {xs es : List V}
/-- what a mixer's own places hold -/
theorem MxAt.own (M : MxAt K CX CF CM H p F t L st out m dx v td sp po pe S xs es) : ∀ b ∈ F, ∃ o, H b = some o ∧ ((∃ C dx l, o = .ins C dx l) ∨ (∃ l, o = .lst l) ∨ ∃ l, o = .dK l) := by
  intro b hb
  rw [M.f] at hb
  rcases List.mem_cons.mp hb with rfl | hb
  · exact ⟨_, M.h, .inl ⟨_, _, _, rfl⟩⟩
  rcases List.mem_cons.mp hb with rfl | hb
  · exact ⟨_, M.ld, .inr (.inr ⟨_, rfl⟩)⟩
  rcases List.mem_cons.mp hb with rfl | hb
  · exact ⟨_, M.ho, .inr (.inl ⟨_, rfl⟩)⟩
  rcases List.mem_cons.mp hb with rfl | hb
  · exact ⟨_, M.he, .inr (.inl ⟨_, rfl⟩)⟩
  obtain ⟨o, e, h⟩ := Src.own 4 M.src b hb
  exact ⟨o, e, h.elim .inl fun z => .inr (.inl z)⟩
theorem Mxr.own (h : Mxr K CX CF CM H p F t L st out m) : ∀ b ∈ F, ∃ o, H b = some o ∧ ((∃ C dx l, o = .ins C dx l) ∨ (∃ l, o = .lst l) ∨ ∃ l, o = .dK l) := by
  obtain ⟨_, _, _, _, _, _, _, _, _, M⟩ := h
  exact M.own
theorem keepT_of {G : List Addr} (own : ∀ b ∈ G, ∃ o, H b = some o ∧ ((∃ C dx l, o = .ins C dx l) ∨ (∃ l, o = .lst l) ∨ ∃ l, o = .dK l)) (k : Keeps G H H') : KeepT K H H' := fun c zs h => by
  have nx : ∀ o, H c = some o → (∀ C dx l, o ≠ .ins C dx l) → (∀ l, o ≠ .lst l) → (∀ l, o ≠ .dK l) → c ∉ G := fun o e n1 n2 n3 hc => by
    obtain ⟨o', e2, z⟩ := own c hc
    rw [e] at e2
    cases e2
    rcases z with ⟨C, d, l, rfl⟩ | ⟨l, rfl⟩ | ⟨l, rfl⟩
    · exact n1 _ _ _ rfl
    · exact n2 _ rfl
    · exact n3 _ rfl
  rcases h with (h | ⟨o, h⟩) | h
  · exact .inl (.inl (k c _ h (nx _ h (fun _ _ _ z => by cases z) (fun _ z => by cases z) (fun _ z => by cases z))))
  · exact .inl (.inr ⟨o, k c _ h (nx _ h (fun _ _ _ z => by cases z) (fun _ z => by cases z) (fun _ z => by cases z))⟩)
  · exact .inr h
/-- a mixer is as it was where another one has done something -/
theorem Mxr.frame {G : List Addr} (h : Mxr K CX CF CM H p F t L st out m) (own : ∀ b ∈ G, ∃ o, H b = some o ∧ ((∃ C dx l, o = .ins C dx l) ∨ (∃ l, o = .lst l) ∨ ∃ l, o = .dK l)) (k : Keeps G H H') (dj : ∀ b ∈ F, b ∉ G) : Mxr K CX CF CM H' p F t L st out m := by
  obtain ⟨dx, v, td, sp, po, pe, S, xs, es, M⟩ := h
  have inF : ∀ b, b ∈ p :: td :: po :: pe :: S → b ∉ G := fun b hb => dj b (by rw [M.f]; exact hb)
  have kU : KeepU H H' := fun b ys e => k b _ e fun hb => by
    obtain ⟨o, e2, z⟩ := own b hb
    rw [e] at e2
    rcases z with ⟨_, _, _, rfl⟩ | ⟨_, rfl⟩ | ⟨_, rfl⟩ <;> cases e2
  refine ⟨dx, v, td, sp, po, pe, S, xs, es, k _ _ M.h (inF _ (.head _)), TrAt.keep (keepT_of own k) _ M.tr, M.tv, k _ _ M.ld (inF _ (.tail _ (.head _))), ?_, k _ _ M.ho (inF _ (.tail _ (.tail _ (.head _)))), Paired.mapP M.hi fun _ _ z => z.keep kU, k _ _ M.he (inF _ (.tail _ (.tail _ (.tail _ (.head _))))), M.el, M.f, M.nd⟩
  refine Src.frame 4 (fun b hb => ?_) M.src
  obtain ⟨o, e⟩ := Src.tracked 4 M.src b hb
  rw [e, k b o e (inF b (.tail _ (.tail _ (.tail _ (.tail _ hb)))))]
theorem Mxr.same (h : Mxr K CX CF CM H p F t L st out m) (s : Same H H') : Mxr K CX CF CM H' p F t L st out m := h.frame (G := []) (fun b hb => by cases hb) (Keeps.of s) (fun b _ hb => by cases hb)
end
end Mx
set_option Elab.async false
set_option maxRecDepth 100000
set_option linter.all false
/-! mixers.py: keep_state, next, taken -/
namespace Mx
open PySem L2
abbrev sXI : Stmt := inClass s_Mixer 1
structure XC (K : PySem.W.Frag) (mg : Str → Option Value) (C : Addr) : Prop where
  cl : Cls K C
  n1 : NoAttr K C "shape"
  n2 : NoAttr K C "lengths"
  n3 : NoAttr K C "source"
  n4 : NoAttr K C "output"
  n5 : NoAttr K C "earlier"
  mg : mg "Mixer" = some (.ref C)
section
variable {P : Program} {w : World} {K : PySem.W.Frag} {mg : Str → Option Value} {base : Heap} {CX CF CM fFI fFH fFT fMI fMH fMT fMG : Addr} {dFI dFH dFT dMI dMH dMT dMG : FuncData}
theorem MxAt.f5 {H : Hp} {p : Addr} {F : List Addr} {t : Tr} {L : Str → Nat} {st : Sta} {out : List Item} {m : Nat} {dx : Addr} {v : V} {td sp po pe : Addr} {S : List Addr} {xs es : List V} (M : MxAt K CX CF CM H p F t L st out m dx v td sp po pe S xs es) :
    p ≠ pe ∧ td ≠ pe ∧ po ≠ pe ∧ pe ∉ S ∧ p ≠ td ∧ p ≠ po ∧ td ≠ po ∧ p ∉ S ∧ td ∉ S ∧ po ∉ S := by
  have nd := M.nd
  rw [M.f] at nd
  simp only [List.nodup_cons, List.mem_cons, not_or] at nd
  obtain ⟨⟨a1, a2, a3, a4⟩, ⟨b1, b2, b3⟩, ⟨c1, c2⟩, d1, _⟩ := nd
  exact ⟨a3, b2, c1, d1, a1, a2, b1, a4, b3, c2⟩
/-- only the list of earlier states is another -/
theorem MxAt.kept {H H' : Hp} {p : Addr} {F : List Addr} {t : Tr} {L : Str → Nat} {st : Sta} {out : List Item} {m m' : Nat} {dx : Addr} {v : V} {td sp po pe : Addr} {S : List Addr} {xs es es' : List V} (M : MxAt K CX CF CM H p F t L st out m dx v td sp po pe S xs es)
    (k : ∀ b o, H b = some o → b ≠ pe → H' b = some o) (he : H' pe = some (.lst es')) (el : es'.length ≤ m') : MxAt K CX CF CM H' p F t L st out m' dx v td sp po pe S xs es' := by
  obtain ⟨n1, n2, n3, n4, _⟩ := M.f5
  have kU : KeepU H H' := fun b ys e => k b _ e fun z => by rw [z, M.he] at e; cases e
  have kT : KeepT K H H' := fun c zs h => by
    rcases h with (h | ⟨o, h⟩) | h
    · exact .inl (.inl (k c _ h fun z => by rw [z, M.he] at h; cases h))
    · exact .inl (.inr ⟨o, k c _ h fun z => by rw [z, M.he] at h; cases h⟩)
    · exact .inr h
  refine ⟨k _ _ M.h n1, TrAt.keep kT _ M.tr, M.tv, k _ _ M.ld n2, ?_, k _ _ M.ho n3, Paired.mapP M.hi fun _ _ z => z.keep kU, he, el, M.f, M.nd⟩
  refine Src.frame 4 (fun b hb => ?_) M.src
  obtain ⟨o, e⟩ := Src.tracked 4 M.src b hb
  rw [e, k b o e fun z => n4 (z ▸ hb)]
end
end Mx
set_option Elab.async false
set_option maxRecDepth 100000
set_option linter.all false
/-! mixers.py: __init__ -/
namespace Mx
open PySem L2
theorem dc_itX {J : It} {n : Nat} {G : Hp → Prop} {Y : Nat → Hp → V → Hp → Prop} (wk : Walk J n G Y) {g : TG} {tt : TT} {tk tv : TE} {vs : List Nat} {σ : St} {H1 : Hp} {D : Addr} {Qd : Hp → Prop} (Pv : Nat → Hp → Prop) (h0 : Pv 0 (L2.upd H1 D (.dK []))) (hG : ∀ i H, i ≤ n → Pv i H → G H)
    (hs : ∀ i x H H', i < n → Pv i H → Y i H x H' → g x (wipe σ vs) H' fun σ2 H2 => wipe σ2 vs = wipe σ vs ∧ tt σ2 H2 fun b H3 => if b = true then tk σ2 H3 fun y H4 => tv σ2 H4 fun z H5 => ∃ kvs k, y = kV k ∧ H5 D = some (.dK kvs) ∧ kvs.length < sizeLine ∧ Pv (i + 1) (L2.upd H5 D (.dK (putK kvs k z))) else Pv (i + 1) H3)
    (hd : ∀ H, Pv n H → Qd H) : ∃ W : Nat → Nat → Hp → Prop, (∃ m, W 0 m (L2.upd H1 D (.dK []))) ∧ ∀ i m H, W i m H →
      (J.stop i H ∧ Qd H) ∨ (J.go i H ∧ ∃ Nx : Hp → Prop, (∀ H', Nx H' → ∃ m', m' < m ∧ W (i + 1) m' H') ∧ ∀ x H', J.yld i H x H' → g x (wipe σ vs) H' fun σ2 H2 => wipe σ2 vs = wipe σ vs ∧ tt σ2 H2 fun b H3 =>
        if b = true then tk σ2 H3 fun y H4 => tv σ2 H4 fun z H5 => ∃ kvs k, y = kV k ∧ H5 D = some (.dK kvs) ∧ kvs.length < sizeLine ∧ Nx (L2.upd H5 D (.dK (putK kvs k z))) else Nx H3) := by
  refine ⟨fun i m H => m = n - i ∧ i ≤ n ∧ Pv i H, ⟨n, by simp, Nat.zero_le _, h0⟩, ?_⟩
  rintro i m H ⟨rfl, hi, pp⟩
  have gg := hG i H hi pp
  rcases Nat.lt_or_ge i n with lt | ge
  · exact .inr ⟨wk.goes i H lt gg, Pv (i + 1), fun H' p' => ⟨n - (i + 1), by omega, rfl, lt, p'⟩, fun x H' y => hs i x H H' lt pp (wk.yields i H x H' lt gg y)⟩
  · obtain rfl : i = n := by omega
    exact .inl ⟨wk.stops H gg, hd H pp⟩
def spXI (K : PySem.W.Frag) (CX CF CM : Addr) : Sp := fun vs H Q _ => ∃ (p dx : Addr) (v : V) (t : Tr), vs = [.ref p, v] ∧ H p = some (.ins CX dx []) ∧ TrAt K H 4 v t ∧ TreeV t ∧
  ∀ (F : List Addr) (H' : Hp), (∀ b o, H b = some o → b ≠ p → H' b = some o) → Mxr K CX CF CM H' p F t (fun _ => 0) t.sta [] 0 → (∀ b ∈ F, b = p ∨ H b = none) → Q .non H'
section
variable {P : Program} {w : World} {K : PySem.W.Frag} {mg : Str → Option Value} {base : Heap} {CX CF CM fFI fFH fFT fMI fMH fMT fMG : Addr} {dFI dFH dFT dMI dMH dMT dMG : FuncData}
def nXI : List Str := ["self", "tree", "name"]
theorem scXI : FnScope nXI ["self", "tree"] (defScope sXI) := ⟨rfl, rfl, rfl, by decide +kernel, rfl, by decide +kernel, by decide +kernel⟩
theorem ok_XI {f fT fN fS : Addr} {fd dT dN dS : FuncData} (D : Fun K "__init__" "Mixer.__init__" sXI f fd) (X : XC K mg CX) (DT : Def K mg "require_tree" sReqTree ["value"] fT dT) (GT : FnOk P w K mg base CX0 12 fT dT ["value"] (spReqTree K))
    (DN : Def K mg "names_in" sNamesIn ["tree"] fN dN) (GN : FnOk P w K mg base CX0 6 fN dN ["tree"] (spNames K 4)) (DS : Def K mg "source_of" sSourceOf ["tree", "lengths"] fS dS) (GS : FnOk P w K mg base CX0 7 fS dS ["tree", "lengths"] (spSO K CF CM 4)) :
    FnOk P w K mg base CX0 13 f fd ["self", "tree"] (spXI K CX CF CM) := by
  refine D.ok scXI (fun vs H Q E h => ?_) (fun cdv A outer s H vs Q E hr h => ?_)
  · obtain ⟨p, dx, v, t, rfl, _⟩ := h
    rfl
  · obtain ⟨p, dx, v, t, rfl, hp, hT, hV, k⟩ := h
    refine ⟨_, pss_cons (ps_expr (pe_call GT hr rfl DT.mg DT.fn.kp DT.b .nil pass0 (pa_cons (pv 1) pa_nil)))
      (pss_cons (ps_fld (pv 0) (pv 1) rfl)
      (pss_cons (ps_fld (pv 0) (pe_dc (own := [("name", 2)]) (g := gName 2) (tt := tYes) (by rfl) scXI.nd (pi_list (pe_call GN (hr.mono (by decide)) rfl DN.mg DN.fn.kp DN.b .nil pass0 (pa_cons (pv 1) pa_nil))) (blkOk_by (own := [("name", 2)]) (N := nXI) (sc := defScope sXI) (by decide +kernel))
        (fun _ _ _ _ _ => pg_name (i := 2) scXI.nd rfl (Or.inl rfl)) (fun _ _ _ _ _ => pts_nil) (fun _ _ _ _ _ => pv 2) (fun _ _ _ _ _ => pe_int)) rfl)
      (pss_cons (ps_fld (pv 0) (pe_call GS (hr.mono (by decide)) rfl DS.mg DS.fn.kp DS.b .nil pass0 (pa_cons (pv 1) (pa_cons (pe_fld (pv 0) rfl) pa_nil))) rfl)
      (pss_cons (ps_fld (pv 0) (pe_lst pa_nil) rfl)
      (pss_one (ps_fld (pv 0) (pe_lst pa_nil) rfl)))))), ?_⟩
    refine ⟨_, rfl, v, t, rfl, hT, hV, fun H1 S1 => ?_⟩
    have hp1 := S1 _ _ hp
    refine ⟨_, rfl, _, rfl, p, CX, dx, [], rfl, hp1, X.cl, X.n1, (by show 0 < 1000; decide), ?_⟩
    obtain ⟨H2, e2⟩ : ∃ H2, H2 = L2.upd H1 p (.ins CX dx (putF "shape" v [])) := ⟨_, rfl⟩
    have b2 : But p H H2 := by rw [e2]; exact (But.of S1).upd
    have hp2 : H2 p = some (.ins CX dx (putF "shape" v [])) := by rw [e2]; exact upd_same
    have keepT : ∀ {Ha Hb : Hp} {fs : List (Str × V)}, Ha p = some (.ins CX dx fs) → But p Ha Hb → KeepT K Ha Hb := fun hh b c zs h => by
      rcases h with (h | ⟨o, h⟩) | h
      · exact .inl (.inl (b c _ h fun z => by rw [z, hh] at h; cases h))
      · exact .inl (.inr ⟨o, b c _ h fun z => by rw [z, hh] at h; cases h⟩)
      · exact .inr h
    rw [← e2]
    have hT2 : TrAt K H2 4 v t := TrAt.keep (keepT hp b2) _ hT
    refine ⟨_, rfl, v, t, rfl, hT2, hV.wf, by have := hV.len; omega, fun pn H3 S3 npn hpn => ?_⟩
    refine ⟨pn, rfl, ⟨_, SqL.of hpn⟩, fun td ntd => ?_⟩
    have n8 := hV.len
    refine dc_itX (walk_list (K := K) (a := pn) (xs := t.names.map V.str)) (fun i H' => Same H3 H' ∧ H' td = some (.dK (tabL (t.names.take i) fun _ => 0))) ?_ ?_ ?_ ?_
    · exact ⟨Same.new (Same.refl _) ntd, upd_same⟩
    · rintro i H' _ ⟨hS, _⟩
      exact SqL.of (hS _ _ hpn)
    · rintro i x H' H'' hi ⟨hS, hD⟩ ⟨rfl, hx⟩
      rw [List.length_map] at hi
      have hni : t.names[i]? = some t.names[i] := List.getElem?_eq_getElem hi
      rw [List.getElem?_map, hni] at hx
      cases hx
      refine ⟨rfl, ?_⟩
      refine ⟨_, rfl, _, .inr t.names[i], rfl, hD, ?_, Same.own hS ntd, ?_⟩
      · unfold tabL
        rw [List.length_map, List.length_take]
        exact small1000 (by omega)
      · rw [upd_same, take_succ_of hni]
        have nn : t.names[i] ∉ t.names.take i := fun z => by
          obtain ⟨j, hj⟩ := List.getElem?_of_mem z
          have hji : j < i := by
            have q := (List.getElem?_eq_some_iff.mp hj).1
            rw [List.length_take] at q
            omega
          rw [List.getElem?_take, if_pos hji] at hj
          have := at_unique hV.nd hj hni
          omega
        exact congrArg (fun z => some (HO.dK z)) (tabL_snoc _ (fun _ => 0) _ nn)
    rintro H4 ⟨S34, htd⟩
    rw [List.length_map, List.take_length] at htd
    have S24 := S3.trans S34
    have hp4 := S24 _ _ hp2
    have nptd : p ≠ td := ne_of_none (S3 _ _ hp2) ntd
    have ntdH : H td = none := by
      cases z : H td with
      | none => rfl
      | some o => rw [S3 _ _ (b2 _ _ z nptd.symm)] at ntd; cases ntd
    have l2 : ¬ (("shape" : Str) = "lengths") := by decide +kernel
    have l3 : ¬ (("shape" : Str) = "source") := by decide +kernel
    have l4 : ¬ (("lengths" : Str) = "source") := by decide +kernel
    have l5 : ¬ (("shape" : Str) = "output") := by decide +kernel
    have l6 : ¬ (("lengths" : Str) = "output") := by decide +kernel
    have l7 : ¬ (("source" : Str) = "output") := by decide +kernel
    refine ⟨_, rfl, p, CX, dx, _, rfl, hp4, X.cl, X.n2, (by simp [putF]), ?_⟩
    obtain ⟨H5, e5⟩ : ∃ H5, H5 = L2.upd H4 p (.ins CX dx (putF "lengths" (.ref td) (putF "shape" v []))) := ⟨_, rfl⟩
    have hp5 : H5 p = some (.ins CX dx (putF "lengths" (.ref td) (putF "shape" v []))) := by rw [e5]; exact upd_same
    have b25 : But p H2 H5 := by rw [e5]; exact (But.of S24).upd
    have htd5 : H5 td = some (.dK (tabL t.names fun _ => 0)) := by rw [e5, upd_ne nptd.symm]; exact htd
    rw [← e5]
    have hT5 : TrAt K H5 4 v t := TrAt.keep (keepT hp2 b25) _ hT2
    refine ⟨_, rfl, _, rfl, p, CX, dx, _, _, rfl, hp5, X.cl, X.n2, (by simp [putF, l2, List.lookup, xf_ne]), v, t, td, t.names, rfl, hT5, hV.wf, fun _ h => h, fun sp S H6 S6 src fr => ?_⟩
    have hp6 := S6 _ _ hp5
    have npS : p ∉ S := fun z => by rw [fr p z] at hp5; cases hp5
    have ntS : td ∉ S := fun z => by rw [fr td z] at htd5; cases htd5
    refine ⟨_, rfl, p, CX, dx, _, rfl, hp6, X.cl, X.n3, (by simp [putF, l2]), ?_⟩
    obtain ⟨fs7, ef7⟩ : ∃ fs7, fs7 = putF "source" (.ref sp) (putF "lengths" (.ref td) (putF "shape" v [])) := ⟨_, rfl⟩
    obtain ⟨H7, e7⟩ : ∃ H7, H7 = L2.upd H6 p (.ins CX dx (putF "source" (.ref sp) (putF "lengths" (.ref td) (putF "shape" v [])))) := ⟨_, rfl⟩
    have hp7 : H7 p = some (.ins CX dx (putF "source" (.ref sp) (putF "lengths" (.ref td) (putF "shape" v [])))) := by rw [e7]; exact upd_same
    have b57 : But p H5 H7 := by rw [e7]; exact (But.of S6).upd
    have src7 : Src CF CM td t.names H7 4 sp S t.sta := Src.frame 4 (fun b hb => by
      have np : b ≠ p := fun z => npS (z ▸ hb)
      rw [e7, upd_ne np]) src
    rw [← e7]
    refine ⟨Nat.zero_le _, fun po npo => ?_⟩
    have nppo : p ≠ po := ne_of_none hp7 npo
    refine ⟨_, rfl, p, CX, dx, _, rfl, by rw [upd_ne nppo]; exact hp7, X.cl, X.n4, (by simp [putF, l2, l3, l4]), ?_⟩
    obtain ⟨H9, e9⟩ : ∃ H9, H9 = L2.upd (L2.upd H7 po (.lst [])) p (.ins CX dx (putF "output" (.ref po) (putF "source" (.ref sp) (putF "lengths" (.ref td) (putF "shape" v []))))) := ⟨_, rfl⟩
    have hp9 : H9 p = some (.ins CX dx (putF "output" (.ref po) (putF "source" (.ref sp) (putF "lengths" (.ref td) (putF "shape" v []))))) := by rw [e9]; exact upd_same
    have b79 : But p H7 H9 := by rw [e9]; exact (But.refl.new npo).upd
    have hpo9 : H9 po = some (.lst []) := by rw [e9, upd_ne nppo.symm]; exact upd_same
    rw [← e9]
    refine ⟨Nat.zero_le _, fun pe npe => ?_⟩
    have nppe : p ≠ pe := ne_of_none hp9 npe
    refine ⟨_, rfl, p, CX, dx, _, rfl, by rw [upd_ne nppe]; exact hp9, X.cl, X.n5, (by simp [putF, l2, l3, l4, l5, l6, l7]), ?_⟩
    rw [xf_make]
    obtain ⟨HF, eF⟩ : ∃ HF, HF = L2.upd (L2.upd H9 pe (.lst [])) p (.ins CX dx (xf v td sp po pe)) := ⟨_, rfl⟩
    have hpF : HF p = some (.ins CX dx (xf v td sp po pe)) := by rw [eF]; exact upd_same
    have b9F : But p H9 HF := by rw [eF]; exact (But.refl.new npe).upd
    have hpeF : HF pe = some (.lst []) := by rw [eF, upd_ne nppe.symm]; exact upd_same
    rw [← eF]
    have b5F : But p H5 HF := (b57.trans b79).trans b9F
    have bHF : But p H HF := (b2.trans b25).trans b5F
    have htd7 := b57 _ _ htd5 nptd.symm
    have htd9 := b79 _ _ htd7 nptd.symm
    have srcF : Src CF CM td t.names HF 4 sp S t.sta := by
      refine Src.frame 4 (fun b hb => ?_) src7
      obtain ⟨o, e⟩ := Src.tracked 4 src7 b hb
      have np : b ≠ p := fun z => npS (z ▸ hb)
      rw [e, b9F _ _ (b79 _ _ e np) np]
    have ntpo : td ≠ po := ne_of_none htd7 npo
    have ntpe : td ≠ pe := ne_of_none htd9 npe
    have npope : po ≠ pe := ne_of_none hpo9 npe
    have npoS : po ∉ S := fun z => by
      obtain ⟨o, e⟩ := Src.tracked 4 src7 po z
      rw [e] at npo
      cases npo
    have npeS : pe ∉ S := fun z => by
      obtain ⟨o, e⟩ := Src.tracked 4 src7 pe z
      have np : pe ≠ p := nppe.symm
      rw [b79 _ _ e np] at npe
      cases npe
    refine k (p :: td :: po :: pe :: S) HF bHF ⟨dx, v, td, sp, po, pe, S, [], [], hpF, TrAt.keep (keepT hp5 b5F) _ hT5, hV, b9F _ _ htd9 nptd.symm, srcF, b9F _ _ hpo9 nppo.symm, .nil, hpeF, Nat.le_refl _, rfl, ?_⟩ ?_
    · simp only [List.nodup_cons, List.mem_cons, not_or]
      exact ⟨⟨nptd, nppo, nppe, npS⟩, ⟨ntpo, ntpe, ntS⟩, ⟨npope, npoS⟩, npeS, Src.nodup 4 srcF⟩
    · have old : ∀ b, b ≠ p → H5 b = none → H b = none := fun b np z => by
        cases q : H b with
        | none => rfl
        | some o => rw [(b2.trans b25) _ _ q np] at z; cases z
      intro b hb
      rcases List.mem_cons.mp hb with rfl | hb
      · exact .inl rfl
      rcases List.mem_cons.mp hb with rfl | hb
      · exact .inr ntdH
      rcases List.mem_cons.mp hb with rfl | hb
      · refine .inr (old _ nppo.symm ?_)
        cases q : H5 b with
        | none => rfl
        | some o => rw [b57 _ _ q nppo.symm] at npo; cases npo
      rcases List.mem_cons.mp hb with rfl | hb
      · refine .inr (old _ nppe.symm ?_)
        cases q : H5 b with
        | none => rfl
        | some o => rw [b79 _ _ (b57 _ _ q nppe.symm) nppe.symm] at npe; cases npe
      · exact .inr (old b (fun z => npS (z ▸ hb)) (fr b hb))
end
end Mx
set_option Elab.async false
set_option maxRecDepth 100000
set_option linter.all false
/-! the error classes -/
namespace Mx
open PySem PySem.Spec PyProof.Rows L2
/-- the error classes by their places: 0 InvalidTree .. 10 NothingToUndo, 11 MixError -/
structure ErrCs (mg : Str → Option Value) (C : Nat → Addr) : Prop where
  g0 : mg "InvalidTree" = some (.ref (C 0))
  g1 : mg "InvalidName" = some (.ref (C 1))
  g2 : mg "InvalidLengths" = some (.ref (C 2))
  g3 : mg "InvalidItem" = some (.ref (C 3))
  g4 : mg "InvalidNumber" = some (.ref (C 4))
  g5 : mg "InvalidSeen" = some (.ref (C 5))
  g6 : mg "OtherFeeds" = some (.ref (C 6))
  g7 : mg "UnknownFeed" = some (.ref (C 7))
  g8 : mg "TooMany" = some (.ref (C 8))
  g9 : mg "TooLong" = some (.ref (C 9))
  g10 : mg "NothingToUndo" = some (.ref (C 10))
  g11 : mg "MixError" = some (.ref (C 11))
/-- what is known of the i-th class -/
structure ErrD (K : PySem.W.Frag) (C : Nat → Addr) (i : Nat) : Prop where
  lt : i < 11
  ec : ExcC K (C i)
  own : ∀ j, j < 12 → PySem.W.kitOne K (.ref (C i)) (.ref (C j)) = some (j == i || j == 11)
  val : PySem.W.kitOne K (.ref (C i)) (.type "ValueError") = some true
def errWords : List Str := ["tree", "name", "lengths", "item", "number", "seen", "others", "unknown", "many", "long", "undo", "base", "value"]
def errBits (i : Nat) : List Bool := ((List.range 12).map fun j => (j == i || j == 11)) ++ [true]
def errWord (i : Nat) : Str := errWords.getD i "other"
end Mx
set_option Elab.async false
set_option maxRecDepth 100000
set_option linter.all false
/-! .. all error classes -/
namespace Mx
open PySem PySem.Spec PyProof.Rows L2
/-- an own error class, by its place alone -/
structure ExcK (K : PySem.W.Frag) (C : Addr) : Prop where
  x : PySem.W.excIn K C [.type "ValueError", .type "Exception", .type "BaseException", .type "object"] "ValueError.__new__" = true
  k : PySem.W.keepIn K (.ref C) = true
  b : PySem.W.subIn K (.ref C) (.type "BaseException") = some true
  t : PySem.W.typeIn K (.ref C) = some (.type "type")
def errTable (K : PySem.W.Frag) (C : Nat → Addr) : Bool := (List.range 11).all fun i => ((List.range 12).all fun j => PySem.W.kitOne K (.ref (C i)) (.ref (C j)) == some (j == i || j == 11)) && (PySem.W.kitOne K (.ref (C i)) (.type "ValueError") == some true && PySem.W.exmOne K (.ref (C i)) (.ref (C 11)) == some true)
structure ErrAll (K : PySem.W.Frag) (mg : Str → Option Value) (C : Nat → Addr) : Prop where
  cs : ErrCs mg C
  x : ∀ i, i < 11 → ExcK K (C i)
  d : ∀ i, i < 11 → ErrD K C i
  m : ∀ i, i < 11 → PySem.W.exmOne K (.ref (C i)) (.ref (C 11)) = some true
def atC (cs : List Addr) : Nat → Addr := fun n => cs.getD n 0
theorem below11 {p : Nat → Prop} (h0 : p 0) (h1 : p 1) (h2 : p 2) (h3 : p 3) (h4 : p 4) (h5 : p 5) (h6 : p 6) (h7 : p 7) (h8 : p 8) (h9 : p 9) (h10 : p 10) : ∀ i, i < 11 → p i
  | 0, _ => h0 | 1, _ => h1 | 2, _ => h2 | 3, _ => h3 | 4, _ => h4 | 5, _ => h5 | 6, _ => h6 | 7, _ => h7 | 8, _ => h8 | 9, _ => h9 | 10, _ => h10
  | n + 11, h => absurd h (by omega)
section
variable {K : PySem.W.Frag} {h : Heap} {mg : Str → Option Value} {c0 c1 c2 c3 c4 c5 c6 c7 c8 c9 c10 c11 : Addr}
theorem err_mk (X : K.In h) (G : h.Ns mainGlobals mg) (a0 : PySem.W.nsIn K mainGlobals "InvalidTree" = some (some (.ref c0))) (a1 : PySem.W.nsIn K mainGlobals "InvalidName" = some (some (.ref c1))) (a2 : PySem.W.nsIn K mainGlobals "InvalidLengths" = some (some (.ref c2))) (a3 : PySem.W.nsIn K mainGlobals "InvalidItem" = some (some (.ref c3))) (a4 : PySem.W.nsIn K mainGlobals "InvalidNumber" = some (some (.ref c4))) (a5 : PySem.W.nsIn K mainGlobals "InvalidSeen" = some (some (.ref c5))) (a6 : PySem.W.nsIn K mainGlobals "OtherFeeds" = some (some (.ref c6))) (a7 : PySem.W.nsIn K mainGlobals "UnknownFeed" = some (some (.ref c7))) (a8 : PySem.W.nsIn K mainGlobals "TooMany" = some (some (.ref c8))) (a9 : PySem.W.nsIn K mainGlobals "TooLong" = some (some (.ref c9))) (a10 : PySem.W.nsIn K mainGlobals "NothingToUndo" = some (some (.ref c10))) (a11 : PySem.W.nsIn K mainGlobals "MixError" = some (some (.ref c11)))
    (x0 : ExcK K c0) (x1 : ExcK K c1) (x2 : ExcK K c2) (x3 : ExcK K c3) (x4 : ExcK K c4) (x5 : ExcK K c5) (x6 : ExcK K c6) (x7 : ExcK K c7) (x8 : ExcK K c8) (x9 : ExcK K c9) (x10 : ExcK K c10)
    (e0 : ExcC K c0) (e1 : ExcC K c1) (e2 : ExcC K c2) (e3 : ExcC K c3) (e4 : ExcC K c4) (e5 : ExcC K c5) (e6 : ExcC K c6) (e7 : ExcC K c7) (e8 : ExcC K c8) (e9 : ExcC K c9) (e10 : ExcC K c10)
    (tb : errTable K (atC [c0, c1, c2, c3, c4, c5, c6, c7, c8, c9, c10, c11]) = true) : ErrAll K mg (atC [c0, c1, c2, c3, c4, c5, c6, c7, c8, c9, c10, c11]) := by
  have row : ∀ i, i < 11 → (∀ j, j < 12 → PySem.W.kitOne K (.ref (atC [c0, c1, c2, c3, c4, c5, c6, c7, c8, c9, c10, c11] i)) (.ref (atC [c0, c1, c2, c3, c4, c5, c6, c7, c8, c9, c10, c11] j)) = some (j == i || j == 11)) ∧ PySem.W.kitOne K (.ref (atC [c0, c1, c2, c3, c4, c5, c6, c7, c8, c9, c10, c11] i)) (.type "ValueError") = some true ∧ PySem.W.exmOne K (.ref (atC [c0, c1, c2, c3, c4, c5, c6, c7, c8, c9, c10, c11] i)) (.ref (atC [c0, c1, c2, c3, c4, c5, c6, c7, c8, c9, c10, c11] 11)) = some true := fun i hi => by
    have q := (List.all_eq_true.mp tb) i (List.mem_range.mpr hi)
    rw [Bool.and_eq_true, Bool.and_eq_true] at q
    exact ⟨fun j hj => eq_of_beq ((List.all_eq_true.mp q.1) j (List.mem_range.mpr hj)), eq_of_beq q.2.1, eq_of_beq q.2.2⟩
  have e := below11 (p := fun i => ExcC K (atC [c0, c1, c2, c3, c4, c5, c6, c7, c8, c9, c10, c11] i)) e0 e1 e2 e3 e4 e5 e6 e7 e8 e9 e10
  exact ⟨⟨PySem.W.mg_of X G a0, PySem.W.mg_of X G a1, PySem.W.mg_of X G a2, PySem.W.mg_of X G a3, PySem.W.mg_of X G a4, PySem.W.mg_of X G a5, PySem.W.mg_of X G a6, PySem.W.mg_of X G a7, PySem.W.mg_of X G a8, PySem.W.mg_of X G a9, PySem.W.mg_of X G a10, PySem.W.mg_of X G a11⟩, below11 (p := fun i => ExcK K (atC [c0, c1, c2, c3, c4, c5, c6, c7, c8, c9, c10, c11] i)) x0 x1 x2 x3 x4 x5 x6 x7 x8 x9 x10, fun i hi => ⟨hi, e i hi, (row i hi).1, (row i hi).2.1⟩, fun i hi => (row i hi).2.2⟩
end
end Mx
set_option Elab.async false
set_option maxRecDepth 100000
set_option linter.all false
/-! _law_error_name -/
namespace Mx
open PySem PySem.Spec PyProof.Rows HotX L2 L2H
def spErr (K : PySem.W.Frag) (C : Nat → Addr) : Addr × Obj → Sp := fun p vs H Q _ => ∃ i, vs = [.ref p.1] ∧ ErrD K C i ∧ Zc (.ref (C i)) none p.2 ∧ ∀ H', Same H H' → Q (.str (errWord i)) H'
theorem split_words : Txt.split "tree name lengths item number seen others unknown many long undo base value" " " = errWords := by decide +kernel
def errKept (i j : Nat) : List Str := (((errWords.zip (errBits i)).take j).filter (·.2)).map (·.1)
theorem errKept_all : ∀ i, i < 11 → errKept i 13 = [errWord i, "base", "value"] := by decide +kernel
theorem errBits_len : ∀ i, (errBits i).length = 13 := fun i => by simp [errBits]
theorem errKept_succ {i j : Nat} {x : Str} {b : Bool} (hx : errWords[j]? = some x) (hb : (errBits i)[j]? = some b) : errKept i (j + 1) = if b = true then errKept i j ++ [x] else errKept i j := by
  have hz : (errWords.zip (errBits i))[j]? = some (x, b) := by
    rw [List.getElem?_zip_eq_some]
    exact ⟨hx, hb⟩
  unfold errKept
  rw [take_succ_of hz, List.filter_append, List.map_append]
  cases b <;> simp
section
variable {P : Program} {w : World} {K : PySem.W.Frag} {mg : Str → Option Value} {base : Heap}
abbrev nErr : List Str := ["e", "some", "words", "names", "word", "good"]
theorem scErr : FnScope nErr ["e"] (defScope sErrName) := ⟨rfl, rfl, rfl, by decide +kernel, rfl, by decide +kernel, by decide +kernel⟩
theorem ok_errName {f : Addr} {fd : FuncData} {C : Nat → Addr} (F : Fun K "_law_error_name" "_law_error_name" sErrName f fd) (B : Blt mg) (G : ErrCs mg C) : FnE P w K mg base 1 f fd ["e"] (spErr K C) := by
  refine fnE_of F scErr (fun p vs H Q E h => ?_) (fun cdv A outer s H vs Q E p hot hr h => ?_)
  · obtain ⟨i, rfl, _⟩ := h
    rfl
  · obtain ⟨i, rfl, D, hz, good⟩ := h
    obtain ⟨a, oe⟩ := p
    obtain ⟨hh, vs, hd, hc⟩ := hot
    have hf : ∃ vs, oe.data = .fields vs := ⟨vs, hd⟩
    have ho : HotO oe := ⟨vs, hd, hc⟩
    have hu : (A.deeper (envOfC "_law_error_name" (defScope sErrName) s.heap.objs.size f cdv)).units + 64 < cLine := by have := hr.un; omega
    have is : ∀ {x : Str} {te : TE} {p1 p2 p3 p4 : PySem.Pos}, PE (cxH CX0 P w K mg base nErr "_law_error_name" (defScope sErrName) f cdv A outer s H E (a, oe)) (.Name x p4) te → PE (cxH CX0 P w K mg base nErr "_law_error_name" (defScope sErrName) f cdv A outer s H E (a, oe)) (.Call (.Name "isinstance" p1) [.Name "e" p2, .Name x p4] [] p3) (tCB (rIsE K (C i) a) (tCons (tVar 0) (tCons te tNil))) := fun {x te p1 p2 p3 p4} he => pe_callB (call_isP (List.mem_singleton.mpr rfl) D.ec hz hf) (by rfl) B.isinstance (by decide +kernel) (pa_cons (pv 0) (pa_cons he pa_nil))
    refine ⟨_, pss_cons (ps_set (i := 1) scErr.nd rfl (Or.inl rfl) (pe_lst (pa_cons (is (pe_glob (v := .ref _) rfl G.g0 rfl)) (pa_cons (is (pe_glob (v := .ref _) rfl G.g1 rfl)) (pa_cons (is (pe_glob (v := .ref _) rfl G.g2 rfl)) pa_nil)))))
      (pss_cons (ps_set (i := 1) scErr.nd rfl (Or.inl rfl) (pe_op op_cat (pv 1) (pe_lst (pa_cons (is (pe_glob (v := .ref _) rfl G.g3 rfl)) (pa_cons (is (pe_glob (v := .ref _) rfl G.g4 rfl)) (pa_cons (is (pe_glob (v := .ref _) rfl G.g5 rfl)) pa_nil))))))
      (pss_cons (ps_set (i := 1) scErr.nd rfl (Or.inl rfl) (pe_op op_cat (pv 1) (pe_lst (pa_cons (is (pe_glob (v := .ref _) rfl G.g6 rfl)) (pa_cons (is (pe_glob (v := .ref _) rfl G.g7 rfl)) (pa_cons (is (pe_glob (v := .ref _) rfl G.g8 rfl)) pa_nil))))))
      (pss_cons (ps_set (i := 1) scErr.nd rfl (Or.inl rfl) (pe_op op_cat (pv 1) (pe_lst (pa_cons (is (pe_glob (v := .ref _) rfl G.g9 rfl)) (pa_cons (is (pe_glob (v := .ref _) rfl G.g10 rfl)) pa_nil)))))
      (pss_cons (ps_set (i := 1) scErr.nd rfl (Or.inl rfl) (pe_op op_cat (pv 1) (pe_lst (pa_cons (is (pe_glob (v := .ref _) rfl G.g11 rfl)) (pa_cons (is (pe_bltn (v := .ty "ValueError") (by rfl) B.valueError (by decide +kernel) rfl)) pa_nil)))))
      (pss_cons (ps_set (i := 2) scErr.nd rfl (Or.inl rfl) pe_str)
      (pss_cons (ps_setLcH (i := 3) (own := [("word", 4), ("good", 5)]) (g := gTup K 2 (gCons (gName 4) (gCons (gName 5) gNil))) (List.mem_singleton.mpr rfl) scErr.nd rfl rfl (sw_true rfl rfl rfl (by decide +kernel)) (hpi_zip (List.mem_singleton.mpr rfl) hh ho (by rfl) B.zip (pa_cons (pe_split (pv 2) pe_str) (pa_cons (pv 1) pa_nil)))
          (blkOk_by (own := [("word", 4), ("good", 5)]) (N := nErr) (sc := defScope sErrName) (by decide +kernel))
          (fun _ _ _ _ _ => hpg_tup (by exact hh) ho (pgs_cons (pg_name (i := 4) scErr.nd rfl (Or.inl rfl)) (pgs_cons (pg_name (i := 5) scErr.nd rfl (Or.inl rfl)) pgs_nil))) (fun _ _ _ _ _ => pts_one (pt_val (pv 5))) (fun _ _ _ _ _ => pv 4))
      (pss_one (ps_ret (pe_ifExp (pt_cmpR (op_eqD hu) (pe_slice sl_list (pv 3) (po_some pe_int) po_none) (pe_lst (pa_cons pe_str (pa_cons pe_str pa_nil))) (nomark _)) (pe_ix ix_list (pv 3) pe_int (fun _ _ => rfl)) pe_str))))))))), ?_⟩
    refine ⟨_, rfl, _, _, _, rfl, fun _ h => h, D.own 0 (by decide), _, rfl, _, _, _, rfl, fun _ h => h, D.own 1 (by decide), _, rfl, _, _, _, rfl, fun _ h => h, D.own 2 (by decide), by show 3 ≤ sizeLine; decide, fun l0 n0 => ?_⟩
    have S0 := Same.new (o := .lst [.bl (0 == i || 0 == 11), .bl (1 == i || 1 == 11), .bl (2 == i || 2 == 11)]) (Same.refl H) n0
    have h0 : (L2.upd H l0 (.lst [.bl (0 == i || 0 == 11), .bl (1 == i || 1 == 11), .bl (2 == i || 2 == 11)])) l0 = some (.lst [.bl (0 == i || 0 == 11), .bl (1 == i || 1 == 11), .bl (2 == i || 2 == 11)]) := upd_same
    generalize L2.upd H l0 _ = H0 at S0 h0 ⊢
    refine ⟨_, rfl, _, rfl, _, _, _, rfl, fun _ h => h, D.own 3 (by decide), _, rfl, _, _, _, rfl, fun _ h => h, D.own 4 (by decide), _, rfl, _, _, _, rfl, fun _ h => h, D.own 5 (by decide), by show 3 ≤ sizeLine; decide, fun m1 k1 => ?_⟩
    refine ⟨l0, m1, _, _, rfl, rfl, (upd_ne (ne_of_none h0 k1)).trans h0, upd_same, by show 6 ≤ sizeLine; decide, fun l1 n1 => ?_⟩
    have S1 := Same.new (o := .lst ([.bl (0 == i || 0 == 11), .bl (1 == i || 1 == 11), .bl (2 == i || 2 == 11)] ++ [.bl (3 == i || 3 == 11), .bl (4 == i || 4 == 11), .bl (5 == i || 5 == 11)])) (Same.new (o := .lst [.bl (3 == i || 3 == 11), .bl (4 == i || 4 == 11), .bl (5 == i || 5 == 11)]) S0 k1) n1
    have h1 : (L2.upd (L2.upd H0 m1 (.lst [.bl (3 == i || 3 == 11), .bl (4 == i || 4 == 11), .bl (5 == i || 5 == 11)])) l1 (.lst ([.bl (0 == i || 0 == 11), .bl (1 == i || 1 == 11), .bl (2 == i || 2 == 11)] ++ [.bl (3 == i || 3 == 11), .bl (4 == i || 4 == 11), .bl (5 == i || 5 == 11)]))) l1 = some (.lst [.bl (0 == i || 0 == 11), .bl (1 == i || 1 == 11), .bl (2 == i || 2 == 11), .bl (3 == i || 3 == 11), .bl (4 == i || 4 == 11), .bl (5 == i || 5 == 11)]) := upd_same
    generalize L2.upd (L2.upd H0 m1 _) l1 _ = H1 at S1 h1 ⊢
    refine ⟨_, rfl, _, rfl, _, _, _, rfl, fun _ h => h, D.own 6 (by decide), _, rfl, _, _, _, rfl, fun _ h => h, D.own 7 (by decide), _, rfl, _, _, _, rfl, fun _ h => h, D.own 8 (by decide), by show 3 ≤ sizeLine; decide, fun m2 k2 => ?_⟩
    refine ⟨l1, m2, _, _, rfl, rfl, (upd_ne (ne_of_none h1 k2)).trans h1, upd_same, by show 9 ≤ sizeLine; decide, fun l2 n2 => ?_⟩
    have S2 := Same.new (o := .lst ([.bl (0 == i || 0 == 11), .bl (1 == i || 1 == 11), .bl (2 == i || 2 == 11), .bl (3 == i || 3 == 11), .bl (4 == i || 4 == 11), .bl (5 == i || 5 == 11)] ++ [.bl (6 == i || 6 == 11), .bl (7 == i || 7 == 11), .bl (8 == i || 8 == 11)])) (Same.new (o := .lst [.bl (6 == i || 6 == 11), .bl (7 == i || 7 == 11), .bl (8 == i || 8 == 11)]) S1 k2) n2
    have h2 : (L2.upd (L2.upd H1 m2 (.lst [.bl (6 == i || 6 == 11), .bl (7 == i || 7 == 11), .bl (8 == i || 8 == 11)])) l2 (.lst ([.bl (0 == i || 0 == 11), .bl (1 == i || 1 == 11), .bl (2 == i || 2 == 11), .bl (3 == i || 3 == 11), .bl (4 == i || 4 == 11), .bl (5 == i || 5 == 11)] ++ [.bl (6 == i || 6 == 11), .bl (7 == i || 7 == 11), .bl (8 == i || 8 == 11)]))) l2 = some (.lst [.bl (0 == i || 0 == 11), .bl (1 == i || 1 == 11), .bl (2 == i || 2 == 11), .bl (3 == i || 3 == 11), .bl (4 == i || 4 == 11), .bl (5 == i || 5 == 11), .bl (6 == i || 6 == 11), .bl (7 == i || 7 == 11), .bl (8 == i || 8 == 11)]) := upd_same
    generalize L2.upd (L2.upd H1 m2 _) l2 _ = H2 at S2 h2 ⊢
    refine ⟨_, rfl, _, rfl, _, _, _, rfl, fun _ h => h, D.own 9 (by decide), _, rfl, _, _, _, rfl, fun _ h => h, D.own 10 (by decide), by show 2 ≤ sizeLine; decide, fun m3 k3 => ?_⟩
    refine ⟨l2, m3, _, _, rfl, rfl, (upd_ne (ne_of_none h2 k3)).trans h2, upd_same, by show 11 ≤ sizeLine; decide, fun l3 n3 => ?_⟩
    have S3 := Same.new (o := .lst ([.bl (0 == i || 0 == 11), .bl (1 == i || 1 == 11), .bl (2 == i || 2 == 11), .bl (3 == i || 3 == 11), .bl (4 == i || 4 == 11), .bl (5 == i || 5 == 11), .bl (6 == i || 6 == 11), .bl (7 == i || 7 == 11), .bl (8 == i || 8 == 11)] ++ [.bl (9 == i || 9 == 11), .bl (10 == i || 10 == 11)])) (Same.new (o := .lst [.bl (9 == i || 9 == 11), .bl (10 == i || 10 == 11)]) S2 k3) n3
    have h3 : (L2.upd (L2.upd H2 m3 (.lst [.bl (9 == i || 9 == 11), .bl (10 == i || 10 == 11)])) l3 (.lst ([.bl (0 == i || 0 == 11), .bl (1 == i || 1 == 11), .bl (2 == i || 2 == 11), .bl (3 == i || 3 == 11), .bl (4 == i || 4 == 11), .bl (5 == i || 5 == 11), .bl (6 == i || 6 == 11), .bl (7 == i || 7 == 11), .bl (8 == i || 8 == 11)] ++ [.bl (9 == i || 9 == 11), .bl (10 == i || 10 == 11)]))) l3 = some (.lst [.bl (0 == i || 0 == 11), .bl (1 == i || 1 == 11), .bl (2 == i || 2 == 11), .bl (3 == i || 3 == 11), .bl (4 == i || 4 == 11), .bl (5 == i || 5 == 11), .bl (6 == i || 6 == 11), .bl (7 == i || 7 == 11), .bl (8 == i || 8 == 11), .bl (9 == i || 9 == 11), .bl (10 == i || 10 == 11)]) := upd_same
    generalize L2.upd (L2.upd H2 m3 _) l3 _ = H3 at S3 h3 ⊢
    refine ⟨_, rfl, _, rfl, _, _, _, rfl, fun _ h => h, D.own 11 (by decide), _, rfl, .ty "ValueError", .type "ValueError", _, rfl, fun _ h => h, D.val, by show 2 ≤ sizeLine; decide, fun m4 k4 => ?_⟩
    refine ⟨l3, m4, _, _, rfl, rfl, (upd_ne (ne_of_none h3 k4)).trans h3, upd_same, by show 13 ≤ sizeLine; decide, fun l4 n4 => ?_⟩
    have S4 := Same.new (o := .lst ([.bl (0 == i || 0 == 11), .bl (1 == i || 1 == 11), .bl (2 == i || 2 == 11), .bl (3 == i || 3 == 11), .bl (4 == i || 4 == 11), .bl (5 == i || 5 == 11), .bl (6 == i || 6 == 11), .bl (7 == i || 7 == 11), .bl (8 == i || 8 == 11), .bl (9 == i || 9 == 11), .bl (10 == i || 10 == 11)] ++ [.bl (11 == i || 11 == 11), .bl true])) (Same.new (o := .lst [.bl (11 == i || 11 == 11), .bl true]) S3 k4) n4
    have h4 : (L2.upd (L2.upd H3 m4 (.lst [.bl (11 == i || 11 == 11), .bl true])) l4 (.lst ([.bl (0 == i || 0 == 11), .bl (1 == i || 1 == 11), .bl (2 == i || 2 == 11), .bl (3 == i || 3 == 11), .bl (4 == i || 4 == 11), .bl (5 == i || 5 == 11), .bl (6 == i || 6 == 11), .bl (7 == i || 7 == 11), .bl (8 == i || 8 == 11), .bl (9 == i || 9 == 11), .bl (10 == i || 10 == 11)] ++ [.bl (11 == i || 11 == 11), .bl true]))) l4 = some (.lst [.bl (0 == i || 0 == 11), .bl (1 == i || 1 == 11), .bl (2 == i || 2 == 11), .bl (3 == i || 3 == 11), .bl (4 == i || 4 == 11), .bl (5 == i || 5 == 11), .bl (6 == i || 6 == 11), .bl (7 == i || 7 == 11), .bl (8 == i || 8 == 11), .bl (9 == i || 9 == 11), .bl (10 == i || 10 == 11), .bl (11 == i || 11 == 11), .bl true]) := upd_same
    generalize L2.upd (L2.upd H3 m4 _) l4 _ = H4 at S4 h4 ⊢
    have hb : H4 l4 = some (.lst ((errBits i).map V.bl)) := h4
    refine ⟨_, rfl, ⟨_, rfl⟩, _, _, rfl, rfl, by decide +kernel, by decide +kernel, fun q nq => ?_⟩
    rw [split_words]
    refine ⟨_, rfl, q, l4, _, _, rfl, SqL.of upd_same, SqL.of ((upd_ne (ne_of_none hb nq)).trans hb), ?_, fun d nd => ?_⟩
    · rw [List.length_map, List.length_map, errBits_len]; rfl
    have Sq := Same.new (o := .lst (errWords.map V.str)) S4 nq
    have hq : (L2.upd H4 q (.lst (errWords.map V.str))) q = some (.lst (errWords.map V.str)) := upd_same
    have hl : (L2.upd H4 q (.lst (errWords.map V.str))) l4 = some (.lst ((errBits i).map V.bl)) := (upd_ne (ne_of_none hb nq)).trans hb
    generalize L2.upd H4 q _ = H5 at Sq hq hl nd ⊢
    refine lc_it walk_jz (fun j H' => Same H5 H' ∧ H' d = some (.lst ((errKept i j).map V.str))) ⟨Same.new (Same.refl _) nd, upd_same⟩ ?_ ?_ ?_
    · exact fun j H' _ h => ⟨SqL.of (h.1 _ _ hq), SqL.of (h.1 _ _ hl)⟩
    · rintro j x H' H2 hj ⟨hS, hD⟩ ⟨T, x1, y1, rfl, nT, rfl, hx, hy⟩
      rw [List.getElem?_map] at hx hy
      obtain ⟨wd, hw, rfl⟩ := Option.map_eq_some_iff.mp hx
      obtain ⟨b, hy', rfl⟩ := Option.map_eq_some_iff.mp hy
      have nTd := ne_of_none hD nT
      refine ⟨T, _, rfl, SqT.of upd_same, rfl, _, _, rfl, _, _, rfl, rfl, rfl, _, rfl, _, rfl, ?_⟩
      have ek := errKept_succ hw hy'
      have ST : Same H5 (L2.upd H' T (.tup [.str wd, .bl b])) := Same.new hS nT
      cases b with
      | true =>
        rw [if_pos rfl] at ek
        refine ⟨_, rfl, _, (upd_ne nTd).trans hD, ?_, Same.own ST nd, ?_⟩
        · rw [List.length_map]
          refine small1000 ?_
          unfold errKept
          rw [List.length_map]
          refine Nat.le_trans (List.length_filter_le ..) ?_
          rw [List.length_take]
          have hj13 : j < 13 := hj
          omega
        · rw [upd_same, ek, List.map_append]; rfl
      | false =>
        rw [if_neg Bool.false_ne_true] at ek
        exact ⟨ST, by rw [upd_ne nTd, hD, ek]⟩
    · rintro H' ⟨hS, hD⟩
      have hD' : H' d = some (.lst [.str (errWord i), .str "base", .str "value"]) := by
        rw [hD]
        show some (HO.lst ((errKept i 13).map V.str)) = _
        rw [errKept_all i D.lt]; rfl
      refine ⟨_, rfl, _, rfl, d, _, rfl, SqL.of hD', fun p np => ?_⟩
      refine ⟨by show 2 ≤ sizeLine; decide, fun l nl => ?_⟩
      have e1 : cutV [V.str (errWord i), .str "base", .str "value"] (some 1) none = [.str "base", .str "value"] := rfl
      rw [e1]
      refine ⟨.list [.str "base", .str "value"], .list [.str "base", .str "value"], .lst (SqL.of ((upd_ne (ne_of_none upd_same nl)).trans upd_same)) (.cons (.str _) (.cons (.str _) .nil)), .lst (SqL.of upd_same) (.cons (.str _) (.cons (.str _) .nil)), by decide +kernel, by decide +kernel, _, rfl, ?_⟩
      rw [SeqAt.eqv_refl _ (by decide +kernel)]
      refine iteT ⟨_, rfl, d, [.str (errWord i), .str "base", .str "value"], _, .str (errWord i), rfl, rfl, SqL.of ?_, rfl, ?_⟩
      · rw [upd_ne (ne_of_none ((upd_ne (ne_of_none hD' np)).trans hD') nl), upd_ne (ne_of_none hD' np)]; exact hD'
      · exact good _ (Same.new (Same.new (Sq.trans hS) np) nl)
end
end Mx
set_option Elab.async false
set_option maxRecDepth 100000
set_option linter.all false
/-! try: .. except MixError as e: return _law_error_name(e) -/
namespace Mx
open PySem PySem.Spec PyProof.Rows L2 L2H
theorem takes0N {X : Cx} : L2N.Takes X (fun _ _ _ _ => False) := fun _ _ x => by
  obtain ⟨_, _, _, _, _, _, _, _, _, _, _, _, _, _, _, _, z⟩ := x
  exact z.elim
theorem PE_imp {X : Cx} {e : Expr} {t u : TE} (h : PE X e t) (i : ∀ σ H Q, u σ H Q → t σ H Q) : PE X e u := ⟨fun pins s σ H Q I q => h.run pins s σ H Q I (i _ _ _ q)⟩
/-- what the suite gives for the handled exception -/
def tErr (K : PySem.W.Frag) (C : Nat → Addr) (i : Nat) (a : Addr) (cls : Value) (d : Option Addr) : TE := fun σ H Q => σ[i]? = some (some (.ref a)) ∧ ∃ j, cls = .ref (C j) ∧ d = none ∧ ErrD K C j ∧ ∀ H', Same H H' → Q (.str (errWord j)) H'
theorem suite_err {X : Cx} {C : Nat → Addr} {i k : Nat} {f : Addr} {fd : FuncData} {p1 p2 p3 p4 : PySem.Pos} (F : FnE X.prog X.w X.K X.mg X.base k f fd ["e"] (spErr X.K C)) (D : Def X.K X.mg "_law_error_name" sErrName ["e"] f fd) (room : RoomH k X.A) (hg : Gl X "_law_error_name") (hN : X.N[i]? = some "e") (hv : Vis X.env.scope "e")
    (a : Addr) (oe : Obj) (cls : Value) (d : Option Addr) (pn : List (Addr × Obj)) (hz : L2N.Zn cls d oe) (hf : ∃ vs, oe.data = .fields vs) :
    PSs (X.suite a ((a, oe) :: pn)) [.Return (some (.Call (.Name "_law_error_name" p1) [.Name "e" p2] [] p3)) p4] (tRet (tErr X.K C i a cls d)) := by
  obtain ⟨vs, hd⟩ := hf
  refine pss_one (ps_ret (PE_imp (pe_callE (X := X.suite a ((a, oe) :: pn)) (p := (a, oe)) F ⟨room.dp, room.un⟩ ⟨rfl, vs, hd, hz.2.2 vs hd⟩ List.mem_cons_self hg D.mg D.fn.kp D.b (pa_cons (pe_var (i := i) hN hv) pa_nil)) fun σ H Q h => ?_))
  obtain ⟨hs, j, rfl, rfl, hD, q⟩ := h
  exact ⟨_, hs, j, rfl, hD, hz.zc, q⟩
end Mx
set_option Elab.async false
set_option maxRecDepth 100000
set_option linter.all false
/-! an error class among all -/
namespace Mx
open PySem PySem.Spec PyProof.Rows L2
theorem ErrAll.ex {K : PySem.W.Frag} {mg : Str → Option Value} {C : Nat → Addr} {x : Str} {i : Nat} (E : ErrAll K mg C) (h : i < 11) (g : mg x = some (.ref (C i))) : ExcF K mg x (C i) := ⟨g, (E.x i h).x, (E.x i h).k, (E.x i h).b, (E.x i h).t⟩
end Mx
set_option Elab.async false
set_option maxRecDepth 100000
set_option linter.all false
/-! a class called within a try; Mixer of what is no tree -/
namespace Mx
open PySem PySem.Spec PyProof.Rows L2
section
variable {X : Cx} {CX : CXT} {k : Nat} {C f : Addr} {fd : FuncData} {ps : List Str} {sp : Sp} {E : L2.St → XK} {x : Str} {p pos : PySem.Pos} {e : Expr} {es : List Expr} {t : TA}
/-- an instance is made, the error of its __init__ wished at the caller's slots -/
theorem run_makeS {pins : List (Addr × Obj)} {σ : L2.St} {H : Hp} {s : Shared} {Q : VK} {us : List Value} {vs : List V} (M : Mk X.K C f) (F : FnOk X.prog X.w X.K X.mg X.base CX k f fd ps sp) (hr : Room (k + 1) X.A) (hb : Binds X.K fd ps []) (hx : PassesAt CX X σ (E σ)) (I : Inv X pins σ H s) (r : Vals vs us)
    (h : ∀ z dz, H z = none → H dz = none → dz ≠ z → sp (.ref z :: vs) (upd (upd H dz (.own z)) z (.ins C dz [])) (fun v H2 => v = .non ∧ Q (.ref z) H2) (E σ)) : wpAny (model X.prog X.w) X.A (call (.ref C) us) (EP X pins σ Q) X.xe s := by
  obtain ⟨n, en⟩ : ∃ n, n = s.heap.objs.size := ⟨_, rfl⟩
  have J := Inv.made (C := C) I
  rw [← en] at J
  have z1 : H n = none := I.hok.fresh (Nat.le_of_eq en.symm)
  have z2 : H (n + 1) = none := I.hok.fresh (by rw [en]; exact Nat.le_succ _)
  have w := h (n + 1) n z2 z1 (Nat.ne_of_lt (Nat.lt_succ_self n))
  have rr : Vals (V.ref (n + 1) :: vs) (Value.ref (n + 1) :: us) := .cons rfl r
  have hl : (Value.ref (n + 1) :: us ++ []).length = ps.length := by
    rw [List.append_nil, ← rr.length]
    exact F.len _ _ _ _ w
  have bb := hb _ (Value.ref (n + 1) :: us) J.kIn hl
  rw [List.append_nil] at bb
  subst en
  have e0 := J.env0.make C us []
  refine wpAny_call (make_map (f := f) I.kIn M.makes M.init (beq_iff_eq.mp M.fn) (codeAny_mono (F.run _ X.stack _ _ ⟨_, []⟩ _ _ _ (E σ) (hr.make C us []) e0 bb rr w) fun o s' ho => ?_))
  match o, ho with
  | .error u, ho => exact hx pins _ _ u s' J ho
  | .ok (.ret u), ho =>
    obtain ⟨v, H', I3, rv, ev, q3⟩ := J.after ho
    subst ev
    exact ⟨rv, ⟨V.ref (s.heap.objs.size + 1), H', I3, rfl, q3⟩⟩
  | .ok .next, ho => exact ho.elim
  | .ok .brk, ho => exact ho.elim
  | .ok .cont, ho => exact ho.elim
def tMakeS (C : Addr) (sp : Sp) (E : L2.St → XK) (t : TA) : TE := fun σ H Q => t σ H fun vs H1 => ∀ z dz, H1 z = none → H1 dz = none → dz ≠ z → sp (.ref z :: vs) (upd (upd H1 dz (.own z)) z (.ins C dz [])) (fun v H2 => v = .non ∧ Q (.ref z) H2) (E σ)
theorem pe_makeS (M : Mk X.K C f) (F : FnOk X.prog X.w X.K X.mg X.base CX k f fd ps sp) (hr : Room (k + 1) X.A) (hg : Gl X x) (hm : X.mg x = some (.ref C)) (hb : Binds X.K fd ps []) (hk : PySem.W.keepIn X.K (.ref C) = true) (hx : ∀ σ, PassesAt CX X σ (E σ)) (ha : PA X (e :: es) t) (hdb : (x == ("__debug__" : Str)) = false := by decide)
    (he : starEach (e :: es) X.env = (false, eval e X.env) :: starEach es X.env := by rfl) (hpl : (backTo pos (starEach es X.env)).any (·.1) = false := by rfl) : PE X (.Call (.Name x p) (e :: es) [] pos) (tMakeS C sp E t) := by
  refine ⟨fun pins s σ H Q I h => wpAny_Call_Name_kw (ld_glob I hg hm ?_ hdb)⟩
  refine PySem.W.callWith_K (h₀ := X.base) I.ok.mod.kin hk (thn (ha.run pos pins s σ H _ I h) fun us s2 z => ?_) he hpl
  obtain ⟨vs, H2, I2, r, q2⟩ := z
  exact ⟨I2.kIn, run_makeS M F hr hb (hx σ) I2 r q2⟩
end
section
variable {P : Program} {w : World} {K : PySem.W.Frag} {mg : Str → Option Value} {base : Heap}
def spXIE (K : PySem.W.Frag) (CT : Addr) : Sp := fun vs H Q E => ∃ (s x : V) (d : PyData), vs = [s, x] ∧ Dv K H x d ∧ Small d ∧ (¬ ∃ t : Tr, t.data = d ∧ TreeV t) ∧ ∀ H', Same H H' → E (.ref CT) none H'
theorem ok_XIE {f fT CT : Addr} {fd dT : FuncData} (D : Fun K "__init__" "Mixer.__init__" sXI f fd) (DT : Def K mg "require_tree" sReqTree ["value"] fT dT) (GT : FnOk P w K mg base (L2N.CX P w) 12 fT dT ["value"] (spTBad K CT)) : FnOk P w K mg base (L2N.CX P w) 21 f fd ["self", "tree"] (spXIE K CT) := by
  refine okN D scXI (fun vs H Q E h => ?_) (fun cdv A outer s H vs Q E hr h => ?_)
  · obtain ⟨s, x, d, rfl, _⟩ := h
    rfl
  · obtain ⟨s, x, d, rfl, hD, hS, hx, k⟩ := h
    refine ⟨_, pss_cons (ps_expr (pe_call GT (hr.mono (by decide)) rfl DT.mg DT.fn.kp DT.b .nil (L2N.passes_call (L2N.takes_of rfl rfl rfl rfl) (fun _ _ _ _ h => h)) (pa_cons (pv 1) pa_nil))) pss_no, ?_⟩
    exact ⟨_, rfl, x, d, rfl, hD, hS, hx, k⟩
end
end Mx
set_option Elab.async false
set_option maxRecDepth 100000
set_option linter.all false
/-! without_other_feeds -/
namespace Mx
open PySem L2
def LeftAt (K : PySem.W.Frag) (H : Hp) (d : Nat) (v : V) : Option Tr → Prop
  | none => v = .non
  | some u => TrAt K H d v u
theorem LeftAt.keep {K : PySem.W.Frag} {H H' : Hp} (h : KeepT K H H') {d : Nat} {v : V} {o : Option Tr} (q : LeftAt K H d v o) : LeftAt K H' d v o := by
  cases o with
  | none => exact q
  | some u => exact TrAt.keep h d q
def LPart (K : PySem.W.Frag) (S : Str → Bool) (d : Nat) (H : Hp) (z : V) (p : Int × Tr) : Prop := ∃ (b : Addr) (y : V), z = .ref b ∧ SqT K H b [.int p.1, y] ∧ LeftAt K H d y (p.2.left S)
theorem LPart.keep {K : PySem.W.Frag} {S : Str → Bool} {d : Nat} {H H' : Hp} (h : KeepT K H H') {z : V} {p : Int × Tr} (q : LPart K S d H z p) : LPart K S d H' z p := by
  obtain ⟨b, y, e, h1, h2⟩ := q
  exact ⟨b, y, e, h _ _ h1, h2.keep h⟩
end Mx
set_option Elab.async false
set_option maxRecDepth 100000
set_option linter.all false
/-! without_other_feeds -/
set_option Elab.async false
set_option maxRecDepth 100000
set_option linter.all false
/-! trees.py: require_names, plain, restricted -/
namespace Mx
open PySem L2
def NotTup (H : Hp) (x : V) : Prop := x = .non ∨ (∃ s, x = .str s) ∨ ∃ a xs, x = .ref a ∧ H a = some (.lst xs)
theorem NotTup.same {H H' : Hp} {x : V} (s : Same H H') (h : NotTup H x) : NotTup H' x := by
  rcases h with h | h | ⟨a, xs, e, h⟩
  · exact .inl h
  · exact .inr (.inl h)
  · exact .inr (.inr ⟨a, xs, e, s _ _ h⟩)
/-- what is asked of a group of names -/
def GroupAsk (K : PySem.W.Frag) (H : Hp) (t : Tr) (x : V) (G : Addr → List Str → Prop) (B : Prop) : Prop :=
  (∃ (g : Addr) (gs : List Str), x = .ref g ∧ SqT K H g (gs.map V.str) ∧ gs.length < 1000 ∧ gs ≠ [] ∧ (∀ n ∈ gs, n ∈ t.names) ∧ (gs.Nodup → G g gs) ∧ (¬ gs.Nodup → B)) ∨
  (∃ (g : Addr) (xs : List V), x = .ref g ∧ SqT K H g xs ∧ (∀ y ∈ xs, flatV y = true) ∧ (xs = [] ∨ ∃ y ∈ xs, ¬ ∃ n, y = .str n ∧ n ∈ t.names) ∧ B) ∨ (NotTup H x ∧ B)
theorem GroupAsk.imp {K : PySem.W.Frag} {H H' : Hp} {t : Tr} {x : V} {G G' : Addr → List Str → Prop} {B B' : Prop} (s : Same H H') (h : GroupAsk K H t x G B) (g : ∀ g gs, G g gs → G' g gs) (b : B → B') : GroupAsk K H' t x G' B' := by
  rcases h with ⟨q, gs, e, h1, h2, h3, h4, h5, h6⟩ | ⟨q, xs, e, h1, h2, h3, h4⟩ | ⟨h1, h2⟩
  · exact .inl ⟨q, gs, e, sqT_same s _ _ h1, h2, h3, h4, fun nd => g q gs (h5 nd), fun nd => b (h6 nd)⟩
  · exact .inr (.inl ⟨q, xs, e, sqT_same s _ _ h1, h2, h3, b h4⟩)
  · exact .inr (.inr ⟨h1.same s, b h2⟩)
def spReqNames (K : PySem.W.Frag) (CM : Addr) : Sp := fun vs H Q E => ∃ (v x : V) (t : Tr), vs = [v, x] ∧ TrAt K H 4 v t ∧ TreeV t ∧ GroupAsk K H t x (fun _ _ => ∀ H', Same H H' → Q .non H') (∀ H', Same H H' → E (.ref CM) none H')
section
variable {P : Program} {w : World} {K : PySem.W.Frag} {mg : Str → Option Value} {base : Heap}
theorem scRNs : FnScope ["tree", "value", "name"] ["tree", "value"] (defScope s_require_names) := ⟨rfl, rfl, rfl, by decide +kernel, rfl, by decide +kernel, by decide +kernel⟩
theorem ok_reqNames {f fM CM : Addr} {fd dM : FuncData} (F : Fun K "require_names" "require_names" s_require_names f fd) (B : Blt mg) (X : ExcF K mg "InvalidName" CM) (DM : Def K mg "require_name" s_require_name ["tree", "value"] fM dM) (GM : FnOk P w K mg base (L2N.CX P w) 7 fM dM ["tree", "value"] (spReqName K CM)) :
    FnOk P w K mg base (L2N.CX P w) 8 f fd ["tree", "value"] (spReqNames K CM) := by
  refine okN F scRNs (fun vs H Q E h => ?_) (fun cdv A outer s H vs Q E hr h => ?_)
  · obtain ⟨v, x, t, rfl, _⟩ := h
    rfl
  · obtain ⟨v, x, t, rfl, hT, hV, h⟩ := h
    refine ⟨_, pss_cons (ps_if (PW.pt (pw_or (pt_not (pt_val (pe_callB call_isi (by rfl) B.isinstance (by decide +kernel) (pa_cons (pv 1) (pa_cons (pe_bltn (v := .ty "tuple") (by rfl) B.tuple (by decide +kernel) rfl) pa_nil)))))
          (pw_or1 (pt_cmpR op_eq (pe_callB call_len_seq (by rfl) B.len PySem.boot_len (pa_cons (pv 1) pa_nil)) pe_int (nomark _)))))
        (pss_one (L2N.ps_raise rfl (L2N.takes_of rfl rfl rfl rfl) (L2N.pmk_own PySem.F.excBase_ValueError X.x X.g X.k (raises_own X.b X.t) rfl))) pss_nil)
      (pss_cons (ps_for (passes_of rfl) rfl (pi_tup (pv 1)) (pg_name (i := 2) scRNs.nd rfl (Or.inl rfl))
        (pss_one (ps_expr (pe_call GM hr rfl DM.mg DM.fn.kp DM.b .nil (L2N.passes_call (L2N.takes_of rfl rfl rfl rfl) (fun _ _ _ _ h => h)) (pa_cons (pv 0) (pa_cons (pv 2) pa_nil))))))
      (pss_one (ps_if (pt_cmpR op_ne (pe_lenSetT rfl (by rfl) B.len (by rfl) B.set (pv 1)) (pe_callB call_len_seq (by rfl) B.len PySem.boot_len (pa_cons (pv 1) pa_nil)) (nomark _))
        (pss_one (L2N.ps_raise rfl (L2N.takes_of rfl rfl rfl rfl) (L2N.pmk_own PySem.F.excBase_ValueError X.x X.g X.k (raises_own X.b X.t) rfl))) pss_nil))), ?_⟩
    rcases h with ⟨g, gs, rfl, hg, hl, hne, hsub, good, bad⟩ | ⟨g, xs, rfl, hg, hf, hbad, bad⟩ | ⟨hn, bad⟩
    · have hl0 : gs.length ≠ 0 := fun e => hne (List.length_eq_zero_iff.mp e)
      refine ⟨_, rfl, _, _, _, _, true, rfl, .ty _, tyx_tup hg, kit_ty (by decide +kernel), _, rfl, ?_⟩
      refine ⟨_, rfl, g, _, rfl, .inr hg, rfl, _, rfl, ?_⟩
      refine ite2 (fun c => ?_) (fun _ => ?_)
      · have c' : decide (V.int (((gs.map V.str).length : Nat) : Int) = V.int 0) = true := c
        rw [List.length_map] at c'
        simp at c'
        exact absurd c' hne
      refine ⟨_, rfl, g, rfl, ⟨_, hg⟩, for_tup (K := K) (a := g) (xs := gs.map V.str) (fun i σ H' => ∃ v2 : Option V, σ = [some v, some (.ref g), v2] ∧ Same H H') ?_ ?_ ?_ ?_⟩
      · exact ⟨_, rfl, Same.refl _⟩
      · rintro i σ H' _ ⟨v2, rfl, S⟩
        exact sqT_same S _ _ hg
      · rintro i x σ H' hx ⟨v2, rfl, S⟩
        rw [List.getElem?_map] at hx
        cases e : gs[i]? with
        | none => rw [e] at hx; cases hx
        | some n =>
          rw [e] at hx
          cases hx
          exact ⟨_, rfl, _, rfl, v, .str n, t, rfl, TrAt.keep (sqT_same S) _ hT, hV, .good (hsub n (List.mem_of_getElem? e)) fun H2 S2 => ⟨_, rfl, S.trans S2⟩⟩
      · rintro σ H1 ⟨v2, rfl, S⟩
        have hg1 := sqT_same S _ _ hg
        refine ⟨_, rfl, g, gs, rfl, hg1, hl, _, rfl, g, _, rfl, .inr hg1, rfl, _, rfl, ?_⟩
        by_cases nd : gs.Nodup
        · refine ite2 (fun c => ?_) (fun _ => good nd H1 S)
          rw [dn_nd nd _ (Nat.le_refl _), List.length_map] at c
          simp at c
        · obtain ⟨j, y, hj, again⟩ := dup_at nd
          have lt := dn_lt hj again gs.length (List.getElem?_eq_some_iff.mp hj).1 (Nat.le_refl _)
          refine ite2 (fun _ => bad nd H1 S) (fun c => ?_)
          have c' : ¬ (!decide (V.int ((dn gs gs.length : Nat) : Int) = V.int (((gs.map V.str).length : Nat) : Int))) = true := c
          rw [List.length_map] at c'
          simp at c'
          omega
    · refine ⟨_, rfl, _, _, _, _, true, rfl, .ty _, tyx_tup hg, kit_ty (by decide +kernel), _, rfl, ?_⟩
      refine ⟨_, rfl, g, _, rfl, .inr hg, rfl, _, rfl, ?_⟩
      refine ite2 (fun _ => bad H (Same.refl _)) (fun c => ?_)
      rcases hbad with rfl | ⟨y0, hy0, no0⟩
      · exact absurd rfl c
      refine ⟨_, rfl, g, rfl, ⟨_, hg⟩, for_tup (K := K) (a := g) (xs := xs) (fun i σ H' => ∃ v2 : Option V, σ = [some v, some (.ref g), v2] ∧ Same H H' ∧ ∀ y ∈ xs.take i, ∃ n, y = .str n ∧ n ∈ t.names) ?_ ?_ ?_ ?_⟩
      · exact ⟨_, rfl, Same.refl _, fun y hy => by simp at hy⟩
      · rintro i σ H' _ ⟨v2, rfl, S, _⟩
        exact sqT_same S _ _ hg
      · rintro i x σ H' hx ⟨v2, rfl, S, hall⟩
        have hxm := List.mem_of_getElem? hx
        refine ⟨_, rfl, _, rfl, v, x, t, rfl, TrAt.keep (sqT_same S) _ hT, hV, ?_⟩
        by_cases c2 : ∃ n, x = .str n ∧ n ∈ t.names
        · obtain ⟨n, rfl, hn⟩ := c2
          refine .good hn fun H2 S2 => ⟨_, rfl, S.trans S2, fun y hy => ?_⟩
          rw [take_succ_of hx] at hy
          rcases List.mem_append.mp hy with h | h
          · exact hall y h
          · rw [List.mem_singleton] at h
            exact ⟨n, h, hn⟩
        · exact .bad (hf x hxm) c2 fun H2 S2 => bad H2 (S.trans S2)
      · rintro σ H1 ⟨v2, rfl, S, hall⟩
        rw [List.take_length] at hall
        exact absurd (hall y0 hy0) no0
    · rcases hn with rfl | ⟨s0, rfl⟩ | ⟨a, xs, rfl, ha⟩
      · exact ⟨_, rfl, _, _, _, _, false, rfl, .ty _, .base .non, kit_ty (by decide +kernel), _, rfl, bad H (Same.refl _)⟩
      · exact ⟨_, rfl, _, _, _, _, false, rfl, .ty _, .base (.str s0), kit_ty (by decide +kernel), _, rfl, bad H (Same.refl _)⟩
      · exact ⟨_, rfl, _, _, _, _, false, rfl, .ty _, .base (.lst ha), kit_ty (by decide +kernel), _, rfl, bad H (Same.refl _)⟩
end
end Mx
set_option Elab.async false
set_option maxRecDepth 100000
set_option linter.all false
/-! endless.py: common_divisor, period_of, period -/
namespace Mx
open PySem L2
theorem lcmL_snoc (x : Nat) : ∀ l : List Nat, lcmL (l ++ [x]) = Nat.lcm (lcmL l) x
  | [] => by
    show Nat.lcm x 1 = Nat.lcm 1 x
    rw [Nat.lcm_comm]
  | a :: r => by
    show Nat.lcm a (lcmL (r ++ [x])) = Nat.lcm (Nat.lcm a (lcmL r)) x
    rw [lcmL_snoc x r, Nat.lcm_assoc]
/-- how many bits a period has -/
def eb : Nat → Nat
  | 0 => 1
  | d + 1 => 7 + 5 * eb d
theorem lcm_lt {a b x y : Nat} (ha : 0 < a) (hb : 0 < b) (hx : a < 2 ^ x) (hy : b < 2 ^ y) : Nat.lcm a b < 2 ^ (x + y) := by
  have h1 : Nat.lcm a b ≤ a * b := Nat.le_of_dvd (Nat.mul_pos ha hb) ⟨Nat.gcd a b, (Nat.lcm_mul_gcd a b).symm⟩
  rw [Nat.pow_add]
  exact Nat.lt_of_le_of_lt h1 (Nat.mul_lt_mul'' hx hy)
theorem lcmL_lt {e : Nat} : ∀ {l : List Nat}, (∀ x ∈ l, 0 < x ∧ x < 2 ^ e) → lcmL l < 2 ^ (1 + l.length * e)
  | [], _ => by
    show 1 < 2 ^ (1 + 0 * e)
    rw [Nat.zero_mul]
    decide
  | a :: r, h => by
    have ih := lcmL_lt (l := r) fun x hx => h x (List.mem_cons_of_mem _ hx)
    have q := lcm_lt (h a List.mem_cons_self).1 (lcmL_pos fun x hx => (h x (List.mem_cons_of_mem _ hx)).1) (h a List.mem_cons_self).2 ih
    rw [List.length_cons, show 1 + (r.length + 1) * e = e + (1 + r.length * e) by rw [Nat.add_mul]; omega]
    exact q
theorem wW_le {ps : List (Int × Tr)} (h : ∀ p ∈ ps, p.1 ≤ 9) (hl : ps.length ≤ 5) : wW ps ≤ 45 := by
  have q : ∀ qs : List (Int × Tr), (∀ p ∈ qs, p.1 ≤ 9) → wW qs ≤ 9 * qs.length := by
    intro qs
    induction qs with
    | nil => intro _; exact Nat.le_refl _
    | cons p r ih =>
      intro hq
      have h1 := hq p List.mem_cons_self
      have h2 := ih fun x hx => hq x (List.mem_cons_of_mem _ hx)
      show p.1.toNat + wW r ≤ 9 * (r.length + 1)
      omega
  have := q ps h
  omega
theorem need_lt {t : Tr} {w : Int} {e : Nat} (hp : 0 < t.per) (h : t.per < 2 ^ e) : 0 < t.per / Nat.gcd t.per w.toNat ∧ t.per / Nat.gcd t.per w.toNat < 2 ^ e :=
  ⟨Nat.div_pos (Nat.le_of_dvd hp (Nat.gcd_dvd_left _ _)) (Nat.gcd_pos_of_pos_left _ hp), Nat.lt_of_le_of_lt (Nat.div_le_self _ _) h⟩
theorem per_lt : ∀ (d : Nat) {t : Tr}, t.wf d → t.per < 2 ^ eb d
  | d, .feed s, _ => by
    rw [Tr.per]
    have : 1 ≤ eb d := by cases d <;> (unfold eb; omega)
    exact Nat.lt_of_lt_of_le (by decide : 1 < 2 ^ 1) (Nat.pow_le_pow_right (by decide) this)
  | 0, .mix ps, h => by unfold Tr.wf at h; exact h.elim
  | d + 1, .mix ps, h => by
    have hw : ps ≠ [] ∧ ps.length ≤ 5 ∧ ∀ p ∈ ps, 1 ≤ p.1 ∧ p.1 ≤ 9 ∧ p.2.wf d := by unfold Tr.wf at h; exact h
    rw [Tr.per, Tr.perL_eq]
    have h1 := wW_le (fun p hp => (hw.2.2 p hp).2.1) hw.2.1
    have h2 := lcmL_lt (e := eb d) (l := ps.map fun p => p.2.per / Nat.gcd p.2.per p.1.toNat) fun x hx => by
      obtain ⟨p, hp, rfl⟩ := List.mem_map.mp hx
      exact need_lt (per_pos d (hw.2.2 p hp).2.2) (per_lt d (hw.2.2 p hp).2.2)
    rw [List.length_map] at h2
    have h3 : wW ps < 2 ^ 6 := by omega
    have h4 : 2 ^ (1 + ps.length * eb d) ≤ 2 ^ (1 + 5 * eb d) := Nat.pow_le_pow_right (by decide) (by have := Nat.mul_le_mul_right (eb d) hw.2.1; omega)
    unfold eb
    rw [show 7 + 5 * eb d = 6 + (1 + 5 * eb d) by omega, Nat.pow_add]
    exact Nat.mul_lt_mul'' h3 (Nat.lt_of_lt_of_le h2 h4)
def spGcd : Sp := fun vs H Q _ => ∃ a b : Nat, vs = [.int (a : Nat), .int (b : Nat)] ∧ Q (.int (Nat.gcd a b : Nat)) H
def spPerOf (K : PySem.W.Frag) (d : Nat) : Sp := fun vs H Q _ => ∃ (v : V) (t : Tr), vs = [v] ∧ TrAt K H d v t ∧ t.wf d ∧ d ≤ 4 ∧ ∀ H', Same H H' → Q (.int (t.per : Nat)) H'
def spPeriod (K : PySem.W.Frag) : Sp := fun vs H Q _ => ∃ (v : V) (t : Tr), vs = [v] ∧ TrAt K H 4 v t ∧ TreeV t ∧ ∀ H', Same H H' → Q (.int (t.plain.per : Nat)) H'
theorem eb_mono : ∀ {d e : Nat}, d ≤ e → eb d ≤ eb e
  | d, 0, h => by
    obtain rfl : d = 0 := by omega
    exact Nat.le_refl _
  | d, e + 1, h => by
    rcases Nat.lt_or_ge d (e + 1) with z | z
    · have := eb_mono (d := d) (e := e) (by omega)
      show eb d ≤ 7 + 5 * eb e
      omega
    · obtain rfl : d = e + 1 := by omega
      exact Nat.le_refl _
section
variable {P : Program} {w : World} {K : PySem.W.Frag} {mg : Str → Option Value} {base : Heap}
theorem scGcd : FnScope ["one", "other"] ["one", "other"] (defScope s_common_divisor) := ⟨rfl, rfl, rfl, by decide +kernel, rfl, by decide +kernel, by decide +kernel⟩
theorem ok_gcd {f : Addr} {fd : FuncData} (F : Fun K "common_divisor" "common_divisor" s_common_divisor f fd) : FnOk P w K mg base CX0 1 f fd ["one", "other"] spGcd := by
  refine F.ok scGcd (fun vs H Q E h => ?_) (fun cdv A outer s H vs Q E hr h => ?_)
  · obtain ⟨a, b, rfl, _⟩ := h
    rfl
  · obtain ⟨a, b, rfl, k⟩ := h
    refine ⟨_, pss_cons (ps_while PassesOwn.never (pt_cmpR op_gt (pv 1) pe_int (nomark _))
        (pss_one (ps_par (i := 0) (j := 1) rfl scGcd.nd rfl rfl (by decide) rfl rfl (pa_cons (pv 1) (pa_cons (pe_op op_mod (pv 0) (pv 1)) pa_nil)) (by rfl))))
      (pss_one (ps_ret (pv 0))), ?_⟩
    refine ⟨fun m σ H' => ∃ a' b' : Nat, m = b' ∧ σ = [some (.int (a' : Nat)), some (.int (b' : Nat))] ∧ H' = H ∧ Nat.gcd a' b' = Nat.gcd a b, ⟨_, a, b, rfl, rfl, rfl, rfl⟩, ?_⟩
    rintro m σ H' ⟨a', b', em, rfl, rfl, e⟩
    subst em
    refine ⟨_, rfl, _, _, rfl, rfl, _, rfl, ?_⟩
    refine ite2 (fun c => ?_) (fun c => ?_)
    · have hb : 0 < m := by have z := of_decide_eq_true c; omega
      refine ⟨fun σ' H'' => ∃ m', m' < m ∧ _, fun σ' H'' h => h, ?_⟩
      refine ⟨_, rfl, _, rfl, _, rfl, _, _, rfl, rfl, by omega, _, _, rfl, ?_⟩
      refine ⟨a' % m, Nat.mod_lt _ hb, m, a' % m, rfl, (by show [some (V.int (m : Nat)), some (V.int ((a' : Int) % (m : Int)))] = _; rw [← Int.natCast_emod]), rfl, ?_⟩
      rw [← e, Nat.gcd_comm a' m, Nat.gcd_rec m a', Nat.gcd_comm]
    · have hb : m = 0 := by
        have z : ¬ ((m : Int) > 0) := fun z => c (decide_eq_true z)
        omega
      subst hb
      rw [Nat.gcd_zero_right] at e
      refine ⟨_, rfl, ?_⟩
      rw [e]
      exact k
def nPO2 : List Str := ["tree", "rounds", "weight", "part", "inner", "needed"]
theorem scPO2 : FnScope nPO2 ["tree"] (defScope s_period_of) := ⟨rfl, rfl, rfl, by decide +kernel, rfl, by decide +kernel, by decide +kernel⟩
theorem perOf_step {d : Nat} {f fG : Addr} {fd fdG : FuncData} (F : Def K mg "period_of" s_period_of ["tree"] f fd) (B : Blt mg) (DG : Def K mg "common_divisor" s_common_divisor ["one", "other"] fG fdG) (GG : FnOk P w K mg base CX0 1 fG fdG ["one", "other"] spGcd)
    (GR : FnOk P w K mg base CX0 (d + 1) f fd ["tree"] (pre (spPerOf K) d)) : FnOk P w K mg base CX0 (d + 2) f fd ["tree"] (spPerOf K d) := by
  refine F.fn.ok scPO2 (fun vs H Q E h => ?_) (fun cdv A outer s H vs Q E hr h => ?_)
  · obtain ⟨v, t, rfl, _⟩ := h
    rfl
  · obtain ⟨v, t, rfl, hT, hW, hd4, k⟩ := h
    have hr1 : Room 1 _ := hr.mono (by omega)
    refine ⟨_, pss_cons (ps_if (pt_val (pe_callB call_isi (by rfl) B.isinstance (by decide +kernel) (pa_cons (pv 0) (pa_cons (pe_bltn (v := .ty "str") (by rfl) B.str (by decide +kernel) rfl) pa_nil)))) (pss_one (ps_ret pe_int)) pss_nil)
      (pss_cons (ps_set (i := 1) scPO2.nd rfl (Or.inl rfl) pe_int)
      (pss_cons (ps_for PassesOwn.never rfl (pi_tup (pv 0)) (pg_tup rfl (pgs_cons (pg_name (i := 2) scPO2.nd rfl (Or.inl rfl)) (pgs_cons (pg_name (i := 3) scPO2.nd rfl (Or.inl rfl)) pgs_nil)))
        (pss_cons (ps_set (i := 4) scPO2.nd rfl (Or.inl rfl) (pe_call GR hr rfl F.mg F.fn.kp F.b .nil pass0 (pa_cons (pv 3) pa_nil)))
        (pss_cons (ps_set (i := 5) scPO2.nd rfl (Or.inl rfl) (pe_op op_fdivW (pv 4) (pe_call GG hr1 rfl DG.mg DG.fn.kp DG.b .nil pass0 (pa_cons (pv 4) (pa_cons (pv 2) pa_nil)))))
        (pss_one (ps_set (i := 1) scPO2.nd rfl (Or.inl rfl) (pe_op op_fdivW (pe_op op_mulW (pv 1) (pv 5)) (pe_call GG hr1 rfl DG.mg DG.fn.kp DG.b .nil pass0 (pa_cons (pv 1) (pa_cons (pv 5) pa_nil)))))))))
      (pss_one (ps_ret (pe_op op_mulW (pv 1) (pe_callB (cr_sum rfl) (by rfl) B.sum (by decide +kernel) (pa_cons
        (pe_lc (own := [("weight", 2), ("part", 3)]) (g := gTup K 2 (gCons (gName 2) (gCons (gName 3) gNil))) (tt := tYes) (by rfl) scPO2.nd (pi_tup (pv 0)) (blkOk_by (own := [("weight", 2), ("part", 3)]) (N := nPO2) (sc := defScope s_period_of) (by decide +kernel))
          (fun _ _ _ _ _ => pg_tup rfl (pgs_cons (pg_name (i := 2) scPO2.nd rfl (Or.inl rfl)) (pgs_cons (pg_name (i := 3) scPO2.nd rfl (Or.inl rfl)) pgs_nil))) (fun _ _ _ _ _ => pts_nil)
          (fun _ _ _ _ _ => pv 2)) pa_nil))))))), ?_⟩
    cases t with
    | feed n =>
      have hv := TrAt_feed.mp hT
      subst hv
      refine ⟨_, rfl, _, _, _, _, true, rfl, .ty _, .base (.str n), kit_ty (by decide +kernel), _, rfl, ?_⟩
      have z := k H (Same.refl _)
      rw [Tr.per] at z
      exact z
    | mix ps =>
      cases d with
      | zero => exact (TrAt_zero hT).elim
      | succ e =>
        obtain ⟨a, xs, rfl, hs, hP⟩ := TrAt_mix.mp hT
        have hw : ps ≠ [] ∧ ps.length ≤ 5 ∧ ∀ p ∈ ps, 1 ≤ p.1 ∧ p.1 ≤ 9 ∧ p.2.wf e := by unfold Tr.wf at hW; exact hW
        have he3 : eb e ≤ 342 := eb_mono (e := 3) (by omega)
        obtain ⟨nd, end'⟩ : ∃ nd : List Nat, nd = ps.map fun p => p.2.per / Nat.gcd p.2.per p.1.toNat := ⟨_, rfl⟩
        have hnd : ∀ x ∈ nd, 0 < x ∧ x < 2 ^ eb e := fun x hx => by
          rw [end'] at hx
          obtain ⟨p, hp, rfl⟩ := List.mem_map.mp hx
          exact need_lt (per_pos e (hw.2.2 p hp).2.2) (per_lt e (hw.2.2 p hp).2.2)
        have hlc : ∀ i, 0 < lcmL (nd.take i) ∧ lcmL (nd.take i) < 2 ^ 1711 := fun i => by
          have h1 := lcmL_lt (e := eb e) (l := nd.take i) fun x hx => hnd x (List.mem_of_mem_take hx)
          refine ⟨lcmL_pos fun x hx => (hnd x (List.mem_of_mem_take hx)).1, Nat.lt_of_lt_of_le h1 (Nat.pow_le_pow_right (by decide) ?_)⟩
          have h2 : (nd.take i).length ≤ 5 := by
            rw [List.length_take, end', List.length_map]
            omega
          have h3 := Nat.mul_le_mul h2 he3
          omega
        refine ⟨_, rfl, _, _, _, _, false, rfl, .ty _, tyx_tup hs, kit_ty (by decide +kernel), _, rfl, ?_⟩
        refine ⟨_, rfl, a, rfl, ⟨_, hs⟩, for_tup (K := K) (a := a) (xs := xs) (fun i σ H' => ∃ v2 v3 v4 v5 : Option V, σ = [some (.ref a), some (.int (lcmL (nd.take i) : Nat)), v2, v3, v4, v5] ∧ Same H H') ?_ ?_ ?_ ?_⟩
        · exact ⟨_, _, _, _, rfl, Same.refl _⟩
        · rintro i σ H' _ ⟨v2, v3, v4, v5, rfl, hS⟩
          exact sqT_same hS _ _ hs
        · rintro i x σ H' hx ⟨v2, v3, v4, v5, rfl, hS⟩
          have hi : i < ps.length := by rw [← hP.1]; exact (List.getElem?_eq_some_iff.mp hx).1
          have hpi : ps[i]? = some ps[i] := List.getElem?_eq_getElem hi
          have hpm : ps[i] ∈ ps := List.getElem_mem hi
          obtain ⟨hw1, hw9, hwe⟩ := hw.2.2 _ hpm
          obtain ⟨b, y, rfl, hb, hy⟩ := hP.2 i x _ hx hpi
          obtain ⟨wn, ewn⟩ : ∃ wn : Nat, ps[i].1 = (wn : Int) := ⟨ps[i].1.toNat, by omega⟩
          have ewt : ps[i].1.toNat = wn := by omega
          have hpp := per_pos e hwe
          obtain ⟨x5, ex5⟩ : ∃ x5, x5 = ps[i].2.per / Nat.gcd ps[i].2.per wn := ⟨_, rfl⟩
          have hndi : nd[i]? = some x5 := by rw [end', List.getElem?_map, hpi, ex5, ← ewt]; rfl
          obtain ⟨hx0, hx2⟩ := hnd x5 (List.mem_of_getElem? hndi)
          have hg0 : 0 < Nat.gcd ps[i].2.per wn := Nat.gcd_pos_of_pos_left _ hpp
          have hgw : Nat.gcd ps[i].2.per wn ≤ 9 := by
            have h1 := Nat.le_of_dvd (by omega) (Nat.gcd_dvd_right ps[i].2.per wn)
            omega
          obtain ⟨hl0, hl2⟩ := hlc i
          have hg1 : 0 < Nat.gcd (lcmL (nd.take i)) x5 := Nat.gcd_pos_of_pos_left _ hl0
          have hg2 : Nat.gcd (lcmL (nd.take i)) x5 < 2 ^ 1711 := Nat.lt_of_le_of_lt (Nat.le_of_dvd hl0 (Nat.gcd_dvd_left _ _)) hl2
          refine ⟨b, _, rfl, sqT_same hS _ _ hb, rfl, _, _, rfl, _, _, rfl, rfl, ?_⟩
          refine ⟨_, rfl, y, ps[i].2, rfl, TrAt.keep (sqT_same hS) _ hy, hwe, by omega, fun H2 S2 => ?_⟩
          refine ⟨_, rfl, _, rfl, _, rfl, ps[i].2.per, wn, (by rw [ewn]; rfl), _, _, rfl, rfl, wide_div (b := 4) (by omega) (by rw [Int.natAbs_natCast]; omega) (by decide) (by decide), ?_⟩
          have e5 : ((ps[i].2.per : Nat) : Int) / ((Nat.gcd ps[i].2.per wn : Nat) : Int) = ((x5 : Nat) : Int) := by rw [ex5, Int.natCast_ediv]
          dsimp only
          rw [e5]
          refine ⟨_, rfl, _, rfl, _, _, rfl, rfl, wide_mul (a := 1711) (b := eb e) (by rw [Int.natAbs_natCast]; exact hl2) (by rw [Int.natAbs_natCast]; exact hx2) (by decide) (by cases e <;> (unfold eb; omega)) (by omega), _, rfl, _, rfl, lcmL (nd.take i), x5, rfl, _, _, rfl, rfl, wide_div (b := 1711) (by omega) (by rw [Int.natAbs_natCast]; exact hg2) (by decide) (by decide), ?_⟩
          refine ⟨some (.int ps[i].1), some y, some (.int (ps[i].2.per : Nat)), some (.int (x5 : Nat)), ?_, hS.trans S2⟩
          rw [take_succ_of hndi, lcmL_snoc]
          have e6 : (lcmL (nd.take i) : Int) * (x5 : Int) / ((Nat.gcd (lcmL (nd.take i)) x5 : Nat) : Int) = ((Nat.lcm (lcmL (nd.take i)) x5 : Nat) : Int) := by
            rw [← Int.natCast_mul, ← Int.natCast_ediv]
            rfl
          dsimp only
          rw [e6]
          rfl
        · rintro σ H1 ⟨v2, v3, v4, v5, rfl, S1⟩
          refine ⟨_, rfl, _, rfl, a, rfl, ⟨_, sqT_same S1 _ _ hs⟩, fun D nD => ?_⟩
          refine lc_tup (K := K) (a := a) (xs := xs) (fun i H' => Same H1 H' ∧ H' D = some (.lst (((ps.take i).map fun p => p.1).map V.int))) ?_ ?_ ?_ ?_
          · exact ⟨Same.new (Same.refl _) nD, upd_same⟩
          · rintro i H' _ ⟨hS, _⟩
            exact sqT_same (S1.trans hS) _ _ hs
          · rintro i x H' hx ⟨hS, hD⟩
            have hi : i < ps.length := by rw [← hP.1]; exact (List.getElem?_eq_some_iff.mp hx).1
            have hpi : ps[i]? = some ps[i] := List.getElem?_eq_getElem hi
            obtain ⟨b, y, rfl, hb, hy⟩ := hP.2 i x _ hx hpi
            refine ⟨b, _, rfl, sqT_same (S1.trans hS) _ _ hb, rfl, _, _, rfl, _, _, rfl, rfl, rfl, ?_⟩
            refine ⟨_, rfl, _, hD, by rw [List.length_map, List.length_map, List.length_take]; exact small1000 (by omega), Same.own hS nD, ?_⟩
            rw [upd_same, take_succ_of hpi, List.map_append, List.map_append]
            rfl
          · rintro H3 ⟨S3, hD⟩
            rw [List.take_of_length_le (by rw [hP.1]; exact Nat.le_refl _)] at hD
            have hall : nd.take xs.length = nd := List.take_of_length_le (by rw [end', List.length_map, hP.1]; exact Nat.le_refl _)
            rw [hall]
            refine ⟨D, _, rfl, SqL.of hD, ?_⟩
            have hsum : ∀ qs : List (Int × Tr), (∀ p ∈ qs, 1 ≤ p.1) → (qs.map fun p => p.1).sum = (wW qs : Int) := by
              intro qs
              induction qs with
              | nil => intro _; rfl
              | cons p r ih =>
                intro hq
                have h1 := hq p List.mem_cons_self
                rw [List.map_cons, List.sum_cons, ih fun x hx => hq x (List.mem_cons_of_mem _ hx)]
                show p.1 + (wW r : Int) = ((p.1.toNat + wW r : Nat) : Int)
                omega
            rw [hsum ps fun p hp => (hw.2.2 p hp).1]
            have h45 := wW_le (fun p hp => (hw.2.2 p hp).2.1) hw.2.1
            have hl2 := hlc xs.length
            rw [hall] at hl2
            refine ⟨_, _, rfl, rfl, wide_mul (a := 1711) (b := 6) (by rw [Int.natAbs_natCast]; exact hl2.2) (by rw [Int.natAbs_natCast]; omega) (by decide) (by decide) (by decide), ?_⟩
            have z := k H3 (S1.trans S3)
            rw [Tr.per, Tr.perL_eq, ← end', Nat.mul_comm, Int.natCast_mul] at z
            exact z
theorem ok_perOf {f fG : Addr} {fd fdG : FuncData} (F : Def K mg "period_of" s_period_of ["tree"] f fd) (B : Blt mg) (DG : Def K mg "common_divisor" s_common_divisor ["one", "other"] fG fdG) (GG : FnOk P w K mg base CX0 1 fG fdG ["one", "other"] spGcd) : ∀ d : Nat, FnOk P w K mg base CX0 (d + 2) f fd ["tree"] (spPerOf K d)
  | 0 => perOf_step F B DG GG (F.fn.ok (k := 0) scPO2 (fun _ _ _ _ h => h.elim) (fun _ _ _ _ _ _ _ _ _ h => h.elim))
  | d + 1 => perOf_step F B DG GG (ok_perOf F B DG GG d)
theorem scPer : FnScope ["tree"] ["tree"] (defScope s_period) := ⟨rfl, rfl, rfl, by decide +kernel, rfl, by decide +kernel, by decide +kernel⟩
theorem ok_period {f fT fP fO : Addr} {fd dT dP dO : FuncData} (F : Fun K "period" "period" s_period f fd) (DT : Def K mg "require_tree" sReqTree ["value"] fT dT) (GT : FnOk P w K mg base CX0 12 fT dT ["value"] (spReqTree K)) (DP : Def K mg "plain" s_plain ["tree"] fP dP) (GP : FnOk P w K mg base CX0 13 fP dP ["tree"] (spPlain K))
    (DO : Def K mg "period_of" s_period_of ["tree"] fO dO) (GO : FnOk P w K mg base CX0 6 fO dO ["tree"] (spPerOf K 4)) : FnOk P w K mg base CX0 14 f fd ["tree"] (spPeriod K) := by
  refine F.ok scPer (fun vs H Q E h => ?_) (fun cdv A outer s H vs Q E hr h => ?_)
  · obtain ⟨v, t, rfl, _⟩ := h
    rfl
  · obtain ⟨v, t, rfl, hT, hV, k⟩ := h
    refine ⟨_, pss_cons (ps_expr (pe_call GT (hr.mono (by decide)) rfl DT.mg DT.fn.kp DT.b .nil pass0 (pa_cons (pv 0) pa_nil))) (pss_one (ps_ret (pe_call GO (hr.mono (by decide)) rfl DO.mg DO.fn.kp DO.b .nil pass0 (pa_cons (pe_call GP hr rfl DP.mg DP.fn.kp DP.b .nil pass0 (pa_cons (pv 0) pa_nil)) pa_nil)))), ?_⟩
    refine ⟨_, rfl, v, t, rfl, hT, hV, fun H1 S1 => ?_⟩
    refine ⟨_, rfl, v, t, rfl, TrAt.keep (sqT_same S1) _ hT, hV, fun v' H2 S2 h2 => ?_⟩
    exact ⟨v', t.plain, rfl, h2, (plain_ok 4 hV.wf).1, by decide, fun H3 S3 => k H3 ((S1.trans S2).trans S3)⟩
end
end Mx
set_option Elab.async false
set_option maxRecDepth 100000
set_option linter.all false
/-! law_k01: what each call of _law_outcome is promised to do -/
namespace Mx
open PySem PySem.Spec PyProof.Rows L2
theorem fnImp {P : Program} {w : World} {K : PySem.W.Frag} {mg : Str → Option Value} {base : Heap} {CX : CXT} {k l : Nat} {f : Addr} {fd : FuncData} {ps : List Str} {a b : L2.Sp} (F : FnOk P w K mg base CX k f fd ps a) (hk : k ≤ l) (i : ∀ vs H Q E, b vs H Q E → a vs H Q E) : FnOk P w K mg base CX l f fd ps b :=
  ⟨fun vs H Q E h => F.len vs H Q E (i _ _ _ _ h), fun A outer s H args us vs Q E r e bd v h => F.run A outer s H args us vs Q E (r.mono hk) e bd v (i _ _ _ _ h)⟩
/-- a tree: anything may come; no tree: InvalidTree -/
def spU (K : PySem.W.Frag) (C : Nat → Addr) (n : Nat) : Sp := fun vs H Q E => ∃ (x : V) (d : PyData), vs = x :: List.replicate n V.non ∧ Dv K H x d ∧ Tame d ∧ ((¬ ∃ t : Tr, t.data = d ∧ TreeV t) → ∀ H', Same H H' → E (.ref (C 0)) none H') ∧
  (∀ t : Tr, t.data = d → TreeV t → (∀ v H', Same H H' → Q v H') ∧ ∀ i, i < 11 → ∀ H', Same H H' → E (.ref (C i)) none H')
def spGo (K : PySem.W.Frag) (C : Nat → Addr) (n : Nat) : Sp := fun vs H Q E => ∃ (x : V) (t : Tr), vs = x :: List.replicate n V.non ∧ TrAt K H 4 x t ∧ TreeV t ∧ (∀ v H', Same H H' → Q v H') ∧ ∀ i, i < 11 → ∀ H', Same H H' → E (.ref (C i)) none H'
theorem okName_low {s : Str} (h : okName s = true) : 1 ≤ s.cps.size ∧ s.cps.size ≤ 6 ∧ ∀ c ∈ s.cps.toList, 97 ≤ c ∧ c ≤ 122 := by
  unfold okName at h
  simp only [Bool.and_eq_true, decide_eq_true_eq, List.all_eq_true] at h
  exact ⟨h.1.1, h.1.2, fun c hc => by have := h.2 c hc; omega⟩
theorem TreeV.okNm {t : Tr} (h : TreeV t) : OkNm t := fun n hn => by
  have h1 := okName_low (h.nm n hn).1
  rw [PyData.canLay0]
  unfold PyData.strOk
  rw [Array.all_eq_true_iff_forall_mem]
  intro c hc
  have := h1.2.2 c (by simpa using hc)
  exact decide_eq_true (by omega)
def spLN (K : PySem.W.Frag) (C : Addr) (n : Nat) : Sp := fun vs H Q E => ∃ (v : V) (rest : List V) (t : Tr), vs = v :: .non :: rest ∧ rest.length + 2 = n ∧ TrAt K H 4 v t ∧ TreeV t ∧ ∀ H', Same H H' → E (.ref C) none H'
section
variable {P : Program} {w : World} {K : PySem.W.Frag} {mg : Str → Option Value} {base : Heap} {C : Nat → Addr}
theorem ok_U {f : Addr} {fd : FuncData} {ps : List Str} {n k l : Nat} {g : L2.Sp} (E1 : FnOk P w K mg base (L2N.CX P w) k f fd ps (spE1 K (C 0) (n + 1))) (hk : k ≤ 22) (G : FnOk P w K mg base (L2N.CX P w) l f fd ps g) (hl : l ≤ 22) (i : ∀ vs H Q E, spGo K C n vs H Q E → g vs H Q E) : FnOk P w K mg base (L2N.CX P w) 22 f fd ps (spU K C n) := by
  refine fnImp (ok_or (fnImp E1 hk fun _ _ _ _ h => h) (fnImp G hl i)) (Nat.le_refl _) fun vs H Q E h => ?_
  obtain ⟨x, d, rfl, hD, hS, bad, good⟩ := h
  by_cases c : ∃ t : Tr, t.data = d ∧ TreeV t
  · obtain ⟨t, rfl, hV⟩ := c
    exact .inr ⟨x, t, rfl, dv_tr 4 hV.wf hD, hV, good t rfl hV⟩
  · exact .inl ⟨x, _, d, rfl, by simp, hD, hS.small, c, bad c⟩
theorem ok_place_of_N2 {f fT fL CL : Addr} {fd dT dL : FuncData} (F : Fun K "place_of" "place_of" s_place_of f fd) (DT : Def K mg "require_tree" sReqTree ["value"] fT dT) (GT : FnOk P w K mg base CX0 12 fT dT ["value"] (spReqTree K)) (DL : Def K mg "require_lengths" sReqLen ["tree", "value"] fL dL) (GL : FnOk P w K mg base (L2N.CX P w) 14 fL dL ["tree", "value"] (spReqLen K CL)) :
    FnOk P w K mg base (L2N.CX P w) 21 f fd ["tree", "lengths", "item"] (spLN K CL 3) := by
  refine okN F scO_place_of (fun vs H Q E h => ?_) (fun cdv A outer s H vs Q E hr h => ?_)
  · obtain ⟨v, rest, t, rfl, hn, _⟩ := h
    simpa using hn
  · obtain ⟨v, rest, t, rfl, hn, hT, hV, k⟩ := h
    refine ⟨_, pss_cons (ps_expr (pe_call GT (hr.mono (by decide)) rfl DT.mg DT.fn.kp DT.b .nil pass0 (pa_cons (pv 0) pa_nil))) (pss_cons (ps_expr (pe_call GL (hr.mono (by decide)) rfl DL.mg DL.fn.kp DL.b .nil (L2N.passes_call (L2N.takes_of rfl rfl rfl rfl) (fun _ _ _ _ h => h)) (pa_cons (pv 0) (pa_cons (pv 1) pa_nil)))) pss_no), ?_⟩
    exact ⟨_, rfl, v, t, rfl, hT, hV, fun H1 S1 => ⟨_, rfl, _, rfl, v, .non, t, rfl, TrAt.keep (sqT_same S1) _ hT, hV, .inr ⟨.inl rfl, fun H2 S2 => k H2 (S1.trans S2)⟩⟩⟩
theorem ok_item_at_N2 {f fT fL CL : Addr} {fd dT dL : FuncData} (F : Fun K "item_at" "item_at" s_item_at f fd) (DT : Def K mg "require_tree" sReqTree ["value"] fT dT) (GT : FnOk P w K mg base CX0 12 fT dT ["value"] (spReqTree K)) (DL : Def K mg "require_lengths" sReqLen ["tree", "value"] fL dL) (GL : FnOk P w K mg base (L2N.CX P w) 14 fL dL ["tree", "value"] (spReqLen K CL)) :
    FnOk P w K mg base (L2N.CX P w) 21 f fd ["tree", "lengths", "place"] (spLN K CL 3) := by
  refine okN F scO_item_at (fun vs H Q E h => ?_) (fun cdv A outer s H vs Q E hr h => ?_)
  · obtain ⟨v, rest, t, rfl, hn, _⟩ := h
    simpa using hn
  · obtain ⟨v, rest, t, rfl, hn, hT, hV, k⟩ := h
    refine ⟨_, pss_cons (ps_expr (pe_call GT (hr.mono (by decide)) rfl DT.mg DT.fn.kp DT.b .nil pass0 (pa_cons (pv 0) pa_nil))) (pss_cons (ps_expr (pe_call GL (hr.mono (by decide)) rfl DL.mg DL.fn.kp DL.b .nil (L2N.passes_call (L2N.takes_of rfl rfl rfl rfl) (fun _ _ _ _ h => h)) (pa_cons (pv 0) (pa_cons (pv 1) pa_nil)))) pss_no), ?_⟩
    exact ⟨_, rfl, v, t, rfl, hT, hV, fun H1 S1 => ⟨_, rfl, _, rfl, v, .non, t, rfl, TrAt.keep (sqT_same S1) _ hT, hV, .inr ⟨.inl rfl, fun H2 S2 => k H2 (S1.trans S2)⟩⟩⟩
theorem ok_counts_in_N2 {f fT fL CL : Addr} {fd dT dL : FuncData} (F : Fun K "counts_in" "counts_in" s_counts_in f fd) (DT : Def K mg "require_tree" sReqTree ["value"] fT dT) (GT : FnOk P w K mg base CX0 12 fT dT ["value"] (spReqTree K)) (DL : Def K mg "require_lengths" sReqLen ["tree", "value"] fL dL) (GL : FnOk P w K mg base (L2N.CX P w) 14 fL dL ["tree", "value"] (spReqLen K CL)) :
    FnOk P w K mg base (L2N.CX P w) 21 f fd ["tree", "lengths", "many"] (spLN K CL 3) := by
  refine okN F scO_counts_in (fun vs H Q E h => ?_) (fun cdv A outer s H vs Q E hr h => ?_)
  · obtain ⟨v, rest, t, rfl, hn, _⟩ := h
    simpa using hn
  · obtain ⟨v, rest, t, rfl, hn, hT, hV, k⟩ := h
    refine ⟨_, pss_cons (ps_expr (pe_call GT (hr.mono (by decide)) rfl DT.mg DT.fn.kp DT.b .nil pass0 (pa_cons (pv 0) pa_nil))) (pss_cons (ps_expr (pe_call GL (hr.mono (by decide)) rfl DL.mg DL.fn.kp DL.b .nil (L2N.passes_call (L2N.takes_of rfl rfl rfl rfl) (fun _ _ _ _ h => h)) (pa_cons (pv 0) (pa_cons (pv 1) pa_nil)))) pss_no), ?_⟩
    exact ⟨_, rfl, v, t, rfl, hT, hV, fun H1 S1 => ⟨_, rfl, _, rfl, v, .non, t, rfl, TrAt.keep (sqT_same S1) _ hT, hV, .inr ⟨.inl rfl, fun H2 S2 => k H2 (S1.trans S2)⟩⟩⟩
theorem ok_mixed_N2 {f fT fL CL : Addr} {fd dT dL : FuncData} (F : FunM K f fd) (DT : Def K mg "require_tree" sReqTree ["value"] fT dT) (GT : FnOk P w K mg base CX0 12 fT dT ["value"] (spReqTree K)) (DL : Def K mg "require_lengths" sReqLen ["tree", "value"] fL dL) (GL : FnOk P w K mg base (L2N.CX P w) 14 fL dL ["tree", "value"] (spReqLen K CL)) :
    FnOk P w K mg base (L2N.CX P w) 21 f fd ["tree", "lengths", "first"] (spLN K CL 3) := by
  refine F.ok scMixed (fun vs H Q E h => ?_) (fun cdv A outer s H vs Q E hr h => ?_)
  · obtain ⟨v, rest, t, rfl, hn, _⟩ := h
    simpa using hn
  · obtain ⟨v, rest, t, rfl, hn, hT, hV, k⟩ := h
    refine ⟨_, pss_cons (ps_expr (pe_call GT (hr.mono (by decide)) rfl DT.mg DT.fn.kp DT.b .nil pass0 (pa_cons (pv 0) pa_nil))) (pss_cons (ps_expr (pe_call GL (hr.mono (by decide)) rfl DL.mg DL.fn.kp DL.b .nil (L2N.passes_call (L2N.takes_of rfl rfl rfl rfl) (fun _ _ _ _ h => h)) (pa_cons (pv 0) (pa_cons (pv 1) pa_nil)))) pss_no), ?_⟩
    exact ⟨_, rfl, v, t, rfl, hT, hV, fun H1 S1 => ⟨_, rfl, _, rfl, v, .non, t, rfl, TrAt.keep (sqT_same S1) _ hT, hV, .inr ⟨.inl rfl, fun H2 S2 => k H2 (S1.trans S2)⟩⟩⟩
theorem ok_restr_N2 {f fT fM CM : Addr} {fd dT dM : FuncData} (F : Fun K "restricted" "restricted" s_restricted f fd) (DT : Def K mg "require_tree" sReqTree ["value"] fT dT) (GT : FnOk P w K mg base CX0 12 fT dT ["value"] (spReqTree K)) (DM : Def K mg "require_names" s_require_names ["tree", "value"] fM dM) (GM : FnOk P w K mg base (L2N.CX P w) 8 fM dM ["tree", "value"] (spReqNames K CM)) :
    FnOk P w K mg base (L2N.CX P w) 21 f fd ["tree", "names"] (spLN K CM 2) := by
  refine okN F scO_restricted (fun vs H Q E h => ?_) (fun cdv A outer s H vs Q E hr h => ?_)
  · obtain ⟨v, rest, t, rfl, hn, _⟩ := h
    simpa using hn
  · obtain ⟨v, rest, t, rfl, hn, hT, hV, k⟩ := h
    refine ⟨_, pss_cons (ps_expr (pe_call GT (hr.mono (by decide)) rfl DT.mg DT.fn.kp DT.b .nil pass0 (pa_cons (pv 0) pa_nil))) (pss_cons (ps_expr (pe_call GM (hr.mono (by decide)) rfl DM.mg DM.fn.kp DM.b .nil (L2N.passes_call (L2N.takes_of rfl rfl rfl rfl) (fun _ _ _ _ h => h)) (pa_cons (pv 0) (pa_cons (pv 1) pa_nil)))) pss_no), ?_⟩
    exact ⟨_, rfl, v, t, rfl, hT, hV, fun H1 S1 => ⟨_, rfl, _, rfl, v, .non, t, rfl, TrAt.keep (sqT_same S1) _ hT, hV, .inr (.inr ⟨.inl rfl, fun H2 S2 => k H2 (S1.trans S2)⟩)⟩⟩
/-- Mixer's __init__ -/
def spUM (K : PySem.W.Frag) (C : Nat → Addr) (CX : Addr) : Sp := fun vs H Q E => ∃ (z dx : Addr) (x : V) (d : PyData), vs = [.ref z, x] ∧ H z = some (.ins CX dx []) ∧ Dv K H x d ∧ Tame d ∧ ((¬ ∃ t : Tr, t.data = d ∧ TreeV t) → ∀ H', Same H H' → E (.ref (C 0)) none H') ∧
  (∀ t : Tr, t.data = d → TreeV t → ∀ H', But z H H' → Q .non H')
theorem ok_UM {f CX CF CM : Addr} {fd : FuncData} (E1 : FnOk P w K mg base (L2N.CX P w) 21 f fd ["self", "tree"] (spXIE K (C 0))) (G : FnOk P w K mg base CX0 13 f fd ["self", "tree"] (spXI K CX CF CM)) : FnOk P w K mg base (L2N.CX P w) 21 f fd ["self", "tree"] (spUM K C CX) := by
  refine fnImp (ok_or E1 (fnImp (ok_toN G) (by decide) fun _ _ _ _ h => h)) (Nat.le_refl _) fun vs H Q E h => ?_
  obtain ⟨z, dx, x, d, rfl, hz, hD, hS, bad, good⟩ := h
  by_cases c : ∃ t : Tr, t.data = d ∧ TreeV t
  · obtain ⟨t, rfl, hV⟩ := c
    exact .inr ⟨z, dx, x, t, rfl, hz, dv_tr 4 hV.wf hD, hV, fun F H' b _ _ => good t rfl hV H' b⟩
  · exact .inl ⟨.ref z, x, d, rfl, hD, hS.small, c, bad c⟩
end
end Mx
set_option Elab.async false
set_option maxRecDepth 100000
set_option linter.all false
/-! law_k01: _law_together -/
namespace Mx
open PySem PySem.Spec PyProof.Rows L2 L2H
section
variable {X : Cx} {CX : CXT} {k : Nat} {f : Addr} {sp : Sp} {E : L2.St → XK} {x : Str} {p pos : PySem.Pos} {e : Expr} {es : List Expr} {t : TA}
/-- what runs whatever arguments it takes, its error wished at the caller's slots -/
theorem run_RS {pins : List (Addr × Obj)} {σ : L2.St} {H : Hp} {s : Shared} {Q : VK} {us : List Value} {vs : List V} (F : FnR X.prog X.w X.K X.mg X.base CX k f sp) (hr : Room k X.A) (hx : PassesAt CX X σ (E σ)) (I : Inv X pins σ H s) (r : Vals vs us) (h : sp vs H Q (E σ)) :
    wpAny (model X.prog X.w) X.A (call (.ref f) us) (EP X pins σ Q) X.xe s := by
  refine wpAny_call (codeAny_mono (F X.A X.stack s H us vs Q (E σ) hr I.env0 r h) fun o s' ho => ?_)
  match o, ho with
  | .error z, ho => exact hx pins H s z s' I ho
  | .ok (.ret u), ho => exact I.after ho
  | .ok .next, ho => exact ho.elim
  | .ok .brk, ho => exact ho.elim
  | .ok .cont, ho => exact ho.elim
def tCallR (sp : Sp) (E : L2.St → XK) (t : TA) : TE := fun σ H Q => t σ H fun vs H1 => sp vs H1 Q (E σ)
/-- x(e, ..), x a def with a star parameter -/
theorem pe_callR (F : FnR X.prog X.w X.K X.mg X.base CX k f sp) (hr : Room k X.A) (hg : Gl X x) (hm : X.mg x = some (.ref f)) (hk : PySem.W.keepIn X.K (.ref f) = true) (hx : ∀ σ, PassesAt CX X σ (E σ)) (ha : PA X (e :: es) t) (hdb : (x == ("__debug__" : Str)) = false := by decide)
    (he : starEach (e :: es) X.env = (false, eval e X.env) :: starEach es X.env := by rfl) (hpl : (backTo pos (starEach es X.env)).any (·.1) = false := by rfl) : PE X (.Call (.Name x p) (e :: es) [] pos) (tCallR sp E t) := by
  refine ⟨fun pins s σ H Q I h => wpAny_Call_Name_kw (ld_glob I hg hm ?_ hdb)⟩
  refine PySem.W.callWith_K (h₀ := X.base) I.ok.mod.kin hk (thn (ha.run pos pins s σ H _ I h) fun us s2 z => ?_) he hpl
  obtain ⟨vs, H2, I2, r, q2⟩ := z
  exact ⟨I2.kIn, run_RS F hr (hx σ) I2 r q2⟩
/-- x() -/
theorem pe_callR0 (F : FnR X.prog X.w X.K X.mg X.base CX k f sp) (hr : Room k X.A) (hg : Gl X x) (hm : X.mg x = some (.ref f)) (hk : PySem.W.keepIn X.K (.ref f) = true) (hx : ∀ σ, PassesAt CX X σ (E σ)) (hdb : (x == ("__debug__" : Str)) = false := by decide) : PE X (.Call (.Name x p) [] [] pos) (tCallR sp E tNil) :=
  ⟨fun pins s σ H Q I h => wpAny_Call_Name_kw (ld_glob I hg hm (PySem.W.callWith_K0 I.kIn hk (run_RS (us := []) F hr (hx σ) I .nil h)) hdb)⟩
end
def spLTog (K : PySem.W.Frag) : Sp := fun vs H Q _ => ∃ (a : Addr) (xs : List V) (ds : List PyData), vs = [.ref a] ∧ SqL K H a xs ∧ DvAll K H xs ds ∧ (∀ d ∈ ds, Tame d) ∧ ds.length ≤ 3 ∧
  (∀ t : Tr, t.data = .tuple ds → TreeV t → ∀ p H', Same H H' → H' p = some (.tup xs) → Q (.ref p) H') ∧ ((¬ ∃ t : Tr, t.data = .tuple ds ∧ TreeV t) → ∀ H', Same H H' → Q (.str "tree") H')
section
variable {P : Program} {w : World} {K : PySem.W.Frag} {mg : Str → Option Value} {base : Heap} {C : Nat → Addr}
theorem scLTg : FnScope ["pairs", "e"] ["pairs"] (defScope s_law_together) := ⟨rfl, rfl, rfl, by decide +kernel, rfl, by decide +kernel, by decide +kernel⟩
set_option maxHeartbeats 1000000 in
theorem ok_lTog {f fE fT : Addr} {fd dE : FuncData} (F : Fun K "_law_together" "_law_together" s_law_together f fd) (B : Blt mg) (Er : ErrAll K mg C) (DE : Def K mg "_law_error_name" sErrName ["e"] fE dE) (mT : mg "together" = some (.ref fT)) (kT : PySem.W.keepIn K (.ref fT) = true)
    (GT : FnR P w K mg base (L2N.CX P w) 14 fT (spTog K (C 0))) : FnOk P w K mg base CX0 17 f fd ["pairs"] (spLTog K) := by
  have GE : FnE P w K mg base 1 fE dE ["e"] (spErr K C) := ok_errName DE.fn B Er.cs
  have h0 := Er.d 0 (by decide)
  refine F.ok scLTg (fun vs H Q E h => ?_) (fun cdv A outer s H vs Q E hr h => ?_)
  · obtain ⟨a, xs, ds, rfl, _⟩ := h
    rfl
  · obtain ⟨a, xs, ds, rfl, ha, hA, hT, hl3, good, bad⟩ := h
    have hl := dvAll_len hA
    refine ⟨_, pss_one (L2N.ps_try_as (i := 1) rfl rfl scLTg.nd rfl rfl ⟨rfl, by decide, .inl Er.cs.g11⟩ takes0N
        (fun W pn xe tk _ => pss_cons (ps_if (pt_cmpR op_lt (pe_callB (r := rLenS K) call_len_seq (by rfl) B.len PySem.boot_len (pa_cons (pv 0) pa_nil)) pe_int (nomark _))
            (pss_one (ps_ret (pe_ifExp (pt_cmpR (r := rEq) op_eq (pe_callB (r := rLenS K) call_len_seq (by rfl) B.len PySem.boot_len (pa_cons (pv 0) pa_nil)) pe_int (nomark _))
              (pe_callR GT (hr.mono (by decide)) rfl mT kT (fun σ => L2N.passAt tk σ) (pa_cons (pe_ix (r := rIxL K) ix_list (pv 0) pe_int (fun _ _ => rfl)) pa_nil)) (pe_callR0 GT (hr.mono (by decide)) rfl mT kT (fun σ => L2N.passAt tk σ))))) pss_nil)
          (pss_one (ps_ret (pe_ifExp (pt_cmpR (r := rEq) op_eq (pe_callB (r := rLenS K) call_len_seq (by rfl) B.len PySem.boot_len (pa_cons (pv 0) pa_nil)) pe_int (nomark _))
              (pe_callR GT (hr.mono (by decide)) rfl mT kT (fun σ => L2N.passAt tk σ) (pa_cons (pe_ix (r := rIxL K) ix_list (pv 0) pe_int (fun _ _ => rfl)) (pa_cons (pe_ix (r := rIxL K) ix_list (pv 0) pe_int (fun _ _ => rfl)) pa_nil)))
              (pe_callR GT (hr.mono (by decide)) rfl mT kT (fun σ => L2N.passAt tk σ) (pa_cons (pe_ix (r := rIxL K) ix_list (pv 0) pe_int (fun _ _ => rfl)) (pa_cons (pe_ix (r := rIxL K) ix_list (pv 0) pe_int (fun _ _ => rfl)) (pa_cons (pe_ix (r := rIxL K) ix_list (pv 0) pe_int (fun _ _ => rfl)) pa_nil))))))))
        (fun a oe cls d pn hz hf => suite_err (i := 1) GE DE (roomH_of (hr.mono (by decide))) (by rfl) (by rfl) (by exact .inl rfl) a oe cls d pn hz hf)), ?_⟩
    match xs, ds, hl, hl3, ha, hA, hT, good, bad with
    | [], ds, hl, hl3, ha, hA, hT, good, bad =>
        refine ⟨_, rfl, a, [], rfl, .inl ha, _, _, rfl, rfl, _, rfl, ite2 (fun _ => ?_) (fun z => absurd rfl z)⟩
        refine ⟨_, rfl, a, [], rfl, .inl ha, rfl, _, rfl, ite2 (fun z => nomatch (show false = true from z)) (fun _ => ?_)⟩
        refine ⟨[], [], rfl, rfl, by show 0 ≤ sizeLine; decide, fun q nq => ?_⟩
        have S1 : Same H (L2.upd H q (.tup [])) := Same.new (Same.refl _) nq
        exact ⟨q, _, _, rfl, SqT.of upd_same, DvAll.same S1 hA, hT, fun t e hV H2 S2 => good t e hV q H2 (S1.trans S2) (S2 _ _ upd_same), fun z H2 S2 => ⟨true, Er.m 0 (by decide), fun _ a ha => ⟨rfl, 0, rfl, rfl, h0, fun H3 S3 => bad z H3 ((S1.trans S2).trans S3)⟩, fun z => nomatch z⟩⟩
    | [x1], ds, hl, hl3, ha, hA, hT, good, bad =>
        refine ⟨_, rfl, a, _, rfl, .inl ha, _, _, rfl, rfl, _, rfl, ite2 (fun _ => ?_) (fun z => absurd rfl z)⟩
        refine ⟨_, rfl, a, _, rfl, .inl ha, rfl, _, rfl, ite2 (fun _ => ?_) (fun z => absurd rfl z)⟩
        refine ⟨_, rfl, a, _, _, x1, rfl, rfl, ha, rfl, ?_⟩
        refine ⟨[], [x1], rfl, rfl, by show 1 ≤ sizeLine; decide, fun q nq => ?_⟩
        have S1 : Same H (L2.upd H q (.tup [x1])) := Same.new (Same.refl _) nq
        exact ⟨q, _, _, rfl, SqT.of upd_same, DvAll.same S1 hA, hT, fun t e hV H2 S2 => good t e hV q H2 (S1.trans S2) (S2 _ _ upd_same), fun z H2 S2 => ⟨true, Er.m 0 (by decide), fun _ a ha => ⟨rfl, 0, rfl, rfl, h0, fun H3 S3 => bad z H3 ((S1.trans S2).trans S3)⟩, fun z => nomatch z⟩⟩
    | [x1, x2], ds, hl, hl3, ha, hA, hT, good, bad =>
        refine ⟨_, rfl, a, _, rfl, .inl ha, _, _, rfl, rfl, _, rfl, ite2 (fun z => nomatch (show false = true from z)) (fun _ => ?_)⟩
        refine ⟨_, rfl, a, _, rfl, .inl ha, rfl, _, rfl, ite2 (fun _ => ?_) (fun z => absurd rfl z)⟩
        refine ⟨_, rfl, a, _, _, x1, rfl, rfl, ha, rfl, _, rfl, a, _, _, x2, rfl, rfl, ha, rfl, ?_⟩
        refine ⟨[], [x1, x2], rfl, rfl, by show 2 ≤ sizeLine; decide, fun q nq => ?_⟩
        have S1 : Same H (L2.upd H q (.tup [x1, x2])) := Same.new (Same.refl _) nq
        exact ⟨q, _, _, rfl, SqT.of upd_same, DvAll.same S1 hA, hT, fun t e hV H2 S2 => good t e hV q H2 (S1.trans S2) (S2 _ _ upd_same), fun z H2 S2 => ⟨true, Er.m 0 (by decide), fun _ a ha => ⟨rfl, 0, rfl, rfl, h0, fun H3 S3 => bad z H3 ((S1.trans S2).trans S3)⟩, fun z => nomatch z⟩⟩
    | [x1, x2, x3], ds, hl, hl3, ha, hA, hT, good, bad =>
        refine ⟨_, rfl, a, _, rfl, .inl ha, _, _, rfl, rfl, _, rfl, ite2 (fun z => nomatch (show false = true from z)) (fun _ => ?_)⟩
        refine ⟨_, rfl, a, _, rfl, .inl ha, rfl, _, rfl, ite2 (fun z => nomatch (show false = true from z)) (fun _ => ?_)⟩
        refine ⟨_, rfl, a, _, _, x1, rfl, rfl, ha, rfl, _, rfl, a, _, _, x2, rfl, rfl, ha, rfl, _, rfl, a, _, _, x3, rfl, rfl, ha, rfl, ?_⟩
        refine ⟨[], [x1, x2, x3], rfl, rfl, by show 3 ≤ sizeLine; decide, fun q nq => ?_⟩
        have S1 : Same H (L2.upd H q (.tup [x1, x2, x3])) := Same.new (Same.refl _) nq
        exact ⟨q, _, _, rfl, SqT.of upd_same, DvAll.same S1 hA, hT, fun t e hV H2 S2 => good t e hV q H2 (S1.trans S2) (S2 _ _ upd_same), fun z H2 S2 => ⟨true, Er.m 0 (by decide), fun _ a ha => ⟨rfl, 0, rfl, rfl, h0, fun H3 S3 => bad z H3 ((S1.trans S2).trans S3)⟩, fun z => nomatch z⟩⟩
    | _ :: _ :: _ :: _ :: _, ds, hl, hl3, ha, hA, hT, good, bad =>
        rw [List.length_cons, List.length_cons, List.length_cons, List.length_cons] at hl
        omega
end
end Mx
set_option Elab.async false
set_option maxRecDepth 100000
set_option linter.all false
/-! law_k01: _law_fair, _law_is_bool -/
namespace Mx
open PySem PySem.Spec PyProof.Rows L2 L2H
def spLFair (K : PySem.W.Frag) : Sp := fun vs H Q _ => ∃ (a : Addr) (xs : List V) (ds : List PyData), vs = [.ref a] ∧ SqL K H a xs ∧ DvAll K H xs ds ∧ (∀ d ∈ ds, Tame d) ∧ (ds.length = 2 ∨ ds = []) ∧
  ((∃ d ∈ ds, isStrD d = false) → ∀ H', Same H H' → Q (.str "tree") H') ∧ (∀ ns : List Str, ds = ns.map PyData.str → (∀ t : Tr, t.data = fairD ns → TreeV t → ∀ v H', Same H H' → TrAt K H' 4 v t → Q v H') ∧ ((¬ ∃ t : Tr, t.data = fairD ns ∧ TreeV t) → ∀ H', Same H H' → Q (.str "tree") H'))
section
variable {P : Program} {w : World} {K : PySem.W.Frag} {mg : Str → Option Value} {base : Heap} {C : Nat → Addr}
theorem scLFr : FnScope ["names", "e"] ["names"] (defScope s_law_fair) := ⟨rfl, rfl, rfl, by decide +kernel, rfl, by decide +kernel, by decide +kernel⟩
set_option maxHeartbeats 1000000 in
theorem ok_lFair {f fE fT : Addr} {fd dE : FuncData} (F : Fun K "_law_fair" "_law_fair" s_law_fair f fd) (B : Blt mg) (Er : ErrAll K mg C) (DE : Def K mg "_law_error_name" sErrName ["e"] fE dE) (mT : mg "fair" = some (.ref fT)) (kT : PySem.W.keepIn K (.ref fT) = true)
    (GT : FnR P w K mg base (L2N.CX P w) 14 fT (spFrE K (C 0))) : FnOk P w K mg base CX0 17 f fd ["names"] (spLFair K) := by
  have GE : FnE P w K mg base 1 fE dE ["e"] (spErr K C) := ok_errName DE.fn B Er.cs
  have h0 := Er.d 0 (by decide)
  refine F.ok scLFr (fun vs H Q E h => ?_) (fun cdv A outer s H vs Q E hr h => ?_)
  · obtain ⟨a, xs, ds, rfl, _⟩ := h
    rfl
  · obtain ⟨a, xs, ds, rfl, ha, hA, hT, hl2, notStr, isStr⟩ := h
    have hl := dvAll_len hA
    refine ⟨_, pss_one (L2N.ps_try_as (i := 1) rfl rfl scLFr.nd rfl rfl ⟨rfl, by decide, .inl Er.cs.g11⟩ takes0N
        (fun W pn xe tk _ => pss_one (ps_ret (pe_ifExp (pt_cmpR (r := rEq) op_eq (pe_callB (r := rLenS K) call_len_seq (by rfl) B.len PySem.boot_len (pa_cons (pv 0) pa_nil)) pe_int (nomark _))
              (pe_callR GT (hr.mono (by decide)) rfl mT kT (fun σ => L2N.passAt tk σ) (pa_cons (pe_ix (r := rIxL K) ix_list (pv 0) pe_int (fun _ _ => rfl)) (pa_cons (pe_ix (r := rIxL K) ix_list (pv 0) pe_int (fun _ _ => rfl)) pa_nil))) (pe_callR0 GT (hr.mono (by decide)) rfl mT kT (fun σ => L2N.passAt tk σ)))))
        (fun a oe cls d pn hz hf => suite_err (i := 1) GE DE (roomH_of (hr.mono (by decide))) (by rfl) (by rfl) (by exact .inl rfl) a oe cls d pn hz hf)), ?_⟩
    match xs, ds, hl, hl2, ha, hA, hT, notStr, isStr with
    | [], ds, hl, hl2, ha, hA, hT, notStr, isStr =>
        refine ⟨_, rfl, a, [], rfl, .inl ha, rfl, _, rfl, ite2 (fun z => nomatch (show false = true from z)) (fun _ => ?_)⟩
        refine ⟨[], [], rfl, rfl, by show 0 ≤ sizeLine; decide, fun q nq => ?_⟩
        have S1 : Same H (L2.upd H q (.tup [])) := Same.new (Same.refl _) nq
        exact ⟨q, _, _, rfl, SqT.of upd_same, DvAll.same S1 hA, hT, by rw [← hl]; decide, fun z H2 S2 => ⟨true, Er.m 0 (by decide), fun _ a ha => ⟨rfl, 0, rfl, rfl, h0, fun H3 S3 => notStr z H3 ((S1.trans S2).trans S3)⟩, fun z => nomatch z⟩,
          fun ns e => ⟨fun t et hV v H2 S2 hv => (isStr ns e).1 t et hV v H2 (S1.trans S2) hv, fun z H2 S2 => ⟨true, Er.m 0 (by decide), fun _ a ha => ⟨rfl, 0, rfl, rfl, h0, fun H3 S3 => (isStr ns e).2 z H3 ((S1.trans S2).trans S3)⟩, fun z => nomatch z⟩⟩⟩
    | [x1, x2], ds, hl, hl2, ha, hA, hT, notStr, isStr =>
        refine ⟨_, rfl, a, _, rfl, .inl ha, rfl, _, rfl, ite2 (fun _ => ?_) (fun z => absurd rfl z)⟩
        refine ⟨_, rfl, a, _, _, x1, rfl, rfl, ha, rfl, _, rfl, a, _, _, x2, rfl, rfl, ha, rfl, ?_⟩
        refine ⟨[], [x1, x2], rfl, rfl, by show 2 ≤ sizeLine; decide, fun q nq => ?_⟩
        have S1 : Same H (L2.upd H q (.tup [x1, x2])) := Same.new (Same.refl _) nq
        have h900 : ds.length ≤ 900 := by
          rw [← hl]
          show 2 ≤ 900
          decide
        exact ⟨q, _, _, rfl, SqT.of upd_same, DvAll.same S1 hA, hT, h900, fun z H2 S2 => ⟨true, Er.m 0 (by decide), fun _ a ha => ⟨rfl, 0, rfl, rfl, h0, fun H3 S3 => notStr z H3 ((S1.trans S2).trans S3)⟩, fun z => nomatch z⟩,
          fun ns e => ⟨fun t et hV v H2 S2 hv => (isStr ns e).1 t et hV v H2 (S1.trans S2) hv, fun z H2 S2 => ⟨true, Er.m 0 (by decide), fun _ a ha => ⟨rfl, 0, rfl, rfl, h0, fun H3 S3 => (isStr ns e).2 z H3 ((S1.trans S2).trans S3)⟩, fun z => nomatch z⟩⟩⟩
    | [_], ds, hl, hl2, ha, hA, hT, notStr, isStr =>
        exfalso
        rcases hl2 with h | rfl
        · rw [h] at hl
          cases hl
        · cases hl
    | _ :: _ :: _ :: _, ds, hl, hl2, ha, hA, hT, notStr, isStr =>
        exfalso
        rcases hl2 with h | rfl
        · rw [h, List.length_cons, List.length_cons, List.length_cons] at hl
          omega
        · cases hl
end
end Mx
set_option Elab.async false
set_option maxRecDepth 100000
set_option linter.all false
/-! law_k01: the parts of the law that compare together and fair with what is due -/
namespace Mx
open PySem PySem.Spec PyProof.Rows L2
theorem dvAll_take {K : PySem.W.Frag} {H : Hp} : ∀ {xs : List V} {ds : List PyData} (n : Nat), DvAll K H xs ds → DvAll K H (xs.take n) (ds.take n)
  | _, _, 0, _ => .nil
  | _, _, _ + 1, .nil => .nil
  | _, _, n + 1, .cons q t => .cons q (dvAll_take n t)
theorem tree_shaped : SeqAt.shaped (.str "tree") = true := by decide +kernel
theorem eqv_rfl {d : PyData} (h : SeqAt.shaped d = true) : PyData.eqv d d = true := SeqAt.eqv_refl _ (SeqAt.canLay_of_shaped h)
/-- tuple(pairs) if _law_is_tree(tuple(pairs)) else 'tree' -/
def tDue (K : PySem.W.Frag) : TE := fun σ H Q => ∃ (pr : Addr) (xs : List V) (ds : List PyData), σ[8]? = some (some (.ref pr)) ∧ H pr = some (.lst xs) ∧ DvAll K H xs ds ∧ (∀ d ∈ ds, Tame d) ∧
  ∀ (u : V) (H' : Hp), Same H H' → ((∃ t : Tr, t.data = .tuple ds ∧ TreeV t) → ∃ p, u = .ref p ∧ H' p = some (.tup xs)) → ((¬ ∃ t : Tr, t.data = .tuple ds ∧ TreeV t) → u = .str "tree") → Q u H'
theorem due_ok {K : PySem.W.Frag} {r : List V → Hp → VK → Prop} (hr : ∀ p ys H Q, SqL K H p ys → (∀ l, H l = none → Q (.ref l) (L2.upd H l (.tup ys))) → r [.ref p] H Q) (σ : L2.St) (H : Hp) (Q : V → Hp → Prop) (h : tDue K σ H Q) :
    tIf (tB (tCall (spLTree K) [] E0 (tCons (tCB r (tCons (tVar 8) tNil)) tNil))) (tCB r (tCons (tVar 8) tNil)) (tC (.str "tree")) σ H Q := by
  obtain ⟨pr, xs, ds, h8, hpr, hA, hT, k⟩ := h
  refine ⟨_, h8, hr pr xs _ _ (SqL.of hpr) fun t1 nt1 => ?_⟩
  have S1 : Same H (L2.upd H t1 (.tup xs)) := Same.new (Same.refl _) nt1
  refine ⟨.ref t1, .tuple ds, rfl, .tup (SqT.of upd_same) (DvAll.same S1 hA), .tup _ hT, fun b H2 S2 hb => ⟨_, rfl, ?_⟩⟩
  have S12 := S1.trans S2
  cases b with
  | true =>
    refine ite2 (fun _ => ?_) (fun z => absurd rfl z)
    refine ⟨_, h8, hr pr xs _ _ (SqL.of (S12 _ _ hpr)) fun t2 nt2 => ?_⟩
    exact k (.ref t2) _ (Same.new S12 nt2) (fun _ => ⟨t2, rfl, upd_same⟩) fun no => absurd (hb.mp rfl) no
  | false =>
    refine ite2 (fun z => by cases z) (fun _ => ?_)
    exact k _ H2 S12 (fun yes => by have := hb.mpr yes; cases this) fun _ => rfl
/-- _law_together(pairs) != due: never -/
def tTogNe (K : PySem.W.Frag) : TT := fun σ H Q => ∃ (pr : Addr) (xs : List V) (ds : List PyData) (u : V), σ[8]? = some (some (.ref pr)) ∧ σ[9]? = some (some u) ∧ H pr = some (.lst xs) ∧ DvAll K H xs ds ∧ (∀ d ∈ ds, Tame d) ∧ ds.length ≤ 3 ∧
  ((∃ t : Tr, t.data = .tuple ds ∧ TreeV t) → ∃ p, u = .ref p ∧ H p = some (.tup xs)) ∧ ((¬ ∃ t : Tr, t.data = .tuple ds ∧ TreeV t) → u = .str "tree") ∧ ∀ H', Same H H' → Q false H'
theorem togNe_ok {K : PySem.W.Frag} (σ : L2.St) (H : Hp) (Q : Bool → Hp → Prop) (h : tTogNe K σ H Q) : tTest (tOp (rNeD K) (tCall (spLTog K) [] E0 (tCons (tVar 8) tNil)) (tVar 9)) σ H Q := by
  obtain ⟨pr, xs, ds, u, h8, h9, hpr, hA, hT, hl3, yes, no, k⟩ := h
  refine ⟨_, h8, pr, xs, ds, rfl, SqL.of hpr, hA, hT, hl3, fun t e hV p H1 S1 hp => ?_, fun z H1 S1 => ?_⟩
  · obtain ⟨p2, rfl, hp2⟩ := yes ⟨t, e, hV⟩
    have sh : SeqAt.shaped (.tuple ds) = true := e ▸ tr_shaped (d := 4) hV.wf (by decide) hV.okNm
    have hA1 := DvAll.dp (DvAll.same S1 hA)
    refine ⟨_, h9, _, _, .tup (SqT.of hp) hA1, .tup (SqT.of (S1 _ _ hp2)) hA1, sh, sh, _, rfl, ?_⟩
    rw [eqv_rfl sh]
    exact k H1 S1
  · have e := no z
    subst e
    refine ⟨_, h9, _, _, .str _, .str _, tree_shaped, tree_shaped, _, rfl, ?_⟩
    rw [eqv_rfl tree_shaped]
    exact k H1 S1
/-- data without lists stays while lists change -/
theorem pairD_keep {K : PySem.W.Frag} {H H' : Hp} {x : V} {d : PyData} (h : d ∈ pairD) (kt : KeepT K H H') (q : Dv K H x d) : Dv K H' x d := by
  unfold pairD at h
  simp only [List.mem_cons, List.not_mem_nil, or_false] at h
  rcases h with rfl | rfl | rfl | rfl | rfl | rfl | rfl
  · cases q; exact .str _
  · cases q; exact .str _
  · cases q; exact .str _
  · cases q; exact .non
  · cases q with
    | tup h1 t1 =>
      cases t1 with
      | cons q2 t2 =>
        cases t2
        cases q2 with
        | tup h3 t3 =>
          cases t3 with
          | cons q4 t4 =>
            cases q4
            cases t4 with
            | cons q5 t5 =>
              cases q5
              cases t5
              exact .tup (kt _ _ h1) (.cons (.tup (kt _ _ h3) (.cons (.int _) (.cons (.str _) .nil))) .nil)
  · cases q; exact .str _
  · cases q; exact .int _
theorem pairs_keep {K : PySem.W.Frag} {H H' : Hp} (kt : KeepT K H H') : ∀ {xs : List V} {ds : List PyData}, (∀ d ∈ ds, d ∈ pairD) → DvAll K H xs ds → DvAll K H' xs ds
  | _, _, _, .nil => .nil
  | _, _, h, .cons q t => .cons (pairD_keep (h _ List.mem_cons_self) kt q) (pairs_keep kt (fun d hd => h d (List.mem_cons_of_mem _ hd)) t)
theorem pairD_depth : ∀ d ∈ pairD, d.depth ≤ 2 := by decide +kernel
theorem pairs_shaped {ds : List PyData} (h : ∀ d ∈ ds, d ∈ pairD) : SeqAt.shaped (.list ds) = true := by
  unfold SeqAt.shaped
  rw [PyData.canLay0, can_all ds fun d hd => SeqAt.canLay_of_shaped (pairD_shaped d (h d hd)), PyData.depth, Bool.true_and]
  have := depth_all (n := 2) ds fun d hd => pairD_depth d (h d hd)
  exact decide_eq_true (by omega)
theorem eqv_listNil (ds : List PyData) : PyData.eqv (.list ds) (.list []) = decide (ds = []) := by
  cases ds with
  | nil => rw [PyData.eqv]; rfl
  | cons a r => rw [eqv_list_nil (by simp)]; rfl
/-- _law_fair(pair) != (..): never -/
def tFairNe (K : PySem.W.Frag) : TT := fun σ H Q => ∃ (D : Addr) (x0 x1 : V) (d0 d1 : PyData) (b : Bool), σ[10]? = some (some (.ref D)) ∧ σ[6]? = some (some (.bl b)) ∧ H D = some (.lst [x0, x1]) ∧ Dv K H x0 d0 ∧ Dv K H x1 d1 ∧ d0 ∈ pairD ∧ d1 ∈ pairD ∧ b = goodP d0 d1 ∧ ∀ H', Same H H' → Q false H'
abbrev tPr (K : PySem.W.Frag) (i : Int) : TE := tTup (tCons (tC (.int 1)) (tCons (tOp (rIxL K) (tVar 10) (tC (.int i))) tNil))
theorem fairNe_ok {K : PySem.W.Frag} (σ : L2.St) (H : Hp) (Q : Bool → Hp → Prop) (h : tFairNe K σ H Q) : tTest (tOp (rNeD K) (tCall (spLFair K) [] E0 (tCons (tVar 10) tNil)) (tIf (tB (tVar 6)) (tTup (tCons (tPr K 0) (tCons (tPr K 1) tNil))) (tC (.str "tree")))) σ H Q := by
  obtain ⟨D, x0, x1, d0, d1, b, h10, h6, hD, hx0, hx1, m0, m1, rfl, k⟩ := h
  have eg := pair_good m0 m1
  have bad : goodP d0 d1 = false → ∀ H1, Same H H1 → (tIf (tB (tVar 6)) (tTup (tCons (tPr K 0) (tCons (tPr K 1) tNil))) (tC (.str "tree"))) σ H1 fun y H2 => rNeD K (.str "tree") y H2 fun v H3 => ∃ c, v = .bl c ∧ Q c H3 := fun eb H1 S1 => by
    refine ⟨_, h6, _, rfl, ?_⟩
    rw [eb]
    refine ite2 (fun z => by cases z) (fun _ => ?_)
    refine ⟨_, _, .str _, .str _, tree_shaped, tree_shaped, _, rfl, ?_⟩
    rw [eqv_rfl tree_shaped]
    exact k H1 S1
  refine ⟨_, h10, D, [x0, x1], [d0, d1], rfl, SqL.of hD, .cons hx0 (.cons hx1 .nil), fun d hd => ?_, .inl rfl, fun z H1 S1 => ?_, fun ns e => ?_⟩
  · have hd : d = d0 ∨ d = d1 := by simpa using hd
    rcases hd with rfl | rfl
    · exact pairD_tame _ m0
    · exact pairD_tame _ m1
  · refine bad ?_ H1 S1
    rw [eg]
    obtain ⟨d, hd, hs⟩ := z
    have hd : d = d0 ∨ d = d1 := by simpa using hd
    unfold pairB
    rcases hd with rfl | rfl
    · rw [hs, Bool.false_and, Bool.false_and]
    · rw [hs, Bool.and_false, Bool.false_and]
  · obtain ⟨s0, s1, rfl⟩ : ∃ s0 s1, ns = [s0, s1] := by
      match ns, congrArg List.length e with
      | [s0, s1], _ => exact ⟨s0, s1, rfl⟩
    obtain ⟨e0, e1⟩ := List.cons.inj e
    obtain ⟨e1, _⟩ := List.cons.inj e1
    subst e0 e1
    cases hx0
    cases hx1
    have eb : goodP (.str s0) (.str s1) = (okName s0 && (okName s1 && decide (s0 ≠ s1))) := eg
    refine ⟨fun t et hV v H1 S1 hv => ?_, fun z H1 S1 => ?_⟩
    · have hV1 : TreeV (fairT1 [s0, s1]) := fair_tree.mp ⟨t, et, hV⟩
      have eb2 : goodP (.str s0) (.str s1) = true := by
        rw [eb]
        cases c : (okName s0 && (okName s1 && decide (s0 ≠ s1))) with
        | true => rfl
        | false => exact absurd hV1 (fair_not2 c)
      refine ⟨_, h6, _, rfl, ?_⟩
      rw [eb2]
      refine ite2 (fun _ => ?_) (fun z => absurd rfl z)
      have hD1 := S1 _ _ hD
      refine ⟨_, h10, D, _, _, _, rfl, rfl, SqL.of hD1, rfl, by show 2 ≤ sizeLine; decide, fun q1 nq1 => ?_⟩
      obtain ⟨A1, eA1⟩ : ∃ A, A = L2.upd H1 q1 (.tup [.int 1, .str s0]) := ⟨_, rfl⟩
      have T1 : Same H1 A1 := by rw [eA1]; exact Same.new (Same.refl _) nq1
      have hq1 : A1 q1 = some (.tup [.int 1, .str s0]) := by rw [eA1]; exact upd_same
      rw [← eA1]
      refine ⟨_, h10, D, _, _, _, rfl, rfl, SqL.of (T1 _ _ hD1), rfl, by show 2 ≤ sizeLine; decide, fun q2 nq2 => ?_⟩
      obtain ⟨A2, eA2⟩ : ∃ A, A = L2.upd A1 q2 (.tup [.int 1, .str s1]) := ⟨_, rfl⟩
      have T2 : Same A1 A2 := by rw [eA2]; exact Same.new (Same.refl _) nq2
      have hq2 : A2 q2 = some (.tup [.int 1, .str s1]) := by rw [eA2]; exact upd_same
      rw [← eA2]
      refine ⟨by show 2 ≤ sizeLine; decide, fun q3 nq3 => ?_⟩
      obtain ⟨A3, eA3⟩ : ∃ A, A = L2.upd A2 q3 (.tup [.ref q1, .ref q2]) := ⟨_, rfl⟩
      have T3 : Same A2 A3 := by rw [eA3]; exact Same.new (Same.refl _) nq3
      have hq3 : A3 q3 = some (.tup [.ref q1, .ref q2]) := by rw [eA3]; exact upd_same
      rw [← eA3]
      have sh : SeqAt.shaped (fairD [s0, s1]) = true := et ▸ tr_shaped (d := 4) hV.wf (by decide) hV.okNm
      have hdv : Dv K A3 (.ref q3) (fairD [s0, s1]) := .tup (SqT.of hq3) (.cons (.tup (SqT.of ((T2.trans T3) _ _ hq1)) (.cons (.int 1) (.cons (.str s0) .nil))) (.cons (.tup (SqT.of (T3 _ _ hq2)) (.cons (.int 1) (.cons (.str s1) .nil))) .nil))
      have hv3 : Dv K A3 v (fairD [s0, s1]) := et ▸ (tr_dv 4 (TrAt.keep (sqT_same ((T1.trans T2).trans T3)) _ hv))
      refine ⟨_, _, hv3.dp, hdv.dp, sh, sh, _, rfl, ?_⟩
      rw [eqv_rfl sh]
      exact k A3 (((S1.trans T1).trans T2).trans T3)
    · refine bad ?_ H1 S1
      rw [eb]
      cases c : (okName s0 && (okName s1 && decide (s0 ≠ s1))) with
      | false => rfl
      | true => exact absurd (fair_tree.mpr (fair_tree2 c)) z
end Mx
set_option Elab.async false
set_option maxRecDepth 100000
set_option linter.all false
/-! law_k01: _law_outcome (written by genOutK1.py) -/
namespace Mx
open PySem PySem.Spec PyProof.Rows L2 L2H
structure Fs01 (P : Program) (w : World) (K : PySem.W.Frag) (mg : Str → Option Value) (base : Heap) (C : Nat → Addr) : Prop where
  feeds_of : ∃ f fd, Def K mg "feeds_of" sFeedsOf ["tree"] f fd ∧ FnOk P w K mg base (L2N.CX P w) 22 f fd ["tree"] (spU K C 0)
  plain : ∃ f fd, Def K mg "plain" s_plain ["tree"] f fd ∧ FnOk P w K mg base (L2N.CX P w) 22 f fd ["tree"] (spU K C 0)
  period : ∃ f fd, Def K mg "period" s_period ["tree"] f fd ∧ FnOk P w K mg base (L2N.CX P w) 22 f fd ["tree"] (spU K C 0)
  restricted : ∃ f fd, Def K mg "restricted" s_restricted ["tree", "names"] f fd ∧ FnOk P w K mg base (L2N.CX P w) 22 f fd ["tree", "names"] (spU K C 1)
  mixed : ∃ f fd, FunM K f fd ∧ mg "mixed" = some (.ref f) ∧ PySem.W.keepIn K (.ref f) = true ∧ FnOk P w K mg base (L2N.CX P w) 22 f fd ["tree", "lengths", "first"] (spU K C 2)
  same_always : ∃ f fd, Def K mg "same_always" s_same_always ["one", "other"] f fd ∧ FnOk P w K mg base (L2N.CX P w) 22 f fd ["one", "other"] (spU K C 1)
  difference : ∃ f fd, Def K mg "difference" s_difference ["one", "other"] f fd ∧ FnOk P w K mg base (L2N.CX P w) 22 f fd ["one", "other"] (spU K C 1)
  lengths_for : ∃ f fd, Def K mg "lengths_for" s_lengths_for ["tree", "seen"] f fd ∧ FnOk P w K mg base (L2N.CX P w) 22 f fd ["tree", "seen"] (spU K C 1)
  place_of : ∃ f fd, Def K mg "place_of" s_place_of ["tree", "lengths", "item"] f fd ∧ FnOk P w K mg base (L2N.CX P w) 22 f fd ["tree", "lengths", "item"] (spU K C 2)
  item_at : ∃ f fd, Def K mg "item_at" s_item_at ["tree", "lengths", "place"] f fd ∧ FnOk P w K mg base (L2N.CX P w) 22 f fd ["tree", "lengths", "place"] (spU K C 2)
  counts_in : ∃ f fd, Def K mg "counts_in" s_counts_in ["tree", "lengths", "many"] f fd ∧ FnOk P w K mg base (L2N.CX P w) 22 f fd ["tree", "lengths", "many"] (spU K C 2)
  mixer : ∃ CX f fd, Mk K CX f ∧ mg "Mixer" = some (.ref CX) ∧ Binds K fd ["self", "tree"] [] ∧ FnOk P w K mg base (L2N.CX P w) 21 f fd ["self", "tree"] (spUM K C CX)
def spOutc01 (K : PySem.W.Frag) : Sp := fun vs H Q _ => ∃ (c : Nat) (x : V) (d : PyData), vs = [.int (c : Nat), x, .non] ∧ c < 12 ∧ Dv K H x d ∧ Tame d ∧ ((¬ ∃ t : Tr, t.data = d ∧ TreeV t) → ∀ H', Same H H' → Q (.str "tree") H') ∧ ((∃ t : Tr, t.data = d ∧ TreeV t) → ∀ (s : Str) H', Same H H' → PyData.canLay0 (.str s) = true → Q (.str s) H')
theorem word_can : ∀ i, i < 11 → PyData.canLay0 (.str (errWord i)) = true := by decide +kernel
section
variable {P : Program} {w : World} {K : PySem.W.Frag} {mg : Str → Option Value} {base : Heap} {C : Nat → Addr}
theorem scOut01 : FnScope ["call", "value", "odd", "e"] ["call", "value", "odd"] (defScope sOutcome) := ⟨rfl, rfl, rfl, by decide +kernel, rfl, by decide +kernel, by decide +kernel⟩
theorem ok_outc01 {f fE : Addr} {fd dE : FuncData} (F : Fun K "_law_outcome" "_law_outcome" sOutcome f fd) (B : Blt mg) (Er : ErrAll K mg C) (DE : Def K mg "_law_error_name" sErrName ["e"] fE dE) (L : Fs01 P w K mg base C) : FnOk P w K mg base CX0 23 f fd ["call", "value", "odd"] (spOutc01 K) := by
  have GE : FnE P w K mg base 1 fE dE ["e"] (spErr K C) := ok_errName DE.fn B Er.cs
  obtain ⟨f_feeds_of, _, D_feeds_of, G_feeds_of⟩ := L.feeds_of
  obtain ⟨f_plain, _, D_plain, G_plain⟩ := L.plain
  obtain ⟨f_period, _, D_period, G_period⟩ := L.period
  obtain ⟨f_restricted, _, D_restricted, G_restricted⟩ := L.restricted
  obtain ⟨f_mixed, _, MM, M2, M3, G_mixed⟩ := L.mixed
  obtain ⟨dsM, vM, bM⟩ := mixed_b2 MM
  obtain ⟨f_same_always, _, D_same_always, G_same_always⟩ := L.same_always
  obtain ⟨f_difference, _, D_difference, G_difference⟩ := L.difference
  obtain ⟨f_lengths_for, _, D_lengths_for, G_lengths_for⟩ := L.lengths_for
  obtain ⟨f_place_of, _, D_place_of, G_place_of⟩ := L.place_of
  obtain ⟨f_item_at, _, D_item_at, G_item_at⟩ := L.item_at
  obtain ⟨f_counts_in, _, D_counts_in, G_counts_in⟩ := L.counts_in
  obtain ⟨CX, fX, dX, MX, mX, bX, GX⟩ := L.mixer
  refine F.ok scOut01 (fun vs H Q E h => ?_) (fun cdv A outer s H vs Q E hr h => ?_)
  · obtain ⟨c, x, d, rfl, _⟩ := h
    rfl
  · obtain ⟨c, x, d, rfl, hc, hD, hS, bad, good⟩ := h
    have cs : c = 0 ∨ c = 1 ∨ c = 2 ∨ c = 3 ∨ c = 4 ∨ c = 5 ∨ c = 6 ∨ c = 7 ∨ c = 8 ∨ c = 9 ∨ c = 10 ∨ c = 11 := by omega
    have fine : PyData.canLay0 (.str "fine") = true := by decide +kernel
    rcases cs with rfl | rfl | rfl | rfl | rfl | rfl | rfl | rfl | rfl | rfl | rfl | rfl
    · refine ⟨_, pss_cons (L2N.ps_try_as (i := 3) rfl rfl scOut01.nd rfl rfl ⟨rfl, by decide, .inl Er.cs.g11⟩ takes0N
        (fun W pn xe tk _ => pss_one (ps_if (pt_cmpR op_lt (pv 0) pe_int (nomark _)) (pss_one (ps_expr (pe_callX (pe_ix (r := rIxL K) ix_list (pe_lst (pa_cons (pe_glob (v := .ref f_feeds_of) rfl D_feeds_of.mg rfl) (pa_cons (pe_glob (v := .ref f_plain) rfl D_plain.mg rfl) (pa_cons (pe_glob (v := .ref f_period) rfl D_period.mg rfl) pa_nil)))) (pv 0) (fun _ _ => rfl)) G_feeds_of hr D_feeds_of.fn.kp D_feeds_of.b (fun σ => L2N.passAt tk σ) (pa_cons (pv 1) pa_nil)))) pss_no))
        (fun a oe cls d pn hz hf => suite_err (i := 3) GE DE (roomH_of (hr.mono (by decide))) (by rfl) (by rfl) (by exact .inl rfl) a oe cls d pn hz hf))
      (pss_one (ps_ret pe_str)), ?_⟩
      refine ⟨_, rfl, _, _, rfl, rfl, _, rfl, ite2 (fun _ => ?_) (fun z => absurd rfl z)⟩
      refine ⟨by show 3 ≤ sizeLine; decide, fun l nl => ?_⟩
      have Sl := Same.new (o := HO.lst [.ref f_feeds_of, .ref f_plain, .ref f_period]) (Same.refl H) nl
      exact ⟨_, rfl, l, _, _, _, rfl, rfl, SqL.of upd_same, rfl, rfl, _, rfl, x, d, rfl, hD.same Sl, hS, (fun no H' S => ⟨true, Er.m 0 (by decide), fun _ a ha => ⟨rfl, 0, rfl, rfl, Er.d 0 (by decide), fun H2 S2 => bad no H2 ((Sl.trans S).trans S2)⟩, fun z => nomatch z⟩), (fun t e hV => ⟨fun v H' S => good ⟨t, e, hV⟩ _ H' (Sl.trans S) fine, fun i hi H' S => ⟨true, Er.m i hi, fun _ a ha => ⟨rfl, i, rfl, rfl, Er.d i hi, fun H2 S2 => good ⟨t, e, hV⟩ _ H2 ((Sl.trans S).trans S2) (word_can i hi)⟩, fun z => nomatch z⟩⟩)⟩
    · refine ⟨_, pss_cons (L2N.ps_try_as (i := 3) rfl rfl scOut01.nd rfl rfl ⟨rfl, by decide, .inl Er.cs.g11⟩ takes0N
        (fun W pn xe tk _ => pss_one (ps_if (pt_cmpR op_lt (pv 0) pe_int (nomark _)) (pss_one (ps_expr (pe_callX (pe_ix (r := rIxL K) ix_list (pe_lst (pa_cons (pe_glob (v := .ref f_feeds_of) rfl D_feeds_of.mg rfl) (pa_cons (pe_glob (v := .ref f_plain) rfl D_plain.mg rfl) (pa_cons (pe_glob (v := .ref f_period) rfl D_period.mg rfl) pa_nil)))) (pv 0) (fun _ _ => rfl)) G_plain hr D_plain.fn.kp D_plain.b (fun σ => L2N.passAt tk σ) (pa_cons (pv 1) pa_nil)))) pss_no))
        (fun a oe cls d pn hz hf => suite_err (i := 3) GE DE (roomH_of (hr.mono (by decide))) (by rfl) (by rfl) (by exact .inl rfl) a oe cls d pn hz hf))
      (pss_one (ps_ret pe_str)), ?_⟩
      refine ⟨_, rfl, _, _, rfl, rfl, _, rfl, ite2 (fun _ => ?_) (fun z => absurd rfl z)⟩
      refine ⟨by show 3 ≤ sizeLine; decide, fun l nl => ?_⟩
      have Sl := Same.new (o := HO.lst [.ref f_feeds_of, .ref f_plain, .ref f_period]) (Same.refl H) nl
      exact ⟨_, rfl, l, _, _, _, rfl, rfl, SqL.of upd_same, rfl, rfl, _, rfl, x, d, rfl, hD.same Sl, hS, (fun no H' S => ⟨true, Er.m 0 (by decide), fun _ a ha => ⟨rfl, 0, rfl, rfl, Er.d 0 (by decide), fun H2 S2 => bad no H2 ((Sl.trans S).trans S2)⟩, fun z => nomatch z⟩), (fun t e hV => ⟨fun v H' S => good ⟨t, e, hV⟩ _ H' (Sl.trans S) fine, fun i hi H' S => ⟨true, Er.m i hi, fun _ a ha => ⟨rfl, i, rfl, rfl, Er.d i hi, fun H2 S2 => good ⟨t, e, hV⟩ _ H2 ((Sl.trans S).trans S2) (word_can i hi)⟩, fun z => nomatch z⟩⟩)⟩
    · refine ⟨_, pss_cons (L2N.ps_try_as (i := 3) rfl rfl scOut01.nd rfl rfl ⟨rfl, by decide, .inl Er.cs.g11⟩ takes0N
        (fun W pn xe tk _ => pss_one (ps_if (pt_cmpR op_lt (pv 0) pe_int (nomark _)) (pss_one (ps_expr (pe_callX (pe_ix (r := rIxL K) ix_list (pe_lst (pa_cons (pe_glob (v := .ref f_feeds_of) rfl D_feeds_of.mg rfl) (pa_cons (pe_glob (v := .ref f_plain) rfl D_plain.mg rfl) (pa_cons (pe_glob (v := .ref f_period) rfl D_period.mg rfl) pa_nil)))) (pv 0) (fun _ _ => rfl)) G_period hr D_period.fn.kp D_period.b (fun σ => L2N.passAt tk σ) (pa_cons (pv 1) pa_nil)))) pss_no))
        (fun a oe cls d pn hz hf => suite_err (i := 3) GE DE (roomH_of (hr.mono (by decide))) (by rfl) (by rfl) (by exact .inl rfl) a oe cls d pn hz hf))
      (pss_one (ps_ret pe_str)), ?_⟩
      refine ⟨_, rfl, _, _, rfl, rfl, _, rfl, ite2 (fun _ => ?_) (fun z => absurd rfl z)⟩
      refine ⟨by show 3 ≤ sizeLine; decide, fun l nl => ?_⟩
      have Sl := Same.new (o := HO.lst [.ref f_feeds_of, .ref f_plain, .ref f_period]) (Same.refl H) nl
      exact ⟨_, rfl, l, _, _, _, rfl, rfl, SqL.of upd_same, rfl, rfl, _, rfl, x, d, rfl, hD.same Sl, hS, (fun no H' S => ⟨true, Er.m 0 (by decide), fun _ a ha => ⟨rfl, 0, rfl, rfl, Er.d 0 (by decide), fun H2 S2 => bad no H2 ((Sl.trans S).trans S2)⟩, fun z => nomatch z⟩), (fun t e hV => ⟨fun v H' S => good ⟨t, e, hV⟩ _ H' (Sl.trans S) fine, fun i hi H' S => ⟨true, Er.m i hi, fun _ a ha => ⟨rfl, i, rfl, rfl, Er.d i hi, fun H2 S2 => good ⟨t, e, hV⟩ _ H2 ((Sl.trans S).trans S2) (word_can i hi)⟩, fun z => nomatch z⟩⟩)⟩
    · refine ⟨_, pss_cons (L2N.ps_try_as (i := 3) rfl rfl scOut01.nd rfl rfl ⟨rfl, by decide, .inl Er.cs.g11⟩ takes0N
        (fun W pn xe tk _ => pss_one (ps_if (pt_cmpR op_lt (pv 0) pe_int (nomark _)) pss_no (pss_one (ps_if (pt_cmpR op_lt (pv 0) pe_int (nomark _)) (pss_one (ps_expr (pe_callX (pe_ix (r := rIxL K) ix_list (pe_lst (pa_cons (pe_glob (v := .ref f_restricted) rfl D_restricted.mg rfl) (pa_cons (pe_glob (v := .ref f_mixed) rfl M2 rfl) (pa_cons (pe_glob (v := .ref f_same_always) rfl D_same_always.mg rfl) (pa_cons (pe_glob (v := .ref f_difference) rfl D_difference.mg rfl) (pa_cons (pe_glob (v := .ref f_lengths_for) rfl D_lengths_for.mg rfl) pa_nil)))))) (pe_op op_sub (pv 0) pe_int) (fun _ _ => rfl)) G_restricted hr D_restricted.fn.kp D_restricted.b (fun σ => L2N.passAt tk σ) (pa_cons (pv 1) (pa_cons (pv 2) pa_nil))))) pss_no))))
        (fun a oe cls d pn hz hf => suite_err (i := 3) GE DE (roomH_of (hr.mono (by decide))) (by rfl) (by rfl) (by exact .inl rfl) a oe cls d pn hz hf))
      (pss_one (ps_ret pe_str)), ?_⟩
      refine ⟨_, rfl, _, _, rfl, rfl, _, rfl, ite2 (fun z => by exact absurd z (by decide)) (fun _ => ?_)⟩
      refine ⟨_, rfl, _, _, rfl, rfl, _, rfl, ite2 (fun _ => ?_) (fun z => absurd rfl z)⟩
      refine ⟨by show 5 ≤ sizeLine; decide, fun l nl => ?_⟩
      have Sl := Same.new (o := HO.lst [.ref f_restricted, .ref f_mixed, .ref f_same_always, .ref f_difference, .ref f_lengths_for]) (Same.refl H) nl
      exact ⟨_, rfl, _, _, rfl, rfl, l, _, _, _, rfl, rfl, SqL.of upd_same, rfl, rfl, _, rfl, _, rfl, x, d, rfl, hD.same Sl, hS, (fun no H' S => ⟨true, Er.m 0 (by decide), fun _ a ha => ⟨rfl, 0, rfl, rfl, Er.d 0 (by decide), fun H2 S2 => bad no H2 ((Sl.trans S).trans S2)⟩, fun z => nomatch z⟩), (fun t e hV => ⟨fun v H' S => good ⟨t, e, hV⟩ _ H' (Sl.trans S) fine, fun i hi H' S => ⟨true, Er.m i hi, fun _ a ha => ⟨rfl, i, rfl, rfl, Er.d i hi, fun H2 S2 => good ⟨t, e, hV⟩ _ H2 ((Sl.trans S).trans S2) (word_can i hi)⟩, fun z => nomatch z⟩⟩)⟩
    · refine ⟨_, pss_cons (L2N.ps_try_as (i := 3) rfl rfl scOut01.nd rfl rfl ⟨rfl, by decide, .inl Er.cs.g11⟩ takes0N
        (fun W pn xe tk _ => pss_one (ps_if (pt_cmpR op_lt (pv 0) pe_int (nomark _)) pss_no (pss_one (ps_if (pt_cmpR op_lt (pv 0) pe_int (nomark _)) (pss_one (ps_expr (pe_callXD (pe_ix (r := rIxL K) ix_list (pe_lst (pa_cons (pe_glob (v := .ref f_restricted) rfl D_restricted.mg rfl) (pa_cons (pe_glob (v := .ref f_mixed) rfl M2 rfl) (pa_cons (pe_glob (v := .ref f_same_always) rfl D_same_always.mg rfl) (pa_cons (pe_glob (v := .ref f_difference) rfl D_difference.mg rfl) (pa_cons (pe_glob (v := .ref f_lengths_for) rfl D_lengths_for.mg rfl) pa_nil)))))) (pe_op op_sub (pv 0) pe_int) (fun _ _ => rfl)) G_mixed hr M3 bM vM (fun σ => L2N.passAt tk σ) (pa_cons (pv 1) (pa_cons (pv 2) pa_nil))))) pss_no))))
        (fun a oe cls d pn hz hf => suite_err (i := 3) GE DE (roomH_of (hr.mono (by decide))) (by rfl) (by rfl) (by exact .inl rfl) a oe cls d pn hz hf))
      (pss_one (ps_ret pe_str)), ?_⟩
      refine ⟨_, rfl, _, _, rfl, rfl, _, rfl, ite2 (fun z => by exact absurd z (by decide)) (fun _ => ?_)⟩
      refine ⟨_, rfl, _, _, rfl, rfl, _, rfl, ite2 (fun _ => ?_) (fun z => absurd rfl z)⟩
      refine ⟨by show 5 ≤ sizeLine; decide, fun l nl => ?_⟩
      have Sl := Same.new (o := HO.lst [.ref f_restricted, .ref f_mixed, .ref f_same_always, .ref f_difference, .ref f_lengths_for]) (Same.refl H) nl
      exact ⟨_, rfl, _, _, rfl, rfl, l, _, _, _, rfl, rfl, SqL.of upd_same, rfl, rfl, _, rfl, _, rfl, x, d, rfl, hD.same Sl, hS, (fun no H' S => ⟨true, Er.m 0 (by decide), fun _ a ha => ⟨rfl, 0, rfl, rfl, Er.d 0 (by decide), fun H2 S2 => bad no H2 ((Sl.trans S).trans S2)⟩, fun z => nomatch z⟩), (fun t e hV => ⟨fun v H' S => good ⟨t, e, hV⟩ _ H' (Sl.trans S) fine, fun i hi H' S => ⟨true, Er.m i hi, fun _ a ha => ⟨rfl, i, rfl, rfl, Er.d i hi, fun H2 S2 => good ⟨t, e, hV⟩ _ H2 ((Sl.trans S).trans S2) (word_can i hi)⟩, fun z => nomatch z⟩⟩)⟩
    · refine ⟨_, pss_cons (L2N.ps_try_as (i := 3) rfl rfl scOut01.nd rfl rfl ⟨rfl, by decide, .inl Er.cs.g11⟩ takes0N
        (fun W pn xe tk _ => pss_one (ps_if (pt_cmpR op_lt (pv 0) pe_int (nomark _)) pss_no (pss_one (ps_if (pt_cmpR op_lt (pv 0) pe_int (nomark _)) (pss_one (ps_expr (pe_callX (pe_ix (r := rIxL K) ix_list (pe_lst (pa_cons (pe_glob (v := .ref f_restricted) rfl D_restricted.mg rfl) (pa_cons (pe_glob (v := .ref f_mixed) rfl M2 rfl) (pa_cons (pe_glob (v := .ref f_same_always) rfl D_same_always.mg rfl) (pa_cons (pe_glob (v := .ref f_difference) rfl D_difference.mg rfl) (pa_cons (pe_glob (v := .ref f_lengths_for) rfl D_lengths_for.mg rfl) pa_nil)))))) (pe_op op_sub (pv 0) pe_int) (fun _ _ => rfl)) G_same_always hr D_same_always.fn.kp D_same_always.b (fun σ => L2N.passAt tk σ) (pa_cons (pv 1) (pa_cons (pv 2) pa_nil))))) pss_no))))
        (fun a oe cls d pn hz hf => suite_err (i := 3) GE DE (roomH_of (hr.mono (by decide))) (by rfl) (by rfl) (by exact .inl rfl) a oe cls d pn hz hf))
      (pss_one (ps_ret pe_str)), ?_⟩
      refine ⟨_, rfl, _, _, rfl, rfl, _, rfl, ite2 (fun z => by exact absurd z (by decide)) (fun _ => ?_)⟩
      refine ⟨_, rfl, _, _, rfl, rfl, _, rfl, ite2 (fun _ => ?_) (fun z => absurd rfl z)⟩
      refine ⟨by show 5 ≤ sizeLine; decide, fun l nl => ?_⟩
      have Sl := Same.new (o := HO.lst [.ref f_restricted, .ref f_mixed, .ref f_same_always, .ref f_difference, .ref f_lengths_for]) (Same.refl H) nl
      exact ⟨_, rfl, _, _, rfl, rfl, l, _, _, _, rfl, rfl, SqL.of upd_same, rfl, rfl, _, rfl, _, rfl, x, d, rfl, hD.same Sl, hS, (fun no H' S => ⟨true, Er.m 0 (by decide), fun _ a ha => ⟨rfl, 0, rfl, rfl, Er.d 0 (by decide), fun H2 S2 => bad no H2 ((Sl.trans S).trans S2)⟩, fun z => nomatch z⟩), (fun t e hV => ⟨fun v H' S => good ⟨t, e, hV⟩ _ H' (Sl.trans S) fine, fun i hi H' S => ⟨true, Er.m i hi, fun _ a ha => ⟨rfl, i, rfl, rfl, Er.d i hi, fun H2 S2 => good ⟨t, e, hV⟩ _ H2 ((Sl.trans S).trans S2) (word_can i hi)⟩, fun z => nomatch z⟩⟩)⟩
    · refine ⟨_, pss_cons (L2N.ps_try_as (i := 3) rfl rfl scOut01.nd rfl rfl ⟨rfl, by decide, .inl Er.cs.g11⟩ takes0N
        (fun W pn xe tk _ => pss_one (ps_if (pt_cmpR op_lt (pv 0) pe_int (nomark _)) pss_no (pss_one (ps_if (pt_cmpR op_lt (pv 0) pe_int (nomark _)) (pss_one (ps_expr (pe_callX (pe_ix (r := rIxL K) ix_list (pe_lst (pa_cons (pe_glob (v := .ref f_restricted) rfl D_restricted.mg rfl) (pa_cons (pe_glob (v := .ref f_mixed) rfl M2 rfl) (pa_cons (pe_glob (v := .ref f_same_always) rfl D_same_always.mg rfl) (pa_cons (pe_glob (v := .ref f_difference) rfl D_difference.mg rfl) (pa_cons (pe_glob (v := .ref f_lengths_for) rfl D_lengths_for.mg rfl) pa_nil)))))) (pe_op op_sub (pv 0) pe_int) (fun _ _ => rfl)) G_difference hr D_difference.fn.kp D_difference.b (fun σ => L2N.passAt tk σ) (pa_cons (pv 1) (pa_cons (pv 2) pa_nil))))) pss_no))))
        (fun a oe cls d pn hz hf => suite_err (i := 3) GE DE (roomH_of (hr.mono (by decide))) (by rfl) (by rfl) (by exact .inl rfl) a oe cls d pn hz hf))
      (pss_one (ps_ret pe_str)), ?_⟩
      refine ⟨_, rfl, _, _, rfl, rfl, _, rfl, ite2 (fun z => by exact absurd z (by decide)) (fun _ => ?_)⟩
      refine ⟨_, rfl, _, _, rfl, rfl, _, rfl, ite2 (fun _ => ?_) (fun z => absurd rfl z)⟩
      refine ⟨by show 5 ≤ sizeLine; decide, fun l nl => ?_⟩
      have Sl := Same.new (o := HO.lst [.ref f_restricted, .ref f_mixed, .ref f_same_always, .ref f_difference, .ref f_lengths_for]) (Same.refl H) nl
      exact ⟨_, rfl, _, _, rfl, rfl, l, _, _, _, rfl, rfl, SqL.of upd_same, rfl, rfl, _, rfl, _, rfl, x, d, rfl, hD.same Sl, hS, (fun no H' S => ⟨true, Er.m 0 (by decide), fun _ a ha => ⟨rfl, 0, rfl, rfl, Er.d 0 (by decide), fun H2 S2 => bad no H2 ((Sl.trans S).trans S2)⟩, fun z => nomatch z⟩), (fun t e hV => ⟨fun v H' S => good ⟨t, e, hV⟩ _ H' (Sl.trans S) fine, fun i hi H' S => ⟨true, Er.m i hi, fun _ a ha => ⟨rfl, i, rfl, rfl, Er.d i hi, fun H2 S2 => good ⟨t, e, hV⟩ _ H2 ((Sl.trans S).trans S2) (word_can i hi)⟩, fun z => nomatch z⟩⟩)⟩
    · refine ⟨_, pss_cons (L2N.ps_try_as (i := 3) rfl rfl scOut01.nd rfl rfl ⟨rfl, by decide, .inl Er.cs.g11⟩ takes0N
        (fun W pn xe tk _ => pss_one (ps_if (pt_cmpR op_lt (pv 0) pe_int (nomark _)) pss_no (pss_one (ps_if (pt_cmpR op_lt (pv 0) pe_int (nomark _)) (pss_one (ps_expr (pe_callX (pe_ix (r := rIxL K) ix_list (pe_lst (pa_cons (pe_glob (v := .ref f_restricted) rfl D_restricted.mg rfl) (pa_cons (pe_glob (v := .ref f_mixed) rfl M2 rfl) (pa_cons (pe_glob (v := .ref f_same_always) rfl D_same_always.mg rfl) (pa_cons (pe_glob (v := .ref f_difference) rfl D_difference.mg rfl) (pa_cons (pe_glob (v := .ref f_lengths_for) rfl D_lengths_for.mg rfl) pa_nil)))))) (pe_op op_sub (pv 0) pe_int) (fun _ _ => rfl)) G_lengths_for hr D_lengths_for.fn.kp D_lengths_for.b (fun σ => L2N.passAt tk σ) (pa_cons (pv 1) (pa_cons (pv 2) pa_nil))))) pss_no))))
        (fun a oe cls d pn hz hf => suite_err (i := 3) GE DE (roomH_of (hr.mono (by decide))) (by rfl) (by rfl) (by exact .inl rfl) a oe cls d pn hz hf))
      (pss_one (ps_ret pe_str)), ?_⟩
      refine ⟨_, rfl, _, _, rfl, rfl, _, rfl, ite2 (fun z => by exact absurd z (by decide)) (fun _ => ?_)⟩
      refine ⟨_, rfl, _, _, rfl, rfl, _, rfl, ite2 (fun _ => ?_) (fun z => absurd rfl z)⟩
      refine ⟨by show 5 ≤ sizeLine; decide, fun l nl => ?_⟩
      have Sl := Same.new (o := HO.lst [.ref f_restricted, .ref f_mixed, .ref f_same_always, .ref f_difference, .ref f_lengths_for]) (Same.refl H) nl
      exact ⟨_, rfl, _, _, rfl, rfl, l, _, _, _, rfl, rfl, SqL.of upd_same, rfl, rfl, _, rfl, _, rfl, x, d, rfl, hD.same Sl, hS, (fun no H' S => ⟨true, Er.m 0 (by decide), fun _ a ha => ⟨rfl, 0, rfl, rfl, Er.d 0 (by decide), fun H2 S2 => bad no H2 ((Sl.trans S).trans S2)⟩, fun z => nomatch z⟩), (fun t e hV => ⟨fun v H' S => good ⟨t, e, hV⟩ _ H' (Sl.trans S) fine, fun i hi H' S => ⟨true, Er.m i hi, fun _ a ha => ⟨rfl, i, rfl, rfl, Er.d i hi, fun H2 S2 => good ⟨t, e, hV⟩ _ H2 ((Sl.trans S).trans S2) (word_can i hi)⟩, fun z => nomatch z⟩⟩)⟩
    · refine ⟨_, pss_cons (L2N.ps_try_as (i := 3) rfl rfl scOut01.nd rfl rfl ⟨rfl, by decide, .inl Er.cs.g11⟩ takes0N
        (fun W pn xe tk _ => pss_one (ps_if (pt_cmpR op_lt (pv 0) pe_int (nomark _)) pss_no (pss_one (ps_if (pt_cmpR op_lt (pv 0) pe_int (nomark _)) pss_no (pss_one (ps_if (pt_cmpR op_lt (pv 0) pe_int (nomark _)) (pss_one (ps_expr (pe_callX (pe_ix (r := rIxL K) ix_list (pe_lst (pa_cons (pe_glob (v := .ref f_place_of) rfl D_place_of.mg rfl) (pa_cons (pe_glob (v := .ref f_item_at) rfl D_item_at.mg rfl) (pa_cons (pe_glob (v := .ref f_counts_in) rfl D_counts_in.mg rfl) pa_nil)))) (pe_op op_sub (pv 0) pe_int) (fun _ _ => rfl)) G_place_of hr D_place_of.fn.kp D_place_of.b (fun σ => L2N.passAt tk σ) (pa_cons (pv 1) (pa_cons (pv 2) (pa_cons (pv 2) pa_nil)))))) pss_no))))))
        (fun a oe cls d pn hz hf => suite_err (i := 3) GE DE (roomH_of (hr.mono (by decide))) (by rfl) (by rfl) (by exact .inl rfl) a oe cls d pn hz hf))
      (pss_one (ps_ret pe_str)), ?_⟩
      refine ⟨_, rfl, _, _, rfl, rfl, _, rfl, ite2 (fun z => by exact absurd z (by decide)) (fun _ => ?_)⟩
      refine ⟨_, rfl, _, _, rfl, rfl, _, rfl, ite2 (fun z => by exact absurd z (by decide)) (fun _ => ?_)⟩
      refine ⟨_, rfl, _, _, rfl, rfl, _, rfl, ite2 (fun _ => ?_) (fun z => absurd rfl z)⟩
      refine ⟨by show 3 ≤ sizeLine; decide, fun l nl => ?_⟩
      have Sl := Same.new (o := HO.lst [.ref f_place_of, .ref f_item_at, .ref f_counts_in]) (Same.refl H) nl
      exact ⟨_, rfl, _, _, rfl, rfl, l, _, _, _, rfl, rfl, SqL.of upd_same, rfl, rfl, _, rfl, _, rfl, _, rfl, x, d, rfl, hD.same Sl, hS, (fun no H' S => ⟨true, Er.m 0 (by decide), fun _ a ha => ⟨rfl, 0, rfl, rfl, Er.d 0 (by decide), fun H2 S2 => bad no H2 ((Sl.trans S).trans S2)⟩, fun z => nomatch z⟩), (fun t e hV => ⟨fun v H' S => good ⟨t, e, hV⟩ _ H' (Sl.trans S) fine, fun i hi H' S => ⟨true, Er.m i hi, fun _ a ha => ⟨rfl, i, rfl, rfl, Er.d i hi, fun H2 S2 => good ⟨t, e, hV⟩ _ H2 ((Sl.trans S).trans S2) (word_can i hi)⟩, fun z => nomatch z⟩⟩)⟩
    · refine ⟨_, pss_cons (L2N.ps_try_as (i := 3) rfl rfl scOut01.nd rfl rfl ⟨rfl, by decide, .inl Er.cs.g11⟩ takes0N
        (fun W pn xe tk _ => pss_one (ps_if (pt_cmpR op_lt (pv 0) pe_int (nomark _)) pss_no (pss_one (ps_if (pt_cmpR op_lt (pv 0) pe_int (nomark _)) pss_no (pss_one (ps_if (pt_cmpR op_lt (pv 0) pe_int (nomark _)) (pss_one (ps_expr (pe_callX (pe_ix (r := rIxL K) ix_list (pe_lst (pa_cons (pe_glob (v := .ref f_place_of) rfl D_place_of.mg rfl) (pa_cons (pe_glob (v := .ref f_item_at) rfl D_item_at.mg rfl) (pa_cons (pe_glob (v := .ref f_counts_in) rfl D_counts_in.mg rfl) pa_nil)))) (pe_op op_sub (pv 0) pe_int) (fun _ _ => rfl)) G_item_at hr D_item_at.fn.kp D_item_at.b (fun σ => L2N.passAt tk σ) (pa_cons (pv 1) (pa_cons (pv 2) (pa_cons (pv 2) pa_nil)))))) pss_no))))))
        (fun a oe cls d pn hz hf => suite_err (i := 3) GE DE (roomH_of (hr.mono (by decide))) (by rfl) (by rfl) (by exact .inl rfl) a oe cls d pn hz hf))
      (pss_one (ps_ret pe_str)), ?_⟩
      refine ⟨_, rfl, _, _, rfl, rfl, _, rfl, ite2 (fun z => by exact absurd z (by decide)) (fun _ => ?_)⟩
      refine ⟨_, rfl, _, _, rfl, rfl, _, rfl, ite2 (fun z => by exact absurd z (by decide)) (fun _ => ?_)⟩
      refine ⟨_, rfl, _, _, rfl, rfl, _, rfl, ite2 (fun _ => ?_) (fun z => absurd rfl z)⟩
      refine ⟨by show 3 ≤ sizeLine; decide, fun l nl => ?_⟩
      have Sl := Same.new (o := HO.lst [.ref f_place_of, .ref f_item_at, .ref f_counts_in]) (Same.refl H) nl
      exact ⟨_, rfl, _, _, rfl, rfl, l, _, _, _, rfl, rfl, SqL.of upd_same, rfl, rfl, _, rfl, _, rfl, _, rfl, x, d, rfl, hD.same Sl, hS, (fun no H' S => ⟨true, Er.m 0 (by decide), fun _ a ha => ⟨rfl, 0, rfl, rfl, Er.d 0 (by decide), fun H2 S2 => bad no H2 ((Sl.trans S).trans S2)⟩, fun z => nomatch z⟩), (fun t e hV => ⟨fun v H' S => good ⟨t, e, hV⟩ _ H' (Sl.trans S) fine, fun i hi H' S => ⟨true, Er.m i hi, fun _ a ha => ⟨rfl, i, rfl, rfl, Er.d i hi, fun H2 S2 => good ⟨t, e, hV⟩ _ H2 ((Sl.trans S).trans S2) (word_can i hi)⟩, fun z => nomatch z⟩⟩)⟩
    · refine ⟨_, pss_cons (L2N.ps_try_as (i := 3) rfl rfl scOut01.nd rfl rfl ⟨rfl, by decide, .inl Er.cs.g11⟩ takes0N
        (fun W pn xe tk _ => pss_one (ps_if (pt_cmpR op_lt (pv 0) pe_int (nomark _)) pss_no (pss_one (ps_if (pt_cmpR op_lt (pv 0) pe_int (nomark _)) pss_no (pss_one (ps_if (pt_cmpR op_lt (pv 0) pe_int (nomark _)) (pss_one (ps_expr (pe_callX (pe_ix (r := rIxL K) ix_list (pe_lst (pa_cons (pe_glob (v := .ref f_place_of) rfl D_place_of.mg rfl) (pa_cons (pe_glob (v := .ref f_item_at) rfl D_item_at.mg rfl) (pa_cons (pe_glob (v := .ref f_counts_in) rfl D_counts_in.mg rfl) pa_nil)))) (pe_op op_sub (pv 0) pe_int) (fun _ _ => rfl)) G_counts_in hr D_counts_in.fn.kp D_counts_in.b (fun σ => L2N.passAt tk σ) (pa_cons (pv 1) (pa_cons (pv 2) (pa_cons (pv 2) pa_nil)))))) pss_no))))))
        (fun a oe cls d pn hz hf => suite_err (i := 3) GE DE (roomH_of (hr.mono (by decide))) (by rfl) (by rfl) (by exact .inl rfl) a oe cls d pn hz hf))
      (pss_one (ps_ret pe_str)), ?_⟩
      refine ⟨_, rfl, _, _, rfl, rfl, _, rfl, ite2 (fun z => by exact absurd z (by decide)) (fun _ => ?_)⟩
      refine ⟨_, rfl, _, _, rfl, rfl, _, rfl, ite2 (fun z => by exact absurd z (by decide)) (fun _ => ?_)⟩
      refine ⟨_, rfl, _, _, rfl, rfl, _, rfl, ite2 (fun _ => ?_) (fun z => absurd rfl z)⟩
      refine ⟨by show 3 ≤ sizeLine; decide, fun l nl => ?_⟩
      have Sl := Same.new (o := HO.lst [.ref f_place_of, .ref f_item_at, .ref f_counts_in]) (Same.refl H) nl
      exact ⟨_, rfl, _, _, rfl, rfl, l, _, _, _, rfl, rfl, SqL.of upd_same, rfl, rfl, _, rfl, _, rfl, _, rfl, x, d, rfl, hD.same Sl, hS, (fun no H' S => ⟨true, Er.m 0 (by decide), fun _ a ha => ⟨rfl, 0, rfl, rfl, Er.d 0 (by decide), fun H2 S2 => bad no H2 ((Sl.trans S).trans S2)⟩, fun z => nomatch z⟩), (fun t e hV => ⟨fun v H' S => good ⟨t, e, hV⟩ _ H' (Sl.trans S) fine, fun i hi H' S => ⟨true, Er.m i hi, fun _ a ha => ⟨rfl, i, rfl, rfl, Er.d i hi, fun H2 S2 => good ⟨t, e, hV⟩ _ H2 ((Sl.trans S).trans S2) (word_can i hi)⟩, fun z => nomatch z⟩⟩)⟩
    · refine ⟨_, pss_cons (L2N.ps_try_as (i := 3) rfl rfl scOut01.nd rfl rfl ⟨rfl, by decide, .inl Er.cs.g11⟩ takes0N
        (fun W pn xe tk _ => pss_one (ps_if (pt_cmpR op_lt (pv 0) pe_int (nomark _)) pss_no (pss_one (ps_if (pt_cmpR op_lt (pv 0) pe_int (nomark _)) pss_no (pss_one (ps_if (pt_cmpR op_lt (pv 0) pe_int (nomark _)) pss_no (pss_one (ps_expr (pe_makeS MX GX hr rfl mX bX MX.kp (fun σ => L2N.passAt tk σ) (pa_cons (pv 1) pa_nil))))))))))
        (fun a oe cls d pn hz hf => suite_err (i := 3) GE DE (roomH_of (hr.mono (by decide))) (by rfl) (by rfl) (by exact .inl rfl) a oe cls d pn hz hf))
      (pss_one (ps_ret pe_str)), ?_⟩
      refine ⟨_, rfl, _, _, rfl, rfl, _, rfl, ite2 (fun z => by exact absurd z (by decide)) (fun _ => ?_)⟩
      refine ⟨_, rfl, _, _, rfl, rfl, _, rfl, ite2 (fun z => by exact absurd z (by decide)) (fun _ => ?_)⟩
      refine ⟨_, rfl, _, _, rfl, rfl, _, rfl, ite2 (fun z => by exact absurd z (by decide)) (fun _ => ?_)⟩
      refine ⟨_, rfl, fun z dz nz ndz ne => ?_⟩
      obtain ⟨H2, e2⟩ : ∃ A, A = L2.upd (L2.upd H dz (.own z)) z (.ins CX dz []) := ⟨_, rfl⟩
      have Sl : Same H H2 := by rw [e2]; exact Same.own (Same.new (Same.refl _) ndz) nz
      have hz2 : H2 z = some (.ins CX dz []) := by rw [e2]; exact upd_same
      rw [← e2]
      exact ⟨z, dz, x, d, rfl, hz2, hD.same Sl, hS, (fun no H' S => ⟨true, Er.m 0 (by decide), fun _ a ha => ⟨rfl, 0, rfl, rfl, Er.d 0 (by decide), fun H2 S2 => bad no H2 ((Sl.trans S).trans S2)⟩, fun z => nomatch z⟩), fun t e hV H' b => ⟨rfl, good ⟨t, e, hV⟩ _ H' (Same.but Sl nz b) fine⟩⟩
end
end Mx
set_option Elab.async false
set_option maxRecDepth 100000
set_option linter.all false
/-! law_k01: _law_is_bool -/
namespace Mx
open PySem L2
def spIsBool : Sp := fun vs H Q _ => ∃ (a b : Bool), vs = [.bl a, .bl b] ∧ Q (.bl (decide (a = b))) H
section
variable {P : Program} {w : World} {K : PySem.W.Frag} {mg : Str → Option Value} {base : Heap}
theorem scIsB : FnScope ["actual", "expected"] ["actual", "expected"] (defScope s_law_is_bool) := ⟨rfl, rfl, rfl, by decide +kernel, rfl, by decide +kernel, by decide +kernel⟩
theorem ok_isBool {f : Addr} {fd : FuncData} (F : Fun K "_law_is_bool" "_law_is_bool" s_law_is_bool f fd) (B : Blt mg) : FnOk P w K mg base CX0 1 f fd ["actual", "expected"] spIsBool := by
  refine F.ok scIsB (fun vs H Q E h => ?_) (fun cdv A outer s H vs Q E hr h => ?_)
  · obtain ⟨a, b, rfl, _⟩ := h
    rfl
  · obtain ⟨a, b, rfl, k⟩ := h
    refine ⟨_, pss_one (ps_ret (pe_and (pe_callB call_isi (by rfl) B.isinstance (by decide +kernel) (pa_cons (pv 0) (pa_cons (pe_bltn (v := .ty "bool") (by rfl) B.bool (by decide +kernel) rfl) pa_nil))) (pe_one (pe_cmpR op_eq (pv 0) (pv 1) (nomark _))))), ?_⟩
    refine ⟨_, rfl, _, _, _, _, true, rfl, .ty _, .base (.bl a), kit_ty (by decide +kernel), true, rfl, ?_⟩
    refine ⟨_, rfl, _, rfl, rfl, ?_⟩
    rw [show decide (V.bl a = V.bl b) = decide (a = b) from decide_eq_decide.mpr ⟨fun z => V.bl.inj z, fun z => by rw [z]⟩]
    exact k
end
end Mx
set_option Elab.async false
set_option maxRecDepth 100000
namespace Mx
open PySem L2
def spPart (K : PySem.W.Frag) (d : Nat) : Sp := fun vs H Q _ => ∃ (a nl : Addr) (lev top : Int) (o : HO) (ns : List Str), vs = [.ref a, .ref nl, .int lev, .int top] ∧ H a = some o ∧ SrcO o ∧ H nl = some (.lst (ns.map V.str)) ∧ nl ≠ a ∧
  NamesOk ns ∧ ns ≠ [] ∧ 0 ≤ lev ∧ lev ≤ d ∧ (lev = 0 → ns.length = 1) ∧ 1 ≤ top ∧ top ≤ 9 ∧
  ∀ (v : V) (t : Tr) (o' : HO) (H' : Hp), But a H H' → H' a = some o' → SrcO o' → TrAt K H' d v t → t.wf d → t.names.Sublist ns → t.names ≠ [] → Q v H'
section
variable {P : Program} {w : World} {K : PySem.W.Frag} {mg : Str → Option Value} {base : Heap}
def nPart : List Str := ["source", "names", "levels", "top", "found", "rest", "size", "name"]
theorem scPart : FnScope nPart ["source", "names", "levels", "top"] (defScope sPart) := ⟨rfl, rfl, rfl, by decide +kernel, rfl, by decide +kernel, by decide +kernel⟩
theorem part_step {d : Nat} {f fP : Addr} {fd fdP : FuncData} (F : Def K mg "_law_part" sPart ["source", "names", "levels", "top"] f fd) (B : Blt mg) (D : Def K mg "_law_pick" sPick ["source", "size"] fP fdP)
    (GP : FnOk P w K mg base CX0 1 fP fdP ["source", "size"] spPick) (GR : FnOk P w K mg base CX0 (d + 1) f fd ["source", "names", "levels", "top"] (pre (spPart K) d)) :
    FnOk P w K mg base CX0 (d + 2) f fd ["source", "names", "levels", "top"] (spPart K d) := by
  refine F.fn.ok scPart (fun vs H Q E h => ?_) (fun cdv A outer s H vs Q E hr h => ?_)
  · obtain ⟨a, nl, lev, top, o, ns, rfl, _⟩ := h
    rfl
  · obtain ⟨a, nl, lev, top, o, ns, rfl, ha, hO, hnl, nla, hN, hne, hl0, hld, hl1, ht1, ht9, k⟩ := h
    have hr1 : Room 1 _ := hr.mono (by omega)
    refine ⟨_, pss_cons (ps_if (pt_cmpR op_eq (pe_callB call_len_seq (by rfl) B.len PySem.boot_len (pa_cons (pv 1) pa_nil)) pe_int (nomark _))
        (pss_cons (ps_if (PW.pt (pw_and (pt_cmpR op_gt (pv 2) pe_int (nomark _)) (pw_and1 (pt_cmpR op_eq (pe_call GP hr1 rfl D.mg D.fn.kp D.b .nil pass0 (pa_cons (pv 0) (pa_cons pe_int pa_nil))) pe_int (nomark _)))))
          (pss_one (ps_ret (pe_tup (pa_cons (pe_tup (pa_cons (pe_op op_add pe_int (pe_call GP hr1 rfl D.mg D.fn.kp D.b .nil pass0 (pa_cons (pv 0) (pa_cons (pv 3) pa_nil))))
            (pa_cons (pe_call GR hr rfl F.mg F.fn.kp F.b .nil pass0 (pa_cons (pv 0) (pa_cons (pv 1) (pa_cons (pe_op op_sub (pv 2) pe_int) (pa_cons (pv 3) pa_nil))))) pa_nil))) pa_nil)))) pss_nil)
        (pss_one (ps_ret (pe_ix ix_list (pv 1) pe_int (fun _ _ => rfl))))) pss_nil)
      (pss_cons (ps_if (pt_cmpR op_lt (pv 2) pe_int (nomark _))
        (pss_one (ps_ret (pe_callTy call_tuple_of (by rfl) B.tuple (by decide +kernel) (pa_cons
          (pe_lc (own := [("name", 7)]) (g := gName 7) (tt := tYes) (by rfl) scPart.nd (pi_list (pe_slice sl_list (pv 1) po_none (po_some pe_int))) (blkOk_by (own := [("name", 7)]) (N := nPart) (sc := defScope sPart) (by decide +kernel))
            (fun _ _ _ _ _ => pg_name (i := 7) scPart.nd rfl (Or.inl rfl)) (fun _ _ _ _ _ => pts_nil)
            (fun _ _ _ _ _ => pe_tup (pa_cons (pe_op op_add pe_int (pe_call GP hr1 rfl D.mg D.fn.kp D.b .nil pass0 (pa_cons (pv 0) (pa_cons (pv 3) pa_nil)))) (pa_cons (pv 7) pa_nil)))) pa_nil)))) pss_nil)
      (pss_cons (ps_par (i := 4) (j := 5) rfl scPart.nd rfl rfl (by decide) rfl rfl (pa_cons (pe_lst pa_nil) (pa_cons (pe_callTy call_list_of (by rfl) B.list (by decide +kernel) (pa_cons (pv 1) pa_nil)) pa_nil)) (by rfl))
      (pss_cons (ps_while PassesOwn.never (pt_cmpR (op_neD hr.units) (pv 5) (pe_lst pa_nil) (nomark _))
        (pss_cons (ps_set (i := 6) scPart.nd rfl (Or.inl rfl) (pe_ifExp (pt_cmpR op_eq (pe_callB call_len_seq (by rfl) B.len PySem.boot_len (pa_cons (pv 4) pa_nil)) pe_int (nomark _))
            (pe_callB call_len_seq (by rfl) B.len PySem.boot_len (pa_cons (pv 5) pa_nil))
            (pe_op op_add pe_int (pe_call GP hr1 rfl D.mg D.fn.kp D.b .nil pass0 (pa_cons (pv 0) (pa_cons (pe_callB call_len_seq (by rfl) B.len PySem.boot_len (pa_cons (pv 5) pa_nil)) pa_nil))))))
        (pss_cons (ps_expr (pe_bm PySem.F.plainAttrs_list PySem.F.slot_list_append PySem.F.type_list_append mt_append (pv 4) (pa_cons
            (pe_tup (pa_cons (pe_op op_add pe_int (pe_call GP hr1 rfl D.mg D.fn.kp D.b .nil pass0 (pa_cons (pv 0) (pa_cons (pv 3) pa_nil))))
              (pa_cons (pe_call GR hr rfl F.mg F.fn.kp F.b .nil pass0 (pa_cons (pv 0) (pa_cons (pe_slice sl_list (pv 5) po_none (po_some (pv 6))) (pa_cons (pe_op op_sub (pv 2) pe_int) (pa_cons (pv 3) pa_nil))))) pa_nil))) pa_nil)))
        (pss_one (ps_set (i := 5) scPart.nd rfl (Or.inl rfl) (pe_slice sl_list (pv 5) (po_some (pv 6)) po_none))))))
      (pss_one (ps_ret (pe_callTy call_tuple_of (by rfl) B.tuple (by decide +kernel) (pa_cons (pv 4) pa_nil))))))), ?_⟩
    refine ⟨_, rfl, nl, _, rfl, .inl (SqL.of hnl), rfl, _, rfl, ?_⟩
    refine ite2 (fun c => ?_) (fun c => ?_)
    · have hlen : ns.length = 1 := by
        have z := of_decide_eq_true c
        rw [List.length_map] at z
        have z2 : ((ns.length : Nat) : Int) = 1 := V.int.inj z
        omega
      obtain ⟨n0, rfl⟩ : ∃ n0, ns = [n0] := by
        match ns, hlen with
        | [n0], _ => exact ⟨n0, rfl⟩
      have leaf : ∀ (o1 : HO) (H1 : Hp), But a H H1 → H1 a = some o1 → SrcO o1 → Q (.str n0) H1 := fun o1 H1 b1 e1 s1 =>
        k _ (.feed n0) o1 H1 b1 e1 s1 (TrAt_feed.mpr rfl) (by unfold Tr.wf; trivial) (by rw [Tr.names_feed]; exact List.Sublist.refl _) (by rw [Tr.names_feed]; exact List.cons_ne_nil _ _)
      refine ⟨_, rfl, _, _, rfl, rfl, _, rfl, ?_⟩
      refine ite2 (fun c2 => ?_) (fun c2 => ?_)
      · refine ⟨_, rfl, a, _, o, rfl, ha, hO, (by decide), (by decide), fun d1 o1 h10 h11 hO1 => ?_⟩
        have hnl1 : upd H a o1 nl = some (.lst ([n0].map V.str)) := by rw [upd_ne nla]; exact hnl
        refine ⟨rfl, _, rfl, ?_⟩
        refine ite2 (fun c3 => ?_) (fun c3 => ?_)
        · refine ⟨_, rfl, _, rfl, a, _, o1, rfl, upd_same, hO1, by omega, by omega, fun d2 o2 h20 h21 hO2 => ?_⟩
          refine ⟨_, _, rfl, rfl, _, rfl, _, rfl, _, rfl, _, _, rfl, rfl, _, rfl, ?_⟩
          have hpos : 0 < lev := by simpa using c2
          obtain ⟨e, rfl⟩ : ∃ e, d = e + 1 := ⟨d - 1, by omega⟩
          have hnl2 : upd (upd H a o1) a o2 nl = some (.lst ([n0].map V.str)) := by rw [upd_ne nla]; exact hnl1
          refine ⟨a, nl, _, _, o2, [n0], rfl, upd_same, hO2, hnl2, nla, hN, hne, by omega, by omega, fun _ => rfl, ht1, ht9, fun v t o3 H3 b3 a3 s3 t3 w3 n3 m3 => ?_⟩
          refine ⟨by show 2 ≤ sizeLine; decide, fun q nq => ?_⟩
          refine ⟨by show 1 ≤ sizeLine; decide, fun r nr => ?_⟩
          have nqr : q ≠ r := fun z => by rw [← z, upd_same] at nr; cases nr
          have nqa : a ≠ q := ne_of_none a3 nq
          have nra : a ≠ r := ne_of_none a3 (none_of_upd nr)
          have kq : ∀ c xs, SqT K H3 c xs → SqT K (upd (upd H3 q (.tup [.int (1 + d2), v])) r (.tup [.ref q])) c xs := sqT_same (Same.new (Same.new (Same.refl _) nq) nr)
          refine k _ (.mix [(1 + d2, t)]) o3 _ ?_ ?_ s3 ?_ ?_ ?_ ?_
          · exact (((But.refl.upd).upd).trans b3).new nq |>.new nr
          · rw [upd_ne nra, upd_ne nqa]; exact a3
          · exact TrAt_mix.mpr ⟨r, _, rfl, SqT.of upd_same, PsAt.snoc (p := (1 + d2, t)) PsAt.nil (SqT.of (by rw [upd_ne nqr]; exact upd_same)) (TrAt.keep kq _ t3)⟩
          · unfold Tr.wf
            refine ⟨List.cons_ne_nil _ _, by simp, fun p hp => ?_⟩
            rw [List.mem_singleton] at hp
            subst hp
            exact ⟨by show 1 ≤ 1 + d2; omega, by show 1 + d2 ≤ 9; omega, w3⟩
          · rw [Tr.names_mix]
            simpa using n3
          · rw [Tr.names_mix]
            simpa using m3
        · refine ⟨_, rfl, nl, _, _, _, rfl, rfl, SqL.of hnl1, (rfl : atI [V.str n0] 0 = some (V.str n0)), ?_⟩
          exact leaf o1 _ (But.refl.upd) upd_same hO1
      · refine iteF ?_
        refine ⟨_, rfl, nl, _, _, _, rfl, rfl, SqL.of hnl, (rfl : atI [V.str n0] 0 = some (V.str n0)), ?_⟩
        exact leaf o _ But.refl ha hO
    · have hlen : ns.length ≠ 1 := fun z => c (by rw [List.length_map, z]; rfl)
      have hpos : 0 < ns.length := List.length_pos_iff.mpr hne
      refine ⟨_, rfl, _, _, rfl, rfl, _, rfl, ?_⟩
      refine ite2 (fun c2 => ?_) (fun c2 => ?_)
      · have hlev : lev = 1 := by
          have z : lev < 2 := by simpa using c2
          rcases Int.lt_or_le lev 1 with h | h
          · exact absurd (hl1 (by omega)) hlen
          · omega
        obtain ⟨e, rfl⟩ : ∃ e, d = e + 1 := ⟨d - 1, by omega⟩
        refine ⟨_, rfl, _, rfl, nl, _, rfl, SqL.of hnl, fun l nl' => ?_⟩
        have e5 : cutV (ns.map V.str) none (some 5) = (ns.take 5).map V.str := by
          unfold cutV
          rw [HT.sIx_none, show (some (5 : Int)) = some ((5 : Nat) : Int) from rfl, HT.sIx_nat, List.map_take, List.drop_zero, Nat.sub_zero, List.length_map]
          rcases Nat.le_total 5 ns.length with h | h
          · rw [Nat.min_eq_left h]
          · rw [Nat.min_eq_right h, List.take_of_length_le (by rw [List.length_map]; exact Nat.le_refl _), List.take_of_length_le (by rw [List.length_map]; exact h)]
        rw [e5]
        have nla' : a ≠ l := ne_of_none ha nl'
        refine ⟨l, rfl, ⟨_, SqL.of upd_same⟩, fun D' nD => ?_⟩
        have nDa : a ≠ D' := ne_of_none (by rw [upd_ne nla']; exact ha) nD
        have nDl : l ≠ D' := ne_of_none upd_same nD
        have nD0 : H D' = none := none_of_upd nD
        refine lc_list (K := K) (a := l) (xs := (ns.take 5).map V.str) (fun i H' => ∃ (o' : HO) (xs : List V) (ps : List (Int × Tr)), But a H H' ∧ H' a = some o' ∧ SrcO o' ∧ H' l = some (.lst ((ns.take 5).map V.str)) ∧ H' D' = some (.lst xs) ∧
          ps.length = i ∧ PsAt K H' e xs ps ∧ (∀ p ∈ ps, 1 ≤ p.1 ∧ p.1 ≤ 9 ∧ p.2.wf e) ∧ (ps.map fun p => p.2.names).flatten = (ns.take 5).take i) ?_ ?_ ?_ ?_
        · refine ⟨o, [], [], ?_, ?_, hO, ?_, upd_same, rfl, PsAt.nil, fun p hp => (by cases hp), by simp⟩
          · exact (But.refl.own nl').own nD0
          · rw [upd_ne nDa, upd_ne nla']; exact ha
          · rw [upd_ne nDl, upd_same]
        · rintro i H' hi ⟨o', xs, ps, _, _, _, h4, _⟩
          exact SqL.of h4
        · rintro i x H' hx ⟨o', xs, ps, h1, h2, h3, h4, h5, h6, h7, h8, h9⟩
          rw [List.getElem?_map] at hx
          obtain ⟨n, hn, rfl⟩ : ∃ n, (ns.take 5)[i]? = some n ∧ x = V.str n := by
            cases e9 : (ns.take 5)[i]? with
            | none => rw [e9] at hx; cases hx
            | some n => rw [e9] at hx; exact ⟨n, rfl, (Option.some.inj hx).symm⟩
          refine ⟨rfl, ?_⟩
          refine ⟨_, rfl, _, rfl, a, _, o', rfl, h2, h3, by omega, by omega, fun d2 o2 h20 h21 hO2 => ?_⟩
          refine ⟨_, _, rfl, rfl, _, rfl, by show 2 ≤ sizeLine; decide, fun q nq => ?_⟩
          have nqa : a ≠ q := ne_of_none upd_same nq
          have nq' : H' q = none := none_of_upd nq
          have nqD : D' ≠ q := ne_of_none h5 nq'
          have nql : l ≠ q := ne_of_none h4 nq'
          have nlD : l ≠ a := nla'.symm
          have h5' : upd (upd H' a o2) q (.tup [.int (1 + d2), .str n]) D' = some (.lst xs) := by rw [upd_ne nqD, upd_ne nDa.symm]; exact h5
          have kq : KeepT K H' (upd (upd (upd H' a o2) q (.tup [.int (1 + d2), .str n])) D' (.lst (xs ++ [.ref q]))) := ((KeepT.src h2 h3).trans (KeepT.new nq)).trans (KeepT.lst h5')
          have hin : i < (ns.take 5).length := (List.getElem?_eq_some_iff.mp hn).1
          have hi5 : i < 5 := Nat.lt_of_lt_of_le hin (by rw [List.length_take]; exact Nat.min_le_left _ _)
          refine ⟨xs, h5', ?_, o2, xs ++ [.ref q], ps ++ [(1 + d2, .feed n)], ?_, ?_, hO2, ?_, upd_same, ?_, ?_, ?_, ?_⟩
          · rw [h7.1, h6]; exact small1000 (by omega)
          · exact (h1.upd.own (h1.free nq' nqa.symm)).own nD0
          · rw [upd_ne nDa, upd_ne nqa, upd_same]
          · rw [upd_ne nDl, upd_ne nql, upd_ne nlD]; exact h4
          · rw [List.length_append, h6]; rfl
          · exact (h7.keep kq).snoc (p := (1 + d2, Tr.feed n)) (SqT.of (by rw [upd_ne nqD.symm]; exact upd_same)) (TrAt_feed.mpr rfl)
          · intro p hp
            rcases List.mem_append.mp hp with h | h
            · exact h8 p h
            · rw [List.mem_singleton] at h
              subst h
              exact ⟨by show 1 ≤ 1 + d2; omega, by show 1 + d2 ≤ 9; omega, by unfold Tr.wf; cases e <;> trivial⟩
          · rw [List.map_append, List.flatten_append, h9, List.map_singleton, List.flatten_singleton, Tr.names_feed, take_succ_of hn]
        · rintro H' ⟨o', xs, ps, h1, h2, h3, h4, h5, h6, h7, h8, h9⟩
          refine ⟨D', _, rfl, .inl ⟨SqL.of h5, fun r nr => ?_⟩⟩
          have nra : a ≠ r := ne_of_none h2 nr
          rw [List.length_map, List.length_take] at h6
          rw [List.take_of_length_le (by rw [List.length_map]; exact Nat.le_refl _)] at h9
          refine k _ (.mix ps) o' _ (h1.new nr) (by rw [upd_ne nra]; exact h2) h3 ?_ ?_ ?_ ?_
          · exact TrAt_mix.mpr ⟨r, _, rfl, SqT.of upd_same, h7.keep (KeepT.new nr)⟩
          · unfold Tr.wf
            refine ⟨fun z => ?_, by omega, h8⟩
            rw [z] at h6
            simp at h6
            omega
          · rw [Tr.names_mix, h9]; exact List.take_sublist _ _
          · rw [Tr.names_mix, h9]
            intro z
            rw [List.take_eq_nil_iff] at z
            rcases z with z | z
            · cases z
            · exact hne z
      · have hlev : 2 ≤ lev := by
          have z : ¬ lev < 2 := fun z => c2 (decide_eq_true z)
          omega
        obtain ⟨e, rfl⟩ : ∃ e, d = e + 1 := ⟨d - 1, by omega⟩
        refine ⟨Nat.zero_le _, fun fl nfl => ?_⟩
        have nfa : a ≠ fl := ne_of_none ha nfl
        have nfn : nl ≠ fl := ne_of_none hnl nfl
        refine ⟨_, rfl, nl, _, rfl, .inl (SqL.of (by rw [upd_ne nfn]; exact hnl)), fun rl nrl => ?_⟩
        have nra : a ≠ rl := ne_of_none (by rw [upd_ne nfa]; exact ha) nrl
        have nrf : fl ≠ rl := ne_of_none upd_same nrl
        have nrl0 : H rl = none := none_of_upd nrl
        refine ⟨_, _, rfl, ?_⟩
        refine ⟨fun t σ H' => ∃ (rest : List Str) (p : Addr) (v6 v7 : Option V) (o' : HO) (xs : List V) (ps : List (Int × Tr)), t = rest.length ∧ σ = [some (.ref a), some (.ref nl), some (.int lev), some (.int top), some (.ref fl), some (.ref p), v6, v7] ∧
          But a H H' ∧ H' a = some o' ∧ SrcO o' ∧ H p = none ∧ H' p = some (.lst (rest.map V.str)) ∧ p ≠ fl ∧ p ≠ a ∧ H' fl = some (.lst xs) ∧ PsAt K H' e xs ps ∧ ps.length ≤ 5 ∧ (ps.length = 5 → rest = []) ∧ (rest = [] → ps ≠ []) ∧ (∀ p ∈ ps, 1 ≤ p.1 ∧ p.1 ≤ 9 ∧ p.2.wf e ∧ p.2.names ≠ []) ∧
          ∃ used, ns = used ++ rest ∧ ((ps.map fun p => p.2.names).flatten).Sublist used, ⟨_, ns, rl, none, none, o, [], [], rfl, rfl, ?_, ?_, hO, nrl0, upd_same, nrf.symm, nra.symm, ?_, PsAt.nil, by simp, by simp, fun z => absurd z hne, by simp, [], rfl, List.Sublist.refl _⟩, ?_⟩
        · exact (But.refl.own nfl).own nrl0
        · rw [upd_ne nra, upd_ne nfa]; exact ha
        · rw [upd_ne nrf, upd_same]
        · rintro t σ H' ⟨rest, p, v6, v7, o', xs, ps, rfl, rfl, h1, h2, h3, h4, h5, hpf, hpa, h6, h7, h8, h9, h10, h11, used, h12, h13⟩
          have hmemR : ∀ x ∈ rest, x ∈ U := fun x hx => hN.mem x (h12 ▸ List.mem_append_right _ hx)
          have hlenR : rest.length ≤ 8 := by
            have := hN.len
            rw [h12, List.length_append] at this
            omega
          refine ⟨_, rfl, Nat.zero_le _, fun z nz => ?_⟩
          have nzp : p ≠ z := ne_of_none h5 nz
          have nzf : fl ≠ z := ne_of_none h6 nz
          have nza : a ≠ z := ne_of_none h2 nz
          refine ⟨_, _, .lst (SqL.of (by rw [upd_ne nzp]; exact h5)) (strs_dp rest), .lst (SqL.of upd_same) .nil, strs_shaped hmemR, nil_shaped, _, rfl, ?_⟩
          rw [eqv_nil]
          refine ite2 (fun c3 => ?_) (fun c3 => ?_)
          · have hrne : rest ≠ [] := by simpa using c3
            have hrpos : 0 < rest.length := List.length_pos_iff.mpr hrne
            refine ⟨fun σ' H'' => ∃ m', m' < rest.length ∧ _, fun σ' H'' h => h, ?_⟩
            refine ⟨_, rfl, fl, _, rfl, .inl (SqL.of (by rw [upd_ne nzf]; exact h6)), rfl, _, rfl, ?_⟩
            refine ite2 (fun c4 => ?_) (fun c4 => ?_)
            · refine ⟨_, rfl, p, _, rfl, .inl (SqL.of (by rw [upd_ne nzp]; exact h5)), ?_⟩
              rw [List.length_map]
              obtain ⟨sz, hsz⟩ : ∃ sz, sz = rest.length := ⟨_, rfl⟩
              rw [← hsz]
              have hsz1 : 1 ≤ sz := by omega
              have hsz2 : sz ≤ rest.length := by omega
              have hsz4 : ps.length = 4 → sz = rest.length := fun _ => hsz
              have hps : ps.length ≤ 4 := by
                rcases Nat.lt_or_ge ps.length 5 with h | h
                · omega
                · exact absurd (h9 (by omega)) hrne
              obtain ⟨H1, hH1⟩ : ∃ H1, H1 = upd H' z (.lst []) := ⟨_, rfl⟩
              rw [← hH1]
              obtain ⟨o1, ho1⟩ : ∃ o1, o1 = o' := ⟨_, rfl⟩
              have hb1 : But a H H1 := hH1 ▸ h1.new nz
              have ha1 : H1 a = some o1 := by rw [hH1, upd_ne nza, ho1]; exact h2
              have hs1 : SrcO o1 := ho1 ▸ h3
              have hp1 : H1 p = some (.lst (rest.map V.str)) := by rw [hH1, upd_ne nzp]; exact h5
              have hf1 : H1 fl = some (.lst xs) := by rw [hH1, upd_ne nzf]; exact h6
              have k1 : KeepT K H' H1 := hH1 ▸ KeepT.new nz
              refine ⟨_, rfl, .inl ⟨rfl, _, SqL.of hf1⟩, _, rfl, _, rfl, a, _, o1, rfl, ha1, hs1, by omega, by omega, fun d3 o3 h30 h31 hO3 => ?_⟩
              have hp3 : upd H1 a o3 p = some (.lst (rest.map V.str)) := by rw [upd_ne hpa]; exact hp1
              refine ⟨_, _, rfl, rfl, _, rfl, _, rfl, _, rfl, _, rfl, p, _, rfl, SqL.of hp3, fun sl nsl => ?_⟩
              rw [cut_to (by rw [List.length_map]; exact hsz2), ← List.map_take]
              have nsa : a ≠ sl := ne_of_none upd_same nsl
              have nsp : p ≠ sl := ne_of_none hp3 nsl
              have nsl1 : H1 sl = none := none_of_upd nsl
              refine ⟨_, rfl, _, _, rfl, rfl, _, rfl, ?_⟩
              have hNs : NamesOk (rest.take sz) := by
                have z : (rest.take sz).Sublist ns := (List.take_sublist _ _).trans (h12 ▸ List.sublist_append_right _ _)
                exact ⟨hN.nd.sublist z, fun x hx => hN.mem x (z.mem hx), Nat.le_trans z.length_le hN.len⟩
              refine ⟨a, sl, _, _, o3, rest.take sz, rfl, by rw [upd_ne nsa]; exact upd_same, hO3, upd_same, nsa.symm, hNs, ?_, by omega, by omega, fun z => by omega, ht1, ht9, fun v t o4 H4 b4 a4 s4 t4 w4 n4 m4 => ?_⟩
              · intro z
                rw [List.take_eq_nil_iff] at z
                rcases z with z | z
                · omega
                · exact hrne z
              have hf4 : H4 fl = some (.lst xs) := b4 _ _ (by rw [upd_ne (ne_of_none hf1 nsl1), upd_ne nfa.symm]; exact hf1) nfa.symm
              have hp4 : H4 p = some (.lst (rest.map V.str)) := b4 _ _ (by rw [upd_ne nsp]; exact hp3) hpa
              refine ⟨by show 2 ≤ sizeLine; decide, fun q nq => ?_⟩
              have nqf : fl ≠ q := ne_of_none hf4 nq
              have nqp : p ≠ q := ne_of_none hp4 nq
              have nqa : a ≠ q := ne_of_none a4 nq
              refine ⟨fl, xs, _, rfl, rfl, by rw [upd_ne nqf]; exact hf4, by rw [h7.1]; exact small1000 (by omega), ?_⟩
              refine ⟨_, rfl, _, rfl, _, rfl, p, _, rfl, SqL.of (by rw [upd_ne hpf, upd_ne nqp]; exact hp4), fun p2 np2 => ?_⟩
              rw [cut_from (by rw [List.length_map]; exact hsz2), ← List.map_drop]
              have np2' := none_of_upd (none_of_upd np2)
              have np2f : fl ≠ p2 := ne_of_none upd_same np2
              have np2a : a ≠ p2 := ne_of_none a4 np2'
              have np2q : q ≠ p2 := ne_of_none (by rw [upd_ne nqf.symm]; exact upd_same) np2
              have bAll : But a H H4 := ((hb1.upd).new nsl).trans b4
              have hq5 : upd H4 q (.tup [.int (1 + d3), v]) fl = some (.lst xs) := by rw [upd_ne nqf]; exact hf4
              have k4 : KeepT K H' H4 := ((k1.trans (KeepT.src ha1 hs1)).trans (KeepT.new nsl)).trans (KeepT.but (by rw [upd_ne nsa]; exact upd_same) hO3 b4)
              have k5 : KeepT K H4 (upd (upd (upd H4 q (.tup [.int (1 + d3), v])) fl (.lst (xs ++ [.ref q]))) p2 (.lst ((rest.drop sz).map V.str))) := ((KeepT.new nq).trans (KeepT.lst hq5)).trans (KeepT.new np2)
              refine ⟨(rest.drop sz).length, ?_, rest.drop sz, p2, _, v7, o4, xs ++ [.ref q], ps ++ [(1 + d3, t)], rfl, rfl, ?_, ?_, s4, ?_, upd_same, np2f.symm, np2a.symm, ?_, ?_, ?_, ?_, ?_, ?_, used ++ rest.take sz, ?_, ?_⟩
              · rw [List.length_drop]; omega
              · exact ((bAll.new nq).own nfl).own (bAll.free np2' np2a.symm)
              · rw [upd_ne np2a, upd_ne nfa, upd_ne nqa]; exact a4
              · exact bAll.free np2' np2a.symm
              · rw [upd_ne np2f, upd_same]
              · exact ((h7.keep k4).keep k5).snoc (p := (1 + d3, t)) (SqT.of (by rw [upd_ne np2q, upd_ne nqf.symm]; exact upd_same)) (TrAt.keep k5 _ t4)
              · rw [List.length_append, List.length_singleton]; omega
              · intro z
                rw [List.length_append, List.length_singleton] at z
                rw [hsz4 (by omega), List.drop_length]
              · intro _ z
                exact absurd (congrArg List.length z) (by simp)
              · intro p0 hp0
                rcases List.mem_append.mp hp0 with h | h
                · exact h11 p0 h
                · rw [List.mem_singleton] at h
                  subst h
                  exact ⟨by show 1 ≤ 1 + d3; omega, by show 1 + d3 ≤ 9; omega, w4, m4⟩
              · rw [h12, List.append_assoc, List.take_append_drop]
              · rw [List.map_append, List.flatten_append, List.map_singleton, List.flatten_singleton]
                exact h13.append n4
            · refine ⟨_, rfl, _, rfl, p, _, rfl, .inl (SqL.of (by rw [upd_ne nzp]; exact h5)), a, _, o', rfl, by rw [upd_ne nza]; exact h2, h3, by rw [List.length_map]; omega, by rw [List.length_map]; omega, fun d2 o1 h20 h21 hO2 => ?_⟩
              rw [List.length_map] at h21
              refine ⟨_, _, rfl, rfl, ?_⟩
              obtain ⟨dn, rfl⟩ := Int.eq_ofNat_of_zero_le h20
              obtain ⟨sz, hsz⟩ : ∃ sz, sz = 1 + dn := ⟨_, rfl⟩
              rw [show ((fun i j : Int => V.int (i + j)) 1 (dn : Int)) = V.int (sz : Int) from congrArg V.int (by omega)]
              have hsz1 : 1 ≤ sz := by omega
              have hsz2 : sz ≤ rest.length := by omega
              have h4n : ps.length ≠ 4 := fun z4 => c4 (by rw [h7.1, z4]; rfl)
              have hsz4 : ps.length = 4 → sz = rest.length := fun z4 => absurd z4 h4n
              have hps : ps.length ≤ 4 := by
                rcases Nat.lt_or_ge ps.length 5 with h | h
                · omega
                · exact absurd (h9 (by omega)) hrne
              obtain ⟨H1, hH1⟩ : ∃ H1, H1 = upd (upd H' z (.lst [])) a o1 := ⟨_, rfl⟩
              rw [← hH1]
              have hb1 : But a H H1 := hH1 ▸ (h1.new nz).upd
              have ha1 : H1 a = some o1 := by rw [hH1, upd_same]
              have hs1 : SrcO o1 := hO2
              have hp1 : H1 p = some (.lst (rest.map V.str)) := by rw [hH1, upd_ne hpa, upd_ne nzp]; exact h5
              have hf1 : H1 fl = some (.lst xs) := by rw [hH1, upd_ne nfa.symm, upd_ne nzf]; exact h6
              have k1 : KeepT K H' H1 := hH1 ▸ (KeepT.new nz).trans (KeepT.src (by rw [upd_ne nza]; exact h2) h3)
              refine ⟨_, rfl, .inl ⟨rfl, _, SqL.of hf1⟩, _, rfl, _, rfl, a, _, o1, rfl, ha1, hs1, by omega, by omega, fun d3 o3 h30 h31 hO3 => ?_⟩
              have hp3 : upd H1 a o3 p = some (.lst (rest.map V.str)) := by rw [upd_ne hpa]; exact hp1
              refine ⟨_, _, rfl, rfl, _, rfl, _, rfl, _, rfl, _, rfl, p, _, rfl, SqL.of hp3, fun sl nsl => ?_⟩
              rw [cut_to (by rw [List.length_map]; exact hsz2), ← List.map_take]
              have nsa : a ≠ sl := ne_of_none upd_same nsl
              have nsp : p ≠ sl := ne_of_none hp3 nsl
              have nsl1 : H1 sl = none := none_of_upd nsl
              refine ⟨_, rfl, _, _, rfl, rfl, _, rfl, ?_⟩
              have hNs : NamesOk (rest.take sz) := by
                have z : (rest.take sz).Sublist ns := (List.take_sublist _ _).trans (h12 ▸ List.sublist_append_right _ _)
                exact ⟨hN.nd.sublist z, fun x hx => hN.mem x (z.mem hx), Nat.le_trans z.length_le hN.len⟩
              refine ⟨a, sl, _, _, o3, rest.take sz, rfl, by rw [upd_ne nsa]; exact upd_same, hO3, upd_same, nsa.symm, hNs, ?_, by omega, by omega, fun z => by omega, ht1, ht9, fun v t o4 H4 b4 a4 s4 t4 w4 n4 m4 => ?_⟩
              · intro z
                rw [List.take_eq_nil_iff] at z
                rcases z with z | z
                · omega
                · exact hrne z
              have hf4 : H4 fl = some (.lst xs) := b4 _ _ (by rw [upd_ne (ne_of_none hf1 nsl1), upd_ne nfa.symm]; exact hf1) nfa.symm
              have hp4 : H4 p = some (.lst (rest.map V.str)) := b4 _ _ (by rw [upd_ne nsp]; exact hp3) hpa
              refine ⟨by show 2 ≤ sizeLine; decide, fun q nq => ?_⟩
              have nqf : fl ≠ q := ne_of_none hf4 nq
              have nqp : p ≠ q := ne_of_none hp4 nq
              have nqa : a ≠ q := ne_of_none a4 nq
              refine ⟨fl, xs, _, rfl, rfl, by rw [upd_ne nqf]; exact hf4, by rw [h7.1]; exact small1000 (by omega), ?_⟩
              refine ⟨_, rfl, _, rfl, _, rfl, p, _, rfl, SqL.of (by rw [upd_ne hpf, upd_ne nqp]; exact hp4), fun p2 np2 => ?_⟩
              rw [cut_from (by rw [List.length_map]; exact hsz2), ← List.map_drop]
              have np2' := none_of_upd (none_of_upd np2)
              have np2f : fl ≠ p2 := ne_of_none upd_same np2
              have np2a : a ≠ p2 := ne_of_none a4 np2'
              have np2q : q ≠ p2 := ne_of_none (by rw [upd_ne nqf.symm]; exact upd_same) np2
              have bAll : But a H H4 := ((hb1.upd).new nsl).trans b4
              have hq5 : upd H4 q (.tup [.int (1 + d3), v]) fl = some (.lst xs) := by rw [upd_ne nqf]; exact hf4
              have k4 : KeepT K H' H4 := ((k1.trans (KeepT.src ha1 hs1)).trans (KeepT.new nsl)).trans (KeepT.but (by rw [upd_ne nsa]; exact upd_same) hO3 b4)
              have k5 : KeepT K H4 (upd (upd (upd H4 q (.tup [.int (1 + d3), v])) fl (.lst (xs ++ [.ref q]))) p2 (.lst ((rest.drop sz).map V.str))) := ((KeepT.new nq).trans (KeepT.lst hq5)).trans (KeepT.new np2)
              refine ⟨(rest.drop sz).length, ?_, rest.drop sz, p2, _, v7, o4, xs ++ [.ref q], ps ++ [(1 + d3, t)], rfl, rfl, ?_, ?_, s4, ?_, upd_same, np2f.symm, np2a.symm, ?_, ?_, ?_, ?_, ?_, ?_, used ++ rest.take sz, ?_, ?_⟩
              · rw [List.length_drop]; omega
              · exact ((bAll.new nq).own nfl).own (bAll.free np2' np2a.symm)
              · rw [upd_ne np2a, upd_ne nfa, upd_ne nqa]; exact a4
              · exact bAll.free np2' np2a.symm
              · rw [upd_ne np2f, upd_same]
              · exact ((h7.keep k4).keep k5).snoc (p := (1 + d3, t)) (SqT.of (by rw [upd_ne np2q, upd_ne nqf.symm]; exact upd_same)) (TrAt.keep k5 _ t4)
              · rw [List.length_append, List.length_singleton]; omega
              · intro z
                rw [List.length_append, List.length_singleton] at z
                rw [hsz4 (by omega), List.drop_length]
              · intro _ z
                exact absurd (congrArg List.length z) (by simp)
              · intro p0 hp0
                rcases List.mem_append.mp hp0 with h | h
                · exact h11 p0 h
                · rw [List.mem_singleton] at h
                  subst h
                  exact ⟨by show 1 ≤ 1 + d3; omega, by show 1 + d3 ≤ 9; omega, w4, m4⟩
              · rw [h12, List.append_assoc, List.take_append_drop]
              · rw [List.map_append, List.flatten_append, List.map_singleton, List.flatten_singleton]
                exact h13.append n4
          · have hrne : rest = [] := by simpa using c3
            refine ⟨_, rfl, fl, _, rfl, .inl ⟨SqL.of (by rw [upd_ne nzf]; exact h6), fun r nr => ?_⟩⟩
            have nr' : H' r = none := none_of_upd nr
            have nra' : a ≠ r := ne_of_none h2 nr'
            refine k _ (.mix ps) o' _ ((h1.new nz).new nr) (by rw [upd_ne nra', upd_ne nza]; exact h2) h3 ?_ ?_ ?_ ?_
            · exact TrAt_mix.mpr ⟨r, _, rfl, SqT.of upd_same, (h7.keep (KeepT.new nz)).keep (KeepT.new nr)⟩
            · unfold Tr.wf
              exact ⟨h10 hrne, h8, fun p0 hp0 => ⟨(h11 p0 hp0).1, (h11 p0 hp0).2.1, (h11 p0 hp0).2.2.1⟩⟩
            · rw [Tr.names_mix, h12]
              exact h13.trans (List.sublist_append_left _ _)
            · rw [Tr.names_mix]
              intro z0
              match ps, h10 hrne, h11, z0 with
              | p0 :: r0, _, h11, z0 =>
                rw [List.map_cons, List.flatten_cons] at z0
                exact (h11 p0 List.mem_cons_self).2.2.2 (List.append_eq_nil_iff.mp z0).1
theorem ok_part {f fP : Addr} {fd fdP : FuncData} (F : Def K mg "_law_part" sPart ["source", "names", "levels", "top"] f fd) (B : Blt mg) (D : Def K mg "_law_pick" sPick ["source", "size"] fP fdP)
    (GP : FnOk P w K mg base CX0 1 fP fdP ["source", "size"] spPick) : ∀ d : Nat, FnOk P w K mg base CX0 (d + 2) f fd ["source", "names", "levels", "top"] (spPart K d)
  | 0 => part_step F B D GP (F.fn.ok (k := 0) scPart (fun _ _ _ _ h => h.elim) (fun _ _ _ _ _ _ _ _ _ h => h.elim))
  | d + 1 => part_step F B D GP (ok_part F B D GP d)
end
end Mx
set_option Elab.async false
set_option maxRecDepth 100000
/-! _law_names (split off MxTree) -/
namespace Mx
open PySem L2
section
variable {P : Program} {w : World} {K : PySem.W.Frag} {mg : Str → Option Value} {base : Heap}
theorem scLNames : FnScope ["tree", "found", "weight", "part"] ["tree"] (defScope sLNames) := ⟨rfl, rfl, rfl, by decide +kernel, rfl, by decide +kernel, by decide +kernel⟩
theorem lnames_step {d : Nat} {f : Addr} {fd : FuncData} (F : Def K mg "_law_names" sLNames ["tree"] f fd) (B : Blt mg) (GR : FnOk P w K mg base CX0 (d + 1) f fd ["tree"] (pre (spNames K) d)) :
    FnOk P w K mg base CX0 (d + 2) f fd ["tree"] (spNames K d) := by
  refine F.fn.ok scLNames (fun vs H Q E h => ?_) (fun cdv A outer s H vs Q E hr h => ?_)
  · obtain ⟨v, t, rfl, _⟩ := h
    rfl
  · obtain ⟨v, t, rfl, hT, hW, hL, k⟩ := h
    refine ⟨_, pss_cons (ps_if (pt_val (pe_callB call_isi (by rfl) B.isinstance (by decide +kernel) (pa_cons (pv 0) (pa_cons (pe_bltn (v := .ty "str") (by rfl) B.str (by decide +kernel) rfl) pa_nil))))
        (pss_one (ps_ret (pe_lst (pa_cons (pv 0) pa_nil)))) pss_nil)
      (pss_cons (ps_set (i := 1) scLNames.nd rfl (Or.inl rfl) (pe_lst pa_nil))
      (pss_cons (ps_for PassesOwn.never rfl (pi_tup (pv 0)) (pg_tup rfl (pgs_cons (pg_name (i := 2) scLNames.nd rfl (Or.inl rfl)) (pgs_cons (pg_name (i := 3) scLNames.nd rfl (Or.inl rfl)) pgs_nil)))
        (pss_one (ps_set (i := 1) scLNames.nd rfl (Or.inl rfl) (pe_op op_cat (pv 1) (pe_call GR hr rfl F.mg F.fn.kp F.b .nil pass0 (pa_cons (pv 3) pa_nil))))))
      (pss_one (ps_ret (pv 1))))), ?_⟩
    cases t with
    | feed n =>
      have hv := TrAt_feed.mp hT
      subst hv
      refine ⟨_, rfl, _, _, _, _, true, rfl, .ty _, .base (.str n), kit_ty (by decide +kernel), _, rfl, ?_⟩
      refine ⟨_, rfl, by show 1 ≤ sizeLine; decide, fun p np => ?_⟩
      refine k p _ (Same.new (Same.refl _) np) np ?_
      rw [upd_same, Tr.names_feed]
      rfl
    | mix ps =>
      cases d with
      | zero => exact (TrAt_zero hT).elim
      | succ e =>
        obtain ⟨a, xs, rfl, hs, hP⟩ := TrAt_mix.mp hT
        have hw : ps ≠ [] ∧ ps.length ≤ 5 ∧ ∀ p ∈ ps, 1 ≤ p.1 ∧ p.1 ≤ 9 ∧ p.2.wf e := by unfold Tr.wf at hW; exact hW
        rw [Tr.names_mix] at hL
        refine ⟨_, rfl, _, _, _, _, false, rfl, .ty _, tyx_tup hs, kit_ty (by decide +kernel), _, rfl, ?_⟩
        refine ⟨Nat.zero_le _, fun p0 np0 => ?_⟩
        refine ⟨_, rfl, a, rfl, ⟨_, sqT_same (Same.new (Same.refl _) np0) _ _ hs⟩, for_tup (K := K) (a := a) (xs := xs) (fun i σ H' => ∃ (p : Addr) (v2 v3 : Option V), σ = [some (.ref a), some (.ref p), v2, v3] ∧ Same H H' ∧ H p = none ∧
          H' p = some (.lst ((((ps.take i).map fun p => p.2.names).flatten).map V.str))) ?_ ?_ ?_ ?_⟩
        · exact ⟨p0, none, none, rfl, Same.new (Same.refl _) np0, np0, upd_same⟩
        · rintro i σ H' _ ⟨p, v2, v3, _, hS, _⟩
          exact sqT_same hS _ _ hs
        · rintro i x σ H' hx ⟨p, v2, v3, rfl, hS, np, hp⟩
          have hi : i < ps.length := by rw [← hP.1]; exact (List.getElem?_eq_some_iff.mp hx).1
          have hpi : ps[i]? = some ps[i] := List.getElem?_eq_getElem hi
          obtain ⟨b, y, rfl, hb, hy⟩ := hP.2 i x _ hx hpi
          have hle := flat_len (ps := ps) (i := i + 1)
          rw [flat_succ hpi, List.length_append] at hle
          refine ⟨b, _, rfl, sqT_same hS _ _ hb, rfl, _, _, rfl, _, _, rfl, rfl, ?_⟩
          refine ⟨_, rfl, _, rfl, y, ps[i].2, rfl, TrAt.keep (sqT_same hS) _ hy, (hw.2.2 _ (List.getElem_mem hi)).2.2, by omega, fun q H2 hS2 nq hq => ?_⟩
          have npq : p ≠ q := ne_of_none hp nq
          refine ⟨p, q, _, _, rfl, rfl, hS2 _ _ hp, hq, ?_, fun r nr => ?_⟩
          · rw [List.length_map, List.length_map]
            exact Nat.le_of_lt (small1000 (by omega))
          · refine ⟨r, _, _, rfl, Same.new (hS.trans hS2) nr, Same.free (hS.trans hS2) nr, ?_⟩
            rw [upd_same, flat_succ hpi, List.map_append]
        · rintro σ H' ⟨p, v2, v3, rfl, hS, np, hp⟩
          refine ⟨_, rfl, k p H' hS np ?_⟩
          rw [hp, Tr.names_mix, List.take_of_length_le (by rw [hP.1]; exact Nat.le_refl _)]
theorem ok_lnames {f : Addr} {fd : FuncData} (F : Def K mg "_law_names" sLNames ["tree"] f fd) (B : Blt mg) : ∀ d : Nat, FnOk P w K mg base CX0 (d + 2) f fd ["tree"] (spNames K d)
  | 0 => lnames_step F B (F.fn.ok (k := 0) scLNames (fun _ _ _ _ h => h.elim) (fun _ _ _ _ _ _ _ _ _ h => h.elim))
  | d + 1 => lnames_step F B (ok_lnames F B d)
end
end Mx
set_option Elab.async false
set_option maxRecDepth 100000
namespace Mx
open PySem L2
def spMixNames : Sp := fun vs H Q _ => ∃ (a : Addr) (m : Int) (o : HO), vs = [.ref a, .int m] ∧ H a = some o ∧ SrcO o ∧ 1 ≤ m ∧ m ≤ 8 ∧
  ∀ (p : Addr) (o' : HO) (ns : List Str) (H' : Hp), But a H H' → H' a = some o' → SrcO o' → H p = none → H' p = some (.lst (ns.map V.str)) → NamesOk ns → ns ≠ [] → (ns.length : Int) ≤ m → Q (.ref p) H'
section
variable {P : Program} {w : World} {K : PySem.W.Frag} {mg : Str → Option Value} {base : Heap}
theorem scMixNames : FnScope ["source", "most", "rest", "found"] ["source", "most"] (defScope sMixNames) := ⟨rfl, rfl, rfl, by decide +kernel, rfl, by decide +kernel, by decide +kernel⟩
theorem ok_mixNames {f fP : Addr} {fd fdP : FuncData} (F : Fun K "_law_mixed_names" "_law_mixed_names" sMixNames f fd) (B : Blt mg) (D : Def K mg "_law_pick" sPick ["source", "size"] fP fdP)
    (GP : FnOk P w K mg base CX0 1 fP fdP ["source", "size"] spPick) : FnOk P w K mg base CX0 2 f fd ["source", "most"] spMixNames := by
  refine F.ok scMixNames (fun vs H Q E h => ?_) (fun cdv A outer s H vs Q E hr h => ?_)
  · obtain ⟨a, n, o, rfl, _⟩ := h
    rfl
  · obtain ⟨a, m, o, rfl, ha, hO, hm1, hm8, k⟩ := h
    refine ⟨_, pss_cons (ps_par (i := 2) (j := 3) rfl scMixNames.nd rfl rfl (by decide) rfl rfl (pa_cons (pe_slice sl_list (pe_lst (pa_cons pe_str (pa_cons pe_str (pa_cons pe_str (pa_cons pe_str (pa_cons pe_str (pa_cons pe_str (pa_cons pe_str (pa_cons pe_str pa_nil)))))))))
          po_none (po_some (pe_op op_add pe_int (pe_call GP hr rfl D.mg D.fn.kp D.b .nil pass0 (pa_cons (pv 0) (pa_cons (pv 1) pa_nil)))))) (pa_cons (pe_lst pa_nil) pa_nil)) (by rfl))
      (pss_cons (ps_while PassesOwn.never (pt_cmpR (op_neD hr.units) (pv 2) (pe_lst pa_nil) (nomark _))
        (pss_one (ps_expr (pe_bm PySem.F.plainAttrs_list PySem.F.slot_list_append PySem.F.type_list_append mt_append (pv 3)
          (pa_cons (pe_bm PySem.F.plainAttrs_list PySem.F.slot_list_pop PySem.F.type_list_pop mt_popAt (pv 2)
            (pa_cons (pe_call GP hr rfl D.mg D.fn.kp D.b .nil pass0 (pa_cons (pv 0) (pa_cons (pe_callB call_len_seq (by rfl) B.len PySem.boot_len (pa_cons (pv 2) pa_nil)) pa_nil))) pa_nil)) pa_nil)))))
      (pss_one (ps_ret (pv 3)))), ?_⟩
    refine ⟨by show 8 ≤ sizeLine; decide, fun l nl => ?_⟩
    have nla : a ≠ l := ne_of_none ha nl
    refine ⟨_, rfl, _, rfl, a, m, o, rfl, by rw [upd_ne nla]; exact ha, hO, by omega, by omega, fun d o1 hd0 hd1 hO1 => ?_⟩
    refine ⟨_, _, rfl, rfl, _, rfl, l, _, rfl, SqL.of (by rw [upd_ne nla.symm]; exact upd_same), fun p np => ?_⟩
    refine ⟨Nat.zero_le _, fun q nq => ?_⟩
    obtain ⟨dn, rfl⟩ := Int.eq_ofNat_of_zero_le hd0
    have e1 : cutV [V.str "a", V.str "b", V.str "c", V.str "dd", V.str "e", V.str "fee", V.str "g", V.str "h"] none (some (1 + (dn : Int))) = (U.take (1 + dn)).map V.str := by
      rw [U8 V.str, List.map_take]
      exact cut_to (by rw [List.length_map]; show 1 + dn ≤ 8; omega)
    have npa : p ≠ a := fun e => by rw [e, upd_same] at np; cases np
    have nqp : q ≠ p := fun e => by rw [e, upd_same] at nq; cases nq
    have nq1 := none_of_upd nq
    have nqa : q ≠ a := fun e => by rw [e, upd_same] at nq1; cases nq1
    have np0 : H p = none := by
      have z := none_of_upd np
      exact none_of_upd z
    have nq0 : H q = none := none_of_upd (none_of_upd nq1)
    refine ⟨_, _, rfl, ?_⟩
    refine ⟨fun t σ H' => ∃ (rest found : List Str) (o' : HO), t = rest.length ∧ σ = [some (.ref a), some (.int m), some (.ref p), some (.ref q)] ∧ But a H H' ∧ H' a = some o' ∧ SrcO o' ∧ H' p = some (.lst (rest.map V.str)) ∧ H' q = some (.lst (found.map V.str)) ∧
        (rest ++ found).Nodup ∧ (∀ x ∈ rest ++ found, x ∈ U) ∧ (rest ++ found).length = 1 + dn, ⟨_, U.take (1 + dn), [], o1, rfl, rfl, ?_, ?_, hO1, ?_, upd_same, ?_, ?_, ?_⟩, ?_⟩
    · exact ((((But.refl.own nl).upd).own np0).own nq0)
    · rw [upd_ne nqa.symm, upd_ne npa.symm, upd_same]
    · rw [upd_ne nqp.symm, e1, upd_same]
    · rw [List.append_nil]; exact U_nd.sublist (List.take_sublist _ _)
    · intro x hx; rw [List.append_nil] at hx; exact List.mem_of_mem_take hx
    · rw [List.append_nil, List.length_take]; show min (1 + dn) 8 = _; omega
    · rintro t σ H' ⟨rest, found, o', rfl, rfl, hB, hA, hO', hp, hq, hnd, hmem, hlen⟩
      have hpa : p ≠ a := npa
      refine ⟨_, rfl, Nat.zero_le _, fun z nz => ?_⟩
      have nzp : p ≠ z := ne_of_none hp nz
      have nzq : q ≠ z := ne_of_none hq nz
      have nza : a ≠ z := ne_of_none hA nz
      refine ⟨_, _, .lst (SqL.of (by rw [upd_ne nzp]; exact hp)) (strs_dp rest), .lst (SqL.of upd_same) .nil, strs_shaped fun x hx => hmem x (List.mem_append_left _ hx), nil_shaped, _, rfl, ?_⟩
      rw [eqv_nil]
      refine ite2 (fun c => ?_) (fun c => ?_)
      · have hne : rest ≠ [] := by simpa using c
        have hpos : 0 < rest.length := List.length_pos_iff.mpr hne
        refine ⟨fun σ' H'' => ∃ m', m' < rest.length ∧ _, fun σ' H'' h => h, ?_⟩
        refine ⟨_, rfl, .inl ⟨rfl, _, SqL.of (by rw [upd_ne nzq]; exact hq)⟩, _, rfl, .inl ⟨rfl, _, SqL.of (by rw [upd_ne nzp]; exact hp)⟩, _, rfl, _, rfl, p, _, rfl, .inl (SqL.of (by rw [upd_ne nzp]; exact hp)), ?_⟩
        have hl8 : rest.length ≤ 8 := by rw [List.length_append] at hlen; omega
        refine ⟨a, _, o', rfl, by rw [upd_ne nza]; exact hA, hO', by rw [List.length_map]; omega, by rw [List.length_map]; omega, fun d2 o2 h20 h21 hO2 => ?_⟩
        rw [List.length_map] at h21
        obtain ⟨dm, rfl⟩ := Int.eq_ofNat_of_zero_le h20
        have hdm : dm < rest.length := by omega
        refine ⟨p, _, _, dm, V.str rest[dm], rfl, rfl, by rw [upd_ne npa, upd_ne nzp]; exact hp, by omega, by omega, ?_, ?_, ?_⟩
        · rw [seqIx (by omega) (by rw [List.length_map]; omega)]; rfl
        · rw [List.getElem?_map, List.getElem?_eq_getElem hdm]; rfl
        · refine ⟨q, _, _, rfl, rfl, by rw [upd_ne nqp, upd_ne nqa, upd_ne nzq]; exact hq, ?_, ?_⟩
          · rw [List.length_map]
            refine small1000 ?_
            rw [List.length_append] at hlen
            omega
          · refine ⟨rest.length - 1, by omega, rest.eraseIdx dm, found ++ [rest[dm]], o2, ?_, rfl, ?_, ?_, hO2, ?_, ?_, ?_, ?_, ?_⟩
            · rw [List.length_eraseIdx_of_lt hdm]
            · exact ((((hB.new nz).upd).own np0).own nq0)
            · rw [upd_ne nqa.symm, upd_ne npa.symm, upd_same]
            · rw [upd_ne nqp.symm, upd_same, map_eraseIdx]
            · rw [upd_same, List.map_append]; rfl
            · refine (List.Perm.nodup_iff ?_).mp hnd
              have e2 : rest.Perm (rest[dm] :: rest.eraseIdx dm) := erase_perm rest dm hdm
              refine (e2.append_right found).trans ?_
              have : (rest.eraseIdx dm ++ (found ++ [rest[dm]])).Perm (rest[dm] :: (rest.eraseIdx dm ++ found)) := by
                rw [← List.append_assoc]
                exact List.perm_append_singleton _ _
              exact this.symm
            · intro x hx
              rcases List.mem_append.mp hx with h | h
              · exact hmem x (List.mem_append_left _ (mem_eraseIdx h))
              · rcases List.mem_append.mp h with h | h
                · exact hmem x (List.mem_append_right _ h)
                · rw [List.mem_singleton] at h
                  rw [h]
                  exact hmem _ (List.mem_append_left _ (List.getElem_mem _))
            · rw [List.length_append, List.length_append, List.length_singleton, List.length_eraseIdx_of_lt hdm]
              rw [List.length_append] at hlen
              omega
      · have hne : rest = [] := by simpa using c
        subst hne
        rw [List.nil_append] at hnd hmem hlen
        refine ⟨_, rfl, ?_⟩
        refine k q o' found _ (hB.new nz) (by rw [upd_ne nza]; exact hA) hO' nq0 (by rw [upd_ne nzq]; exact hq) ⟨hnd, hmem, by omega⟩ ?_ (by omega)
        intro e
        rw [e] at hlen
        simp at hlen
        omega
end
end Mx
set_option Elab.async false
set_option maxRecDepth 100000
namespace Mx
open PySem L2
section
variable {P : Program} {w : World} {K : PySem.W.Frag} {mg : Str → Option Value} {base : Heap}
theorem scTree : FnScope ["source", "most", "top"] ["source", "most", "top"] (defScope sTree) := ⟨rfl, rfl, rfl, by decide +kernel, rfl, by decide +kernel, by decide +kernel⟩
theorem ok_tree {f fP fN fA : Addr} {fd fdP fdN fdA : FuncData} (F : Fun K "_law_tree" "_law_tree" sTree f fd) (D : Def K mg "_law_pick" sPick ["source", "size"] fP fdP)
    (GP : FnOk P w K mg base CX0 1 fP fdP ["source", "size"] spPick) (DN : Def K mg "_law_mixed_names" sMixNames ["source", "most"] fN fdN) (GN : FnOk P w K mg base CX0 2 fN fdN ["source", "most"] spMixNames)
    (DA : Def K mg "_law_part" sPart ["source", "names", "levels", "top"] fA fdA) (GA : FnOk P w K mg base CX0 6 fA fdA ["source", "names", "levels", "top"] (spPart K 4)) :
    FnOk P w K mg base CX0 7 f fd ["source", "most", "top"] (spTree K) := by
  refine F.ok scTree (fun vs H Q E h => ?_) (fun cdv A outer s H vs Q E hr h => ?_)
  · obtain ⟨a, n, t, o, rfl, _⟩ := h
    rfl
  · obtain ⟨a, m, top, o, rfl, ha, hO, hm1, hm8, ht1, ht9, k⟩ := h
    refine ⟨_, pss_one (ps_ret (pe_call GA hr rfl DA.mg DA.fn.kp DA.b .nil pass0 (pa_cons (pv 0) (pa_cons (pe_call GN (hr.mono (by decide)) rfl DN.mg DN.fn.kp DN.b .nil pass0 (pa_cons (pv 0) (pa_cons (pv 1) pa_nil)))
      (pa_cons (pe_op op_add pe_int (pe_call GP (hr.mono (by decide)) rfl D.mg D.fn.kp D.b .nil pass0 (pa_cons (pv 0) (pa_cons pe_int pa_nil)))) (pa_cons (pv 2) pa_nil)))))), ?_⟩
    refine ⟨_, rfl, _, rfl, _, rfl, a, m, o, rfl, ha, hO, hm1, hm8, fun p o1 ns H1 b1 a1 s1 np hp hN hne hlm => ?_⟩
    have npa : p ≠ a := ne_of_none ha np |>.symm
    refine ⟨_, rfl, a, _, o1, rfl, a1, s1, (by decide), (by decide), fun d o2 h0 h1 hO2 => ?_⟩
    refine ⟨_, _, rfl, rfl, _, rfl, a, p, _, _, o2, ns, rfl, upd_same, hO2, by rw [upd_ne npa]; exact hp, npa, hN, hne, by omega, ?_, fun z => by omega, ht1, ht9, fun v t o3 H3 b3 a3 s3 t3 w3 n3 m3 => ?_⟩
    · show 1 + d ≤ 4
      omega
    · refine k v t o3 H3 ((b1.upd).trans b3) a3 s3 t3 ⟨w3, hN.nd.sublist n3, fun x hx => hN.mem x (n3.mem hx), Nat.le_trans n3.length_le hN.len, m3⟩ ?_
      have := n3.length_le
      omega
end
end Mx
set_option Elab.async false
set_option maxRecDepth 100000
set_option linter.all false
/-! the laws' common helpers -/
namespace Mx
open PySem PySem.Spec PyProof.Rows L2
structure TopL (K : PySem.W.Frag) (mg : Str → Option Value) : Prop where
  lsource : Has K mg "_law_source" sLSource ["script", "k"]
  pick : Has K mg "_law_pick" sPick ["source", "size"]
  part : Has K mg "_law_part" sPart ["source", "names", "levels", "top"]
  mixNames : Has K mg "_law_mixed_names" sMixNames ["source", "most"]
  tree : Has K mg "_law_tree" sTree ["source", "most", "top"]
  names : Has K mg "_law_names" sLNames ["tree"]
structure LibL (P : Program) (w : World) (K : PySem.W.Frag) (mg : Str → Option Value) (base : Heap) : Prop where
  lsource : Pr P w K mg base CX0 1 "_law_source" sLSource ["script", "k"] (spLSource K)
  pick : Pr P w K mg base CX0 1 "_law_pick" sPick ["source", "size"] spPick
  tree : Pr P w K mg base CX0 7 "_law_tree" sTree ["source", "most", "top"] (spTree K)
  names : Pr P w K mg base CX0 6 "_law_names" sLNames ["tree"] (spNames K 4)
theorem libL_of {P : Program} {w : World} {K : PySem.W.Frag} {mg : Str → Option Value} {base : Heap} (B : Blt mg) (T : TopL K mg) : LibL P w K mg base := by
  obtain ⟨f1, d1, D1⟩ := T.lsource
  obtain ⟨f2, d2, D2⟩ := T.pick
  obtain ⟨f3, d3, D3⟩ := T.part
  obtain ⟨f4, d4, D4⟩ := T.mixNames
  obtain ⟨f5, d5, D5⟩ := T.tree
  obtain ⟨f6, d6, D6⟩ := T.names
  have G2 := ok_pick (P := P) (w := w) (mg := mg) (base := base) D2.fn
  have G3 := ok_part D3 B D2 G2 4
  have G4 := ok_mixNames D4.fn B D2 G2
  exact ⟨⟨f1, d1, D1, ok_lsource D1.fn B⟩, ⟨f2, d2, D2, G2⟩, ⟨f5, d5, D5, ok_tree D5.fn D2 G2 D4 G4 D3 G3⟩, ⟨f6, d6, D6, ok_lnames D6 B 4⟩⟩
end Mx
set_option Elab.async false
set_option maxRecDepth 100000
set_option linter.all false
/-! law_k01 -/
namespace Mx
open PySem PySem.Spec PyProof.Rows L2 L2H
theorem jn_some {F H : Hp} {S : List Addr} {G : Hp} {b : Addr} {o : HO} (h : jn F H S G b = some o) : F b = some o ∨ (H b = none ∧ G b = some o) := by
  unfold jn at h
  cases e : F b with
  | some u => rw [e] at h; exact .inl h
  | none => rw [e] at h; exact .inr ⟨(nw_some.mp h).1, (nw_some.mp h).2.2⟩
theorem len2' {α : Type} {l : List α} (h : l.length = 2) : ∃ a b, l = [a, b] := by
  match l, h with
  | [a, b], _ => exact ⟨a, b, rfl⟩
def TB01 : Tr := .mix [(1, .mix [(1, .feed "b"), (1, .feed "a")]), (1, .feed "c")]
theorem TB01_ok : TreeV TB01 := ⟨by unfold TB01; simp [Tr.wf], by decide +kernel, by decide +kernel, fun n hn => by
  have h : ∀ n ∈ TB01.names, okName n = true ∧ n.cps.size ≤ 1000 := by decide +kernel
  exact h n hn⟩
theorem TB01_data : TB01.data = .tuple [.tuple [.int 1, .tuple [.tuple [.int 1, .str "b"], .tuple [.int 1, .str "a"]]], .tuple [.int 1, .str "c"]] := by
  unfold TB01
  simp [Tr.data, Tr.dataL]
/-- good and feeds_of(value) != _law_names(value): never -/
def tFeed01 (K : PySem.W.Frag) : TT := fun σ H Q => ∃ (x : V) (d : PyData) (b : Bool), σ[5]? = some (some x) ∧ σ[6]? = some (some (.bl b)) ∧ Dv K H x d ∧ (b = true ↔ ∃ t : Tr, t.data = d ∧ TreeV t) ∧ ∀ H', Same H H' → Q false H'
theorem feed01_ok {K : PySem.W.Frag} (σ : L2.St) (H : Hp) (Q : Bool → Hp → Prop) (h : tFeed01 K σ H Q) : tAnd (tB (tVar 6)) (tTest (tOp (rNeD K) (tCall (spFeedsOf K) [] E0 (tCons (tVar 5) tNil)) (tCall (spNames K 4) [] E0 (tCons (tVar 5) tNil)))) σ H Q := by
  obtain ⟨x, d, b, h5, h6, hD, hb, k⟩ := h
  refine ⟨_, h6, b, rfl, ?_⟩
  cases b with
  | false => exact ite2 (fun z => by cases z) (fun _ => k H (Same.refl _))
  | true =>
    refine ite2 (fun _ => ?_) (fun z => absurd rfl z)
    obtain ⟨tx, rfl, hV⟩ := hb.mp rfl
    have hT := dv_tr 4 hV.wf hD
    have hlen := hV.len
    refine ⟨_, h5, x, tx, rfl, hT, hV, fun p1 H1 S1 np1 hp1 => ?_⟩
    refine ⟨_, h5, x, tx, rfl, TrAt.keep (sqT_same S1) _ hT, hV.wf, by omega, fun p2 H2 S2 np2 hp2 => ?_⟩
    refine ⟨_, _, .lst (SqL.of (S2 _ _ hp1)) (strs_dp _), .lst (SqL.of hp2) (strs_dp _), strs_shapedQ hV.okNm, strs_shapedQ hV.okNm, _, rfl, ?_⟩
    rw [eqv_strs, decide_eq_true rfl]
    exact k H2 (S1.trans S2)
section
variable {P : Program} {w : World} {K : PySem.W.Frag} {mg : Str → Option Value} {base : Heap}
def n01 : List Str := ["script", "k", "source", "tree", "some", "value", "good", "words", "pairs", "due", "pair", "name", "turn", "call", "one"]
theorem sc01 : FnScope n01 ["script"] (defScope sLaw) := ⟨rfl, rfl, rfl, by decide +kernel, rfl, by decide +kernel, by decide +kernel⟩
set_option maxHeartbeats 8000000 in
theorem ok_law01 {f fF CT : Addr} {fd : FuncData} (F : Fun K "law" "law" sLaw f fd) (B : Blt mg) (LL : LibL P w K mg base)
    (PAv : Pr P w K mg base CX0 6 "_law_any_value" s_law_any_value ["source", "depth"] (spAnyV K 4)) (PVa : Pr P w K mg base CX0 7 "_law_variant" s_law_variant ["source", "value", "depth"] (spVar K 2))
    (PLt : Pr P w K mg base CX0 7 "_law_is_tree" s_law_is_tree ["value"] (spLTree K)) (PIb : Pr P w K mg base CX0 1 "_law_is_bool" s_law_is_bool ["actual", "expected"] spIsBool) (PIt : Pr P w K mg base CX0 11 "is_tree" sIsTree ["value"] (spIsTreeD K))
    (PFe : Pr P w K mg base CX0 13 "feeds_of" sFeedsOf ["tree"] (spFeedsOf K)) (POc : Pr P w K mg base CX0 23 "_law_outcome" sOutcome ["call", "value", "odd"] (spOutc01 K)) (PTg : Pr P w K mg base CX0 17 "_law_together" s_law_together ["pairs"] (spLTog K)) (PFr : Pr P w K mg base CX0 17 "_law_fair" s_law_fair ["names"] (spLFair K))
    (mF : mg "fair" = some (.ref fF)) (kF : PySem.W.keepIn K (.ref fF) = true) (GF : FnR P w K mg base (L2N.CX P w) 14 fF (spFrE K CT)) : FnOk P w K mg base CX0 40 f fd ["script"] (spLaw K) := by
  obtain ⟨_, _, DS, GS⟩ := LL.lsource
  obtain ⟨_, _, DP, GP⟩ := LL.pick
  obtain ⟨_, _, DT, GT⟩ := LL.tree
  obtain ⟨_, _, DN, GN⟩ := LL.names
  obtain ⟨_, _, DAv, GAv⟩ := PAv
  obtain ⟨_, _, DVa, GVa⟩ := PVa
  obtain ⟨_, _, DLt, GLt⟩ := PLt
  obtain ⟨_, _, DIb, GIb⟩ := PIb
  obtain ⟨_, _, DIt, GIt⟩ := PIt
  obtain ⟨_, _, DFe, GFe⟩ := PFe
  obtain ⟨_, _, DOc, GOc⟩ := POc
  obtain ⟨_, _, DTg, GTg⟩ := PTg
  obtain ⟨_, _, DFr, GFr⟩ := PFr
  refine F.ok sc01 (fun vs H Q E h => ?_) (fun cdv A outer s H vs Q E hr h => ?_)
  · obtain ⟨a, ns, rfl, _⟩ := h
    rfl
  · obtain ⟨a, ns, rfl, hs, hns, k⟩ := h
    refine ⟨_, pss_cons (ps_for PassesOwn.never rfl (pi_range1 (by rfl) B.range (pa_cons (pe_callB (call_max2 rfl) (by rfl) B.max (by decide +kernel) (pa_cons pe_int (pa_cons (pe_callB (call_min2 rfl) (by rfl) B.min (by decide +kernel) (pa_cons pe_int (pa_cons (pe_callB call_len_seq (by rfl) B.len PySem.boot_len (pa_cons (pv 0) pa_nil)) pa_nil))) pa_nil))) pa_nil)) (pg_name (i := 1) sc01.nd rfl (Or.inl rfl))
        (pss_cons (ps_set (i := 2) sc01.nd rfl (Or.inr rfl) (pe_call GS (hr.mono (by decide)) rfl DS.mg DS.fn.kp DS.b .nil pass0 (pa_cons (pv 0) (pa_cons (pv 1) pa_nil))))
        (pss_cons (ps_set (i := 3) sc01.nd rfl (Or.inr rfl) (pe_call GT (hr.mono (by decide)) rfl DT.mg DT.fn.kp DT.b .nil pass0 (pa_cons (pv 2) (pa_cons pe_int (pa_cons pe_int pa_nil)))))
        (pss_cons (ps_set (i := 4) sc01.nd rfl (Or.inl rfl) (gol_lst (K := K) (i := 3) (gos_cons (go_var K (pv 3)) (gos_cons (go_tup (gos_cons (go_tup (gos_cons (go_int K pe_int) (gos_cons (go_var K (pv 3)) (gos_nil K)))) (gos_nil K)))
          (gos_cons (go_tup (gos_cons (go_tup (gos_cons (go_int K pe_int) (gos_cons (go_var K (pv 3)) (gos_nil K)))) (gos_cons (go_tup (gos_cons (go_int K pe_int) (gos_cons (go_var K (pv 3)) (gos_nil K)))) (gos_nil K))))
          (gos_cons (go_tup (gos_cons (go_tup (gos_cons (go_int K pe_int) (gos_cons (go_var K (pv 3)) (gos_nil K)))) (gos_cons (go_tup (gos_cons (go_int K pe_int) (gos_cons (go_str K pe_str) (gos_nil K)))) (gos_nil K))))
          (gos_cons (go_tup (gos_cons (go_tup (gos_cons (go_int K pe_int) (gos_cons (go_str K pe_str) (gos_nil K)))) (gos_nil K)))
          (gos_cons (go_tup (gos_cons (go_tup (gos_cons (go_str K pe_str) (gos_cons (go_int K pe_int) (gos_nil K)))) (gos_nil K)))
          (gos_cons (go_tup (gos_nil K)) (gos_cons (go_str K pe_str) (gos_nil K)))))))))))
        (pss_cons (ps_set (i := 4) sc01.nd rfl (Or.inl rfl) (pe_op op_cat (pv 4) (pe_lst (pa_cons (go_tup (K := K) (i := 3) (gos_cons (go_tup (gos_cons (go_int K pe_int) (gos_cons (go_tup (gos_cons (go_tup (gos_cons (go_int K pe_int) (gos_cons (go_tup (gos_cons (go_tup (gos_cons (go_int K pe_int) (gos_cons (go_tup (gos_cons (go_tup (gos_cons (go_int K pe_int) (gos_cons (go_tup (gos_cons (go_tup (gos_cons (go_int K pe_int) (gos_cons (go_str K pe_str) (gos_nil K)))) (gos_nil K))) (gos_nil K)))) (gos_nil K))) (gos_nil K)))) (gos_nil K))) (gos_nil K)))) (gos_nil K))) (gos_nil K)))) (gos_nil K)))
          (pa_cons (pe_callTy call_tuple_of (by rfl) B.tuple (by decide +kernel) (pa_cons (pe_lc (own := [("name", 11)]) (g := gName 11) (tt := tYes) (te := tTup (tCons (tC (.int 1)) (tCons (tVar 11) tNil))) (by rfl) sc01.nd (pi_str pe_str) (blkOk_by (own := [("name", 11)]) (N := n01) (sc := defScope sLaw) (by decide +kernel))
            (fun _ _ _ _ _ => pg_name (i := 11) sc01.nd rfl (Or.inl rfl)) (fun _ _ _ _ _ => pts_nil) (fun _ _ _ _ _ => pe_tup (pa_cons pe_int (pa_cons (pv 11) pa_nil)))) pa_nil))
          (pa_cons (go_lst (K := K) (i := 3) (gos_cons (go_tup (gos_cons (go_int K pe_int) (gos_cons (go_str K pe_str) (gos_nil K)))) (gos_nil K))) pa_nil))))))
        (pss_cons (ps_for PassesOwn.never rfl (pi_list (pe_op op_cat (pe_op op_cat (pv 4) (pe_lc (own := [("turn", 12)]) (g := gName 12) (tt := tYes) (te := tCall (spVar K 2) [] E0 (tCons (tVar 2) (tCons (tVar 3) (tCons (tC (.int 2)) tNil)))) (by rfl) sc01.nd (pi_range1 (by rfl) B.range (pa_cons pe_int pa_nil)) (blkOk_by (own := [("turn", 12)]) (N := n01) (sc := defScope sLaw) (by decide +kernel))
            (fun _ _ _ _ _ => pg_name (i := 12) sc01.nd rfl (Or.inl rfl)) (fun _ _ _ _ _ => pts_nil) (fun _ _ _ _ _ => pe_call GVa (hr.mono (by decide)) rfl DVa.mg DVa.fn.kp DVa.b .nil pass0 (pa_cons (pv 2) (pa_cons (pv 3) (pa_cons pe_int pa_nil))))))
            (pe_lst (pa_cons (pe_call GAv (hr.mono (by decide)) rfl DAv.mg DAv.fn.kp DAv.b .nil pass0 (pa_cons (pv 2) (pa_cons pe_int pa_nil))) pa_nil)))) (pg_name (i := 5) sc01.nd rfl (Or.inr rfl))
          (pss_cons (ps_set (i := 6) sc01.nd rfl (Or.inl rfl) (pe_call GLt (hr.mono (by decide)) rfl DLt.mg DLt.fn.kp DLt.b .nil pass0 (pa_cons (pv 5) pa_nil)))
          (pss_cons (ps_if (pt_not (pt_val (pe_call GIb (hr.mono (by decide)) rfl DIb.mg DIb.fn.kp DIb.b .nil pass0 (pa_cons (pe_call GIt (hr.mono (by decide)) rfl DIt.mg DIt.fn.kp DIt.b .nil pass0 (pa_cons (pv 5) pa_nil)) (pa_cons (pv 6) pa_nil))))) (pss_one (ps_ret pe_bl)) pss_nil)
          (pss_cons (ps_if (PT.of01 (t' := tFeed01 K) (PW.pt (pw_and (pt_val (pv 6)) (pw_and1 (pt_cmpR (op_neD hr.units) (pe_call GFe (hr.mono (by decide)) rfl DFe.mg DFe.fn.kp DFe.b .nil pass0 (pa_cons (pv 5) pa_nil)) (pe_call GN (hr.mono (by decide)) rfl DN.mg DN.fn.kp DN.b .nil pass0 (pa_cons (pv 5) pa_nil)) (nomark _))))) feed01_ok) (pss_one (ps_ret pe_bl)) pss_nil)
          (pss_cons (ps_setLc (i := 7) (own := [("call", 13)]) (g := gName 13) (tt := tYes) (te := tCall (spOutc01 K) [] E0 (tCons (tVar 13) (tCons (tVar 5) (tCons (tC .non) tNil)))) (by rfl) sc01.nd rfl rfl (sw_true rfl rfl rfl (by decide +kernel)) (pi_range1 (by rfl) B.range (pa_cons pe_int pa_nil)) (blkOk_by (own := [("call", 13)]) (N := n01) (sc := defScope sLaw) (by decide +kernel))
            (fun _ _ _ _ _ => pg_name (i := 13) sc01.nd rfl (Or.inl rfl)) (fun _ _ _ _ _ => pts_nil) (fun _ _ _ _ _ => pe_call GOc (hr.mono (by decide)) rfl DOc.mg DOc.fn.kp DOc.b .nil pass0 (pa_cons (pv 13) (pa_cons (pv 5) (pa_cons pe_non pa_nil)))))
          (pss_one (ps_if (PW.pt (pw_and (pt_not (pt_val (pv 6))) (pw_and1 (pt_cmpR (op_neD hr.units) (pv 7) (pe_op op_rep (pe_lst (pa_cons pe_str pa_nil)) pe_int) (nomark _))))) (pss_one (ps_ret pe_bl)) pss_nil)))))))
        (pss_cons (ps_set (i := 8) sc01.nd rfl (Or.inl rfl) (pe_slice sl_list (pe_lst (pa_cons (pe_tup (pa_cons (pe_op op_add pe_int (pe_call GP (hr.mono (by decide)) rfl DP.mg DP.fn.kp DP.b .nil pass0 (pa_cons (pv 2) (pa_cons pe_int pa_nil)))) (pa_cons (pe_call GT (hr.mono (by decide)) rfl DT.mg DT.fn.kp DT.b .nil pass0 (pa_cons (pv 2) (pa_cons pe_int (pa_cons pe_int pa_nil)))) pa_nil)))
            (pa_cons (pe_tup (pa_cons pe_int (pa_cons pe_str pa_nil))) (pa_cons (pe_tup (pa_cons pe_int (pa_cons pe_str pa_nil))) pa_nil)))) po_none (po_some (pe_op op_add pe_int (pe_call GP (hr.mono (by decide)) rfl DP.mg DP.fn.kp DP.b .nil pass0 (pa_cons (pv 2) (pa_cons pe_int pa_nil)))))))
        (pss_cons (ps_set (i := 9) sc01.nd rfl (Or.inl rfl) (PE.ofAv (t' := tDue K) (pe_ifExp (pt_val (pe_call GLt (hr.mono (by decide)) rfl DLt.mg DLt.fn.kp DLt.b .nil pass0 (pa_cons (pe_callTy call_tuple_of (by rfl) B.tuple (by decide +kernel) (pa_cons (pv 8) pa_nil)) pa_nil))) (pe_callTy call_tuple_of (by rfl) B.tuple (by decide +kernel) (pa_cons (pv 8) pa_nil)) pe_str) (fun σ H Q h => due_ok (fun p ys H Q h q => ⟨p, ys, rfl, .inl ⟨h, q⟩⟩) σ H Q h)))
        (pss_cons (ps_if (PT.of01 (t' := tTogNe K) (pt_cmpR (op_neD hr.units) (pe_call GTg (hr.mono (by decide)) rfl DTg.mg DTg.fn.kp DTg.b .nil pass0 (pa_cons (pv 8) pa_nil)) (pv 9) (nomark _)) togNe_ok) (pss_one (ps_ret pe_bl)) pss_nil)
        (pss_cons (ps_setLc (i := 10) (own := [("turn", 12)]) (g := gName 12) (tt := tYes) (te := tOp (rIxL K) (tDats2 K) (tPk2 7)) (by rfl) sc01.nd rfl rfl (sw_true rfl rfl rfl (by decide +kernel)) (pi_range1 (by rfl) B.range (pa_cons pe_int pa_nil)) (blkOk_by (own := [("turn", 12)]) (N := n01) (sc := defScope sLaw) (by decide +kernel))
            (fun _ _ _ _ _ => pg_name (i := 12) sc01.nd rfl (Or.inl rfl)) (fun _ _ _ _ _ => pts_nil) (fun _ _ _ _ _ => pe_ix ix_list (PE.ofD (t' := tDats2 K) (pd_lst (K := K) (pds_cons (pd_str K pe_str) (pds_cons (pd_str K pe_str) (pds_cons (pd_str K pe_str) (pds_cons (pd_non K pe_non) (pds_cons (pd_tup (pds_cons (pd_tup (pds_cons (pd_int K pe_int) (pds_cons (pd_str K pe_str) (pds_nil K)))) (pds_nil K))) (pds_cons (pd_str K pe_str) (pds_cons (pd_int K pe_int) (pds_nil K))))))))) (fun σ H Q h => h)) (pe_call GP (hr.mono (by decide)) rfl DP.mg DP.fn.kp DP.b .nil pass0 (pa_cons (pv 2) (pa_cons pe_int pa_nil))) (fun _ _ => rfl)))
        (pss_cons (ps_set (i := 6) sc01.nd rfl (Or.inl rfl) (pe_and (pe_cmpR (op_neD hr.units) (pe_ix ix_list (pv 10) pe_int (fun _ _ => rfl)) (pe_ix ix_list (pv 10) pe_int (fun _ _ => rfl)) (nomark _)) (pe_one (pe_cmpR (op_eqD hr.units) (pe_lc (own := [("one", 14)]) (g := gName 14) (tt := tTest (tOp (rNotInT K) (tVar 14) (tTup (tCons (tC (.str "zz")) (tCons (tC (.str "b")) tNil))))) (te := tVar 14) (by rfl) sc01.nd (pi_list (pv 10)) (blkOk_by (own := [("one", 14)]) (N := n01) (sc := defScope sLaw) (by decide +kernel))
            (fun _ _ _ _ _ => pg_name (i := 14) sc01.nd rfl (Or.inl rfl)) (fun _ _ _ _ _ => pts_one (pt_cmpR (op_notInT (by exact u65 hr)) (pv 14) (pe_tup (pa_cons pe_str (pa_cons pe_str pa_nil))) (by rfl))) (fun _ _ _ _ _ => pv 14)) (pe_lst pa_nil) (nomark _)))))
        (pss_one (ps_if (PT.of01 (t' := tFairNe K) (pt_cmpR (op_neD hr.units) (pe_call GFr (hr.mono (by decide)) rfl DFr.mg DFr.fn.kp DFr.b .nil pass0 (pa_cons (pv 10) pa_nil)) (pe_ifExp (pt_val (pv 6)) (pe_tup (pa_cons (pe_tup (pa_cons pe_int (pa_cons (pe_ix ix_list (pv 10) pe_int (fun _ _ => rfl)) pa_nil))) (pa_cons (pe_tup (pa_cons pe_int (pa_cons (pe_ix ix_list (pv 10) pe_int (fun _ _ => rfl)) pa_nil))) pa_nil))) pe_str) (nomark _)) fairNe_ok) (pss_one (ps_ret pe_bl)) pss_nil)))))))))))))
      (pss_cons (ps_if (pt_cmpR (op_neD hr.units) (pe_lst (pa_cons (pe_call GTg (hr.mono (by decide)) rfl DTg.mg DTg.fn.kp DTg.b .nil pass0 (pa_cons (pe_lst pa_nil) pa_nil)) (pa_cons (pe_call GFr (hr.mono (by decide)) rfl DFr.mg DFr.fn.kp DFr.b .nil pass0 (pa_cons (pe_lst pa_nil) pa_nil)) pa_nil))) (pe_lst (pa_cons pe_str (pa_cons pe_str pa_nil))) (nomark _)) (pss_one (ps_ret pe_bl)) pss_nil)
      (pss_one (ps_ret (pe_and (pe_cmpR (op_eqD hr.units) (pe_callR (E := fun _ => E0) GF (hr.mono (by decide)) rfl mF kF (fun σ pins H s e s' I c => passN pins σ H s e s' I c) (pa_cons pe_str pa_nil)) (pd_tup (K := K) (pds_cons (pd_tup (pds_cons (pd_int K pe_int) (pds_cons (pd_str K pe_str) (pds_nil K)))) (pds_nil K))) (nomark _))
        (pe_one (pe_cmpR (op_eqD hr.units) (pe_call GFe (hr.mono (by decide)) rfl DFe.mg DFe.fn.kp DFe.b .nil pass0 (pa_cons (pd_tup (K := K) (pds_cons (pd_tup (pds_cons (pd_int K pe_int) (pds_cons (pd_tup (pds_cons (pd_tup (pds_cons (pd_int K pe_int) (pds_cons (pd_str K pe_str) (pds_nil K)))) (pds_cons (pd_tup (pds_cons (pd_int K pe_int) (pds_cons (pd_str K pe_str) (pds_nil K)))) (pds_nil K)))) (pds_nil K)))) (pds_cons (pd_tup (pds_cons (pd_int K pe_int) (pds_cons (pd_str K pe_str) (pds_nil K)))) (pds_nil K)))) pa_nil)) (pe_lst (pa_cons pe_str (pa_cons pe_str (pa_cons pe_str pa_nil)))) (nomark _))))))), ?_⟩
    refine ⟨_, rfl, a, _, rfl, .inl hs, _, _, rfl, _, _, rfl, _, rfl, (by (repeat' split) <;> omega), (by (repeat' split) <;> omega), for_range (lo := 0) (fun i σ H' => ∃ v1 v2 v3 v4 v5 v6 v7 v8 v9 v10 : Option V, σ = [some (.ref a), v1, v2, v3, v4, v5, v6, v7, v8, v9, v10, none, none, none, none] ∧ Same H H') ?_ ?_ ?_⟩
    · exact ⟨_, _, _, _, _, _, _, _, _, _, rfl, Same.refl _⟩
    · rintro i σ H0 hi ⟨v1, v2, v3, v4, v5, v6, v7, v8, v9, v10, rfl, S0⟩
      have hi63 : i ≤ 63 := by
        revert hi
        (repeat' split) <;> (intro hi; omega)
      refine ⟨_, rfl, _, rfl, a, ns, _, rfl, S0.seq hs, by omega, by omega, fun sa o1 nsa hO1 H1 S1 hsa1 => ?_⟩
      have nsaH : H sa = none := Same.free S0 nsa
      refine ⟨_, rfl, sa, 8, 9, o1, rfl, hsa1, hO1, by decide, by decide, by decide, by decide, fun v t o2 H2 b2 hsa2 hO2 hT hK _ => ?_⟩
      have hV := hK.v
      have SH2 : Same H H2 := Same.but (S0.trans S1) nsaH b2
      have hTo : Dv K (off sa H2) v t.data := off_tr hsa2 hO2 hT
      have hLow : Low 8 t.data := tr_low 4 hV.wf hV.nm
      -- some
      refine ⟨sa, ⟨⟨_, hsa2⟩, v, rfl, ⟨_, hTo, hLow.tame⟩⟩, fun l1 vs1 H3 S3 hl1 hn1 hv1 => ?_⟩
      refine ⟨_, rfl, sa, ⟨⟨_, S3 _ _ hsa2⟩, v, rfl, ⟨_, hTo.same (off_same S3), hLow.tame⟩⟩, fun x1 H4 S4 hx1 => ?_⟩
      have hsa4 := S4 _ _ (S3 _ _ hsa2)
      refine ⟨_, rfl, fun D nD => ?_⟩
      refine lc_it walk_str (fun i G => ∃ zs, Same H4 G ∧ G D = some (.lst zs) ∧ zs.length = i ∧ ∀ z ∈ zs, Okv K (off sa (off D G)) z) ?_ (fun _ _ _ _ => trivial) ?_ ?_
      · exact ⟨[], Same.new (Same.refl _) nD, upd_same, rfl, fun z h => by cases h⟩
      · rintro j y G G2 hj ⟨zs, SG, hD, hzl, hz⟩ ⟨rfl, cc, hc, rfl⟩
        have hj6 : j < 6 := hj
        have hsaG := SG _ _ hsa4
        refine ⟨rfl, ?_⟩
        refine ⟨_, rfl, by show 2 ≤ sizeLine; decide, fun q nq => ?_⟩
        have nDq : D ≠ q := ne_of_none hD nq
        have nqs : q ≠ sa := fun z => by rw [z, hsaG] at nq; cases nq
        have sq : Same (off sa (off D G2)) (off sa (off D (L2.upd (L2.upd G2 q (.tup [.int 1, .str ⟨#[cc]⟩])) D (.lst (zs ++ [.ref q]))))) := fun b o e => by
          obtain ⟨n1, e⟩ := off_some.mp e
          obtain ⟨n2, e⟩ := off_some.mp e
          exact off_some.mpr ⟨n1, off_some.mpr ⟨n2, by rw [upd_ne n2, upd_ne (ne_of_none e nq)]; exact e⟩⟩
        refine ⟨zs, by rw [upd_ne nDq]; exact hD, by rw [hzl]; exact small1000 (by omega), zs ++ [.ref q], Same.own (Same.new SG nq) nD, upd_same, by rw [List.length_append, hzl]; rfl, fun z h => ?_⟩
        rcases List.mem_append.mp h with h | h
        · exact (hz z h).same sq
        · rw [List.mem_singleton.mp h]
          refine okv_tup (zs := [.int 1, .str ⟨#[cc]⟩]) (off_some.mpr ⟨nqs, off_some.mpr ⟨nDq.symm, by rw [upd_ne nDq.symm]; exact upd_same⟩⟩) fun u hu => ?_
          have hu : u = .int 1 ∨ u = .str ⟨#[cc]⟩ := by simpa using hu
          rcases hu with rfl | rfl
          · exact okv_int 1
          · refine ⟨_, .str _, .str _ (by show 1 ≤ 1000; decide) fun c hc' => ?_⟩
            rw [List.mem_singleton.mp (show c ∈ [cc] from hc')]
            have h6 : ∀ c ∈ ("abcdef" : Str).cps.toList, c < 1114112 := by decide +kernel
            exact h6 cc (by rw [← Array.getElem?_toList] at hc; exact List.mem_of_getElem? hc)
      rintro H5 ⟨zs, S45, hD5, hzl, hz5⟩
      refine ⟨D, _, rfl, .inl ⟨SqL.of hD5, fun r nr => ?_⟩⟩
      have hsa5 := S45 _ _ hsa4
      have nrs : r ≠ sa := fun z => by rw [z, hsa5] at nr; cases nr
      obtain ⟨H6, e6⟩ : ∃ A, A = L2.upd H5 r (.tup zs) := ⟨_, rfl⟩
      have S56 : Same H5 H6 := by rw [e6]; exact Same.new (Same.refl _) nr
      have hr6 : H6 r = some (.tup zs) := by rw [e6]; exact upd_same
      rw [← e6]
      have hsa6 := S56 _ _ hsa5
      have S36 := (S4.trans S45).trans S56
      have hx2 : Okv K (off sa H6) (.ref r) := okv_tup (off_some.mpr ⟨nrs, hr6⟩) fun z h => (hz5 z h).same fun b o e => by
        obtain ⟨n1, e⟩ := off_some.mp e
        exact off_some.mpr ⟨n1, S56 _ _ (off_some.mp e).2⟩
      refine ⟨sa, ⟨⟨_, hsa6⟩, v, rfl, ⟨_, hTo.same (off_same (S3.trans S36)), hLow.tame⟩⟩, fun x3 H7 S7 hx3 => ?_⟩
      refine ⟨by show 3 ≤ sizeLine; decide, fun l2 nl2 => ?_⟩
      obtain ⟨H8, e8⟩ : ∃ A, A = L2.upd H7 l2 (.lst [x1, .ref r, x3]) := ⟨_, rfl⟩
      have S78 : Same H7 H8 := by rw [e8]; exact Same.new (Same.refl _) nl2
      have hl2 : H8 l2 = some (.lst [x1, .ref r, x3]) := by rw [e8]; exact upd_same
      rw [← e8]
      have S38 := (S36.trans S7).trans S78
      refine ⟨l1, l2, vs1, _, rfl, rfl, S38 _ _ hl1, hl2, by rw [hn1]; show 11 ≤ sizeLine; decide, fun l3 nl3 => ?_⟩
      obtain ⟨vals, ev⟩ : ∃ vals, vals = vs1 ++ [x1, .ref r, x3] := ⟨_, rfl⟩
      obtain ⟨H9, e9⟩ : ∃ A, A = L2.upd H8 l3 (.lst vals) := ⟨_, rfl⟩
      have S89 : Same H8 H9 := by rw [e9]; exact Same.new (Same.refl _) nl3
      have hl3 : H9 l3 = some (.lst vals) := by rw [e9]; exact upd_same
      rw [← ev, ← e9]
      have S39 := S38.trans S89
      have hvl : vals.length = 11 := by rw [ev, List.length_append, hn1]; rfl
      have hvals : ∀ z ∈ vals, Okv K (off sa H9) z := fun z h => by
        rw [ev] at h
        rcases List.mem_append.mp h with h | h
        · exact (hv1 z h).same (off_same S39)
        · have h : z = x1 ∨ z = .ref r ∨ z = x3 := by simpa using h
          rcases h with rfl | rfl | rfl
          · exact hx1.same (off_same ((((S45.trans S56).trans S7).trans S78).trans S89))
          · exact hx2.same (off_same ((S7.trans S78).trans S89))
          · exact hx3.same (off_same (S78.trans S89))
      have hsa9 := S39 _ _ (S3 _ _ hsa2)
      have SH9 : Same H H9 := SH2.trans (S3.trans S39)
      have hT9 := hTo.same (off_same (S3.trans S39))
      -- variants and any value
      refine ⟨_, rfl, ?_⟩
      refine ⟨_, rfl, by decide, by decide, fun D2 nD2 => ?_⟩
      have nD2s : D2 ≠ sa := fun z => by rw [z, hsa9] at nD2; cases nD2
      refine lc_range (lo := 0) (n := 4) (fun j G => ∃ (zs : List V) (o : HO), But sa H9 G ∧ G sa = some o ∧ SrcO o ∧ G D2 = some (.lst zs) ∧ zs.length = j ∧ ∀ z ∈ zs, Okv K (off sa (off D2 G)) z) ?_ ?_ ?_
      · exact ⟨[], o2, But.refl.own nD2, by rw [upd_ne nD2s.symm]; exact hsa9, hO2, upd_same, rfl, fun z h => by cases h⟩
      · rintro j G hj ⟨zs, o, BG, hsaG, hOG, hD, hzl, hz⟩
        refine ⟨rfl, ?_⟩
        refine ⟨_, rfl, _, rfl, sa, v, t.data, 8, o, off sa H9, rfl, by decide, by decide, hsaG, hOG, fun b u e => BG b u (off_some.mp e).2 (off_some.mp e).1, off_self, hT9, hLow, fun i z => ?_, fun v' o' G2 B2 hsa' hO' hv => ?_⟩
        · cases t with
          | feed s => rw [Tr.data] at z; cases z
          | mix ps => rw [Tr.data] at z; cases z
        · have hD' := B2 _ _ hD nD2s
          refine ⟨zs, hD', by rw [hzl]; exact small1000 (by omega), zs ++ [v'], o', (BG.trans B2).own nD2, by rw [upd_ne nD2s.symm]; exact hsa', hO', upd_same, by rw [List.length_append, hzl]; rfl, fun z h => ?_⟩
          rcases List.mem_append.mp h with h | h
          · refine (hz z h).same fun b u e => ?_
            obtain ⟨n1, e⟩ := off_some.mp e
            obtain ⟨n2, e⟩ := off_some.mp e
            exact off_some.mpr ⟨n1, off_some.mpr ⟨n2, by rw [upd_ne n2]; exact B2 b u e n1⟩⟩
          · rw [List.mem_singleton.mp h]
            refine hv.same fun b u e => ?_
            rcases jn_some e with e | ⟨e1, e2⟩
            · obtain ⟨n1, e⟩ := off_some.mp e
              have n2 : b ≠ D2 := fun z => by rw [z, nD2] at e; cases e
              exact off_some.mpr ⟨n1, off_some.mpr ⟨n2, by rw [upd_ne n2]; exact B2 b u (BG b u e n1) n1⟩⟩
            · have n1 : b ≠ sa := fun z => by rw [z, hsaG] at e1; cases e1
              have n2 : b ≠ D2 := fun z => by rw [z, hD] at e1; cases e1
              exact off_some.mpr ⟨n1, off_some.mpr ⟨n2, by rw [upd_ne n2]; exact e2⟩⟩
      rintro G ⟨zs, o3, BG, hsaG, hOG, hD2, hzl, hz⟩
      have nl3s : l3 ≠ sa := fun z => by rw [z, S89 _ _ (S78 _ _ (S7 _ _ hsa6))] at hl3; obtain ⟨_, _, _, e1, _⟩ := hO2; have e2 := congrArg List.length (HO.lst.inj (e1.symm.trans (Option.some.inj hl3))); rw [hvl] at e2; exact absurd (show (3 : Nat) = 11 from e2) (by decide)
      refine ⟨l3, D2, vals, zs, rfl, rfl, BG _ _ hl3 nl3s, hD2, by rw [hvl, hzl]; show 15 ≤ sizeLine; decide, fun l4 nl4 => ?_⟩
      obtain ⟨G4, e4⟩ : ∃ A, A = L2.upd G l4 (.lst (vals ++ zs)) := ⟨_, rfl⟩
      have T4 : Same G G4 := by rw [e4]; exact Same.new (Same.refl _) nl4
      have hl4 : G4 l4 = some (.lst (vals ++ zs)) := by rw [e4]; exact upd_same
      rw [← e4]
      have hsaG4 := T4 _ _ hsaG
      refine ⟨_, rfl, sa, o3, rfl, by decide, hsaG4, hOG, fun wv dw o5 G5 B5 hsaG5 hO5 hw hwt => ?_⟩
      refine ⟨by show 1 ≤ sizeLine; decide, fun l5 nl5 => ?_⟩
      obtain ⟨G6, e6⟩ : ∃ A, A = L2.upd G5 l5 (.lst [wv]) := ⟨_, rfl⟩
      have T6 : Same G5 G6 := by rw [e6]; exact Same.new (Same.refl _) nl5
      have hl5 : G6 l5 = some (.lst [wv]) := by rw [e6]; exact upd_same
      rw [← e6]
      have nl4s : l4 ≠ sa := fun z => by rw [z, hsaG] at nl4; cases nl4
      refine ⟨l4, l5, _, _, rfl, rfl, T6 _ _ (B5 _ _ hl4 nl4s), hl5, by rw [List.length_append, hvl, hzl]; show 16 ≤ sizeLine; decide, fun l6 nl6 => ?_⟩
      obtain ⟨all, eall⟩ : ∃ all, all = vals ++ zs ++ [wv] := ⟨_, rfl⟩
      obtain ⟨G7, e7⟩ : ∃ A, A = L2.upd G6 l6 (.lst all) := ⟨_, rfl⟩
      have T7 : Same G6 G7 := by rw [e7]; exact Same.new (Same.refl _) nl6
      have hl6 : G7 l6 = some (.lst all) := by rw [e7]; exact upd_same
      rw [← eall, ← e7]
      have hsaG7 := T7 _ _ (T6 _ _ hsaG5)
      have B97 : But sa H9 G7 := ((BG.trans (But.of T4)).trans B5).trans (But.of (T6.trans T7))
      have BG7 : But sa G G7 := ((But.of T4).trans B5).trans (But.of (T6.trans T7))
      have hall : ∀ x ∈ all, Okv K G7 x := fun x h => by
        rw [eall] at h
        rcases List.mem_append.mp h with h | h
        · rcases List.mem_append.mp h with h | h
          · exact (hvals x h).same fun b u e => B97 b u (off_some.mp e).2 (off_some.mp e).1
          · exact (hz x h).same fun b u e => BG7 b u (off_some.mp (off_some.mp e).2).2 (off_some.mp e).1
        · rw [List.mem_singleton.mp h]
          exact ⟨dw, hw.same fun b u e => T7 _ _ (T6 _ _ (nw_some.mp e).2.2), hwt⟩
      have SH7 : Same H G7 := Same.but SH9 nsaH B97
      refine ⟨l6, rfl, ⟨_, SqL.of hl6⟩, for_list (K := K) (a := l6) (xs := all) (fun c σ H' => ∃ w5 w6 w7 : Option V, σ = [some (.ref a), some (.int (0 + (i : Int))), some (.ref sa), some v, some (.ref l3), w5, w6, w7, v8, v9, v10, none, none, none, none] ∧ Same G7 H') ?_ ?_ ?_ ?_⟩
      · exact ⟨_, _, _, rfl, Same.refl _⟩
      · rintro c σ H' _ ⟨_, _, _, rfl, SG⟩
        exact SqL.of (SG _ _ hl6)
      · rintro c x σ H' hx ⟨w5, w6, w7, rfl, SG⟩
        obtain ⟨d, hd0, htame⟩ := hall x (List.mem_of_getElem? hx)
        have hd := hd0.same SG
        refine ⟨_, rfl, x, d, rfl, hd, htame, fun b J1 T1 hb => ?_⟩
        refine ⟨_, rfl, x, d, rfl, hd.same T1, htame.small, fun b' J2 T2 hb' => ?_⟩
        obtain rfl : b' = b := Bool.eq_iff_iff.mpr (hb'.trans hb.symm)
        refine ⟨_, rfl, b', b', rfl, _, rfl, ?_⟩
        rw [decide_eq_true rfl]
        refine ite2 (fun z => by cases z) (fun _ => ?_)
        refine ⟨x, d, b', rfl, rfl, hd.same (T1.trans T2), hb, fun J3 T3 => ?_⟩
        refine ite2 (fun z => by cases z) (fun _ => ?_)
        have T03 := (T1.trans T2).trans T3
        refine ⟨_, rfl, by decide, by decide, fun D nD => ?_⟩
        refine lc_range (lo := 0) (n := 12) (fun c G => ∃ ws : List Str, Same J3 G ∧ G D = some (.lst (ws.map V.str)) ∧ ws.length = c ∧ (∀ s ∈ ws, PyData.canLay0 (.str s) = true) ∧ ((¬ ∃ t : Tr, t.data = d ∧ TreeV t) → ∀ s ∈ ws, s = "tree")) ?_ ?_ ?_
        · exact ⟨[], Same.new (Same.refl _) nD, upd_same, rfl, (fun s h => by cases h), (fun _ s h => by cases h)⟩
        · rintro c G hc ⟨ws, T, hD, hwl, hcan, hbad⟩
          refine ⟨rfl, ?_⟩
          have tc : PyData.canLay0 (.str "tree") = true := by decide +kernel
          refine ⟨_, rfl, _, rfl, c, x, d, by show [V.int (0 + (c : Int)), x, V.non] = _; rw [Int.zero_add], hc, hd.same (T03.trans T), htame, fun no J4 T4 => ?_, fun yes s J4 T4 hs => ?_⟩
          · refine ⟨_, T4 _ _ hD, by rw [List.length_map, hwl]; exact small1000 (by omega), ws ++ [("tree" : Str)], Same.own (T.trans T4) nD, by rw [upd_same, List.map_append]; rfl, by rw [List.length_append, hwl]; rfl, fun s h => ?_, fun z s h => ?_⟩
            · rcases List.mem_append.mp h with h | h
              · exact hcan s h
              · rw [List.mem_singleton.mp h]; exact tc
            · rcases List.mem_append.mp h with h | h
              · exact hbad z s h
              · exact List.mem_singleton.mp h
          · refine ⟨_, T4 _ _ hD, by rw [List.length_map, hwl]; exact small1000 (by omega), ws ++ [s], Same.own (T.trans T4) nD, by rw [upd_same, List.map_append]; rfl, by rw [List.length_append, hwl]; rfl, fun s' h => ?_, fun z => absurd yes z⟩
            rcases List.mem_append.mp h with h | h
            · exact hcan s' h
            · rw [List.mem_singleton.mp h]; exact hs
        rintro J5 ⟨ws, T5, hD5, hwl, hcan, hbad⟩
        have T05 := SG.trans (T03.trans T5)
        refine ⟨_, rfl, b', rfl, ?_⟩
        cases b' with
        | true =>
          refine ite2 (fun z => by cases z) (fun _ => ite2 (fun z => by cases z) (fun _ => ?_))
          exact ⟨_, _, _, rfl, T05⟩
        | false =>
          refine ite2 (fun _ => ?_) (fun z => absurd rfl z)
          have no : ¬ ∃ t : Tr, t.data = d ∧ TreeV t := fun z => by have := hb.mpr z; cases this
          have ew : ws = List.replicate 12 ("tree" : Str) := List.eq_replicate_iff.mpr ⟨hwl, hbad no⟩
          refine ⟨_, rfl, by show 1 ≤ sizeLine; decide, fun m1 nm1 => ?_⟩
          have U1 : Same J5 (L2.upd J5 m1 (.lst [.str "tree"])) := Same.new (Same.refl _) nm1
          refine ⟨m1, 12, _, rfl, rfl, upd_same, by decide, by decide, by show 12 ≤ sizeLine; decide, fun m2 nm2 => ?_⟩
          have U2 := Same.new (o := HO.lst (List.replicate (12 : Int).toNat [V.str "tree"]).flatten) U1 nm2
          have hm2 : (L2.upd (L2.upd J5 m1 (.lst [.str "tree"])) m2 (.lst (List.replicate (12 : Int).toNat [V.str "tree"]).flatten)) m2 = some (.lst ((List.replicate 12 ("tree" : Str)).map V.str)) := by rw [upd_same]; rfl
          refine ⟨_, _, .lst (SqL.of (U2 _ _ hD5)) (strs_dp ws), .lst (SqL.of hm2) (strs_dp _), strs_shapedQ hcan, strs_shapedQ (fun s h => hcan s (by rw [ew]; exact h)), _, rfl, ?_⟩
          rw [eqv_strs, decide_eq_true ew]
          refine ite2 (fun z => by cases z) (fun _ => ?_)
          exact ⟨_, _, _, rfl, T05.trans U2⟩
      rintro σ J0 ⟨w5, w6, w7, rfl, SJ0⟩
      have hsaJ0 := SJ0 _ _ hsaG7
      have SHJ0 := SH7.trans SJ0
      -- pairs
      refine ⟨_, rfl, sa, 10, o5, rfl, hsaJ0, hO5, by decide, by decide, fun d1 o6 d10 d11 hO6 => ?_⟩
      obtain ⟨J1, e1⟩ : ∃ A, A = L2.upd J0 sa o6 := ⟨_, rfl⟩
      have B1 : But sa J0 J1 := by rw [e1]; exact But.refl.upd
      have hsaJ1 : J1 sa = some o6 := by rw [e1]; exact upd_same
      rw [← e1]
      refine ⟨_, _, rfl, rfl, ?_⟩
      refine ⟨_, rfl, sa, 3, 9, o6, rfl, hsaJ1, hO6, by decide, by decide, by decide, by decide, fun tv t3 o7 J2 B2 hsaJ2 hO7 hT3 hK3 _ => ?_⟩
      have hV3 := hK3.v
      refine ⟨by show 2 ≤ sizeLine; decide, fun q1 nq1 => ?_⟩
      obtain ⟨J3, e3⟩ : ∃ A, A = L2.upd J2 q1 (.tup [.int (1 + d1), tv]) := ⟨_, rfl⟩
      have R3 : Same J2 J3 := by rw [e3]; exact Same.new (Same.refl _) nq1
      have hq1 : J3 q1 = some (.tup [.int (1 + d1), tv]) := by rw [e3]; exact upd_same
      rw [← e3]
      refine ⟨by show 2 ≤ sizeLine; decide, fun q2 nq2 => ?_⟩
      obtain ⟨J4, e4⟩ : ∃ A, A = L2.upd J3 q2 (.tup [.int 2, .str "zz"]) := ⟨_, rfl⟩
      have R4 : Same J3 J4 := by rw [e4]; exact Same.new (Same.refl _) nq2
      have hq2 : J4 q2 = some (.tup [.int 2, .str "zz"]) := by rw [e4]; exact upd_same
      rw [← e4]
      refine ⟨by show 2 ≤ sizeLine; decide, fun q3 nq3 => ?_⟩
      obtain ⟨J5, e5⟩ : ∃ A, A = L2.upd J4 q3 (.tup [.int 3, .str "yy"]) := ⟨_, rfl⟩
      have R5 : Same J4 J5 := by rw [e5]; exact Same.new (Same.refl _) nq3
      have hq3 : J5 q3 = some (.tup [.int 3, .str "yy"]) := by rw [e5]; exact upd_same
      rw [← e5]
      refine ⟨by show 3 ≤ sizeLine; decide, fun pl npl => ?_⟩
      obtain ⟨J6, e6⟩ : ∃ A, A = L2.upd J5 pl (.lst [.ref q1, .ref q2, .ref q3]) := ⟨_, rfl⟩
      have R6 : Same J5 J6 := by rw [e6]; exact Same.new (Same.refl _) npl
      have hpl : J6 pl = some (.lst [.ref q1, .ref q2, .ref q3]) := by rw [e6]; exact upd_same
      rw [← e6]
      have R26 := ((R3.trans R4).trans R5).trans R6
      have hsaJ6 := R26 _ _ hsaJ2
      have npls : pl ≠ sa := fun z => by rw [z, ((R3.trans R4).trans R5) _ _ hsaJ2] at npl; cases npl
      refine ⟨_, rfl, sa, 3, o7, rfl, hsaJ6, hO7, by decide, by decide, fun d2 o8 d20 d21 hO8 => ?_⟩
      obtain ⟨m2, rfl⟩ := Int.eq_ofNat_of_zero_le d20
      obtain ⟨J7, e7⟩ : ∃ A, A = L2.upd J6 sa o8 := ⟨_, rfl⟩
      have B7 : But sa J6 J7 := by rw [e7]; exact But.refl.upd
      have hsaJ7 : J7 sa = some o8 := by rw [e7]; exact upd_same
      rw [← e7]
      refine ⟨_, _, rfl, rfl, _, rfl, pl, _, rfl, SqL.of (B7 _ _ hpl npls), fun pr npr => ?_⟩
      rw [show (1 : Int) + (m2 : Int) = ((1 + m2 : Nat) : Int) by omega, cut_to (by show 1 + m2 ≤ 3; omega)]
      obtain ⟨xs, exs⟩ : ∃ xs, xs = [V.ref q1, .ref q2, .ref q3].take (1 + m2) := ⟨_, rfl⟩
      obtain ⟨J8, e8⟩ : ∃ A, A = L2.upd J7 pr (.lst xs) := ⟨_, rfl⟩
      have R8 : Same J7 J8 := by rw [e8]; exact Same.new (Same.refl _) npr
      have hpr : J8 pr = some (.lst xs) := by rw [e8]; exact upd_same
      rw [← exs, ← e8]
      have B28 : But sa J2 J8 := ((But.of R26).trans B7).trans (But.of R8)
      have B38 : But sa J3 J8 := ((But.of ((R4.trans R5).trans R6)).trans B7).trans (But.of R8)
      have B48 : But sa J4 J8 := ((But.of (R5.trans R6)).trans B7).trans (But.of R8)
      have B58 : But sa J5 J8 := ((But.of R6).trans B7).trans (But.of R8)
      have n1 : q1 ≠ sa := fun z => by rw [z, hsaJ2] at nq1; cases nq1
      have n2 : q2 ≠ sa := fun z => by rw [z, R3 _ _ hsaJ2] at nq2; cases nq2
      have n3 : q3 ≠ sa := fun z => by rw [z, (R3.trans R4) _ _ hsaJ2] at nq3; cases nq3
      have htv : Dv K J8 tv t3.data := (off_tr hsaJ2 hO7 hT3).same fun b u e => B28 b u (off_some.mp e).2 (off_some.mp e).1
      obtain ⟨ds, eds⟩ : ∃ ds, ds = ([.tuple [.int (1 + d1), t3.data], .tuple [.int 2, .str "zz"], .tuple [.int 3, .str "yy"]] : List PyData).take (1 + m2) := ⟨_, rfl⟩
      have hA : DvAll K J8 xs ds := by
        rw [exs, eds]
        exact dvAll_take _ (.cons (.tup (SqT.of (B38 _ _ hq1 n1)) (.cons (.int _) (.cons htv .nil))) (.cons (.tup (SqT.of (B48 _ _ hq2 n2)) (.cons (.int _) (.cons (.str _) .nil))) (.cons (.tup (SqT.of (B58 _ _ hq3 n3)) (.cons (.int _) (.cons (.str _) .nil))) .nil)))
      have hTm : ∀ d ∈ ds, Tame d := fun d hd => by
        rw [eds] at hd
        have hd := List.mem_of_mem_take hd
        simp only [List.mem_cons, List.not_mem_nil, or_false] at hd
        rcases hd with rfl | rfl | rfl
        · refine .tup _ fun y hy => ?_
          have hy : y = .int (1 + d1) ∨ y = t3.data := by simpa using hy
          rcases hy with rfl | rfl
          · exact .int _
          · exact (tr_low 4 hV3.wf hV3.nm).tame
        · refine .tup _ fun y hy => ?_
          have hy : y = .int 2 ∨ y = .str "zz" := by simpa using hy
          rcases hy with rfl | rfl
          · exact .int _
          · exact tame_str (by decide +kernel)
        · refine .tup _ fun y hy => ?_
          have hy : y = .int 3 ∨ y = .str "yy" := by simpa using hy
          rcases hy with rfl | rfl
          · exact .int _
          · exact tame_str (by decide +kernel)
      have hl3 : ds.length ≤ 3 := by rw [eds, List.length_take]; show min (1 + m2) 3 ≤ 3; omega
      have hsaJ8 := R8 _ _ hsaJ7
      have BJ8 : But sa J0 J8 := (B1.trans B2).trans B28
      refine ⟨pr, xs, ds, rfl, hpr, hA, hTm, fun u Y1 U1 yes no => ?_⟩
      refine ⟨pr, xs, ds, u, rfl, rfl, U1 _ _ hpr, DvAll.same U1 hA, hTm, hl3, yes, no, fun Y2 U2 => ?_⟩
      refine ite2 (fun z => by cases z) (fun _ => ?_)
      have U12 := U1.trans U2
      have hsaL := U12 _ _ hsaJ8
      -- pair
      refine ⟨_, rfl, by decide, by decide, fun D4 nD4 => ?_⟩
      have nD4s : D4 ≠ sa := fun z => by rw [z, hsaL] at nD4; cases nD4
      refine lc_range (lo := 0) (n := 2) (fun j G => ∃ (zs : List V) (es : List PyData) (o : HO), But sa Y2 G ∧ G sa = some o ∧ SrcO o ∧ G D4 = some (.lst zs) ∧ zs.length = j ∧ DvAll K G zs es ∧ ∀ d ∈ es, d ∈ pairD) ?_ ?_ ?_
      · exact ⟨[], [], o8, But.refl.own nD4, by rw [upd_ne nD4s.symm]; exact hsaL, hO8, upd_same, rfl, .nil, fun d h => by cases h⟩
      · rintro j G hj ⟨zs, es, o, BG, hsaG2, hOG2, hD4, hzl, hZ, hE⟩
        refine ⟨rfl, ?_⟩
        refine fun lv G1 W1 hlv => ?_
        cases hlv with
        | lst hla hPA =>
          rename_i la ys
          have hyl := dvAll_len hPA
          have hsaG1 := W1 _ _ hsaG2
          have nlas : la ≠ sa := fun z => by
            rw [z, hsaG1] at hla
            obtain ⟨_, _, _, e1, _⟩ := hOG2
            have e2 := congrArg List.length (HO.lst.inj (e1.symm.trans (Option.some.inj hla)))
            rw [hyl] at e2
            exact absurd (show (3 : Nat) = 7 from e2) (by decide)
          refine ⟨_, rfl, sa, 7, o, rfl, hsaG1, hOG2, by decide, by decide, fun dd o9 dd0 dd7 hO9 => ?_⟩
          obtain ⟨n, rfl⟩ := Int.eq_ofNat_of_zero_le dd0
          have hn : n < ys.length := by rw [hyl]; show n < 7; omega
          have hy := List.getElem?_eq_getElem hn
          generalize ys[n] = y at hy
          obtain ⟨dy, hdy, hyD⟩ := dvAll_get hPA hy
          have hmem := List.mem_of_getElem? hdy
          refine ⟨la, _, _, _, rfl, rfl, SqL.of (by rw [upd_ne nlas]; exact hla), atI_nat hy, ?_⟩
          have hD41 : (L2.upd G1 sa o9) D4 = some (.lst zs) := by rw [upd_ne nD4s]; exact W1 _ _ hD4
          have kt1 : KeepT K G1 (L2.upd G1 sa o9) := KeepT.src hsaG1 hOG2
          have kt2 : KeepT K (L2.upd G1 sa o9) (L2.upd (L2.upd G1 sa o9) D4 (.lst (zs ++ [y]))) := KeepT.lst hD41
          refine ⟨zs, hD41, by rw [hzl]; exact small1000 (by omega), zs ++ [y], es ++ [dy], o9, ((BG.trans (But.of W1)).upd).own nD4, by rw [upd_ne nD4s.symm]; exact upd_same, hO9, upd_same, by rw [List.length_append, hzl]; rfl, dvAll_snoc (pairs_keep (kt1.trans kt2) hE (DvAll.same W1 hZ)) (pairD_keep hmem (kt1.trans kt2) hyD), fun d h => ?_⟩
          rcases List.mem_append.mp h with h | h
          · exact hE d h
          · rw [List.mem_singleton.mp h]
            exact hmem
      rintro M0 ⟨zs, es, o9, BM, hsaM, hOM, hD4, hzl, hZ, hE⟩
      obtain ⟨x0, x1, rfl⟩ := len2' hzl
      obtain ⟨d0, d3, rfl⟩ := len2' ((dvAll_len hZ).symm.trans hzl)
      have m0 := hE d0 List.mem_cons_self
      have m1 := hE d3 (List.mem_cons_of_mem _ List.mem_cons_self)
      obtain ⟨hx0, hx1⟩ : Dv K M0 x0 d0 ∧ Dv K M0 x1 d3 := by
        cases hZ with
        | cons q t => cases t with | cons q2 _ => exact ⟨q, q2⟩
      have SHM : Same H M0 := Same.but (Same.but SHJ0 nsaH BJ8 |>.trans U12) nsaH BM
      refine ⟨_, rfl, D4, _, _, _, rfl, rfl, SqL.of hD4, rfl, _, rfl, D4, _, _, _, rfl, rfl, SqL.of hD4, rfl, d0, d3, hx0.dp, hx1.dp, pairD_shaped _ m0, pairD_shaped _ m1, _, rfl, ?_⟩
      by_cases eq : PyData.eqv d0 d3 = true
      · rw [eq]
        refine ite2 (fun z => by cases z) (fun _ => ?_)
        refine ⟨D4, x0, x1, d0, d3, _, rfl, rfl, hD4, hx0, hx1, m0, m1, ?_, fun M1 W1 => ?_⟩
        · unfold goodP
          rw [eq]
          rfl
        · refine ite2 (fun z => by cases z) (fun _ => ?_)
          exact ⟨_, _, _, _, _, _, _, _, _, _, rfl, SHM.trans W1⟩
      · have eq' : PyData.eqv d0 d3 = false := by simpa using eq
        rw [eq']
        refine ite2 (fun _ => ?_) (fun z => absurd rfl z)
        refine ⟨_, rfl, D4, rfl, ⟨_, SqL.of hD4⟩, fun D5 nD5 => ?_⟩
        refine lc_list (K := K) (a := D4) (xs := [x0, x1]) (fun j G => ∃ (zs : List V), Same M0 G ∧ G D5 = some (.lst zs) ∧ zs.length ≤ j ∧ DvAll K (off D5 G) zs (([d0, d3].take j).filter otherD)) ?_ ?_ ?_ ?_
        · exact ⟨[], Same.new (Same.refl _) nD5, upd_same, Nat.le_refl _, .nil⟩
        · rintro j G _ ⟨zs, W, _⟩
          exact SqL.of (W _ _ hD4)
        · rintro j x G hx ⟨zs, W, hD5, hzl, hZ⟩
          obtain ⟨dx, hdx, hxM⟩ := dvAll_get (DvAll.cons hx0 (DvAll.cons hx1 .nil)) hx
          have hmx : dx ∈ pairD := hE dx (List.mem_of_getElem? hdx)
          have hj2 : j < 2 := (List.getElem?_eq_some_iff.mp hx).1
          have hxG := hxM.same W
          refine ⟨rfl, ?_⟩
          refine ⟨_, rfl, by show 2 ≤ sizeLine; decide, fun q nq => ?_⟩
          obtain ⟨G1, eG1⟩ : ∃ A, A = L2.upd G q (.tup [.str "zz", .str "b"]) := ⟨_, rfl⟩
          have W1 : Same G G1 := by rw [eG1]; exact Same.new (Same.refl _) nq
          have hq : G1 q = some (.tup [.str "zz", .str "b"]) := by rw [eG1]; exact upd_same
          rw [← eG1]
          refine ⟨dx, [.str "zz", .str "b"], (hxG.same W1).dp, .tup (SqT.of hq) (.cons (.str _) (.cons (.str _) .nil)), pairD_shaped _ hmx, by decide +kernel, _, rfl, ?_⟩
          have eo : (!([PyData.str "zz", .str "b"].any fun z => PyData.eqv z dx)) = otherD dx := rfl
          rw [eo]
          have hD51 := W1 _ _ hD5
          cases c : otherD dx with
          | true =>
            refine ite2 (fun _ => ?_) (fun z => absurd rfl z)
            have s5 : Same (off D5 G) (off D5 (L2.upd G1 D5 (.lst (zs ++ [x])))) := fun b u e => by
              obtain ⟨n1, e⟩ := off_some.mp e
              exact off_some.mpr ⟨n1, by rw [upd_ne n1]; exact W1 _ _ e⟩
            refine ⟨_, rfl, zs, hD51, small1000 (by omega), zs ++ [x], Same.own (W.trans W1) nD5, upd_same, by rw [List.length_append]; show zs.length + 1 ≤ j + 1; omega, ?_⟩
            rw [take_succ_of hdx, List.filter_append, List.filter_cons_of_pos c, List.filter_nil]
            refine dvAll_snoc (DvAll.same s5 hZ) ((hxM.same fun b u e => ?_ : Dv K (off D5 G) x dx).same s5)
            exact off_some.mpr ⟨(fun z => by rw [z, nD5] at e; cases e), W b u e⟩
          | false =>
            refine ite2 (fun z => by cases z) (fun _ => ?_)
            refine ⟨zs, W.trans W1, hD51, by omega, ?_⟩
            rw [take_succ_of hdx, List.filter_append, List.filter_cons_of_neg (by rw [c]; simp), List.filter_nil, List.append_nil]
            exact DvAll.same (off_same W1) hZ
        rintro M1 ⟨zs, W1, hD5, _, hZ1⟩
        rw [show [x0, x1].length = 2 from rfl, show [d0, d3].take 2 = [d0, d3] from rfl] at hZ1
        refine ⟨Nat.zero_le _, fun e0 ne0 => ?_⟩
        obtain ⟨M2, eM2⟩ : ∃ A, A = L2.upd M1 e0 (.lst []) := ⟨_, rfl⟩
        have W2 : Same M1 M2 := by rw [eM2]; exact Same.new (Same.refl _) ne0
        have he0 : M2 e0 = some (.lst []) := by rw [eM2]; exact upd_same
        rw [← eM2]
        have W02 := W1.trans W2
        refine ⟨_, _, .lst (SqL.of (W2 _ _ hD5)) (DvAll.dp (DvAll.same (off_up.trans W2) hZ1)), .lst (SqL.of he0) .nil, pairs_shaped fun d hd => hE d (List.mem_filter.mp hd).1, nil_shaped, ?_⟩
        rw [eqv_listNil]
        refine ⟨D4, x0, x1, d0, d3, _, rfl, rfl, W02 _ _ hD4, hx0.same W02, hx1.same W02, m0, m1, ?_, fun M3 W3 => ?_⟩
        · unfold goodP
          rw [eq']
          rfl
        · refine ite2 (fun z => by cases z) (fun _ => ?_)
          exact ⟨_, _, _, _, _, _, _, _, _, _, rfl, SHM.trans (W02.trans W3)⟩
    · rintro σ H1 ⟨v1, v2, v3, v4, v5, v6, v7, v8, v9, v10, rfl, S1⟩
      have noT : ∀ t : Tr, TreeV t → t.data ≠ .tuple [] := fun t hV e => by
        cases t with
        | feed s => rw [Tr.data] at e; cases e
        | mix ps =>
          have w := hV.wf
          unfold Tr.wf at w
          rw [Tr.data, Tr.dataL_eq] at e
          exact w.1 (List.map_eq_nil_iff.mp (PyData.tuple.inj e))
      refine ⟨Nat.zero_le _, fun p1 np1 => ?_⟩
      refine ⟨p1, [], [], rfl, SqL.of upd_same, .nil, fun d h => by (cases h), Nat.zero_le _, fun t e hV => absurd e (noT t hV), fun _ H2 S2 => ?_⟩
      refine ⟨Nat.zero_le _, fun p2 np2 => ?_⟩
      refine ⟨p2, [], [], rfl, SqL.of upd_same, .nil, fun d h => by (cases h), .inr rfl, fun z => by (obtain ⟨d, h, _⟩ := z; cases h), fun ns e => ?_⟩
      obtain rfl : ns = [] := List.map_eq_nil_iff.mp e.symm
      refine ⟨fun t e hV => absurd e (noT t hV), fun _ H3 S3 => ?_⟩
      refine ⟨by show 2 ≤ sizeLine; decide, fun p3 np3 => ?_⟩
      obtain ⟨H4, e4⟩ : ∃ A, A = L2.upd H3 p3 (.lst [.str "tree", .str "tree"]) := ⟨_, rfl⟩
      have hp3 : H4 p3 = some (.lst ((["tree", "tree"] : List Str).map V.str)) := by rw [e4]; exact upd_same
      rw [← e4]
      refine ⟨by show 2 ≤ sizeLine; decide, fun p4 np4 => ?_⟩
      obtain ⟨H5, e5⟩ : ∃ A, A = L2.upd H4 p4 (.lst [.str "tree", .str "tree"]) := ⟨_, rfl⟩
      have S45 : Same H4 H5 := by rw [e5]; exact Same.new (Same.refl _) np4
      have hp4 : H5 p4 = some (.lst ((["tree", "tree"] : List Str).map V.str)) := by rw [e5]; exact upd_same
      rw [← e5]
      have sh2 : SeqAt.shaped (.list ((["tree", "tree"] : List Str).map PyData.str)) = true := by decide +kernel
      refine ⟨_, _, .lst (SqL.of (S45 _ _ hp3)) (strs_dp _), .lst (SqL.of hp4) (strs_dp _), sh2, sh2, _, rfl, ?_⟩
      rw [eqv_strs, decide_eq_true rfl]
      refine ite2 (fun z => by cases z) (fun _ => ?_)
      -- fair('a')
      have hVa : TreeV (fairT1 ["a"]) := ⟨by unfold fairT1; simp [Tr.wf], by decide +kernel, by decide +kernel, fun n hn => by
        have h : ∀ n ∈ (fairT1 ["a"]).names, okName n = true ∧ n.cps.size ≤ 1000 := by decide +kernel
        exact h n hn⟩
      refine ⟨[], [.str "a"], rfl, rfl, by show 1 ≤ sizeLine; decide, fun q nq => ?_⟩
      refine ⟨q, [.str "a"], [.str "a"], rfl, SqT.of upd_same, .cons (.str _) .nil, fun d h => ?_, by show 1 ≤ 900; decide, fun z => ?_, fun ns e => ?_⟩
      · rw [List.mem_singleton.mp h]
        exact tame_str (by decide +kernel)
      · obtain ⟨d, h, hs⟩ := z
        rw [List.mem_singleton.mp h] at hs
        cases hs
      · obtain ⟨s0, rfl⟩ : ∃ s0, ns = [s0] := by
          match ns, congrArg List.length e with
          | [s0], _ => exact ⟨s0, rfl⟩
        obtain ⟨e0, _⟩ := List.cons.inj e
        obtain rfl := PyData.str.inj e0
        refine ⟨fun t et hV v H6 S6 hv => ?_, fun no => absurd (fair_tree.mpr hVa) no⟩
        refine fun u H7 S7 hu => ?_
        have shf : SeqAt.shaped (fairD ["a"]) = true := by decide +kernel
        have hv7 : Dv K H7 v (fairD ["a"]) := et ▸ tr_dv 4 (TrAt.keep (sqT_same S7) _ hv)
        refine ⟨_, _, hv7.dp, hu.dp, shf, by decide +kernel, _, rfl, ?_⟩
        rw [show PyData.eqv (fairD ["a"]) (.tuple [.tuple [.int 1, .str "a"]]) = true from eqv_rfl shf]
        refine ite2 (fun _ => ?_) (fun z => absurd rfl z)
        -- feeds_of
        refine fun u2 H8 S8 hu2 => ?_
        have hVb : TreeV TB01 := TB01_ok
        refine ⟨u2, TB01, rfl, dv_tr 4 hVb.wf (by rw [TB01_data]; exact hu2), hVb, fun p5 H9 S9 np5 hp5 => ?_⟩
        refine ⟨by show 3 ≤ sizeLine; decide, fun p6 np6 => ?_⟩
        have S10 : Same H9 (L2.upd H9 p6 (.lst [.str "b", .str "a", .str "c"])) := Same.new (Same.refl _) np6
        have hp6 : (L2.upd H9 p6 (.lst [.str "b", .str "a", .str "c"])) p6 = some (.lst ((["b", "a", "c"] : List Str).map V.str)) := upd_same
        have nb : TB01.names = (["b", "a", "c"] : List Str) := by decide +kernel
        rw [nb] at hp5
        have sh3 : SeqAt.shaped (.list ((["b", "a", "c"] : List Str).map PyData.str)) = true := by decide +kernel
        refine ⟨_, _, .lst (SqL.of (S10 _ _ hp5)) (strs_dp _), .lst (SqL.of hp6) (strs_dp _), sh3, sh3, ?_⟩
        rw [eqv_strs, decide_eq_true rfl]
        exact k _
end
end Mx
set_option Elab.async false
set_option maxRecDepth 100000
set_option linter.all false
/-! .. the sources -/
namespace Mx
open PySem PySem.Spec PyProof.Rows L2
section
variable {K : PySem.W.Frag} {h : Heap} {mg : Str → Option Value} {x m qual : Str} {st : Stmt} {ps : List Str} {f C : Addr} {oc kV doc pm cdv ct : Value} {od an : Option Addr} {osl : Array (Option Value)}
theorem mdef_mk (hb : BindsAs m qual st ps) (a : PySem.W.findIn K (.ref C) m = some (some (.ref f))) (i : PySem.W.isFn K (.ref f) = true) (l : K.lookup f = some ⟨oc, od, .func (PySem.W.fnOf m qual (defArgs st) (defBody st) (defScope st) .none kV doc pm an cdv ct), osl⟩)
    (c : PySem.W.codeIn K cdv qual = true) (k : PySem.W.keepIn K (.ref f) = true) : ∃ f fd, MDef K C m qual st ps f fd :=
  ⟨f, _, fun_mk l c k, ⟨a, i, k⟩, (fun_mk (st := st) l c k).binds hb⟩
end
theorem src_mk {K : PySem.W.Frag} {h : Heap} {mg : Str → Option Value} {CF CM : Addr} (X : K.In h) (G : h.Ns mainGlobals mg) (aF : PySem.W.nsIn K mainGlobals "FeedSource" = some (some (.ref CF))) (aM : PySem.W.nsIn K mainGlobals "MixerSource" = some (some (.ref CM)))
    (cF : Cls K CF) (cM : Cls K CM) (n1 : NoAttr K CF "name") (n2 : NoAttr K CF "lengths") (n3 : NoAttr K CF "given") (m1 : NoAttr K CM "weights") (m2 : NoAttr K CM "parts") (m3 : NoAttr K CM "at") (m4 : NoAttr K CM "in_turn")
    (fI : ∃ f fd, Mk K CF f ∧ Fun K "__init__" "FeedSource.__init__" sFI f fd ∧ Binds K fd ["self", "name", "lengths"] []) (fH : ∃ f fd, MDef K CF "has_more" "FeedSource.has_more" sFH ["self"] f fd) (fT : ∃ f fd, MDef K CF "take" "FeedSource.take" sFT ["self"] f fd)
    (mI : ∃ f fd, Mk K CM f ∧ Fun K "__init__" "MixerSource.__init__" sMI f fd ∧ Binds K fd ["self", "weights", "parts"] []) (mH : ∃ f fd, MDef K CM "has_more" "MixerSource.has_more" sMH ["self"] f fd) (mT : ∃ f fd, MDef K CM "take" "MixerSource.take" sMT ["self"] f fd) (mG : ∃ f fd, MDef K CM "go_to_next_part" "MixerSource.go_to_next_part" sMG ["self"] f fd) :
    ∃ CF CM fFI fFH fFT fMI fMH fMT fMG dFI dFH dFT dMI dMH dMT dMG, SC K mg CF CM fFI fFH fFT fMI fMH fMT fMG dFI dFH dFT dMI dMH dMT dMG := by
  obtain ⟨_, _, q1, q2, q3⟩ := fI
  obtain ⟨_, _, q4⟩ := fH
  obtain ⟨_, _, q5⟩ := fT
  obtain ⟨_, _, q6, q7, q8⟩ := mI
  obtain ⟨_, _, q9⟩ := mH
  obtain ⟨_, _, q10⟩ := mT
  obtain ⟨_, _, q11⟩ := mG
  exact ⟨_, _, _, _, _, _, _, _, _, _, _, _, _, _, _, _, ⟨cF, n1, n2, n3, PySem.W.mg_of X G aF⟩, ⟨cM, m1, m2, m3, m4, PySem.W.mg_of X G aM⟩, q1, q2, q3, q4, q5, q6, q7, q8, q9, q10, q11⟩
end Mx
set_option Elab.async false
set_option maxRecDepth 100000
set_option linter.all false
/-! law_k01: together, fair and Mixer as the top has them -/
namespace Mx
open PySem PySem.Spec PyProof.Rows L2
section
variable {K : PySem.W.Frag} {h : Heap} {mg : Str → Option Value} {f C : Addr} {oc kV doc pm cdv ct : Value} {od an : Option Addr} {osl : Array (Option Value)}
theorem sfairK (kV doc pm : Value) (an : Option Addr) (cdv ct : Value) (us rest : List Value) (hl : us.length = ([] : List Str).length) : bindArgs (PySem.W.fnOf "fair" "fair" (defArgs s_fair) (defBody s_fair) (defScope s_fair) .none kV doc pm an cdv ct) ⟨us ++ rest, []⟩ = (newTuple rest >>= fun t => pure (([] : List Str).zip us ++ [(("names" : Str), t)])) :=
  match us, rest, hl with
  | [], [], _ => rfl
  | [], b :: r, _ => rfl
theorem stogK (kV doc pm : Value) (an : Option Addr) (cdv ct : Value) (us rest : List Value) (hl : us.length = ([] : List Str).length) : bindArgs (PySem.W.fnOf "together" "together" (defArgs s_together) (defBody s_together) (defScope s_together) .none kV doc pm an cdv ct) ⟨us ++ rest, []⟩ = (newTuple rest >>= fun t => pure (([] : List Str).zip us ++ [(("parts" : Str), t)])) :=
  match us, rest, hl with
  | [], [], _ => rfl
  | [], b :: r, _ => rfl
theorem fairK_mk (X : K.In h) (G : h.Ns mainGlobals mg) (a : PySem.W.nsIn K mainGlobals "fair" = some (some (.ref f))) (k : PySem.W.keepIn K (.ref f) = true) (l : K.lookup f = some ⟨oc, od, .func (PySem.W.fnOf "fair" "fair" (defArgs s_fair) (defBody s_fair) (defScope s_fair) .none kV doc pm an cdv ct), osl⟩) (c : PySem.W.codeIn K cdv "fair" = true) :
    ∃ f, mg "fair" = some (.ref f) ∧ PySem.W.keepIn K (.ref f) = true ∧ FunS K "fair" "fair" s_fair [] "names" f := ⟨f, PySem.W.mg_of X G a, k, ⟨_, _, _, _, _, _, _, _, _, _, l, c, fun us rest hl => sfairK _ _ _ _ _ _ us rest hl⟩⟩
theorem togK_mk (X : K.In h) (G : h.Ns mainGlobals mg) (a : PySem.W.nsIn K mainGlobals "together" = some (some (.ref f))) (k : PySem.W.keepIn K (.ref f) = true) (l : K.lookup f = some ⟨oc, od, .func (PySem.W.fnOf "together" "together" (defArgs s_together) (defBody s_together) (defScope s_together) .none kV doc pm an cdv ct), osl⟩) (c : PySem.W.codeIn K cdv "together" = true) :
    ∃ f, mg "together" = some (.ref f) ∧ PySem.W.keepIn K (.ref f) = true ∧ FunS K "together" "together" s_together [] "parts" f := ⟨f, PySem.W.mg_of X G a, k, ⟨_, _, _, _, _, _, _, _, _, _, l, c, fun us rest hl => stogK _ _ _ _ _ _ us rest hl⟩⟩
/-- Mixer, as far as it is made here -/
structure MixK (K : PySem.W.Frag) (mg : Str → Option Value) (CX : Addr) : Prop where
  X : XC K mg CX
  I : ∃ f fd, Mk K CX f ∧ Fun K "__init__" "Mixer.__init__" sXI f fd ∧ Binds K fd ["self", "tree"] []
theorem mixK_mk (X : K.In h) (G : h.Ns mainGlobals mg) (a : PySem.W.nsIn K mainGlobals "Mixer" = some (some (.ref C))) (c : Cls K C) (n1 : NoAttr K C "shape") (n2 : NoAttr K C "lengths") (n3 : NoAttr K C "source") (n4 : NoAttr K C "output") (n5 : NoAttr K C "earlier")
    (I : ∃ f fd, Mk K C f ∧ Fun K "__init__" "Mixer.__init__" sXI f fd ∧ Binds K fd ["self", "tree"] []) : ∃ C, MixK K mg C := ⟨C, ⟨c, n1, n2, n3, n4, n5, PySem.W.mg_of X G a⟩, I⟩
end
end Mx
set_option Elab.async false
set_option maxRecDepth 100000
set_option linter.all false
/-! the promises of trees.py's common defs -/
namespace Mx
open PySem PySem.Spec PyProof.Rows L2
structure TopT (K : PySem.W.Frag) (mg : Str → Option Value) : Prop where
  blt : Blt mg
  cst : Cst mg
  isTree : Has K mg "is_tree" sIsTree ["value"]
  isNum : Has K mg "is_number" s_is_number ["value"]
  isWhole : Has K mg "is_whole" sIsWhole ["value", "low", "high"]
  reqTree : Has K mg "require_tree" sReqTree ["value"]
  hasShape : Has K mg "has_shape" sHasShape ["value", "around"]
  isWP : Has K mg "is_weighted_part" sIsWP ["value", "around"]
  isName : Has K mg "is_feed_name" sIsName ["text"]
  namesIn : Has K mg "names_in" sNamesIn ["tree"]
structure LibT (P : Program) (w : World) (K : PySem.W.Frag) (mg : Str → Option Value) (base : Heap) : Prop where
  isWhole : Pr P w K mg base CX0 2 "is_whole" sIsWhole ["value", "low", "high"] (spWhole K)
  namesIn : Pr P w K mg base CX0 6 "names_in" sNamesIn ["tree"] (spNames K 4)
  isTree : Pr P w K mg base CX0 11 "is_tree" sIsTree ["value"] (spIsTree K)
  reqTree : Pr P w K mg base CX0 12 "require_tree" sReqTree ["value"] (spReqTree K)
theorem libT_of {P : Program} {w : World} {K : PySem.W.Frag} {mg : Str → Option Value} {base : Heap} (T : TopT K mg) : LibT P w K mg base := by
  have B := T.blt
  obtain ⟨f1, d1, D1⟩ := T.isTree
  obtain ⟨f3, d3, D3⟩ := T.isWhole
  obtain ⟨f33, d33, D33⟩ := T.isNum
  obtain ⟨f4, d4, D4⟩ := T.reqTree
  obtain ⟨f5, d5, D5⟩ := T.hasShape
  obtain ⟨f6, d6, D6⟩ := T.isWP
  obtain ⟨f7, d7, D7⟩ := T.isName
  obtain ⟨f8, d8, D8⟩ := T.namesIn
  have G3 := ok_whole (P := P) (w := w) (base := base) (mg := mg) D3.fn D33 (ok_num D33.fn B)
  have G7 := ok_isName (P := P) (w := w) (base := base) D7.fn B T.cst
  have G5 := ok_shape D5 B T.cst D7 G7 D6 D3 G3 4
  have G8 := ok_namesIn (P := P) (w := w) (base := base) D8 B 4
  have G1 := ok_isTree D1.fn B T.cst D5 G5 D8 G8
  exact ⟨⟨_, _, D3, G3⟩, ⟨_, _, D8, G8⟩, ⟨_, _, D1, G1⟩, ⟨_, _, D4, ok_reqTree D4.fn D1 G1⟩⟩
end Mx
set_option Elab.async false
set_option maxRecDepth 100000
set_option linter.all false
/-! feeds_of, require_lengths -/
namespace Mx
open PySem PySem.Spec PyProof.Rows L2
structure TopR (K : PySem.W.Frag) (mg : Str → Option Value) (CL : Addr) : Prop where
  feedsOf : Has K mg "feeds_of" sFeedsOf ["tree"]
  reqLen : Has K mg "require_lengths" sReqLen ["tree", "value"]
  c60 : ∃ t, mg "GREATEST_LENGTH" = some (.int 60 t)
  exL : ExcF K mg "InvalidLengths" CL
structure LibR (P : Program) (w : World) (K : PySem.W.Frag) (mg : Str → Option Value) (base : Heap) (CL : Addr) : Prop where
  feedsOf : Pr P w K mg base CX0 13 "feeds_of" sFeedsOf ["tree"] (spFeedsOf K)
  reqLen : Pr P w K mg base (L2N.CX P w) 14 "require_lengths" sReqLen ["tree", "value"] (spReqLen K CL)
theorem libR_of {P : Program} {w : World} {K : PySem.W.Frag} {mg : Str → Option Value} {base : Heap} {CL : Addr} (B : Blt mg) (L : LibT P w K mg base) (T : TopR K mg CL) : LibR P w K mg base CL := by
  obtain ⟨f2, d2, D2⟩ := T.feedsOf
  obtain ⟨f10, d10, D10⟩ := T.reqLen
  obtain ⟨_, _, D4, G4⟩ := L.reqTree
  obtain ⟨_, _, D8, G8⟩ := L.namesIn
  obtain ⟨_, _, D3, G3⟩ := L.isWhole
  have G2 := ok_feedsOf D2.fn D4 G4 D8 G8
  exact ⟨⟨_, _, D2, G2⟩, ⟨_, _, D10, ok_reqLenN D10.fn B T.c60 T.exL D2 G2 D3 G3⟩⟩
end Mx
set_option Elab.async false
set_option maxRecDepth 100000
set_option linter.all false
/-! .. mixed -/
namespace Mx
open PySem PySem.Spec PyProof.Rows L2
section
variable {K : PySem.W.Frag} {h : Heap} {mg : Str → Option Value} {x m qual : Str} {st : Stmt} {ps : List Str} {f C : Addr} {oc kV doc pm cdv ct : Value} {od an : Option Addr} {osl : Array (Option Value)}
theorem mixed_mk {D : Addr} (X : K.In h) (G : h.Ns mainGlobals mg) (a : PySem.W.nsIn K mainGlobals "mixed" = some (some (.ref f))) (l : K.lookup f = some ⟨oc, od, .func (PySem.W.fnOf "mixed" "mixed" (defArgs sMixed) (defBody sMixed) (defScope sMixed) .none (.ref D) doc pm an cdv ct), osl⟩)
    (c : PySem.W.codeIn K cdv "mixed" = true) (k : PySem.W.keepIn K (.ref f) = true) (n : PySem.W.nsIn K D "first" = some (some .none)) : ∃ f fd, FunM K f fd ∧ mg "mixed" = some (.ref f) ∧ PySem.W.keepIn K (.ref f) = true :=
  ⟨f, _, ⟨⟨_, _, _, _, _, _, _, _, _, _, rfl, l, c, .inl ⟨rfl, rfl⟩, .inr ⟨D, rfl, fun q hq => by rw [List.mem_singleton.mp hq]; exact ⟨_, n, rfl⟩⟩⟩, k⟩, PySem.W.mg_of X G a, k⟩
end
end Mx
set_option Elab.async false
set_option maxRecDepth 100000
set_option linter.all false
/-! law_k01: from the facts of the top to the promise -/
namespace Mx
open PySem PySem.Spec PyProof.Rows L2
set_option maxHeartbeats 1000000 in
theorem end01 {P : Program} {w : World} {K : PySem.W.Frag} {mg : Str → Option Value} {base : Heap} {f CX : Addr} {C : Nat → Addr} {fd : FuncData} (D : Def K mg "law" sLaw ["script"] f fd) (E : ErrAll K mg C) (T : TopT K mg) (R : TopR K mg (C 2)) (L : TopL K mg)
    (S : ∃ CF CM fFI fFH fFT fMI fMH fMT fMG dFI dFH dFT dMI dMH dMT dMG, SC K mg CF CM fFI fFH fFT fMI fMH fMT fMG dFI dFH dFT dMI dMH dMT dMG) (hM : ∃ f fd, FunM K f fd ∧ mg "mixed" = some (.ref f) ∧ PySem.W.keepIn K (.ref f) = true) (MX : MixK K mg CX)
    (FF : ∃ f, mg "fair" = some (.ref f) ∧ PySem.W.keepIn K (.ref f) = true ∧ FunS K "fair" "fair" s_fair [] "names" f) (FT : ∃ f, mg "together" = some (.ref f) ∧ PySem.W.keepIn K (.ref f) = true ∧ FunS K "together" "together" s_together [] "parts" f)
    (c60 : ∃ t, mg "MOST_SEEN" = some (.int 60 t))
    (d1 : Has K mg "plain" s_plain ["tree"]) (d2 : Has K mg "restricted" s_restricted ["tree", "names"]) (d3 : Has K mg "require_name" s_require_name ["tree", "value"]) (d4 : Has K mg "require_names" s_require_names ["tree", "value"]) (d5 : Has K mg "without_single_parts" s_without_single_parts ["tree"])
    (d6 : Has K mg "source_of" sSourceOf ["tree", "lengths"]) (d7 : Has K mg "place_of" s_place_of ["tree", "lengths", "item"]) (d8 : Has K mg "item_at" s_item_at ["tree", "lengths", "place"]) (d9 : Has K mg "counts_in" s_counts_in ["tree", "lengths", "many"])
    (d10 : Has K mg "period" s_period ["tree"]) (d11 : Has K mg "period_of" s_period_of ["tree"]) (d12 : Has K mg "common_divisor" s_common_divisor ["one", "other"]) (d13 : Has K mg "same_always" s_same_always ["one", "other"]) (d14 : Has K mg "difference" s_difference ["one", "other"])
    (d15 : Has K mg "lengths_for" s_lengths_for ["tree", "seen"]) (d16 : Has K mg "require_seen" s_require_seen ["allowed", "value"]) (d17 : Has K mg "_law_is_bool" s_law_is_bool ["actual", "expected"]) (d18 : Has K mg "_law_any_value" s_law_any_value ["source", "depth"]) (d19 : Has K mg "_law_variant" s_law_variant ["source", "value", "depth"])
    (d20 : Has K mg "_law_is_integer" s_law_is_integer ["value", "low", "high"]) (d21 : Has K mg "_law_error_name" sErrName ["e"]) (d22 : Has K mg "_law_is_part" s_law_is_part ["value", "levels"]) (d23 : Has K mg "_law_is_tree" s_law_is_tree ["value"]) (d24 : Has K mg "_law_outcome" sOutcome ["call", "value", "odd"])
    (d25 : Has K mg "_law_together" s_law_together ["pairs"]) (d26 : Has K mg "_law_fair" s_law_fair ["names"]) : FnOk P w K mg base CX0 40 f fd ["script"] (spLaw K) := by
  have B := T.blt
  have LT := libT_of (P := P) (w := w) (base := base) T
  have LR := libR_of B LT R
  have LL := libL_of (P := P) (w := w) (base := base) B L
  obtain ⟨_, _, DP, GP⟩ := LL.pick
  obtain ⟨_, _, DN, GN⟩ := LL.names
  obtain ⟨_, _, DT, GT⟩ := LT.reqTree
  obtain ⟨_, _, DNi, GNi⟩ := LT.namesIn
  obtain ⟨_, _, DW, GW⟩ := LT.isWhole
  obtain ⟨_, _, DFe, GFe⟩ := LR.feedsOf
  obtain ⟨_, _, DL, GL⟩ := LR.reqLen
  obtain ⟨_, _, D1⟩ := d1
  obtain ⟨_, _, D2⟩ := d2
  obtain ⟨_, _, D3⟩ := d3
  obtain ⟨_, _, D4⟩ := d4
  obtain ⟨_, _, D5⟩ := d5
  obtain ⟨_, _, D6⟩ := d6
  obtain ⟨_, _, D7⟩ := d7
  obtain ⟨_, _, D8⟩ := d8
  obtain ⟨_, _, D9⟩ := d9
  obtain ⟨_, _, D10⟩ := d10
  obtain ⟨_, _, D11⟩ := d11
  obtain ⟨_, _, D12⟩ := d12
  obtain ⟨_, _, D13⟩ := d13
  obtain ⟨_, _, D14⟩ := d14
  obtain ⟨_, _, D15⟩ := d15
  obtain ⟨_, _, D16⟩ := d16
  obtain ⟨_, _, D17⟩ := d17
  obtain ⟨_, _, D18⟩ := d18
  obtain ⟨_, _, D19⟩ := d19
  obtain ⟨_, _, D20⟩ := d20
  obtain ⟨_, _, D21⟩ := d21
  obtain ⟨_, _, D22⟩ := d22
  obtain ⟨_, _, D23⟩ := d23
  obtain ⟨_, _, D24⟩ := d24
  obtain ⟨_, _, D25⟩ := d25
  obtain ⟨_, _, D26⟩ := d26
  obtain ⟨_, _, Dit⟩ := T.isTree
  obtain ⟨_, _, Dhs⟩ := T.hasShape
  obtain ⟨_, _, Dwp⟩ := T.isWP
  obtain ⟨_, _, Dnm⟩ := T.isName
  obtain ⟨fM, dM, MM, mM, kM⟩ := hM
  obtain ⟨CF, CM, fFI, fFH, fFT, fMI, fMH, fMT, fMG, dFI, dFH, dFT, dMI, dMH, dMT, dMG, SS⟩ := S
  obtain ⟨fX, dX, MkX, fI, bX⟩ := MX.I
  obtain ⟨fF, mF, kF, FF⟩ := FF
  obtain ⟨fT, mT, kT, FT⟩ := FT
  have X0 := E.ex (x := "InvalidTree") (i := 0) (by decide) E.cs.g0
  have X1 := E.ex (x := "InvalidName") (i := 1) (by decide) E.cs.g1
  have X5 := E.ex (x := "InvalidSeen") (i := 5) (by decide) E.cs.g5
  have Gnm := ok_isName (P := P) (w := w) (base := base) Dnm.fn B T.cst
  have Gsh := ok_shapeD Dhs B T.cst Dnm Gnm Dwp DW GW 4
  have Git := ok_isTreeD Dit.fn B T.cst Dhs Gsh DNi GNi
  have GRD := ok_reqTreeD DT.fn X0 Dit Git
  have GTB := ok_TBad GRD
  have G5 := ok_single (P := P) (w := w) (base := base) D5 B 4
  have G1 := ok_plain D1.fn DT GT D5 G5
  have G12 := ok_gcd (P := P) (w := w) (mg := mg) (base := base) D12.fn
  have G11 := ok_perOf D11 B D12 G12 4
  have G10 := ok_period D10.fn DT GT D1 G1 D11 G11
  have G3 := ok_reqName D3.fn X1 DNi GNi
  have G4 := ok_reqNames D4.fn B X1 D3 G3
  have GSn := ok_or (ok_reqSeen (P := P) (w := w) (base := base) D16.fn B c60 X5) (ok_SBad (P := P) (w := w) (base := base) D16.fn B c60 X5)
  have GSo := ok_SO (P := P) (w := w) (base := base) D6 SS B 4
  have P1 := ok_plain_E1 D1.fn DT GTB
  have F : Fs01 P w K mg base C := {
    feeds_of := ⟨_, _, DFe, ok_U (n := 0) (ok_feeds_of_E1 DFe.fn DT GTB) (by decide) (ok_toN GFe) (by decide) fun vs H Q E h => by
      obtain ⟨v, t, rfl, hT, hV, g, _⟩ := h
      exact ⟨v, t, rfl, hT, hV, fun p H' S _ _ => g _ H' S⟩⟩
    plain := ⟨_, _, D1, ok_U (n := 0) P1 (by decide) (ok_toN G1) (by decide) fun vs H Q E h => by
      obtain ⟨v, t, rfl, hT, hV, g, _⟩ := h
      exact ⟨v, t, rfl, hT, hV, fun v' H' S _ => g _ H' S⟩⟩
    period := ⟨_, _, D10, ok_U (n := 0) (ok_period_E1 D10.fn DT GTB) (by decide) (ok_toN G10) (by decide) fun vs H Q E h => by
      obtain ⟨v, t, rfl, hT, hV, g, _⟩ := h
      exact ⟨v, t, rfl, hT, hV, fun H' S => g _ H' S⟩⟩
    restricted := ⟨_, _, D2, ok_U (n := 1) (ok_restricted_E1 D2.fn DT GTB) (by decide) (ok_restr_N2 D2.fn DT GT D4 G4) (by decide) fun vs H Q E h => by
      obtain ⟨v, t, rfl, hT, hV, _, g⟩ := h
      exact ⟨v, [], t, rfl, rfl, hT, hV, fun H' S => g 1 (by decide) H' S⟩⟩
    mixed := ⟨_, _, MM, mM, kM, ok_U (n := 2) (ok_mixed_E1 MM DT GTB) (by decide) (ok_mixed_N2 MM DT GT DL GL) (by decide) fun vs H Q E h => by
      obtain ⟨v, t, rfl, hT, hV, _, g⟩ := h
      exact ⟨v, [.non], t, rfl, rfl, hT, hV, fun H' S => g 2 (by decide) H' S⟩⟩
    same_always := ⟨_, _, D13, ok_U (n := 1) (ok_same_E1 D13.fn D1 P1) (by decide) (ok_same_T2 D13.fn D1 G1 P1) (by decide) fun vs H Q E h => by
      obtain ⟨v, t, rfl, hT, hV, _, g⟩ := h
      exact ⟨v, .non, t, .none, rfl, hT, hV, .non, .non, no_none, fun H' S => g 0 (by decide) H' S⟩⟩
    difference := ⟨_, _, D14, ok_U (n := 1) (ok_difference_E1 D14.fn DT GTB) (by decide) (ok_difference_T2 D14.fn DT GT GTB) (by decide) fun vs H Q E h => by
      obtain ⟨v, t, rfl, hT, hV, _, g⟩ := h
      exact ⟨v, .non, t, .none, rfl, hT, hV, .non, .non, no_none, fun H' S => g 0 (by decide) H' S⟩⟩
    lengths_for := ⟨_, _, D15, ok_U (n := 1) (ok_lengths_for_E1 D15.fn DT GTB) (by decide) (ok_lengths_for_S2 D15.fn DT GT DNi GNi D16 GSn) (by decide) fun vs H Q E h => by
      obtain ⟨v, t, rfl, hT, hV, _, g⟩ := h
      exact ⟨v, .non, t, rfl, hT, hV, .non, fun H' S => g 5 (by decide) H' S⟩⟩
    place_of := ⟨_, _, D7, ok_U (n := 2) (ok_place_of_E1 D7.fn DT GTB) (by decide) (ok_place_of_N2 D7.fn DT GT DL GL) (by decide) fun vs H Q E h => by
      obtain ⟨v, t, rfl, hT, hV, _, g⟩ := h
      exact ⟨v, [.non], t, rfl, rfl, hT, hV, fun H' S => g 2 (by decide) H' S⟩⟩
    item_at := ⟨_, _, D8, ok_U (n := 2) (ok_item_at_E1 D8.fn DT GTB) (by decide) (ok_item_at_N2 D8.fn DT GT DL GL) (by decide) fun vs H Q E h => by
      obtain ⟨v, t, rfl, hT, hV, _, g⟩ := h
      exact ⟨v, [.non], t, rfl, rfl, hT, hV, fun H' S => g 2 (by decide) H' S⟩⟩
    counts_in := ⟨_, _, D9, ok_U (n := 2) (ok_counts_in_E1 D9.fn DT GTB) (by decide) (ok_counts_in_N2 D9.fn DT GT DL GL) (by decide) fun vs H Q E h => by
      obtain ⟨v, t, rfl, hT, hV, _, g⟩ := h
      exact ⟨v, [.non], t, rfl, rfl, hT, hV, fun H' S => g 2 (by decide) H' S⟩⟩
    mixer := ⟨CX, _, _, MkX, MX.X.mg, bX, ok_UM (ok_XIE fI DT GTB) (ok_XI fI MX.X DT GT DNi GNi D6 GSo)⟩ }
  have G20 := ok_isInt (P := P) (w := w) (mg := mg) (base := base) D20.fn B
  have G22 := ok_lpart D22 B D20 G20 4
  have G23 := ok_ltree D23.fn B D22 G22 DN GN
  have GTg := ok_tog FT DT GRD
  have GFr := ok_frE FF B X0 DT GRD
  exact ok_law01 D.fn B LL ⟨_, _, D18, ok_anyV D18 B DP GP 4⟩ ⟨_, _, D19, ok_var D19 B DP GP D18 (ok_anyV D18 B DP GP 2) 2⟩ ⟨_, _, D23, G23⟩ ⟨_, _, D17, ok_isBool D17.fn B⟩ ⟨_, _, Dit, Git⟩ ⟨_, _, DFe, GFe⟩ ⟨_, _, D24, ok_outc01 D24.fn B E D21 F⟩
    ⟨_, _, D25, ok_lTog D25.fn B E D21 mT kT GTg⟩ ⟨_, _, D26, ok_lFair D26.fn B E D21 mF kF GFr⟩ mF kF GFr
where
  no_none : ¬ ∃ t : Tr, t.data = .none ∧ TreeV t := by
    rintro ⟨t, e, _⟩
    cases t with
    | feed s => rw [Tr.data] at e; cases e
    | mix ps => rw [Tr.data] at e; cases e
end Mx
set_option Elab.async false
set_option maxRecDepth 100000
open PySem PySem.W PyProof.Rows in
set_option maxRecDepth 100000 in
set_option maxHeartbeats 0 in
theorem PySem.Challenge.cw_mixtrees_k01_trees_holds : PySem.Challenge.rw_mixtrees_k01_trees.Holds := by
  w_on; o_law; k_head; (case hw => w_witness2)
  k_fill
  refine L2.walk_of (l := PySem.Challenge.rw_mixtrees_k01_trees) (n := 63) (k := 40) (x := "script") (CX := fun _ => L2.CX0) (sp := fun w vs H Q _ => ∃ (a : Addr) (ns : List Int), vs = [.ref a] ∧ L2.SqL _ H a (ns.map L2.V.int) ∧ ns.length ≤ 63 ∧ ∀ H', Q (.bl true) H') rfl (by decide) rfl ⟨rfl, by decide, by decide⟩ (fun w h Y => PySem.W.kIn_of Y) ?F (fun _ _ a ns hl _ hS => ⟨a, ns, rfl, hS, hl, fun _ => rfl⟩) fun _ _ _ _ _ z => z
  case F =>
    intro w mg fa h KX G hmg
    have BL : Mx.Blt mg := ⟨PySem.W.mg_none_of KX G (by k_is), PySem.W.mg_none_of KX G (by k_is), PySem.W.mg_none_of KX G (by k_is), PySem.W.mg_none_of KX G (by k_is), PySem.W.mg_none_of KX G (by k_is), PySem.W.mg_none_of KX G (by k_is), PySem.W.mg_none_of KX G (by k_is), PySem.W.mg_none_of KX G (by k_is), PySem.W.mg_none_of KX G (by k_is), PySem.W.mg_none_of KX G (by k_is), PySem.W.mg_none_of KX G (by k_is), PySem.W.mg_none_of KX G (by k_is), PySem.W.mg_none_of KX G (by k_is), PySem.W.mg_none_of KX G (by k_is), PySem.W.mg_none_of KX G (by k_is), PySem.W.mg_none_of KX G (by k_is), PySem.W.mg_none_of KX G (by k_is), PySem.W.mg_none_of KX G (by k_is)⟩
    have CST : Mx.Cst mg := ⟨Mx.cst_mk KX G (by k_is), Mx.cst_mk KX G (by k_is), Mx.cst_mk KX G (by k_is), Mx.cst_mk KX G (by k_is), Mx.cst_mk KX G (by k_is)⟩
    have E := Mx.err_mk KX G (by k_is) (by k_is) (by k_is) (by k_is) (by k_is) (by k_is) (by k_is) (by k_is) (by k_is) (by k_is) (by k_is) (by k_is) ⟨by k_exc, by k_is, by k_is, by k_is⟩ ⟨by k_exc, by k_is, by k_is, by k_is⟩ ⟨by k_exc, by k_is, by k_is, by k_is⟩ ⟨by k_exc, by k_is, by k_is, by k_is⟩ ⟨by k_exc, by k_is, by k_is, by k_is⟩ ⟨by k_exc, by k_is, by k_is, by k_is⟩ ⟨by k_exc, by k_is, by k_is, by k_is⟩ ⟨by k_exc, by k_is, by k_is, by k_is⟩ ⟨by k_exc, by k_is, by k_is, by k_is⟩ ⟨by k_exc, by k_is, by k_is, by k_is⟩ ⟨by k_exc, by k_is, by k_is, by k_is⟩ ⟨by k_is, by k_is, by k_is, by k_is, by k_is, by k_is, by k_is, by k_is⟩ ⟨by k_is, by k_is, by k_is, by k_is, by k_is, by k_is, by k_is, by k_is⟩ ⟨by k_is, by k_is, by k_is, by k_is, by k_is, by k_is, by k_is, by k_is⟩ ⟨by k_is, by k_is, by k_is, by k_is, by k_is, by k_is, by k_is, by k_is⟩ ⟨by k_is, by k_is, by k_is, by k_is, by k_is, by k_is, by k_is, by k_is⟩ ⟨by k_is, by k_is, by k_is, by k_is, by k_is, by k_is, by k_is, by k_is⟩ ⟨by k_is, by k_is, by k_is, by k_is, by k_is, by k_is, by k_is, by k_is⟩ ⟨by k_is, by k_is, by k_is, by k_is, by k_is, by k_is, by k_is, by k_is⟩ ⟨by k_is, by k_is, by k_is, by k_is, by k_is, by k_is, by k_is, by k_is⟩ ⟨by k_is, by k_is, by k_is, by k_is, by k_is, by k_is, by k_is, by k_is⟩ ⟨by k_is, by k_is, by k_is, by k_is, by k_is, by k_is, by k_is, by k_is⟩ (by kernel_rfl)
    have S := Mx.src_mk KX G (by k_is) (by k_is) ⟨by k_is, by k_is, by k_is, by k_is⟩ ⟨by k_is, by k_is, by k_is, by k_is⟩ (by unfold L2.NoAttr; k_is) (by unfold L2.NoAttr; k_is) (by unfold L2.NoAttr; k_is) (by unfold L2.NoAttr; k_is) (by unfold L2.NoAttr; k_is) (by unfold L2.NoAttr; k_is) (by unfold L2.NoAttr; k_is) (Mx.init_mk (fun _ _ _ _ _ _ us hl => match us, hl with | [_, _, _], _ => rfl) (by k_is) (by k_is) (by k_is) (by k_is) (by k_is) (by k_is) (by k_is)) (Mx.mdef_mk (fun _ _ _ _ _ _ us hl => match us, hl with | [_], _ => rfl) (by k_is) (by k_is) (by k_is) (by k_is) (by k_is)) (Mx.mdef_mk (fun _ _ _ _ _ _ us hl => match us, hl with | [_], _ => rfl) (by k_is) (by k_is) (by k_is) (by k_is) (by k_is)) (Mx.init_mk (fun _ _ _ _ _ _ us hl => match us, hl with | [_, _, _], _ => rfl) (by k_is) (by k_is) (by k_is) (by k_is) (by k_is) (by k_is) (by k_is)) (Mx.mdef_mk (fun _ _ _ _ _ _ us hl => match us, hl with | [_], _ => rfl) (by k_is) (by k_is) (by k_is) (by k_is) (by k_is)) (Mx.mdef_mk (fun _ _ _ _ _ _ us hl => match us, hl with | [_], _ => rfl) (by k_is) (by k_is) (by k_is) (by k_is) (by k_is)) (Mx.mdef_mk (fun _ _ _ _ _ _ us hl => match us, hl with | [_], _ => rfl) (by k_is) (by k_is) (by k_is) (by k_is) (by k_is))
    have MX := Mx.mixK_mk KX G (by k_is) ⟨by k_is, by k_is, by k_is, by k_is⟩ (by unfold L2.NoAttr; k_is) (by unfold L2.NoAttr; k_is) (by unfold L2.NoAttr; k_is) (by unfold L2.NoAttr; k_is) (by unfold L2.NoAttr; k_is) (Mx.init_mk (fun _ _ _ _ _ _ us hl => match us, hl with | [_, _], _ => rfl) (by k_is) (by k_is) (by k_is) (by k_is) (by k_is) (by k_is) (by k_is))
    have FF := Mx.fairK_mk KX G (by k_is) (by k_is) (by k_is) (by k_is)
    have FT := Mx.togK_mk KX G (by k_is) (by k_is) (by k_is) (by k_is)
    have D_wall : Mx.Has _ mg "_wall" Mx.s_wall ["k"] := Mx.def_mk KX G (fun _ _ _ _ _ _ us hl => match us, hl with | [_], _ => rfl) (by k_is) (by k_is) (by k_is) (by k_is)
    have D_is_tree : Mx.Has _ mg "is_tree" Mx.sIsTree ["value"] := Mx.def_mk KX G (fun _ _ _ _ _ _ us hl => match us, hl with | [_], _ => rfl) (by k_is) (by k_is) (by k_is) (by k_is)
    have D_feeds_of : Mx.Has _ mg "feeds_of" Mx.sFeedsOf ["tree"] := Mx.def_mk KX G (fun _ _ _ _ _ _ us hl => match us, hl with | [_], _ => rfl) (by k_is) (by k_is) (by k_is) (by k_is)
    have D_plain : Mx.Has _ mg "plain" Mx.s_plain ["tree"] := Mx.def_mk KX G (fun _ _ _ _ _ _ us hl => match us, hl with | [_], _ => rfl) (by k_is) (by k_is) (by k_is) (by k_is)
    have D_restricted : Mx.Has _ mg "restricted" Mx.s_restricted ["tree", "names"] := Mx.def_mk KX G (fun _ _ _ _ _ _ us hl => match us, hl with | [_, _], _ => rfl) (by k_is) (by k_is) (by k_is) (by k_is)
    have D_is_number : Mx.Has _ mg "is_number" Mx.s_is_number ["value"] := Mx.def_mk KX G (fun _ _ _ _ _ _ us hl => match us, hl with | [_], _ => rfl) (by k_is) (by k_is) (by k_is) (by k_is)
    have D_is_whole : Mx.Has _ mg "is_whole" Mx.sIsWhole ["value", "low", "high"] := Mx.def_mk KX G (fun _ _ _ _ _ _ us hl => match us, hl with | [_, _, _], _ => rfl) (by k_is) (by k_is) (by k_is) (by k_is)
    have D_require_tree : Mx.Has _ mg "require_tree" Mx.sReqTree ["value"] := Mx.def_mk KX G (fun _ _ _ _ _ _ us hl => match us, hl with | [_], _ => rfl) (by k_is) (by k_is) (by k_is) (by k_is)
    have D_require_name : Mx.Has _ mg "require_name" Mx.s_require_name ["tree", "value"] := Mx.def_mk KX G (fun _ _ _ _ _ _ us hl => match us, hl with | [_, _], _ => rfl) (by k_is) (by k_is) (by k_is) (by k_is)
    have D_require_names : Mx.Has _ mg "require_names" Mx.s_require_names ["tree", "value"] := Mx.def_mk KX G (fun _ _ _ _ _ _ us hl => match us, hl with | [_, _], _ => rfl) (by k_is) (by k_is) (by k_is) (by k_is)
    have D_has_shape : Mx.Has _ mg "has_shape" Mx.sHasShape ["value", "around"] := Mx.def_mk KX G (fun _ _ _ _ _ _ us hl => match us, hl with | [_, _], _ => rfl) (by k_is) (by k_is) (by k_is) (by k_is)
    have D_is_weighted_part : Mx.Has _ mg "is_weighted_part" Mx.sIsWP ["value", "around"] := Mx.def_mk KX G (fun _ _ _ _ _ _ us hl => match us, hl with | [_, _], _ => rfl) (by k_is) (by k_is) (by k_is) (by k_is)
    have D_is_feed_name : Mx.Has _ mg "is_feed_name" Mx.sIsName ["text"] := Mx.def_mk KX G (fun _ _ _ _ _ _ us hl => match us, hl with | [_], _ => rfl) (by k_is) (by k_is) (by k_is) (by k_is)
    have D_names_in : Mx.Has _ mg "names_in" Mx.sNamesIn ["tree"] := Mx.def_mk KX G (fun _ _ _ _ _ _ us hl => match us, hl with | [_], _ => rfl) (by k_is) (by k_is) (by k_is) (by k_is)
    have D_without_single_parts : Mx.Has _ mg "without_single_parts" Mx.s_without_single_parts ["tree"] := Mx.def_mk KX G (fun _ _ _ _ _ _ us hl => match us, hl with | [_], _ => rfl) (by k_is) (by k_is) (by k_is) (by k_is)
    have D_without_other_feeds : Mx.Has _ mg "without_other_feeds" Mx.s_without_other_feeds ["tree", "names"] := Mx.def_mk KX G (fun _ _ _ _ _ _ us hl => match us, hl with | [_, _], _ => rfl) (by k_is) (by k_is) (by k_is) (by k_is)
    have C_GREATEST_LENGTH : ∃ t, mg "GREATEST_LENGTH" = some (.int 60 t) := Mx.cst_mk KX G (by k_is)
    have C_GREATEST_FIRST : ∃ t, mg "GREATEST_FIRST" = some (.int 480 t) := Mx.cst_mk KX G (by k_is)
    have M := Mx.mixed_mk KX G (by k_is) (by k_is) (by k_is) (by k_is) (by k_is)
    have D_walk : Mx.Has _ mg "walk" Mx.sWalk ["tree", "lengths"] := Mx.def_mk KX G (fun _ _ _ _ _ _ us hl => match us, hl with | [_, _], _ => rfl) (by k_is) (by k_is) (by k_is) (by k_is)
    have D_require_lengths : Mx.Has _ mg "require_lengths" Mx.sReqLen ["tree", "value"] := Mx.def_mk KX G (fun _ _ _ _ _ _ us hl => match us, hl with | [_, _], _ => rfl) (by k_is) (by k_is) (by k_is) (by k_is)
    have D_first_names : Mx.Has _ mg "first_names" Mx.s_first_names ["tree", "lengths", "many"] := Mx.def_mk KX G (fun _ _ _ _ _ _ us hl => match us, hl with | [_, _, _], _ => rfl) (by k_is) (by k_is) (by k_is) (by k_is)
    have D_source_of : Mx.Has _ mg "source_of" Mx.sSourceOf ["tree", "lengths"] := Mx.def_mk KX G (fun _ _ _ _ _ _ us hl => match us, hl with | [_, _], _ => rfl) (by k_is) (by k_is) (by k_is) (by k_is)
    have D_place_of : Mx.Has _ mg "place_of" Mx.s_place_of ["tree", "lengths", "item"] := Mx.def_mk KX G (fun _ _ _ _ _ _ us hl => match us, hl with | [_, _, _], _ => rfl) (by k_is) (by k_is) (by k_is) (by k_is)
    have D_item_at : Mx.Has _ mg "item_at" Mx.s_item_at ["tree", "lengths", "place"] := Mx.def_mk KX G (fun _ _ _ _ _ _ us hl => match us, hl with | [_, _, _], _ => rfl) (by k_is) (by k_is) (by k_is) (by k_is)
    have D_counts_in : Mx.Has _ mg "counts_in" Mx.s_counts_in ["tree", "lengths", "many"] := Mx.def_mk KX G (fun _ _ _ _ _ _ us hl => match us, hl with | [_, _, _], _ => rfl) (by k_is) (by k_is) (by k_is) (by k_is)
    have D_require_item : Mx.Has _ mg "require_item" Mx.s_require_item ["tree", "lengths", "value"] := Mx.def_mk KX G (fun _ _ _ _ _ _ us hl => match us, hl with | [_, _, _], _ => rfl) (by k_is) (by k_is) (by k_is) (by k_is)
    have D_lengths_by_name : Mx.Has _ mg "lengths_by_name" Mx.s_lengths_by_name ["tree", "lengths"] := Mx.def_mk KX G (fun _ _ _ _ _ _ us hl => match us, hl with | [_, _], _ => rfl) (by k_is) (by k_is) (by k_is) (by k_is)
    have D_part_with : Mx.Has _ mg "part_with" Mx.s_part_with ["mixer", "name"] := Mx.def_mk KX G (fun _ _ _ _ _ _ us hl => match us, hl with | [_, _], _ => rfl) (by k_is) (by k_is) (by k_is) (by k_is)
    have D_total_in : Mx.Has _ mg "total_in" Mx.s_total_in ["tree", "lengths"] := Mx.def_mk KX G (fun _ _ _ _ _ _ us hl => match us, hl with | [_, _], _ => rfl) (by k_is) (by k_is) (by k_is) (by k_is)
    have D_place_in : Mx.Has _ mg "place_in" Mx.s_place_in ["tree", "lengths", "name", "index"] := Mx.def_mk KX G (fun _ _ _ _ _ _ us hl => match us, hl with | [_, _, _, _], _ => rfl) (by k_is) (by k_is) (by k_is) (by k_is)
    have D_turns_of : Mx.Has _ mg "turns_of" Mx.s_turns_of ["parts", "lengths"] := Mx.def_mk KX G (fun _ _ _ _ _ _ us hl => match us, hl with | [_, _], _ => rfl) (by k_is) (by k_is) (by k_is) (by k_is)
    have D_taken_in_rounds : Mx.Has _ mg "taken_in_rounds" Mx.s_taken_in_rounds ["turns", "rounds"] := Mx.def_mk KX G (fun _ _ _ _ _ _ us hl => match us, hl with | [_, _], _ => rfl) (by k_is) (by k_is) (by k_is) (by k_is)
    have D_counts_of_feeds : Mx.Has _ mg "counts_of_feeds" Mx.s_counts_of_feeds ["tree", "lengths", "many"] := Mx.def_mk KX G (fun _ _ _ _ _ _ us hl => match us, hl with | [_, _, _], _ => rfl) (by k_is) (by k_is) (by k_is) (by k_is)
    have D_counts_of_parts : Mx.Has _ mg "counts_of_parts" Mx.s_counts_of_parts ["turns", "many"] := Mx.def_mk KX G (fun _ _ _ _ _ _ us hl => match us, hl with | [_, _], _ => rfl) (by k_is) (by k_is) (by k_is) (by k_is)
    have D_whole_rounds : Mx.Has _ mg "whole_rounds" Mx.s_whole_rounds ["turns", "many"] := Mx.def_mk KX G (fun _ _ _ _ _ _ us hl => match us, hl with | [_, _], _ => rfl) (by k_is) (by k_is) (by k_is) (by k_is)
    have D_period : Mx.Has _ mg "period" Mx.s_period ["tree"] := Mx.def_mk KX G (fun _ _ _ _ _ _ us hl => match us, hl with | [_], _ => rfl) (by k_is) (by k_is) (by k_is) (by k_is)
    have D_period_of : Mx.Has _ mg "period_of" Mx.s_period_of ["tree"] := Mx.def_mk KX G (fun _ _ _ _ _ _ us hl => match us, hl with | [_], _ => rfl) (by k_is) (by k_is) (by k_is) (by k_is)
    have D_common_divisor : Mx.Has _ mg "common_divisor" Mx.s_common_divisor ["one", "other"] := Mx.def_mk KX G (fun _ _ _ _ _ _ us hl => match us, hl with | [_, _], _ => rfl) (by k_is) (by k_is) (by k_is) (by k_is)
    have C_ITEMS_TO_COMPARE : ∃ t, mg "ITEMS_TO_COMPARE" = some (.int 10 t) := Mx.cst_mk KX G (by k_is)
    have D_same_always : Mx.Has _ mg "same_always" Mx.s_same_always ["one", "other"] := Mx.def_mk KX G (fun _ _ _ _ _ _ us hl => match us, hl with | [_, _], _ => rfl) (by k_is) (by k_is) (by k_is) (by k_is)
    have D_difference : Mx.Has _ mg "difference" Mx.s_difference ["one", "other"] := Mx.def_mk KX G (fun _ _ _ _ _ _ us hl => match us, hl with | [_, _], _ => rfl) (by k_is) (by k_is) (by k_is) (by k_is)
    have D_choices : Mx.Has _ mg "choices" Mx.s_choices ["names", "many"] := Mx.def_mk KX G (fun _ _ _ _ _ _ us hl => match us, hl with | [_, _], _ => rfl) (by k_is) (by k_is) (by k_is) (by k_is)
    have D_lengths_with : Mx.Has _ mg "lengths_with" Mx.s_lengths_with ["tree", "chosen"] := Mx.def_mk KX G (fun _ _ _ _ _ _ us hl => match us, hl with | [_, _], _ => rfl) (by k_is) (by k_is) (by k_is) (by k_is)
    have C_MOST_SEEN : ∃ t, mg "MOST_SEEN" = some (.int 60 t) := Mx.cst_mk KX G (by k_is)
    have D_lengths_for : Mx.Has _ mg "lengths_for" Mx.s_lengths_for ["tree", "seen"] := Mx.def_mk KX G (fun _ _ _ _ _ _ us hl => match us, hl with | [_, _], _ => rfl) (by k_is) (by k_is) (by k_is) (by k_is)
    have D_require_seen : Mx.Has _ mg "require_seen" Mx.s_require_seen ["allowed", "value"] := Mx.def_mk KX G (fun _ _ _ _ _ _ us hl => match us, hl with | [_, _], _ => rfl) (by k_is) (by k_is) (by k_is) (by k_is)
    have D_times_seen : Mx.Has _ mg "times_seen" Mx.s_times_seen ["names", "seen"] := Mx.def_mk KX G (fun _ _ _ _ _ _ us hl => match us, hl with | [_, _], _ => rfl) (by k_is) (by k_is) (by k_is) (by k_is)
    have D_begins_with : Mx.Has _ mg "begins_with" Mx.s_begins_with ["tree", "lengths", "seen"] := Mx.def_mk KX G (fun _ _ _ _ _ _ us hl => match us, hl with | [_, _, _], _ => rfl) (by k_is) (by k_is) (by k_is) (by k_is)
    have D_agrees : Mx.Has _ mg "agrees" Mx.s_agrees ["row", "seen"] := Mx.def_mk KX G (fun _ _ _ _ _ _ us hl => match us, hl with | [_, _], _ => rfl) (by k_is) (by k_is) (by k_is) (by k_is)
    have D_law_source : Mx.Has _ mg "_law_source" Mx.sLSource ["script", "k"] := Mx.def_mk KX G (fun _ _ _ _ _ _ us hl => match us, hl with | [_, _], _ => rfl) (by k_is) (by k_is) (by k_is) (by k_is)
    have D_law_pick : Mx.Has _ mg "_law_pick" Mx.sPick ["source", "size"] := Mx.def_mk KX G (fun _ _ _ _ _ _ us hl => match us, hl with | [_, _], _ => rfl) (by k_is) (by k_is) (by k_is) (by k_is)
    have D_law_is_bool : Mx.Has _ mg "_law_is_bool" Mx.s_law_is_bool ["actual", "expected"] := Mx.def_mk KX G (fun _ _ _ _ _ _ us hl => match us, hl with | [_, _], _ => rfl) (by k_is) (by k_is) (by k_is) (by k_is)
    have D_law_any_value : Mx.Has _ mg "_law_any_value" Mx.s_law_any_value ["source", "depth"] := Mx.def_mk KX G (fun _ _ _ _ _ _ us hl => match us, hl with | [_, _], _ => rfl) (by k_is) (by k_is) (by k_is) (by k_is)
    have D_law_variant : Mx.Has _ mg "_law_variant" Mx.s_law_variant ["source", "value", "depth"] := Mx.def_mk KX G (fun _ _ _ _ _ _ us hl => match us, hl with | [_, _, _], _ => rfl) (by k_is) (by k_is) (by k_is) (by k_is)
    have D_law_is_integer : Mx.Has _ mg "_law_is_integer" Mx.s_law_is_integer ["value", "low", "high"] := Mx.def_mk KX G (fun _ _ _ _ _ _ us hl => match us, hl with | [_, _, _], _ => rfl) (by k_is) (by k_is) (by k_is) (by k_is)
    have D_law_error_name : Mx.Has _ mg "_law_error_name" Mx.sErrName ["e"] := Mx.def_mk KX G (fun _ _ _ _ _ _ us hl => match us, hl with | [_], _ => rfl) (by k_is) (by k_is) (by k_is) (by k_is)
    have D_law_part : Mx.Has _ mg "_law_part" Mx.sPart ["source", "names", "levels", "top"] := Mx.def_mk KX G (fun _ _ _ _ _ _ us hl => match us, hl with | [_, _, _, _], _ => rfl) (by k_is) (by k_is) (by k_is) (by k_is)
    have D_law_mixed_names : Mx.Has _ mg "_law_mixed_names" Mx.sMixNames ["source", "most"] := Mx.def_mk KX G (fun _ _ _ _ _ _ us hl => match us, hl with | [_, _], _ => rfl) (by k_is) (by k_is) (by k_is) (by k_is)
    have D_law_tree : Mx.Has _ mg "_law_tree" Mx.sTree ["source", "most", "top"] := Mx.def_mk KX G (fun _ _ _ _ _ _ us hl => match us, hl with | [_, _, _], _ => rfl) (by k_is) (by k_is) (by k_is) (by k_is)
    have D_law_names : Mx.Has _ mg "_law_names" Mx.sLNames ["tree"] := Mx.def_mk KX G (fun _ _ _ _ _ _ us hl => match us, hl with | [_], _ => rfl) (by k_is) (by k_is) (by k_is) (by k_is)
    have D_law_is_part : Mx.Has _ mg "_law_is_part" Mx.s_law_is_part ["value", "levels"] := Mx.def_mk KX G (fun _ _ _ _ _ _ us hl => match us, hl with | [_, _], _ => rfl) (by k_is) (by k_is) (by k_is) (by k_is)
    have D_law_is_tree : Mx.Has _ mg "_law_is_tree" Mx.s_law_is_tree ["value"] := Mx.def_mk KX G (fun _ _ _ _ _ _ us hl => match us, hl with | [_], _ => rfl) (by k_is) (by k_is) (by k_is) (by k_is)
    have D_law_outcome : Mx.Has _ mg "_law_outcome" Mx.sOutcome ["call", "value", "odd"] := Mx.def_mk KX G (fun _ _ _ _ _ _ us hl => match us, hl with | [_, _, _], _ => rfl) (by k_is) (by k_is) (by k_is) (by k_is)
    have D_law_together : Mx.Has _ mg "_law_together" Mx.s_law_together ["pairs"] := Mx.def_mk KX G (fun _ _ _ _ _ _ us hl => match us, hl with | [_], _ => rfl) (by k_is) (by k_is) (by k_is) (by k_is)
    have D_law_fair : Mx.Has _ mg "_law_fair" Mx.s_law_fair ["names"] := Mx.def_mk KX G (fun _ _ _ _ _ _ us hl => match us, hl with | [_], _ => rfl) (by k_is) (by k_is) (by k_is) (by k_is)
    have D_law : Mx.Has _ mg "law" Mx.sLaw ["script"] := Mx.def_mk KX G (fun _ _ _ _ _ _ us hl => match us, hl with | [_], _ => rfl) (by k_is) (by k_is) (by k_is) (by k_is)
    obtain ⟨CX, MX⟩ := MX
    exact Mx.law_end hmg D_law (fun base f fd D => Mx.end01 D E ⟨BL, CST, D_is_tree, D_is_number, D_is_whole, D_require_tree, D_has_shape, D_is_weighted_part, D_is_feed_name, D_names_in⟩ ⟨D_feeds_of, D_require_lengths, C_GREATEST_LENGTH, E.ex (by decide) E.cs.g2⟩
      ⟨D_law_source, D_law_pick, D_law_part, D_law_mixed_names, D_law_tree, D_law_names⟩ S M MX FF FT C_MOST_SEEN
      D_plain D_restricted D_require_name D_require_names D_without_single_parts D_source_of D_place_of D_item_at D_counts_in D_period D_period_of D_common_divisor D_same_always D_difference D_lengths_for D_require_seen
      D_law_is_bool D_law_any_value D_law_variant D_law_is_integer D_law_error_name D_law_is_part D_law_is_tree D_law_outcome D_law_together D_law_fair)
