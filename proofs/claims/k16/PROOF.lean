import PyProof.Rows.All
import Wide.All
import OpenK.AllK
import Wide.FinOn
import HandS.ForMost
import HandS.Exc
import HandS.TryOnly
import HandS.ExcOwn
import HandS.WordsExc
import HandS.IsInst
import HandS.Wide
import HandS.WideBits
import HandS.Flow
import HandS.GenList
import HandS.Defaults
import HandS.HotCalls
import HandS.ExcIs
import HandS.TupAny
import HandS.Zip
import HandS.SetKeys
import HandS.Conv
import HandS.EndBits
import HandS.Walk
import KE.KDictZip
import KE.GoesEnum
import HandS.SuiteRaise
import HandS.Hot
import HandS.Deep
import HandS.TupLe
import HandS.More
import PySem.Challenge.RW_mixtrees_k16_whole_pushes
set_option Elab.async false
set_option maxRecDepth 100000
namespace Mx
open PySem L2
def top (i : Nat) : Stmt := PySem.Challenge.pw_mixtrees_k16_whole_pushes.main.body.getD i (.Pass ⟨0, 0, 0, 0⟩)

abbrev sIsTree : Stmt := top 19
abbrev sFeedsOf : Stmt := top 20
abbrev s_is_number : Stmt := top 21
abbrev sIsWhole : Stmt := top 22
abbrev sReqTree : Stmt := top 23
abbrev s_require_name : Stmt := top 24
abbrev sHasShape : Stmt := top 25
abbrev sIsWP : Stmt := top 26
abbrev sIsName : Stmt := top 27
abbrev sNamesIn : Stmt := top 28
abbrev sReqLen : Stmt := top 31
abbrev s_place_of : Stmt := top 33
abbrev s_require_item : Stmt := top 34
abbrev s_lengths_by_name : Stmt := top 35
abbrev s_part_with : Stmt := top 36
abbrev s_total_in : Stmt := top 37
abbrev s_place_in : Stmt := top 38
abbrev s_turns_of : Stmt := top 39
abbrev s_taken_in_rounds : Stmt := top 40
abbrev s_push : Stmt := top 42
abbrev s_push_limit : Stmt := top 43
abbrev s_limit_in : Stmt := top 44
abbrev sLSource : Stmt := top 46
abbrev sPick : Stmt := top 47
abbrev s_law_is_integer : Stmt := top 48
abbrev sErrName : Stmt := top 49
abbrev sPart : Stmt := top 50
abbrev sMixNames : Stmt := top 51
abbrev sTree : Stmt := top 52
abbrev sLNames : Stmt := top 53
abbrev sOutput : Stmt := top 54
abbrev sLengths : Stmt := top 55
abbrev sTable : Stmt := top 56
abbrev s_law_limit : Stmt := top 57
abbrev sOutcome : Stmt := top 58
abbrev sLaw : Stmt := top 59
/-- what the names that no text binds mean: the built-ins -/
structure Blt (mg : Str → Option Value) : Prop where
  len : mg "len" = none
  isinstance : mg "isinstance" = none
  int : mg "int" = none
  str : mg "str" = none
  bool : mg "bool" = none
  tuple : mg "tuple" = none
  list : mg "list" = none
  dict : mg "dict" = none
  zip : mg "zip" = none
  set : mg "set" = none
  all : mg "all" = none
  any : mg "any" = none
  range : mg "range" = none
  sum : mg "sum" = none
  max : mg "max" = none
  min : mg "min" = none
  valueError : mg "ValueError" = none
  enumerate : mg "enumerate" = none
/-- a source of draws: three ints -/
def SrcO (o : HO) : Prop := ∃ x y p : Int, o = .lst [.int x, .int y, .int p] ∧ 0 ≤ x ∧ 0 ≤ y ∧ y ≤ 4294967296 ∧ 0 < p ∧ p ≤ 2147483647
def spPick : Sp := fun vs H Q _ => ∃ (a : Addr) (n : Int) (o : HO), vs = [.ref a, .int n] ∧ H a = some o ∧ SrcO o ∧ 0 < n ∧ n < 1073741824 ∧
  ∀ (d : Int) (o' : HO), 0 ≤ d → d < n → SrcO o' → Q (.int d) (upd H a o')
def spLSource (K : PySem.W.Frag) : Sp := fun vs H Q _ => ∃ (a : Addr) (ns : List Int) (j : Int), vs = [.ref a, .int j] ∧ SqL K H a (ns.map V.int) ∧ 0 ≤ j ∧ j ≤ 63 ∧
  ∀ (p : Addr) (o : HO), H p = none → SrcO o → ∀ H', Same H H' → H' p = some o → Q (.ref p) H'
end Mx

set_option Elab.async false
set_option maxRecDepth 100000
namespace Mx
open PySem L2
/-- a def of the top as its callers know it -/
structure Def (K : PySem.W.Frag) (mg : Str → Option Value) (x : Str) (st : Stmt) (ps : List Str) (f : Addr) (fd : FuncData) : Prop where
  fn : Fun K x x st f fd
  mg : mg x = some (.ref f)
  b : Binds K fd ps []
/-- all that was tracked is as it was, but for what stands at a -/
def But (a : Addr) (H H' : Hp) : Prop := ∀ b o, H b = some o → b ≠ a → H' b = some o
theorem But.refl {a : Addr} {H : Hp} : But a H H := fun _ _ e _ => e
theorem But.trans {a : Addr} {H H1 H2 : Hp} (x : But a H H1) (y : But a H1 H2) : But a H H2 := fun b o e n => y b o (x b o e n) n
theorem But.of {a : Addr} {H H' : Hp} (x : Same H H') : But a H H' := fun b o e _ => x b o e
theorem But.upd {a : Addr} {H H' : Hp} {o : HO} (x : But a H H') : But a H (upd H' a o) := fun b u e n => by rw [upd_ne n]; exact x b u e n
theorem But.new {a p : Addr} {H H' : Hp} {o : HO} (x : But a H H') (np : H' p = none) : But a H (L2.upd H' p o) := fun b u e n => by rw [upd_ne (ne_of_none (x b u e n) np)]; exact x b u e n
theorem Same.new {p : Addr} {H H' : Hp} {o : HO} (x : Same H H') (np : H' p = none) : Same H (L2.upd H' p o) := fun b u e => by rw [upd_ne (ne_of_none (x b u e) np)]; exact x b u e
/-- writing to what was not there before -/
theorem Same.own {p : Addr} {H H' : Hp} {o : HO} (x : Same H H') (np : H p = none) : Same H (L2.upd H' p o) := fun b u e => by rw [upd_ne (ne_of_none e np)]; exact x b u e
theorem But.own {a p : Addr} {H H' : Hp} {o : HO} (x : But a H H') (np : H p = none) : But a H (L2.upd H' p o) := fun b u e n => by rw [upd_ne (ne_of_none e np)]; exact x b u e n
theorem Same.but {a : Addr} {H H1 H2 : Hp} (x : Same H H1) (na : H a = none) (y : But a H1 H2) : Same H H2 := fun b o e => y b o (x b o e) (ne_of_none e na)
theorem none_of_upd {H : Hp} {p q : Addr} {o : HO} (h : L2.upd H p o q = none) : H q = none := by
  by_cases e : q = p
  · rw [e, upd_same] at h; cases h
  · rw [upd_ne e] at h; exact h
theorem But.free {a p : Addr} {H H' : Hp} (x : But a H H') (np : H' p = none) (h : p ≠ a) : H p = none := by
  cases q : H p with
  | none => rfl
  | some o => rw [x p o q h] at np; cases np
theorem Same.none {H H' : Hp} {p : Addr} (x : Same H H') (np : H' p = none) : H p = none := x.free np

/-! ### names -/
def U : List Str := ["a", "b", "c", "dd", "e", "fee", "g", "h"]
theorem U_nd : U.Nodup := by decide +kernel
theorem U_ok : ∀ x ∈ U, PyData.canLay0 (.str x) = true := by decide +kernel
structure NamesOk (ns : List Str) : Prop where
  nd : ns.Nodup
  mem : ∀ x ∈ ns, x ∈ U
  len : ns.length ≤ 8
theorem strs_dp {K : PySem.W.Frag} {H : Hp} : ∀ ns : List Str, DpAll K H (ns.map V.str) (ns.map PyData.str)
  | [] => .nil
  | n :: r => .cons (.str n) (strs_dp r)
theorem strs_can : ∀ {ns : List Str}, (∀ x ∈ ns, x ∈ U) → PyData.canLayAll0 (ns.map PyData.str) = true
  | [], _ => by simp [PyData.canLayAll0]
  | n :: r, h => by
    rw [List.map_cons, PyData.canLayAll0, U_ok n (h n List.mem_cons_self), strs_can fun x hx => h x (List.mem_cons_of_mem _ hx)]
    rfl
theorem strs_depth : ∀ ns : List Str, PyData.depthAll (ns.map PyData.str) = 0
  | [] => by simp [PyData.depthAll]
  | n :: r => by rw [List.map_cons, PyData.depthAll, strs_depth r, PyData.depth]; rfl
theorem strs_shaped {ns : List Str} (h : ∀ x ∈ ns, x ∈ U) : SeqAt.shaped (.list (ns.map PyData.str)) = true := by
  unfold SeqAt.shaped
  rw [PyData.canLay0, strs_can h, PyData.depth, strs_depth]
  decide
theorem nil_shaped : SeqAt.shaped (.list []) = true := by decide
theorem eqv_nil (ns : List Str) : PyData.eqv (.list (ns.map PyData.str)) (.list []) = decide (ns = []) := by
  cases ns with
  | nil => rw [PyData.eqv]; rfl
  | cons n r => rw [List.map_cons, PyData.eqv, PyData.eqvAll]; rfl

/-! ### trees -/
inductive Tr where
  | feed (s : Str)
  | mix (ps : List (Int × Tr))
mutual
def Tr.names : Tr → List Str
  | .feed s => [s]
  | .mix ps => Tr.namesL ps
def Tr.namesL : List (Int × Tr) → List Str
  | [] => []
  | (_, t) :: r => t.names ++ Tr.namesL r
end
theorem Tr.namesL_eq : ∀ ps : List (Int × Tr), Tr.namesL ps = (ps.map fun p => p.2.names).flatten
  | [] => by rw [Tr.namesL]; rfl
  | (w, t) :: r => by rw [Tr.namesL, Tr.namesL_eq r]; rfl
theorem Tr.names_mix (ps : List (Int × Tr)) : (Tr.mix ps).names = (ps.map fun p => p.2.names).flatten := by rw [Tr.names, Tr.namesL_eq]
theorem Tr.names_feed (s : Str) : (Tr.feed s).names = [s] := by rw [Tr.names]
/-- at most d mixers, one within another; weights and parts as they may be -/
def Tr.wf : Nat → Tr → Prop
  | _, .feed _ => True
  | 0, .mix _ => False
  | d + 1, .mix ps => ps ≠ [] ∧ ps.length ≤ 5 ∧ ∀ p ∈ ps, 1 ≤ p.1 ∧ p.1 ≤ 9 ∧ Tr.wf d p.2
/-- v is a tuple (or text) that is this tree -/
def TrAt (K : PySem.W.Frag) (H : Hp) : Nat → V → Tr → Prop
  | _, v, .feed s => v = .str s
  | 0, _, .mix _ => False
  | d + 1, v, .mix ps => ∃ (a : Addr) (xs : List V), v = .ref a ∧ SqT K H a xs ∧ xs.length = ps.length ∧
      ∀ (j : Nat) (x : V) (p : Int × Tr), xs[j]? = some x → ps[j]? = some p → ∃ (b : Addr) (y : V), x = .ref b ∧ SqT K H b [.int p.1, y] ∧ TrAt K H d y p.2
theorem TrAt.keep {K : PySem.W.Frag} {H H' : Hp} (h : ∀ a xs, SqT K H a xs → SqT K H' a xs) : ∀ (d : Nat) {v : V} {t : Tr}, TrAt K H d v t → TrAt K H' d v t
  | 0, v, .feed s, q => by unfold TrAt at q ⊢; exact q
  | 0, v, .mix ps, q => by unfold TrAt at q; exact q.elim
  | d + 1, v, .feed s, q => by unfold TrAt at q ⊢; exact q
  | d + 1, v, .mix ps, q => by
    unfold TrAt at q ⊢
    obtain ⟨a, xs, e, hs, hl, hj⟩ := q
    refine ⟨a, xs, e, h _ _ hs, hl, fun j x p hx hp => ?_⟩
    obtain ⟨b, y, e1, h1, h2⟩ := hj j x p hx hp
    exact ⟨b, y, e1, h _ _ h1, TrAt.keep h d h2⟩
theorem sqT_but {K : PySem.W.Frag} {H H' : Hp} {a : Addr} {l : List V} (e : H a = some (.lst l)) (b : But a H H') : ∀ c xs, SqT K H c xs → SqT K H' c xs := by
  intro c xs h
  rcases h with (h | ⟨o, h⟩) | h
  · exact .inl (.inl (b c _ h (ne_of h e (by intro z; cases z))))
  · exact .inl (.inr ⟨o, b c _ h (ne_of h e (by intro z; cases z))⟩)
  · exact .inr h
theorem sqT_same {K : PySem.W.Frag} {H H' : Hp} (b : Same H H') : ∀ c xs, SqT K H c xs → SqT K H' c xs := by
  intro c xs h
  rcases h with (h | ⟨o, h⟩) | h
  · exact .inl (.inl (b c _ h))
  · exact .inl (.inr ⟨o, b c _ h⟩)
  · exact .inr h
theorem TrAt.mono {K : PySem.W.Frag} {H : Hp} : ∀ (d e : Nat) {v : V} {t : Tr}, d ≤ e → TrAt K H d v t → TrAt K H e v t
  | 0, e, v, .feed s, _, q => by unfold TrAt at q ⊢; exact q
  | 0, e, v, .mix ps, _, q => by unfold TrAt at q; exact q.elim
  | d + 1, e, v, .feed s, _, q => by unfold TrAt at q ⊢; exact q
  | d + 1, 0, v, .mix ps, h, q => by omega
  | d + 1, e + 1, v, .mix ps, h, q => by
    unfold TrAt at q ⊢
    obtain ⟨a, xs, e0, hs, hl, hj⟩ := q
    refine ⟨a, xs, e0, hs, hl, fun j x p hx hp => ?_⟩
    obtain ⟨b, y, e1, h1, h2⟩ := hj j x p hx hp
    exact ⟨b, y, e1, h1, TrAt.mono d e (by omega) h2⟩
def KeepT (K : PySem.W.Frag) (H H' : Hp) : Prop := ∀ c xs, SqT K H c xs → SqT K H' c xs
theorem KeepT.refl {K : PySem.W.Frag} {H : Hp} : KeepT K H H := fun _ _ h => h
theorem KeepT.trans {K : PySem.W.Frag} {H H1 H2 : Hp} (a : KeepT K H H1) (b : KeepT K H1 H2) : KeepT K H H2 := fun c xs h => b c xs (a c xs h)
theorem KeepT.lst {K : PySem.W.Frag} {H : Hp} {a : Addr} {l : List V} {o : HO} (e : H a = some (.lst l)) : KeepT K H (L2.upd H a o) := sqT_but e (But.refl.upd)
theorem KeepT.new {K : PySem.W.Frag} {H : Hp} {a : Addr} {o : HO} (e : H a = none) : KeepT K H (L2.upd H a o) := sqT_same (Same.new (Same.refl _) e)
theorem KeepT.src {K : PySem.W.Frag} {H : Hp} {a : Addr} {o o' : HO} (e : H a = some o) (s : SrcO o) : KeepT K H (L2.upd H a o') := by
  obtain ⟨_, _, _, rfl, _⟩ := s
  exact KeepT.lst e
theorem KeepT.but {K : PySem.W.Frag} {H H' : Hp} {a : Addr} {o : HO} (e : H a = some o) (s : SrcO o) (b : But a H H') : KeepT K H H' := by
  obtain ⟨_, _, _, rfl, _⟩ := s
  exact sqT_but e b
def PsAt (K : PySem.W.Frag) (H : Hp) (d : Nat) (xs : List V) (ps : List (Int × Tr)) : Prop := xs.length = ps.length ∧
  ∀ (j : Nat) (x : V) (p : Int × Tr), xs[j]? = some x → ps[j]? = some p → ∃ (b : Addr) (y : V), x = .ref b ∧ SqT K H b [.int p.1, y] ∧ TrAt K H d y p.2
theorem TrAt_mix {K : PySem.W.Frag} {H : Hp} {d : Nat} {v : V} {ps : List (Int × Tr)} : TrAt K H (d + 1) v (.mix ps) ↔ ∃ (a : Addr) (xs : List V), v = .ref a ∧ SqT K H a xs ∧ PsAt K H d xs ps := by
  constructor
  · intro h
    unfold TrAt at h
    obtain ⟨a, xs, e, h1, h2, h3⟩ := h
    exact ⟨a, xs, e, h1, h2, h3⟩
  · rintro ⟨a, xs, e, h1, h2, h3⟩
    unfold TrAt
    exact ⟨a, xs, e, h1, h2, h3⟩
theorem TrAt_feed {K : PySem.W.Frag} {H : Hp} {d : Nat} {v : V} {s : Str} : TrAt K H d v (.feed s) ↔ v = .str s := by
  cases d <;> (unfold TrAt; exact Iff.rfl)
theorem TrAt_zero {K : PySem.W.Frag} {H : Hp} {v : V} {ps : List (Int × Tr)} : ¬ TrAt K H 0 v (.mix ps) := by
  intro h; unfold TrAt at h; exact h
theorem PsAt.nil {K : PySem.W.Frag} {H : Hp} {d : Nat} : PsAt K H d [] [] := ⟨rfl, fun j x p h => by simp at h⟩
theorem PsAt.keep {K : PySem.W.Frag} {H H' : Hp} {d : Nat} {xs : List V} {ps : List (Int × Tr)} (h : ∀ a xs, SqT K H a xs → SqT K H' a xs) (q : PsAt K H d xs ps) : PsAt K H' d xs ps :=
  ⟨q.1, fun j x p hx hp => by
    obtain ⟨b, y, e1, h1, h2⟩ := q.2 j x p hx hp
    exact ⟨b, y, e1, h _ _ h1, TrAt.keep h d h2⟩⟩
theorem PsAt.snoc {K : PySem.W.Frag} {H : Hp} {d : Nat} {xs : List V} {ps : List (Int × Tr)} {b : Addr} {y : V} {p : Int × Tr} (q : PsAt K H d xs ps) (h1 : SqT K H b [.int p.1, y]) (h2 : TrAt K H d y p.2) : PsAt K H d (xs ++ [.ref b]) (ps ++ [p]) := by
  refine ⟨by rw [List.length_append, List.length_append, q.1]; rfl, fun j x p' hx hp => ?_⟩
  by_cases hj : j < xs.length
  · rw [List.getElem?_append_left hj] at hx
    rw [List.getElem?_append_left (by rw [← q.1]; exact hj)] at hp
    exact q.2 j x p' hx hp
  · rw [List.getElem?_append_right (by omega)] at hx
    rw [List.getElem?_append_right (by rw [← q.1]; omega), ← q.1] at hp
    cases e : j - xs.length with
    | zero =>
      rw [e] at hx hp
      cases hx
      cases hp
      exact ⟨b, y, rfl, h1, h2⟩
    | succ m => rw [e] at hx; simp at hx
def pre (sp : Nat → Sp) : Nat → Sp
  | 0 => fun _ _ _ _ => False
  | d + 1 => sp d
theorem Tr.wf_mono : ∀ (d e : Nat) {t : Tr}, d ≤ e → Tr.wf d t → Tr.wf e t
  | 0, e, .feed s, _, q => by unfold Tr.wf; trivial
  | 0, e, .mix ps, _, q => by unfold Tr.wf at q; exact q.elim
  | d + 1, e, .feed s, _, q => by unfold Tr.wf; trivial
  | d + 1, 0, .mix ps, h, q => by omega
  | d + 1, e + 1, .mix ps, h, q => by
    unfold Tr.wf at q ⊢
    exact ⟨q.1, q.2.1, fun p hp => ⟨(q.2.2 p hp).1, (q.2.2 p hp).2.1, Tr.wf_mono d e (by omega) (q.2.2 p hp).2.2⟩⟩
end Mx

set_option Elab.async false
set_option maxRecDepth 100000
set_option linter.all false
/-! words and lemmas that know no law -/
namespace Mx
open PySem L2
/-- a tree that the law draws -/
structure TreeOk (t : Tr) : Prop where
  wf : t.wf 4
  nd : t.names.Nodup
  mem : ∀ x ∈ t.names, x ∈ U
  len : t.names.length ≤ 8
  ne : t.names ≠ []
def spTree (K : PySem.W.Frag) : Sp := fun vs H Q _ => ∃ (a : Addr) (m top : Int) (o : HO), vs = [.ref a, .int m, .int top] ∧ H a = some o ∧ SrcO o ∧ 1 ≤ m ∧ m ≤ 8 ∧ 1 ≤ top ∧ top ≤ 9 ∧
  ∀ (v : V) (t : Tr) (o' : HO) (H' : Hp), But a H H' → H' a = some o' → SrcO o' → TrAt K H' 4 v t → TreeOk t → (t.names.length : Int) ≤ m → Q v H'
def spNames (K : PySem.W.Frag) (d : Nat) : Sp := fun vs H Q _ => ∃ (v : V) (t : Tr), vs = [v] ∧ TrAt K H d v t ∧ t.wf d ∧ t.names.length ≤ 1000 ∧
  ∀ (p : Addr) (H' : Hp), Same H H' → H p = none → H' p = some (.lst (t.names.map V.str)) → Q (.ref p) H'
section
variable {P : Program} {w : World} {K : PySem.W.Frag} {mg : Str → Option Value} {base : Heap}
theorem cut_to {xs : List V} {j : Nat} (h : j ≤ xs.length) : cutV xs none (some (j : Int)) = xs.take j := by
  unfold cutV
  have e1 : HT.sIx xs.length 0 none = 0 := rfl
  have e2 : HT.sIx xs.length xs.length (some (j : Int)) = j := by
    unfold HT.sIx
    simp only []
    split <;> omega
  rw [e1, e2]
  simp
theorem cut_from {xs : List V} {j : Nat} (h : j ≤ xs.length) : cutV xs (some (j : Int)) none = xs.drop j := by
  unfold cutV
  rw [HT.sIx_nat, HT.sIx_none, Nat.min_eq_left h, List.take_of_length_le (by rw [List.length_drop]; exact Nat.le_refl _)]
theorem take_succ_of {α : Type} {l : List α} {i : Nat} {x : α} (h : l[i]? = some x) : l.take (i + 1) = l.take i ++ [x] := by
  rw [List.take_add_one, h]
  rfl
theorem mem_eraseIdx {α : Type} {l : List α} {k : Nat} {x : α} (h : x ∈ l.eraseIdx k) : x ∈ l := (List.eraseIdx_sublist l k).mem h
theorem map_eraseIdx {α β : Type} (f : α → β) : ∀ (l : List α) (k : Nat), (l.map f).eraseIdx k = (l.eraseIdx k).map f
  | [], _ => rfl
  | a :: r, 0 => rfl
  | a :: r, k + 1 => by
    show f a :: (r.map f).eraseIdx k = f a :: (r.eraseIdx k).map f
    rw [map_eraseIdx f r k]
theorem erase_perm {α : Type} : ∀ (l : List α) (k : Nat) (h : k < l.length), l.Perm (l[k] :: l.eraseIdx k)
  | a :: r, 0, h => by simp
  | a :: r, k + 1, h => by
    have hk : k < r.length := by simpa using h
    have ih := erase_perm r k hk
    show (a :: r).Perm (r[k] :: a :: r.eraseIdx k)
    exact (ih.cons a).trans (List.Perm.swap _ _ _)
theorem seqIx {d : Int} {n : Nat} (h0 : 0 ≤ d) (h1 : d < n) : seqIndex? d n = some d.toNat := by
  unfold seqIndex?
  simp
  omega
theorem U8 {α : Type} (f : Str → α) : [f "a", f "b", f "c", f "dd", f "e", f "fee", f "g", f "h"] = U.map f := rfl
theorem tyx_tup {H : Hp} {a : Addr} {xs : List V} (h : SqT K H a xs) : TyX K H (.ref a) (.type "tuple") := by
  rcases h with (h | ⟨o, h⟩) | ⟨o, its, n, h1, h2, _⟩
  · exact .base (.tup h)
  · exact .fTuple h
  · exact .kTuple h1 h2
theorem flat_len {ps : List (Int × Tr)} {i : Nat} : ((ps.take i).map fun p => p.2.names).flatten.length ≤ ((ps.map fun p => p.2.names).flatten).length := by
  have : ((ps.take i).map fun p => p.2.names).flatten.Sublist ((ps.map fun p => p.2.names).flatten) := by
    rw [List.map_take]
    conv => rhs; rw [← List.take_append_drop i (ps.map fun p => p.2.names), List.flatten_append]
    exact List.sublist_append_left _ _
  exact this.length_le
theorem flat_succ {ps : List (Int × Tr)} {i : Nat} {p : Int × Tr} (h : ps[i]? = some p) : ((ps.take (i + 1)).map fun p => p.2.names).flatten = ((ps.take i).map fun p => p.2.names).flatten ++ p.2.names := by
  rw [take_succ_of h, List.map_append, List.flatten_append, List.map_singleton, List.flatten_singleton]
end
end Mx

set_option Elab.async false
namespace Mx
section
variable {α : Type}
abbrev Rows (α : Type) := List (Nat × List α)
def rnd0 (rows : Rows α) : List α := (rows.map fun p => p.2.take p.1).flatten
def dropw (rows : Rows α) : Rows α := rows.map fun p => (p.1, p.2.drop p.1)
def tot (rows : Rows α) : Nat := (rows.map fun p => p.2.length).sum
def rds : Nat → Rows α → List α
  | 0, _ => []
  | n + 1, rows => rnd0 rows ++ rds n (dropw rows)
def R (rows : Rows α) : List α := rds (tot rows) rows
def Pos (rows : Rows α) : Prop := ∀ p ∈ rows, 1 ≤ p.1
theorem Pos.drop {rows : Rows α} (h : Pos rows) : Pos (dropw rows) := fun p hp => by
  obtain ⟨q, hq, rfl⟩ := List.mem_map.mp hp
  exact h q hq
theorem tot_cons (p : Nat × List α) (r : Rows α) : tot (p :: r) = p.2.length + tot r := by unfold tot; simp
theorem tot_append (a b : Rows α) : tot (a ++ b) = tot a + tot b := by unfold tot; simp
theorem rnd0_cons (p : Nat × List α) (r : Rows α) : rnd0 (p :: r) = p.2.take p.1 ++ rnd0 r := rfl
theorem rnd0_append (a b : Rows α) : rnd0 (a ++ b) = rnd0 a ++ rnd0 b := by unfold rnd0; simp
theorem dropw_cons (p : Nat × List α) (r : Rows α) : dropw (p :: r) = (p.1, p.2.drop p.1) :: dropw r := rfl
theorem dropw_append (a b : Rows α) : dropw (a ++ b) = dropw a ++ dropw b := by unfold dropw; simp
theorem len_rnd0 : ∀ rows : Rows α, (rnd0 rows).length + tot (dropw rows) = tot rows
  | [] => rfl
  | p :: r => by
    have ih := len_rnd0 r
    rw [rnd0_cons, dropw_cons, tot_cons, tot_cons, List.length_append, List.length_take, List.length_drop]
    omega
theorem rnd0_pos : ∀ {rows : Rows α}, Pos rows → 0 < tot rows → 0 < (rnd0 rows).length
  | [], _, h => by simp [tot] at h
  | p :: r, hp, h => by
    rw [tot_cons] at h
    rw [rnd0_cons, List.length_append, List.length_take]
    have h1 := hp p List.mem_cons_self
    rcases Nat.eq_zero_or_pos p.2.length with z | z
    · have := rnd0_pos (rows := r) (fun q hq => hp q (List.mem_cons_of_mem _ hq)) (by omega)
      omega
    · omega
theorem tot_dropw {rows : Rows α} (hp : Pos rows) (h : 0 < tot rows) : tot (dropw rows) < tot rows := by
  have h1 := len_rnd0 rows
  have h2 := rnd0_pos hp h
  omega
theorem tot_dropw_le (rows : Rows α) : tot (dropw rows) ≤ tot rows := by have := len_rnd0 rows; omega
theorem rds_zero : ∀ (n : Nat) {rows : Rows α}, tot rows = 0 → rds n rows = []
  | 0, _, _ => rfl
  | n + 1, rows, h => by
    have h1 := len_rnd0 rows
    have h2 : rnd0 rows = [] := List.length_eq_zero_iff.mp (by omega)
    show rnd0 rows ++ rds n (dropw rows) = []
    rw [h2, rds_zero n (by omega)]
    rfl
theorem rds_stable : ∀ (n m : Nat) {rows : Rows α}, Pos rows → tot rows ≤ n → tot rows ≤ m → rds n rows = rds m rows
  | 0, m, rows, _, h, _ => by rw [rds_zero m (by omega)]; rfl
  | n + 1, 0, rows, _, _, h => by rw [rds_zero (n + 1) (by omega)]; rfl
  | n + 1, m + 1, rows, hp, h1, h2 => by
    show rnd0 rows ++ rds n (dropw rows) = rnd0 rows ++ rds m (dropw rows)
    rcases Nat.eq_zero_or_pos (tot rows) with z | z
    · have := tot_dropw_le rows
      rw [rds_zero n (by omega), rds_zero m (by omega)]
    · have := tot_dropw hp z
      rw [rds_stable n m hp.drop (by omega) (by omega)]
theorem R_unfold {rows : Rows α} (hp : Pos rows) : R rows = rnd0 rows ++ R (dropw rows) := by
  have := tot_dropw_le rows
  have e : R rows = rds (tot rows + 1) rows := rds_stable _ _ hp (Nat.le_refl _) (by omega)
  rw [e]
  show rnd0 rows ++ rds (tot rows) (dropw rows) = _
  rw [rds_stable (tot rows) (tot (dropw rows)) hp.drop this (Nat.le_refl _)]
  rfl
theorem R_zero {rows : Rows α} (h : tot rows = 0) : R rows = [] := rds_zero _ h
theorem len_rds : ∀ (n : Nat) {rows : Rows α}, Pos rows → tot rows ≤ n → (rds n rows).length = tot rows
  | 0, rows, _, h => by show 0 = _; omega
  | n + 1, rows, hp, h => by
    show (rnd0 rows ++ rds n (dropw rows)).length = _
    rw [List.length_append]
    have h1 := len_rnd0 rows
    rcases Nat.eq_zero_or_pos (tot rows) with z | z
    · rw [rds_zero n (by omega)]
      have : (rnd0 rows).length = 0 := by omega
      rw [this, z]
      rfl
    · have := tot_dropw hp z
      rw [len_rds n hp.drop (by omega)]
      exact h1
theorem len_R {rows : Rows α} (hp : Pos rows) : (R rows).length = tot rows := len_rds _ hp (Nat.le_refl _)

/-! ### the law's rounds -/
def dropn (k : Nat) (rows : Rows α) : Rows α := rows.map fun p => (p.1, p.2.drop (p.1 * k))
theorem dropn_zero (rows : Rows α) : dropn 0 rows = rows := by
  unfold dropn
  simp
theorem dropn_pos {rows : Rows α} (h : Pos rows) (k : Nat) : Pos (dropn k rows) := fun p hp => by
  obtain ⟨q, hq, rfl⟩ := List.mem_map.mp hp
  exact h q hq
theorem dropn_succ (k : Nat) (rows : Rows α) : dropn (k + 1) rows = dropw (dropn k rows) := by
  unfold dropn dropw
  rw [List.map_map]
  refine List.map_congr_left fun p _ => ?_
  show (p.1, p.2.drop (p.1 * (k + 1))) = (p.1, (p.2.drop (p.1 * k)).drop p.1)
  rw [List.drop_drop]
  rfl
theorem R_rounds {rows : Rows α} (hp : Pos rows) : ∀ k, ∃ f, R rows = f ++ R (dropn k rows) ∧ f = ((List.range k).map fun j => rnd0 (dropn j rows)).flatten
  | 0 => ⟨[], by rw [dropn_zero]; rfl, rfl⟩
  | k + 1 => by
    obtain ⟨f, h1, h2⟩ := R_rounds hp k
    refine ⟨f ++ rnd0 (dropn k rows), ?_, ?_⟩
    · rw [h1, dropn_succ, List.append_assoc, ← R_unfold (dropn_pos hp k)]
    · rw [List.range_succ, List.map_append, List.flatten_append, h2]
      simp
/-! ### what a mixer that stands at a part, c items within its turn, will give -/
def futS (A : Rows α) (w : Nat) (x : List α) (B : Rows α) (c : Nat) : List α := x.take (w - c) ++ (rnd0 B ++ R (A ++ (w, x.drop (w - c)) :: dropw B))
theorem futS_take {A B : Rows α} {w c : Nat} {y : α} {x : List α} (h : c < w) : futS A w (y :: x) B c = y :: futS A w x B (c + 1) := by
  unfold futS
  rw [show w - c = (w - (c + 1)) + 1 by omega]
  rfl
theorem futS_done {A B : Rows α} {w c : Nat} {x : List α} (h : c = w ∨ x = []) : futS A w x B c = rnd0 B ++ R (A ++ (w, x) :: dropw B) := by
  unfold futS
  rcases h with h | h
  · rw [h, Nat.sub_self]
    rfl
  · subst h
    simp
theorem futS_next {A B : Rows α} {w c v : Nat} {x z : List α} (h : c = w ∨ x = []) : futS A w x ((v, z) :: B) c = futS (A ++ [(w, x)]) v z B 0 := by
  rw [futS_done h, rnd0_cons, dropw_cons]
  unfold futS
  rw [Nat.sub_zero, List.append_assoc, List.append_assoc]
  rfl
theorem futS_start {v : Nat} {z : List α} {B : Rows α} (hp : Pos ((v, z) :: B)) : futS [] v z B 0 = R ((v, z) :: B) := by
  rw [R_unfold hp, rnd0_cons, dropw_cons]
  unfold futS
  rw [Nat.sub_zero, List.append_assoc]
  rfl
theorem futS_wrap {A : Rows α} {w c v : Nat} {x z : List α} {B : Rows α} (h : c = w ∨ x = []) (e : A ++ [(w, x)] = (v, z) :: B) (hp : Pos ((v, z) :: B)) : futS A w x [] c = futS [] v z B 0 := by
  rw [futS_done h, futS_start hp, ← e]
  rfl
theorem futS_len {A B : Rows α} {w c : Nat} {x : List α} (hp : Pos (A ++ (w, x) :: B)) : (futS A w x B c).length = tot (A ++ (w, x) :: B) := by
  unfold futS
  have hp2 : Pos (A ++ (w, x.drop (w - c)) :: dropw B) := fun p hp0 => by
    rcases List.mem_append.mp hp0 with h | h
    · exact hp p (List.mem_append_left _ h)
    · rcases List.mem_cons.mp h with h | h
      · rw [h]; exact hp (w, x) (List.mem_append_right _ List.mem_cons_self)
      · obtain ⟨q, hq, rfl⟩ := List.mem_map.mp h
        exact hp q (List.mem_append_right _ (List.mem_cons_of_mem _ hq))
  rw [List.length_append, List.length_append, len_R hp2, tot_append, tot_append, tot_cons, tot_cons, List.length_take, List.length_drop]
  have := len_rnd0 B
  dsimp only
  omega
/-- the same by the part's place -/
def futI (rows : Rows α) (i c : Nat) : List α := match rows[i]? with
  | none => []
  | some p => futS (rows.take i) p.1 p.2 (rows.drop (i + 1)) c
theorem split_at {β : Type} {l : List β} {i : Nat} {p : β} (h : l[i]? = some p) : l = l.take i ++ p :: l.drop (i + 1) := by
  obtain ⟨hi, rfl⟩ := List.getElem?_eq_some_iff.mp h
  rw [← List.drop_eq_getElem_cons hi, List.take_append_drop]
theorem futI_eq {rows : Rows α} {i c : Nat} {p : Nat × List α} (h : rows[i]? = some p) : futI rows i c = futS (rows.take i) p.1 p.2 (rows.drop (i + 1)) c := by
  unfold futI
  rw [h]
theorem futI_start {rows : Rows α} (hp : Pos rows) (hn : rows ≠ []) : futI rows 0 0 = R rows := by
  cases rows with
  | nil => exact absurd rfl hn
  | cons p r => exact futS_start hp
theorem futI_len {rows : Rows α} {i c : Nat} (hp : Pos rows) (hi : i < rows.length) : (futI rows i c).length = tot rows := by
  have h : rows[i]? = some rows[i] := List.getElem?_eq_getElem hi
  rw [futI_eq h, futS_len (by rw [← split_at h]; exact hp), ← split_at h]
theorem futI_take {rows : Rows α} {i c w : Nat} {y : α} {x : List α} (h : rows[i]? = some (w, y :: x)) (hc : c < w) : futI rows i c = y :: futI (rows.set i (w, x)) i (c + 1) := by
  have hi := (List.getElem?_eq_some_iff.mp h).1
  rw [futI_eq h, futI_eq (p := (w, x)) (by rw [List.getElem?_set_self hi])]
  rw [futS_take hc, List.take_set_of_le (Nat.le_refl _), List.drop_set_of_lt (by omega)]
theorem futI_next {rows : Rows α} {i c : Nat} {p : Nat × List α} (hp : Pos rows) (h : rows[i]? = some p) (hc : c = p.1 ∨ p.2 = []) : futI rows i c = futI rows ((i + 1) % rows.length) 0 := by
  have hi := (List.getElem?_eq_some_iff.mp h).1
  rw [futI_eq h]
  by_cases hl : i + 1 < rows.length
  · rw [Nat.mod_eq_of_lt hl]
    have h2 : rows[i + 1]? = some rows[i + 1] := List.getElem?_eq_getElem hl
    rw [futI_eq h2, List.drop_eq_getElem_cons hl]
    rw [futS_next (v := rows[i + 1].1) (z := rows[i + 1].2) hc]
    congr 1
    rw [List.take_add_one, h]
    rfl
  · have e : i + 1 = rows.length := by omega
    rw [e, Nat.mod_self]
    have e2 : rows.drop rows.length = [] := List.drop_length
    rw [e2]
    cases rows with
    | nil => simp at hi
    | cons q r =>
      rw [futI_eq (p := q) rfl]
      refine futS_wrap hc ?_ hp
      have := split_at h
      rw [e, List.drop_length] at this
      exact this.symm
def rnd (k : Nat) (rows : Rows α) : List α := (rows.map fun p => (p.2.drop (p.1 * k)).take p.1).flatten
theorem rnd_eq (k : Nat) (rows : Rows α) : rnd0 (dropn k rows) = rnd k rows := by
  unfold rnd0 dropn rnd
  rw [List.map_map]
  rfl
def rndsTo (k : Nat) (rows : Rows α) : List α := ((List.range k).map fun j => rnd j rows).flatten
theorem rndsTo_succ (k : Nat) (rows : Rows α) : rndsTo (k + 1) rows = rndsTo k rows ++ rnd k rows := by
  unfold rndsTo
  rw [List.range_succ, List.map_append, List.flatten_append]
  simp
theorem R_split {rows : Rows α} (hp : Pos rows) (k : Nat) : R rows = rndsTo k rows ++ R (dropn k rows) := by
  obtain ⟨f, h1, h2⟩ := R_rounds hp k
  rw [h1, h2]
  unfold rndsTo
  rw [List.map_congr_left fun j _ => rnd_eq j rows]
theorem rndsTo_len {rows : Rows α} (hp : Pos rows) (k : Nat) : (rndsTo k rows).length + tot (dropn k rows) = tot rows := by
  have h := congrArg List.length (R_split hp k)
  rw [List.length_append, len_R hp, len_R (dropn_pos hp k)] at h
  omega
theorem rndsTo_end {rows : Rows α} (hp : Pos rows) {k : Nat} (h : ¬ (rndsTo k rows).length < tot rows) : rndsTo k rows = R rows := by
  have h1 := rndsTo_len hp k
  rw [R_split hp k, R_zero (by omega), List.append_nil]
theorem rndsTo_more {rows : Rows α} (hp : Pos rows) {k : Nat} (h : (rndsTo k rows).length < tot rows) : tot (dropn (k + 1) rows) < tot (dropn k rows) := by
  have h1 := rndsTo_len hp k
  rw [dropn_succ]
  exact tot_dropw (dropn_pos hp k) (by omega)
theorem rnd_succ {k i : Nat} {rows : Rows α} {p : Nat × List α} (h : rows[i]? = some p) : rnd k (rows.take (i + 1)) = rnd k (rows.take i) ++ (p.2.drop (p.1 * k)).take p.1 := by
  unfold rnd
  rw [List.take_add_one, h, List.map_append, List.flatten_append]
  simp
theorem sum_tot : ∀ rows : Rows α, (rows.map fun q => (q.2.length : Int)).sum = (tot rows : Int)
  | [] => rfl
  | q :: r => by
    rw [List.map_cons, List.sum_cons, tot_cons, sum_tot r]
    omega
theorem rnd_take_len {k i : Nat} {rows : Rows α} : (rnd k (rows.take i)).length ≤ (rnd k rows).length := by
  have : (rnd k (rows.take i)).Sublist (rnd k rows) := by
    unfold rnd
    conv => rhs; rw [← List.take_append_drop i rows, List.map_append, List.flatten_append]
    exact List.sublist_append_left _ _
  exact this.length_le
theorem tot_ge {p : Nat × List α} : ∀ {rows : Rows α}, p ∈ rows → p.2.length ≤ tot rows
  | q :: r, h => by
    rw [tot_cons]
    rcases List.mem_cons.mp h with h | h
    · rw [h]; omega
    · have := tot_ge (rows := r) h
      omega
end
end Mx

set_option Elab.async false
set_option maxRecDepth 100000
set_option linter.all false
namespace Mx
open PySem L2
abbrev Item := Str × Nat
mutual
def Tr.out (L : Str → Nat) : Tr → List Item
  | .feed s => (List.range (L s)).map fun i => (s, i)
  | .mix ps => R (Tr.rows L ps)
def Tr.rows (L : Str → Nat) : List (Int × Tr) → Rows Item
  | [] => []
  | (w, t) :: r => (w.toNat, t.out L) :: Tr.rows L r
end
theorem Tr.rows_eq (L : Str → Nat) : ∀ ps : List (Int × Tr), Tr.rows L ps = ps.map fun p => (p.1.toNat, p.2.out L)
  | [] => by rw [Tr.rows]; rfl
  | (w, t) :: r => by rw [Tr.rows, Tr.rows_eq L r]; rfl
theorem Tr.out_mix (L : Str → Nat) (ps : List (Int × Tr)) : (Tr.mix ps).out L = R (ps.map fun p => (p.1.toNat, p.2.out L)) := by rw [Tr.out, Tr.rows_eq]
theorem Tr.out_feed (L : Str → Nat) (s : Str) : (Tr.feed s).out L = (List.range (L s)).map fun i => (s, i) := by rw [Tr.out]
def ItemAt (H : Hp) (x : V) (it : Item) : Prop := ∃ q : Addr, x = .ref q ∧ H q = some (.tup [.str it.1, .int (it.2 : Nat)])
theorem ItemAt.same {H H' : Hp} (h : Same H H') {x : V} {it : Item} (q : ItemAt H x it) : ItemAt H' x it := by
  obtain ⟨a, e, h1⟩ := q
  exact ⟨a, e, h _ _ h1⟩
/-- what a heap keeps of its tuples -/
def KeepU (H H' : Hp) : Prop := ∀ b xs, H b = some (.tup xs) → H' b = some (.tup xs)
theorem KeepU.of {H H' : Hp} (h : Same H H') : KeepU H H' := fun b xs e => h b _ e
theorem KeepU.trans {H H1 H2 : Hp} (a : KeepU H H1) (b : KeepU H1 H2) : KeepU H H2 := fun c xs e => b c xs (a c xs e)
theorem KeepU.lst {H : Hp} {a : Addr} {l : List V} {o : HO} (e : H a = some (.lst l)) : KeepU H (L2.upd H a o) := fun b xs h => by
  rw [upd_ne (ne_of h e (by intro z; cases z))]; exact h
theorem KeepU.new {H : Hp} {a : Addr} {o : HO} (e : H a = none) : KeepU H (L2.upd H a o) := fun b xs h => by
  rw [upd_ne (ne_of_none h e)]; exact h
theorem ItemAt.keep {H H' : Hp} (h : KeepU H H') {x : V} {it : Item} (q : ItemAt H x it) : ItemAt H' x it := by
  obtain ⟨a, e, h1⟩ := q
  exact ⟨a, e, h _ _ h1⟩
abbrev ItemsAt (H : Hp) : List V → List Item → Prop := Paired (ItemAt H)
theorem paired_append {α β : Type} {F : α → β → Prop} : ∀ {a : List α} {b : List β} {c : List α} {d : List β}, Paired F a b → Paired F c d → Paired F (a ++ c) (b ++ d)
  | _, _, _, _, .nil, h => h
  | _, _, _, _, .cons r t, h => .cons r (paired_append t h)
theorem paired_take {α β : Type} {F : α → β → Prop} : ∀ {a : List α} {b : List β} (n : Nat), Paired F a b → Paired F (a.take n) (b.take n)
  | _, _, 0, _ => .nil
  | _, _, _ + 1, .nil => .nil
  | _, _, n + 1, .cons r t => .cons r (paired_take n t)
theorem paired_drop {α β : Type} {F : α → β → Prop} : ∀ {a : List α} {b : List β} (n : Nat), Paired F a b → Paired F (a.drop n) (b.drop n)
  | _, _, 0, h => h
  | _, _, _ + 1, .nil => .nil
  | _, _, n + 1, .cons r t => paired_drop n t
theorem paired_get {α β : Type} {F : α → β → Prop} : ∀ {a : List α} {b : List β} {i : Nat} {x : α}, Paired F a b → a[i]? = some x → ∃ y, b[i]? = some y ∧ F x y
  | _, _, _, _, .nil, h => by simp at h
  | _, _, 0, _, .cons r t, h => by
    cases h
    exact ⟨_, rfl, r⟩
  | _, _, i + 1, x, .cons r t, h => paired_get (i := i) t (by simpa using h)
theorem paired_len {α β : Type} {F : α → β → Prop} {a : List α} {b : List β} (h : Paired F a b) : a.length = b.length := Paired.length h
theorem cut_mid {xs : List V} {a b : Nat} : cutV xs (some (a : Int)) (some ((a + b : Nat) : Int)) = (xs.drop a).take b := by
  unfold cutV
  rw [HT.sIx_nat, HT.sIx_nat]
  rcases Nat.le_total a xs.length with h | h
  · rw [Nat.min_eq_left h]
    rcases Nat.le_total (a + b) xs.length with h2 | h2
    · rw [Nat.min_eq_left h2, Nat.add_sub_cancel_left]
    · rw [Nat.min_eq_right h2, List.take_of_length_le (by rw [List.length_drop]; omega), List.take_of_length_le (by rw [List.length_drop]; omega)]
  · rw [Nat.min_eq_right h, List.drop_length, List.drop_of_length_le h]
    simp
/-- a row of rows: its weight, its items -/
def RowAt (L : Str → Nat) (D : Addr) (H : Hp) (z : V) (p : Int × Tr) : Prop := ∃ (b rl : Addr) (ys : List V), rl ≠ D ∧ z = .ref b ∧ H b = some (.tup [.int p.1, .ref rl]) ∧ H rl = some (.lst ys) ∧ ItemsAt H ys (p.2.out L)
theorem RowAt.same {L : Str → Nat} {D : Addr} {H H' : Hp} (h : Same H H') {z : V} {p : Int × Tr} (q : RowAt L D H z p) : RowAt L D H' z p := by
  obtain ⟨b, rl, ys, n, e, h1, h2, h3⟩ := q
  exact ⟨b, rl, ys, n, e, h _ _ h1, h _ _ h2, Paired.mapP h3 fun _ _ => ItemAt.same h⟩
def rLenS (K : PySem.W.Frag) : List V → Hp → VK → Prop := fun xs H Q => ∃ p ys, xs = [V.ref p] ∧ (SqL K H p ys ∨ SqT K H p ys) ∧ Q (V.int ((ys.length : Nat) : Int)) H
end Mx

set_option Elab.async false
set_option maxRecDepth 100000
set_option linter.all false
namespace Mx
open PySem L2
/-- the constants of the program's modules -/
structure Cst (mg : Str → Option Value) : Prop where
  longest : ∃ t, mg "LONGEST_NAME" = some (.int 6 t)
  parts : ∃ t, mg "MOST_PARTS" = some (.int 5 t)
  weight : ∃ t, mg "GREATEST_WEIGHT" = some (.int 9 t)
  feeds : ∃ t, mg "MOST_FEEDS" = some (.int 8 t)
  around : ∃ t, mg "MOST_MIXERS_AROUND" = some (.int 3 t)
/-- an int (no bool) from lo to hi -/
def whole (v : V) (lo hi : Int) : Bool := match v with
  | .int i => decide (lo ≤ i) && decide (i ≤ hi)
  | _ => false
def isNum (v : V) : Bool := match v with
  | .int _ => true
  | _ => false
inductive Kind (K : PySem.W.Frag) (H : Hp) : V → Prop
  | int (i : Int) : Kind K H (.int i)
  | bl (b : Bool) : Kind K H (.bl b)
  | str (s : Str) : Kind K H (.str s)
  | non : Kind K H .non
  | lst {a : Addr} {xs : List V} (h : H a = some (.lst xs)) : Kind K H (.ref a)
  | tup {a : Addr} {xs : List V} (h : SqT K H a xs) : Kind K H (.ref a)
def spNum (K : PySem.W.Frag) : Sp := fun vs H Q _ => ∃ (v : V), vs = [v] ∧ Kind K H v ∧ Q (.bl (isNum v)) H
def spWhole (K : PySem.W.Frag) : Sp := fun vs H Q _ => ∃ (v : V) (lo hi : Int), vs = [v, .int lo, .int hi] ∧ Kind K H v ∧ Q (.bl (whole v lo hi)) H
/-- a text that may name a feed -/
def okName (s : Str) : Bool := decide (1 ≤ s.cps.size) && decide (s.cps.size ≤ 6) && s.cps.toList.all fun c => decide (97 ≤ c) && decide (c ≤ 122)
theorem U_name : ∀ x ∈ U, okName x = true := by decide +kernel
def spIsName (K : PySem.W.Frag) : Sp := fun vs H Q _ => ∃ (s : Str), vs = [.str s] ∧ s.cps.size ≤ 1000 ∧ ∀ H', Same H H' → Q (.bl (okName s)) H'
section
variable {P : Program} {w : World} {K : PySem.W.Frag} {mg : Str → Option Value} {base : Heap}
theorem scNum : FnScope ["value"] ["value"] (defScope s_is_number) := ⟨rfl, rfl, rfl, by decide +kernel, rfl, by decide +kernel, by decide +kernel⟩
theorem ok_num {f : Addr} {fd : FuncData} (F : Fun K "is_number" "is_number" s_is_number f fd) (B : Blt mg) : FnOk P w K mg base CX0 1 f fd ["value"] (spNum K) := by
  refine F.ok scNum (fun vs H Q E h => ?_) (fun cdv A outer s H vs Q E hr h => ?_)
  · obtain ⟨v, rfl, _⟩ := h
    rfl
  · obtain ⟨v, rfl, hk, k⟩ := h
    refine ⟨_, pss_one (ps_ret (pe_and (pe_callB call_isi (by rfl) B.isinstance (by decide +kernel) (pa_cons (pv 0) (pa_cons (pe_bltn (v := .ty "int") (by rfl) B.int (by decide +kernel) rfl) pa_nil)))
      (pe_one (pe_not (pe_callB call_isi (by rfl) B.isinstance (by decide +kernel) (pa_cons (pv 0) (pa_cons (pe_bltn (v := .ty "bool") (by rfl) B.bool (by decide +kernel) rfl) pa_nil))))))), ?_⟩
    cases hk with
    | int i =>
      refine ⟨_, rfl, _, _, _, _, true, rfl, .ty _, .base (.int i), kit_ty (by decide +kernel), true, rfl, ?_⟩
      exact ⟨_, rfl, _, _, _, _, false, rfl, .ty _, .base (.int i), kit_ty (by decide +kernel), false, rfl, k⟩
    | bl b =>
      refine ⟨_, rfl, _, _, _, _, true, rfl, .ty _, .base (.bl b), kit_ty (by decide +kernel), true, rfl, ?_⟩
      exact ⟨_, rfl, _, _, _, _, true, rfl, .ty _, .base (.bl b), kit_ty (by decide +kernel), true, rfl, k⟩
    | str x => exact ⟨_, rfl, _, _, _, _, false, rfl, .ty _, .base (.str x), kit_ty (by decide +kernel), false, rfl, k⟩
    | non => exact ⟨_, rfl, _, _, _, _, false, rfl, .ty _, .base .non, kit_ty (by decide +kernel), false, rfl, k⟩
    | lst h => exact ⟨_, rfl, _, _, _, _, false, rfl, .ty _, .base (.lst h), kit_ty (by decide +kernel), false, rfl, k⟩
    | tup h => exact ⟨_, rfl, _, _, _, _, false, rfl, .ty _, tyx_tup h, kit_ty (by decide +kernel), false, rfl, k⟩
theorem scWhole : FnScope ["value", "low", "high"] ["value", "low", "high"] (defScope sIsWhole) := ⟨rfl, rfl, rfl, by decide +kernel, rfl, by decide +kernel, by decide +kernel⟩
theorem ok_whole {f fN : Addr} {fd dN : FuncData} (F : Fun K "is_whole" "is_whole" sIsWhole f fd) (DN : Def K mg "is_number" s_is_number ["value"] fN dN) (GN : FnOk P w K mg base CX0 1 fN dN ["value"] (spNum K)) : FnOk P w K mg base CX0 2 f fd ["value", "low", "high"] (spWhole K) := by
  refine F.ok scWhole (fun vs H Q E h => ?_) (fun cdv A outer s H vs Q E hr h => ?_)
  · obtain ⟨v, lo, hi, rfl, _⟩ := h
    rfl
  · obtain ⟨v, lo, hi, rfl, hk, k⟩ := h
    refine ⟨_, pss_one (ps_ret (pe_and (pe_call GN hr rfl DN.mg DN.fn.kp DN.b .nil pass0 (pa_cons (pv 0) pa_nil))
      (pe_one (pe_chain op_le op_le (pv 1) (pv 0) (pv 2))))), ?_⟩
    refine ⟨_, rfl, v, rfl, hk, ?_⟩
    cases hk with
    | int i =>
      refine ⟨true, rfl, ?_⟩
      refine ⟨_, rfl, _, rfl, _, _, rfl, rfl, _, rfl, ?_⟩
      refine ite2 (fun c => ?_) (fun c => ?_)
      · refine ⟨_, rfl, _, _, rfl, rfl, ?_⟩
        have e : whole (.int i) lo hi = decide (i ≤ hi) := by unfold whole; dsimp only; rw [c]; rfl
        rw [e] at k
        exact k
      · have e : whole (.int i) lo hi = false := by unfold whole; dsimp only; rw [Bool.eq_false_iff.mpr c]; rfl
        rw [e] at k
        exact k
    | bl b => exact ⟨false, rfl, k⟩
    | str x => exact ⟨false, rfl, k⟩
    | non => exact ⟨false, rfl, k⟩
    | lst h => exact ⟨false, rfl, k⟩
    | tup h => exact ⟨false, rfl, k⟩
theorem one_lt (a b : Nat) : (([a] : List Nat) < [b]) ↔ a < b := by
  rw [List.cons_lt_cons_iff]
  constructor
  · rintro (h | ⟨_, h⟩)
    · exact h
    · exact absurd h (List.lt_irrefl _)
  · exact Or.inl
def nIsName : List Str := ["text", "letter"]
theorem scIsName : FnScope nIsName ["text"] (defScope sIsName) := ⟨rfl, rfl, rfl, by decide +kernel, rfl, by decide +kernel, by decide +kernel⟩
theorem ok_isName {f : Addr} {fd : FuncData} (F : Fun K "is_feed_name" "is_feed_name" sIsName f fd) (B : Blt mg) (C : Cst mg) : FnOk P w K mg base CX0 1 f fd ["text"] (spIsName K) := by
  obtain ⟨t6, h6⟩ := C.longest
  refine F.ok scIsName (fun vs H Q E h => ?_) (fun cdv A outer s H vs Q E hr h => ?_)
  · obtain ⟨v, rfl, _⟩ := h
    rfl
  · obtain ⟨z, rfl, hz, k⟩ := h
    refine ⟨_, pss_one (ps_ret (pe_and (pe_chain op_le op_le pe_int (pe_callB call_len_str (by rfl) B.len PySem.boot_len (pa_cons (pv 0) pa_nil)) (pe_glob (v := .int 6) rfl h6 ⟨_, rfl⟩))
      (pe_one (pe_callB (cr_all rfl) (by rfl) B.all (by decide +kernel) (pa_cons
        (pe_lc (own := [("letter", 1)]) (g := gName 1) (tt := tYes) (by rfl) scIsName.nd (pi_str (pv 0)) (blkOk_by (own := [("letter", 1)]) (N := nIsName) (sc := defScope sIsName) (by decide +kernel))
          (fun _ _ _ _ _ => pg_name (i := 1) scIsName.nd rfl (Or.inl rfl)) (fun _ _ _ _ _ => pts_nil)
          (fun _ _ _ _ _ => pe_chain op_le_str op_le_str pe_str (pv 1) pe_str)) pa_nil))))), ?_⟩
    have hzl : z.length = z.cps.size := rfl
    have e0 : ∀ b : Bool, (decide (1 ≤ (z.length : Int)) && decide ((z.length : Int) ≤ 6)) = b → okName z = (b && z.cps.toList.all fun c => decide (97 ≤ c) && decide (c ≤ 122)) := by
      intro b hb
      unfold okName
      rw [← hb, hzl]
      congr 1
      have a1 : decide (1 ≤ z.cps.size) = decide (1 ≤ (z.cps.size : Int)) := by apply decide_eq_decide.mpr; omega
      have a2 : decide (z.cps.size ≤ 6) = decide ((z.cps.size : Int) ≤ 6) := by apply decide_eq_decide.mpr; omega
      rw [a1, a2]
    refine ⟨_, rfl, z, rfl, Nat.le_of_lt (small1000 hz), _, _, rfl, rfl, _, rfl, ?_⟩
    refine ite2 (fun c => ?_) (fun c => ?_)
    · refine ⟨_, _, rfl, rfl, _, rfl, ?_⟩
      refine ite2 (fun c2 => ?_) (fun c2 => ?_)
      · refine ⟨_, rfl, z, rfl, fun D' nD => ?_⟩
        refine lc_it walk_str (fun i H' => Same H H' ∧ ∃ bs : List Bool, H' D' = some (.lst (bs.map V.bl)) ∧ bs.length = i ∧ bs = (z.cps.toList.take i).map fun c => decide (97 ≤ c) && decide (c ≤ 122)) ?_ (fun _ _ _ _ => trivial) ?_ ?_
        · exact ⟨Same.new (Same.refl _) nD, [], upd_same, rfl, rfl⟩
        · rintro i x H' H2 hi ⟨hS, bs, hD, hl, hb⟩ ⟨rfl, cc, hc, rfl⟩
          have hcl : z.cps.toList[i]? = some cc := by rw [Array.getElem?_toList]; exact hc
          refine ⟨rfl, _, rfl, _, _, rfl, rfl, _, rfl, ?_⟩
          have ea : (!decide (([cc] : List Nat) < [97])) = decide (97 ≤ cc) := by
            by_cases h : 97 ≤ cc
            · rw [decide_eq_true h, decide_eq_false (by rw [one_lt]; omega)]; rfl
            · rw [decide_eq_false h, decide_eq_true (by rw [one_lt]; omega)]; rfl
          have ez : (!decide (([122] : List Nat) < [cc])) = decide (cc ≤ 122) := by
            by_cases h : cc ≤ 122
            · rw [decide_eq_true h, decide_eq_false (by rw [one_lt]; omega)]; rfl
            · rw [decide_eq_false h, decide_eq_true (by rw [one_lt]; omega)]; rfl
          have push : ∀ b : Bool, b = (decide (97 ≤ cc) && decide (cc ≤ 122)) → ∃ acc, H2 D' = some (.lst acc) ∧ acc.length < sizeLine ∧ (Same H (upd H2 D' (.lst (acc ++ [.bl b]))) ∧ ∃ bs' : List Bool, (upd H2 D' (.lst (acc ++ [.bl b]))) D' = some (.lst (bs'.map V.bl)) ∧ bs'.length = i + 1 ∧ bs' = (z.cps.toList.take (i + 1)).map fun c => decide (97 ≤ c) && decide (c ≤ 122)) := by
            intro b eb
            refine ⟨_, hD, by rw [List.length_map, hl]; exact small1000 (by omega), Same.own hS nD, bs ++ [b], ?_, ?_, ?_⟩
            · rw [upd_same, List.map_append]; rfl
            · rw [List.length_append, hl]; rfl
            · rw [take_succ_of hcl, List.map_append, hb, eb]; rfl
          refine ite2 (fun c3 => ?_) (fun c3 => ?_)
          · refine ⟨_, _, rfl, rfl, push _ ?_⟩
            have c3' : (!decide (([cc] : List Nat) < [97])) = true := c3
            rw [ea] at c3'
            rw [c3']
            exact ez
          · refine push _ ?_
            have c3' : ¬ (!decide (([cc] : List Nat) < [97])) = true := c3
            rw [ea] at c3'
            rw [Bool.eq_false_iff.mpr c3']
            rfl
        · rintro H' ⟨hS, bs, hD, hl, hb⟩
          refine ⟨D', bs, rfl, SqL.of hD, ?_⟩
          have q := e0 true (by rw [c, c2]; rfl)
          have hall : bs.all id = (z.cps.toList.all fun c => decide (97 ≤ c) && decide (c ≤ 122)) := by
            rw [hb, List.take_of_length_le (by rw [Array.length_toList]; exact Nat.le_refl _), List.all_map]
            rfl
          rw [hall, ← Bool.true_and (List.all _ _), ← q]
          exact k H' hS
      · have := e0 false (by rw [c, Bool.eq_false_iff.mpr c2]; rfl)
        rw [this] at k
        exact k H (Same.refl _)
    · have := e0 false (by rw [Bool.eq_false_iff.mpr c]; rfl)
      rw [this] at k
      exact ⟨_, rfl, k H (Same.refl _)⟩
end
end Mx

set_option Elab.async false
set_option maxRecDepth 100000
set_option linter.all false
namespace Mx
open PySem L2
def NmOk (t : Tr) : Prop := ∀ n ∈ t.names, okName n = true ∧ n.cps.size ≤ 1000
def spShape (K : PySem.W.Frag) (d : Nat) : Sp := fun vs H Q _ => ∃ (v : V) (k : Int) (t : Tr), vs = [v, .int k] ∧ TrAt K H d v t ∧ t.wf d ∧ NmOk t ∧ 0 ≤ k ∧ k + d ≤ 4 ∧ ∀ H', Same H H' → Q (.bl true) H'
def spWP (K : PySem.W.Frag) (d : Nat) : Sp := fun vs H Q _ => ∃ (b : Addr) (y : V) (w k : Int) (t : Tr), vs = [.ref b, .int k] ∧ SqT K H b [.int w, y] ∧ 1 ≤ w ∧ w ≤ 9 ∧ TrAt K H d y t ∧ t.wf d ∧ NmOk t ∧ 0 ≤ k ∧ k + 1 + d ≤ 4 ∧ ∀ H', Same H H' → Q (.bl true) H'
section
variable {P : Program} {w : World} {K : PySem.W.Frag} {mg : Str → Option Value} {base : Heap}
def nShape : List Str := ["value", "around", "pair"]
theorem scShape : FnScope nShape ["value", "around"] (defScope sHasShape) := ⟨rfl, rfl, rfl, by decide +kernel, rfl, by decide +kernel, by decide +kernel⟩
theorem scWP : FnScope ["value", "around", "weight", "part"] ["value", "around"] (defScope sIsWP) := ⟨rfl, rfl, rfl, by decide +kernel, rfl, by decide +kernel, by decide +kernel⟩
theorem shape_step {d : Nat} {f fN fW : Addr} {fd fdN fdW : FuncData} (F : Def K mg "has_shape" sHasShape ["value", "around"] f fd) (B : Blt mg) (C : Cst mg) (DN : Def K mg "is_feed_name" sIsName ["text"] fN fdN) (GN : FnOk P w K mg base CX0 1 fN fdN ["text"] (spIsName K))
    (DW : Def K mg "is_weighted_part" sIsWP ["value", "around"] fW fdW) (GW : FnOk P w K mg base CX0 (2 * d + 1) fW fdW ["value", "around"] (pre (spWP K) d)) : FnOk P w K mg base CX0 (2 * d + 2) f fd ["value", "around"] (spShape K d) := by
  obtain ⟨t3, h3⟩ := C.around
  obtain ⟨t5, h5⟩ := C.parts
  refine F.fn.ok scShape (fun vs H Q E h => ?_) (fun cdv A outer s H vs Q E hr h => ?_)
  · obtain ⟨v, k, t, rfl, _⟩ := h
    rfl
  · obtain ⟨v, n, t, rfl, hT, hW, hN, hn0, hn4, k⟩ := h
    refine ⟨_, pss_cons (ps_if (pt_val (pe_callB call_isi (by rfl) B.isinstance (by decide +kernel) (pa_cons (pv 0) (pa_cons (pe_bltn (v := .ty "str") (by rfl) B.str (by decide +kernel) rfl) pa_nil))))
        (pss_one (ps_ret (pe_call GN (hr.mono (by omega)) rfl DN.mg DN.fn.kp DN.b .nil pass0 (pa_cons (pv 0) pa_nil)))) pss_nil)
      (pss_cons (ps_if (PW.pt (pw_or (pt_not (pt_val (pe_callB call_isi (by rfl) B.isinstance (by decide +kernel) (pa_cons (pv 0) (pa_cons (pe_bltn (v := .ty "tuple") (by rfl) B.tuple (by decide +kernel) rfl) pa_nil)))))
          (pw_or1 (pt_cmpR op_gt (pv 1) (pe_glob (v := .int 3) rfl h3 ⟨_, rfl⟩) (nomark _))))) (pss_one (ps_ret pe_bl)) pss_nil)
      (pss_cons (ps_if (pt_not (pt_chain op_le op_le pe_int (pe_callB call_len_seq (by rfl) B.len PySem.boot_len (pa_cons (pv 0) pa_nil)) (pe_glob (v := .int 5) rfl h5 ⟨_, rfl⟩))) (pss_one (ps_ret pe_bl)) pss_nil)
      (pss_one (ps_ret (pe_callB (cr_all rfl) (by rfl) B.all (by decide +kernel) (pa_cons
        (pe_lc (own := [("pair", 2)]) (g := gName 2) (tt := tYes) (by rfl) scShape.nd (pi_tup (pv 0)) (blkOk_by (own := [("pair", 2)]) (N := nShape) (sc := defScope sHasShape) (by decide +kernel))
          (fun _ _ _ _ _ => pg_name (i := 2) scShape.nd rfl (Or.inl rfl)) (fun _ _ _ _ _ => pts_nil)
          (fun _ _ _ _ _ => pe_call GW hr rfl DW.mg DW.fn.kp DW.b .nil pass0 (pa_cons (pv 2) (pa_cons (pv 1) pa_nil)))) pa_nil)))))), ?_⟩
    cases t with
    | feed x =>
      have hv := TrAt_feed.mp hT
      subst hv
      have hx := hN x (by rw [Tr.names_feed]; exact List.mem_cons_self)
      refine ⟨_, rfl, _, _, _, _, true, rfl, .ty _, .base (.str x), kit_ty (by decide +kernel), _, rfl, ?_⟩
      refine ⟨_, rfl, x, rfl, hx.2, fun H' hS => ?_⟩
      rw [hx.1]
      exact k H' hS
    | mix ps =>
      cases d with
      | zero => exact (TrAt_zero hT).elim
      | succ e =>
        obtain ⟨a, xs, rfl, hs, hP⟩ := TrAt_mix.mp hT
        have hw : ps ≠ [] ∧ ps.length ≤ 5 ∧ ∀ p ∈ ps, 1 ≤ p.1 ∧ p.1 ≤ 9 ∧ p.2.wf e := by unfold Tr.wf at hW; exact hW
        have hpl : 0 < ps.length := List.length_pos_iff.mpr hw.1
        refine ⟨_, rfl, _, _, _, _, false, rfl, .ty _, tyx_tup hs, kit_ty (by decide +kernel), _, rfl, ?_⟩
        refine ⟨_, rfl, _, _, _, _, true, rfl, .ty _, tyx_tup hs, kit_ty (by decide +kernel), _, rfl, ?_⟩
        refine ⟨_, rfl, _, _, rfl, rfl, _, rfl, ?_⟩
        refine ite2 (fun c => ?_) (fun c => ?_)
        · have z := of_decide_eq_true c
          omega
        refine ⟨_, rfl, a, _, rfl, .inr hs, _, _, rfl, rfl, _, rfl, ?_⟩
        refine ite2 (fun c2 => ?_) (fun c2 => ?_)
        · refine ⟨_, _, rfl, rfl, _, rfl, ?_⟩
          have e5 : decide ((xs.length : Int) ≤ 5) = true := decide_eq_true (by rw [hP.1]; omega)
          rw [e5]
          refine ⟨_, rfl, a, rfl, ⟨_, hs⟩, fun D' nD => ?_⟩
          refine lc_tup (K := K) (a := a) (xs := xs) (fun i H' => Same H H' ∧ ∃ bs : List Bool, H' D' = some (.lst (bs.map V.bl)) ∧ bs.length = i ∧ bs.all id = true) ?_ ?_ ?_ ?_
          · exact ⟨Same.new (Same.refl _) nD, [], upd_same, rfl, rfl⟩
          · rintro i H' _ ⟨hS, _⟩
            exact sqT_same hS _ _ hs
          · rintro i x H' hx ⟨hS, bs, hD, hl, hb⟩
            have hi : i < ps.length := by rw [← hP.1]; exact (List.getElem?_eq_some_iff.mp hx).1
            have hpi : ps[i]? = some ps[i] := List.getElem?_eq_getElem hi
            have hpm : ps[i] ∈ ps := List.getElem_mem hi
            obtain ⟨b, y, rfl, hb2, hy⟩ := hP.2 i x _ hx hpi
            obtain ⟨hw1, hw9, hwf⟩ := hw.2.2 _ hpm
            refine ⟨rfl, _, rfl, _, rfl, b, y, _, n, ps[i].2, rfl, sqT_same hS _ _ hb2, hw1, hw9, TrAt.keep (sqT_same hS) _ hy, hwf, ?_, hn0, by omega, fun H2 hS2 => ?_⟩
            · intro m hm
              refine hN m ?_
              rw [Tr.names_mix]
              exact List.mem_flatten.mpr ⟨_, List.mem_map.mpr ⟨_, hpm, rfl⟩, hm⟩
            · refine ⟨_, hS2 _ _ hD, by rw [List.length_map, hl]; exact small1000 (by omega), Same.own (hS.trans hS2) nD, bs ++ [true], ?_, ?_, ?_⟩
              · rw [upd_same, List.map_append]; rfl
              · rw [List.length_append, hl]; rfl
              · rw [List.all_append, hb]; rfl
          · rintro H' ⟨hS, bs, hD, hl, hb⟩
            refine ⟨D', bs, rfl, SqL.of hD, ?_⟩
            rw [hb]
            exact k H' hS
        · exact absurd (decide_eq_true (by rw [hP.1]; omega)) c2
theorem wp_step {d : Nat} {f fW fS : Addr} {fd fdW fdS : FuncData} (F : Def K mg "is_weighted_part" sIsWP ["value", "around"] f fd) (B : Blt mg) (C : Cst mg) (DW : Def K mg "is_whole" sIsWhole ["value", "low", "high"] fW fdW) (GW : FnOk P w K mg base CX0 2 fW fdW ["value", "low", "high"] (spWhole K))
    (DS : Def K mg "has_shape" sHasShape ["value", "around"] fS fdS) (GS : FnOk P w K mg base CX0 (2 * d + 2) fS fdS ["value", "around"] (spShape K d)) : FnOk P w K mg base CX0 (2 * d + 3) f fd ["value", "around"] (spWP K d) := by
  obtain ⟨t9, h9⟩ := C.weight
  refine F.fn.ok scWP (fun vs H Q E h => ?_) (fun cdv A outer s H vs Q E hr h => ?_)
  · obtain ⟨b, y, w, k, t, rfl, _⟩ := h
    rfl
  · obtain ⟨b, y, wt, n, t, rfl, hs, hw1, hw9, hT, hW, hN, hn0, hn4, k⟩ := h
    refine ⟨_, pss_cons (ps_if (PW.pt (pw_or (pt_not (pt_val (pe_callB call_isi (by rfl) B.isinstance (by decide +kernel) (pa_cons (pv 0) (pa_cons (pe_bltn (v := .ty "tuple") (by rfl) B.tuple (by decide +kernel) rfl) pa_nil)))))
          (pw_or1 (pt_cmpR op_ne (pe_callB call_len_seq (by rfl) B.len PySem.boot_len (pa_cons (pv 0) pa_nil)) pe_int (nomark _))))) (pss_one (ps_ret pe_bl)) pss_nil)
      (pss_cons (ps_asg (pv 0) (pg_tup rfl (pgs_cons (pg_name (i := 2) scWP.nd rfl (Or.inl rfl)) (pgs_cons (pg_name (i := 3) scWP.nd rfl (Or.inl rfl)) pgs_nil))))
      (pss_one (ps_ret (pe_and (pe_call GW (hr.mono (by omega)) rfl DW.mg DW.fn.kp DW.b .nil pass0 (pa_cons (pv 2) (pa_cons pe_int (pa_cons (pe_glob (v := .int 9) rfl h9 ⟨_, rfl⟩) pa_nil))))
        (pe_one (pe_call GS hr rfl DS.mg DS.fn.kp DS.b .nil pass0 (pa_cons (pv 3) (pa_cons (pe_op op_add (pv 1) pe_int) pa_nil)))))))), ?_⟩
    refine ⟨_, rfl, _, _, _, _, true, rfl, .ty _, tyx_tup hs, kit_ty (by decide +kernel), _, rfl, ?_⟩
    refine ⟨_, rfl, b, _, rfl, .inr hs, rfl, _, rfl, ?_⟩
    refine ⟨_, rfl, b, _, rfl, hs, rfl, _, _, rfl, _, _, rfl, rfl, ?_⟩
    refine ⟨_, rfl, _, _, _, rfl, .int wt, ?_⟩
    have e : whole (.int wt) 1 9 = true := by unfold whole; dsimp only; rw [decide_eq_true hw1, decide_eq_true hw9]; rfl
    refine ⟨_, rfl, ?_⟩
    rw [e]
    refine ⟨_, rfl, _, rfl, _, _, rfl, rfl, y, _, t, rfl, hT, hW, hN, by omega, by omega, k⟩
theorem ok_shape {f fN fW fH : Addr} {fd fdN fdW fdH : FuncData} (F : Def K mg "has_shape" sHasShape ["value", "around"] f fd) (B : Blt mg) (C : Cst mg) (DN : Def K mg "is_feed_name" sIsName ["text"] fN fdN) (GN : FnOk P w K mg base CX0 1 fN fdN ["text"] (spIsName K))
    (DW : Def K mg "is_weighted_part" sIsWP ["value", "around"] fW fdW) (DH : Def K mg "is_whole" sIsWhole ["value", "low", "high"] fH fdH) (GH : FnOk P w K mg base CX0 2 fH fdH ["value", "low", "high"] (spWhole K)) : ∀ d : Nat, FnOk P w K mg base CX0 (2 * d + 2) f fd ["value", "around"] (spShape K d)
  | 0 => shape_step F B C DN GN DW (DW.fn.ok (k := 0) scWP (fun _ _ _ _ h => h.elim) (fun _ _ _ _ _ _ _ _ _ h => h.elim))
  | d + 1 => shape_step F B C DN GN DW (wp_step DW B C DH GH F (ok_shape F B C DN GN DW DH GH d))
end
end Mx

set_option Elab.async false
set_option maxRecDepth 100000
set_option linter.all false
/-! len(set(xs)) of a list of texts, none of them twice -/
namespace Mx
open PySem PySem.Spec PyProof.Rows
section
variable {prog : Program} {w : World} {A : Around} {R : Result → Shared → Prop} {I : Addr} {fp wr : List Addr} {G : Array GenState → Array GenState → Prop} {n : Nat} {Py : Nat → Value → Prop} {St : Nat → Shared → Prop}
theorem set_stays {T : Addr} {h h' : Heap} {M : Str → Bool} {m : Nat} (z : h.SetOf (strKind prog w) T M m) (k : ∀ o, h.get? T = some o → h'.get? T = some o) : h'.SetOf (strKind prog w) T M m := by
  obtain ⟨ob, es, ep, tb, e, r⟩ := z
  exact ⟨ob, es, ep, tb, k _ e, r⟩
/-- the loop of set(..): each text is new, so each turn makes it longer by one -/
theorem txt_fill (W : WalksS prog w A.in1 I fp wr G n Py St) {T : Addr} (out : T ∉ fp) {xs : List Str} (hn : xs.length = n) (nd : xs.Nodup) (small : n < 1000) (isT : ∀ i v, Py i v → ∃ t x, xs[i]? = some x ∧ v = .str x t) :
    ∀ (m i : Nat) (s : Shared), i + m = n → St i s → s.heap.SetOf (strKind prog w) T (fun y => decide (y ∈ xs.take i)) i →
      (∀ s', Moved (T :: wr) G s s' → s'.heap.SetOf (strKind prog w) T (fun y => decide (y ∈ xs.take n)) n → R (.ok (.ret .none)) s') →
      codeAny (model prog w) A (.builtin "set.update.loop" ⟨[.ref T, .ref I], []⟩) R s := by
  have outw : T ∉ wr := fun q => out (W.sub _ q)
  have more : ∀ b ∈ wr, b ∈ T :: wr := fun b q => .tail _ q
  intro m
  induction m with
  | zero =>
    intro i s e st z fin
    obtain rfl : i = n := by omega
    refine codeAny_builtin F.entry_set_update_loop (by
      rw [Around.under_plainId F.plain_set_update_loop _]
      exact wpAny_bind (m := pyNext (.ref I)) (W.done s _ _ st fun s' mv => wpAny_pure (fin s' (mv.mono more) (set_stays z fun o q => mv.heap T o outw q))))
  | succ m ih =>
    intro i s e st z fin
    have lt : i < n := by omega
    refine codeAny_builtin F.entry_set_update_loop ?_
    rw [Around.under_plainId F.plain_set_update_loop _]
    refine wpAny_bind (m := pyNext (.ref I)) (W.item i s _ _ lt st fun v s' pv st' mv => ?_)
    obtain ⟨t, x, hx, rfl⟩ := isT i v pv
    have z' := set_stays (h' := s'.heap) z fun o q => mv.heap T o outw q
    refine wpAny_bind (m := holding [Value.str x t] (setAdd T (.str x t))) (wpAny_holding ?_)
    unfold setAdd
    refine wpAny_holding (wpAny_bind ((strKind prog w).pyHash (k := x) (strKind_is _ _ _ _) ?_))
    refine wpAny_setAddHashed_of (knd := strKind prog w) (s := { s' with toks := s'.toks + 1 }) (strKind_is _ _ _ _) rfl z' (by unfold scanBound; omega) fun h2 sb z2 => ?_
    have fresh : x ∉ xs.take i := fun q => by
      obtain ⟨j, hj, ej⟩ := List.mem_iff_getElem.mp q
      have hj2 : j < i := by rw [List.length_take] at hj; omega
      rw [List.getElem_take] at ej
      have hjx : xs[j]? = some x := by rw [← ej]; exact List.getElem?_eq_getElem (by omega)
      exact absurd (L2.nd_ix nd hjx hx) (by omega)
    have z3 : h2.SetOf (strKind prog w) T (fun y => decide (y ∈ xs.take (i + 1))) (i + 1) := by
      refine SetOf_congr z2 (fun y => ?_) ?_
      · rw [take_succ_of hx, Bool.eq_iff_iff]
        simp [List.mem_append]
      · rw [decide_eq_false fresh]
        rfl
    refine wpAny_pure ⟨plainId_quiet F.plain_set_update_loop _, ih (i + 1) _ (by omega) (W.frame _ s' _ _ st' (Nat.le_succ _) fun b hb o q => ?_) z3 fun s3 mv3 z4 => ?_⟩
    · exact (sb.2 b fun e => out (e ▸ hb)).trans q
    · exact fin s3 (Moved.trans W.gtrans ((mv.mono more).then_heap (Nat.le_succ _) fun b o hb q => (sb.2 b fun e => hb (by rw [e]; exact .head _)).trans q) mv3) z4
end
end Mx

set_option Elab.async false
set_option maxRecDepth 100000
set_option linter.all false
namespace Mx
open PySem PySem.Spec PyProof.Rows
section
variable {prog : Program} {w : World} {A : Around} {E : Value → Shared → Prop} {s : Shared}
abbrev freshSet (led : Bool) : Obj := { cls := .type "set", dict := none, data := .set #[] 0 (.fresh 0 0 led) }
set_option maxHeartbeats 4000000 in
/-- set(xs) of a list of texts, none twice -/
theorem txt_set {l : Addr} {items : Array Value} {xs : List Str} {Q : Value → Shared → Prop} (hh : A.handled = none) (hl : s.heap.IsList l items) (hn : xs.length = items.size) (nd : xs.Nodup) (small : items.size < 1000)
    (isT : ∀ (i : Nat) (v : Value), items[i]? = some v → ∃ (t : Tok) (x : Str), xs[i]? = some x ∧ v = Value.str x t)
    (fin : ∀ (h' : Heap) (tk : Nat), h'.SetOf (strKind prog w) s.heap.objs.size (fun y => decide (y ∈ xs.take items.size)) items.size → (∀ b o, b < s.heap.objs.size → s.heap.get? b = some o → h'.get? b = some o) → Q (.ref s.heap.objs.size) { s with heap := h', toks := tk }) :
    wpAny (model prog w) A (call (.type "set") [.ref l]) Q E s := by
  have ct := PySem.F.called_set
  obtain ⟨c0, tl0, mro0⟩ := ct.mro
  have k1 := ct.made
  have k2 := ct.sub
  have k3 := ct.notType
  have k4 := ct.canCreate
  have k5 := PySem.F.typeCall_set_1 (.ref l)
  have k6 := ct.init.lookup
  refine wpAny_call (codeAny_of_tree (show wpAny _ _ (callAny (.type "set") _) _ _ _ from wpAny_pure ⟨Code.quiet_builtin _ (by decide +kernel), codeAny_builtin PySem.F.entry_type_call ?_⟩))
  rw [Around.under_plain (weight_type_call_type "set" [Value.ref l] ([] : List (Str × Value))) rfl]; repeat (any_goals (first | assumption | wp_step))
  refine codeAny_mono (code_set_new_1 (.ref l) (E := E) (Q₁ := fun obj s1 => ∃ led : Bool, obj = .ref s.heap.objs.size ∧ s1 = { s with heap := s.heap.push (freshSet led) }) fun led => ⟨led, rfl, rfl⟩) fun r s1 hr => ?_
  match r, hr with
  | .error e, hr => exact hr
  | .ok .next, hr => exact hr.elim
  | .ok .brk, hr => exact hr.elim
  | .ok .cont, hr => exact hr.elim
  | .ok (.ret obj), hr =>
    obtain ⟨led, rfl, rfl⟩ := hr
    have isS : (s.heap.push (freshSet led)).get? s.heap.objs.size = some (freshSet led) := Heap.get?_push_size _ rfl
    have tyS : Shared.TypeIs { s with heap := s.heap.push (freshSet led) } (.ref s.heap.objs.size) "set" := ⟨_, isS, rfl⟩
    have k7 := ct.init.bind (.ref s.heap.objs.size)
    repeat (any_goals (first | assumption | wp_step))
    obtain ⟨Z, hZ⟩ : ∃ Z : Shared → Prop, Z = fun s2 => ∃ h' tk, s2 = { s with heap := h', toks := tk } ∧ h'.SetOf (strKind prog w) s.heap.objs.size (fun y => decide (y ∈ xs.take items.size)) items.size ∧ (∀ b o, b < s.heap.objs.size → s.heap.get? b = some o → h'.get? b = some o) := ⟨_, rfl⟩
    refine codeAny_mono (codeAny_call_builtin (R := wants (fun r s2 => r = .none ∧ Z s2) E) ct.init.plain PySem.F.entry_set_init (check_set_init_1 tyS ?_)) fun r2 s2 hr2 => ?_
    · obtain ⟨⟨oc, od, odt, osl⟩, ho, hc, nl, hd⟩ := hl
      simp only at hc hd
      subst hc hd
      have ho2 : (s.heap.push (freshSet led)).get? l = some { cls := .type "list", dict := od, data := .seq items nl, slots := osl } := Heap.get?_push_of_some _ ho
      have isL : (s.heap.push (freshSet led)).IsList l items := ⟨_, ho2, rfl, nl, rfl⟩
      have f1 := PySem.F.sub_list_set
      have f2 := PySem.F.sub_list_frozenset
      have f3 : (Value.type "list" == Value.type "dict") = false := by decide
      have lt : l < s.heap.objs.size := Heap.lt_size ho
      unfold Builtin.«set.__init__» noKeywords Builtin.Frozenset.updateFrom; generalize hPI : pyIter = PI; wp_walk; subst hPI
      refine wpAny_pyIter_list isL ?_; refine wpAny_bind (wpAny_runValue ?_)
      have sz : (s.heap.push (freshSet led)).objs.size = s.heap.objs.size + 1 := Heap.size_push _ _
      have ne1 : l ≠ (s.heap.push (freshSet led)).objs.size := by rw [sz]; exact Nat.ne_of_lt (Nat.lt_of_lt_of_le lt (Nat.le_succ _))
      refine txt_fill ((Walks.list (show A.in1.in1.in1.handled = none by simp [hh]) _ l ne1 items).toS) (T := s.heap.objs.size) ?_ hn nd small isT items.size 0 _ (Nat.zero_add _) ⟨⟨_, Heap.get?_push_size _ rfl, rfl, rfl⟩, isL.push _⟩ ?_ ?_
      · rw [sz]
        intro q
        rcases List.mem_cons.mp q with q | q
        · exact Nat.ne_of_lt (Nat.lt_succ_self _) q
        · rw [List.mem_singleton] at q
          exact Nat.ne_of_gt lt q
      · have g := Heap.get?_push_of_some (h := s.heap.push (freshSet led)) { cls := .type "list_iterator", data := .fields #[.ref l, .int 0 0] } isS
        exact SetOf_congr ((setObjOf_fresh (knd := strKind prog w) led).setOf g (by unfold scanBound; omega)) (fun _ => by simp) rfl
      · rintro ⟨h2, g2, d2, tk2, os2⟩ mv zz
        obtain rfl : g2 = s.gens := mv.gens
        obtain rfl : d2 = s.drawn := mv.drawn
        obtain rfl : os2 = s.os := mv.os
        show wpAny _ _ _ _ _ _
        refine wpAny_pure (wpAny_pure ⟨rfl, ?_⟩)
        rw [hZ]
        refine ⟨h2, tk2, rfl, zz, fun b o hb e => mv.heap b o ?_ (Heap.get?_push_of_some _ (Heap.get?_push_of_some _ e))⟩
        rw [sz]
        intro q
        rcases List.mem_cons.mp q with q | q
        · exact Nat.ne_of_lt hb q
        · rw [List.mem_singleton] at q
          exact Nat.ne_of_lt (Nat.lt_of_lt_of_le hb (Nat.le_succ _)) q
    · match r2, hr2 with
      | .error e, hr2 => exact hr2
      | .ok .next, hr2 => exact hr2.elim
      | .ok .brk, hr2 => exact hr2.elim
      | .ok .cont, hr2 => exact hr2.elim
      | .ok (.ret u), hr2 =>
        obtain ⟨rfl, z2⟩ := hr2
        rw [hZ] at z2
        obtain ⟨h2, tk2, rfl, z3, z4⟩ := z2
        repeat (any_goals (first | assumption | wp_step))
        exact fin _ _ z3 z4
end
end Mx

set_option Elab.async false
set_option maxRecDepth 100000
set_option linter.all false
namespace Mx
open PySem L2
section
variable {X : Cx}
/-- len(set(xs)), xs a list of texts, none twice -/
def tLenSetN (K : PySem.W.Frag) (ta : TE) : TE := fun σ H Q => ta σ H fun x H1 => ∃ (l : Addr) (xs : List Str), x = .ref l ∧ SqL K H1 l (xs.map V.str) ∧ xs.Nodup ∧ xs.length < 1000 ∧ Q (.int ((xs.length : Nat) : Int)) H1
theorem strs_get : ∀ {xs : List Str} {us : List Value}, Vals (xs.map V.str) us → ∀ (i : Nat) (v : Value), us[i]? = some v → ∃ (t : Tok) (x : Str), xs[i]? = some x ∧ v = Value.str x t
  | [], _, .nil, i, v, h => by simp at h
  | x :: r, _, .cons q t, 0, v, h => by
    obtain ⟨k, rfl⟩ := q
    cases h
    exact ⟨k, x, rfl, rfl⟩
  | x :: r, _, .cons q t, i + 1, v, h => strs_get (xs := r) t i v (by simpa using h)
open PySem.Spec PyProof.Rows in
theorem pe_lenSetN {a : Expr} {ta : TE} {p p2 q pos : PySem.Pos} (hc : X.calm = true) (hg : Gl X "len") (hm : X.mg "len" = none) (hg2 : Gl X "set") (hm2 : X.mg "set" = none) (ha : PE X a ta)
    (na : starEach [a] X.env = (false, eval a X.env) :: starEach [] X.env := by rfl) : PE X (.Call (.Name "len" p) [.Call (.Name "set" p2) [a] [] q] [] pos) (tLenSetN X.K ta) := by
  refine ⟨fun pins s σ H Q I h => Call_ (ld_blt I hg hm boot_len (PyProof.Rows.callWith_builtin1 (PyProof.Rows.args_cons (Call_ (ld_blt I hg2 hm2 boot_set ?_)) rfl) rfl rfl))⟩
  refine PyProof.Rows.callWith_type1 (PyProof.Rows.args_cons (thn (ha.run pins s σ H _ I h) fun v s1 hh => PyProof.Rows.args_nil ?_) na) na rfl
  obtain ⟨x, H1, I1, r1, l, xs, rfl, hq, nd, hlen, q1⟩ := hh
  cases r1
  obtain ⟨its, r, pl, _⟩ := I1.list hq
  have hsz : xs.length = its.toArray.size := by rw [List.size_toArray, ← r.length, List.length_map]
  refine txt_set (I1.ok.hd hc) pl.isList hsz nd (by omega) (fun i v e => strs_get r i v (by simpa using e)) fun h2 tk zz keep => PyProof.Rows.args_nil ?_
  have I2 : Inv X pins σ H1 { s1 with heap := h2, toks := tk } := I1.kept fun b o e => keep b o (Heap.lt_size e) e
  rw [← hsz] at zz
  obtain ⟨o, es, ep, t, ho, hex, hd, _, _, _, hf, hn⟩ := zz
  exact call_len_set ho hex hd hf (by rw [hn]; omega) ⟨.int ((xs.length : Nat) : Int), H1, I2.tok _, ⟨_, by rw [hn]⟩, q1⟩
end
structure TreeV (t : Tr) : Prop where
  wf : t.wf 4
  nd : t.names.Nodup
  len : t.names.length ≤ 8
  nm : NmOk t
theorem TreeOk.v {t : Tr} (h : TreeOk t) : TreeV t := ⟨h.wf, h.nd, h.len, fun n hn => ⟨U_name n (h.mem n hn), by
  have z := U_name n (h.mem n hn)
  unfold okName at z
  rw [Bool.and_eq_true, Bool.and_eq_true] at z
  have := of_decide_eq_true z.1.2
  omega⟩⟩
def spIsTree (K : PySem.W.Frag) : Sp := fun vs H Q _ => ∃ (v : V) (t : Tr), vs = [v] ∧ TrAt K H 4 v t ∧ TreeV t ∧ ∀ H', Same H H' → Q (.bl true) H'
def spReqTree (K : PySem.W.Frag) : Sp := fun vs H Q _ => ∃ (v : V) (t : Tr), vs = [v] ∧ TrAt K H 4 v t ∧ TreeV t ∧ ∀ H', Same H H' → Q .non H'
def spFeedsOf (K : PySem.W.Frag) : Sp := fun vs H Q _ => ∃ (v : V) (t : Tr), vs = [v] ∧ TrAt K H 4 v t ∧ TreeV t ∧
  ∀ (p : Addr) (H' : Hp), Same H H' → H p = none → H' p = some (.lst (t.names.map V.str)) → Q (.ref p) H'
section
variable {P : Program} {w : World} {K : PySem.W.Frag} {mg : Str → Option Value} {base : Heap}
theorem scNamesIn : FnScope ["tree", "names", "weight", "part"] ["tree"] (defScope sNamesIn) := ⟨rfl, rfl, rfl, by decide +kernel, rfl, by decide +kernel, by decide +kernel⟩
theorem namesIn_step {d : Nat} {f : Addr} {fd : FuncData} (F : Def K mg "names_in" sNamesIn ["tree"] f fd) (B : Blt mg) (GR : FnOk P w K mg base CX0 (d + 1) f fd ["tree"] (pre (spNames K) d)) :
    FnOk P w K mg base CX0 (d + 2) f fd ["tree"] (spNames K d) := by
  refine F.fn.ok scNamesIn (fun vs H Q E h => ?_) (fun cdv A outer s H vs Q E hr h => ?_)
  · obtain ⟨v, t, rfl, _⟩ := h
    rfl
  · obtain ⟨v, t, rfl, hT, hW, hL, k⟩ := h
    refine ⟨_, pss_cons (ps_if (pt_val (pe_callB call_isi (by rfl) B.isinstance (by decide +kernel) (pa_cons (pv 0) (pa_cons (pe_bltn (v := .ty "str") (by rfl) B.str (by decide +kernel) rfl) pa_nil))))
        (pss_one (ps_ret (pe_lst (pa_cons (pv 0) pa_nil)))) pss_nil)
      (pss_cons (ps_set (i := 1) scNamesIn.nd rfl (Or.inl rfl) (pe_lst pa_nil))
      (pss_cons (ps_for PassesOwn.never rfl (pi_tup (pv 0)) (pg_tup rfl (pgs_cons (pg_name (i := 2) scNamesIn.nd rfl (Or.inl rfl)) (pgs_cons (pg_name (i := 3) scNamesIn.nd rfl (Or.inl rfl)) pgs_nil)))
        (pss_one (ps_expr (pe_bm PySem.F.plainAttrs_list PySem.F.slot_list_extend PySem.F.type_list_extend mt_extend (pv 1) (pa_cons (pe_call GR hr rfl F.mg F.fn.kp F.b .nil pass0 (pa_cons (pv 3) pa_nil)) pa_nil)))))
      (pss_one (ps_ret (pv 1))))), ?_⟩
    cases t with
    | feed n =>
      have hv := TrAt_feed.mp hT
      subst hv
      refine ⟨_, rfl, _, _, _, _, true, rfl, .ty _, .base (.str n), kit_ty (by decide +kernel), _, rfl, ?_⟩
      refine ⟨_, rfl, by show 1 ≤ sizeLine; decide, fun p np => ?_⟩
      refine k p _ (Same.new (Same.refl _) np) np ?_
      rw [upd_same, Tr.names_feed]
      rfl
    | mix ps =>
      cases d with
      | zero => exact (TrAt_zero hT).elim
      | succ e =>
        obtain ⟨a, xs, rfl, hs, hP⟩ := TrAt_mix.mp hT
        have hw : ps ≠ [] ∧ ps.length ≤ 5 ∧ ∀ p ∈ ps, 1 ≤ p.1 ∧ p.1 ≤ 9 ∧ p.2.wf e := by unfold Tr.wf at hW; exact hW
        rw [Tr.names_mix] at hL
        refine ⟨_, rfl, _, _, _, _, false, rfl, .ty _, tyx_tup hs, kit_ty (by decide +kernel), _, rfl, ?_⟩
        refine ⟨Nat.zero_le _, fun p0 np0 => ?_⟩
        refine ⟨_, rfl, a, rfl, ⟨_, sqT_same (Same.new (Same.refl _) np0) _ _ hs⟩, for_tup (K := K) (a := a) (xs := xs) (fun i σ H' => ∃ (v2 v3 : Option V), σ = [some (.ref a), some (.ref p0), v2, v3] ∧ Same H H' ∧
          H' p0 = some (.lst ((((ps.take i).map fun p => p.2.names).flatten).map V.str))) ?_ ?_ ?_ ?_⟩
        · exact ⟨none, none, rfl, Same.new (Same.refl _) np0, upd_same⟩
        · rintro i σ H' _ ⟨v2, v3, _, hS, _⟩
          exact sqT_same hS _ _ hs
        · rintro i x σ H' hx ⟨v2, v3, rfl, hS, hp⟩
          have hi : i < ps.length := by rw [← hP.1]; exact (List.getElem?_eq_some_iff.mp hx).1
          have hpi : ps[i]? = some ps[i] := List.getElem?_eq_getElem hi
          obtain ⟨b, y, rfl, hb, hy⟩ := hP.2 i x _ hx hpi
          have hle := flat_len (ps := ps) (i := i + 1)
          rw [flat_succ hpi, List.length_append] at hle
          refine ⟨b, _, rfl, sqT_same hS _ _ hb, rfl, _, _, rfl, _, _, rfl, rfl, ?_⟩
          refine ⟨_, rfl, .inl ⟨rfl, _, SqL.of hp⟩, _, rfl, y, ps[i].2, rfl, TrAt.keep (sqT_same hS) _ hy, (hw.2.2 _ (List.getElem_mem hi)).2.2, by omega, fun q H2 hS2 nq hq => ?_⟩
          refine ⟨p0, q, _, _, rfl, rfl, hS2 _ _ hp, hq, ?_, ?_⟩
          · rw [List.length_map, List.length_map]
            exact Nat.le_of_lt (small1000 (by omega))
          · refine ⟨_, _, rfl, Same.own (hS.trans hS2) np0, ?_⟩
            rw [upd_same, flat_succ hpi, List.map_append]
        · rintro σ H' ⟨v2, v3, rfl, hS, hp⟩
          refine ⟨_, rfl, k p0 H' hS np0 ?_⟩
          rw [hp, Tr.names_mix, List.take_of_length_le (by rw [hP.1]; exact Nat.le_refl _)]
theorem ok_namesIn {f : Addr} {fd : FuncData} (F : Def K mg "names_in" sNamesIn ["tree"] f fd) (B : Blt mg) : ∀ d : Nat, FnOk P w K mg base CX0 (d + 2) f fd ["tree"] (spNames K d)
  | 0 => namesIn_step F B (F.fn.ok (k := 0) scNamesIn (fun _ _ _ _ h => h.elim) (fun _ _ _ _ _ _ _ _ _ h => h.elim))
  | d + 1 => namesIn_step F B (ok_namesIn F B d)
theorem scIsTree : FnScope ["value", "names"] ["value"] (defScope sIsTree) := ⟨rfl, rfl, rfl, by decide +kernel, rfl, by decide +kernel, by decide +kernel⟩
theorem ok_isTree {f fS fN : Addr} {fd fdS fdN : FuncData} (F : Fun K "is_tree" "is_tree" sIsTree f fd) (B : Blt mg) (C : Cst mg) (DS : Def K mg "has_shape" sHasShape ["value", "around"] fS fdS) (GS : FnOk P w K mg base CX0 10 fS fdS ["value", "around"] (spShape K 4))
    (DN : Def K mg "names_in" sNamesIn ["tree"] fN fdN) (GN : FnOk P w K mg base CX0 6 fN fdN ["tree"] (spNames K 4)) : FnOk P w K mg base CX0 11 f fd ["value"] (spIsTree K) := by
  obtain ⟨t8, h8⟩ := C.feeds
  refine F.ok scIsTree (fun vs H Q E h => ?_) (fun cdv A outer s H vs Q E hr h => ?_)
  · obtain ⟨v, t, rfl, _⟩ := h
    rfl
  · obtain ⟨v, t, rfl, hT, hV, k⟩ := h
    refine ⟨_, pss_cons (ps_if (pt_not (pt_val (pe_call GS hr rfl DS.mg DS.fn.kp DS.b .nil pass0 (pa_cons (pv 0) (pa_cons pe_int pa_nil))))) (pss_one (ps_ret pe_bl)) pss_nil)
      (pss_cons (ps_set (i := 1) scIsTree.nd rfl (Or.inl rfl) (pe_call GN (hr.mono (by decide)) rfl DN.mg DN.fn.kp DN.b .nil pass0 (pa_cons (pv 0) pa_nil)))
      (pss_one (ps_ret (pe_and (pe_cmpR op_le (pe_callB call_len_seq (by rfl) B.len PySem.boot_len (pa_cons (pv 1) pa_nil)) (pe_glob (v := .int 8) rfl h8 ⟨_, rfl⟩) (nomark _))
        (pe_one (pe_cmpR op_eq (pe_lenSetN rfl (by rfl) B.len (by rfl) B.set (pv 1)) (pe_callB call_len_seq (by rfl) B.len PySem.boot_len (pa_cons (pv 1) pa_nil)) (nomark _))))))), ?_⟩
    refine ⟨_, rfl, v, _, t, rfl, hT, hV.wf, hV.nm, by decide, by decide, fun H1 S1 => ⟨_, rfl, ?_⟩⟩
    refine ⟨_, rfl, v, t, rfl, TrAt.keep (sqT_same S1) _ hT, hV.wf, by have := hV.len; omega, fun p H2 S2 np hp => ?_⟩
    refine ⟨_, rfl, p, _, rfl, .inl (SqL.of hp), _, _, rfl, rfl, _, rfl, ?_⟩
    have e8 : decide (((t.names.map V.str).length : Int) ≤ 8) = true := decide_eq_true (by rw [List.length_map]; have := hV.len; omega)
    rw [e8]
    refine ⟨_, rfl, p, _, rfl, SqL.of hp, hV.nd, by have := hV.len; omega, ?_⟩
    refine ⟨_, rfl, p, _, rfl, .inl (SqL.of hp), rfl, ?_⟩
    have e9 : decide (V.int ((t.names.length : Nat) : Int) = V.int (((t.names.map V.str).length : Nat) : Int)) = true := decide_eq_true (by rw [List.length_map])
    rw [e9]
    exact k H2 (S1.trans S2)
theorem scReqTree : FnScope ["value"] ["value"] (defScope sReqTree) := ⟨rfl, rfl, rfl, by decide +kernel, rfl, by decide +kernel, by decide +kernel⟩
theorem ok_reqTree {f fT : Addr} {fd fdT : FuncData} (F : Fun K "require_tree" "require_tree" sReqTree f fd) (DT : Def K mg "is_tree" sIsTree ["value"] fT fdT) (GT : FnOk P w K mg base CX0 11 fT fdT ["value"] (spIsTree K)) : FnOk P w K mg base CX0 12 f fd ["value"] (spReqTree K) := by
  refine F.ok scReqTree (fun vs H Q E h => ?_) (fun cdv A outer s H vs Q E hr h => ?_)
  · obtain ⟨v, t, rfl, _⟩ := h
    rfl
  · obtain ⟨v, t, rfl, hT, hV, k⟩ := h
    refine ⟨_, pss_one (ps_if (pt_not (pt_val (pe_call GT hr rfl DT.mg DT.fn.kp DT.b .nil pass0 (pa_cons (pv 0) pa_nil)))) (pss_one ps_never) pss_nil), ?_⟩
    refine ⟨_, rfl, v, t, rfl, hT, hV, fun H1 S1 => ⟨_, rfl, ?_⟩⟩
    exact k H1 S1
end
end Mx

set_option Elab.async false
set_option maxRecDepth 100000
set_option linter.all false
/-! dict(zip(names, numbers)), the first a list, the second a tuple -/
namespace Mx
open PySem PySem.Spec PyProof.Rows
section
variable {prog : Program} {w : World} {A : Around} {E : Value → Shared → Prop} {s : Shared} {z TI TO i1 i2 T : Addr} {fp1 fp2 : List Addr} {n i : Nat} {P1 P2 : Nat → Value → Prop} {St1 St2 : Nat → Heap → Prop} {f : Bool} {oT : Obj}
/-- the next pair, while the pair before it is still in use -/
theorem zh_item {Q : Value → Shared → Prop} (S : ZipSep2 z TI TO i1 i2 fp1 fp2) (D1 : Draws prog w A i1 fp1 n P1 St1) (D2 : Draws prog w A i2 fp2 n P2 St2) (hz : IsZipHeld s.heap z TI TO T f) (hT : s.heap.get? T = some oT) (hTI : IsPair s.heap TI (.ref i1) (.ref i2))
    (a1 : St1 i s.heap) (a2 : St2 i s.heap) (lt : i < n)
    (fin : ∀ x y h' tk, P1 i x → P2 i y → IsZipHeld h' z TI TO T true → St1 (i + 1) h' → St2 (i + 1) h' → IsPair h' s.heap.objs.size x y → (∀ c o, c ≠ z → c ≠ i1 → c ≠ i2 → s.heap.get? c = some o → h'.get? c = some o) → Q (.ref s.heap.objs.size) { s with heap := h', toks := tk }) :
    wpAny (model prog w) A (Builtin.«zip.__next__» ⟨[.ref z], []⟩) (fun r s' => ∃ v, r = .done (.ret v) ∧ Q v s') E s := by
  obtain ⟨hp, g, d, tk0, os⟩ := s
  refine wpAny_bind (m := field (.ref z) 2) (wpAny_field hz rfl (x := .bool false) rfl (wpAny_bind (m := field (.ref z) 3) (wpAny_field hz rfl (x := .ref TI) rfl (wpAny_bind (wpAny_seqItems hTI rfl ?_)))))
  refine wpAny_bind (m := Builtin.SmallTypes.ownedTupleIsFree (.ref z)) (wpAny_tupleHeld_zip hz hT fun g1 z1 q1 => ?_)
  replace q1 : Heap.SameBut z hp g1 := q1
  simp only [Bool.false_eq_true, if_false]; refine wpAny_bind ?_; rw [← Array.forIn_toList]; simp only [List.forIn_cons, List.forIn_nil]
  refine wpAny_bind (wpAny_bind (wpAny_holding (wpAny_bind (m := Builtin.SmallTypes.nextOf (.ref i1)) (D1.item i ⟨g1, g, d, tk0, os⟩ _ _ lt (D1.over a1 q1 S.zf1) fun x g2 tk1 px b1 q2 => wpAny_pure (wpAny_pure ?_)))))
  replace q2 : Heap.SameBut i1 g1 g2 := q2
  refine wpAny_bind (wpAny_bind (wpAny_holding (wpAny_bind (m := Builtin.SmallTypes.nextOf (.ref i2)) (D2.item i ⟨g2, g, d, tk1, os⟩ _ _ lt (D2.over (D2.over a2 q1 S.zf2) q2 S.sep1_2) fun y g3 tk2 py b2 q3 => wpAny_pure (wpAny_pure (wpAny_pure ?_))))))
  replace q3 : Heap.SameBut i2 g2 g3 := q3
  refine wpAny_bind (m := newTuple [x, y]) (wpAny_newTuple (wpAny_pure ⟨_, rfl, ?_⟩))
  have sz : g3.objs.size = hp.objs.size := by rw [q3.1, q2.1, q1.1]
  have up : ∀ c o, g3.get? c = some o → (g3.push { cls := .type "tuple", data := .seq #[x, y] }).get? c = some o := fun c o e => Heap.get?_push_of_some _ e
  have kk : ∀ c o, c ≠ z → c ≠ i1 → c ≠ i2 → hp.get? c = some o → g3.get? c = some o := fun c o e1 e2 e3 e => q3.extBut _ _ e3 (q2.extBut _ _ e2 (q1.extBut _ _ e1 e))
  have pr : IsPair (g3.push { cls := .type "tuple", data := .seq #[x, y] }) g3.objs.size x y := Heap.get?_push_size _ rfl
  show Q (.ref g3.objs.size) _
  rw [sz] at pr ⊢
  exact fin x y _ tk2 px py (up _ _ (q3.extBut _ _ S.zi2 (q2.extBut _ _ S.zi1 z1))) (D1.frame _ _ _ (D1.over b1 q3 S.sep2_1) fun b _ o e => up b o e) (D2.frame _ _ _ b2 fun b _ o e => up b o e) pr fun c o e1 e2 e3 e => up c o (kk c o e1 e2 e3 e)
/-- no pair is left -/
theorem zh_end {Q : PySem.Fin → Shared → Prop} (S : ZipSep2 z TI TO i1 i2 fp1 fp2) (D1 : Draws prog w A i1 fp1 n P1 St1) (hz : IsZipHeld s.heap z TI TO T f) (hT : s.heap.get? T = some oT) (hTI : IsPair s.heap TI (.ref i1) (.ref i2)) (a1 : St1 n s.heap)
    (fin : ∀ h' e, (∀ c o, c ≠ z → c ≠ i1 → c ≠ i2 → s.heap.get? c = some o → h'.get? c = some o) → (∃ o, h'.get? e = some o ∧ o.cls = .type "StopIteration") → E (.ref e) { s with heap := h' }) :
    wpAny (model prog w) A (Builtin.«zip.__next__» ⟨[.ref z], []⟩) Q E s := by
  obtain ⟨hp, g, d, tk0, os⟩ := s
  refine wpAny_bind (m := field (.ref z) 2) (wpAny_field hz rfl (x := .bool false) rfl (wpAny_bind (m := field (.ref z) 3) (wpAny_field hz rfl (x := .ref TI) rfl (wpAny_bind (wpAny_seqItems hTI rfl ?_)))))
  refine wpAny_bind (m := Builtin.SmallTypes.ownedTupleIsFree (.ref z)) (wpAny_tupleHeld_zip hz hT fun g1 z1 q1 => ?_)
  replace q1 : Heap.SameBut z hp g1 := q1
  simp only [Bool.false_eq_true, if_false]; refine wpAny_bind ?_; rw [← Array.forIn_toList]; simp only [List.forIn_cons, List.forIn_nil]
  refine wpAny_bind (wpAny_bind (wpAny_holding (wpAny_bind (m := Builtin.SmallTypes.nextOf (.ref i1)) (D1.done ⟨g1, g, d, tk0, os⟩ _ _ (D1.over a1 q1 S.zf1) fun g2 e q2 he => ?_))))
  exact fin g2 e (fun c o e1 e2 _ x => q2 _ _ e2 (q1.extBut _ _ e1 x)) he
theorem zn_item {Q : Option Value → Shared → Prop} (S : ZipSep2 z TI TO i1 i2 fp1 fp2) (D1 : Draws prog w A.in1 i1 fp1 n P1 St1) (D2 : Draws prog w A.in1 i2 fp2 n P2 St2) (hz : IsZipHeld s.heap z TI TO T f) (hT : s.heap.get? T = some oT) (hTI : IsPair s.heap TI (.ref i1) (.ref i2))
    (a1 : St1 i s.heap) (a2 : St2 i s.heap) (lt : i < n)
    (fin : ∀ x y h' tk, P1 i x → P2 i y → IsZipHeld h' z TI TO T true → St1 (i + 1) h' → St2 (i + 1) h' → IsPair h' s.heap.objs.size x y → (∀ c o, c ≠ z → c ≠ i1 → c ≠ i2 → s.heap.get? c = some o → h'.get? c = some o) → Q (some (.ref s.heap.objs.size)) { s with heap := h', toks := tk }) :
    wpAny (model prog w) A (pyNext (.ref z)) Q E s := by
  have ty : s.TypeIs (.ref z) "zip" := ⟨_, hz, rfl⟩
  unfold pyNext
  exact wpAny_bind (wpAny_attempt (wpAny_callSpecial?_slot (name := Str.ofString "__next__") ty PySem.F.slot_zip_next (wpAny_call_entry PySem.F.slot_zip_next ty PySem.F.entry_zip_next (zh_item S D1 D2 hz hT hTI a1 a2 lt fun x y h' tk b1 b2 b3 b4 b5 b6 b7 => wpAny_pure (fin x y h' tk b1 b2 b3 b4 b5 b6 b7)) (PySem.F.args_zip_next_1 _))))
theorem zn_end {Q : Option Value → Shared → Prop} (S : ZipSep2 z TI TO i1 i2 fp1 fp2) (D1 : Draws prog w A.in1 i1 fp1 n P1 St1) (hz : IsZipHeld s.heap z TI TO T f) (hT : s.heap.get? T = some oT) (hTI : IsPair s.heap TI (.ref i1) (.ref i2)) (a1 : St1 n s.heap)
    (fin : ∀ h', (∀ c o, c ≠ z → c ≠ i1 → c ≠ i2 → s.heap.get? c = some o → h'.get? c = some o) → Q none { s with heap := h' }) : wpAny (model prog w) A (pyNext (.ref z)) Q E s := by
  have ty : s.TypeIs (.ref z) "zip" := ⟨_, hz, rfl⟩
  unfold pyNext
  refine wpAny_bind (wpAny_attempt (wpAny_callSpecial?_slot (name := Str.ofString "__next__") ty PySem.F.slot_zip_next (wpAny_call_entry PySem.F.slot_zip_next ty PySem.F.entry_zip_next (zh_end S D1 hz hT hTI a1 fun h' e k he => ?_) (PySem.F.args_zip_next_1 _))))
  obtain ⟨o, ho, hc⟩ := he
  exact wpAny_bind (wpAny_isInstance (T := "StopIteration") (b := true) ⟨o, ho, hc⟩ isSubtype_stop (wpAny_pure (fin _ k)))
/-- zip over two such, as the argument of dict -/
theorem zip_arg {A0 : Around} (h0 : A0.handled = none) (S : ZipSep2 z TI TO i1 i2 fp1 fp2) (D1 : ∀ A : Around, A.handled = none → Draws prog w A i1 fp1 n P1 St1) (D2 : ∀ A : Around, A.handled = none → Draws prog w A i2 fp2 n P2 St2)
    (v1 : ∀ h, St1 0 h → ∀ b ∈ fp1, ∃ o, h.get? b = some o) (v2 : ∀ h, St2 0 h → ∀ b ∈ fp2, ∃ o, h.get? b = some o) :
    PairArg prog w "zip" z (z :: TI :: TO :: (fp1 ++ fp2)) [z, TO, i1, i2] n (fun i k v => P1 i k ∧ P2 i v) (fun h => IsZip h z TI TO .none ∧ IsPair h TI (.ref i1) (.ref i2) ∧ (∃ a b, IsPair h TO a b) ∧ St1 0 h ∧ St2 0 h) where
  type := fun s ok => ⟨_, ok.1, rfl⟩
  notDict := by decide
  keep := fun h h' ok hk => by
    obtain ⟨o1, o2, ⟨a, b, o3⟩, o4, o5⟩ := ok
    exact ⟨hk _ _ o1, hk _ _ o2, ⟨a, b, hk _ _ o3⟩, (D1 A0 h0).frame _ _ _ o4 fun b _ o e => hk b o e, (D2 A0 h0).frame _ _ _ o5 fun b _ o e => hk b o e⟩
  there := fun h ok b hb => by
    obtain ⟨o1, o2, ⟨a, c, o3⟩, o4, o5⟩ := ok
    rcases List.mem_cons.mp hb with rfl | hb
    · exact ⟨_, o1⟩
    rcases List.mem_cons.mp hb with rfl | hb
    · exact ⟨_, o2⟩
    rcases List.mem_cons.mp hb with rfl | hb
    · exact ⟨_, o3⟩
    rcases List.mem_append.mp hb with hb | hb
    · exact v1 h o4 b hb
    · exact v2 h o5 b hb
  sub := fun b hb => by
    simp only [List.mem_cons, List.not_mem_nil, or_false] at hb
    rcases hb with rfl | rfl | rfl | rfl
    · exact .head _
    · exact .tail _ (.tail _ (.head _))
    · exact .tail _ (.tail _ (.tail _ (List.mem_append_left _ S.mem1)))
    · exact .tail _ (.tail _ (.tail _ (List.mem_append_right _ S.mem2)))
  noKeys := fun A s Q E hA ok h => getAttrOr_miss_zip ok.1 rfl rfl rfl zip_no_keys (by decide +kernel) hA h
  iter := fun A s d Q E hA ok hd hdf h => by
    obtain ⟨o1, o2, ⟨a, b, o3⟩, o4, o5⟩ := ok
    have dz : d ≠ z := fun e => hdf (e ▸ .head _)
    have dTI : d ≠ TI := fun e => hdf (e ▸ .tail _ (.head _))
    have dTO : d ≠ TO := fun e => hdf (e ▸ .tail _ (.tail _ (.head _)))
    have df1 : ∀ c ∈ fp1, c ≠ d := fun c hc e => hdf (e ▸ .tail _ (.tail _ (.tail _ (List.mem_append_left _ hc))))
    have df2 : ∀ c ∈ fp2, c ≠ d := fun c hc e => hdf (e ▸ .tail _ (.tail _ (.tail _ (List.mem_append_right _ hc))))
    have hA1 : A.in1.handled = none := hA
    refine wpAny_pyIter_zip o1 (h z [z, TO, i1, i2] (fun i h => IsPair h TI (.ref i1) (.ref i2) ∧ St1 i h ∧ St2 i h ∧
      ((IsZip h z TI TO .none ∧ ∃ a b, IsPair h TO a b) ∨ ∃ T f oT, IsZipHeld h z TI TO T f ∧ h.get? T = some oT ∧ T ≠ z ∧ T ≠ i1 ∧ T ≠ i2 ∧ T ≠ d)) s.heap s.toks ?_ ⟨o2, o4, o5, .inl ⟨o1, a, b, o3⟩⟩ (fun _ _ e => e) fun b hb => .inl hb)
    refine ⟨fun hm => ?_, fun i h1 h2 st hk => ?_, fun i s1 Q1 E1 hi st hds hQ => ?_, fun s1 Q1 E1 st hQ => ?_⟩
    · simp only [List.mem_cons, List.not_mem_nil, or_false] at hm
      rcases hm with e | e | e | e
      · exact dz e
      · exact dTO e
      · exact df1 i1 S.mem1 e.symm
      · exact df2 i2 S.mem2 e.symm
    · obtain ⟨t1, t2, t3, t4⟩ := st
      refine ⟨hk _ _ dTI.symm t1, (D1 A hA).frame _ _ _ t2 fun b hb o e => hk b o (df1 b hb) e, (D2 A hA).frame _ _ _ t3 fun b hb o e => hk b o (df2 b hb) e, ?_⟩
      rcases t4 with ⟨t4, a, b, t5⟩ | ⟨T, f, oT, t4, t5, r1, r2, r3, r4⟩
      · exact .inl ⟨hk _ _ dz.symm t4, a, b, hk _ _ dTO.symm t5⟩
      · exact .inr ⟨T, f, oT, hk _ _ dz.symm t4, hk _ _ r4 t5, r1, r2, r3, r4⟩
    · obtain ⟨t1, t2, t3, t4⟩ := st
      have new : ∀ {c o}, s1.heap.get? c = some o → s1.heap.objs.size ≠ c := fun e => Nat.ne_of_gt (Heap.lt_size e)
      have n1 : s1.heap.objs.size ≠ i1 := let ⟨_, e⟩ := (D1 A hA).live _ _ t2; new e
      have n2 : s1.heap.objs.size ≠ i2 := let ⟨_, e⟩ := (D2 A hA).live _ _ t3; new e
      rcases t4 with ⟨t4, a, b, t5⟩ | ⟨T, f, oT, t4, t5, r1, r2, r3, r4⟩
      · refine wpAny_pyNext_zipD2_item S (D1 A.in1 hA1) (D2 A.in1 hA1) t4 t1 t5 t2 t3 hi hi fun x y h' tk px py c1 c2 c3 c4 c5 c6 hk => ?_
        exact hQ s1.heap.objs.size x y h' tk ⟨px, py⟩ (.inl ⟨_, c5, rfl, _, rfl⟩) ⟨hk _ _ S.TIz S.TITO S.TIi1 S.TIi2 t1, c3, c4, .inr ⟨s1.heap.objs.size, false, _, c1, c5, new t4, n1, n2, Nat.ne_of_gt hds⟩⟩
          fun c o hc e => hk c o (fun q => hc (by simp [q])) (fun q => hc (by simp [q])) (fun q => hc (by simp [q])) (fun q => hc (by simp [q])) e
      · refine zn_item S (D1 A.in1 hA1) (D2 A.in1 hA1) t4 t5 t1 t2 t3 hi fun x y h' tk px py c1 c3 c4 c5 hk => ?_
        exact hQ s1.heap.objs.size x y h' tk ⟨px, py⟩ (.inl ⟨_, c5, rfl, _, rfl⟩) ⟨hk _ _ S.TIz S.TIi1 S.TIi2 t1, c3, c4, .inr ⟨T, true, oT, c1, hk _ _ r1 r2 r3 t5, r1, r2, r3, r4⟩⟩
          fun c o hc e => hk c o (fun q => hc (by simp [q])) (fun q => hc (by simp [q])) (fun q => hc (by simp [q])) e
    · obtain ⟨t1, t2, t3, t4⟩ := st
      rcases t4 with ⟨t4, a, b, t5⟩ | ⟨T, f, oT, t4, t5, r1, r2, r3, r4⟩
      · refine wpAny_pyNext_zipD2_end S (D1 A.in1 hA1) (D2 A.in1 hA1) t4 t1 t5 t2 t3 (Nat.le_refl _) (Nat.le_refl _) (.inl rfl) fun h' tk hk => ?_
        exact hQ h' tk fun c o hc e => hk c o (fun q => hc (by simp [q])) (fun q => hc (by simp [q])) (fun q => hc (by simp [q])) (fun q => hc (by simp [q])) e
      · refine zn_end S (D1 A.in1 hA1) t4 t5 t1 t2 fun h' hk => ?_
        exact hQ h' s1.toks fun c o hc e => hk c o (fun q => hc (by simp [q])) (fun q => hc (by simp [q])) (fun q => hc (by simp [q])) e
end
section
open L2
variable {X : Cx}
/-- dict(zip(a, b)), a a list of texts, b a tuple of as many -/
def tDictZip (K : PySem.W.Frag) (ta : TA) : TE := fun σ H Q => ta σ H fun vs H1 => ∃ (l t : Addr) (ks : List Str) (ys : List V), vs = [.ref l, .ref t] ∧ SqL K H1 l (ks.map V.str) ∧ SqT K H1 t ys ∧ ks.length = ys.length ∧
  ∀ p, H1 p = none → Q (.ref p) (L2.upd H1 p (.dK (mergeK [] ((ks.map Sum.inr).zip ys))))
theorem kv_zip : ∀ {ks : List Str} {ys : List V} {us : List Value}, Vals ys us → KV ((ks.map (Sum.inr : Str → Key)).zip ys) ((ks.map (Sum.inr : Str → Key)).zip us)
  | [], _, _, _ => .nil
  | k :: r, _, _, .nil => .nil
  | k :: r, _, _, .cons q t => .cons ⟨rfl, q⟩ (kv_zip (ks := r) t)
theorem zip_get {α β : Type} : ∀ {a : List α} {b : List β} {i : Nat} {x : α} {y : β}, a[i]? = some x → b[i]? = some y → (a.zip b)[i]? = some (x, y)
  | [], _, _, _, _, h, _ => by simp at h
  | _ :: _, [], _, _, _, _, h => by simp at h
  | a :: r, b :: t, 0, x, y, h1, h2 => by cases h1; cases h2; rfl
  | a :: r, b :: t, i + 1, x, y, h1, h2 => zip_get (a := r) (b := t) (i := i) (by simpa using h1) (by simpa using h2)
theorem pe_dictZip {a b : Expr} {ta : TA} {p p2 q pos : PySem.Pos} (hc : X.calm = true) (hg : Gl X "dict") (hm : X.mg "dict" = none) (hg2 : Gl X "zip") (hm2 : X.mg "zip" = none) (ha : PA X [a, b] ta)
    (h1 : starEach [.Call (.Name "zip" p2) [a, b] [] q] X.env = (false, eval (.Call (.Name "zip" p2) [a, b] [] q) X.env) :: starEach [] X.env := by rfl)
    (h2 : starEach [a, b] X.env = (false, eval a X.env) :: starEach [b] X.env := by rfl) (h3 : (backTo q (starEach [b] X.env)).any (·.1) = false := by rfl) :
    PE X (.Call (.Name "dict" p) [.Call (.Name "zip" p2) [a, b] [] q] [] pos) (tDictZip X.K ta) := by
  refine ⟨fun pins s σ H Q I h => Call_ (ld_blt I hg hm PyProof.Rows.boot_dict (PyProof.Rows.callWith_type1 (PyProof.Rows.args_cons (Call_ (ld_blt I hg2 hm2 PyProof.Rows.boot_zip (PyProof.Rows.callWith_type1 (thn (ha.run q pins s σ H _ I h) fun us s1 hh => ?_) h2 h3))) h1) h1 rfl))⟩
  obtain ⟨vs, H1, I1, r1, l, t, ks, ys, rfl, hq, hqt, hlen, q1⟩ := hh
  obtain ⟨u1, u2, rfl, r2, r3⟩ := vals2 r1
  cases r2
  cases r3
  obtain ⟨its, rv, pl, _⟩ := I1.list hq
  obtain ⟨its2, rv2, pt, _⟩ := I1.tuple hqt
  have pt' : s1.heap.IsTuple t its2.toArray := pt
  have hd := I1.ok.hd hc
  have ltl : l < s1.heap.objs.size := pl.lt
  have ltt : t < s1.heap.objs.size := by obtain ⟨o, ho, _⟩ := id pt'; exact Heap.lt_size ho
  refine zip_begins2 (begins_list l its.toArray) (begins_tuple t its2.toArray) pl.isList pt' fun g zz tI tO j1 j2 sz keep => ?_
  refine PyProof.Rows.args_nil ?_
  have e1 : its.toArray.size = ks.length := by rw [List.size_toArray, ← rv.length, List.length_map]
  have e2 : its2.toArray.size = ks.length := by rw [List.size_toArray, ← rv2.length, hlen]
  have S := zip_sep2 (N := s1.heap.objs.size) (fp1 := [l]) (fp2 := [t]) (fun b hb => by rw [List.mem_singleton] at hb; rw [hb]; exact ltl) (fun b hb => by rw [List.mem_singleton] at hb; rw [hb]; exact ltt)
  have D1 : ∀ A : Around, A.handled = none → Draws X.prog X.w A s1.heap.objs.size [s1.heap.objs.size, l] ks.length (fun i v => its.toArray[i]? = some v) (fun i h => h.IsListIter s1.heap.objs.size l i ∧ h.IsList l its.toArray) := fun A hA => e1 ▸ Draws.list hA _ l (Nat.ne_of_lt ltl) its.toArray
  have D2 : ∀ A : Around, A.handled = none → Draws X.prog X.w A (s1.heap.objs.size + 1) [s1.heap.objs.size + 1, t] ks.length (fun i v => its2.toArray[i]? = some v) (fun i h => h.IsTupleIter (s1.heap.objs.size + 1) t i ∧ h.IsTuple t its2.toArray) := fun A hA => e2 ▸ Draws.tuple hA _ t (Nat.ne_of_lt (Nat.lt_of_lt_of_le ltt (Nat.le_succ _))) its2.toArray
  have P := zip_arg (prog := X.prog) (w := X.w) hd S D1 D2 (fun h st b hb => by
      obtain ⟨⟨o1, g1, _⟩, ⟨o2, g2, _⟩⟩ := st
      rcases List.mem_cons.mp hb with rfl | hb
      · exact ⟨_, g1⟩
      · rw [List.mem_singleton] at hb; rw [hb]; exact ⟨_, g2⟩) (fun h st b hb => by
      obtain ⟨⟨o1, g1, _⟩, ⟨o2, g2, _⟩⟩ := st
      rcases List.mem_cons.mp hb with rfl | hb
      · exact ⟨_, g1⟩
      · rw [List.mem_singleton] at hb; rw [hb]; exact ⟨_, g2⟩)
  have prel : KV ((ks.map (Sum.inr : Str → Key)).zip ys) ((ks.map (Sum.inr : Str → Key)).zip its2) := kv_zip rv2
  have plen : ((ks.map (Sum.inr : Str → Key)).zip its2).length = ks.length := by
    rw [List.length_zip, List.length_map]
    rw [List.size_toArray] at e2
    omega
  refine PySem.call_dict_pairs (knd := mixKind X.prog X.w) (kvs := (ks.map (Sum.inr : Str → Key)).zip its2) (s := { s1 with heap := g }) P hd ⟨zz, tI, ⟨_, _, tO⟩, ⟨⟨_, j1, rfl, rfl⟩, pl.isList.at fun o e => keep _ o e⟩, ⟨⟨_, j2, rfl, rfl⟩, pt'.at fun o e => keep _ o e⟩⟩ ⟨plen, fun i key v ⟨hk, hv⟩ => ?_⟩ ?_ fun h' tk dd kp => ?_
  · obtain ⟨tk, x, hx, rfl⟩ := strs_get rv i key (by simpa using hk)
    exact ⟨Sum.inr x, zip_get (by rw [List.getElem?_map, hx]; rfl) (by simpa using hv), mixKind_str _ _ _ _⟩
  · obtain ⟨_, _, _, hz⟩ := I1.list hq
    rw [List.length_map] at hz
    exact hz
  · obtain ⟨_, _, _, hz⟩ := I1.list hq
    rw [List.length_map] at hz
    have old : ∀ b o, s1.heap.get? b = some o → h'.get? b = some o := fun b o e => kp b o (fun hb => by
      have lt := Heap.lt_size e
      simp only [List.mem_cons, List.not_mem_nil, or_false] at hb
      rcases hb with z | z | z | z <;> (rw [z] at lt; exact absurd lt (Nat.not_lt.mpr (by first | exact Nat.le_refl _ | exact Nat.le_add_right _ _)))) (keep b o e)
    have big : s1.heap.objs.size ≤ g.objs.size := by rw [sz]; exact Nat.le_add_right _ _
    have nm : (g.objs.size == sysModules) = false := beq_eq_false_iff_ne.mpr (Nat.ne_of_gt (Nat.lt_of_lt_of_le I1.big big))
    have few : (mergeK [] ((ks.map (Sum.inr : Str → Key)).zip ys)).length ≤ sizeLine := by
      refine Nat.le_trans (length_mergeK _ []) ?_
      rw [List.length_nil, Nat.zero_add, prel.length, plen]
      exact hz
    exact ⟨.ref g.objs.size, L2.upd H1 g.objs.size (.dK (mergeK [] ((ks.map Sum.inr).zip ys))), I1.laid (t' := tk) old big (show ObjOk X.prog X.w _ _ _ (.dK (mergeK [] ((ks.map Sum.inr).zip ys))) from ⟨few, nm, _, KV.merge prel .nil, dd⟩), rfl, q1 _ (I1.hok.fresh big)⟩
end
end Mx

set_option Elab.async false
set_option maxRecDepth 100000
set_option linter.all false
namespace Mx
open PySem L2
theorem merge_new : ∀ (more acc : List (Key × V)), (more.map Prod.fst).Nodup → (∀ p ∈ more, valV acc p.1 = none) → mergeK acc more = acc ++ more
  | [], acc, _, _ => by rw [List.append_nil]; rfl
  | p :: r, acc, nd, h => by
    have nd' := List.nodup_cons.mp (show (p.1 :: r.map Prod.fst).Nodup from nd)
    show mergeK (putK acc p.1 p.2) r = _
    rw [putK_new p.2 (h p List.mem_cons_self), merge_new r (acc ++ [(p.1, p.2)]) nd'.2 fun q hq => ?_, List.append_assoc]
    · rfl
    · rw [valV_snoc p.1 q.1 p.2 acc (h p List.mem_cons_self), if_neg fun e => nd'.1 (List.mem_map.mpr ⟨q, hq, e⟩)]
      exact h q (List.mem_cons_of_mem _ hq)
def tab (ns : List Str) (ls : List Int) : List (Key × V) := (ns.map (Sum.inr : Str → Key)).zip (ls.map V.int)
theorem tab_keys (ns : List Str) (ls : List Int) (h : ns.length = ls.length) : (tab ns ls).map Prod.fst = ns.map (Sum.inr : Str → Key) := by
  unfold tab
  rw [List.map_fst_zip (by rw [List.length_map, List.length_map]; omega)]
theorem tab_merge {ns : List Str} {ls : List Int} (h : ns.length = ls.length) (nd : ns.Nodup) : mergeK [] (tab ns ls) = tab ns ls := by
  rw [merge_new (tab ns ls) [] ?_ fun p _ => rfl, List.nil_append]
  rw [tab_keys ns ls h]
  exact List.Pairwise.map _ (fun a b hab e => hab (Sum.inr.inj e)) nd
theorem tab_val : ∀ {ns : List Str} {ls : List Int} {n : Str}, ns.length = ls.length → n ∈ ns → ∃ l ∈ ls, valV (tab ns ls) (Sum.inr n) = some (.int l)
  | [], _, n, _, h => by cases h
  | m :: r, [], n, h, _ => by simp at h
  | m :: r, l :: t, n, h, hn => by
    by_cases e : m = n
    · exact ⟨l, List.mem_cons_self, by rw [e]; exact valV_pos rfl⟩
    · have hn' : n ∈ r := by
        rcases List.mem_cons.mp hn with z | z
        · exact absurd z.symm e
        · exact z
      obtain ⟨x, hx, ex⟩ := tab_val (ns := r) (ls := t) (n := n) (by simpa using h) hn'
      refine ⟨x, List.mem_cons_of_mem _ hx, ?_⟩
      rw [← ex]
      exact valV_neg (fun z => e (Sum.inr.inj z))
/-- the feeds' lengths by their names -/
def Lof (ns : List Str) (ls : List Int) (n : Str) : Nat := match valV (tab ns ls) (Sum.inr n) with
  | some (.int i) => i.toNat
  | _ => 0
theorem Lof_val {ns : List Str} {ls : List Int} {n : Str} (h : ns.length = ls.length) (hn : n ∈ ns) (h0 : ∀ l ∈ ls, 0 ≤ l) : valV (tab ns ls) (Sum.inr n) = some (.int (Lof ns ls n : Nat)) := by
  obtain ⟨l, hl, e⟩ := tab_val h hn
  unfold Lof
  rw [e, Int.toNat_of_nonneg (h0 l hl)]
theorem Lof_le {ns : List Str} {ls : List Int} {n : Str} {m : Nat} (h : ns.length = ls.length) (hn : n ∈ ns) (h0 : ∀ l ∈ ls, 0 ≤ l ∧ l ≤ m) : Lof ns ls n ≤ m := by
  obtain ⟨l, hl, e⟩ := tab_val h hn
  unfold Lof
  rw [e]
  have := h0 l hl
  show l.toNat ≤ m
  omega
theorem tot_map {ps : List (Int × Tr)} {L : Str → Nat} (h : ∀ p ∈ ps, (p.2.out L).length = (p.2.names.map L).sum) : tot (ps.map fun p => (p.1.toNat, p.2.out L)) = (((ps.map fun p => p.2.names).flatten).map L).sum := by
  induction ps with
  | nil => rfl
  | cons p r ih =>
    rw [List.map_cons, tot_cons, ih fun q hq => h q (List.mem_cons_of_mem _ hq), List.map_cons, List.flatten_cons, List.map_append, List.sum_append, ← h p List.mem_cons_self]
theorem wf_pos {d : Nat} {ps : List (Int × Tr)} {L : Str → Nat} (h : (Tr.mix ps).wf (d + 1)) : Pos (ps.map fun p => (p.1.toNat, p.2.out L)) := by
  unfold Tr.wf at h
  intro q hq
  obtain ⟨p, hp, rfl⟩ := List.mem_map.mp hq
  have := (h.2.2 p hp).1
  show 1 ≤ p.1.toNat
  omega
theorem out_len {L : Str → Nat} : ∀ (d : Nat) {t : Tr}, t.wf d → (t.out L).length = (t.names.map L).sum
  | d, .feed n, _ => by rw [Tr.out_feed, Tr.names_feed, List.length_map, List.length_range]; simp
  | 0, .mix ps, h => by unfold Tr.wf at h; exact h.elim
  | d + 1, .mix ps, h => by
    rw [Tr.out_mix, Tr.names_mix, len_R (wf_pos h)]
    refine tot_map fun p hp => ?_
    unfold Tr.wf at h
    exact out_len d (h.2.2 p hp).2.2
theorem sum_le {L : Str → Nat} {m : Nat} : ∀ {ns : List Str}, (∀ n ∈ ns, L n ≤ m) → (ns.map L).sum ≤ ns.length * m
  | [], _ => by simp
  | n :: r, h => by
    rw [List.map_cons, List.sum_cons, List.length_cons, Nat.succ_mul]
    have h1 := h n List.mem_cons_self
    have h2 := sum_le (ns := r) fun x hx => h x (List.mem_cons_of_mem _ hx)
    omega
/-- lengths that go with a tree -/
structure LenOk (t : Tr) (ls : List Int) : Prop where
  len : ls.length = t.names.length
  le : ∀ l ∈ ls, 0 ≤ l ∧ l ≤ 60
theorem LenOk.val {t : Tr} {ls : List Int} (h : LenOk t ls) : ∀ n ∈ t.names, valV (tab t.names ls) (Sum.inr n) = some (.int (Lof t.names ls n : Nat)) := fun n hn => Lof_val h.len.symm hn fun l hl => (h.le l hl).1
theorem LenOk.small {t : Tr} {ls : List Int} (h : LenOk t ls) : ∀ n ∈ t.names, Lof t.names ls n ≤ 60 := fun n hn => Lof_le h.len.symm hn h.le
theorem LenOk.out {t : Tr} {ls : List Int} (h : LenOk t ls) (v : TreeV t) : (t.out (Lof t.names ls)).length ≤ 480 := by
  rw [out_len 4 v.wf]
  have h1 := sum_le h.small
  have h2 := v.len
  have h3 : t.names.length * 60 ≤ 8 * 60 := Nat.mul_le_mul_right _ h2
  omega
end Mx

set_option Elab.async false
set_option maxRecDepth 100000
set_option linter.all false
/-! names in lists, parts with a name -/
namespace Mx
open PySem L2
theorem inV_strs {n : Str} : ∀ {ns : List Str}, inV (.str n) (ns.map V.str) = decide (n ∈ ns)
  | [] => rfl
  | m :: r => by
    show (eqV (.str m) (.str n) || inV (.str n) (r.map V.str)) = _
    rw [inV_strs]
    show ((m == n) || _) = _
    by_cases e : m = n
    · subst e; simp
    · have e' : n ≠ m := fun z => e z.symm
      simp [e, e']
theorem inV_other {x : V} (h : ∀ n, x ≠ .str n) : ∀ {ns : List Str}, inV x (ns.map V.str) = false
  | [] => rfl
  | m :: r => by
    show (eqV (.str m) x || inV x (r.map V.str)) = _
    rw [inV_other h (ns := r)]
    cases x with
    | str n => exact absurd rfl (h n)
    | _ => rfl
theorem flat_strs {ns : List Str} : (ns.map V.str).all flatV = true := by
  rw [List.all_eq_true]
  intro x hx
  obtain ⟨n, _, rfl⟩ := List.mem_map.mp hx
  rfl
theorem first_part {n : Str} : ∀ {ps : List (Int × Tr)}, (∃ P ∈ ps, n ∈ P.2.names) → ∃ (i : Nat) (P : Int × Tr), ps[i]? = some P ∧ n ∈ P.2.names ∧ ∀ (j : Nat) (Q : Int × Tr), j < i → ps[j]? = some Q → n ∉ Q.2.names
  | [], h => by obtain ⟨_, h, _⟩ := h; cases h
  | p :: r, h => by
    by_cases e : n ∈ p.2.names
    · exact ⟨0, p, rfl, e, fun j Q hj => absurd hj (Nat.not_lt_zero _)⟩
    · obtain ⟨P, hP, hn⟩ := h
      obtain ⟨i, P', h1, h2, h3⟩ := first_part (n := n) (ps := r) (by
        rcases List.mem_cons.mp hP with z | z
        · rw [z] at hn; exact absurd hn e
        · exact ⟨P, z, hn⟩)
      refine ⟨i + 1, P', by simpa using h1, h2, fun j Q hj hQ => ?_⟩
      cases j with
      | zero => cases hQ; exact e
      | succ j => exact h3 j Q (by omega) (by simpa using hQ)
theorem part_of {n : Str} {ps : List (Int × Tr)} (h : n ∈ (Tr.mix ps).names) : ∃ P ∈ ps, n ∈ P.2.names := by
  rw [Tr.names_mix] at h
  obtain ⟨l, hl, hn⟩ := List.mem_flatten.mp h
  obtain ⟨P, hP, rfl⟩ := List.mem_map.mp hl
  exact ⟨P, hP, hn⟩
theorem part_len {ps : List (Int × Tr)} {P : Int × Tr} (hP : P ∈ ps) : P.2.names.length ≤ (Tr.mix ps).names.length := by
  rw [Tr.names_mix]
  exact (List.sublist_flatten_of_mem (List.mem_map.mpr ⟨P, hP, rfl⟩ : P.2.names ∈ ps.map fun p => p.2.names)).length_le
end Mx

set_option Elab.async false
set_option maxRecDepth 100000
set_option linter.all false
/-! the order of the items in an output -/
namespace Mx
section
variable {α β : Type}
theorem rnd0_map (f : α → β) (rows : Rows α) : rnd0 (rows.map fun r => (r.1, r.2.map f)) = (rnd0 rows).map f := by
  induction rows with
  | nil => rfl
  | cons r rest ih => rw [List.map_cons, rnd0_cons, rnd0_cons, List.map_append, ih]; simp [List.map_take]
theorem dropw_map (f : α → β) (rows : Rows α) : dropw (rows.map fun r => (r.1, r.2.map f)) = (dropw rows).map fun r => (r.1, r.2.map f) := by
  unfold dropw
  simp [List.map_map, Function.comp_def, List.map_drop]
theorem rds_map (f : α → β) : ∀ (n : Nat) (rows : Rows α), rds n (rows.map fun r => (r.1, r.2.map f)) = (rds n rows).map f
  | 0, _ => rfl
  | n + 1, rows => by
    show rnd0 _ ++ rds n _ = (rnd0 rows ++ rds n (dropw rows)).map f
    rw [rnd0_map, dropw_map, rds_map f n, List.map_append]
theorem tot_rmap (f : α → β) (rows : Rows α) : tot (rows.map fun r => (r.1, r.2.map f)) = tot rows := by
  unfold tot
  simp [List.map_map, Function.comp_def]
theorem R_map (f : α → β) (rows : Rows α) : R (rows.map fun r => (r.1, r.2.map f)) = (R rows).map f := by
  unfold R
  rw [tot_rmap, rds_map]
/-- all items of the rows -/
def flat (rows : Rows α) : List α := (rows.map (·.2)).flatten
theorem flat_cons (r : Nat × List α) (rest : Rows α) : flat (r :: rest) = r.2 ++ flat rest := rfl
theorem rnd0_perm : ∀ rows : Rows α, List.Perm (rnd0 rows ++ flat (dropw rows)) (flat rows)
  | [] => List.Perm.refl _
  | r :: rest => by
    rw [rnd0_cons, dropw_cons, flat_cons, flat_cons]
    show List.Perm ((r.2.take r.1 ++ rnd0 rest) ++ (r.2.drop r.1 ++ flat (dropw rest))) (r.2 ++ flat rest)
    have h1 : List.Perm ((r.2.take r.1 ++ rnd0 rest) ++ (r.2.drop r.1 ++ flat (dropw rest))) (r.2.take r.1 ++ (r.2.drop r.1 ++ (rnd0 rest ++ flat (dropw rest)))) := by
      rw [List.append_assoc, ← List.append_assoc (rnd0 rest), ← List.append_assoc (r.2.drop r.1)]
      exact List.Perm.append_left _ (List.Perm.append_right _ List.perm_append_comm)
    refine h1.trans ?_
    rw [← List.append_assoc, List.take_append_drop]
    exact List.Perm.append_left _ (rnd0_perm rest)
theorem flat_nil {rows : Rows α} (h : tot rows = 0) : flat rows = [] := by
  have : (flat rows).length = tot rows := by unfold flat tot; simp [List.length_flatten, List.map_map, Function.comp_def]
  exact List.length_eq_zero_iff.mp (by omega)
theorem R_perm : ∀ (n : Nat) {rows : Rows α}, Pos rows → tot rows ≤ n → List.Perm (R rows) (flat rows)
  | 0, rows, _, h => by rw [R_zero (by omega), flat_nil (by omega)]
  | n + 1, rows, hp, h => by
    rcases Nat.eq_zero_or_pos (tot rows) with z | z
    · rw [R_zero z, flat_nil z]
    · have := tot_dropw hp z
      rw [R_unfold hp]
      exact (List.Perm.append_left _ (R_perm n hp.drop (by omega))).trans (rnd0_perm rows)
/-- ahead by the round, the row, the place -/
def Ahead (W : Nat → Nat) (a b : Nat × Nat) : Prop := a.2 / W a.1 < b.2 / W b.1 ∨ (a.2 / W a.1 = b.2 / W b.1 ∧ (a.1 < b.1 ∨ (a.1 = b.1 ∧ a.2 < b.2)))
theorem Ahead.irrefl {W : Nat → Nat} {a : Nat × Nat} : ¬ Ahead W a a := by
  unfold Ahead
  omega
theorem Ahead.asymm {W : Nat → Nat} {a b : Nat × Nat} (h : Ahead W a b) : ¬ Ahead W b a := by
  unfold Ahead at *
  omega
abbrev Tg (α : Type) := Nat × Nat × α
abbrev tk (y : Tg α) : Nat × Nat := (y.1, y.2.1)
/-- rows of tagged items, t rounds gone, the first row is the s-th -/
def Iv (W : Nat → Nat) (t s : Nat) (rows : Rows (Tg α)) : Prop := ∀ j r, rows[j]? = some r → r.1 = W (s + j) ∧ 1 ≤ r.1 ∧ ∀ k y, r.2[k]? = some y → y.1 = s + j ∧ y.2.1 = r.1 * t + k
theorem Iv.tail {W : Nat → Nat} {t s : Nat} {r : Nat × List (Tg α)} {rest : Rows (Tg α)} (h : Iv W t s (r :: rest)) : Iv W t (s + 1) rest := fun j q hq => by
  obtain ⟨h1, h2, h3⟩ := h (j + 1) q (by simpa using hq)
  have e : s + (j + 1) = s + 1 + j := by omega
  rw [e] at h1 h3
  exact ⟨h1, h2, h3⟩
theorem Iv.drop {W : Nat → Nat} {t s : Nat} {rows : Rows (Tg α)} (h : Iv W t s rows) : Iv W (t + 1) s (dropw rows) := fun j q hq => by
  unfold dropw at hq
  rw [List.getElem?_map] at hq
  obtain ⟨r, hr, rfl⟩ := Option.map_eq_some_iff.mp hq
  obtain ⟨h1, h2, h3⟩ := h j r hr
  refine ⟨h1, h2, fun k y hy => ?_⟩
  have hy' : r.2[r.1 + k]? = some y := by
    have : (r.2.drop r.1)[k]? = some y := hy
    rw [List.getElem?_drop] at this
    exact this
  obtain ⟨e1, e2⟩ := h3 _ _ hy'
  refine ⟨e1, ?_⟩
  show y.2.1 = r.1 * (t + 1) + k
  rw [e2, Nat.mul_succ]
  omega
theorem Iv.rnd {W : Nat → Nat} {t : Nat} : ∀ {s : Nat} {rows : Rows (Tg α)}, Iv W t s rows → ((rnd0 rows).Pairwise fun a b => Ahead W (tk a) (tk b)) ∧ ∀ y ∈ rnd0 rows, y.2.1 / W y.1 = t ∧ s ≤ y.1
  | s, [], _ => ⟨List.Pairwise.nil, fun y hy => by cases hy⟩
  | s, r :: rest, h => by
    obtain ⟨p1, p2⟩ := Iv.rnd h.tail
    obtain ⟨h1, h2, h3⟩ := h 0 r rfl
    have inT : ∀ k y, (r.2.take r.1)[k]? = some y → y.1 = s ∧ y.2.1 = r.1 * t + k ∧ k < r.1 := fun k y hy => by
      have hk : k < r.1 := by
        have := (List.getElem?_eq_some_iff.mp hy).1
        rw [List.length_take] at this
        omega
      rw [List.getElem?_take_of_lt hk] at hy
      obtain ⟨e1, e2⟩ := h3 k y hy
      exact ⟨e1, e2, hk⟩
    have rd : ∀ k, k < r.1 → (r.1 * t + k) / r.1 = t := fun k hk => by
      rw [Nat.mul_add_div (by omega), Nat.div_eq_of_lt hk]
      omega
    have inM : ∀ y ∈ r.2.take r.1, y.2.1 / W y.1 = t ∧ y.1 = s := fun y hy => by
      obtain ⟨k, hk⟩ := List.mem_iff_getElem?.mp hy
      obtain ⟨e1, e2, e3⟩ := inT k y hk
      have e4 : W y.1 = r.1 := by rw [e1, h1]; rfl
      exact ⟨by rw [e4, e2, rd k e3], e1⟩
    rw [rnd0_cons]
    refine ⟨List.pairwise_append.mpr ⟨?_, p1, fun a ha b hb => ?_⟩, fun y hy => ?_⟩
    · rw [List.pairwise_iff_getElem]
      intro i j hi hj hij
      obtain ⟨a1, a2, a3⟩ := inT i _ (List.getElem?_eq_getElem hi)
      obtain ⟨b1, b2, b3⟩ := inT j _ (List.getElem?_eq_getElem hj)
      obtain ⟨a4, _⟩ := inM _ (List.getElem_mem hi)
      obtain ⟨b4, _⟩ := inM _ (List.getElem_mem hj)
      refine .inr ⟨a4.trans b4.symm, .inr ⟨a1.trans b1.symm, ?_⟩⟩
      show ((r.2.take r.1)[i]).2.1 < ((r.2.take r.1)[j]).2.1
      rw [a2, b2]
      omega
    · obtain ⟨a1, a2⟩ := inM a ha
      obtain ⟨b1, b2⟩ := p2 b hb
      refine .inr ⟨a1.trans b1.symm, .inl ?_⟩
      show a.1 < b.1
      omega
    · rcases List.mem_append.mp hy with hy | hy
      · obtain ⟨a1, a2⟩ := inM y hy
        exact ⟨a1, by omega⟩
      · obtain ⟨b1, b2⟩ := p2 y hy
        exact ⟨b1, by omega⟩
theorem Iv.rds {W : Nat → Nat} : ∀ (n : Nat) {t : Nat} {rows : Rows (Tg α)}, Iv W t 0 rows → ((rds n rows).Pairwise fun a b => Ahead W (tk a) (tk b)) ∧ ∀ y ∈ rds n rows, t ≤ y.2.1 / W y.1
  | 0, _, _, _ => ⟨List.Pairwise.nil, fun y hy => by cases hy⟩
  | n + 1, t, rows, h => by
    obtain ⟨p1, p2⟩ := h.rnd
    obtain ⟨q1, q2⟩ := Iv.rds n h.drop
    show ((rnd0 rows ++ Mx.rds n (dropw rows)).Pairwise _) ∧ _
    refine ⟨List.pairwise_append.mpr ⟨p1, q1, fun a ha b hb => .inl ?_⟩, fun y hy => ?_⟩
    · show a.2.1 / W a.1 < b.2.1 / W b.1
      have := (p2 a ha).1
      have := q2 b hb
      omega
    · rcases List.mem_append.mp hy with hy | hy
      · have := (p2 y hy).1
        omega
      · have := q2 y hy
        omega
def tag (rows : Rows α) : Rows (Tg α) := rows.mapIdx fun i r => (r.1, r.2.mapIdx fun p x => (i, p, x))
def wt (rows : Rows α) (i : Nat) : Nat := ((rows[i]?).map (·.1)).getD 1
theorem tag_get {rows : Rows α} {i : Nat} {q : Nat × List (Tg α)} (h : (tag rows)[i]? = some q) : ∃ r, rows[i]? = some r ∧ q = (r.1, r.2.mapIdx fun p x => (i, p, x)) := by
  unfold tag at h
  rw [List.getElem?_mapIdx] at h
  obtain ⟨r, hr, rfl⟩ := Option.map_eq_some_iff.mp h
  exact ⟨r, hr, rfl⟩
theorem tag_un (rows : Rows α) : (tag rows).map (fun r => (r.1, r.2.map fun y => y.2.2)) = rows := by
  apply List.ext_getElem?
  intro i
  unfold tag
  rw [List.getElem?_map, List.getElem?_mapIdx]
  cases h : rows[i]? with
  | none => rfl
  | some r =>
    simp only [Option.map_some]
    congr 1
    have : (r.2.mapIdx fun p x => (i, p, x)).map (fun y : Tg α => y.2.2) = r.2 := by
      apply List.ext_getElem?
      intro k
      rw [List.getElem?_map, List.getElem?_mapIdx]
      cases r.2[k]? <;> rfl
    rw [this]
theorem tag_R (rows : Rows α) : R rows = (R (tag rows)).map fun y => y.2.2 := by
  rw [← R_map, tag_un]
theorem tag_pos {rows : Rows α} (hp : Pos rows) : Pos (tag rows) := fun q hq => by
  obtain ⟨i, hi⟩ := List.mem_iff_getElem?.mp hq
  obtain ⟨r, hr, rfl⟩ := tag_get hi
  exact hp r (List.mem_of_getElem? hr)
theorem tag_iv {rows : Rows α} (hp : Pos rows) : Iv (wt rows) 0 0 (tag rows) := fun j q hq => by
  obtain ⟨r, hr, rfl⟩ := tag_get hq
  refine ⟨?_, hp r (List.mem_of_getElem? hr), fun k y hy => ?_⟩
  · show r.1 = wt rows (0 + j)
    unfold wt
    rw [Nat.zero_add, hr]
    rfl
  · have hy' : (r.2.mapIdx fun p x => (j, p, x))[k]? = some y := hy
    rw [List.getElem?_mapIdx] at hy'
    obtain ⟨x, hx, rfl⟩ := Option.map_eq_some_iff.mp hy'
    exact ⟨by simp, by simp⟩
theorem tag_mem {rows : Rows α} (hp : Pos rows) {i p w : Nat} {x : α} {xs : List α} (h : rows[i]? = some (w, xs)) (hx : xs[p]? = some x) : (i, p, x) ∈ R (tag rows) := by
  refine (R_perm _ (tag_pos hp) (Nat.le_refl _)).mem_iff.mpr (List.mem_flatten.mpr ⟨xs.mapIdx fun p x => (i, p, x), List.mem_map.mpr ⟨(w, xs.mapIdx fun p x => (i, p, x)), List.mem_of_getElem? (i := i) ?_, rfl⟩, List.mem_of_getElem? (i := p) ?_⟩)
  · unfold tag
    rw [List.getElem?_mapIdx, h]
    rfl
  · rw [List.getElem?_mapIdx, hx]
    rfl
/-- where two items stand in the rounds -/
theorem R_order {rows : Rows α} (hp : Pos rows) {i p w j q v : Nat} {x y : α} {xs ys : List α} (hi : rows[i]? = some (w, xs)) (hx : xs[p]? = some x) (hj : rows[j]? = some (v, ys)) (hy : ys[q]? = some y) :
    ∃ a b : Nat, (R rows)[a]? = some x ∧ (R rows)[b]? = some y ∧ (a < b ↔ (p / w < q / v ∨ (p / w = q / v ∧ (i < j ∨ (i = j ∧ p < q))))) := by
  obtain ⟨a, ha⟩ := List.mem_iff_getElem?.mp (tag_mem hp hi hx)
  obtain ⟨b, hb⟩ := List.mem_iff_getElem?.mp (tag_mem hp hj hy)
  have pw := ((tag_iv hp).rds (tot (tag rows))).1
  have lt : ∀ {a b : Nat} {y z : Tg α}, (R (tag rows))[a]? = some y → (R (tag rows))[b]? = some z → a < b → Ahead (wt rows) (tk y) (tk z) := fun {a b y z} h1 h2 h3 => by
    obtain ⟨l1, rfl⟩ := List.getElem?_eq_some_iff.mp h1
    obtain ⟨l2, rfl⟩ := List.getElem?_eq_some_iff.mp h2
    exact List.pairwise_iff_getElem.mp pw a b l1 l2 h3
  have wi : wt rows i = w := by unfold wt; rw [hi]; rfl
  have wj : wt rows j = v := by unfold wt; rw [hj]; rfl
  refine ⟨a, b, by rw [tag_R, List.getElem?_map, ha]; rfl, by rw [tag_R, List.getElem?_map, hb]; rfl, ?_⟩
  have key : Ahead (wt rows) (i, p) (j, q) ↔ (p / w < q / v ∨ (p / w = q / v ∧ (i < j ∨ (i = j ∧ p < q)))) := by
    show (p / wt rows i < q / wt rows j ∨ (p / wt rows i = q / wt rows j ∧ (i < j ∨ (i = j ∧ p < q)))) ↔ _
    rw [wi, wj]
  rw [← key]
  refine ⟨fun h => lt ha hb h, fun h => ?_⟩
  rcases Nat.lt_trichotomy a b with z | z | z
  · exact z
  · subst z
    rw [ha] at hb
    cases hb
    exact absurd h Ahead.irrefl
  · exact absurd (lt hb ha z) h.asymm
end
end Mx

set_option Elab.async false
set_option maxRecDepth 100000
set_option linter.all false
/-! the order of the items in the output of a tree -/
namespace Mx
open PySem L2
theorem flat_rows (L : Str → Nat) (ps : List (Int × Tr)) : flat (ps.map fun p => (p.1.toNat, p.2.out L)) = (ps.map fun p => p.2.out L).flatten := by
  unfold flat
  simp [List.map_map, Function.comp_def]
theorem out_perm {L : Str → Nat} {d : Nat} {ps : List (Int × Tr)} (h : (Tr.mix ps).wf (d + 1)) : List.Perm ((Tr.mix ps).out L) ((ps.map fun p => p.2.out L).flatten) := by
  rw [Tr.out_mix, ← flat_rows]
  exact R_perm _ (wf_pos h) (Nat.le_refl _)
theorem wf_part {d : Nat} {ps : List (Int × Tr)} (h : (Tr.mix ps).wf (d + 1)) {p : Int × Tr} (hp : p ∈ ps) : p.2.wf d := by
  unfold Tr.wf at h
  exact (h.2.2 p hp).2.2
/-- what stands in an output -/
theorem mem_out {L : Str → Nat} : ∀ (d : Nat) {t : Tr}, t.wf d → ∀ x : Item, x ∈ t.out L ↔ x.1 ∈ t.names ∧ x.2 < L x.1
  | d, .feed s, _, x => by
    rw [Tr.out_feed, Tr.names_feed, List.mem_map, List.mem_singleton]
    constructor
    · rintro ⟨i, hi, rfl⟩
      exact ⟨rfl, List.mem_range.mp hi⟩
    · rintro ⟨h1, h2⟩
      exact ⟨x.2, List.mem_range.mpr (h1 ▸ h2), by rw [← h1]⟩
  | 0, .mix ps, h, x => by unfold Tr.wf at h; exact h.elim
  | d + 1, .mix ps, h, x => by
    rw [(out_perm h).mem_iff, Tr.names_mix, List.mem_flatten, List.mem_flatten]
    constructor
    · rintro ⟨l, hl, hx⟩
      obtain ⟨p, hp, rfl⟩ := List.mem_map.mp hl
      obtain ⟨h1, h2⟩ := (mem_out d (wf_part h hp) x).mp hx
      exact ⟨⟨_, List.mem_map.mpr ⟨p, hp, rfl⟩, h1⟩, h2⟩
    · rintro ⟨⟨l, hl, hx⟩, h2⟩
      obtain ⟨p, hp, rfl⟩ := List.mem_map.mp hl
      exact ⟨_, List.mem_map.mpr ⟨p, hp, rfl⟩, (mem_out d (wf_part h hp) x).mpr ⟨hx, h2⟩⟩
theorem nodup_flat {α : Type} {ls : List (List α)} : ls.flatten.Nodup ↔ (∀ l ∈ ls, l.Nodup) ∧ ls.Pairwise fun a b => ∀ x ∈ a, ∀ y ∈ b, x ≠ y := List.pairwise_flatten
theorem nodup_part {ps : List (Int × Tr)} (h : (Tr.mix ps).names.Nodup) {p : Int × Tr} (hp : p ∈ ps) : p.2.names.Nodup := by
  rw [Tr.names_mix] at h
  exact (nodup_flat.mp h).1 _ (List.mem_map.mpr ⟨p, hp, rfl⟩)
/-- no item twice -/
theorem out_nodup {L : Str → Nat} : ∀ (d : Nat) {t : Tr}, t.wf d → t.names.Nodup → (t.out L).Nodup
  | d, .feed s, _, _ => by
    rw [Tr.out_feed]
    refine List.pairwise_map.mpr (List.Pairwise.imp (fun {a b} h e => h (Prod.mk.inj e).2) (List.nodup_range (n := L s)))
  | 0, .mix ps, h, _ => by unfold Tr.wf at h; exact h.elim
  | d + 1, .mix ps, h, nd => by
    rw [(out_perm h).nodup_iff, nodup_flat]
    have nd2 := nd
    rw [Tr.names_mix, nodup_flat] at nd2
    refine ⟨fun l hl => ?_, ?_⟩
    · obtain ⟨p, hp, rfl⟩ := List.mem_map.mp hl
      exact out_nodup d (wf_part h hp) (nodup_part nd hp)
    · rw [List.pairwise_map]
      have pw := List.pairwise_map.mp nd2.2
      refine List.Pairwise.imp_of_mem (fun {a b} ha hb q => ?_) pw
      intro x hx y hy e
      subst e
      exact q x.1 ((mem_out d (wf_part h ha) x).mp hx).1 x.1 ((mem_out d (wf_part h hb) x).mp hy).1 rfl
/-- it depends on the lengths of its own feeds alone -/
theorem out_ext {L L' : Str → Nat} : ∀ (d : Nat) {t : Tr}, t.wf d → (∀ n ∈ t.names, L n = L' n) → t.out L = t.out L'
  | d, .feed s, _, e => by rw [Tr.out_feed, Tr.out_feed, e s (by rw [Tr.names_feed]; exact List.mem_singleton.mpr rfl)]
  | 0, .mix ps, h, _ => by unfold Tr.wf at h; exact h.elim
  | d + 1, .mix ps, h, e => by
    rw [Tr.out_mix, Tr.out_mix]
    congr 1
    refine List.map_congr_left fun p hp => ?_
    rw [out_ext d (wf_part h hp) fun n hn => e n ?_]
    rw [Tr.names_mix]
    exact List.mem_flatten.mpr ⟨_, List.mem_map.mpr ⟨p, hp, rfl⟩, hn⟩
theorem at_unique {α : Type} {l : List α} (h : l.Nodup) {a b : Nat} {x : α} (ha : l[a]? = some x) (hb : l[b]? = some x) : a = b := by
  obtain ⟨l1, e1⟩ := List.getElem?_eq_some_iff.mp ha
  obtain ⟨l2, e2⟩ := List.getElem?_eq_some_iff.mp hb
  exact (List.getElem_inj h).mp (e1.trans e2.symm)
section
variable {L : Str → Nat} {d : Nat} {ps : List (Int × Tr)}
/-- items of two parts (or of one) of a mixer -/
theorem out_order (h : (Tr.mix ps).wf (d + 1)) (nd : (Tr.mix ps).names.Nodup) {i j p q a b : Nat} {P Q : Int × Tr} {x y : Item} (hi : ps[i]? = some P) (hj : ps[j]? = some Q) (hx : (P.2.out L)[p]? = some x) (hy : (Q.2.out L)[q]? = some y)
    (ha : ((Tr.mix ps).out L)[a]? = some x) (hb : ((Tr.mix ps).out L)[b]? = some y) : a < b ↔ (p / P.1.toNat < q / Q.1.toNat ∨ (p / P.1.toNat = q / Q.1.toNat ∧ (i < j ∨ (i = j ∧ p < q)))) := by
  have ri : (ps.map fun p => (p.1.toNat, p.2.out L))[i]? = some (P.1.toNat, P.2.out L) := by rw [List.getElem?_map, hi]; rfl
  have rj : (ps.map fun p => (p.1.toNat, p.2.out L))[j]? = some (Q.1.toNat, Q.2.out L) := by rw [List.getElem?_map, hj]; rfl
  obtain ⟨a', b', h1, h2, h3⟩ := R_order (wf_pos h) ri hx rj hy
  rw [← Tr.out_mix] at h1 h2
  have on := out_nodup (L := L) (d + 1) h nd
  rw [at_unique on ha h1, at_unique on hb h2]
  exact h3
theorem out_within (h : (Tr.mix ps).wf (d + 1)) (nd : (Tr.mix ps).names.Nodup) {i p q a b : Nat} {P : Int × Tr} {x y : Item} (hi : ps[i]? = some P) (hx : (P.2.out L)[p]? = some x) (hy : (P.2.out L)[q]? = some y)
    (ha : ((Tr.mix ps).out L)[a]? = some x) (hb : ((Tr.mix ps).out L)[b]? = some y) : a < b ↔ p < q := by
  rw [out_order h nd hi hi hx hy ha hb]
  constructor
  · rintro (z | ⟨_, z | ⟨_, z⟩⟩)
    · rcases Nat.lt_or_ge p q with w | w
      · exact w
      · have := Nat.div_le_div_right (c := P.1.toNat) w
        omega
    · omega
    · exact z
  · intro z
    have := Nat.div_le_div_right (c := P.1.toNat) (Nat.le_of_lt z)
    omega
end
/-- items of one feed stand in their order -/
theorem out_feed_order {L : Str → Nat} {n : Str} {k m : Nat} : ∀ (d : Nat) {t : Tr}, t.wf d → t.names.Nodup → ∀ {a b : Nat}, (t.out L)[a]? = some (n, k) → (t.out L)[b]? = some (n, m) → (a < b ↔ k < m)
  | d, .feed s, _, _, a, b, ha, hb => by
    rw [Tr.out_feed, List.getElem?_map] at ha hb
    obtain ⟨i, hi, e1⟩ := Option.map_eq_some_iff.mp ha
    obtain ⟨j, hj, e2⟩ := Option.map_eq_some_iff.mp hb
    have z1 := (List.getElem?_eq_some_iff.mp hi).2
    have z2 := (List.getElem?_eq_some_iff.mp hj).2
    rw [List.getElem_range] at z1 z2
    have w1 := (Prod.mk.inj e1).2
    have w2 := (Prod.mk.inj e2).2
    omega
  | 0, .mix ps, h, _, _, _, _, _ => by unfold Tr.wf at h; exact h.elim
  | d + 1, .mix ps, h, nd, a, b, ha, hb => by
    have m1 := (out_perm h).mem_iff.mp (List.mem_of_getElem? ha)
    obtain ⟨l, hl, hx⟩ := List.mem_flatten.mp m1
    obtain ⟨P, hP, rfl⟩ := List.mem_map.mp hl
    obtain ⟨i, hi⟩ := List.mem_iff_getElem?.mp hP
    obtain ⟨p, hp⟩ := List.mem_iff_getElem?.mp hx
    have n1 := (mem_out d (wf_part h hP) _).mp hx
    have m2 := (mem_out (d + 1) h _).mp (List.mem_of_getElem? hb)
    have hy : (n, m) ∈ P.2.out L := (mem_out d (wf_part h hP) _).mpr ⟨n1.1, m2.2⟩
    obtain ⟨q, hq⟩ := List.mem_iff_getElem?.mp hy
    rw [out_within h nd hi hp hq ha hb]
    exact out_feed_order d (wf_part h hP) (nodup_part nd hP) hp hq
end Mx

set_option Elab.async false
set_option maxRecDepth 100000
set_option linter.all false
/-! longer feeds change nothing ahead of the first new item -/
namespace Mx
open PySem L2
section
variable {α : Type} {g : α → Prop}
/-- r and r' are alike up to the first item of r' that is not g; where there is none they are equal -/
def Agree (g : α → Prop) (r r' : List α) : Prop := ∃ u v v', r = u ++ v ∧ r' = u ++ v' ∧ (∀ x ∈ u, g x) ∧ ((v = [] ∧ v' = []) ∨ ∃ b s, v' = b :: s ∧ ¬ g b)
theorem Agree.nil : Agree g [] [] := ⟨[], [], [], rfl, rfl, fun x hx => (by cases hx), .inl ⟨rfl, rfl⟩⟩
theorem Agree.pre {z r r' : List α} (hz : ∀ x ∈ z, g x) (h : Agree g r r') : Agree g (z ++ r) (z ++ r') := by
  obtain ⟨u, v, v', rfl, rfl, hu, e⟩ := h
  exact ⟨z ++ u, v, v', (List.append_assoc ..).symm, (List.append_assoc ..).symm, fun x hx => (List.mem_append.mp hx).elim (hz x) (hu x), e⟩
inductive Rag (g : α → Prop) : Rows α → Rows α → Prop
  | nil : Rag g [] []
  | cons {w : Nat} {r r' : List α} {rs rs' : Rows α} (h : Agree g r r') (t : Rag g rs rs') : Rag g ((w, r) :: rs) ((w, r') :: rs')
theorem Rag.zero {rs rs' : Rows α} (h : Rag g rs rs') (e : tot rs' = 0) : tot rs = 0 := by
  induction h with
  | nil => rfl
  | @cons w r r' rs rs' h t ih =>
    rw [tot_cons] at e
    rw [tot_cons]
    obtain ⟨u, v, v', rfl, rfl, hu, q⟩ := h
    have e0 : (u ++ v').length + tot rs' = 0 := e
    have e1 : (u ++ v').length = 0 := by omega
    rw [List.length_append] at e1
    rcases q with ⟨rfl, rfl⟩ | ⟨b, s, rfl, _⟩
    · have := ih (by omega)
      show (u ++ []).length + _ = 0
      rw [List.length_append, this]
      simp
      have : u.length = 0 := by omega
      exact List.length_eq_zero_iff.mp this
    · rw [List.length_cons] at e1
      omega
/-- one round -/
theorem Rag.rnd {rs rs' : Rows α} (h : Rag g rs rs') : ∀ {Z Z' : List α}, (Rag g (dropw rs) (dropw rs') → Agree g Z Z') → Agree g (rnd0 rs ++ Z) (rnd0 rs' ++ Z') := by
  induction h with
  | nil => exact fun k => k .nil
  | @cons w r r' rs rs' h t ih =>
    intro Z Z' k
    obtain ⟨u, v, v', rfl, rfl, hu, q⟩ := h
    rw [rnd0_cons, rnd0_cons, List.append_assoc, List.append_assoc]
    show Agree g ((u ++ v).take w ++ (rnd0 rs ++ Z)) ((u ++ v').take w ++ (rnd0 rs' ++ Z'))
    have good : ∀ {d d' : List α}, (u ++ v).drop w = d → (u ++ v').drop w = d' → Agree g d d' → (u ++ v).take w = (u ++ v').take w → (∀ x ∈ (u ++ v').take w, g x) → Agree g ((u ++ v).take w ++ (rnd0 rs ++ Z)) ((u ++ v').take w ++ (rnd0 rs' ++ Z')) := by
      intro d d' e1 e2 ag et hg
      rw [et]
      refine Agree.pre hg (ih fun tl => k ?_)
      rw [dropw_cons, dropw_cons]
      show Rag g ((w, (u ++ v).drop w) :: dropw rs) ((w, (u ++ v').drop w) :: dropw rs')
      rw [e1, e2]
      exact .cons ag tl
    rcases Nat.le_total w u.length with hw | hw
    · refine good (List.drop_append_of_le_length hw) (List.drop_append_of_le_length hw) ⟨u.drop w, v, v', rfl, rfl, fun x hx => hu x (List.mem_of_mem_drop hx), q⟩ ?_ ?_
      · rw [List.take_append_of_le_length hw, List.take_append_of_le_length hw]
      · rw [List.take_append_of_le_length hw]
        exact fun x hx => hu x (List.mem_of_mem_take hx)
    · rcases q with ⟨rfl, rfl⟩ | ⟨b, s, rfl, nb⟩
      · refine good (d := []) (d' := []) ?_ ?_ .nil rfl ?_
        · rw [List.append_nil]; exact List.drop_of_length_le hw
        · rw [List.append_nil]; exact List.drop_of_length_le hw
        · rw [List.append_nil]
          exact fun x hx => hu x (List.mem_of_mem_take hx)
      · rcases Nat.eq_or_lt_of_le hw with e | lt
        · refine good (d := v) (d' := b :: s) ?_ ?_ ⟨[], v, b :: s, rfl, rfl, fun x hx => (by cases hx), .inr ⟨b, s, rfl, nb⟩⟩ ?_ ?_
          · rw [← e, List.drop_left]
          · rw [← e, List.drop_left]
          · rw [← e, List.take_left, List.take_left]
          · rw [← e, List.take_left]; exact hu
        · have e1 : (u ++ b :: s).take w = u ++ b :: s.take (w - u.length - 1) := by
            rw [List.take_append, List.take_of_length_le hw]
            obtain ⟨j, hj⟩ : ∃ j, w - u.length = j + 1 := ⟨w - u.length - 1, by omega⟩
            rw [hj]
            rfl
          have e2 : (u ++ v).take w = u ++ v.take (w - u.length) := by rw [List.take_append, List.take_of_length_le hw]
          rw [e1, e2, List.append_assoc, List.append_assoc]
          exact Agree.pre hu ⟨[], _, _, rfl, rfl, fun x hx => (by cases hx), .inr ⟨b, _, rfl, nb⟩⟩
theorem Rag.all : ∀ (n : Nat) {rs rs' : Rows α}, Rag g rs rs' → Pos rs → Pos rs' → tot rs' ≤ n → Agree g (R rs) (R rs')
  | n, rs, rs', h, p, p', hn => by
    rcases Nat.eq_zero_or_pos (tot rs') with z | z
    · rw [R_zero z, R_zero (h.zero z)]
      exact .nil
    · cases n with
      | zero => omega
      | succ n =>
        have := tot_dropw p' z
        rw [R_unfold p, R_unfold p']
        exact h.rnd fun hd => Rag.all n hd p.drop p'.drop (by omega)
/-- a place ahead of all that is not g -/
theorem Agree.at {r r' : List α} (h : Agree g r r') {a : Nat} {x : α} (ha : r'[a]? = some x) (hg : ∀ b y, b ≤ a → r'[b]? = some y → g y) : r[a]? = some x := by
  obtain ⟨u, v, v', rfl, rfl, hu, q⟩ := h
  rcases Nat.lt_or_ge a u.length with lt | ge
  · rw [List.getElem?_append_left lt] at ha ⊢
    exact ha
  · rcases q with ⟨rfl, rfl⟩ | ⟨b, s, rfl, nb⟩
    · exact ha
    · refine absurd (hg u.length b ge ?_) nb
      rw [List.getElem?_append_right (Nat.le_refl _), Nat.sub_self]
      rfl
end
/-- the outputs of one tree with lengths, and with greater ones -/
theorem out_agree {L L' : Str → Nat} : ∀ (d : Nat) {t : Tr}, t.wf d → (∀ n ∈ t.names, L n ≤ L' n) → Agree (fun x : Item => x.2 < L x.1) (t.out L) (t.out L')
  | d, .feed s, _, h => by
    have hs := h s (by rw [Tr.names_feed]; exact List.mem_singleton.mpr rfl)
    rw [Tr.out_feed, Tr.out_feed]
    obtain ⟨k, hk⟩ : ∃ k, L' s = L s + k := ⟨L' s - L s, by omega⟩
    rw [hk, List.range_add, List.map_append]
    refine ⟨(List.range (L s)).map fun i => (s, i), [], _, (List.append_nil _).symm, rfl, fun x hx => ?_, ?_⟩
    · obtain ⟨i, hi, rfl⟩ := List.mem_map.mp hx
      exact List.mem_range.mp hi
    · cases k with
      | zero => exact .inl ⟨rfl, rfl⟩
      | succ k =>
        rw [List.range_succ_eq_map, List.map_cons, List.map_cons]
        exact .inr ⟨(s, L s + 0), _, rfl, fun z => absurd z (by show ¬ (L s + 0 < L s); omega)⟩
  | 0, .mix ps, h, _ => by unfold Tr.wf at h; exact h.elim
  | d + 1, .mix ps, h, hl => by
    rw [Tr.out_mix, Tr.out_mix]
    refine Rag.all _ ?_ (wf_pos h) (wf_pos h) (Nat.le_refl _)
    have hall : ∀ p ∈ ps, Agree (fun x : Item => x.2 < L x.1) (p.2.out L) (p.2.out L') := fun p hp => out_agree d (wf_part h hp) fun n hn => hl n (by
      rw [Tr.names_mix]
      exact List.mem_flatten.mpr ⟨_, List.mem_map.mpr ⟨p, hp, rfl⟩, hn⟩)
    clear h hl
    induction ps with
    | nil => exact .nil
    | cons p r ih => exact .cons (hall p List.mem_cons_self) (ih fun q hq => hall q (List.mem_cons_of_mem _ hq))
/-- items of a feed keep their places when it gets one more -/
theorem own_place {L : Str → Nat} {n : Str} {d : Nat} {t : Tr} (hw : t.wf d) (nd : t.names.Nodup) {L' : Str → Nat} (h1 : L' n = L n + 1) (h2 : ∀ m, m ≠ n → L' m = L m) {k a : Nat} (hk : k < L n) (ha : (t.out L')[a]? = some (n, k)) : (t.out L)[a]? = some (n, k) := by
  refine (out_agree d hw fun m _ => ?_).at ha fun b y hb hy => ?_
  · by_cases e : m = n
    · subst e; omega
    · rw [h2 m e]; exact Nat.le_refl _
  · show y.2 < L y.1
    have my := ((mem_out d hw y).mp (List.mem_of_getElem? hy)).2
    by_cases e : y.1 = n
    · rw [e, h1] at my
      rw [e]
      rcases Nat.lt_or_ge y.2 (L n) with z | z
      · exact z
      · have ey : y = (n, y.2) := by rw [← e]
        rw [ey] at hy
        have q := (out_feed_order d hw nd ha hy).mpr (by omega)
        omega
    · rw [← h2 _ e]; exact my
end Mx

set_option Elab.async false
set_option maxRecDepth 100000
set_option linter.all false
/-! more items push no item forward -/
namespace Mx
open PySem L2
section
variable {α β : Type}
instance {W : Nat → Nat} {a b : Nat × Nat} : Decidable (Ahead W a b) := by unfold Ahead; exact inferInstance
/-- in a sorted list a place is the number of those ahead -/
theorem sorted_count {r : α → α → Prop} [∀ a b, Decidable (r a b)] (ir : ∀ a, ¬ r a a) (as : ∀ a b, r a b → ¬ r b a) : ∀ {l : List α}, l.Pairwise r → ∀ {a : Nat} {x : α}, l[a]? = some x → l.countP (fun y => decide (r y x)) = a
  | [], _, a, x, h => by simp at h
  | y :: l, pw, 0, x, h => by
    have e : y = x := by simpa using h
    subst e
    rw [List.countP_eq_zero]
    intro z hz
    rcases List.mem_cons.mp hz with rfl | hz
    · simpa using ir z
    · simpa using as _ _ ((List.pairwise_cons.mp pw).1 z hz)
  | y :: l, pw, a + 1, x, h => by
    have h' : l[a]? = some x := by simpa using h
    have hy := (List.pairwise_cons.mp pw).1 x (List.mem_of_getElem? h')
    rw [List.countP_cons_of_pos (by simpa using hy), sorted_count ir as (List.pairwise_cons.mp pw).2 h']
theorem countP_idx_mono : ∀ {xs : List α} {ys : List β} {P Q : Nat → Bool}, xs.length ≤ ys.length → (∀ q, P q = true → Q q = true) → (xs.mapIdx fun p _ => P p).countP id ≤ (ys.mapIdx fun p _ => Q p).countP id
  | [], _, _, _, _, _ => by simp
  | x :: xs, [], _, _, h, _ => by simp at h
  | x :: xs, y :: ys, P, Q, h, pq => by
    rw [List.mapIdx_cons, List.mapIdx_cons, List.countP_cons, List.countP_cons]
    have ih := countP_idx_mono (xs := xs) (ys := ys) (P := fun p => P (p + 1)) (Q := fun p => Q (p + 1)) (by simpa using h) fun q => pq (q + 1)
    have h0 := pq 0
    cases e : P 0 with
    | false =>
      show _ + (if id false = true then 1 else 0) ≤ _
      simp only [id, Bool.false_eq_true, if_false]
      omega
    | true =>
      rw [h0 e]
      simp only [id, if_true]
      omega
theorem countP_tag (P : Nat × Nat → Bool) (i : Nat) (xs : List α) : (xs.mapIdx fun p x => ((i, p, x) : Tg α)).countP (fun y => P (tk y)) = (xs.mapIdx fun p _ => P (i, p)).countP id := by
  have : (xs.mapIdx fun p _ => P (i, p)) = (xs.mapIdx fun p x => ((i, p, x) : Tg α)).map fun y => P (tk y) := by
    apply List.ext_getElem?
    intro k
    rw [List.getElem?_map, List.getElem?_mapIdx, List.getElem?_mapIdx]
    cases xs[k]? <;> rfl
  rw [this, List.countP_map]
  rfl
/-- the same weights, no row shorter -/
inductive Wider : Rows α → Rows α → Prop
  | nil : Wider [] []
  | cons {w : Nat} {r r' : List α} {a b : Rows α} (h : r.length ≤ r'.length) (t : Wider a b) : Wider ((w, r) :: a) ((w, r') :: b)
def tagF (s : Nat) (rows : Rows α) : Rows (Tg α) := rows.mapIdx fun i r => (r.1, r.2.mapIdx fun p x => (s + i, p, x))
theorem tagF_cons (s : Nat) (r : Nat × List α) (rest : Rows α) : tagF s (r :: rest) = (r.1, r.2.mapIdx fun p x => (s, p, x)) :: tagF (s + 1) rest := by
  unfold tagF
  rw [List.mapIdx_cons]
  congr 1
  congr 1
  funext i q
  rw [show s + (i + 1) = s + 1 + i from by omega]
theorem tagF_zero (rows : Rows α) : tagF 0 rows = tag rows := by
  unfold tagF tag
  congr 1
  funext i r
  rw [Nat.zero_add]
theorem wider_count {P Q : Nat × Nat → Bool} (pq : ∀ y, P y = true → Q y = true) {a b : Rows α} (h : Wider a b) : ∀ s, (flat (tagF s a)).countP (fun y => P (tk y)) ≤ (flat (tagF s b)).countP fun y => Q (tk y) := by
  induction h with
  | nil => intro s; exact Nat.le_refl _
  | @cons w r r' a b h t ih =>
    intro s
    rw [tagF_cons, tagF_cons, flat_cons, flat_cons, List.countP_append, List.countP_append]
    have h1 := countP_idx_mono (xs := r) (ys := r') (P := fun p => P (s, p)) (Q := fun p => Q (s, p)) h fun q => pq (s, q)
    have h2 := ih (s + 1)
    have e1 := countP_tag P s r
    have e2 := countP_tag Q s r'
    show (r.mapIdx fun p x => ((s, p, x) : Tg α)).countP (fun y => P (tk y)) + _ ≤ (r'.mapIdx fun p x => ((s, p, x) : Tg α)).countP (fun y => Q (tk y)) + _
    omega
theorem Wider.wt {a b : Rows α} (h : Wider a b) : ∀ i, wt a i = wt b i := by
  induction h with
  | nil => exact fun _ => rfl
  | cons h t ih =>
    intro i
    cases i with
    | zero => rfl
    | succ i => exact ih i
/-- a place by the number of items ahead -/
theorem R_place {rows : Rows α} (hp : Pos rows) {i p w : Nat} {x : α} {xs : List α} (h : rows[i]? = some (w, xs)) (hx : xs[p]? = some x) : ∃ a : Nat, (R rows)[a]? = some x ∧ a = (flat (tag rows)).countP fun y => decide (Ahead (wt rows) (tk y) (i, p)) := by
  obtain ⟨a, ha⟩ := List.mem_iff_getElem?.mp (tag_mem hp h hx)
  refine ⟨a, by rw [tag_R, List.getElem?_map, ha]; rfl, ?_⟩
  have c := sorted_count (r := fun y z : Tg α => Ahead (wt rows) (tk y) (tk z)) (fun _ => Ahead.irrefl) (fun _ _ z => z.asymm) ((tag_iv hp).rds (tot (tag rows))).1 ha
  rw [← c]
  exact ((R_perm _ (tag_pos hp) (Nat.le_refl _)).countP_eq _).symm ▸ rfl
theorem R_mono {rows rows' : Rows α} (hp : Pos rows) (hp' : Pos rows') (h : Wider rows rows') {i p p' w : Nat} {x : α} {xs xs' : List α} (hi : rows[i]? = some (w, xs)) (hi' : rows'[i]? = some (w, xs')) (hx : xs[p]? = some x) (hx' : xs'[p']? = some x) (le : p ≤ p') :
    ∃ a a' : Nat, (R rows)[a]? = some x ∧ (R rows')[a']? = some x ∧ a ≤ a' := by
  obtain ⟨a, ha, ea⟩ := R_place hp hi hx
  obtain ⟨a', ha', ea'⟩ := R_place hp' hi' hx'
  refine ⟨a, a', ha, ha', ?_⟩
  rw [ea, ea', ← tagF_zero, ← tagF_zero]
  refine wider_count (P := fun z => decide (Ahead (wt rows) z (i, p))) (Q := fun z => decide (Ahead (wt rows') z (i, p'))) (fun y hy => ?_) h 0
  have hW : wt rows = wt rows' := funext h.wt
  rw [hW] at hy
  have q := of_decide_eq_true hy
  refine decide_eq_true ?_
  unfold Ahead at q ⊢
  have m := Nat.div_le_div_right (c := wt rows' i) le
  dsimp only at q ⊢
  omega
end
/-- with more items no item stands further ahead -/
theorem place_mono {L L' : Str → Nat} : ∀ (d : Nat) {t : Tr}, t.wf d → t.names.Nodup → (∀ n ∈ t.names, L n ≤ L' n) → ∀ {a a' : Nat} {x : Item}, (t.out L)[a]? = some x → (t.out L')[a']? = some x → a ≤ a'
  | d, .feed s, _, _, _, a, a', x, ha, ha' => by
    rw [Tr.out_feed, List.getElem?_map] at ha ha'
    obtain ⟨i, hi, e1⟩ := Option.map_eq_some_iff.mp ha
    obtain ⟨j, hj, e2⟩ := Option.map_eq_some_iff.mp ha'
    have z1 := (List.getElem?_eq_some_iff.mp hi).2
    have z2 := (List.getElem?_eq_some_iff.mp hj).2
    rw [List.getElem_range] at z1 z2
    have w := (Prod.mk.inj (e1.trans e2.symm)).2
    omega
  | 0, .mix ps, h, _, _, _, _, _, _, _ => by unfold Tr.wf at h; exact h.elim
  | d + 1, .mix ps, h, nd, hl, a, a', x, ha, ha' => by
    have hlp : ∀ p ∈ ps, ∀ n ∈ p.2.names, L n ≤ L' n := fun p hp n hn => hl n (by
      rw [Tr.names_mix]
      exact List.mem_flatten.mpr ⟨_, List.mem_map.mpr ⟨p, hp, rfl⟩, hn⟩)
    obtain ⟨l, hl1, hx⟩ := List.mem_flatten.mp ((out_perm h).mem_iff.mp (List.mem_of_getElem? ha))
    obtain ⟨P, hP, rfl⟩ := List.mem_map.mp hl1
    obtain ⟨i, hi⟩ := List.mem_iff_getElem?.mp hP
    obtain ⟨p, hp⟩ := List.mem_iff_getElem?.mp hx
    have mx := (mem_out d (wf_part h hP) x).mp hx
    obtain ⟨p', hp'⟩ := List.mem_iff_getElem?.mp ((mem_out (L := L') d (wf_part h hP) x).mpr ⟨mx.1, Nat.lt_of_lt_of_le mx.2 (hlp P hP _ mx.1)⟩)
    have le := place_mono d (wf_part h hP) (nodup_part nd hP) (hlp P hP) hp hp'
    have wd : Wider (ps.map fun p => (p.1.toNat, p.2.out L)) (ps.map fun p => (p.1.toNat, p.2.out L')) := by
      have hw : ∀ p ∈ ps, p.2.wf d := fun p hp => wf_part h hp
      clear h nd hl ha ha' hl1 hx hP hi hp mx hp' le
      induction ps with
      | nil => exact .nil
      | cons q r ih =>
        refine .cons ?_ (ih (fun p hp => hlp p (List.mem_cons_of_mem _ hp)) fun p hp => hw p (List.mem_cons_of_mem _ hp))
        rw [out_len d (hw q List.mem_cons_self), out_len d (hw q List.mem_cons_self)]
        have hq := hlp q List.mem_cons_self
        generalize q.2.names = ns at hq
        induction ns with
        | nil => exact Nat.le_refl _
        | cons n ns ih2 =>
          rw [List.map_cons, List.map_cons, List.sum_cons, List.sum_cons]
          have := hq n List.mem_cons_self
          have := ih2 fun m hm => hq m (List.mem_cons_of_mem _ hm)
          omega
    have ri : ∀ L : Str → Nat, (ps.map fun p => (p.1.toNat, p.2.out L))[i]? = some (P.1.toNat, P.2.out L) := fun L => by rw [List.getElem?_map, hi]; rfl
    obtain ⟨b, b', hb, hb', hle⟩ := R_mono (wf_pos h) (wf_pos h) wd (ri L) (ri L') hp hp' le
    rw [← Tr.out_mix] at hb hb'
    rw [at_unique (out_nodup (d + 1) h nd) ha hb, at_unique (out_nodup (d + 1) h nd) ha' hb']
    exact hle
end Mx

set_option Elab.async false
set_option maxRecDepth 100000
set_option linter.all false
/-! places by sums, the limit of pushes -/
namespace Mx
open PySem L2
section
variable {α : Type}
/-- of each row at most so many -/
def sumB (f : Nat → Nat → Nat) : Nat → Rows α → Nat
  | _, [] => 0
  | s, r :: rest => min r.2.length (f s r.1) + sumB f (s + 1) rest
theorem count_below : ∀ {xs : List α} {P : Nat → Bool} {B : Nat}, (∀ q, P q = decide (q < B)) → (xs.mapIdx fun p _ => P p).countP id = min xs.length B
  | [], _, _, _ => by simp
  | x :: xs, P, 0, h => by
    have e : ∀ q, P q = false := fun q => by rw [h q]; simp
    rw [List.countP_eq_zero.mpr]
    · simp
    · intro b hb
      obtain ⟨k, hk⟩ := List.mem_iff_getElem?.mp hb
      rw [List.getElem?_mapIdx] at hk
      obtain ⟨_, _, rfl⟩ := Option.map_eq_some_iff.mp hk
      simp [e]
  | x :: xs, P, B + 1, h => by
    have ih := count_below (xs := xs) (P := fun p => P (p + 1)) (B := B) fun q => by rw [h]; simp
    have e0 : P 0 = true := by rw [h]; simp
    rw [List.mapIdx_cons, List.countP_cons, e0, ih]
    simp only [id, if_true, List.length_cons]
    omega
/-- the bound of row j ahead of the item p of row i -/
def bd (wi i p : Nat) (j w : Nat) : Nat := if j < i then w * (p / wi + 1) else if j = i then p else w * (p / wi)
theorem lt_mul_succ {q w t : Nat} (hw : 1 ≤ w) : q / w < t ↔ q < w * t := by
  rw [Nat.div_lt_iff_lt_mul (by omega), Nat.mul_comm]
theorem ahead_bd {W : Nat → Nat} {i p j q : Nat} (hj : 1 ≤ W j) : Ahead W (j, q) (i, p) ↔ q < bd (W i) i p j (W j) := by
  unfold Ahead bd
  dsimp only
  have h1 := lt_mul_succ (q := q) (t := p / W i) hj
  have h2 := lt_mul_succ (q := q) (t := p / W i + 1) hj
  by_cases c : j < i
  · rw [if_pos c, ← h2]
    omega
  · rw [if_neg c]
    by_cases e : j = i
    · subst e
      rw [if_pos rfl]
      constructor
      · rintro (z | ⟨_, z | ⟨_, z⟩⟩)
        · rcases Nat.lt_or_ge q p with w | w
          · exact w
          · have := Nat.div_le_div_right (c := W j) w
            omega
        · omega
        · exact z
      · intro z
        have := Nat.div_le_div_right (c := W j) (Nat.le_of_lt z)
        omega
    · rw [if_neg e, ← h1]
      omega
theorem count_sum {W : Nat → Nat} {i p : Nat} : ∀ {rows : Rows α} (s : Nat), (∀ j r, rows[j]? = some r → r.1 = W (s + j) ∧ 1 ≤ r.1) → (flat (tagF s rows)).countP (fun y => decide (Ahead W (tk y) (i, p))) = sumB (bd (W i) i p) s rows
  | [], s, _ => rfl
  | r :: rest, s, h => by
    obtain ⟨h1, h2⟩ := h 0 r rfl
    have h1' : r.1 = W s := h1
    rw [tagF_cons, flat_cons, List.countP_append]
    show (r.2.mapIdx fun p x => ((s, p, x) : Tg α)).countP (fun y => decide (Ahead W (tk y) (i, p))) + _ = min r.2.length (bd (W i) i p s r.1) + sumB (bd (W i) i p) (s + 1) rest
    rw [count_sum (s + 1) fun j q hq => by
      have := h (j + 1) q (by simpa using hq)
      rw [show s + (j + 1) = s + 1 + j from by omega] at this
      exact this]
    congr 1
    have c := countP_tag (fun y => decide (Ahead W y (i, p))) s r.2
    refine c.trans (count_below fun q => ?_)
    rw [h1']
    exact decide_eq_decide.mpr (ahead_bd (by omega))
/-- where an item stands -/
theorem R_sum {rows : Rows α} (hp : Pos rows) {i p w : Nat} {x : α} {xs : List α} (h : rows[i]? = some (w, xs)) (hx : xs[p]? = some x) : (R rows)[sumB (bd w i p) 0 rows]? = some x := by
  obtain ⟨a, ha, ea⟩ := R_place hp h hx
  have wi : wt rows i = w := by unfold wt; rw [h]; rfl
  rw [← tagF_zero, count_sum 0 fun j r hr => ⟨by unfold wt; rw [Nat.zero_add, hr]; rfl, hp r (List.mem_of_getElem? hr)⟩, wi] at ea
  rw [← ea]
  exact ha
end
end Mx

set_option Elab.async false
set_option maxRecDepth 100000
set_option linter.all false
/-! places.py: total_in, turns_of, taken_in_rounds -/
namespace Mx
open PySem L2
/-- a dict has these numbers at a tree's names -/
def ValsAt (H : Hp) (td : Addr) (L : Str → Nat) (ns : List Str) : Prop := ∃ kvs : List (Key × V), H td = some (.dK kvs) ∧ ∀ n ∈ ns, valV kvs (.inr n) = some (.int (L n : Nat))
theorem ValsAt.same {H H' : Hp} {td : Addr} {L : Str → Nat} {ns : List Str} (s : Same H H') (h : ValsAt H td L ns) : ValsAt H' td L ns := by
  obtain ⟨kvs, h1, h2⟩ := h
  exact ⟨kvs, s _ _ h1, h2⟩
theorem ValsAt.sub {H : Hp} {td : Addr} {L : Str → Nat} {ns ms : List Str} (s : ∀ n ∈ ms, n ∈ ns) (h : ValsAt H td L ns) : ValsAt H td L ms := by
  obtain ⟨kvs, h1, h2⟩ := h
  exact ⟨kvs, h1, fun n hn => h2 n (s n hn)⟩
def spTotal (K : PySem.W.Frag) (L : Str → Nat) : Sp := fun vs H Q _ => ∃ (v : V) (td : Addr) (t : Tr), vs = [v, .ref td] ∧ TrAt K H 4 v t ∧ t.wf 4 ∧ t.names.length ≤ 8 ∧ ValsAt H td L t.names ∧
  ∀ H', Same H H' → Q (.int ((t.names.map L).sum : Nat)) H'
/-- a mixer's turns: weights and numbers of items -/
def TurnAt (H : Hp) (z : V) (p : Int × Nat) : Prop := ∃ b : Addr, z = .ref b ∧ H b = some (.tup [.int p.1, .int (p.2 : Nat)])
theorem TurnAt.keep {H H' : Hp} (h : KeepU H H') {z : V} {p : Int × Nat} (q : TurnAt H z p) : TurnAt H' z p := by
  obtain ⟨b, e, h1⟩ := q
  exact ⟨b, e, h _ _ h1⟩
def turns (L : Str → Nat) (ps : List (Int × Tr)) : List (Int × Nat) := ps.map fun p => (p.1, (p.2.names.map L).sum)
def spTurns (K : PySem.W.Frag) (L : Str → Nat) : Sp := fun vs H Q _ => ∃ (a td : Addr) (xs : List V) (ps : List (Int × Tr)), vs = [.ref a, .ref td] ∧ SqT K H a xs ∧ PsAt K H 4 xs ps ∧ (∀ p ∈ ps, p.2.wf 4 ∧ p.2.names.length ≤ 8) ∧ ps.length ≤ 5 ∧ (∀ p ∈ ps, ValsAt H td L p.2.names) ∧
  ∀ (p : Addr) (zs : List V) (H' : Hp), Same H H' → H p = none → H' p = some (.lst zs) → Paired (TurnAt H') zs (turns L ps) → Q (.ref p) H'
def taken (r : Nat) (ts : List (Int × Nat)) : List Nat := ts.map fun t => min t.2 (r * t.1.toNat)
def spTaken (K : PySem.W.Frag) : Sp := fun vs H Q _ => ∃ (a : Addr) (r : Nat) (zs : List V) (ts : List (Int × Nat)), vs = [.ref a, .int (r : Nat)] ∧ SqL K H a zs ∧ Paired (TurnAt H) zs ts ∧ (∀ t ∈ ts, 0 ≤ t.1 ∧ t.1 ≤ 9) ∧ ts.length ≤ 5 ∧
  ∀ (p : Addr) (H' : Hp), Same H H' → H p = none → H' p = some (.lst ((taken r ts).map fun n => V.int (n : Nat))) → Q (.ref p) H'
theorem sum_ints : ∀ ns : List Nat, (ns.map fun (n : Nat) => (n : Int)).sum = ((ns.sum : Nat) : Int)
  | [] => rfl
  | n :: r => by rw [List.map_cons, List.sum_cons, sum_ints r, List.sum_cons, Int.natCast_add]
theorem map_ints (ns : List Nat) : (ns.map fun n => V.int (n : Nat)) = (ns.map fun (n : Nat) => (n : Int)).map V.int := by rw [List.map_map]; rfl
theorem PsAt.mono {K : PySem.W.Frag} {H : Hp} {d e : Nat} {xs : List V} {ps : List (Int × Tr)} (h : d ≤ e) (q : PsAt K H d xs ps) : PsAt K H e xs ps := by
  refine ⟨q.1, fun j x p hx hp => ?_⟩
  obtain ⟨b, y, e1, h1, h2⟩ := q.2 j x p hx hp
  exact ⟨b, y, e1, h1, TrAt.mono d e h h2⟩
section
variable {P : Program} {w : World} {K : PySem.W.Frag} {mg : Str → Option Value} {base : Heap}
def nTot : List Str := ["tree", "lengths", "name"]
theorem scTot : FnScope nTot ["tree", "lengths"] (defScope s_total_in) := ⟨rfl, rfl, rfl, by decide +kernel, rfl, by decide +kernel, by decide +kernel⟩
theorem sum_nat (L : Str → Nat) : ∀ ns : List Str, (ns.map fun n => (L n : Int)).sum = ((ns.map L).sum : Nat)
  | [] => rfl
  | n :: r => by rw [List.map_cons, List.sum_cons, sum_nat L r, List.map_cons, List.sum_cons, Int.natCast_add]
theorem ok_total {L : Str → Nat} {f fN : Addr} {fd fdN : FuncData} (F : Fun K "total_in" "total_in" s_total_in f fd) (B : Blt mg) (DN : Def K mg "names_in" sNamesIn ["tree"] fN fdN) (GN : FnOk P w K mg base CX0 6 fN fdN ["tree"] (spNames K 4)) : FnOk P w K mg base CX0 7 f fd ["tree", "lengths"] (spTotal K L) := by
  refine F.ok scTot (fun vs H Q E h => ?_) (fun cdv A outer s H vs Q E hr h => ?_)
  · obtain ⟨v, td, t, rfl, _⟩ := h
    rfl
  · obtain ⟨v, td, t, rfl, hT, hW, hlen, ⟨kvs, htd, hval⟩, k⟩ := h
    refine ⟨_, pss_one (ps_ret (pe_callB (cr_sum rfl) (by rfl) B.sum (by decide +kernel) (pa_cons
      (pe_lc (own := [("name", 2)]) (g := gName 2) (tt := tYes) (by rfl) scTot.nd (pi_list (pe_call GN hr rfl DN.mg DN.fn.kp DN.b .nil pass0 (pa_cons (pv 0) pa_nil))) (blkOk_by (own := [("name", 2)]) (N := nTot) (sc := defScope s_total_in) (by decide +kernel))
        (fun _ _ _ _ _ => pg_name (i := 2) scTot.nd rfl (Or.inl rfl)) (fun _ _ _ _ _ => pts_nil)
        (fun _ _ _ _ _ => pe_dget (hu_of hr) (pv 1) (pv 2) (fun _ _ => rfl))) pa_nil))), ?_⟩
    refine ⟨_, rfl, v, t, rfl, hT, hW, by omega, fun q H1 S1 nq hq => ?_⟩
    refine ⟨q, rfl, ⟨_, SqL.of hq⟩, fun D nD => ?_⟩
    have nDq : q ≠ D := ne_of_none hq nD
    refine lc_list (K := K) (a := q) (xs := t.names.map V.str) (fun i H' => Same H1 H' ∧ H' D = some (.lst (((t.names.take i).map fun n => (L n : Int)).map V.int))) ?_ ?_ ?_ ?_
    · exact ⟨Same.new (Same.refl _) nD, upd_same⟩
    · rintro i H' _ ⟨hS, _⟩
      exact SqL.of (hS _ _ hq)
    · rintro i x H' hx ⟨hS, hD⟩
      rw [List.getElem?_map] at hx
      cases e : t.names[i]? with
      | none => rw [e] at hx; cases hx
      | some n =>
        rw [e] at hx
        cases hx
        have hnm := List.mem_of_getElem? e
        refine ⟨rfl, ?_⟩
        refine ⟨_, rfl, _, rfl, td, V.int (L n : Nat), rfl, ?_, ?_⟩
        · have z := DGet.k (k := Sum.inr n) ((S1.trans hS) _ _ htd)
          rw [hval n hnm] at z
          exact z
        refine ⟨_, hD, by rw [List.length_map, List.length_map, List.length_take]; exact small1000 (by omega), Same.own hS nD, ?_⟩
        rw [upd_same, take_succ_of e, List.map_append, List.map_append]
        rfl
    · rintro H' ⟨hS, hD⟩
      rw [List.length_map, List.take_length] at hD
      refine ⟨D, _, rfl, SqL.of hD, ?_⟩
      rw [sum_nat]
      exact k H' (S1.trans hS)
def nTurns : List Str := ["parts", "lengths", "weight", "part"]
theorem scTurns : FnScope nTurns ["parts", "lengths"] (defScope s_turns_of) := ⟨rfl, rfl, rfl, by decide +kernel, rfl, by decide +kernel, by decide +kernel⟩
theorem ok_turns {L : Str → Nat} {f fT : Addr} {fd fdT : FuncData} (F : Fun K "turns_of" "turns_of" s_turns_of f fd) (DT : Def K mg "total_in" s_total_in ["tree", "lengths"] fT fdT) (GT : FnOk P w K mg base CX0 7 fT fdT ["tree", "lengths"] (spTotal K L)) : FnOk P w K mg base CX0 8 f fd ["parts", "lengths"] (spTurns K L) := by
  refine F.ok scTurns (fun vs H Q E h => ?_) (fun cdv A outer s H vs Q E hr h => ?_)
  · obtain ⟨a, td, xs, ps, rfl, _⟩ := h
    rfl
  · obtain ⟨a, td, xs, ps, rfl, hs, hP, hW, hlen, hval, k⟩ := h
    refine ⟨_, pss_one (ps_ret (pe_lc (own := [("weight", 2), ("part", 3)]) (g := gTup K 2 (gCons (gName 2) (gCons (gName 3) gNil))) (tt := tYes) (by rfl) scTurns.nd (pi_tup (pv 0)) (blkOk_by (own := [("weight", 2), ("part", 3)]) (N := nTurns) (sc := defScope s_turns_of) (by decide +kernel))
        (fun _ _ _ _ _ => pg_tup rfl (pgs_cons (pg_name (i := 2) scTurns.nd rfl (Or.inl rfl)) (pgs_cons (pg_name (i := 3) scTurns.nd rfl (Or.inl rfl)) pgs_nil))) (fun _ _ _ _ _ => pts_nil)
        (fun _ _ _ _ _ => pe_tup (pa_cons (pv 2) (pa_cons (pe_call GT hr rfl DT.mg DT.fn.kp DT.b .nil pass0 (pa_cons (pv 3) (pa_cons (pv 1) pa_nil))) pa_nil))))), ?_⟩
    refine ⟨_, rfl, a, rfl, ⟨_, hs⟩, fun D nD => ?_⟩
    refine lc_tup (K := K) (a := a) (xs := xs) (fun i H' => ∃ zs, Same H H' ∧ H' D = some (.lst zs) ∧ Paired (TurnAt H') zs (turns L (ps.take i))) ?_ ?_ ?_ ?_
    · exact ⟨[], Same.new (Same.refl _) nD, upd_same, .nil⟩
    · rintro i H' _ ⟨zs, hS, _⟩
      exact sqT_same hS _ _ hs
    · rintro i x H' hx ⟨zs, hS, hD, hZ⟩
      have hi : i < ps.length := by rw [← hP.1]; exact (List.getElem?_eq_some_iff.mp hx).1
      have hpi : ps[i]? = some ps[i] := List.getElem?_eq_getElem hi
      have hpm : ps[i] ∈ ps := List.getElem_mem hi
      obtain ⟨b, y, rfl, hb, hy⟩ := hP.2 i x _ hx hpi
      refine ⟨b, _, rfl, sqT_same hS _ _ hb, rfl, _, _, rfl, _, _, rfl, rfl, rfl, ?_⟩
      refine ⟨_, rfl, _, rfl, _, rfl, y, td, ps[i].2, rfl, TrAt.keep (sqT_same hS) _ hy, (hW _ hpm).1, (hW _ hpm).2, (hval _ hpm).same hS, fun H2 S2 => ?_⟩
      refine ⟨by show 2 ≤ sizeLine; decide, fun q nq => ?_⟩
      have hD2 := S2 _ _ hD
      have nDq : D ≠ q := ne_of_none hD2 nq
      have hzl := paired_len hZ
      unfold turns at hzl
      rw [List.length_map, List.length_take] at hzl
      refine ⟨zs, by rw [upd_ne nDq]; exact hD2, by rw [hzl]; exact small1000 (by omega), zs ++ [.ref q], ?_, upd_same, ?_⟩
      · exact Same.own (Same.new (hS.trans S2) nq) nD
      · unfold turns
        rw [take_succ_of hpi, List.map_append]
        refine paired_append (Paired.mapP hZ fun _ _ z => z.keep ((KeepU.of S2).trans ((KeepU.new nq).trans (KeepU.lst (by rw [upd_ne nDq]; exact hD2))))) (.cons ⟨q, rfl, ?_⟩ .nil)
        rw [upd_ne nDq.symm, upd_same]
    · rintro H' ⟨zs, hS, hD, hZ⟩
      rw [List.take_of_length_le (by rw [hP.1]; exact Nat.le_refl _)] at hZ
      exact k D zs H' hS nD hD hZ
def nTaken : List Str := ["turns", "rounds", "weight", "total"]
theorem scTaken : FnScope nTaken ["turns", "rounds"] (defScope s_taken_in_rounds) := ⟨rfl, rfl, rfl, by decide +kernel, rfl, by decide +kernel, by decide +kernel⟩
theorem ok_taken {f : Addr} {fd : FuncData} (F : Fun K "taken_in_rounds" "taken_in_rounds" s_taken_in_rounds f fd) (B : Blt mg) : FnOk P w K mg base CX0 1 f fd ["turns", "rounds"] (spTaken K) := by
  refine F.ok scTaken (fun vs H Q E h => ?_) (fun cdv A outer s H vs Q E hr h => ?_)
  · obtain ⟨a, r, zs, ts, rfl, _⟩ := h
    rfl
  · obtain ⟨a, r, zs, ts, rfl, ha, hZ, hW, hlen, k⟩ := h
    refine ⟨_, pss_one (ps_ret (pe_lc (own := [("weight", 2), ("total", 3)]) (g := gTup K 2 (gCons (gName 2) (gCons (gName 3) gNil))) (tt := tYes) (by rfl) scTaken.nd (pi_list (pv 0)) (blkOk_by (own := [("weight", 2), ("total", 3)]) (N := nTaken) (sc := defScope s_taken_in_rounds) (by decide +kernel))
        (fun _ _ _ _ _ => pg_tup rfl (pgs_cons (pg_name (i := 2) scTaken.nd rfl (Or.inl rfl)) (pgs_cons (pg_name (i := 3) scTaken.nd rfl (Or.inl rfl)) pgs_nil))) (fun _ _ _ _ _ => pts_nil)
        (fun _ _ _ _ _ => pe_callB (call_min2 rfl) (by rfl) B.min (by decide +kernel) (pa_cons (pv 3) (pa_cons (pe_op op_mul (pv 1) (pv 2)) pa_nil))))), ?_⟩
    refine ⟨_, rfl, a, rfl, ⟨_, ha⟩, fun D nD => ?_⟩
    have hzl := paired_len hZ
    refine lc_list (K := K) (a := a) (xs := zs) (fun i H' => Same H H' ∧ H' D = some (.lst ((taken r (ts.take i)).map fun n => V.int (n : Nat)))) ?_ ?_ ?_ ?_
    · exact ⟨Same.new (Same.refl _) nD, upd_same⟩
    · rintro i H' _ ⟨hS, _⟩
      exact Same.seq hS ha
    · rintro i x H' hx ⟨hS, hD⟩
      obtain ⟨t, ht, b, rfl, hb⟩ := paired_get hZ hx
      have htm := List.mem_of_getElem? ht
      have hti : i < ts.length := (List.getElem?_eq_some_iff.mp ht).1
      obtain ⟨h0, h9⟩ := hW t htm
      refine ⟨b, _, rfl, SqT.of (hS _ _ hb), rfl, _, _, rfl, _, _, rfl, rfl, rfl, ?_⟩
      refine ⟨_, rfl, _, rfl, _, rfl, _, _, rfl, rfl, .inr ⟨by omega, by omega⟩, _, _, rfl, ?_⟩
      refine ⟨_, hD, by unfold taken; rw [List.length_map, List.length_map, List.length_take]; exact small1000 (by omega), Same.own hS nD, ?_⟩
      unfold taken
      rw [upd_same, take_succ_of ht, List.map_append, List.map_append]
      have e1 : (r : Int) * t.1 = ((r * t.1.toNat : Nat) : Int) := by rw [Int.natCast_mul, Int.toNat_of_nonneg h0]
      have e2 : (if (r : Int) * t.1 < (t.2 : Int) then (r : Int) * t.1 else (t.2 : Int)) = ((min t.2 (r * t.1.toNat) : Nat) : Int) := by
        rw [e1]
        split <;> omega
      rw [e2]
      rfl
    · rintro H' ⟨hS, hD⟩
      rw [hzl, List.take_length] at hD
      exact k D H' hS nD hD
end
end Mx

set_option Elab.async false
set_option maxRecDepth 100000
set_option linter.all false
/-! places.py: part_with -/
namespace Mx
open PySem L2
def spPartWith (K : PySem.W.Frag) : Sp := fun vs H Q _ => ∃ (a : Addr) (n : Str) (ps : List (Int × Tr)), vs = [.ref a, .str n] ∧ TrAt K H 4 (.ref a) (.mix ps) ∧ (Tr.mix ps).wf 4 ∧ (Tr.mix ps).names.length ≤ 8 ∧ n ∈ (Tr.mix ps).names ∧
  ∀ (i : Nat) (P : Int × Tr) (H' : Hp), ps[i]? = some P → n ∈ P.2.names → (∀ (j : Nat) (Q : Int × Tr), j < i → ps[j]? = some Q → n ∉ Q.2.names) → Same H H' → Q (.int (i : Nat)) H'
section
variable {P : Program} {w : World} {K : PySem.W.Frag} {mg : Str → Option Value} {base : Heap}
def nPW : List Str := ["mixer", "name", "weight", "part"]
theorem scPW : FnScope nPW ["mixer", "name"] (defScope s_part_with) := ⟨rfl, rfl, rfl, by decide +kernel, rfl, by decide +kernel, by decide +kernel⟩
theorem ok_partWith {f fN : Addr} {fd fdN : FuncData} (F : Fun K "part_with" "part_with" s_part_with f fd) (DN : Def K mg "names_in" sNamesIn ["tree"] fN fdN) (GN : FnOk P w K mg base CX0 6 fN fdN ["tree"] (spNames K 4)) : FnOk P w K mg base CX0 7 f fd ["mixer", "name"] (spPartWith K) := by
  refine F.ok scPW (fun vs H Q E h => ?_) (fun cdv A outer s H vs Q E hr h => ?_)
  · obtain ⟨a, n, ps, rfl, _⟩ := h
    rfl
  · obtain ⟨a, n, ps, rfl, hT, hW, hlen, hn, k⟩ := h
    refine ⟨_, pss_one (ps_ret (pe_bm PySem.F.plainAttrs_list PySem.F.slot_list_index PySem.F.type_list_index mt_index
      (pe_lc (own := [("weight", 2), ("part", 3)]) (g := gTup K 2 (gCons (gName 2) (gCons (gName 3) gNil))) (tt := tYes) (by rfl) scPW.nd (pi_tup (pv 0)) (blkOk_by (own := [("weight", 2), ("part", 3)]) (N := nPW) (sc := defScope s_part_with) (by decide +kernel))
        (fun _ _ _ _ _ => pg_tup rfl (pgs_cons (pg_name (i := 2) scPW.nd rfl (Or.inl rfl)) (pgs_cons (pg_name (i := 3) scPW.nd rfl (Or.inl rfl)) pgs_nil))) (fun _ _ _ _ _ => pts_nil)
        (fun _ _ _ _ _ => pe_cmpR (r := rIn K false) op_in_seq (pv 1) (pe_call GN hr rfl DN.mg DN.fn.kp DN.b .nil pass0 (pa_cons (pv 3) pa_nil)) (by rfl)))
      (pa_cons pe_bl pa_nil))), ?_⟩
    obtain ⟨a', xs, e, hs, hP⟩ := TrAt_mix.mp hT
    cases e
    have hw : ps ≠ [] ∧ ps.length ≤ 5 ∧ ∀ p ∈ ps, 1 ≤ p.1 ∧ p.1 ≤ 9 ∧ p.2.wf 3 := by unfold Tr.wf at hW; exact hW
    obtain ⟨i0, P0, hi0, hn0, hb0⟩ := first_part (part_of hn)
    refine ⟨_, rfl, a, rfl, ⟨_, hs⟩, fun D nD => ?_⟩
    refine lc_tup (K := K) (a := a) (xs := xs) (fun i H' => Same H H' ∧ H' D = some (.lst ((ps.take i).map fun p => V.bl (decide (n ∈ p.2.names))))) ?_ ?_ ?_ ?_
    · exact ⟨Same.new (Same.refl _) nD, upd_same⟩
    · rintro i H' _ ⟨hS, _⟩
      exact sqT_same hS _ _ hs
    · rintro i x H' hx ⟨hS, hD⟩
      have hi : i < ps.length := by rw [← hP.1]; exact (List.getElem?_eq_some_iff.mp hx).1
      have hpi : ps[i]? = some ps[i] := List.getElem?_eq_getElem hi
      have hpm : ps[i] ∈ ps := List.getElem_mem hi
      obtain ⟨b, y, rfl, hb, hy⟩ := hP.2 i x _ hx hpi
      refine ⟨b, _, rfl, sqT_same hS _ _ hb, rfl, _, _, rfl, _, _, rfl, rfl, rfl, ?_⟩
      refine ⟨_, rfl, _, rfl, y, ps[i].2, rfl, TrAt.mono 3 4 (by decide) (TrAt.keep (sqT_same hS) _ hy), Tr.wf_mono 3 4 (by decide) (hw.2.2 _ hpm).2.2, by have := part_len hpm; omega, fun q H2 S2 nq hq => ?_⟩
      refine ⟨q, _, rfl, .inl (SqL.of hq), rfl, flat_strs, ?_⟩
      refine ⟨_, S2 _ _ hD, by rw [List.length_map, List.length_take]; exact small1000 (by omega), Same.own (hS.trans S2) nD, ?_⟩
      rw [upd_same, take_succ_of hpi, List.map_append]
      show some (HO.lst (_ ++ [V.bl (inV (V.str n) (ps[i].2.names.map V.str))])) = _
      rw [inV_strs]
      rfl
    · rintro H' ⟨hS, hD⟩
      rw [List.take_of_length_le (by rw [hP.1]; exact Nat.le_refl _)] at hD
      refine ⟨.inl ⟨rfl, _, SqL.of hD⟩, D, _, .bl true, i0, .bl true, rfl, rfl, SqL.of hD, rfl, ?_, ?_, rfl, fun m z hm hz => ?_, k i0 P0 H' hi0 hn0 hb0 hS⟩
      · rw [List.all_eq_true]
        intro x hx
        obtain ⟨p, _, rfl⟩ := List.mem_map.mp hx
        rfl
      · rw [List.getElem?_map, hi0]
        show some (V.bl (decide (n ∈ P0.2.names))) = _
        rw [decide_eq_true hn0]
      · rw [List.getElem?_map] at hz
        cases e : ps[m]? with
        | none => rw [e] at hz; cases hz
        | some p =>
          rw [e] at hz
          cases hz
          show eqV (V.bl (decide (n ∈ p.2.names))) (V.bl true) = false
          rw [decide_eq_false (hb0 m p hm e)]
          rfl
end
end Mx

set_option Elab.async false
set_option maxRecDepth 100000
set_option linter.all false
/-! places.py: place_in -/
namespace Mx
open PySem L2
section
variable {α : Type}
theorem sumB_append {f : Nat → Nat → Nat} : ∀ (a b : Rows α) (s : Nat), sumB f s (a ++ b) = sumB f s a + sumB f (s + a.length) b
  | [], b, s => by
    show sumB f s b = 0 + sumB f (s + 0) b
    rw [Nat.zero_add, Nat.add_zero]
  | r :: rest, b, s => by
    show min r.2.length (f s r.1) + sumB f (s + 1) (rest ++ b) = min r.2.length (f s r.1) + sumB f (s + 1) rest + sumB f (s + (rest.length + 1)) b
    rw [sumB_append rest b (s + 1), show s + 1 + rest.length = s + (rest.length + 1) by omega]
    omega
theorem sumB_left {w i p : Nat} : ∀ (a : Rows α) (s : Nat), s + a.length ≤ i → sumB (bd w i p) s a = (a.map fun r => min r.2.length ((p / w + 1) * r.1)).sum
  | [], s, _ => rfl
  | r :: rest, s, h => by
    have h' : s + (rest.length + 1) ≤ i := h
    show min r.2.length (bd w i p s r.1) + sumB (bd w i p) (s + 1) rest = _
    rw [sumB_left rest (s + 1) (by omega), List.map_cons, List.sum_cons]
    unfold bd
    rw [if_pos (show s < i by omega), Nat.mul_comm]
theorem sumB_right {w i p : Nat} : ∀ (a : Rows α) (s : Nat), i < s → sumB (bd w i p) s a = (a.map fun r => min r.2.length (p / w * r.1)).sum
  | [], s, _ => rfl
  | r :: rest, s, h => by
    show min r.2.length (bd w i p s r.1) + sumB (bd w i p) (s + 1) rest = _
    rw [sumB_right rest (s + 1) (by omega), List.map_cons, List.sum_cons]
    unfold bd
    rw [if_neg (show ¬ s < i by omega), if_neg (show ¬ s = i by omega), Nat.mul_comm]
theorem sumB_at {rows : Rows α} {w i p : Nat} {xs : List α} (h : rows[i]? = some (w, xs)) (hp : p < xs.length) :
    sumB (bd w i p) 0 rows = p + ((rows.take i).map fun r => min r.2.length ((p / w + 1) * r.1)).sum + ((rows.drop (i + 1)).map fun r => min r.2.length (p / w * r.1)).sum := by
  have hi : i < rows.length := (List.getElem?_eq_some_iff.mp h).1
  conv => lhs; rw [split_at h]
  have el : (rows.take i).length = i := by rw [List.length_take]; omega
  rw [sumB_append, sumB_left _ 0 (by omega), el]
  show _ + (min xs.length (bd w i p (0 + i) w) + sumB (bd w i p) (0 + i + 1) (rows.drop (i + 1))) = _
  rw [sumB_right _ _ (by omega)]
  unfold bd
  rw [if_neg (show ¬ 0 + i < i by omega), if_pos (show 0 + i = i by omega), Nat.min_eq_right (Nat.le_of_lt hp)]
  omega
end
/-- where an item of a part stands in the output of its mixer -/
theorem place_mix {L : Str → Nat} {d : Nat} {ps : List (Int × Tr)} (hw : (Tr.mix ps).wf (d + 1)) {i p : Nat} {P : Int × Tr} {x : Item} (hi : ps[i]? = some P) (hx : (P.2.out L)[p]? = some x) :
    ((Tr.mix ps).out L)[p + (taken (p / P.1.toNat + 1) (turns L (ps.take i))).sum + (taken (p / P.1.toNat) (turns L (ps.drop (i + 1)))).sum]? = some x := by
  have hr : (ps.map fun p => (p.1.toNat, p.2.out L))[i]? = some (P.1.toNat, P.2.out L) := by rw [List.getElem?_map, hi]; rfl
  have z := R_sum (wf_pos (L := L) hw) hr hx
  rw [sumB_at hr (List.getElem?_eq_some_iff.mp hx).1] at z
  have conv : ∀ (k : Nat) (qs : List (Int × Tr)), (∀ q ∈ qs, q ∈ ps) → ((qs.map fun p => (p.1.toNat, p.2.out L)).map fun r => min r.2.length (k * r.1)).sum = (taken k (turns L qs)).sum := by
    intro k qs hq
    unfold taken turns
    rw [List.map_map, List.map_map]
    congr 1
    refine List.map_congr_left fun q hqm => ?_
    show min (q.2.out L).length (k * q.1.toNat) = min (q.2.names.map L).sum (k * q.1.toNat)
    unfold Tr.wf at hw
    rw [out_len d (hw.2.2 q (hq q hqm)).2.2]
  rw [← List.map_take, ← List.map_drop, conv _ _ fun q hq => List.mem_of_mem_take hq, conv _ _ fun q hq => List.mem_of_mem_drop hq] at z
  rw [Tr.out_mix]
  exact z
theorem PsAt.take {K : PySem.W.Frag} {H : Hp} {d : Nat} {xs : List V} {ps : List (Int × Tr)} (q : PsAt K H d xs ps) (i : Nat) : PsAt K H d (xs.take i) (ps.take i) := by
  refine ⟨by rw [List.length_take, List.length_take, q.1], fun j x p hx hp => ?_⟩
  rw [List.getElem?_take] at hx hp
  split at hx
  · rw [if_pos (by assumption)] at hp
    exact q.2 j x p hx hp
  · cases hx
theorem PsAt.drop {K : PySem.W.Frag} {H : Hp} {d : Nat} {xs : List V} {ps : List (Int × Tr)} (q : PsAt K H d xs ps) (i : Nat) : PsAt K H d (xs.drop i) (ps.drop i) := by
  refine ⟨by rw [List.length_drop, List.length_drop, q.1], fun j x p hx hp => ?_⟩
  rw [List.getElem?_drop] at hx hp
  exact q.2 _ x p hx hp
def spPlaceIn (K : PySem.W.Frag) (L : Str → Nat) (d : Nat) : Sp := fun vs H Q _ => ∃ (v : V) (td : Addr) (n : Str) (i : Nat) (t : Tr), vs = [v, .ref td, .str n, .int (i : Nat)] ∧ d ≤ 4 ∧ TrAt K H d v t ∧ t.wf d ∧ t.names.length ≤ 8 ∧ ValsAt H td L t.names ∧ n ∈ t.names ∧ i < L n ∧
  ∀ (p : Nat) (H' : Hp), Same H H' → (t.out L)[p]? = some (n, i) → Q (.int (p : Nat)) H'
section
variable {P : Program} {w : World} {K : PySem.W.Frag} {mg : Str → Option Value} {base : Heap}
def nPI : List Str := ["tree", "lengths", "name", "index", "own", "own_weight", "own_part", "place", "rounds", "left", "right"]
theorem scPI : FnScope nPI ["tree", "lengths", "name", "index"] (defScope s_place_in) := ⟨rfl, rfl, rfl, by decide +kernel, rfl, by decide +kernel, by decide +kernel⟩
theorem placeIn_step {L : Str → Nat} {d : Nat} {f fW fT fK : Addr} {fd fdW fdT fdK : FuncData} (F : Def K mg "place_in" s_place_in ["tree", "lengths", "name", "index"] f fd) (B : Blt mg)
    (DW : Def K mg "part_with" s_part_with ["mixer", "name"] fW fdW) (GW : FnOk P w K mg base CX0 7 fW fdW ["mixer", "name"] (spPartWith K))
    (DT : Def K mg "turns_of" s_turns_of ["parts", "lengths"] fT fdT) (GT : FnOk P w K mg base CX0 8 fT fdT ["parts", "lengths"] (spTurns K L))
    (DK : Def K mg "taken_in_rounds" s_taken_in_rounds ["turns", "rounds"] fK fdK) (GK : FnOk P w K mg base CX0 1 fK fdK ["turns", "rounds"] (spTaken K))
    (GR : FnOk P w K mg base CX0 (d + 9) f fd ["tree", "lengths", "name", "index"] (pre (spPlaceIn K L) d)) :
    FnOk P w K mg base CX0 (d + 10) f fd ["tree", "lengths", "name", "index"] (spPlaceIn K L d) := by
  refine F.fn.ok scPI (fun vs H Q E h => ?_) (fun cdv A outer s H vs Q E hr h => ?_)
  · obtain ⟨v, td, n, i, t, rfl, _⟩ := h
    rfl
  · obtain ⟨v, td, n, i, t, rfl, hd, hT, hW, hlen, hval, hn, hin, k⟩ := h
    have hr8 : Room 8 _ := hr.mono (by omega)
    refine ⟨_, pss_cons (ps_if (pt_val (pe_callB call_isi (by rfl) B.isinstance (by decide +kernel) (pa_cons (pv 0) (pa_cons (pe_bltn (v := .ty "str") (by rfl) B.str (by decide +kernel) rfl) pa_nil))))
        (pss_one (ps_ret (pv 3))) pss_nil)
      (pss_cons (ps_set (i := 4) scPI.nd rfl (Or.inl rfl) (pe_call GW (hr8.mono (by decide)) rfl DW.mg DW.fn.kp DW.b .nil pass0 (pa_cons (pv 0) (pa_cons (pv 2) pa_nil))))
      (pss_cons (ps_asg (pe_ix ix_tup (pv 0) (pv 4) (fun _ _ => rfl)) (pg_tup (by rfl) (pgs_cons (pg_name (i := 5) scPI.nd rfl (Or.inl rfl)) (pgs_cons (pg_name (i := 6) scPI.nd rfl (Or.inl rfl)) pgs_nil))))
      (pss_cons (ps_set (i := 7) scPI.nd rfl (Or.inl rfl) (pe_call GR hr rfl F.mg F.fn.kp F.b .nil pass0 (pa_cons (pv 6) (pa_cons (pv 1) (pa_cons (pv 2) (pa_cons (pv 3) pa_nil))))))
      (pss_cons (ps_set (i := 8) scPI.nd rfl (Or.inl rfl) (pe_op op_fdivNN (pv 7) (pv 5)))
      (pss_cons (ps_set (i := 9) scPI.nd rfl (Or.inl rfl) (pe_call GK (hr8.mono (by decide)) rfl DK.mg DK.fn.kp DK.b .nil pass0 (pa_cons (pe_call GT hr8 rfl DT.mg DT.fn.kp DT.b .nil pass0 (pa_cons (pe_slice sl_tup (pv 0) po_none (po_some (pv 4))) (pa_cons (pv 1) pa_nil))) (pa_cons (pe_op op_add (pv 8) pe_int) pa_nil))))
      (pss_cons (ps_set (i := 10) scPI.nd rfl (Or.inl rfl) (pe_call GK (hr8.mono (by decide)) rfl DK.mg DK.fn.kp DK.b .nil pass0 (pa_cons (pe_call GT hr8 rfl DT.mg DT.fn.kp DT.b .nil pass0 (pa_cons (pe_slice sl_tup (pv 0) (po_some (pe_op op_add (pv 4) pe_int)) po_none) (pa_cons (pv 1) pa_nil))) (pa_cons (pv 8) pa_nil))))
      (pss_one (ps_ret (pe_op op_add (pe_op op_add (pv 7) (pe_callB (cr_sum rfl) (by rfl) B.sum (by decide +kernel) (pa_cons (pv 9) pa_nil))) (pe_callB (cr_sum rfl) (by rfl) B.sum (by decide +kernel) (pa_cons (pv 10) pa_nil))))))))))), ?_⟩
    cases t with
    | feed m =>
      have hv := TrAt_feed.mp hT
      subst hv
      rw [Tr.names_feed, List.mem_singleton] at hn
      subst hn
      refine ⟨_, rfl, _, _, _, _, true, rfl, .ty _, .base (.str n), kit_ty (by decide +kernel), _, rfl, ?_⟩
      refine ⟨_, rfl, k i H (Same.refl _) ?_⟩
      rw [Tr.out_feed, List.getElem?_map, List.getElem?_range hin]
      rfl
    | mix ps =>
      cases d with
      | zero => exact (TrAt_zero hT).elim
      | succ e =>
        have hT4 := TrAt.mono (e + 1) 4 hd hT
        have hW4 := Tr.wf_mono (e + 1) 4 hd hW
        obtain ⟨a, xs, rfl, hs, hP⟩ := TrAt_mix.mp hT
        have hw : ps ≠ [] ∧ ps.length ≤ 5 ∧ ∀ p ∈ ps, 1 ≤ p.1 ∧ p.1 ≤ 9 ∧ p.2.wf e := by unfold Tr.wf at hW; exact hW
        have hsub : ∀ p ∈ ps, ∀ x ∈ p.2.names, x ∈ (Tr.mix ps).names := fun p hp x hx => by
          rw [Tr.names_mix]
          exact List.mem_flatten.mpr ⟨_, List.mem_map.mpr ⟨p, hp, rfl⟩, hx⟩
        refine ⟨_, rfl, _, _, _, _, false, rfl, .ty _, tyx_tup hs, kit_ty (by decide +kernel), _, rfl, ?_⟩
        refine ⟨_, rfl, _, rfl, a, n, ps, rfl, hT4, hW4, hlen, hn, fun j P0 H1 hj hn0 hb0 S1 => ?_⟩
        have hjl : j < ps.length := (List.getElem?_eq_some_iff.mp hj).1
        have hpm : P0 ∈ ps := List.mem_of_getElem? hj
        obtain ⟨hw1, hw9, hwe⟩ := hw.2.2 P0 hpm
        have hjx : j < xs.length := by rw [hP.1]; exact hjl
        have hxj : xs[j]? = some xs[j] := List.getElem?_eq_getElem hjx
        obtain ⟨b, y, ex, hb, hy⟩ := hP.2 j _ P0 hxj hj
        rw [ex] at hxj
        refine ⟨_, rfl, _, rfl, a, _, _, _, rfl, rfl, sqT_same S1 _ _ hs, atI_nat hxj, ?_⟩
        refine ⟨b, _, rfl, sqT_same S1 _ _ hb, rfl, _, _, rfl, _, _, rfl, rfl, ?_⟩
        refine ⟨_, rfl, _, rfl, _, rfl, _, rfl, y, td, n, i, P0.2, rfl, by omega, TrAt.keep (sqT_same S1) _ hy, hwe, by have := part_len hpm; omega, (hval.sub (hsub _ hpm)).same S1, hn0, hin, fun p H2 S2 hp => ?_⟩
        have S12 := S1.trans S2
        refine ⟨_, rfl, _, rfl, p, P0.1.toNat, rfl, (by rw [Int.toNat_of_nonneg (by omega)]), ⟨by omega, by omega⟩, ?_⟩
        have hxl : xs.length = ps.length := hP.1
        have e1 : HT.sIx xs.length 0 none = 0 := rfl
        refine ⟨_, rfl, _, rfl, _, rfl, a, xs, rfl, sqT_same S12 _ _ hs, ?_, fun q1 nq1 => ?_⟩
        · intro z
          have z2 := z.2
          rw [HT.sIx_nat] at z2
          omega
        rw [cut_to (show j ≤ xs.length by omega)]
        have S3 : Same H (L2.upd H2 q1 (.tup (xs.take j))) := Same.new S12 nq1
        refine ⟨_, rfl, q1, td, _, ps.take j, rfl, SqT.of upd_same, ((hP.take j).mono (by omega)).keep (sqT_same S3), fun p hp => ⟨Tr.wf_mono e 4 (by omega) (hw.2.2 p (List.mem_of_mem_take hp)).2.2, by have := part_len (List.mem_of_mem_take hp); omega⟩, by rw [List.length_take]; omega, fun p hp => (hval.sub (hsub _ (List.mem_of_mem_take hp))).same S3, fun q2 zs H4 S4 nq2 hq2 hZ => ?_⟩
        have S04 := S3.trans S4
        refine ⟨_, rfl, _, _, rfl, rfl, q2, p / P0.1.toNat + 1, zs, _, rfl, SqL.of hq2, hZ, fun t ht => ?_, ?_, fun q3 H5 S5 nq3 hq3 => ?_⟩
        · unfold turns at ht
          obtain ⟨p0, hp0, rfl⟩ := List.mem_map.mp ht
          have z := hw.2.2 p0 (List.mem_of_mem_take hp0)
          exact ⟨by show 0 ≤ p0.1; omega, z.2.1⟩
        · unfold turns
          rw [List.length_map, List.length_take]; omega
        have S05 := S04.trans S5
        refine ⟨_, rfl, _, rfl, _, _, rfl, rfl, _, rfl, a, xs, rfl, sqT_same S05 _ _ hs, ?_, fun q4 nq4 => ?_⟩
        · intro z
          have z1 := z.1
          have e2 : ((j : Int) + 1) = ((j + 1 : Nat) : Int) := by omega
          rw [e2, HT.sIx_nat] at z1
          omega
        have e3 : ((j : Int) + 1) = ((j + 1 : Nat) : Int) := by omega
        rw [e3, cut_from (show j + 1 ≤ xs.length by omega)]
        have S6 : Same H (L2.upd H5 q4 (.tup (xs.drop (j + 1)))) := Same.new S05 nq4
        have nq34 : q3 ≠ q4 := ne_of_none hq3 nq4
        refine ⟨_, rfl, q4, td, _, ps.drop (j + 1), rfl, SqT.of upd_same, ((hP.drop (j + 1)).mono (by omega)).keep (sqT_same S6), fun p hp => ⟨Tr.wf_mono e 4 (by omega) (hw.2.2 p (List.mem_of_mem_drop hp)).2.2, by have := part_len (List.mem_of_mem_drop hp); omega⟩, by rw [List.length_drop]; omega, fun p hp => (hval.sub (hsub _ (List.mem_of_mem_drop hp))).same S6, fun q5 zs2 H7 S7 nq5 hq5 hZ2 => ?_⟩
        refine ⟨_, rfl, q5, p / P0.1.toNat, zs2, _, rfl, SqL.of hq5, hZ2, fun t ht => ?_, ?_, fun q6 H8 S8 nq6 hq6 => ?_⟩
        · unfold turns at ht
          obtain ⟨p0, hp0, rfl⟩ := List.mem_map.mp ht
          have z := hw.2.2 p0 (List.mem_of_mem_drop hp0)
          exact ⟨by show 0 ≤ p0.1; omega, z.2.1⟩
        · unfold turns
          rw [List.length_map, List.length_drop]; omega
        have S08 := (S6.trans S7).trans S8
        have hq3' : H8 q3 = some (.lst ((taken (p / P0.1.toNat + 1) (turns L (ps.take j))).map fun n => V.int (n : Nat))) := S8 _ _ (S7 _ _ (by rw [upd_ne nq34]; exact hq3))
        rw [map_ints] at hq3' hq6
        refine ⟨_, rfl, _, rfl, q3, _, rfl, SqL.of hq3', _, _, rfl, rfl, _, rfl, q6, _, rfl, SqL.of hq6, _, _, rfl, rfl, ?_⟩
        rw [sum_ints, sum_ints, ← Int.natCast_add]
        have z := k _ H8 S08 (place_mix hW hj hp)
        rw [Int.natCast_add] at z
        exact z
theorem ok_placeIn {L : Str → Nat} {f fW fT fK : Addr} {fd fdW fdT fdK : FuncData} (F : Def K mg "place_in" s_place_in ["tree", "lengths", "name", "index"] f fd) (B : Blt mg)
    (DW : Def K mg "part_with" s_part_with ["mixer", "name"] fW fdW) (GW : FnOk P w K mg base CX0 7 fW fdW ["mixer", "name"] (spPartWith K))
    (DT : Def K mg "turns_of" s_turns_of ["parts", "lengths"] fT fdT) (GT : FnOk P w K mg base CX0 8 fT fdT ["parts", "lengths"] (spTurns K L))
    (DK : Def K mg "taken_in_rounds" s_taken_in_rounds ["turns", "rounds"] fK fdK) (GK : FnOk P w K mg base CX0 1 fK fdK ["turns", "rounds"] (spTaken K)) : ∀ d : Nat, FnOk P w K mg base CX0 (d + 10) f fd ["tree", "lengths", "name", "index"] (spPlaceIn K L d)
  | 0 => placeIn_step F B DW GW DT GT DK GK (F.fn.ok (k := 8) scPI (fun _ _ _ _ h => h.elim) (fun _ _ _ _ _ _ _ _ _ h => h.elim))
  | d + 1 => placeIn_step F B DW GW DT GT DK GK (ok_placeIn F B DW GW DT GT DK GK d)
end
end Mx

set_option Elab.async false
set_option maxRecDepth 100000
set_option linter.all false
/-! defs that raise -/
namespace Mx
open PySem L2
/-- an error class of the program, as it stands behind the top -/
structure ExcF (K : PySem.W.Frag) (mg : Str → Option Value) (x : Str) (C : Addr) : Prop where
  g : mg x = some (.ref C)
  x : PySem.W.excIn K C [.type "ValueError", .type "Exception", .type "BaseException", .type "object"] "ValueError.__new__" = true
  k : PySem.W.keepIn K (.ref C) = true
  b : PySem.W.subIn K (.ref C) (.type "BaseException") = some true
  t : PySem.W.typeIn K (.ref C) = some (.type "type")
theorem Kind.same {K : PySem.W.Frag} {H H' : Hp} {v : V} (s : Same H H') (h : Kind K H v) : Kind K H' v := by
  cases h with
  | int i => exact .int i
  | bl b => exact .bl b
  | str x => exact .str x
  | non => exact .non
  | lst h => exact .lst (s _ _ h)
  | tup h => exact .tup (sqT_same s _ _ h)
section
variable {P : Program} {w : World} {K : PySem.W.Frag} {mg : Str → Option Value} {base : Heap}
/-- a def whose exceptions have no context -/
theorem okN {x qual : Str} {st : Stmt} {f : Addr} {fd : FuncData} {N ps : List Str} {k : Nat} {sp : Sp} (F : Fun K x qual st f fd) (S : FnScope N ps (defScope st)) (len : ∀ vs H Q E, sp vs H Q E → vs.length = ps.length)
    (hb : ∀ (cdv : Value) (A : Around) (outer : List Env) (s : Shared) (H : Hp) (vs : List V) (Q : VK) (E : XK), Room k (A.deeper (PyProof.Rows.envOfC qual (defScope st) s.heap.objs.size f cdv)) → sp vs H Q E →
      ∃ t, PSs (cxOf (L2N.CX P w) P w K mg base N qual (defScope st) f cdv A outer s H E) (defBody st) t ∧ t { nx := fun _ H' => Q .non H', rt := Q } (L2.start N vs) H) : FnOk P w K mg base (L2N.CX P w) (k + 1) f fd ps sp := by
  obtain ⟨oc, od, kV, doc, pm, an, cdv, ct, osl, rfl, lk, hcd⟩ := F.ex
  exact fn_of lk hcd S len (hb cdv)
/-- .. and so may be forgotten -/
theorem ofN {k : Nat} {f : Addr} {fd : FuncData} {ps : List Str} {sp : Sp} (F : FnOk P w K mg base (L2N.CX P w) k f fd ps sp) : FnOk P w K mg base (L2.CX P w) k f fd ps sp := by
  refine ⟨F.len, fun A outer s H args us vs Q E r e b v h => codeAny_mono (F.run A outer s H args us vs Q E r e b v h) fun u s' hq => ?_⟩
  cases u with
  | error e =>
    obtain ⟨a, B, H', cls, d, h0, fl, h1⟩ := (show L2N.CX P w outer H s E e s' from hq)
    exact (show L2.CX P w outer H s E e s' from ⟨a, B, H', cls, d, h0, L2H.flyingZ_imp (fun _ z => z.zc) fl, h1⟩)
  | ok fl => cases fl <;> exact hq
end
end Mx

set_option Elab.async false
set_option maxRecDepth 100000
set_option linter.all false
namespace Mx
open PySem L2
section
variable {P : Program} {w : World} {K : PySem.W.Frag} {mg : Str → Option Value} {base : Heap}
theorem scFeedsOf : FnScope ["tree"] ["tree"] (defScope sFeedsOf) := ⟨rfl, rfl, rfl, by decide +kernel, rfl, by decide +kernel, by decide +kernel⟩
theorem ok_feedsOf {f fT fN : Addr} {fd fdT fdN : FuncData} (F : Fun K "feeds_of" "feeds_of" sFeedsOf f fd) (DT : Def K mg "require_tree" sReqTree ["value"] fT fdT) (GT : FnOk P w K mg base CX0 12 fT fdT ["value"] (spReqTree K))
    (DN : Def K mg "names_in" sNamesIn ["tree"] fN fdN) (GN : FnOk P w K mg base CX0 6 fN fdN ["tree"] (spNames K 4)) : FnOk P w K mg base CX0 13 f fd ["tree"] (spFeedsOf K) := by
  refine F.ok scFeedsOf (fun vs H Q E h => ?_) (fun cdv A outer s H vs Q E hr h => ?_)
  · obtain ⟨v, t, rfl, _⟩ := h
    rfl
  · obtain ⟨v, t, rfl, hT, hV, k⟩ := h
    refine ⟨_, pss_cons (ps_expr (pe_call GT hr rfl DT.mg DT.fn.kp DT.b .nil pass0 (pa_cons (pv 0) pa_nil))) (pss_one (ps_ret (pe_call GN (hr.mono (by decide)) rfl DN.mg DN.fn.kp DN.b .nil pass0 (pa_cons (pv 0) pa_nil)))), ?_⟩
    refine ⟨_, rfl, v, t, rfl, hT, hV, fun H1 S1 => ?_⟩
    refine ⟨_, rfl, v, t, rfl, TrAt.keep (sqT_same S1) _ hT, hV.wf, by have := hV.len; omega, fun p H2 S2 np hp => ?_⟩
    exact k p H2 (S1.trans S2) (Same.free S1 np) hp
end
end Mx

set_option Elab.async false
set_option maxRecDepth 100000
set_option linter.all false
namespace Mx
open PySem L2
def okLens (t : Tr) (xs : List V) : Prop := xs.length = t.names.length ∧ ∀ x ∈ xs, whole x 0 60 = true
/-- lengths that may be anything of these kinds -/
def spReqLen (K : PySem.W.Frag) (C : Addr) : Sp := fun vs H Q E => ∃ (v u : V) (t : Tr), vs = [v, u] ∧ TrAt K H 4 v t ∧ TreeV t ∧
  ((∃ tl xs, u = .ref tl ∧ SqT K H tl xs ∧ xs.length ≤ 1000 ∧ (∀ x ∈ xs, Kind K H x) ∧ (okLens t xs → ∀ H', Same H H' → Q .non H') ∧ (¬ okLens t xs → ∀ H', Same H H' → E (.ref C) none H')) ∨
   ((u = .non ∨ ∃ a xs, u = .ref a ∧ H a = some (.lst xs)) ∧ ∀ H', Same H H' → E (.ref C) none H'))
section
variable {P : Program} {w : World} {K : PySem.W.Frag} {mg : Str → Option Value} {base : Heap}
theorem scReqLen : FnScope ["tree", "value", "length"] ["tree", "value"] (defScope sReqLen) := ⟨rfl, rfl, rfl, by decide +kernel, rfl, by decide +kernel, by decide +kernel⟩
theorem ok_reqLenN {f fF fW C : Addr} {fd fdF fdW : FuncData} (F : Fun K "require_lengths" "require_lengths" sReqLen f fd) (B : Blt mg) (Cs : ∃ t, mg "GREATEST_LENGTH" = some (.int 60 t)) (X : ExcF K mg "InvalidLengths" C) (DF : Def K mg "feeds_of" sFeedsOf ["tree"] fF fdF) (GF : FnOk P w K mg base CX0 13 fF fdF ["tree"] (spFeedsOf K))
    (DW : Def K mg "is_whole" sIsWhole ["value", "low", "high"] fW fdW) (GW : FnOk P w K mg base CX0 2 fW fdW ["value", "low", "high"] (spWhole K)) : FnOk P w K mg base (L2N.CX P w) 14 f fd ["tree", "value"] (spReqLen K C) := by
  obtain ⟨t60, h60⟩ := Cs
  refine okN F scReqLen (fun vs H Q E h => ?_) (fun cdv A outer s H vs Q E hr h => ?_)
  · obtain ⟨v, u, t, rfl, _⟩ := h
    rfl
  · obtain ⟨v, u, t, rfl, hT, hV, h⟩ := h
    refine ⟨_, pss_cons (ps_if (PW.pt (pw_or (pt_not (pt_val (pe_callB call_isi (by rfl) B.isinstance (by decide +kernel) (pa_cons (pv 1) (pa_cons (pe_bltn (v := .ty "tuple") (by rfl) B.tuple (by decide +kernel) rfl) pa_nil)))))
          (pw_or1 (pt_cmpR op_ne (pe_callB call_len_seq (by rfl) B.len PySem.boot_len (pa_cons (pv 1) pa_nil)) (pe_callB call_len_seq (by rfl) B.len PySem.boot_len (pa_cons (pe_call GF hr rfl DF.mg DF.fn.kp DF.b .nil pass0 (pa_cons (pv 0) pa_nil)) pa_nil)) (nomark _)))))
        (pss_one (L2N.ps_raise rfl (L2N.takes_of rfl rfl rfl rfl) (L2N.pmk_own PySem.F.excBase_ValueError X.x X.g X.k (raises_own X.b X.t) rfl))) pss_nil)
      (pss_one (ps_for (passes_of rfl) rfl (pi_tup (pv 1)) (pg_name (i := 2) scReqLen.nd rfl (Or.inl rfl))
        (pss_one (ps_if (pt_not (pt_val (pe_call GW (hr.mono (by decide)) rfl DW.mg DW.fn.kp DW.b .nil pass0 (pa_cons (pv 2) (pa_cons pe_int (pa_cons (pe_glob (v := .int 60) rfl h60 ⟨_, rfl⟩) pa_nil))))))
          (pss_one (L2N.ps_raise rfl (L2N.takes_of rfl rfl rfl rfl) (L2N.pmk_own PySem.F.excBase_ValueError X.x X.g X.k (raises_own X.b X.t) rfl))) pss_nil)))), ?_⟩
    rcases h with ⟨tl, xs, rfl, hs, hx1000, hk, good, bad⟩ | ⟨hu, bad⟩
    · refine ⟨_, rfl, _, _, _, _, true, rfl, .ty _, tyx_tup hs, kit_ty (by decide +kernel), _, rfl, ?_⟩
      refine ⟨_, rfl, tl, _, rfl, .inr hs, _, rfl, v, t, rfl, hT, hV, fun q H1 S1 nq hq => ?_⟩
      refine ⟨q, _, rfl, .inl (SqL.of hq), rfl, _, rfl, ?_⟩
      refine ite2 (fun c => ?_) (fun c => ?_)
      · refine bad (fun z => ?_) H1 S1
        have z1 := z.1
        rw [List.length_map, z1] at c
        simp at c
      · have hl : xs.length = t.names.length := by
          rw [List.length_map] at c
          have c' : ¬ (!decide (V.int ((xs.length : Nat) : Int) = V.int ((t.names.length : Nat) : Int))) = true := c
          simp at c'
          omega
        refine ⟨_, rfl, tl, rfl, ⟨_, sqT_same S1 _ _ hs⟩, for_tup (K := K) (a := tl) (xs := xs) (fun i σ H' => ∃ v2 : Option V, σ = [some v, some (.ref tl), v2] ∧ Same H H' ∧ ∀ x ∈ xs.take i, whole x 0 60 = true) ?_ ?_ ?_ ?_⟩
        · exact ⟨_, rfl, S1, fun x hx => by simp at hx⟩
        · rintro i σ H' _ ⟨v2, rfl, S2, _⟩
          exact sqT_same S2 _ _ hs
        · rintro i x σ H' hx ⟨v2, rfl, S2, hall⟩
          have hxm : x ∈ xs := List.mem_of_getElem? hx
          refine ⟨_, rfl, x, _, _, rfl, (hk x hxm).same S2, _, rfl, ?_⟩
          refine ite2 (fun c2 => ?_) (fun c2 => ?_)
          · refine bad (fun z => ?_) H' S2
            rw [z.2 x hxm] at c2
            cases c2
          · have c3 : whole x 0 60 = true := by simpa using c2
            refine ⟨_, rfl, S2, fun y hy => ?_⟩
            rw [take_succ_of hx] at hy
            rcases List.mem_append.mp hy with h | h
            · exact hall y h
            · rw [List.mem_singleton] at h
              rw [h]
              exact c3
        · rintro σ H' ⟨v2, rfl, S2, hall⟩
          rw [List.take_length] at hall
          exact good ⟨hl, hall⟩ H' S2
    · rcases hu with rfl | ⟨a, xs, rfl, ha⟩
      · exact ⟨_, rfl, _, _, _, _, false, rfl, .ty _, .base .non, kit_ty (by decide +kernel), _, rfl, bad H (Same.refl _)⟩
      · exact ⟨_, rfl, _, _, _, _, false, rfl, .ty _, .base (.lst ha), kit_ty (by decide +kernel), _, rfl, bad H (Same.refl _)⟩
end
end Mx

set_option Elab.async false
set_option maxRecDepth 100000
set_option linter.all false
/-! what is asked of lengths -/
namespace Mx
open PySem L2
/-- lengths as ints -/
theorem okLens_ints {t : Tr} {xs : List V} (h : okLens t xs) : ∃ ls : List Int, xs = ls.map V.int ∧ LenOk t ls := by
  have : ∀ xs : List V, (∀ x ∈ xs, whole x 0 60 = true) → ∃ ls : List Int, xs = ls.map V.int ∧ ∀ l ∈ ls, 0 ≤ l ∧ l ≤ 60 := by
    intro xs
    induction xs with
    | nil => exact fun _ => ⟨[], rfl, fun l hl => by cases hl⟩
    | cons x r ih =>
      intro hx
      obtain ⟨ls, e, hl⟩ := ih fun y hy => hx y (List.mem_cons_of_mem _ hy)
      have h1 := hx x List.mem_cons_self
      cases x with
      | int i =>
        unfold whole at h1
        rw [Bool.and_eq_true] at h1
        refine ⟨i :: ls, by rw [e]; rfl, fun l hm => ?_⟩
        rcases List.mem_cons.mp hm with rfl | hm
        · exact ⟨of_decide_eq_true h1.1, of_decide_eq_true h1.2⟩
        · exact hl l hm
      | _ => cases h1
  obtain ⟨ls, e, hl⟩ := this xs h.2
  refine ⟨ls, e, ?_, hl⟩
  have := h.1
  rw [e, List.length_map] at this
  exact this
/-- what is asked of lengths; G: what is wanted where they are right -/
def LensAsk (K : PySem.W.Frag) (H : Hp) (t : Tr) (u : V) (G : List Int → Prop) (Bad : Prop) : Prop :=
  (∃ tl xs, u = .ref tl ∧ SqT K H tl xs ∧ xs.length ≤ 1000 ∧ (∀ x ∈ xs, Kind K H x) ∧ (∀ ls, xs = ls.map V.int → LenOk t ls → G ls) ∧ (¬ okLens t xs → Bad)) ∨
   ((u = .non ∨ ∃ a xs, u = .ref a ∧ H a = some (.lst xs)) ∧ Bad)
theorem LensAsk.same {K : PySem.W.Frag} {H H' : Hp} {t : Tr} {u : V} {G : List Int → Prop} {Bad : Prop} (s : Same H H') (h : LensAsk K H t u G Bad) : LensAsk K H' t u G Bad := by
  rcases h with ⟨tl, xs, e, h1, h2, h3, h4, h5⟩ | ⟨h1, h2⟩
  · exact .inl ⟨tl, xs, e, sqT_same s _ _ h1, h2, fun x hx => (h3 x hx).same s, h4, h5⟩
  · refine .inr ⟨?_, h2⟩
    rcases h1 with h1 | ⟨a, xs, e, h1⟩
    · exact .inl h1
    · exact .inr ⟨a, xs, e, s _ _ h1⟩
/-- right lengths, or not -/
theorem LensAsk.split {K : PySem.W.Frag} {H : Hp} {t : Tr} {u : V} {G : List Int → Prop} {Bad : Prop} (h : LensAsk K H t u G Bad) : ∃ L : Str → Nat, (∃ tl ls, u = .ref tl ∧ SqT K H tl (ls.map V.int) ∧ LenOk t ls ∧ L = Lof t.names ls ∧ G ls) ∨
    (Bad ∧ ((∃ tl xs, u = .ref tl ∧ SqT K H tl xs ∧ xs.length ≤ 1000 ∧ (∀ x ∈ xs, Kind K H x) ∧ ¬ okLens t xs) ∨ (u = .non ∨ ∃ a xs, u = .ref a ∧ H a = some (.lst xs)))) := by
  rcases h with ⟨tl, xs, e, h1, h2, h3, h4, h5⟩ | ⟨h1, h2⟩
  · by_cases ok : okLens t xs
    · obtain ⟨ls, rfl, hl⟩ := okLens_ints ok
      exact ⟨Lof t.names ls, .inl ⟨tl, ls, e, h1, hl, rfl, h4 ls rfl hl⟩⟩
    · exact ⟨fun _ => 0, .inr ⟨h5 ok, .inl ⟨tl, xs, e, h1, h2, h3, ok⟩⟩⟩
  · exact ⟨fun _ => 0, .inr ⟨h2, .inr h1⟩⟩
theorem LenOk.ok {t : Tr} {ls : List Int} (h : LenOk t ls) : okLens t (ls.map V.int) := by
  refine ⟨by rw [List.length_map, h.len], fun x hx => ?_⟩
  obtain ⟨l, hl, rfl⟩ := List.mem_map.mp hx
  have := h.le l hl
  unfold whole
  dsimp only
  rw [decide_eq_true this.1, decide_eq_true this.2]
  rfl
/-- no lengths -/
def NotLens (K : PySem.W.Frag) (H : Hp) (t : Tr) (u : V) : Prop := (∃ tl xs, u = .ref tl ∧ SqT K H tl xs ∧ xs.length ≤ 1000 ∧ (∀ x ∈ xs, Kind K H x) ∧ ¬ okLens t xs) ∨ (u = .non ∨ ∃ a xs, u = .ref a ∧ H a = some (.lst xs))
theorem NotLens.same {K : PySem.W.Frag} {H H' : Hp} {t : Tr} {u : V} (s : Same H H') (h : NotLens K H t u) : NotLens K H' t u := by
  rcases h with ⟨tl, xs, e, h1, h2, h3, h4⟩ | h1 | ⟨a, xs, e, h1⟩
  · exact .inl ⟨tl, xs, e, sqT_same s _ _ h1, h2, fun x hx => (h3 x hx).same s, h4⟩
  · exact .inr (.inl h1)
  · exact .inr (.inr ⟨a, xs, e, s _ _ h1⟩)
theorem LensAsk.bad {K : PySem.W.Frag} {H : Hp} {t : Tr} {u : V} {G : List Int → Prop} {B : Prop} (h : NotLens K H t u) (b : B) : LensAsk K H t u G B := by
  rcases h with ⟨tl, xs, e, h1, h2, h3, h4⟩ | h1
  · exact .inl ⟨tl, xs, e, h1, h2, h3, fun ls e2 ok => absurd (e2 ▸ ok.ok) h4, fun _ => b⟩
  · exact .inr ⟨h1, b⟩
theorem LensAsk.good {K : PySem.W.Frag} {H : Hp} {t : Tr} {tl : Addr} {ls : List Int} {G : List Int → Prop} {B : Prop} (h : SqT K H tl (ls.map V.int)) (hV : TreeV t) (hL : LenOk t ls) (g : G ls) : LensAsk K H t (.ref tl) G B := by
  refine .inl ⟨tl, _, rfl, h, ?_, fun x hx => ?_, fun ls' e _ => ?_, fun no => absurd hL.ok no⟩
  · have h1 := hV.len
    have h2 := hL.len
    rw [List.length_map]
    omega
  · obtain ⟨l, _, rfl⟩ := List.mem_map.mp hx
    exact .int l
  · have e2 : ls' = ls := (List.map_inj_right (fun a b h => V.int.inj h)).mp e.symm
    rw [e2]
    exact g
theorem LensAsk.cases {K : PySem.W.Frag} {H : Hp} {t : Tr} {u : V} {G : List Int → Prop} {B : Prop} (h : LensAsk K H t u G B) : ∃ L : Str → Nat, (∃ tl ls, u = .ref tl ∧ SqT K H tl (ls.map V.int) ∧ LenOk t ls ∧ L = Lof t.names ls ∧ G ls) ∨ (NotLens K H t u ∧ B) := by
  obtain ⟨L, h⟩ := h.split
  rcases h with h | ⟨b, h⟩
  · exact ⟨L, .inl h⟩
  · exact ⟨L, .inr ⟨h, b⟩⟩
end Mx

set_option Elab.async false
set_option maxRecDepth 100000
set_option linter.all false
/-! places.py: lengths_by_name, require_item, place_of -/
namespace Mx
open PySem L2
def spByName (K : PySem.W.Frag) : Sp := fun vs H Q _ => ∃ (v : V) (t : Tr) (tl : Addr) (ls : List Int), vs = [v, .ref tl] ∧ TrAt K H 4 v t ∧ TreeV t ∧ SqT K H tl (ls.map V.int) ∧ LenOk t ls ∧
  ∀ (p : Addr) (H' : Hp), Same H H' → H p = none → ValsAt H' p (Lof t.names ls) t.names → Q (.ref p) H'
/-- what is asked of an item; G: what is wanted where it is one -/
def ItemAsk (K : PySem.W.Frag) (H : Hp) (t : Tr) (ls : List Int) (x : V) (G : Str → Nat → Prop) (Bad : Prop) : Prop :=
  (∃ (q : Addr) (a b : V), x = .ref q ∧ SqT K H q [a, b] ∧ flatV a = true ∧ Kind K H b ∧ (∀ (n : Str) (i : Nat), a = .str n → b = .int (i : Nat) → n ∈ t.names → i < Lof t.names ls n → G n i) ∧
    ((¬ ∃ (n : Str) (i : Nat), a = .str n ∧ b = .int (i : Nat) ∧ n ∈ t.names ∧ i < Lof t.names ls n) → Bad)) ∨
  (∃ (q : Addr) (xs : List V), x = .ref q ∧ SqT K H q xs ∧ xs.length ≠ 2 ∧ Bad) ∨ ((x = .non ∨ ∃ a xs, x = .ref a ∧ H a = some (.lst xs)) ∧ Bad)
theorem ItemAsk.imp {K : PySem.W.Frag} {H : Hp} {t : Tr} {ls : List Int} {x : V} {G G' : Str → Nat → Prop} {B B' : Prop} (h : ItemAsk K H t ls x G B) (g : ∀ n i, n ∈ t.names → i < Lof t.names ls n → G n i → G' n i) (b : B → B') : ItemAsk K H t ls x G' B' := by
  rcases h with ⟨q, y, z, e, h1, h2, h3, h4, h5⟩ | ⟨q, xs, e, h1, h2, h3⟩ | ⟨h1, h2⟩
  · exact .inl ⟨q, y, z, e, h1, h2, h3, fun n i e1 e2 hn hi => g n i hn hi (h4 n i e1 e2 hn hi), fun no => b (h5 no)⟩
  · exact .inr (.inl ⟨q, xs, e, h1, h2, b h3⟩)
  · exact .inr (.inr ⟨h1, b h2⟩)
theorem ItemAsk.same {K : PySem.W.Frag} {H H' : Hp} {t : Tr} {ls : List Int} {x : V} {G : Str → Nat → Prop} {B : Prop} (s : Same H H') (h : ItemAsk K H t ls x G B) : ItemAsk K H' t ls x G B := by
  rcases h with ⟨q, y, z, e, h1, h2, h3, h4, h5⟩ | ⟨q, xs, e, h1, h2, h3⟩ | ⟨h1, h2⟩
  · exact .inl ⟨q, y, z, e, sqT_same s _ _ h1, h2, h3.same s, h4, h5⟩
  · exact .inr (.inl ⟨q, xs, e, sqT_same s _ _ h1, h2, h3⟩)
  · refine .inr (.inr ⟨?_, h2⟩)
    rcases h1 with h1 | ⟨a, xs, e, h1⟩
    · exact .inl h1
    · exact .inr ⟨a, xs, e, s _ _ h1⟩
/-- no item -/
def NotItem (K : PySem.W.Frag) (H : Hp) (t : Tr) (ls : List Int) (x : V) : Prop :=
  (∃ (q : Addr) (a b : V), x = .ref q ∧ SqT K H q [a, b] ∧ flatV a = true ∧ Kind K H b ∧ ¬ ∃ (n : Str) (i : Nat), a = .str n ∧ b = .int (i : Nat) ∧ n ∈ t.names ∧ i < Lof t.names ls n) ∨
  (∃ (q : Addr) (xs : List V), x = .ref q ∧ SqT K H q xs ∧ xs.length ≠ 2) ∨ (x = .non ∨ ∃ a xs, x = .ref a ∧ H a = some (.lst xs))
theorem NotItem.same {K : PySem.W.Frag} {H H' : Hp} {t : Tr} {ls : List Int} {x : V} (s : Same H H') (h : NotItem K H t ls x) : NotItem K H' t ls x := by
  rcases h with ⟨q, y, z, e, h1, h2, h3, h4⟩ | ⟨q, xs, e, h1, h2⟩ | h1 | ⟨a, xs, e, h1⟩
  · exact .inl ⟨q, y, z, e, sqT_same s _ _ h1, h2, h3.same s, h4⟩
  · exact .inr (.inl ⟨q, xs, e, sqT_same s _ _ h1, h2⟩)
  · exact .inr (.inr (.inl h1))
  · exact .inr (.inr (.inr ⟨a, xs, e, s _ _ h1⟩))
theorem ItemAsk.bad {K : PySem.W.Frag} {H : Hp} {t : Tr} {ls : List Int} {x : V} {G : Str → Nat → Prop} {B : Prop} (h : NotItem K H t ls x) (b : B) : ItemAsk K H t ls x G B := by
  rcases h with ⟨q, y, z, e, h1, h2, h3, h4⟩ | ⟨q, xs, e, h1, h2⟩ | h1
  · exact .inl ⟨q, y, z, e, h1, h2, h3, fun n i e1 e2 hn hi => absurd ⟨n, i, e1, e2, hn, hi⟩ h4, fun _ => b⟩
  · exact .inr (.inl ⟨q, xs, e, h1, h2, b⟩)
  · exact .inr (.inr ⟨h1, b⟩)
/-- right, or not -/
theorem ItemAsk.split {K : PySem.W.Frag} {H : Hp} {t : Tr} {ls : List Int} {x : V} {G : Str → Nat → Prop} {B : Prop} (h : ItemAsk K H t ls x G B) :
    (∃ (q : Addr) (n : Str) (i : Nat), x = .ref q ∧ SqT K H q [.str n, .int (i : Nat)] ∧ n ∈ t.names ∧ i < Lof t.names ls n ∧ G n i) ∨ (NotItem K H t ls x ∧ B) := by
  rcases h with ⟨q, y, z, e, h1, h2, h3, h4, h5⟩ | ⟨q, xs, e, h1, h2, h3⟩ | ⟨h1, h2⟩
  · by_cases c : ∃ (n : Str) (i : Nat), y = .str n ∧ z = .int (i : Nat) ∧ n ∈ t.names ∧ i < Lof t.names ls n
    · obtain ⟨n, i, rfl, rfl, hn, hi⟩ := c
      exact .inl ⟨q, n, i, e, h1, hn, hi, h4 n i rfl rfl hn hi⟩
    · exact .inr ⟨.inl ⟨q, y, z, e, h1, h2, h3, c⟩, h5 c⟩
  · exact .inr ⟨.inr (.inl ⟨q, xs, e, h1, h2⟩), h3⟩
  · exact .inr ⟨.inr (.inr h1), h2⟩
theorem ItemAsk.good {K : PySem.W.Frag} {H : Hp} {t : Tr} {ls : List Int} {G : Str → Nat → Prop} {B : Prop} {q : Addr} {n : Str} {i : Nat} (h : SqT K H q [.str n, .int (i : Nat)]) (hn : n ∈ t.names) (hi : i < Lof t.names ls n) (g : G n i) : ItemAsk K H t ls (.ref q) G B :=
  .inl ⟨q, _, _, rfl, h, rfl, .int _, fun m j e1 e2 _ _ => by cases e1; cases (Int.ofNat.inj (V.int.inj e2)); exact g, fun no => absurd ⟨n, i, rfl, rfl, hn, hi⟩ no⟩
def spReqItem (K : PySem.W.Frag) (C : Addr) : Sp := fun vs H Q E => ∃ (v x : V) (t : Tr) (tl : Addr) (ls : List Int), vs = [v, .ref tl, x] ∧ TrAt K H 4 v t ∧ TreeV t ∧ SqT K H tl (ls.map V.int) ∧ LenOk t ls ∧
  ItemAsk K H t ls x (fun _ _ => ∀ H', Same H H' → Q .non H') (∀ H', Same H H' → E (.ref C) none H')
def spPlaceOf (K : PySem.W.Frag) (CL CI : Addr) : Sp := fun vs H Q E => ∃ (v u x : V) (t : Tr), vs = [v, u, x] ∧ TrAt K H 4 v t ∧ TreeV t ∧
  LensAsk K H t u (fun ls => ItemAsk K H t ls x (fun n i => ∀ (p : Nat) (H' : Hp), Same H H' → (t.out (Lof t.names ls))[p]? = some (n, i) → Q (.int (p : Nat)) H') (∀ H', Same H H' → E (.ref CI) none H')) (∀ H', Same H H' → E (.ref CL) none H')
/-- the number at a name's place -/
theorem Lof_at : ∀ {ns : List Str} {ls : List Int} {n : Str} {j : Nat}, ns.length = ls.length → ns[j]? = some n → (∀ m, m < j → ns[m]? ≠ some n) → (∀ l ∈ ls, 0 ≤ l) → ls[j]? = some (Lof ns ls n : Int)
  | [], _, _, _, _, h, _, _ => by simp at h
  | m :: r, [], _, _, h, _, _, _ => by simp at h
  | m :: r, l :: t, n, 0, h, e, _, h0 => by
    cases e
    have z : valV (tab (m :: r) (l :: t)) (Sum.inr m) = some (.int l) := valV_pos rfl
    unfold Lof
    rw [z]
    show some l = some ((l.toNat : Nat) : Int)
    rw [Int.toNat_of_nonneg (h0 l List.mem_cons_self)]
  | m :: r, l :: t, n, j + 1, h, e, nb, h0 => by
    have ne : m ≠ n := fun z => nb 0 (by omega) (by rw [z]; rfl)
    have ih := Lof_at (ns := r) (ls := t) (n := n) (j := j) (by simpa using h) (by simpa using e) (fun k hk z => nb (k + 1) (by omega) (by simpa using z)) fun x hx => h0 x (List.mem_cons_of_mem _ hx)
    have z : valV (tab (m :: r) (l :: t)) (Sum.inr n) = valV (tab r t) (Sum.inr n) := valV_neg (fun z => ne (Sum.inr.inj z))
    unfold Lof at ih ⊢
    rw [z]
    simpa using ih
theorem first_at {n : Str} : ∀ {ns : List Str}, n ∈ ns → ∃ j : Nat, ns[j]? = some n ∧ ∀ m, m < j → ns[m]? ≠ some n
  | [], h => by cases h
  | m :: r, h => by
    by_cases e : m = n
    · exact ⟨0, by rw [e]; rfl, fun k hk => absurd hk (Nat.not_lt_zero _)⟩
    · obtain ⟨j, h1, h2⟩ := first_at (n := n) (ns := r) (by
        rcases List.mem_cons.mp h with z | z
        · exact absurd z.symm e
        · exact z)
      refine ⟨j + 1, by simpa using h1, fun k hk z => ?_⟩
      cases k with
      | zero => exact e (by simpa using z)
      | succ k => exact h2 k (by omega) (by simpa using z)
section
variable {P : Program} {w : World} {K : PySem.W.Frag} {mg : Str → Option Value} {base : Heap}
theorem scByName : FnScope ["tree", "lengths"] ["tree", "lengths"] (defScope s_lengths_by_name) := ⟨rfl, rfl, rfl, by decide +kernel, rfl, by decide +kernel, by decide +kernel⟩
theorem ok_byName {f fN : Addr} {fd fdN : FuncData} (F : Fun K "lengths_by_name" "lengths_by_name" s_lengths_by_name f fd) (B : Blt mg) (DN : Def K mg "names_in" sNamesIn ["tree"] fN fdN) (GN : FnOk P w K mg base CX0 6 fN fdN ["tree"] (spNames K 4)) : FnOk P w K mg base CX0 7 f fd ["tree", "lengths"] (spByName K) := by
  refine F.ok scByName (fun vs H Q E h => ?_) (fun cdv A outer s H vs Q E hr h => ?_)
  · obtain ⟨v, t, tl, ls, rfl, _⟩ := h
    rfl
  · obtain ⟨v, t, tl, ls, rfl, hT, hV, hl, hL, k⟩ := h
    refine ⟨_, pss_one (ps_ret (pe_dictZip rfl (by rfl) B.dict (by rfl) B.zip (pa_cons (pe_call GN hr rfl DN.mg DN.fn.kp DN.b .nil pass0 (pa_cons (pv 0) pa_nil)) (pa_cons (pv 1) pa_nil)))), ?_⟩
    refine ⟨_, rfl, v, t, rfl, hT, hV.wf, by have := hV.len; omega, fun q H1 S1 nq hq => ?_⟩
    refine ⟨_, rfl, q, tl, t.names, ls.map V.int, rfl, SqL.of hq, sqT_same S1 _ _ hl, by rw [List.length_map, hL.len], fun p np => ?_⟩
    refine k p _ (Same.new S1 np) (Same.free S1 np) ⟨tab t.names ls, ?_, hL.val⟩
    rw [upd_same]
    show some (HO.dK (mergeK [] (tab t.names ls))) = _
    rw [tab_merge hL.len.symm hV.nd]
def nRI : List Str := ["tree", "lengths", "value", "name", "index", "names"]
theorem scRI : FnScope nRI ["tree", "lengths", "value"] (defScope s_require_item) := ⟨rfl, rfl, rfl, by decide +kernel, rfl, by decide +kernel, by decide +kernel⟩
theorem ok_reqItem {f fN fW C : Addr} {fd fdN fdW : FuncData} (F : Fun K "require_item" "require_item" s_require_item f fd) (B : Blt mg) (X : ExcF K mg "InvalidItem" C) (DN : Def K mg "names_in" sNamesIn ["tree"] fN fdN) (GN : FnOk P w K mg base CX0 6 fN fdN ["tree"] (spNames K 4))
    (DW : Def K mg "is_whole" sIsWhole ["value", "low", "high"] fW fdW) (GW : FnOk P w K mg base CX0 2 fW fdW ["value", "low", "high"] (spWhole K)) : FnOk P w K mg base (L2N.CX P w) 7 f fd ["tree", "lengths", "value"] (spReqItem K C) := by
  refine okN F scRI (fun vs H Q E h => ?_) (fun cdv A outer s H vs Q E hr h => ?_)
  · obtain ⟨v, x, t, tl, ls, rfl, _⟩ := h
    rfl
  · obtain ⟨v, x, t, tl, ls, rfl, hT, hV, hl, hL, h⟩ := h
    refine ⟨_, pss_cons (ps_if (PW.pt (pw_or (pt_not (pt_val (pe_callB call_isi (by rfl) B.isinstance (by decide +kernel) (pa_cons (pv 2) (pa_cons (pe_bltn (v := .ty "tuple") (by rfl) B.tuple (by decide +kernel) rfl) pa_nil)))))
          (pw_or1 (pt_cmpR op_ne (pe_callB call_len_seq (by rfl) B.len PySem.boot_len (pa_cons (pv 2) pa_nil)) pe_int (nomark _)))))
        (pss_one (L2N.ps_raise rfl (L2N.takes_of rfl rfl rfl rfl) (L2N.pmk_own PySem.F.excBase_ValueError X.x X.g X.k (raises_own X.b X.t) rfl))) pss_nil)
      (pss_cons (ps_asg (pv 2) (pg_tup (by rfl) (pgs_cons (pg_name (i := 3) scRI.nd rfl (Or.inl rfl)) (pgs_cons (pg_name (i := 4) scRI.nd rfl (Or.inl rfl)) pgs_nil))))
      (pss_cons (ps_set (i := 5) scRI.nd rfl (Or.inl rfl) (pe_call GN hr rfl DN.mg DN.fn.kp DN.b .nil pass0 (pa_cons (pv 0) pa_nil)))
      (pss_cons (ps_if (pt_cmpR op_notIn_seq (pv 3) (pv 5) (by rfl))
        (pss_one (L2N.ps_raise rfl (L2N.takes_of rfl rfl rfl rfl) (L2N.pmk_own PySem.F.excBase_ValueError X.x X.g X.k (raises_own X.b X.t) rfl))) pss_nil)
      (pss_one (ps_if (pt_not (pt_val (pe_call GW (hr.mono (by decide)) rfl DW.mg DW.fn.kp DW.b .nil pass0 (pa_cons (pv 4) (pa_cons pe_int (pa_cons (pe_op op_sub (pe_ix ix_tup (pv 1) (pe_bm PySem.F.plainAttrs_list PySem.F.slot_list_index PySem.F.type_list_index mt_index (pv 5) (pa_cons (pv 3) pa_nil)) (fun _ _ => rfl)) pe_int) pa_nil))))))
        (pss_one (L2N.ps_raise rfl (L2N.takes_of rfl rfl rfl rfl) (L2N.pmk_own PySem.F.excBase_ValueError X.x X.g X.k (raises_own X.b X.t) rfl))) pss_nil))))), ?_⟩
    rcases h with ⟨q, y, z, rfl, hq, hf, hk, good, bad⟩ | ⟨q, xs, rfl, hq, h2, bad⟩ | ⟨hu, bad⟩
    · refine ⟨_, rfl, _, _, _, _, true, rfl, .ty _, tyx_tup hq, kit_ty (by decide +kernel), _, rfl, ?_⟩
      refine ⟨_, rfl, q, _, rfl, .inr hq, rfl, _, rfl, ?_⟩
      refine ite2 (fun c => by simp at c) (fun _ => ?_)
      refine ⟨_, rfl, q, _, rfl, hq, rfl, _, _, rfl, _, _, rfl, rfl, ?_⟩
      refine ⟨_, rfl, v, t, rfl, hT, hV.wf, by have := hV.len; omega, fun p H1 S1 np hp => ?_⟩
      refine ⟨_, rfl, _, rfl, p, _, rfl, .inl (SqL.of hp), hf, flat_strs, _, rfl, ?_⟩
      by_cases c : ∃ n, y = .str n ∧ n ∈ t.names
      · obtain ⟨n, rfl, hn⟩ := c
        have ei : inV (.str n) (t.names.map V.str) = true := by rw [inV_strs, decide_eq_true hn]
        refine ite2 (fun c => ?_) (fun _ => ?_)
        · have c' : (!inV (.str n) (t.names.map V.str)) = true := c
          rw [ei] at c'
          cases c'
        obtain ⟨j, hj, hb⟩ := first_at hn
        have hlj := Lof_at hL.len.symm hj hb fun l hl => (hL.le l hl).1
        refine ⟨_, rfl, _, rfl, _, rfl, .inl ⟨rfl, _, SqL.of hp⟩, _, rfl, p, _, _, j, .str n, rfl, rfl, SqL.of hp, rfl, flat_strs, by rw [List.getElem?_map, hj]; rfl, ?_, ?_, tl, _, _, _, rfl, rfl, sqT_same S1 _ _ hl, atI_nat (v := V.int (Lof t.names ls n : Int)) (by rw [List.getElem?_map, hlj]; rfl), _, _, rfl, rfl, z, _, _, rfl, hk.same S1, _, rfl, ?_⟩
        · show (n == n) = true
          simp
        · intro m z' hm hz
          rw [List.getElem?_map] at hz
          cases e : t.names[m]? with
          | none => rw [e] at hz; cases hz
          | some n' =>
            rw [e] at hz
            cases hz
            show (n' == n) = false
            have ne : n' ≠ n := fun w => hb m hm (by rw [e, w])
            simp [ne]
        · refine ite2 (fun c2 => ?_) (fun c2 => ?_)
          · refine bad (fun ⟨n', i, e1, e2, _, hi⟩ => ?_) H1 S1
            cases e1
            subst e2
            have w1 : whole (.int (i : Int)) 0 ((Lof t.names ls n : Int) - 1) = true := by
              unfold whole
              dsimp only
              rw [decide_eq_true (by omega), decide_eq_true (by omega)]
              rfl
            have c3 : (!whole (.int (i : Int)) 0 ((Lof t.names ls n : Int) - 1)) = true := c2
            rw [w1] at c3
            cases c3
          · have c3 : whole z 0 ((Lof t.names ls n : Int) - 1) = true := by simpa using c2
            cases z with
            | int i =>
              unfold whole at c3
              rw [Bool.and_eq_true] at c3
              have i0 := of_decide_eq_true c3.1
              have i1 := of_decide_eq_true c3.2
              obtain ⟨m, rfl⟩ := Int.eq_ofNat_of_zero_le i0
              exact good n m rfl rfl hn (by omega) H1 S1
            | _ => cases c3
      · have ei : inV y (t.names.map V.str) = false := by
          cases y with
          | str n => rw [inV_strs, decide_eq_false fun hn => c ⟨n, rfl, hn⟩]
          | _ => exact inV_other fun n e => by cases e
        refine ite2 (fun _ => ?_) (fun c2 => ?_)
        · exact bad (fun ⟨n, i, e1, _, hn, _⟩ => c ⟨n, e1, hn⟩) H1 S1
        · have c' : ¬ (!inV y (t.names.map V.str)) = true := c2
          rw [ei] at c'
          exact absurd rfl c'
    · refine ⟨_, rfl, _, _, _, _, true, rfl, .ty _, tyx_tup hq, kit_ty (by decide +kernel), _, rfl, ?_⟩
      refine ⟨_, rfl, q, _, rfl, .inr hq, rfl, _, rfl, ?_⟩
      refine ite2 (fun _ => bad H (Same.refl _)) (fun c => ?_)
      have c' : ¬ (!decide (V.int ((xs.length : Nat) : Int) = V.int 2)) = true := c
      simp at c'
      omega
    · rcases hu with rfl | ⟨a, xs, rfl, ha⟩
      · exact ⟨_, rfl, _, _, _, _, false, rfl, .ty _, .base .non, kit_ty (by decide +kernel), _, rfl, bad H (Same.refl _)⟩
      · exact ⟨_, rfl, _, _, _, _, false, rfl, .ty _, .base (.lst ha), kit_ty (by decide +kernel), _, rfl, bad H (Same.refl _)⟩
def nPO : List Str := ["tree", "lengths", "item", "name", "index"]
theorem scPO : FnScope nPO ["tree", "lengths", "item"] (defScope s_place_of) := ⟨rfl, rfl, rfl, by decide +kernel, rfl, by decide +kernel, by decide +kernel⟩
theorem ok_placeOf {f fT fL fI fB fP CL CI : Addr} {fd dT dL dI dB dP : FuncData} (F : Fun K "place_of" "place_of" s_place_of f fd) (DT : Def K mg "require_tree" sReqTree ["value"] fT dT) (GT : FnOk P w K mg base CX0 12 fT dT ["value"] (spReqTree K))
    (DL : Def K mg "require_lengths" sReqLen ["tree", "value"] fL dL) (GL : FnOk P w K mg base (L2N.CX P w) 14 fL dL ["tree", "value"] (spReqLen K CL)) (DI : Def K mg "require_item" s_require_item ["tree", "lengths", "value"] fI dI) (GI : FnOk P w K mg base (L2N.CX P w) 7 fI dI ["tree", "lengths", "value"] (spReqItem K CI))
    (DB : Def K mg "lengths_by_name" s_lengths_by_name ["tree", "lengths"] fB dB) (GB : FnOk P w K mg base CX0 7 fB dB ["tree", "lengths"] (spByName K)) (DP : Def K mg "place_in" s_place_in ["tree", "lengths", "name", "index"] fP dP) (GP : ∀ L, FnOk P w K mg base CX0 14 fP dP ["tree", "lengths", "name", "index"] (spPlaceIn K L 4)) :
    FnOk P w K mg base (L2N.CX P w) 15 f fd ["tree", "lengths", "item"] (spPlaceOf K CL CI) := by
  refine okN F scPO (fun vs H Q E h => ?_) (fun cdv A outer s H vs Q E hr h => ?_)
  · obtain ⟨v, u, x, t, rfl, _⟩ := h
    rfl
  · obtain ⟨v, u, x, t, rfl, hT, hV, h⟩ := h
    obtain ⟨L, h⟩ := h.split
    refine ⟨_, pss_cons (ps_expr (pe_call GT (hr.mono (by decide)) rfl DT.mg DT.fn.kp DT.b .nil pass0 (pa_cons (pv 0) pa_nil)))
      (pss_cons (ps_expr (pe_call GL (hr.mono (by decide)) rfl DL.mg DL.fn.kp DL.b .nil (L2N.passes_call (L2N.takes_of rfl rfl rfl rfl) (fun _ _ _ _ h => h)) (pa_cons (pv 0) (pa_cons (pv 1) pa_nil))))
      (pss_cons (ps_expr (pe_call GI (hr.mono (by decide)) rfl DI.mg DI.fn.kp DI.b .nil (L2N.passes_call (L2N.takes_of rfl rfl rfl rfl) (fun _ _ _ _ h => h)) (pa_cons (pv 0) (pa_cons (pv 1) (pa_cons (pv 2) pa_nil)))))
      (pss_cons (ps_asg (pv 2) (pg_tup (by rfl) (pgs_cons (pg_name (i := 3) scPO.nd rfl (Or.inl rfl)) (pgs_cons (pg_name (i := 4) scPO.nd rfl (Or.inl rfl)) pgs_nil))))
      (pss_one (ps_ret (pe_call (GP L) hr rfl DP.mg DP.fn.kp DP.b .nil pass0 (pa_cons (pv 0) (pa_cons (pe_call GB (hr.mono (by decide)) rfl DB.mg DB.fn.kp DB.b .nil pass0 (pa_cons (pv 0) (pa_cons (pv 1) pa_nil))) (pa_cons (pv 3) (pa_cons (pv 4) pa_nil)))))))))), ?_⟩
    refine ⟨_, rfl, v, t, rfl, hT, hV, fun H1 S1 => ?_⟩
    rcases h with ⟨tl, ls, rfl, hs, hL, rfl, good⟩ | ⟨bad, hb⟩
    · have hlen := hV.len
      have hll := hL.len
      refine ⟨_, rfl, _, rfl, v, .ref tl, t, rfl, TrAt.keep (sqT_same S1) _ hT, hV, .inl ⟨tl, _, rfl, sqT_same S1 _ _ hs, by rw [List.length_map]; omega, fun x hx => ?_, fun _ H2 S2 => ?_, fun n => absurd hL.ok n⟩⟩
      · obtain ⟨l, _, rfl⟩ := List.mem_map.mp hx
        exact .int l
      have S12 := S1.trans S2
      refine ⟨_, rfl, _, rfl, _, rfl, v, x, t, tl, ls, rfl, TrAt.keep (sqT_same S12) _ hT, hV, sqT_same S12 _ _ hs, hL, ?_⟩
      rcases good.split with ⟨q, n, i, rfl, hq, hn, hi, g⟩ | ⟨no, b⟩
      · refine .good (sqT_same S12 _ _ hq) hn hi fun H3 S3 => ?_
        have S13 := S12.trans S3
        refine ⟨_, rfl, q, _, rfl, sqT_same S13 _ _ hq, rfl, _, _, rfl, _, _, rfl, rfl, ?_⟩
        refine ⟨_, rfl, _, rfl, _, rfl, v, t, tl, ls, rfl, TrAt.keep (sqT_same S13) _ hT, hV, sqT_same S13 _ _ hs, hL, fun p H4 S4 np hp => ?_⟩
        have S14 := S13.trans S4
        exact ⟨_, rfl, _, rfl, v, p, n, i, t, rfl, by decide, TrAt.keep (sqT_same S14) _ hT, hV.wf, hlen, hp, hn, hi, fun p5 H5 S5 h5 => g p5 H5 (S14.trans S5) h5⟩
      · exact .bad (no.same S12) fun H3 S3 => b H3 (S12.trans S3)
    · refine ⟨_, rfl, _, rfl, v, u, t, rfl, TrAt.keep (sqT_same S1) _ hT, hV, ?_⟩
      rcases hb with ⟨tl, xs, rfl, hs, hx, hk, nok⟩ | hb
      · exact .inl ⟨tl, xs, rfl, sqT_same S1 _ _ hs, hx, fun x hx => (hk x hx).same S1, fun ok => absurd ok nok, fun _ H2 S2 => bad H2 (S1.trans S2)⟩
      · refine .inr ⟨?_, fun H2 S2 => bad H2 (S1.trans S2)⟩
        rcases hb with hb | ⟨a, xs, e, ha⟩
        · exact .inl hb
        · exact .inr ⟨a, xs, e, S1 _ _ ha⟩
end
end Mx

set_option Elab.async false
set_option maxRecDepth 100000
set_option linter.all false
/-! one more item in a feed -/
namespace Mx
open PySem L2
def inc (j : Nat) (ls : List Int) : List Int := ls.mapIdx fun i l => if i = j then l + 1 else l
theorem inc_len (j : Nat) (ls : List Int) : (inc j ls).length = ls.length := by unfold inc; rw [List.length_mapIdx]
theorem inc_get {j i : Nat} {ls : List Int} : (inc j ls)[i]? = (ls[i]?).map fun l => if i = j then l + 1 else l := by unfold inc; rw [List.getElem?_mapIdx]
theorem inc_cut {j : Nat} {ls : List Int} {x : Int} (h : ls[j]? = some x) : ls.take j ++ ([x + 1] ++ ls.drop (j + 1)) = inc j ls := by
  obtain ⟨hj, e⟩ := List.getElem?_eq_some_iff.mp h
  refine List.ext_getElem? fun i => ?_
  rw [inc_get]
  have el : (ls.take j).length = j := by rw [List.length_take]; omega
  rcases Nat.lt_trichotomy i j with c | c | c
  · rw [List.getElem?_append_left (by omega), List.getElem?_take, if_pos c]
    cases e2 : ls[i]? with
    | none => rfl
    | some l => simp [show i ≠ j by omega]
  · subst c
    rw [List.getElem?_append_right (by omega), el, Nat.sub_self, h]
    simp
  · rw [List.getElem?_append_right (by omega), el, List.getElem?_append_right (by show 1 ≤ i - j; omega), List.getElem?_drop]
    show ls[j + 1 + (i - j - 1)]? = _
    rw [show j + 1 + (i - j - 1) = i by omega]
    cases e2 : ls[i]? with
    | none => rfl
    | some l => simp [show i ≠ j by omega]
theorem inc_le {j : Nat} {ls : List Int} {x : Int} (h : ls[j]? = some x) (hx : x < 60) (hl : ∀ l ∈ ls, 0 ≤ l ∧ l ≤ 60) : ∀ l ∈ inc j ls, 0 ≤ l ∧ l ≤ 60 := fun l hm => by
  obtain ⟨i, hi⟩ := List.mem_iff_getElem?.mp hm
  rw [inc_get] at hi
  cases e : ls[i]? with
  | none => rw [e] at hi; cases hi
  | some y =>
    rw [e] at hi
    have hy := hl y (List.mem_of_getElem? e)
    have z : (if i = j then y + 1 else y) = l := Option.some.inj hi
    split at z
    · rename_i c
      subst c
      rw [h] at e
      cases e
      omega
    · omega
theorem inc_ok {t : Tr} {j : Nat} {ls : List Int} {x : Int} (hL : LenOk t ls) (h : ls[j]? = some x) (hx : x < 60) : LenOk t (inc j ls) := ⟨by rw [inc_len]; exact hL.len, inc_le h hx hL.le⟩
theorem Lof_get {ns : List Str} {ls : List Int} {n : Str} {j : Nat} (h : ns.length = ls.length) (nd : ns.Nodup) (hj : ns[j]? = some n) (h0 : ∀ l ∈ ls, 0 ≤ l) : ls[j]? = some (Lof ns ls n : Int) :=
  Lof_at h hj (fun m hm e => by have := at_unique nd e hj; omega) h0
/-- the lengths with one more item of the feed at j -/
theorem Lof_inc {t : Tr} {ls : List Int} {n : Str} {j : Nat} (nd : t.names.Nodup) (hL : LenOk t ls) (hj : t.names[j]? = some n) (hx : Lof t.names ls n < 60) : Lof t.names (inc j ls) n = Lof t.names ls n + 1 ∧ ∀ m ∈ t.names, m ≠ n → Lof t.names (inc j ls) m = Lof t.names ls m := by
  have g := fun (m : Str) (i : Nat) (hi : t.names[i]? = some m) => Lof_get hL.len.symm nd hi fun l hl => (hL.le l hl).1
  have hL' := inc_ok hL (g n j hj) (by omega)
  have g' := fun (m : Str) (i : Nat) (hi : t.names[i]? = some m) => Lof_get hL'.len.symm nd hi fun l hl => (hL'.le l hl).1
  constructor
  · have z := g' n j hj
    rw [inc_get, g n j hj] at z
    have z2 : (if j = j then (Lof t.names ls n : Int) + 1 else (Lof t.names ls n : Int)) = (Lof t.names (inc j ls) n : Int) := Option.some.inj z
    rw [if_pos rfl] at z2
    omega
  · intro m hm ne
    obtain ⟨i, hi⟩ := List.mem_iff_getElem?.mp hm
    have z := g' m i hi
    rw [inc_get, g m i hi] at z
    have nij : i ≠ j := fun e => by rw [e, hj] at hi; exact ne (Option.some.inj hi).symm
    have z2 : (if i = j then (Lof t.names ls m : Int) + 1 else (Lof t.names ls m : Int)) = (Lof t.names (inc j ls) m : Int) := Option.some.inj z
    rw [if_neg nij] at z2
    omega
end Mx

set_option Elab.async false
set_option maxRecDepth 100000
set_option linter.all false
/-! lengths[:at] + (lengths[at] + 1,) + lengths[at + 1:] -/
namespace Mx
open PySem L2
theorem PE.of {X : Cx} {e : Expr} {t t' : TE} (h : PE X e t) (i : ∀ σ H Q, t' σ H Q → t σ H Q) : PE X e t' := ⟨fun pins s σ H Q I q => h.run pins s σ H Q I (i σ H Q q)⟩
def tLonger (K : PySem.W.Frag) (i j : Nat) : TE := fun σ H Q => ∃ (tl : Addr) (ls : List Int) (a : Nat) (x : Int), σ[i]? = some (some (.ref tl)) ∧ σ[j]? = some (some (.int (a : Nat))) ∧ SqT K H tl (ls.map V.int) ∧ ls.length ≤ 1000 ∧ ls[a]? = some x ∧
  ∀ r H', Same H H' → SqT K H' r ((inc a ls).map V.int) → Q (.ref r) H'
theorem longer_ok {K : PySem.W.Frag} {i j : Nat} (σ : St) (H : Hp) (Q : VK) (h : tLonger K i j σ H Q) :
    (tOp (rCatA K) (tOp (rCatA K) (tSl (rSlT K) (tVar i) tNoPart (tPart (tVar j))) (tTup (tCons (tOp (rI0 fun i j => V.int (i + j)) (tOp (rIxT K) (tVar i) (tVar j)) (tC (.int 1))) tNil))) (tSl (rSlT K) (tVar i) (tPart (tOp (rI0 fun i j => V.int (i + j)) (tVar j) (tC (.int 1)))) tNoPart)) σ H Q := by
  obtain ⟨tl, ls, a, x, hi, hj, hs, hl, hx, k⟩ := h
  have ha : a < ls.length := (List.getElem?_eq_some_iff.mp hx).1
  have hll : (ls.map V.int).length = ls.length := List.length_map ..
  have hlx : atI (ls.map V.int) ((a : Nat) : Int) = some (V.int x) := atI_nat (by rw [List.getElem?_map, hx]; rfl)
  have ei := inc_cut hx
  refine ⟨_, hi, _, hj, _, rfl, tl, _, rfl, hs, ?_, fun q1 nq1 => ?_⟩
  · intro z
    have z2 := z.2
    rw [HT.sIx_nat, hll] at z2
    omega
  rw [cut_to (by rw [hll]; omega)]
  have S1 : Same H (L2.upd H q1 (.tup ((ls.map V.int).take a))) := Same.new (Same.refl _) nq1
  have h1 : (L2.upd H q1 (.tup ((ls.map V.int).take a))) q1 = some (.tup ((ls.map V.int).take a)) := upd_same
  obtain ⟨H1, e1⟩ : ∃ H1, H1 = L2.upd H q1 (.tup ((ls.map V.int).take a)) := ⟨_, rfl⟩
  rw [← e1] at S1 h1 ⊢
  refine ⟨_, hi, _, hj, tl, _, _, _, rfl, rfl, sqT_same S1 _ _ hs, hlx, _, _, rfl, rfl, by show 1 ≤ sizeLine; decide, fun q2 nq2 => ?_⟩
  have S2 : Same H1 (L2.upd H1 q2 (.tup [.int (x + 1)])) := Same.new (Same.refl _) nq2
  have h2 : (L2.upd H1 q2 (.tup [.int (x + 1)])) q2 = some (.tup [.int (x + 1)]) := upd_same
  show rCatA K _ _ (L2.upd H1 q2 (.tup [.int (x + 1)])) _
  obtain ⟨H2, e2⟩ : ∃ H2, H2 = L2.upd H1 q2 (.tup [.int (x + 1)]) := ⟨_, rfl⟩
  rw [← e2] at S2 h2 ⊢
  have S02 := S1.trans S2
  have l1000 : (ls.map V.int).length < sizeLine := by rw [hll]; exact small1000 (by omega)
  have e3 : ((a : Int) + 1) = ((a + 1 : Nat) : Int) := by omega
  -- the last step, from any tuple of the first ones
  have last : ∀ (r : Addr) (H3 : Hp), Same H H3 → SqT K H3 r ((ls.map V.int).take a ++ [.int (x + 1)]) → (tSl (rSlT K) (tVar i) (tPart (tOp (rI0 fun i j => V.int (i + j)) (tVar j) (tC (.int 1)))) tNoPart) σ H3 (fun y H4 => rCatA K (.ref r) y H4 Q) := fun r H3 S3 hr3 => by
    refine ⟨_, hi, _, hj, _, _, rfl, rfl, _, rfl, tl, _, rfl, sqT_same S3 _ _ hs, ?_, fun q4 nq4 => ?_⟩
    · intro z
      have z1 := z.1
      rw [e3, HT.sIx_nat, hll] at z1
      omega
    rw [e3, cut_from (by rw [hll]; omega)]
    have S4 : Same H3 (L2.upd H3 q4 (.tup ((ls.map V.int).drop (a + 1)))) := Same.new (Same.refl _) nq4
    have e5 : (ls.map V.int).take a ++ [V.int (x + 1)] ++ (ls.map V.int).drop (a + 1) = (inc a ls).map V.int := by
      rw [← ei, List.map_append, List.map_append, List.map_take, List.map_drop, List.append_assoc]
      rfl
    refine ⟨r, q4, _, _, rfl, rfl, sqT_same S4 _ _ hr3, SqT.of upd_same, ?_, fun z => by simp at z, fun _ z => ?_, fun _ _ p np => ?_⟩
    · rw [← List.length_append, e5, List.length_map, inc_len, ← hll]
      exact Nat.le_of_lt l1000
    · rw [z, List.append_nil] at e5
      rw [e5] at hr3
      exact k r _ (S3.trans S4) (sqT_same S4 _ _ hr3)
    · refine k p _ (Same.new (S3.trans S4) np) (SqT.of ?_)
      rw [upd_same, e5]
  refine ⟨q1, q2, _, _, rfl, rfl, SqT.of (S2 _ _ h1), SqT.of h2, ?_, fun z => ?_, fun _ z => by simp at z, fun z _ p np => ?_⟩
  · rw [List.length_take]
    show min a _ + 1 ≤ sizeLine
    rw [hll] at l1000 ⊢
    omega
  · refine last q2 H2 S02 ?_
    rw [z, List.nil_append]
    exact SqT.of h2
  · exact last p _ (Same.new S02 np) (SqT.of upd_same)
end Mx

set_option Elab.async false
set_option maxRecDepth 100000
set_option linter.all false
/-! what the top has written: defs, methods, errors, numbers -/
namespace Mx
open PySem PySem.Spec PyProof.Rows L2
section
variable {K : PySem.W.Frag} {h : Heap} {mg : Str → Option Value} {x m qual : Str} {st : Stmt} {ps : List Str} {f C : Addr} {oc kV doc pm cdv ct : Value} {od an : Option Addr} {osl : Array (Option Value)}
/-- how a def without defaults binds -/
abbrev BindsAs (x qual : Str) (st : Stmt) (ps : List Str) : Prop := ∀ (kV doc pm : Value) (an : Option Addr) (cdv ct : Value) (us : List Value), us.length = ps.length → bindArgs (PySem.W.fnOf x qual (defArgs st) (defBody st) (defScope st) .none kV doc pm an cdv ct) ⟨us, []⟩ = pure (ps.zip us)
theorem def_mk (X : K.In h) (G : h.Ns mainGlobals mg) (hb : BindsAs x x st ps) (a : PySem.W.nsIn K mainGlobals x = some (some (.ref f))) (l : K.lookup f = some ⟨oc, od, .func (PySem.W.fnOf x x (defArgs st) (defBody st) (defScope st) .none kV doc pm an cdv ct), osl⟩)
    (c : PySem.W.codeIn K cdv x = true) (k : PySem.W.keepIn K (.ref f) = true) : ∃ f fd, Def K mg x st ps f fd :=
  ⟨f, _, fun_mk l c k, PySem.W.mg_of X G a, (fun_mk (st := st) l c k).binds hb⟩
theorem init_mk (hb : BindsAs "__init__" qual st ps) (mk : PySem.W.makesIn K C = true) (kc : PySem.W.keepIn K (.ref C) = true) (a : PySem.W.findIn K (.ref C) "__init__" = some (some (.ref f))) (i : PySem.W.isFn K (.ref f) = true) (l : K.lookup f = some ⟨oc, od, .func (PySem.W.fnOf "__init__" qual (defArgs st) (defBody st) (defScope st) .none kV doc pm an cdv ct), osl⟩)
    (c : PySem.W.codeIn K cdv qual = true) (k : PySem.W.keepIn K (.ref f) = true) : ∃ f fd, Mk K C f ∧ Fun K "__init__" qual st f fd ∧ Binds K fd ps [] :=
  ⟨f, _, ⟨mk, a, i, kc⟩, fun_mk l c k, (fun_mk (st := st) l c k).binds hb⟩
theorem exc_mk (X : K.In h) (G : h.Ns mainGlobals mg) (a : PySem.W.nsIn K mainGlobals x = some (some (.ref C))) (q : PySem.W.excIn K C [.type "ValueError", .type "Exception", .type "BaseException", .type "object"] "ValueError.__new__" = true) (k : PySem.W.keepIn K (.ref C) = true)
    (b : PySem.W.subIn K (.ref C) (.type "BaseException") = some true) (t : PySem.W.typeIn K (.ref C) = some (.type "type")) : ExcF K mg x C := ⟨PySem.W.mg_of X G a, q, k, b, t⟩
theorem cst_mk {n : Int} {t : Tok} (X : K.In h) (G : h.Ns mainGlobals mg) (a : PySem.W.nsIn K mainGlobals x = some (some (.int n t))) : ∃ t, mg x = some (.int n t) := ⟨t, PySem.W.mg_of X G a⟩
end
end Mx

set_option Elab.async false
set_option maxRecDepth 100000
set_option linter.all false
/-! from the law's own promise to what the end asks -/
namespace Mx
open PySem PySem.Spec PyProof.Rows L2
/-- a def stands at its name -/
abbrev Has (K : PySem.W.Frag) (mg : Str → Option Value) (x : Str) (st : Stmt) (ps : List Str) : Prop := ∃ f fd, Def K mg x st ps f fd
/-- .. and keeps a promise -/
def Pr (P : Program) (w : World) (K : PySem.W.Frag) (mg : Str → Option Value) (base : Heap) (CX : CXT) (k : Nat) (x : Str) (st : Stmt) (ps : List Str) (sp : Sp) : Prop := ∃ f fd, Def K mg x st ps f fd ∧ FnOk P w K mg base CX k f fd ps sp
def spLaw (K : PySem.W.Frag) : Sp := fun vs H Q _ => ∃ (a : Addr) (ns : List Int), vs = [.ref a] ∧ SqL K H a (ns.map V.int) ∧ ns.length ≤ 63 ∧ ∀ H', Q (.bl true) H'
theorem law_end {P : Program} {w : World} {K : PySem.W.Frag} {mg : Str → Option Value} {fa : Addr} {k : Nat} (hmg : mg "law" = some (.ref fa)) (D : Has K mg "law" sLaw ["script"])
    (F : ∀ (base : Heap) (f : Addr) (fd : FuncData), Def K mg "law" sLaw ["script"] f fd → FnOk P w K mg base CX0 k f fd ["script"] (spLaw K)) :
    ∃ fd : FuncData, (∀ (s : Shared) (v : Value), BindsTo s fd ⟨[v], []⟩ [("script", v)]) ∧ ∀ base : Heap, K.In base → base.Ns mainGlobals mg → FnOk P w K mg base CX0 k fa fd ["script"] (spLaw K) := by
  obtain ⟨f, fd, D⟩ := D
  have e := hmg.symm.trans D.mg
  cases e
  have D0 := D
  obtain ⟨oc, od, kV, doc, pm, an, cdv, ct, osl, rfl, lk, hcd⟩ := D.fn.ex
  exact ⟨_, fun s v => .of_eq rfl, fun base _ _ => F base _ _ D0⟩
/-- a promise with exceptions whose way of exceptions is not gone -/
theorem passN {X : Cx} : Passes (L2N.CX X.prog X.w) X E0 := fun _ _ _ _ _ _ _ h => by
  obtain ⟨_, _, _, _, _, _, _, _, _, _, _, _, z⟩ := h
  exact z.elim
end Mx

set_option Elab.async false
set_option maxRecDepth 100000
set_option linter.all false
/-! the promises of trees.py's common defs -/
namespace Mx
open PySem PySem.Spec PyProof.Rows L2
structure TopT (K : PySem.W.Frag) (mg : Str → Option Value) : Prop where
  blt : Blt mg
  cst : Cst mg
  isTree : Has K mg "is_tree" sIsTree ["value"]
  isNum : Has K mg "is_number" s_is_number ["value"]
  isWhole : Has K mg "is_whole" sIsWhole ["value", "low", "high"]
  reqTree : Has K mg "require_tree" sReqTree ["value"]
  hasShape : Has K mg "has_shape" sHasShape ["value", "around"]
  isWP : Has K mg "is_weighted_part" sIsWP ["value", "around"]
  isName : Has K mg "is_feed_name" sIsName ["text"]
  namesIn : Has K mg "names_in" sNamesIn ["tree"]
structure LibT (P : Program) (w : World) (K : PySem.W.Frag) (mg : Str → Option Value) (base : Heap) : Prop where
  isWhole : Pr P w K mg base CX0 2 "is_whole" sIsWhole ["value", "low", "high"] (spWhole K)
  namesIn : Pr P w K mg base CX0 6 "names_in" sNamesIn ["tree"] (spNames K 4)
  isTree : Pr P w K mg base CX0 11 "is_tree" sIsTree ["value"] (spIsTree K)
  reqTree : Pr P w K mg base CX0 12 "require_tree" sReqTree ["value"] (spReqTree K)
theorem libT_of {P : Program} {w : World} {K : PySem.W.Frag} {mg : Str → Option Value} {base : Heap} (T : TopT K mg) : LibT P w K mg base := by
  have B := T.blt
  obtain ⟨f1, d1, D1⟩ := T.isTree
  obtain ⟨f3, d3, D3⟩ := T.isWhole
  obtain ⟨f33, d33, D33⟩ := T.isNum
  obtain ⟨f4, d4, D4⟩ := T.reqTree
  obtain ⟨f5, d5, D5⟩ := T.hasShape
  obtain ⟨f6, d6, D6⟩ := T.isWP
  obtain ⟨f7, d7, D7⟩ := T.isName
  obtain ⟨f8, d8, D8⟩ := T.namesIn
  have G3 := ok_whole (P := P) (w := w) (base := base) (mg := mg) D3.fn D33 (ok_num D33.fn B)
  have G7 := ok_isName (P := P) (w := w) (base := base) D7.fn B T.cst
  have G5 := ok_shape D5 B T.cst D7 G7 D6 D3 G3 4
  have G8 := ok_namesIn (P := P) (w := w) (base := base) D8 B 4
  have G1 := ok_isTree D1.fn B T.cst D5 G5 D8 G8
  exact ⟨⟨_, _, D3, G3⟩, ⟨_, _, D8, G8⟩, ⟨_, _, D1, G1⟩, ⟨_, _, D4, ok_reqTree D4.fn D1 G1⟩⟩
end Mx

set_option Elab.async false
set_option maxRecDepth 100000
set_option linter.all false
/-! feeds_of, require_lengths -/
namespace Mx
open PySem PySem.Spec PyProof.Rows L2
structure TopR (K : PySem.W.Frag) (mg : Str → Option Value) (CL : Addr) : Prop where
  feedsOf : Has K mg "feeds_of" sFeedsOf ["tree"]
  reqLen : Has K mg "require_lengths" sReqLen ["tree", "value"]
  c60 : ∃ t, mg "GREATEST_LENGTH" = some (.int 60 t)
  exL : ExcF K mg "InvalidLengths" CL
structure LibR (P : Program) (w : World) (K : PySem.W.Frag) (mg : Str → Option Value) (base : Heap) (CL : Addr) : Prop where
  feedsOf : Pr P w K mg base CX0 13 "feeds_of" sFeedsOf ["tree"] (spFeedsOf K)
  reqLen : Pr P w K mg base (L2N.CX P w) 14 "require_lengths" sReqLen ["tree", "value"] (spReqLen K CL)
theorem libR_of {P : Program} {w : World} {K : PySem.W.Frag} {mg : Str → Option Value} {base : Heap} {CL : Addr} (B : Blt mg) (L : LibT P w K mg base) (T : TopR K mg CL) : LibR P w K mg base CL := by
  obtain ⟨f2, d2, D2⟩ := T.feedsOf
  obtain ⟨f10, d10, D10⟩ := T.reqLen
  obtain ⟨_, _, D4, G4⟩ := L.reqTree
  obtain ⟨_, _, D8, G8⟩ := L.namesIn
  obtain ⟨_, _, D3, G3⟩ := L.isWhole
  have G2 := ok_feedsOf D2.fn D4 G4 D8 G8
  exact ⟨⟨_, _, D2, G2⟩, ⟨_, _, D10, ok_reqLenN D10.fn B T.c60 T.exL D2 G2 D3 G3⟩⟩
end Mx

set_option Elab.async false
set_option maxRecDepth 100000
set_option linter.all false
/-! place_of and what it calls -/
namespace Mx
open PySem PySem.Spec PyProof.Rows L2
structure TopPl (K : PySem.W.Frag) (mg : Str → Option Value) (CI : Addr) : Prop where
  placeOf : Has K mg "place_of" s_place_of ["tree", "lengths", "item"]
  reqItem : Has K mg "require_item" s_require_item ["tree", "lengths", "value"]
  byName : Has K mg "lengths_by_name" s_lengths_by_name ["tree", "lengths"]
  partWith : Has K mg "part_with" s_part_with ["mixer", "name"]
  total : Has K mg "total_in" s_total_in ["tree", "lengths"]
  placeIn : Has K mg "place_in" s_place_in ["tree", "lengths", "name", "index"]
  turns : Has K mg "turns_of" s_turns_of ["parts", "lengths"]
  taken : Has K mg "taken_in_rounds" s_taken_in_rounds ["turns", "rounds"]
  exI : ExcF K mg "InvalidItem" CI
structure LibPl (P : Program) (w : World) (K : PySem.W.Frag) (mg : Str → Option Value) (base : Heap) (CL CI : Addr) : Prop where
  placeOf : Pr P w K mg base (L2N.CX P w) 15 "place_of" s_place_of ["tree", "lengths", "item"] (spPlaceOf K CL CI)
  reqItem : Pr P w K mg base (L2N.CX P w) 7 "require_item" s_require_item ["tree", "lengths", "value"] (spReqItem K CI)
  byName : Pr P w K mg base CX0 7 "lengths_by_name" s_lengths_by_name ["tree", "lengths"] (spByName K)
  partWith : Pr P w K mg base CX0 7 "part_with" s_part_with ["mixer", "name"] (spPartWith K)
theorem libPl_of {P : Program} {w : World} {K : PySem.W.Frag} {mg : Str → Option Value} {base : Heap} {CL CI : Addr} (B : Blt mg) (LT : LibT P w K mg base) (LR : LibR P w K mg base CL) (T : TopPl K mg CI) : LibPl P w K mg base CL CI := by
  obtain ⟨_, _, D4, G4⟩ := LT.reqTree
  obtain ⟨_, _, D8, G8⟩ := LT.namesIn
  obtain ⟨_, _, D3, G3⟩ := LT.isWhole
  obtain ⟨_, _, D10, G10⟩ := LR.reqLen
  obtain ⟨_, _, E1⟩ := T.placeOf
  obtain ⟨_, _, E2⟩ := T.reqItem
  obtain ⟨_, _, E3⟩ := T.byName
  obtain ⟨_, _, E4⟩ := T.partWith
  obtain ⟨_, _, E5⟩ := T.total
  obtain ⟨_, _, E6⟩ := T.placeIn
  obtain ⟨_, _, E7⟩ := T.turns
  obtain ⟨_, _, E8⟩ := T.taken
  have Q2 := ok_reqItem E2.fn B T.exI D8 G8 D3 G3
  have Q3 := ok_byName (P := P) (w := w) (base := base) E3.fn B D8 G8
  have Q4 := ok_partWith (P := P) (w := w) (base := base) E4.fn D8 G8
  have Q8 := ok_taken (P := P) (w := w) (base := base) E8.fn B
  have Q6 : ∀ L, FnOk P w K mg base CX0 14 _ _ ["tree", "lengths", "name", "index"] (spPlaceIn K L 4) := fun L => ok_placeIn E6 B E4 Q4 E7 (ok_turns E7.fn E5 (ok_total E5.fn B D8 G8)) E8 Q8 4
  exact ⟨⟨_, _, E1, ok_placeOf E1.fn D4 G4 D10 G10 E2 Q2 E3 Q3 E6 Q6⟩, ⟨_, _, E2, Q2⟩, ⟨_, _, E3, Q3⟩, ⟨_, _, E4, Q4⟩⟩
end Mx

set_option Elab.async false
set_option maxRecDepth 100000
set_option linter.all false
/-! require_name -/
namespace Mx
open PySem L2
/-- what is asked of a feed's name -/
def NameAsk (t : Tr) (x : V) (G : Str → Prop) (Bad : Prop) : Prop := flatV x = true ∧ (∀ n, x = .str n → n ∈ t.names → G n) ∧ ((¬ ∃ n, x = .str n ∧ n ∈ t.names) → Bad)
theorem NameAsk.good {t : Tr} {n : Str} {G : Str → Prop} {B : Prop} (h : n ∈ t.names) (g : G n) : NameAsk t (.str n) G B := ⟨rfl, fun m e _ => by cases e; exact g, fun no => absurd ⟨n, rfl, h⟩ no⟩
theorem NameAsk.bad {t : Tr} {x : V} {G : Str → Prop} {B : Prop} (f : flatV x = true) (h : ¬ ∃ n, x = .str n ∧ n ∈ t.names) (b : B) : NameAsk t x G B := ⟨f, fun n e hn => absurd ⟨n, e, hn⟩ h, fun _ => b⟩
theorem NameAsk.cases {t : Tr} {x : V} {G : Str → Prop} {B : Prop} (h : NameAsk t x G B) : (∃ n, x = .str n ∧ n ∈ t.names ∧ G n) ∨ (flatV x = true ∧ (¬ ∃ n, x = .str n ∧ n ∈ t.names) ∧ B) := by
  by_cases c : ∃ n, x = .str n ∧ n ∈ t.names
  · obtain ⟨n, e, hn⟩ := c
    exact .inl ⟨n, e, hn, h.2.1 n e hn⟩
  · exact .inr ⟨h.1, c, h.2.2 c⟩
def spReqName (K : PySem.W.Frag) (C : Addr) : Sp := fun vs H Q E => ∃ (v x : V) (t : Tr), vs = [v, x] ∧ TrAt K H 4 v t ∧ TreeV t ∧ NameAsk t x (fun _ => ∀ H', Same H H' → Q .non H') (∀ H', Same H H' → E (.ref C) none H')
section
variable {P : Program} {w : World} {K : PySem.W.Frag} {mg : Str → Option Value} {base : Heap}
theorem scRN : FnScope ["tree", "value"] ["tree", "value"] (defScope s_require_name) := ⟨rfl, rfl, rfl, by decide +kernel, rfl, by decide +kernel, by decide +kernel⟩
theorem ok_reqName {f fN C : Addr} {fd fdN : FuncData} (F : Fun K "require_name" "require_name" s_require_name f fd) (X : ExcF K mg "InvalidName" C) (DN : Def K mg "names_in" sNamesIn ["tree"] fN fdN) (GN : FnOk P w K mg base CX0 6 fN fdN ["tree"] (spNames K 4)) : FnOk P w K mg base (L2N.CX P w) 7 f fd ["tree", "value"] (spReqName K C) := by
  refine okN F scRN (fun vs H Q E h => ?_) (fun cdv A outer s H vs Q E hr h => ?_)
  · obtain ⟨v, x, t, rfl, _⟩ := h
    rfl
  · obtain ⟨v, x, t, rfl, hT, hV, h⟩ := h
    refine ⟨_, pss_one (ps_if (pt_cmpR op_notIn_seq (pv 1) (pe_call GN hr rfl DN.mg DN.fn.kp DN.b .nil pass0 (pa_cons (pv 0) pa_nil)) (by rfl))
        (pss_one (L2N.ps_raise rfl (L2N.takes_of rfl rfl rfl rfl) (L2N.pmk_own PySem.F.excBase_ValueError X.x X.g X.k (raises_own X.b X.t) rfl))) pss_nil), ?_⟩
    refine ⟨_, rfl, _, rfl, v, t, rfl, hT, hV.wf, by have := hV.len; omega, fun p H1 S1 np hp => ?_⟩
    refine ⟨p, _, rfl, .inl (SqL.of hp), h.1, flat_strs, _, rfl, ?_⟩
    rcases h.cases with ⟨n, rfl, hn, g⟩ | ⟨_, no, b⟩
    · refine ite2 (fun c => ?_) (fun _ => g H1 S1)
      have c' : (!inV (.str n) (t.names.map V.str)) = true := c
      rw [inV_strs, decide_eq_true hn] at c'
      cases c'
    · refine ite2 (fun _ => b H1 S1) (fun c => ?_)
      have ei : inV x (t.names.map V.str) = false := by
        cases x with
        | str n => rw [inV_strs, decide_eq_false fun hn => no ⟨n, rfl, hn⟩]
        | _ => exact inV_other fun n e => by cases e
      have c' : ¬ (!inV x (t.names.map V.str)) = true := c
      rw [ei] at c'
      exact absurd rfl c'
end
end Mx

set_option Elab.async false
set_option maxRecDepth 100000
set_option linter.all false
/-! changes.py: require_name, push -/
namespace Mx
open PySem L2
def spPush (K : PySem.W.Frag) (CL CM CT CI : Addr) : Sp := fun vs H Q E => ∃ (v u x y : V) (t : Tr), vs = [v, u, x, y] ∧ TrAt K H 4 v t ∧ TreeV t ∧
  LensAsk K H t u (fun ls => NameAsk t x (fun n => (Lof t.names ls n = 60 → ∀ H', Same H H' → E (.ref CT) none H') ∧
    (Lof t.names ls n < 60 → ItemAsk K H t ls y (fun m i => (m = n → ∀ H', Same H H' → E (.ref CI) none H') ∧ (m ≠ n → ∀ (j p p' : Nat) (H' : Hp), Same H H' → t.names[j]? = some n → (t.out (Lof t.names ls))[p]? = some (m, i) → (t.out (Lof t.names (inc j ls)))[p']? = some (m, i) → Q (.int ((p' : Int) - (p : Int))) H'))
      (∀ H', Same H H' → E (.ref CI) none H'))) (∀ H', Same H H' → E (.ref CM) none H')) (∀ H', Same H H' → E (.ref CL) none H')
section
variable {P : Program} {w : World} {K : PySem.W.Frag} {mg : Str → Option Value} {base : Heap}
def nPush : List Str := ["tree", "lengths", "name", "item", "at", "longer"]
theorem scPush : FnScope nPush ["tree", "lengths", "name", "item"] (defScope s_push) := ⟨rfl, rfl, rfl, by decide +kernel, rfl, by decide +kernel, by decide +kernel⟩
theorem ok_push {f fT fL fM fN fI fP CL CM CT CI : Addr} {fd dT dL dM dN dI dP : FuncData} (F : Fun K "push" "push" s_push f fd) (c60 : ∃ t, mg "GREATEST_LENGTH" = some (.int 60 t)) (XT : ExcF K mg "TooMany" CT) (XI : ExcF K mg "InvalidItem" CI)
    (DT : Def K mg "require_tree" sReqTree ["value"] fT dT) (GT : FnOk P w K mg base CX0 12 fT dT ["value"] (spReqTree K)) (DL : Def K mg "require_lengths" sReqLen ["tree", "value"] fL dL) (GL : FnOk P w K mg base (L2N.CX P w) 14 fL dL ["tree", "value"] (spReqLen K CL))
    (DM : Def K mg "require_name" s_require_name ["tree", "value"] fM dM) (GM : FnOk P w K mg base (L2N.CX P w) 7 fM dM ["tree", "value"] (spReqName K CM)) (DN : Def K mg "names_in" sNamesIn ["tree"] fN dN) (GN : FnOk P w K mg base CX0 6 fN dN ["tree"] (spNames K 4))
    (DI : Def K mg "require_item" s_require_item ["tree", "lengths", "value"] fI dI) (GI : FnOk P w K mg base (L2N.CX P w) 7 fI dI ["tree", "lengths", "value"] (spReqItem K CI)) (DP : Def K mg "place_of" s_place_of ["tree", "lengths", "item"] fP dP) (GP : FnOk P w K mg base (L2N.CX P w) 15 fP dP ["tree", "lengths", "item"] (spPlaceOf K CL CI)) :
    FnOk P w K mg base (L2N.CX P w) 16 f fd ["tree", "lengths", "name", "item"] (spPush K CL CM CT CI) := by
  obtain ⟨t60, h60⟩ := c60
  refine okN F scPush (fun vs H Q E h => ?_) (fun cdv A outer s H vs Q E hr h => ?_)
  · obtain ⟨v, u, x, y, t, rfl, _⟩ := h
    rfl
  · obtain ⟨v, u, x, y, t, rfl, hT, hV, h⟩ := h
    refine ⟨_, pss_cons (ps_expr (pe_call GT (hr.mono (by decide)) rfl DT.mg DT.fn.kp DT.b .nil pass0 (pa_cons (pv 0) pa_nil)))
      (pss_cons (ps_expr (pe_call GL (hr.mono (by decide)) rfl DL.mg DL.fn.kp DL.b .nil (L2N.passes_call (L2N.takes_of rfl rfl rfl rfl) (fun _ _ _ _ h => h)) (pa_cons (pv 0) (pa_cons (pv 1) pa_nil))))
      (pss_cons (ps_expr (pe_call GM (hr.mono (by decide)) rfl DM.mg DM.fn.kp DM.b .nil (L2N.passes_call (L2N.takes_of rfl rfl rfl rfl) (fun _ _ _ _ h => h)) (pa_cons (pv 0) (pa_cons (pv 2) pa_nil))))
      (pss_cons (ps_set (i := 4) scPush.nd rfl (Or.inl rfl) (pe_bm PySem.F.plainAttrs_list PySem.F.slot_list_index PySem.F.type_list_index mt_index (pe_call GN (hr.mono (by decide)) rfl DN.mg DN.fn.kp DN.b .nil pass0 (pa_cons (pv 0) pa_nil)) (pa_cons (pv 2) pa_nil)))
      (pss_cons (ps_if (pt_cmpR op_eq (pe_ix ix_tup (pv 1) (pv 4) (fun _ _ => rfl)) (pe_glob (v := .int 60) rfl h60 ⟨_, rfl⟩) (nomark _))
        (pss_one (L2N.ps_raise rfl (L2N.takes_of rfl rfl rfl rfl) (L2N.pmk_own PySem.F.excBase_ValueError XT.x XT.g XT.k (raises_own XT.b XT.t) rfl))) pss_nil)
      (pss_cons (ps_expr (pe_call GI (hr.mono (by decide)) rfl DI.mg DI.fn.kp DI.b .nil (L2N.passes_call (L2N.takes_of rfl rfl rfl rfl) (fun _ _ _ _ h => h)) (pa_cons (pv 0) (pa_cons (pv 1) (pa_cons (pv 3) pa_nil)))))
      (pss_cons (ps_if (pt_cmpR op_eq (pe_ix ix_tup (pv 3) pe_int (fun _ _ => rfl)) (pv 2) (nomark _))
        (pss_one (L2N.ps_raise rfl (L2N.takes_of rfl rfl rfl rfl) (L2N.pmk_own PySem.F.excBase_ValueError XI.x XI.g XI.k (raises_own XI.b XI.t) rfl))) pss_nil)
      (pss_cons (ps_set (i := 5) scPush.nd rfl (Or.inl rfl) (PE.of (pe_op op_catA (pe_op op_catA (pe_slice sl_tup (pv 1) po_none (po_some (pv 4))) (pe_tup (pa_cons (pe_op op_add (pe_ix ix_tup (pv 1) (pv 4) (fun _ _ => rfl)) pe_int) pa_nil))) (pe_slice sl_tup (pv 1) (po_some (pe_op op_add (pv 4) pe_int)) po_none)) longer_ok))
      (pss_one (ps_ret (pe_op op_sub (pe_call GP hr rfl DP.mg DP.fn.kp DP.b .nil (L2N.passes_call (L2N.takes_of rfl rfl rfl rfl) (fun _ _ _ _ h => h)) (pa_cons (pv 0) (pa_cons (pv 5) (pa_cons (pv 3) pa_nil)))) (pe_call GP hr rfl DP.mg DP.fn.kp DP.b .nil (L2N.passes_call (L2N.takes_of rfl rfl rfl rfl) (fun _ _ _ _ h => h)) (pa_cons (pv 0) (pa_cons (pv 1) (pa_cons (pv 3) pa_nil)))))))))))))), ?_⟩
    refine ⟨_, rfl, v, t, rfl, hT, hV, fun H1 S1 => ?_⟩
    obtain ⟨L, ⟨tl, ls, rfl, hs, hL, rfl, g⟩ | ⟨no, b⟩⟩ := h.cases
    · refine ⟨_, rfl, _, rfl, v, .ref tl, t, rfl, TrAt.keep (sqT_same S1) _ hT, hV, .inl ⟨tl, _, rfl, sqT_same S1 _ _ hs, by have h1 := hV.len; have h2 := hL.len; rw [List.length_map]; omega, fun x hx => ?_, fun _ H2 S2 => ?_, fun n => absurd hL.ok n⟩⟩
      · obtain ⟨l, _, rfl⟩ := List.mem_map.mp hx
        exact .int l
      have S02 := S1.trans S2
      refine ⟨_, rfl, _, rfl, v, x, t, rfl, TrAt.keep (sqT_same S02) _ hT, hV, ?_⟩
      rcases g.cases with ⟨n, rfl, hn, g60, g⟩ | ⟨hf, no, b⟩
      · refine .good hn fun H3 S3 => ?_
        have S03 := S02.trans S3
        obtain ⟨j, hj⟩ := List.mem_iff_getElem?.mp hn
        have hlj := Lof_get hL.len.symm hV.nd hj fun l hl => (hL.le l hl).1
        have hj8 : j < ls.length := (List.getElem?_eq_some_iff.mp hlj).1
        refine ⟨_, rfl, v, t, rfl, TrAt.keep (sqT_same S03) _ hT, hV.wf, by have := hV.len; omega, fun p H4 S4 np hp => ?_⟩
        have S04 := S03.trans S4
        refine ⟨.inl ⟨rfl, _, SqL.of hp⟩, _, rfl, p, _, _, j, .str n, rfl, rfl, SqL.of hp, rfl, flat_strs, by rw [List.getElem?_map, hj]; rfl, ?_, ?_, ?_⟩
        · show (n == n) = true
          simp
        · intro m z' hm hz
          rw [List.getElem?_map] at hz
          cases e : t.names[m]? with
          | none => rw [e] at hz; cases hz
          | some n' =>
            rw [e] at hz
            cases hz
            show (n' == n) = false
            have ne : n' ≠ n := fun w => by rw [w] at e; have := at_unique hV.nd e hj; omega
            simp [ne]
        have hlx : atI (ls.map V.int) ((j : Nat) : Int) = some (V.int (Lof t.names ls n : Int)) := atI_nat (by rw [List.getElem?_map, hlj]; rfl)
        refine ⟨_, rfl, _, rfl, tl, _, _, _, rfl, rfl, sqT_same S04 _ _ hs, hlx, rfl, _, rfl, ?_⟩
        refine ite2 (fun c => ?_) (fun c => ?_)
        · exact g60 (by have z : (Lof t.names ls n : Int) = 60 := (by simpa using c); omega) H4 S04
        have hlt : Lof t.names ls n < 60 := by
          have h1 := hL.small n hn
          have h2 : ¬ Lof t.names ls n = 60 := fun e => c (by rw [e]; rfl)
          omega
        have gi := g hlt
        refine ⟨_, rfl, _, rfl, _, rfl, v, y, t, tl, ls, rfl, TrAt.keep (sqT_same S04) _ hT, hV, sqT_same S04 _ _ hs, hL, ?_⟩
        rcases gi.split with ⟨q, m, i, rfl, hq, hm, hi, gs, gd⟩ | ⟨no, b⟩
        · refine .good (sqT_same S04 _ _ hq) hm hi fun H5 S5 => ?_
          have S05 := S04.trans S5
          refine ⟨_, rfl, q, _, _, _, rfl, rfl, sqT_same S05 _ _ hq, rfl, _, rfl, rfl, _, rfl, ?_⟩
          refine ite2 (fun c2 => ?_) (fun c2 => ?_)
          · exact gs (by simpa using c2) H5 S05
          have ne : m ≠ n := fun e => c2 (by rw [e]; simp)
          refine ⟨tl, ls, j, _, rfl, rfl, sqT_same S05 _ _ hs, by have h1 := hV.len; have h2 := hL.len; omega, hlj, fun r H6 S6 hr6 => ?_⟩
          have S06 := S05.trans S6
          have hL' : LenOk t (inc j ls) := inc_ok hL hlj (by omega)
          have hin := Lof_inc hV.nd hL hj hlt
          have hi' : i < Lof t.names (inc j ls) m := by rw [hin.2 m hm ne]; exact hi
          refine ⟨_, rfl, _, rfl, _, rfl, v, .ref r, .ref q, t, rfl, TrAt.keep (sqT_same S06) _ hT, hV, .good hr6 hV hL' (.good (sqT_same S06 _ _ hq) hm hi' fun p' H7 S7 hp' => ?_)⟩
          have S07 := S06.trans S7
          refine ⟨_, rfl, _, rfl, _, rfl, v, .ref tl, .ref q, t, rfl, TrAt.keep (sqT_same S07) _ hT, hV, .good (sqT_same S07 _ _ hs) hV hL (.good (sqT_same S07 _ _ hq) hm hi fun p H8 S8 hp => ?_)⟩
          exact ⟨_, _, rfl, rfl, gd ne j p p' H8 (S07.trans S8) hj hp hp'⟩
        · exact .bad (no.same S04) fun H5 S5 => b H5 (S04.trans S5)
      · exact .bad hf no fun H3 S3 => b H3 (S02.trans S3)
    · refine ⟨_, rfl, _, rfl, v, u, t, rfl, TrAt.keep (sqT_same S1) _ hT, hV, ?_⟩
      rcases no with ⟨tl, xs, rfl, hs, hx, hk, nok⟩ | hb
      · exact .inl ⟨tl, xs, rfl, sqT_same S1 _ _ hs, hx, fun x hx => (hk x hx).same S1, fun ok => absurd ok nok, fun _ H2 S2 => b H2 (S1.trans S2)⟩
      · refine .inr ⟨?_, fun H2 S2 => b H2 (S1.trans S2)⟩
        rcases hb with hb | ⟨a, xs, e, ha⟩
        · exact .inl hb
        · exact .inr ⟨a, xs, e, S1 _ _ ha⟩
end
end Mx

set_option Elab.async false
set_option maxRecDepth 100000
set_option linter.all false
/-! the mixer at which two feeds meet -/
namespace Mx
open PySem L2
inductive Meet (n m : Str) : Tr → Nat × Int × Tr → Nat × Int × Tr → Prop
  | here {ps : List (Int × Tr)} {i j : Nat} {P Q : Int × Tr} (hi : ps[i]? = some P) (hj : ps[j]? = some Q) (hn : n ∈ P.2.names) (hm : m ∈ Q.2.names) (ne : i ≠ j) : Meet n m (.mix ps) (i, P.1, P.2) (j, Q.1, Q.2)
  | deep {ps : List (Int × Tr)} {i : Nat} {P : Int × Tr} {a b : Nat × Int × Tr} (hi : ps[i]? = some P) (h : Meet n m P.2 a b) : Meet n m (.mix ps) a b
theorem names_part {ps : List (Int × Tr)} {p : Int × Tr} (hp : p ∈ ps) {n : Str} (h : n ∈ p.2.names) : n ∈ (Tr.mix ps).names := by
  rw [Tr.names_mix]
  exact List.mem_flatten.mpr ⟨_, List.mem_map.mpr ⟨p, hp, rfl⟩, h⟩
theorem Meet.names {n m : Str} {t : Tr} {a b : Nat × Int × Tr} (h : Meet n m t a b) : n ∈ a.2.2.names ∧ m ∈ b.2.2.names ∧ (∀ x ∈ a.2.2.names, x ∈ t.names) ∧ ∀ x ∈ b.2.2.names, x ∈ t.names := by
  induction h with
  | here hi hj hn hm ne => exact ⟨hn, hm, fun x hx => names_part (List.mem_of_getElem? hi) hx, fun x hx => names_part (List.mem_of_getElem? hj) hx⟩
  | deep hi h ih =>
    obtain ⟨h1, h2, h3, h4⟩ := ih
    exact ⟨h1, h2, fun x hx => names_part (List.mem_of_getElem? hi) (h3 x hx), fun x hx => names_part (List.mem_of_getElem? hi) (h4 x hx)⟩
/-- the parts at the meeting are well formed trees -/
theorem Meet.wf {n m : Str} {t : Tr} {a b : Nat × Int × Tr} (h : Meet n m t a b) : ∀ {d : Nat}, t.wf d → ∃ e, a.2.2.wf e ∧ b.2.2.wf e := by
  induction h with
  | here hi hj hn hm ne =>
    intro d hw
    cases d with
    | zero => unfold Tr.wf at hw; exact hw.elim
    | succ e => exact ⟨e, wf_part hw (List.mem_of_getElem? hi), wf_part hw (List.mem_of_getElem? hj)⟩
  | deep hi h ih =>
    intro d hw
    cases d with
    | zero => unfold Tr.wf at hw; exact hw.elim
    | succ e => exact ih (wf_part hw (List.mem_of_getElem? hi))
/-- which of two items is first: by the rounds at the mixer where their feeds meet -/
theorem Meet.order {L : Str → Nat} {t : Tr} {A B : Nat × Int × Tr} {x y : Item} (h : Meet x.1 y.1 t A B) : ∀ {d : Nat}, t.wf d → t.names.Nodup → ∀ {p q a b : Nat}, (A.2.2.out L)[p]? = some x → (B.2.2.out L)[q]? = some y → (t.out L)[a]? = some x → (t.out L)[b]? = some y →
    (a < b ↔ (p / A.2.1.toNat < q / B.2.1.toNat ∨ (p / A.2.1.toNat = q / B.2.1.toNat ∧ A.1 < B.1))) := by
  induction h with
  | @here ps i j P Q hi hj hn hm ne =>
    intro d hw nd p q a b hp hq ha hb
    cases d with
    | zero => unfold Tr.wf at hw; exact hw.elim
    | succ e =>
      rw [out_order hw nd hi hj hp hq ha hb]
      show (p / P.1.toNat < q / Q.1.toNat ∨ (p / P.1.toNat = q / Q.1.toNat ∧ (i < j ∨ (i = j ∧ p < q)))) ↔ (p / P.1.toNat < q / Q.1.toNat ∨ (p / P.1.toNat = q / Q.1.toNat ∧ i < j))
      omega
  | @deep ps i P A B hi h ih =>
    intro d hw nd p q a b hp hq ha hb
    cases d with
    | zero => unfold Tr.wf at hw; exact hw.elim
    | succ e =>
      have hP := List.mem_of_getElem? hi
      have wP := wf_part hw hP
      obtain ⟨n1, n2, n3, n4⟩ := h.names
      have mx := (mem_out (e + 1) hw x).mp (List.mem_of_getElem? ha)
      have my := (mem_out (e + 1) hw y).mp (List.mem_of_getElem? hb)
      obtain ⟨a', ha'⟩ := List.mem_iff_getElem?.mp ((mem_out (L := L) e wP x).mpr ⟨n3 _ n1, mx.2⟩)
      obtain ⟨b', hb'⟩ := List.mem_iff_getElem?.mp ((mem_out (L := L) e wP y).mpr ⟨n4 _ n2, my.2⟩)
      rw [out_within hw nd hi ha' hb' ha hb]
      exact ih wP (nodup_part nd hP) hp hq ha' hb'
/-- the lengths of feeds outside both parts do not matter -/
theorem Meet.others {L L' : Str → Nat} {t : Tr} {A B : Nat × Int × Tr} {x y : Item} (h : Meet x.1 y.1 t A B) {d : Nat} (hw : t.wf d) (nd : t.names.Nodup) (e1 : ∀ n ∈ A.2.2.names, L n = L' n) (e2 : ∀ n ∈ B.2.2.names, L n = L' n) {a b a' b' : Nat}
    (ha : (t.out L)[a]? = some x) (hb : (t.out L)[b]? = some y) (ha' : (t.out L')[a']? = some x) (hb' : (t.out L')[b']? = some y) : a < b ↔ a' < b' := by
  obtain ⟨e, w1, w2⟩ := h.wf hw
  obtain ⟨n1, n2, n3, n4⟩ := h.names
  have mx := (mem_out d hw x).mp (List.mem_of_getElem? ha)
  have my := (mem_out d hw y).mp (List.mem_of_getElem? hb)
  obtain ⟨p, hp⟩ := List.mem_iff_getElem?.mp ((mem_out (L := L) e w1 x).mpr ⟨n1, mx.2⟩)
  obtain ⟨q, hq⟩ := List.mem_iff_getElem?.mp ((mem_out (L := L) e w2 y).mpr ⟨n2, my.2⟩)
  have hp' := hp
  have hq' := hq
  rw [out_ext e w1 e1] at hp'
  rw [out_ext e w2 e2] at hq'
  rw [h.order hw nd hp hq ha hb, h.order hw nd hp' hq' ha' hb']
/-- two feeds of a tree meet somewhere -/
theorem Meet.some {n m : Str} (ne : n ≠ m) : ∀ (d : Nat) {t : Tr}, t.wf d → t.names.Nodup → n ∈ t.names → m ∈ t.names → ∃ A B, Meet n m t A B
  | d, .feed s, _, _, hn, hm => by
    rw [Tr.names_feed, List.mem_singleton] at hn hm
    exact absurd (hn.trans hm.symm) ne
  | 0, .mix ps, h, _, _, _ => by unfold Tr.wf at h; exact h.elim
  | d + 1, .mix ps, h, nd, hn, hm => by
    rw [Tr.names_mix, List.mem_flatten] at hn hm
    obtain ⟨l, hl, hn⟩ := hn
    obtain ⟨P, hP, rfl⟩ := List.mem_map.mp hl
    obtain ⟨l2, hl2, hm⟩ := hm
    obtain ⟨Q, hQ, rfl⟩ := List.mem_map.mp hl2
    obtain ⟨i, hi⟩ := List.mem_iff_getElem?.mp hP
    obtain ⟨j, hj⟩ := List.mem_iff_getElem?.mp hQ
    by_cases e : i = j
    · subst e
      rw [hi] at hj
      cases hj
      obtain ⟨A, B, q⟩ := Meet.some ne d (wf_part h hP) (nodup_part nd hP) hn hm
      exact ⟨A, B, .deep hi q⟩
    · exact ⟨_, _, .here hi hj hn hm e⟩
end Mx

set_option Elab.async false
set_option maxRecDepth 100000
set_option linter.all false
/-! the limit of pushes -/
namespace Mx
open PySem L2
section
variable {α : Type}
theorem wider_sum {f : Nat → Nat → Nat} {a b : Rows α} (h : Wider a b) : ∀ s, sumB f s b + tot a ≤ sumB f s a + tot b := by
  induction h with
  | nil => intro s; exact Nat.le_refl _
  | @cons w r r' a b h t ih =>
    intro s
    have := ih (s + 1)
    rw [tot_cons, tot_cons]
    show min r'.length (f s w) + sumB f (s + 1) b + (r.length + tot a) ≤ min r.length (f s w) + sumB f (s + 1) a + (r'.length + tot b)
    omega
def sumW (i c k : Nat) : Nat → Rows α → Nat
  | _, [] => 0
  | s, r :: rest => (if s = i then k else r.1 * c) + sumW i c k (s + 1) rest
/-- the rows are alike but for the i-th one -/
inductive But1 (i : Nat) : Nat → Rows α → Rows α → Prop
  | nil {s : Nat} : But1 i s [] []
  | cons {s : Nat} {r r' : Nat × List α} {a b : Rows α} (h : s ≠ i → r = r') (t : But1 i (s + 1) a b) : But1 i s (r :: a) (r' :: b)
theorem but1_sum {w i p p' k c : Nat} (hp : p' ≤ p + k) (hc : p' / w ≤ p / w + c) {s : Nat} {a b : Rows α} (h : But1 i s a b) : (∀ j r, a[j]? = some r → s + j = i → p ≤ r.2.length) → sumB (bd w i p') s b ≤ sumB (bd w i p) s a + sumW i c k s a := by
  induction h with
  | nil => exact fun _ => Nat.le_refl _
  | @cons s r r' a b h t ih =>
    intro hl
    have ih' := ih fun j q hq e => hl (j + 1) q (by simpa using hq) (by omega)
    show min r'.2.length (bd w i p' s r'.1) + sumB (bd w i p') (s + 1) b ≤ min r.2.length (bd w i p s r.1) + sumB (bd w i p) (s + 1) a + ((if s = i then k else r.1 * c) + sumW i c k (s + 1) a)
    have key : min r'.2.length (bd w i p' s r'.1) ≤ min r.2.length (bd w i p s r.1) + (if s = i then k else r.1 * c) := by
      by_cases e : s = i
      · have h0 := hl 0 r rfl (by omega)
        unfold bd
        rw [if_neg (by omega), if_pos e, if_neg (by omega), if_pos e, if_pos e]
        omega
      · rw [← h e, if_neg e]
        unfold bd
        by_cases l : s < i
        · rw [if_pos l, if_pos l]
          have : r.1 * (p' / w + 1) ≤ r.1 * (p / w + 1) + r.1 * c := by
            rw [← Nat.mul_add]
            exact Nat.mul_le_mul_left _ (by omega)
          omega
        · rw [if_neg l, if_neg e, if_neg l, if_neg e]
          have : r.1 * (p' / w) ≤ r.1 * (p / w) + r.1 * c := by
            rw [← Nat.mul_add]
            exact Nat.mul_le_mul_left _ hc
          omega
    omega
def wsum (rows : Rows α) : Nat := (rows.map (·.1)).sum
theorem wsum_cons (r : Nat × List α) (rest : Rows α) : wsum (r :: rest) = r.1 + wsum rest := by unfold wsum; simp
theorem sumW_far {i c k : Nat} : ∀ {rows : Rows α} {s : Nat}, i < s → sumW i c k s rows = wsum rows * c
  | [], s, _ => by simp [sumW, wsum]
  | r :: rest, s, h => by
    show (if s = i then k else r.1 * c) + sumW i c k (s + 1) rest = _
    rw [if_neg (by omega), sumW_far (by omega), wsum_cons, Nat.add_mul]
theorem sumW_at {i c k : Nat} : ∀ {rows : Rows α} {s j : Nat} {r : Nat × List α}, rows[j]? = some r → s + j = i → r.1 ≤ wsum rows ∧ sumW i c k s rows = k + (wsum rows - r.1) * c
  | [], s, j, r, h, _ => by simp at h
  | q :: rest, s, 0, r, h, e => by
    have eq : q = r := by simpa using h
    subst eq
    show _ ∧ (if s = i then k else q.1 * c) + sumW i c k (s + 1) rest = _
    rw [if_pos (by omega), sumW_far (by omega), wsum_cons]
    exact ⟨by omega, by rw [Nat.add_sub_cancel_left]⟩
  | q :: rest, s, j + 1, r, h, e => by
    obtain ⟨i1, i2⟩ := sumW_at (i := i) (c := c) (k := k) (rows := rest) (s := s + 1) (j := j) (r := r) (by simpa using h) (by omega)
    show _ ∧ (if s = i then k else q.1 * c) + sumW i c k (s + 1) rest = _
    rw [if_neg (by omega), i2, wsum_cons]
    refine ⟨by omega, ?_⟩
    rw [show q.1 + wsum rest - r.1 = q.1 + (wsum rest - r.1) from by omega, Nat.add_mul]
    omega
end
theorem ceil_le {p p' k w : Nat} (hw : 1 ≤ w) (h : p' ≤ p + k) : p' / w ≤ p / w + (k / w + if k % w > 0 then 1 else 0) := by
  refine Nat.le_trans (Nat.div_le_div_right h) ?_
  rw [Nat.add_div (by omega)]
  have := Nat.mod_lt p (show w > 0 from by omega)
  split <;> split <;> omega
/-- the limit of pushes of m's items by n -/
inductive Lim (n m : Str) : Tr → Nat → Prop
  | here {ps : List (Int × Tr)} {i j : Nat} {P Q : Int × Tr} (hi : ps[i]? = some P) (hj : ps[j]? = some Q) (hn : n ∈ P.2.names) (hm : m ∈ Q.2.names) (ne : i ≠ j) : Lim n m (.mix ps) 1
  | deep {ps : List (Int × Tr)} {i k : Nat} {P : Int × Tr} (hi : ps[i]? = some P) (hn : n ∈ P.2.names) (hm : m ∈ P.2.names) (h : Lim n m P.2 k) :
      Lim n m (.mix ps) (k + ((ps.map fun p => p.1.toNat).sum - P.1.toNat) * (k / P.1.toNat + if k % P.1.toNat > 0 then 1 else 0))
theorem other_part {ps : List (Int × Tr)} (nd : (Tr.mix ps).names.Nodup) {i j : Nat} {P Q : Int × Tr} (hi : ps[i]? = some P) (hj : ps[j]? = some Q) (ne : i ≠ j) {n : Str} (hn : n ∈ P.2.names) : n ∉ Q.2.names := by
  rw [Tr.names_mix, nodup_flat, List.pairwise_map] at nd
  intro hq
  obtain ⟨l1, e1⟩ := List.getElem?_eq_some_iff.mp hi
  obtain ⟨l2, e2⟩ := List.getElem?_eq_some_iff.mp hj
  rcases Nat.lt_or_gt_of_ne ne with z | z
  · exact List.pairwise_iff_getElem.mp nd.2 i j l1 l2 z n (by rw [e1]; exact hn) n (by rw [e2]; exact hq) rfl
  · exact List.pairwise_iff_getElem.mp nd.2 j i l2 l1 z n (by rw [e2]; exact hq) n (by rw [e1]; exact hn) rfl
theorem sum_one {L L' : Str → Nat} {n : Str} (h1 : L' n = L n + 1) (h2 : ∀ m, m ≠ n → L' m = L m) : ∀ {ns : List Str}, ns.Nodup → (ns.map L').sum ≤ (ns.map L).sum + 1
  | [], _ => Nat.zero_le _
  | m :: ns, nd => by
    rw [List.map_cons, List.map_cons, List.sum_cons, List.sum_cons]
    have hc := List.nodup_cons.mp nd
    by_cases e : m = n
    · subst e
      have : ns.map L' = ns.map L := List.map_congr_left fun x hx => h2 x fun z => hc.1 (z ▸ hx)
      rw [this]
      omega
    · have := sum_one h1 h2 hc.2
      rw [h2 m e]
      omega
theorem wider_of {L L' : Str → Nat} {d : Nat} : ∀ {ps : List (Int × Tr)}, (∀ p ∈ ps, p.2.wf d) → (∀ p ∈ ps, ∀ n ∈ p.2.names, L n ≤ L' n) → Wider (ps.map fun p => (p.1.toNat, p.2.out L)) (ps.map fun p => (p.1.toNat, p.2.out L'))
  | [], _, _ => .nil
  | q :: r, hw, hl => by
    refine .cons ?_ (wider_of (fun p hp => hw p (List.mem_cons_of_mem _ hp)) fun p hp => hl p (List.mem_cons_of_mem _ hp))
    rw [out_len d (hw q List.mem_cons_self), out_len d (hw q List.mem_cons_self)]
    have hq := hl q List.mem_cons_self
    generalize q.2.names = ns at hq
    induction ns with
    | nil => exact Nat.le_refl _
    | cons n ns ih =>
      rw [List.map_cons, List.map_cons, List.sum_cons, List.sum_cons]
      have := hq n List.mem_cons_self
      have := ih fun m hm => hq m (List.mem_cons_of_mem _ hm)
      omega
theorem but1_of {L L' : Str → Nat} {i : Nat} : ∀ {ps : List (Int × Tr)} {s : Nat}, (∀ j Q, ps[j]? = some Q → s + j ≠ i → Q.2.out L' = Q.2.out L) → But1 i s (ps.map fun p => (p.1.toNat, p.2.out L)) (ps.map fun p => (p.1.toNat, p.2.out L'))
  | [], _, _ => .nil
  | q :: r, s, h => .cons (fun ne => by show (q.1.toNat, q.2.out L) = (q.1.toNat, q.2.out L'); rw [h 0 q rfl (by omega)]) (but1_of fun j Q hj ne => h (j + 1) Q (by simpa using hj) (by omega))
/-- no push is greater -/
theorem Lim.le {n m : Str} {t : Tr} {k : Nat} (h : Lim n m t k) {L L' : Str → Nat} (h1 : L' n = L n + 1) (h2 : ∀ m, m ≠ n → L' m = L m) : ∀ {d : Nat}, t.wf d → t.names.Nodup → ∀ {a a' : Nat} {x : Item}, x.1 = m → (t.out L)[a]? = some x → (t.out L')[a']? = some x → a' ≤ a + k := by
  have le : ∀ y, L y ≤ L' y := fun y => by
    by_cases e : y = n
    · subst e; omega
    · rw [h2 y e]; exact Nat.le_refl _
  have same : ∀ {d : Nat} {u : Tr}, u.wf d → n ∉ u.names → u.out L' = u.out L := fun {d u} hu nn => out_ext d hu fun y hy => h2 y fun z => nn (z ▸ hy)
  induction h with
  | @here ps i j P Q hi hj hn hm ne =>
    intro d hw nd a a' x ex ha ha'
    cases d with
    | zero => unfold Tr.wf at hw; exact hw.elim
    | succ d =>
      have hQ := List.mem_of_getElem? hj
      have eQ := same (wf_part hw hQ) (other_part nd hi hj ne hn)
      have mx := (mem_out (d + 1) hw x).mp (List.mem_of_getElem? ha)
      obtain ⟨q, hq⟩ := List.mem_iff_getElem?.mp ((mem_out (L := L) d (wf_part hw hQ) x).mpr ⟨by rw [ex]; exact hm, mx.2⟩)
      have rj : ∀ L : Str → Nat, (ps.map fun p => (p.1.toNat, p.2.out L))[j]? = some (Q.1.toNat, Q.2.out L) := fun L => by rw [List.getElem?_map, hj]; rfl
      have s1 := R_sum (wf_pos hw) (rj L) hq
      have s2 := R_sum (wf_pos hw) (rj L') (by rw [eQ]; exact hq)
      rw [← Tr.out_mix] at s1 s2
      rw [at_unique (out_nodup (d + 1) hw nd) ha s1, at_unique (out_nodup (d + 1) hw nd) ha' s2]
      have wd := wider_sum (f := bd Q.1.toNat j q) (wider_of (fun p hp => wf_part hw hp) (fun p hp y _ => le y)) 0
      have t1 := len_R (wf_pos (L := L) hw)
      have t2 := len_R (wf_pos (L := L') hw)
      rw [← Tr.out_mix, out_len (d + 1) hw] at t1 t2
      have so := sum_one h1 h2 nd
      omega
  | @deep ps i k P hi hn hm h ih =>
    intro d hw nd a a' x ex ha ha'
    cases d with
    | zero => unfold Tr.wf at hw; exact hw.elim
    | succ d =>
      have hP := List.mem_of_getElem? hi
      have mx := (mem_out (d + 1) hw x).mp (List.mem_of_getElem? ha)
      have mx' := (mem_out (d + 1) hw x).mp (List.mem_of_getElem? ha')
      obtain ⟨p, hp⟩ := List.mem_iff_getElem?.mp ((mem_out (L := L) d (wf_part hw hP) x).mpr ⟨by rw [ex]; exact hm, mx.2⟩)
      obtain ⟨p', hp'⟩ := List.mem_iff_getElem?.mp ((mem_out (L := L') d (wf_part hw hP) x).mpr ⟨by rw [ex]; exact hm, mx'.2⟩)
      have ple := ih (wf_part hw hP) (nodup_part nd hP) ex hp hp'
      have ri : ∀ L : Str → Nat, (ps.map fun p => (p.1.toNat, p.2.out L))[i]? = some (P.1.toNat, P.2.out L) := fun L => by rw [List.getElem?_map, hi]; rfl
      have s1 := R_sum (wf_pos hw) (ri L) hp
      have s2 := R_sum (wf_pos hw) (ri L') hp'
      rw [← Tr.out_mix] at s1 s2
      rw [at_unique (out_nodup (d + 1) hw nd) ha s1, at_unique (out_nodup (d + 1) hw nd) ha' s2]
      have w1 : 1 ≤ P.1.toNat := (wf_pos (L := L) hw) _ (List.mem_of_getElem? (ri L))
      have b1 : But1 i 0 (ps.map fun p => (p.1.toNat, p.2.out L)) (ps.map fun p => (p.1.toNat, p.2.out L')) := by
        refine but1_of fun j Q hj ne => ?_
        rw [same (wf_part hw (List.mem_of_getElem? hj)) (other_part nd hi hj (fun z => ne (by omega)) hn)]
      have hl : ∀ j r, (ps.map fun p => (p.1.toNat, p.2.out L))[j]? = some r → 0 + j = i → p ≤ r.2.length := fun j r hr e => by
        obtain rfl : j = i := by omega
        rw [ri L] at hr
        cases hr
        exact Nat.le_of_lt (List.getElem?_eq_some_iff.mp hp).1
      have fin := but1_sum ple (ceil_le w1 ple) b1 hl
      obtain ⟨_, sw⟩ := sumW_at (i := i) (c := k / P.1.toNat + if k % P.1.toNat > 0 then 1 else 0) (k := k) (s := 0) (ri L) (by omega)
      rw [sw] at fin
      have ew : wsum (ps.map fun p => (p.1.toNat, p.2.out L)) = (ps.map fun p => p.1.toNat).sum := by unfold wsum; rw [List.map_map]; rfl
      rw [ew] at fin
      omega
end Mx

set_option Elab.async false
set_option maxRecDepth 100000
set_option linter.all false
/-! changes.py: limit_in, push_limit -/
namespace Mx
open PySem L2
theorem ceil_eq {k w : Nat} (hw : 1 ≤ w) : (k + w - 1) / w = k / w + if k % w > 0 then 1 else 0 := by
  have h1 := Nat.div_add_mod k w
  have h2 := Nat.mod_lt k (show w > 0 by omega)
  generalize k / w = q at *
  generalize k % w = r at *
  subst h1
  split
  · rename_i c
    rw [show w * q + r + w - 1 = (r - 1) + w * (q + 1) by rw [Nat.mul_add]; omega, Nat.add_mul_div_left _ _ (by omega), Nat.div_eq_of_lt (by omega)]
    omega
  · rename_i c
    have : r = 0 := by omega
    subst this
    rw [show w * q + 0 + w - 1 = (w - 1) + w * q by omega, Nat.add_mul_div_left _ _ (by omega), Nat.div_eq_of_lt (by omega)]
    omega
def wts (ps : List (Int × Tr)) : List Int := ps.map fun p => p.1
theorem wts_sum : ∀ {ps : List (Int × Tr)}, (∀ p ∈ ps, 1 ≤ p.1) → (wts ps).sum = ((ps.map fun p => p.1.toNat).sum : Nat)
  | [], _ => rfl
  | p :: r, h => by
    show p.1 + (wts r).sum = ((p.1.toNat + (r.map fun p => p.1.toNat).sum : Nat) : Int)
    rw [wts_sum fun q hq => h q (List.mem_cons_of_mem _ hq), Int.natCast_add, Int.toNat_of_nonneg (by have := h p List.mem_cons_self; omega)]
theorem wts_ge {ps : List (Int × Tr)} {P : Int × Tr} : P ∈ ps → P.1.toNat ≤ (ps.map fun p => p.1.toNat).sum := fun h => by
  induction ps with
  | nil => cases h
  | cons q r ih =>
    rw [List.map_cons, List.sum_cons]
    rcases List.mem_cons.mp h with e | e
    · rw [e]; omega
    · have := ih e; omega
theorem wts_le {ps : List (Int × Tr)} (h : ∀ p ∈ ps, p.1 ≤ 9) : (ps.map fun p => p.1.toNat).sum ≤ 9 * ps.length := by
  induction ps with
  | nil => simp
  | cons q r ih =>
    rw [List.map_cons, List.sum_cons, List.length_cons]
    have h1 := h q List.mem_cons_self
    have h2 := ih fun p hp => h p (List.mem_cons_of_mem _ hp)
    omega
def spLimitIn (K : PySem.W.Frag) (d : Nat) : Sp := fun vs H Q _ => ∃ (v : V) (n m : Str) (t : Tr), vs = [v, .str n, .str m] ∧ d ≤ 4 ∧ TrAt K H d v t ∧ t.wf d ∧ t.names.length ≤ 8 ∧ t.names.Nodup ∧ n ≠ m ∧ n ∈ t.names ∧ m ∈ t.names ∧
  ∀ (k : Nat) (H' : Hp), Same H H' → Lim n m t k → Q (.int (k : Nat)) H'
def spPushLimit (K : PySem.W.Frag) (CM : Addr) : Sp := fun vs H Q E => ∃ (v x y : V) (t : Tr), vs = [v, x, y] ∧ TrAt K H 4 v t ∧ TreeV t ∧
  NameAsk t x (fun n => NameAsk t y (fun m => (n = m → ∀ H', Same H H' → E (.ref CM) none H') ∧ (n ≠ m → ∀ (k : Nat) (H' : Hp), Same H H' → Lim n m t k → Q (.int (k : Nat)) H')) (∀ H', Same H H' → E (.ref CM) none H')) (∀ H', Same H H' → E (.ref CM) none H')
section
variable {P : Program} {w : World} {K : PySem.W.Frag} {mg : Str → Option Value} {base : Heap}
def nLI : List Str := ["mixer", "name", "other", "own", "weight", "part", "in_round", "inner", "rounds"]
theorem scLI : FnScope nLI ["mixer", "name", "other"] (defScope s_limit_in) := ⟨rfl, rfl, rfl, by decide +kernel, rfl, by decide +kernel, by decide +kernel⟩
theorem limitIn_step {d : Nat} {f fW : Addr} {fd fdW : FuncData} (F : Def K mg "limit_in" s_limit_in ["mixer", "name", "other"] f fd) (B : Blt mg) (DW : Def K mg "part_with" s_part_with ["mixer", "name"] fW fdW) (GW : FnOk P w K mg base CX0 7 fW fdW ["mixer", "name"] (spPartWith K))
    (GR : FnOk P w K mg base CX0 (d + 8) f fd ["mixer", "name", "other"] (pre (spLimitIn K) d)) : FnOk P w K mg base CX0 (d + 9) f fd ["mixer", "name", "other"] (spLimitIn K d) := by
  refine F.fn.ok scLI (fun vs H Q E h => ?_) (fun cdv A outer s H vs Q E hr h => ?_)
  · obtain ⟨v, n, m, t, rfl, _⟩ := h
    rfl
  · obtain ⟨v, n, m, t, rfl, hd, hT, hW, hlen, nd, ne, hn, hm, k⟩ := h
    have hr7 : Room 7 _ := hr.mono (by omega)
    refine ⟨_, pss_cons (ps_set (i := 3) scLI.nd rfl (Or.inl rfl) (pe_call GW hr7 rfl DW.mg DW.fn.kp DW.b .nil pass0 (pa_cons (pv 0) (pa_cons (pv 1) pa_nil))))
      (pss_cons (ps_if (pt_cmpR op_ne (pe_call GW hr7 rfl DW.mg DW.fn.kp DW.b .nil pass0 (pa_cons (pv 0) (pa_cons (pv 2) pa_nil))) (pv 3) (nomark _)) (pss_one (ps_ret pe_int)) pss_nil)
      (pss_cons (ps_set (i := 6) scLI.nd rfl (Or.inl rfl) (pe_callB (cr_sum rfl) (by rfl) B.sum (by decide +kernel) (pa_cons
        (pe_lc (own := [("weight", 4), ("part", 5)]) (g := gTup K 2 (gCons (gName 4) (gCons (gName 5) gNil))) (tt := tYes) (by rfl) scLI.nd (pi_tup (pv 0)) (blkOk_by (own := [("weight", 4), ("part", 5)]) (N := nLI) (sc := defScope s_limit_in) (by decide +kernel))
          (fun _ _ _ _ _ => pg_tup rfl (pgs_cons (pg_name (i := 4) scLI.nd rfl (Or.inl rfl)) (pgs_cons (pg_name (i := 5) scLI.nd rfl (Or.inl rfl)) pgs_nil))) (fun _ _ _ _ _ => pts_nil)
          (fun _ _ _ _ _ => pv 4)) pa_nil)))
      (pss_cons (ps_asg (pe_ix ix_tup (pv 0) (pv 3) (fun _ _ => rfl)) (pg_tup (by rfl) (pgs_cons (pg_name (i := 4) scLI.nd rfl (Or.inl rfl)) (pgs_cons (pg_name (i := 5) scLI.nd rfl (Or.inl rfl)) pgs_nil))))
      (pss_cons (ps_set (i := 7) scLI.nd rfl (Or.inl rfl) (pe_call GR hr rfl F.mg F.fn.kp F.b .nil pass0 (pa_cons (pv 5) (pa_cons (pv 1) (pa_cons (pv 2) pa_nil)))))
      (pss_cons (ps_set (i := 8) scLI.nd rfl (Or.inl rfl) (pe_op op_fdivNN (pe_op op_sub (pe_op op_add (pv 7) (pv 4)) pe_int) (pv 4)))
      (pss_one (ps_ret (pe_op op_add (pv 7) (pe_op op_mul (pe_op op_sub (pv 6) (pv 4)) (pv 8)))))))))), ?_⟩
    cases t with
    | feed s0 =>
      rw [Tr.names_feed, List.mem_singleton] at hn hm
      exact absurd (hn.trans hm.symm) ne
    | mix ps =>
      cases d with
      | zero => exact (TrAt_zero hT).elim
      | succ e =>
        have hT4 := TrAt.mono (e + 1) 4 hd hT
        have hW4 := Tr.wf_mono (e + 1) 4 hd hW
        obtain ⟨a, xs, rfl, hs, hP⟩ := TrAt_mix.mp hT
        have hw : ps ≠ [] ∧ ps.length ≤ 5 ∧ ∀ p ∈ ps, 1 ≤ p.1 ∧ p.1 ≤ 9 ∧ p.2.wf e := by unfold Tr.wf at hW; exact hW
        refine ⟨_, rfl, _, rfl, a, n, ps, rfl, hT4, hW4, hlen, hn, fun j P1 H1 hj hn1 _ S1 => ?_⟩
        refine ⟨_, rfl, _, rfl, a, m, ps, rfl, TrAt.keep (sqT_same S1) _ hT4, hW4, hlen, hm, fun j2 P2 H2 hj2 hm2 hb2 S2 => ?_⟩
        have S02 := S1.trans S2
        refine ⟨_, rfl, rfl, _, rfl, ?_⟩
        by_cases ejj : j2 = j
        · subst ejj
          rw [hj] at hj2
          cases hj2
          refine ite2 (fun c => by simp at c) (fun _ => ?_)
          have hpm : P1 ∈ ps := List.mem_of_getElem? hj
          have hjl : j2 < ps.length := (List.getElem?_eq_some_iff.mp hj).1
          obtain ⟨hw1, hw9, hwe⟩ := hw.2.2 P1 hpm
          refine ⟨_, rfl, a, rfl, ⟨_, sqT_same S02 _ _ hs⟩, fun D nD => ?_⟩
          refine lc_tup (K := K) (a := a) (xs := xs) (fun i H' => Same H2 H' ∧ H' D = some (.lst ((wts (ps.take i)).map V.int))) ?_ ?_ ?_ ?_
          · exact ⟨Same.new (Same.refl _) nD, upd_same⟩
          · rintro i H' _ ⟨hS, _⟩
            exact sqT_same (S02.trans hS) _ _ hs
          · rintro i x H' hx ⟨hS, hD⟩
            have hi : i < ps.length := by rw [← hP.1]; exact (List.getElem?_eq_some_iff.mp hx).1
            have hpi : ps[i]? = some ps[i] := List.getElem?_eq_getElem hi
            obtain ⟨b, y, rfl, hb, hy⟩ := hP.2 i x _ hx hpi
            refine ⟨b, _, rfl, sqT_same (S02.trans hS) _ _ hb, rfl, _, _, rfl, _, _, rfl, rfl, rfl, ?_⟩
            refine ⟨_, rfl, _, hD, by unfold wts; rw [List.length_map, List.length_map, List.length_take]; exact small1000 (by omega), Same.own hS nD, ?_⟩
            unfold wts
            rw [upd_same, take_succ_of hpi, List.map_append, List.map_append]
            rfl
          · rintro H3 ⟨S3, hD⟩
            rw [List.take_of_length_le (by rw [hP.1]; exact Nat.le_refl _)] at hD
            have S03 := S02.trans S3
            refine ⟨D, _, rfl, SqL.of hD, ?_⟩
            rw [wts_sum fun p hp => (hw.2.2 p hp).1]
            have hjx : j2 < xs.length := by rw [hP.1]; exact hjl
            have hxj : xs[j2]? = some xs[j2] := List.getElem?_eq_getElem hjx
            obtain ⟨b, y, ex, hb, hy⟩ := hP.2 j2 _ P1 hxj hj
            rw [ex] at hxj
            refine ⟨_, rfl, _, rfl, a, _, _, _, rfl, rfl, sqT_same S03 _ _ hs, atI_nat hxj, ?_⟩
            refine ⟨b, _, rfl, sqT_same S03 _ _ hb, rfl, _, _, rfl, _, _, rfl, rfl, ?_⟩
            refine ⟨_, rfl, _, rfl, _, rfl, y, n, m, P1.2, rfl, by omega, TrAt.keep (sqT_same S03) _ hy, hwe, by have := part_len hpm; omega, nodup_part nd hpm, ne, hn1, hm2, fun kk H4 S4 hk => ?_⟩
            have hge := wts_ge hpm
            have hle := wts_le (ps := ps) fun p hp => (hw.2.2 p hp).2.1
            refine ⟨_, rfl, _, rfl, _, _, rfl, rfl, _, _, rfl, rfl, _, rfl, kk + P1.1.toNat - 1, P1.1.toNat, (by show V.int ((kk : Int) + P1.1 - 1) = V.int ((kk + P1.1.toNat - 1 : Nat) : Int); rw [show (kk : Int) + P1.1 - 1 = ((kk + P1.1.toNat - 1 : Nat) : Int) by omega]), (by rw [Int.toNat_of_nonneg (by omega)]), ⟨by omega, by omega⟩, ?_⟩
            refine ⟨_, rfl, _, rfl, _, rfl, _, _, rfl, rfl, _, rfl, _, _, rfl, rfl, .inl ⟨by omega, by omega⟩, _, _, rfl, rfl, ?_⟩
            have z := k _ H4 (S03.trans S4) (Lim.deep hj hn1 hm2 hk)
            rw [← ceil_eq (by omega), Int.natCast_add, Int.natCast_mul, Int.natCast_sub hge, Int.toNat_of_nonneg (by omega)] at z
            exact z
        · refine ite2 (fun _ => ?_) (fun c => ?_)
          · exact k 1 H2 S02 (Lim.here hj hj2 hn1 hm2 fun e => ejj e.symm)
          · have c' : ¬ (!decide (V.int ((j2 : Nat) : Int) = V.int ((j : Nat) : Int))) = true := c
            simp at c'
            omega
theorem ok_limitIn {f fW : Addr} {fd fdW : FuncData} (F : Def K mg "limit_in" s_limit_in ["mixer", "name", "other"] f fd) (B : Blt mg) (DW : Def K mg "part_with" s_part_with ["mixer", "name"] fW fdW) (GW : FnOk P w K mg base CX0 7 fW fdW ["mixer", "name"] (spPartWith K)) :
    ∀ d : Nat, FnOk P w K mg base CX0 (d + 9) f fd ["mixer", "name", "other"] (spLimitIn K d)
  | 0 => limitIn_step F B DW GW (F.fn.ok (k := 7) scLI (fun _ _ _ _ h => h.elim) (fun _ _ _ _ _ _ _ _ _ h => h.elim))
  | d + 1 => limitIn_step F B DW GW (ok_limitIn F B DW GW d)
theorem scPL : FnScope ["tree", "name", "other"] ["tree", "name", "other"] (defScope s_push_limit) := ⟨rfl, rfl, rfl, by decide +kernel, rfl, by decide +kernel, by decide +kernel⟩
theorem ok_pushLimit {f fT fM fI CM : Addr} {fd dT dM dI : FuncData} (F : Fun K "push_limit" "push_limit" s_push_limit f fd) (XM : ExcF K mg "InvalidName" CM) (DT : Def K mg "require_tree" sReqTree ["value"] fT dT) (GT : FnOk P w K mg base CX0 12 fT dT ["value"] (spReqTree K))
    (DM : Def K mg "require_name" s_require_name ["tree", "value"] fM dM) (GM : FnOk P w K mg base (L2N.CX P w) 7 fM dM ["tree", "value"] (spReqName K CM)) (DI : Def K mg "limit_in" s_limit_in ["mixer", "name", "other"] fI dI) (GI : FnOk P w K mg base CX0 13 fI dI ["mixer", "name", "other"] (spLimitIn K 4)) :
    FnOk P w K mg base (L2N.CX P w) 14 f fd ["tree", "name", "other"] (spPushLimit K CM) := by
  refine okN F scPL (fun vs H Q E h => ?_) (fun cdv A outer s H vs Q E hr h => ?_)
  · obtain ⟨v, x, y, t, rfl, _⟩ := h
    rfl
  · obtain ⟨v, x, y, t, rfl, hT, hV, h⟩ := h
    refine ⟨_, pss_cons (ps_expr (pe_call GT (hr.mono (by decide)) rfl DT.mg DT.fn.kp DT.b .nil pass0 (pa_cons (pv 0) pa_nil)))
      (pss_cons (ps_expr (pe_call GM (hr.mono (by decide)) rfl DM.mg DM.fn.kp DM.b .nil (L2N.passes_call (L2N.takes_of rfl rfl rfl rfl) (fun _ _ _ _ h => h)) (pa_cons (pv 0) (pa_cons (pv 1) pa_nil))))
      (pss_cons (ps_expr (pe_call GM (hr.mono (by decide)) rfl DM.mg DM.fn.kp DM.b .nil (L2N.passes_call (L2N.takes_of rfl rfl rfl rfl) (fun _ _ _ _ h => h)) (pa_cons (pv 0) (pa_cons (pv 2) pa_nil))))
      (pss_cons (ps_if (pt_cmpR op_eq (pv 1) (pv 2) (nomark _)) (pss_one (L2N.ps_raise rfl (L2N.takes_of rfl rfl rfl rfl) (L2N.pmk_own PySem.F.excBase_ValueError XM.x XM.g XM.k (raises_own XM.b XM.t) rfl))) pss_nil)
      (pss_one (ps_ret (pe_call GI hr rfl DI.mg DI.fn.kp DI.b .nil pass0 (pa_cons (pv 0) (pa_cons (pv 1) (pa_cons (pv 2) pa_nil))))))))), ?_⟩
    refine ⟨_, rfl, v, t, rfl, hT, hV, fun H1 S1 => ?_⟩
    refine ⟨_, rfl, _, rfl, v, x, t, rfl, TrAt.keep (sqT_same S1) _ hT, hV, ?_⟩
    rcases h.cases with ⟨n, rfl, hn, h⟩ | ⟨hf, no, b⟩
    · refine .good hn fun H2 S2 => ?_
      have S02 := S1.trans S2
      refine ⟨_, rfl, _, rfl, v, y, t, rfl, TrAt.keep (sqT_same S02) _ hT, hV, ?_⟩
      rcases h.cases with ⟨m, rfl, hm, he, hk⟩ | ⟨hf, no, b⟩
      · refine .good hm fun H3 S3 => ?_
        have S03 := S02.trans S3
        refine ⟨_, rfl, _, rfl, rfl, _, rfl, ?_⟩
        refine ite2 (fun c => ?_) (fun c => ?_)
        · exact he (by simpa using c) H3 S03
        · have ne : n ≠ m := fun e => c (by rw [e]; simp)
          exact ⟨_, rfl, _, rfl, _, rfl, v, n, m, t, rfl, by decide, TrAt.keep (sqT_same S03) _ hT, hV.wf, hV.len, hV.nd, ne, hn, hm, fun kk H4 S4 hl => hk ne kk H4 (S03.trans S4) hl⟩
      · exact .bad hf no fun H3 S3 => b H3 (S02.trans S3)
    · exact .bad hf no fun H2 S2 => b H2 (S1.trans S2)
end
end Mx

set_option Elab.async false
set_option maxRecDepth 100000
set_option linter.all false
/-! the error classes -/
namespace Mx
open PySem PySem.Spec PyProof.Rows L2
/-- the error classes by their places: 0 InvalidTree .. 10 NothingToUndo, 11 MixError -/
structure ErrCs (mg : Str → Option Value) (C : Nat → Addr) : Prop where
  g0 : mg "InvalidTree" = some (.ref (C 0))
  g1 : mg "InvalidName" = some (.ref (C 1))
  g2 : mg "InvalidLengths" = some (.ref (C 2))
  g3 : mg "InvalidItem" = some (.ref (C 3))
  g4 : mg "InvalidNumber" = some (.ref (C 4))
  g5 : mg "InvalidSeen" = some (.ref (C 5))
  g6 : mg "OtherFeeds" = some (.ref (C 6))
  g7 : mg "UnknownFeed" = some (.ref (C 7))
  g8 : mg "TooMany" = some (.ref (C 8))
  g9 : mg "TooLong" = some (.ref (C 9))
  g10 : mg "NothingToUndo" = some (.ref (C 10))
  g11 : mg "MixError" = some (.ref (C 11))
/-- what is known of the i-th class -/
structure ErrD (K : PySem.W.Frag) (C : Nat → Addr) (i : Nat) : Prop where
  lt : i < 11
  ec : ExcC K (C i)
  own : ∀ j, j < 12 → PySem.W.kitOne K (.ref (C i)) (.ref (C j)) = some (j == i || j == 11)
  val : PySem.W.kitOne K (.ref (C i)) (.type "ValueError") = some true
def errWords : List Str := ["tree", "name", "lengths", "item", "number", "seen", "others", "unknown", "many", "long", "undo", "base", "value"]
def errBits (i : Nat) : List Bool := ((List.range 12).map fun j => (j == i || j == 11)) ++ [true]
def errWord (i : Nat) : Str := errWords.getD i "other"
end Mx

set_option Elab.async false
set_option maxRecDepth 100000
set_option linter.all false
/-! .. all error classes -/
namespace Mx
open PySem PySem.Spec PyProof.Rows L2
/-- an own error class, by its place alone -/
structure ExcK (K : PySem.W.Frag) (C : Addr) : Prop where
  x : PySem.W.excIn K C [.type "ValueError", .type "Exception", .type "BaseException", .type "object"] "ValueError.__new__" = true
  k : PySem.W.keepIn K (.ref C) = true
  b : PySem.W.subIn K (.ref C) (.type "BaseException") = some true
  t : PySem.W.typeIn K (.ref C) = some (.type "type")
def errTable (K : PySem.W.Frag) (C : Nat → Addr) : Bool := (List.range 11).all fun i => ((List.range 12).all fun j => PySem.W.kitOne K (.ref (C i)) (.ref (C j)) == some (j == i || j == 11)) && (PySem.W.kitOne K (.ref (C i)) (.type "ValueError") == some true && PySem.W.exmOne K (.ref (C i)) (.ref (C 11)) == some true)
structure ErrAll (K : PySem.W.Frag) (mg : Str → Option Value) (C : Nat → Addr) : Prop where
  cs : ErrCs mg C
  x : ∀ i, i < 11 → ExcK K (C i)
  d : ∀ i, i < 11 → ErrD K C i
  m : ∀ i, i < 11 → PySem.W.exmOne K (.ref (C i)) (.ref (C 11)) = some true
def atC (cs : List Addr) : Nat → Addr := fun n => cs.getD n 0
theorem below11 {p : Nat → Prop} (h0 : p 0) (h1 : p 1) (h2 : p 2) (h3 : p 3) (h4 : p 4) (h5 : p 5) (h6 : p 6) (h7 : p 7) (h8 : p 8) (h9 : p 9) (h10 : p 10) : ∀ i, i < 11 → p i
  | 0, _ => h0 | 1, _ => h1 | 2, _ => h2 | 3, _ => h3 | 4, _ => h4 | 5, _ => h5 | 6, _ => h6 | 7, _ => h7 | 8, _ => h8 | 9, _ => h9 | 10, _ => h10
  | n + 11, h => absurd h (by omega)
section
variable {K : PySem.W.Frag} {h : Heap} {mg : Str → Option Value} {c0 c1 c2 c3 c4 c5 c6 c7 c8 c9 c10 c11 : Addr}
theorem err_mk (X : K.In h) (G : h.Ns mainGlobals mg) (a0 : PySem.W.nsIn K mainGlobals "InvalidTree" = some (some (.ref c0))) (a1 : PySem.W.nsIn K mainGlobals "InvalidName" = some (some (.ref c1))) (a2 : PySem.W.nsIn K mainGlobals "InvalidLengths" = some (some (.ref c2))) (a3 : PySem.W.nsIn K mainGlobals "InvalidItem" = some (some (.ref c3))) (a4 : PySem.W.nsIn K mainGlobals "InvalidNumber" = some (some (.ref c4))) (a5 : PySem.W.nsIn K mainGlobals "InvalidSeen" = some (some (.ref c5))) (a6 : PySem.W.nsIn K mainGlobals "OtherFeeds" = some (some (.ref c6))) (a7 : PySem.W.nsIn K mainGlobals "UnknownFeed" = some (some (.ref c7))) (a8 : PySem.W.nsIn K mainGlobals "TooMany" = some (some (.ref c8))) (a9 : PySem.W.nsIn K mainGlobals "TooLong" = some (some (.ref c9))) (a10 : PySem.W.nsIn K mainGlobals "NothingToUndo" = some (some (.ref c10))) (a11 : PySem.W.nsIn K mainGlobals "MixError" = some (some (.ref c11)))
    (x0 : ExcK K c0) (x1 : ExcK K c1) (x2 : ExcK K c2) (x3 : ExcK K c3) (x4 : ExcK K c4) (x5 : ExcK K c5) (x6 : ExcK K c6) (x7 : ExcK K c7) (x8 : ExcK K c8) (x9 : ExcK K c9) (x10 : ExcK K c10)
    (e0 : ExcC K c0) (e1 : ExcC K c1) (e2 : ExcC K c2) (e3 : ExcC K c3) (e4 : ExcC K c4) (e5 : ExcC K c5) (e6 : ExcC K c6) (e7 : ExcC K c7) (e8 : ExcC K c8) (e9 : ExcC K c9) (e10 : ExcC K c10)
    (tb : errTable K (atC [c0, c1, c2, c3, c4, c5, c6, c7, c8, c9, c10, c11]) = true) : ErrAll K mg (atC [c0, c1, c2, c3, c4, c5, c6, c7, c8, c9, c10, c11]) := by
  have row : ∀ i, i < 11 → (∀ j, j < 12 → PySem.W.kitOne K (.ref (atC [c0, c1, c2, c3, c4, c5, c6, c7, c8, c9, c10, c11] i)) (.ref (atC [c0, c1, c2, c3, c4, c5, c6, c7, c8, c9, c10, c11] j)) = some (j == i || j == 11)) ∧ PySem.W.kitOne K (.ref (atC [c0, c1, c2, c3, c4, c5, c6, c7, c8, c9, c10, c11] i)) (.type "ValueError") = some true ∧ PySem.W.exmOne K (.ref (atC [c0, c1, c2, c3, c4, c5, c6, c7, c8, c9, c10, c11] i)) (.ref (atC [c0, c1, c2, c3, c4, c5, c6, c7, c8, c9, c10, c11] 11)) = some true := fun i hi => by
    have q := (List.all_eq_true.mp tb) i (List.mem_range.mpr hi)
    rw [Bool.and_eq_true, Bool.and_eq_true] at q
    exact ⟨fun j hj => eq_of_beq ((List.all_eq_true.mp q.1) j (List.mem_range.mpr hj)), eq_of_beq q.2.1, eq_of_beq q.2.2⟩
  have e := below11 (p := fun i => ExcC K (atC [c0, c1, c2, c3, c4, c5, c6, c7, c8, c9, c10, c11] i)) e0 e1 e2 e3 e4 e5 e6 e7 e8 e9 e10
  exact ⟨⟨PySem.W.mg_of X G a0, PySem.W.mg_of X G a1, PySem.W.mg_of X G a2, PySem.W.mg_of X G a3, PySem.W.mg_of X G a4, PySem.W.mg_of X G a5, PySem.W.mg_of X G a6, PySem.W.mg_of X G a7, PySem.W.mg_of X G a8, PySem.W.mg_of X G a9, PySem.W.mg_of X G a10, PySem.W.mg_of X G a11⟩, below11 (p := fun i => ExcK K (atC [c0, c1, c2, c3, c4, c5, c6, c7, c8, c9, c10, c11] i)) x0 x1 x2 x3 x4 x5 x6 x7 x8 x9 x10, fun i hi => ⟨hi, e i hi, (row i hi).1, (row i hi).2.1⟩, fun i hi => (row i hi).2.2⟩
end
end Mx

set_option Elab.async false
set_option maxRecDepth 100000
set_option linter.all false
/-! a list comprehension over zip of two lists, while an exception is handled -/
namespace Mx
open PySem PySem.Spec PyProof.Rows HotX
section
variable {prog : Program} {w : World} {A : Around} {E : Value → Shared → Prop} {s : Shared}
/-- a list's iterator at its end: the StopIteration gets the handled exception as its context -/
theorem lh_end {it l x1 : Addr} {i : Nat} {items : Array Value} {Q : Value → Shared → Prop} (hot : HotAt A x1 s.heap) (nx : x1 ≠ it) (hit : s.heap.IsListIter it l i) (hl : s.heap.IsList l items) (hx : items[i]? = none)
    (fin : ∀ h' e, Heap.ExtBut it s.heap h' → (∃ o, h'.get? e = some o ∧ o.cls = .type "StopIteration") → E (.ref e) { s with heap := h' }) : wpAny (model prog w) A (Builtin.SmallTypes.nextOf (.ref it)) Q E s := by
  obtain ⟨o, ho, hc, hd⟩ := id hit
  obtain ⟨ol, hol, _, nl, hdl⟩ := hl
  obtain ⟨hh, o1, vs1, e1, d1, c1⟩ := hot
  unfold Builtin.SmallTypes.nextOf
  refine wpAny_bind (wpAny_callSpecial?_slot (name := Str.ofString "__next__") hit.typeIs slot_listiter_next (wpAny_call_entry slot_listiter_next hit.typeIs entry_listiter_next ?_ (args_listiter_next _)))
  refine wpAny_bind (m := field (.ref it) 0) (wpAny_field ho hd (x := .ref l) rfl ?_)
  rw [if_neg (show ¬ ((Value.ref l == Value.none) = true) from Bool.false_ne_true)]; refine wpAny_bind (m := field (.ref it) 1) (wpAny_field ho hd (x := .int i 0) rfl (wpAny_bind (m := seqItems? (.ref l)) (wpAny_seqItems hol hdl ?_)))
  simp only [Int.toNat_natCast, hx]; refine wpAny_bind (wpAny_rule (wpAny_bind (wpAny_setField ho hd (by simp) ?_)))
  have keep : ∀ b ob, b ≠ it → s.heap.get? b = some ob → (s.heap.update it (Obj.mapFields (·.setIfInBounds 0 Value.none))).get? b = some ob := fun b ob hb q => (Heap.get?_update_other _ _ (Ne.symm hb)).trans q
  refine wpAny_bind (m := newExc (.type "StopIteration") []) ?_
  simp only [newExc, newTuple]; refine wpAny_bind (wpAny_newObj_type ?_ (by size_fits))
  refine wpAny_bind (m := firstArgMember _ _) (wpAny_of_eq (a := Value.none) (by first | rfl | (simp only [firstArgMember]; rfl)) (wpAny_newObj_type ?_ (by size_fits)))
  refine raiseNew_hot ⟨hh, o1, vs1, Heap.get?_push_of_some _ (Heap.get?_push_of_some _ (keep _ _ nx e1)), d1, c1⟩ (Nat.ne_of_lt (Heap.lt_size (Heap.get?_push_of_some _ (keep _ _ nx e1)))) (Heap.get?_push_size _ rfl) rfl (by first | (simp; done) | (simp; omega) | (simp only [Array.size_append]; simp; omega)) ?_
  refine fin _ _ (fun b ob hb q => ?_) ⟨_, Heap.get?_update_self _ (Heap.get?_push_size _ rfl) rfl, rfl⟩
  rw [Heap.get?_update_other _ _ (Nat.ne_of_gt (Heap.lt_size (Heap.get?_push_of_some _ (keep b ob hb q))))]
  exact Heap.get?_push_of_some _ (Heap.get?_push_of_some _ (keep b ob hb q))
/-- a tuple's iterator at its end -/
theorem th_end {it t x1 : Addr} {i : Nat} {items : Array Value} {Q : Option Value → Shared → Prop} (hot : HotAt A x1 s.heap) (nx : x1 ≠ it) (hit : s.heap.IsTupleIter it t i) (ht : s.heap.IsTuple t items) (hx : items[i]? = none)
    (fin : ∀ h', Heap.ExtBut it s.heap h' → Q none { s with heap := h' }) : wpAny (model prog w) A (pyNext (.ref it)) Q E s := by
  obtain ⟨o, ho, hc, hd⟩ := id hit
  obtain ⟨ol, hol, _, nl, hdl⟩ := ht
  obtain ⟨hh, o1, vs1, e1, d1, c1⟩ := hot
  unfold pyNext
  refine wpAny_bind (wpAny_attempt (wpAny_callSpecial?_slot (name := Str.ofString "__next__") hit.typeIs PySem.F.slot_tuple_iterator_next (wpAny_call_entry PySem.F.slot_tuple_iterator_next hit.typeIs PySem.F.entry_tuple_iterator_next ?_ (PySem.F.args_tuple_iterator_next_1 _))))
  refine wpAny_bind (m := field (.ref it) 0) (wpAny_field ho hd (x := .ref t) rfl ?_)
  rw [if_neg (show ¬ ((Value.ref t == Value.none) = true) from Bool.false_ne_true)]; refine wpAny_bind (m := field (.ref it) 1) (wpAny_field ho hd (x := .int i 0) rfl (wpAny_bind (m := seqItems? (.ref t)) (wpAny_seqItems hol hdl ?_)))
  simp only [Int.toNat_natCast, hx]; refine wpAny_bind (wpAny_rule (wpAny_bind (wpAny_setField ho hd (by simp) ?_)))
  have keep : ∀ b ob, b ≠ it → s.heap.get? b = some ob → (s.heap.update it (Obj.mapFields (·.setIfInBounds 0 Value.none))).get? b = some ob := fun b ob hb q => (Heap.get?_update_other _ _ (Ne.symm hb)).trans q
  refine wpAny_bind (m := newExc (.type "StopIteration") []) ?_
  simp only [newExc, newTuple]; refine wpAny_bind (wpAny_newObj_type ?_ (by size_fits))
  refine wpAny_bind (m := firstArgMember _ _) (wpAny_of_eq (a := Value.none) (by first | rfl | (simp only [firstArgMember]; rfl)) (wpAny_newObj_type ?_ (by size_fits)))
  refine raiseNew_hot ⟨hh, o1, vs1, Heap.get?_push_of_some _ (Heap.get?_push_of_some _ (keep _ _ nx e1)), d1, c1⟩ (Nat.ne_of_lt (Heap.lt_size (Heap.get?_push_of_some _ (keep _ _ nx e1)))) (Heap.get?_push_size _ rfl) rfl (by first | (simp; done) | (simp; omega) | (simp only [Array.size_append]; simp; omega)) ?_
  refine wpAny_bind (wpAny_isInstance (T := "StopIteration") (b := true) ⟨_, Heap.get?_update_self _ (Heap.get?_push_size _ rfl) rfl, rfl⟩ isSubtype_stop (wpAny_pure (fin _ fun b ob hb q => ?_)))
  rw [Heap.get?_update_other _ _ (Nat.ne_of_gt (Heap.lt_size (Heap.get?_push_of_some _ (keep b ob hb q))))]
  exact Heap.get?_push_of_some _ (Heap.get?_push_of_some _ (keep b ob hb q))
/-- (a, b, ..) = t, a tuple -/
theorem th_assign {env : Env} {elts : List Expr} {kk : Nat} {pos : PySem.Pos} {t x1 : Addr} {items : Array Value} {Q : Unit → Shared → Prop} (hot : HotAt A x1 s.heap) (ht : s.heap.IsTuple t items) (hn : (assignEach elts env).length = items.size) (hst : (assignEach elts env).findIdx? (·.1) = none)
    (fin : ∀ h', Heap.ExtBut s.heap.objs.size s.heap h' → wpAny (model prog w) A (assignInOrder ((assignEach elts env).map (·.2)) items.toList) Q E { s with heap := h' }) : wpAny (model prog w) A (assign (.Tuple elts kk pos) env (.ref t)) Q E s := by
  obtain ⟨hh, o1, vs1, e1, d1, c1⟩ := hot
  have nt : t ≠ s.heap.objs.size := by obtain ⟨o, ho, _⟩ := id ht; exact Nat.ne_of_lt (Heap.lt_size ho)
  have nx : x1 ≠ s.heap.objs.size := Nat.ne_of_lt (Heap.lt_size e1)
  rw [arm_assign_Tuple]; refine wpAny_bind (wpAny_standAt ?_)
  unfold unpack; rw [hn, hst]; refine wpAny_bind (wpAny_holding ?_)
  unfold unpackItems; refine wpAny_bind ?_; unfold notIterableAtAll; refine wpAny_bind (wpAny_specialOf ht.typeIs PySem.F.slot_tuple_iter.lookup (wpAny_pure ?_))
  simp only [Bool.false_eq_true, if_false]; refine wpAny_bind (wpAny_holding (wpAny_pyIter_tuple ht ?_))
  refine wpAny_bind (wpAny_holding (wpAny_draw_tuple nt items.size 0 _ _ ⟨_, Heap.get?_push_size _ rfl, rfl, rfl⟩ (ht.push _) (by omega) fun g1 it1 q1 => ?_))
  rw [show List.take items.size (List.drop 0 items.toList) = items.toList by rw [List.drop_zero]; exact List.take_of_length_le (by simp), if_neg (by simp)]
  refine wpAny_bind (wpAny_holding (th_end (x1 := x1) ⟨hh, o1, vs1, q1.extBut _ _ nx (Heap.get?_push_of_some _ e1), d1, c1⟩ nx it1 ((ht.push _).extBut q1.extBut nt) (by simp) fun g2 q2 => ?_))
  simp only [Option.isSome_none, Bool.false_eq_true, if_false]; exact wpAny_pure (fin g2 fun b o hb e => q2 b o hb (q1.extBut b o hb (Heap.get?_push_of_some _ e)))
/-- zip of two lists at the first one's end -/
theorem zq_end {z TI TO i1 i2 l1 l2 x1 : Addr} {k1 : Nat} {xs : Array Value} {a b : Value} {Q : Option Value → Shared → Prop} (hot : HotAt A x1 s.heap) (D : ZipApart z TI TO i1 i2 l1 l2) (nz : x1 ≠ z) (n1 : x1 ≠ i1) (hz : IsZip s.heap z TI TO .none) (hTI : IsPair s.heap TI (.ref i1) (.ref i2))
    (h1 : s.heap.IsListIter i1 l1 k1) (hl1 : s.heap.IsList l1 xs) (hx : xs[k1]? = none)
    (fin : ∀ h', (∀ c o, c ≠ z → c ≠ i1 → s.heap.get? c = some o → h'.get? c = some o) → Q none { s with heap := h' }) : wpAny (model prog w) A (pyNext (.ref z)) Q E s := by
  have ty : s.TypeIs (.ref z) "zip" := ⟨_, hz, rfl⟩
  obtain ⟨hh, o1, vs1, e1, d1, c1⟩ := hot
  unfold pyNext
  refine wpAny_bind (wpAny_attempt (wpAny_callSpecial?_slot (name := Str.ofString "__next__") ty PySem.F.slot_zip_next (wpAny_call_entry PySem.F.slot_zip_next ty PySem.F.entry_zip_next ?_ (PySem.F.args_zip_next_1 _))))
  refine wpAny_bind (m := field (.ref z) 2) (wpAny_field hz rfl (x := .bool false) rfl (wpAny_bind (m := field (.ref z) 3) (wpAny_field hz rfl (x := .ref TI) rfl (wpAny_bind (wpAny_seqItems hTI rfl ?_)))))
  refine wpAny_bind (m := Builtin.SmallTypes.ownedTupleIsFree (.ref z)) ?_
  unfold Builtin.SmallTypes.ownedTupleIsFree; refine wpAny_bind (wpAny_field hz rfl (x := .none) rfl (wpAny_pure ?_))
  simp only [if_true]; refine wpAny_bind (wpAny_rule (wpAny_bind (wpAny_field hz rfl (x := .ref TO) rfl (wpAny_bind (wpAny_setField_rec hz (by simp) fun g1 z1 q1 => ?_)))))
  replace z1 : IsZip g1 z TI TO .ellipsis := z1
  refine wpAny_bind ?_
  simp only [List.zipIdx_cons, List.zipIdx_nil, List.forIn_cons, List.forIn_nil]; refine wpAny_bind (wpAny_bind (wpAny_onRaise ?_))
  refine wpAny_bind (m := Builtin.SmallTypes.nextOf (.ref i1)) (lh_end (x1 := x1) ⟨hh, o1, vs1, q1.extBut _ _ nz e1, d1, c1⟩ n1 (h1.extBut q1.extBut D.i1z) (hl1.extBut q1.extBut D.l1z) hx fun g2 e q2 he => ?_)
  obtain ⟨oe, hoe, hce⟩ := he
  have z2 : IsZip g2 z TI TO .ellipsis := q2 _ _ D.i1z.symm z1
  have nez : e ≠ z := fun q => by subst q; rw [z2] at hoe; cases hoe; simp at hce
  refine wpAny_setField_rec z2 (by simp) fun g3 _ q3 => ?_
  exact wpAny_bind (wpAny_isInstance (T := "StopIteration") (b := true) ⟨oe, q3.extBut _ _ nez hoe, hce⟩ isSubtype_stop (wpAny_pure (fin _ fun c o n1 n2 q => q3.extBut _ _ n1 (q2 _ _ n2 (q1.extBut _ _ n1 q)))))
end
section
open L2
/-- an iterator that is drawn while the exception o1 at x1 is handled -/
structure HTurn (P : Program) (w : World) (K : PySem.W.Frag) (A : Around) (x1 : Addr) (o1 : Obj) (tg : Expr) (J : It) (fp : List Addr) (it : Addr) (tn : Nat → Heap → Prop) : Prop where
  obj : ∀ i h, tn i h → ∀ b ∈ fp, ∃ o, h.get? b = some o ∧ ∀ v, o.data ≠ .cell v
  keep : ∀ i h h', tn i h → (∀ b ∈ fp, ∀ o, h.get? b = some o → h'.get? b = some o) → tn i h'
  item : ∀ (X : Cx), X.prog = P → X.w = w → X.K = K → X.A = A → ∀ (i : Nat) (pins : List (Addr × Obj)) (s : Shared) (σ : L2.St) (H : Hp) (E : Value → Shared → Prop), s.heap.get? x1 = some o1 → Inv X pins σ H s → (∀ b ∈ fp, FpOk X pins H b) → tn i s.heap → J.go i H →
    wpAny (model P w) X.A (pyNext (.ref it)) (fun r s1 => ∃ u, r = some u ∧
      wpAny (model P w) X.A (letOwnedTupleGo tg (.ref it) u) (fun _ s2 => ∃ x H', Inv X pins σ H' s2 ∧ RelV x u ∧ J.yld i H x H' ∧ tn (i + 1) s2.heap ∧ ∀ b ∈ fp, H' b = none) E s1) E s
  done : ∀ (X : Cx), X.prog = P → X.w = w → X.K = K → X.A = A → ∀ (i : Nat) (pins : List (Addr × Obj)) (s : Shared) (σ : L2.St) (H : Hp) (E : Value → Shared → Prop), s.heap.get? x1 = some o1 → Inv X pins σ H s → (∀ b ∈ fp, FpOk X pins H b) → tn i s.heap → J.stop i H →
    wpAny (model P w) X.A (pyNext (.ref it)) (fun r s1 => r = none ∧ Inv X pins σ H s1) E s
  self : ∀ (A : Around) (i : Nat) (s : Shared) (Q : Value → Shared → Prop) (E : Value → Shared → Prop), tn i s.heap → Q (.ref it) s → wpAny (model P w) A (pyIter (.ref it)) Q E s
structure HPG (X : Cx) (x1 : Addr) (o1 : Obj) (target : Expr) (t : TG) : Prop where
  run : ∀ (pins : List (Addr × Obj)) (s : Shared) (σ : L2.St) (H : Hp) (v : V) (u : Value) (Q : L2.St → Hp → Prop), s.heap.get? x1 = some o1 → Inv X pins σ H s → RelV v u → t v σ H Q → wpAny (model X.prog X.w) X.A (assign target X.env u) (fun _ s' => ∃ σ' H', Inv X pins σ' H' s' ∧ Q σ' H') X.xe s
structure HPI (X : Cx) (x1 : Addr) (o1 : Obj) (tg iter : Expr) (wi : TI) : Prop where
  run : ∀ (pins : List (Addr × Obj)) (s : Shared) (σ : L2.St) (H : Hp) (R : It → Hp → Prop), Inv X pins σ H s → wi σ H R →
    wpAny (model X.prog X.w) X.A (eval iter X.env) (fun v s1 => wpAny (model X.prog X.w) X.A (pyIter v) (fun itv s2 => ∃ (it : Addr) (fp : List Addr) (tn : Nat → Heap → Prop) (J : It) (H' : Hp), itv = .ref it ∧ Inv X pins σ H' s2 ∧ HTurn X.prog X.w X.K X.A x1 o1 tg J fp it tn ∧ tn 0 s2.heap ∧ (∀ b ∈ fp, FpOk X pins H' b) ∧ R J H') X.xe s1) X.xe s
variable {X : Cx}
theorem lc_hot {pins : List (Addr × Obj)} {s : Shared} {σ : L2.St} {H : Hp} {Q : VK} {x1 : Addr} {o1 : Obj} {elt tg iter : Expr} {ifs : List Expr} {scope : Scope} {own : List (Str × Nat)} {pos pos' : PySem.Pos} {wi : TI} {g : TG} {tt : TT} {te : TE} {use : Option (Value → Sem Unit)} {Qf : Value → Shared → Prop}
    (hx : (x1, o1) ∈ X.pn) (hN : X.N.Nodup) (I : Inv X pins σ H s) (hi : HPI X x1 o1 tg iter wi) (ok : BlkOk X.N X.env.scope scope own)
    (hg : ∀ s H C cl fp, HPG (X.blk s H scope (compEnvC scope cl C X.env) fp) x1 o1 tg g) (ht : ∀ s H C cl fp, PTs (X.blk s H scope (compEnvC scope cl C X.env) fp) ifs tt) (he : ∀ s H C cl fp, PE (X.blk s H scope (compEnvC scope cl C X.env) fp) elt te)
    (hs : ∀ x, foldedSetIterable iter X.env x = pure x) (h : tLc wi g tt te (own.map (·.2)) σ H Q)
    (fin : ∀ D C s' m H', Inv X pins σ H' s' → Q (.ref D) H' → s'.heap.Ns C m → FpOk X pins H' C → compPost (model X.prog X.w) X.A X.xe use Qf (.ref D) C (.ok .next) s') :
    wpAny (model X.prog X.w) X.A (comprehension (.ListComp elt [⟨tg, iter, ifs, 0⟩] scope pos) scope X.env pos' (newList []) false (eval iter X.env) use) Qf X.xe s := by
  have has : ∀ y ∈ scope.names, y.2 = .free → ∃ c, X.env.cells.lookup y.1 = some c := fun y hy e => (ok.free y hy e).elim (fun k => I.ok.has _ (.inl k)) fun k => I.ok.has _ (.inr k)
  refine wpAny_comprehension_free (use := use) rfl hs (closure_ok has) ok.kind (fun y hy e => by rw [ok.uniq y hy, e]) (thn (hi.run pins s σ H _ I h) fun xv s1 hq => thn hq fun itv s2 h2 => ?_)
  obtain ⟨it, fp, tn, J, H2, rfl, I2, T, st2, f2, q⟩ := h2
  refine wpAny_newObj_type (newEnv_comp ?_) (by show 0 ≤ sizeLine; decide)
  obtain ⟨D, hD⟩ : ∃ D, D = s2.heap.objs.size := ⟨_, rfl⟩
  have dn : H2 D = none := I2.hok.fresh (Nat.le_of_eq hD.symm)
  obtain ⟨W, ⟨m0, w0⟩, turn⟩ := q D dn
  obtain ⟨s3, e3⟩ : ∃ s3 : Shared, s3 = { s2 with heap := s2.heap.push { cls := .type "list", data := .seq ([] : List Value).toArray } } := ⟨_, rfl⟩
  have hp3 : s3.heap = s2.heap.push { cls := .type "list", data := .seq ([] : List Value).toArray } := by rw [e3]
  have I3 : Inv X pins σ (L2.upd H2 D (.lst [])) s3 := by
    rw [e3]
    exact I2.laid (t' := s2.toks) (fun b o e => Heap.get?_push_of_some _ e) (Nat.le_of_eq hD.symm) ⟨Nat.zero_le _, [], 0, .nil, by rw [hD]; exact Heap.get?_push_size _ rfl⟩
  have lt2 : ∀ b ∈ fp, b < s2.heap.objs.size := fun b hb => let ⟨_, e, _⟩ := T.obj _ _ st2 b hb; Heap.lt_size e
  have f3 : ∀ b ∈ fp, FpOk X pins (L2.upd H2 D (.lst [])) b ∧ b < s3.heap.objs.size := fun b hb =>
    ⟨⟨(upd_ne (by rw [hD]; exact Nat.ne_of_lt (lt2 b hb))).trans (f2 b hb).1, (f2 b hb).2⟩, by rw [hp3, Heap.size_push]; exact Nat.lt_succ_of_lt (lt2 b hb)⟩
  have I4 := block_start I3 ok hN f3
  obtain ⟨cl, hcl⟩ : ∃ cl, cl = cellsFrom (s3.heap.objs.size + 1) scope.names (cloFrom X.env.cells scope.names []) := ⟨_, rfl⟩
  obtain ⟨ce, hce⟩ : ∃ ce, ce = compEnvC scope cl s3.heap.objs.size X.env := ⟨_, rfl⟩
  obtain ⟨H3, eH3⟩ : ∃ H3, H3 = L2.upd H2 D (.lst []) := ⟨_, rfl⟩
  obtain ⟨s4, e4⟩ : ∃ s4 : Shared, s4 = { s3 with heap := pushCells (s3.heap.push { cls := .type "dict", data := .dict #[] }) scope.names } := ⟨_, rfl⟩
  have pg := hg s3 H3 s3.heap.objs.size cl fp
  have pt := ht s3 H3 s3.heap.objs.size cl fp
  have pe := he s3 H3 s3.heap.objs.size cl fp
  rw [← hcl, ← hce, ← eH3, ← e4] at I4
  rw [← hce] at pg pt pe
  rw [← eH3] at I3 w0 f3
  have st3 : tn 0 s3.heap := T.keep _ _ _ st2 fun b _ o e => by rw [hp3]; exact Heap.get?_push_of_some _ e
  have st4 : tn 0 s4.heap := T.keep _ _ _ st3 fun b _ o e => by rw [e4]; exact pushCells_keeps _ _ _ _ (Heap.get?_push_of_some _ e)
  have cL : ce.locals = s3.heap.objs.size := by rw [hce]; rfl
  -- the handled exception stands in the block, too
  have P3 := I3.pin (x1, o1) (List.mem_append_left _ hx)
  have hotB : ∀ {σ' : L2.St} {H' : Hp} {s' : Shared} {ps : List (Addr × Obj)}, Inv (X.blk s3 H3 scope ce fp) ps σ' H' s' → s'.heap.get? x1 = some o1 := fun {σ' H' s' ps} I' =>
    I'.base.keep x1 o1 P3.1 P3.2.1 (fun z => (List.mem_cons.mp (I3.stkSub x1 z)).elim P3.2.2.1 P3.2.2.2.1) fun z => (f3 x1 z).1.2.2.2.2.2 (x1, o1) (List.mem_append_left _ hx) rfl
  have stat : ∀ {σ' : L2.St} {H' : Hp} {s' : Shared}, Inv (X.blk s3 H3 scope ce fp) [] σ' H' s' → (∀ b ∈ fp, H' b = none) → ∀ b ∈ fp, FpOk (X.blk s3 H3 scope ce fp) [] H' b := fun {σ' H' s'} I' hn b hb =>
    ⟨hn b hb, (I'.ok.exf b hb).1, I'.ok.exfs b hb, .inl hb, fun y c e => (I'.ok.exf b hb).2 y c e, fun p hp => by cases (show p ∈ ([] : List (Addr × Obj)) from hp)⟩
  have loop : codeAny (model X.prog X.w) X.A (.compLoop (.ListComp elt [⟨tg, iter, ifs, 0⟩] scope pos) 0 (.ref it) (.ref D) ce) (compPost (model X.prog X.w) X.A X.xe use Qf (.ref D) s3.heap.objs.size) s4 := by
    refine compLoop_any (fun n s' => ∃ i H', Inv (X.blk s3 H3 scope ce fp) [] (wipe σ (own.map (·.2))) H' s' ∧ tn i s'.heap ∧ (∀ b ∈ fp, H' b = none) ∧ W i n H') (fun n s5 inv => ?_) m0 ⟨0, H3, I4, st4, fun b hb => (f3 b hb).1.1, w0⟩
    obtain ⟨i, H5, I5, st5, n5, w5⟩ := inv
    rcases turn i n H5 w5 with ⟨stop, qq⟩ | ⟨go, Nx, hNx, step⟩
    · refine thnF (T.done (X.blk s3 H3 scope ce fp) rfl rfl rfl rfl i [] s5 _ H5 (fun _ _ => False) (hotB I5) I5 (stat I5 n5) st5 stop) fun r s6 hr => ?_
      obtain ⟨rfl, I6⟩ := hr
      have I7 : Inv X pins σ H5 s6 := I3.call' (ch := fp) I6.os I6.base I6.hok I6.bare fun b hb => let z := (f3 b hb).1.2; ⟨z.2.2.1, z.1, z.2.2.2.1, z.2.2.2.2⟩
      have nC : H5 s3.heap.objs.size = none := cL ▸ (show H5 ce.locals = none from I6.free)
      obtain ⟨m, hn, _⟩ := I6.loc
      exact fin D s3.heap.objs.size s6 m H5 I7 qq (cL ▸ (show s6.heap.Ns ce.locals m from hn)) (I3.fpOk (Nat.le_refl _) nC)
    · refine thnF (T.item (X.blk s3 H3 scope ce fp) rfl rfl rfl rfl i [] s5 _ H5 (fun _ _ => False) (hotB I5) I5 (stat I5 n5) st5 go) fun r s6 hr => ?_
      obtain ⟨u, rfl, h6⟩ := hr
      refine thnF h6 fun _ s7 h7 => ?_
      obtain ⟨xv7, H7, I7, r7, y7, st7, n7⟩ := h7
      refine thnF (pg.run _ s7 _ H7 xv7 u _ (hotB I7) (I7.pinned (stat I7 n7) (T.obj _ _ st7)) r7 (step xv7 H7 y7)) fun _ s8 h8 => ?_
      obtain ⟨σ8, H8, I8, hw8, q8⟩ := h8
      refine thnF (pt.run _ s8 σ8 H8 _ I8 q8) fun b s9 h9 => ?_
      obtain ⟨H9, I9, q9⟩ := h9
      have back : ∀ {s' : Shared} {H' : Hp}, Inv (X.blk s3 H3 scope ce fp) ([] ++ pinsAt fp s7.heap) σ8 H' s' → Nx H' → ∃ m, m < n ∧ ∃ i H', Inv (X.blk s3 H3 scope ce fp) [] (wipe σ (own.map (·.2))) H' s' ∧ tn i s'.heap ∧ (∀ b ∈ fp, H' b = none) ∧ W i m H' := fun {s' H'} I' nx => by
        obtain ⟨m', hm, w'⟩ := hNx H' nx
        have pn7 : ∀ b ∈ fp, ∀ o, s7.heap.get? b = some o → s'.heap.get? b = some o ∧ H' b = none := fun b hb o e => let z := I'.pin (b, o) (List.mem_append_right _ (List.mem_append_right _ (mem_pinsAt hb e))); ⟨z.1, z.2.1⟩
        refine ⟨m', hm, i + 1, H', (I'.unpinned (pins := [])).weak (by rw [← hw8, wipe_length]) (fun j v e => (wipe_some (hw8 ▸ e)).1), T.keep _ _ _ st7 fun b hb o e => (pn7 b hb o e).1, fun b hb => ?_, w'⟩
        obtain ⟨o, e, _⟩ := T.obj _ _ st7 b hb
        exact (pn7 b hb o e).2
      cases b with
      | false => simp only [Bool.false_eq_true, if_false] at q9 ⊢; exact back I9 q9
      | true =>
        simp only [if_true] at q9 ⊢
        refine thnF (pe.run _ s9 σ8 H9 _ I9 q9) fun z s10 h10 => ?_
        obtain ⟨yv, H10, I10, r10, acc, hD10, hz10, nx⟩ := h10
        exact app_ok (X := X.blk s3 H3 scope ce fp) I10 hD10 hz10 r10 fun s11 I11 => back I11 nx
  have gl := codeAny_compStart_list loop (T.self X.A 0 _ _ _ st4 loop)
  rw [hce, hcl, hD, e4] at gl
  rw [e3] at gl
  exact gl
/-- the handled exception's object -/
def HotO (o1 : Obj) : Prop := ∃ vs : Array Value, o1.data = .fields vs ∧ vs[2]? = some .none
theorem hpg_tup {x1 : Addr} {o1 : Obj} {es : List Expr} {k : Nat} {t : TGs} {n : Nat} {pos : PySem.Pos} (hh : X.A.handled = some (.ref x1)) (ho : HotO o1) (h : PGs X es t) (hn : (assignEach es X.env).length = n := by rfl) (hst : (assignEach es X.env).findIdx? (·.1) = none := by rfl) :
    HPG X x1 o1 (.Tuple es k pos) (gTup X.K n t) := by
  refine ⟨fun pins s σ H v u Q hx I r hw => ?_⟩
  obtain ⟨a, xs, rfl, hq, hl, hw⟩ := hw
  cases r
  obtain ⟨its, rv, ht, _⟩ := I.tuple hq
  obtain ⟨vs, d1, c1⟩ := ho
  refine th_assign ⟨hh, o1, vs, hx, d1, c1⟩ (show s.heap.IsTuple a its.toArray from ht) (by simp [hn, ← hl, rv.length]) hst fun h' k => ?_
  exact h.run pins _ σ H xs _ Q (I.kept (t' := s.toks) fun b o e => k b o (Nat.ne_of_lt (Heap.lt_size e)) e) (by simpa using rv) hw
/-- two lists of one length, side by side -/
def Jz (K : PySem.W.Frag) (a b : Addr) (xs ys : List V) : It := ⟨fun i H => i < xs.length ∧ SqL K H a xs ∧ SqL K H b ys, fun i H v H' => ∃ T x y, v = .ref T ∧ H T = none ∧ H' = L2.upd H T (.tup [x, y]) ∧ xs[i]? = some x ∧ ys[i]? = some y, fun i H => xs.length ≤ i ∧ SqL K H a xs⟩
theorem walk_jz {K : PySem.W.Frag} {a b : Addr} {xs ys : List V} : Walk (Jz K a b xs ys) xs.length (fun H => SqL K H a xs ∧ SqL K H b ys) (fun i H v H' => ∃ T x y, v = .ref T ∧ H T = none ∧ H' = L2.upd H T (.tup [x, y]) ∧ xs[i]? = some x ∧ ys[i]? = some y) :=
  ⟨fun i H lt g => ⟨lt, g.1, g.2⟩, fun H g => ⟨Nat.le_refl _, g.1⟩, fun i H x H' _ _ y => y⟩
theorem zip_hturn {A : Around} {x1 : Addr} {o1 : Obj} {elts : List Expr} {kk : Nat} {tpos : PySem.Pos} {K : PySem.W.Frag} {P : Program} {w : World} {a b z TI TO i1 i2 : Addr} (hh : A.handled = some (.ref x1)) (ho : HotO o1) (D : ZipApart z TI TO i1 i2 a b) (nz : x1 ≠ z) (n1 : x1 ≠ i1) {xs ys : List V} (hlen : xs.length = ys.length) :
    HTurn P w K A x1 o1 (.Tuple elts kk tpos) (Jz K a b xs ys)
      [z, TI, TO, i1, i2] z (fun i h => IsZip h z TI TO .none ∧ IsPair h TI (.ref i1) (.ref i2) ∧ (∃ x y, IsPair h TO x y) ∧ h.IsListIter i1 a i ∧ h.IsListIter i2 b i) where
  obj := (turn_zip (P := P) (w := w) (K := K) (elts := elts) (kk := kk) (tpos := tpos) D).obj
  keep := (turn_zip (P := P) (w := w) (K := K) (elts := elts) (kk := kk) (tpos := tpos) D).keep
  self := (turn_zip (P := P) (w := w) (K := K) (elts := elts) (kk := kk) (tpos := tpos) D).self
  item := by
    intro X hP hw hK hA i pins s σ H E hx I hf st go
    subst hP hw hK
    obtain ⟨t1, t2, ⟨x0, y0, t3⟩, t4, t5⟩ := st
    obtain ⟨lt, q1, q2⟩ := go
    obtain ⟨its, rv, p, _⟩ := I.list q1
    obtain ⟨its2, rv2, p2, _⟩ := I.list q2
    have ex : xs[i]? = some xs[i] := List.getElem?_eq_getElem lt
    have ey : ys[i]? = some (ys[i]'(hlen ▸ lt)) := List.getElem?_eq_getElem (hlen ▸ lt)
    obtain ⟨u, hu, ru⟩ := rv.get ex
    obtain ⟨u2, hu2, ru2⟩ := rv2.get ey
    have zl : z < s.heap.objs.size := Heap.lt_size t1
    refine wpAny_pyNext_zip_item D t1 t2 t3 t4 t5 p.isList p2.isList (x := u) (y := u2) (by simpa using hu) (by simpa using hu2) fun g1 z1 TO1 j1 j2 pT _ kp => ⟨_, rfl, wpAny_letOwnedTupleGo_zip (s := { s with heap := g1 }) z1 fun g2 z2 sb => ?_⟩
    have out : ∀ c o, c ∉ [z, TI, TO, i1, i2] → s.heap.get? c = some o → g2.get? c = some o := fun c o hb q => (sb.2 c fun e => hb (by simp [e])).trans (kp c o (fun e => hb (by simp [e])) (fun e => hb (by simp [e])) (fun e => hb (by simp [e])) (fun e => hb (by simp [e])) q)
    have nT : s.heap.objs.size ≠ z := Nat.ne_of_gt zl
    have new : ObjOk X.prog X.w (L2.upd H s.heap.objs.size (.tup [xs[i], ys[i]'(hlen ▸ lt)])) g2 s.heap.objs.size (.tup [xs[i], ys[i]'(hlen ▸ lt)]) := ⟨by show 2 ≤ sizeLine; decide, [u, u2], .cons ru (.cons ru2 .nil), ⟨_, (sb.2 _ nT).trans pT, rfl, _, rfl⟩⟩
    refine ⟨.ref s.heap.objs.size, _, I.turnedNew (t' := s.toks) (ch := [z, TI, TO, i1, i2]) out hf (Nat.le_refl _) new, rfl, ⟨_, _, _, rfl, I.hok.fresh (Nat.le_refl _), rfl, ex, ey⟩, ⟨z2, (sb.2 _ D.TIz).trans (kp _ _ D.TIz D.TITO D.TIi1 D.TIi2 t2), ⟨u, u2, (sb.2 _ D.TOz).trans TO1⟩, j1.at fun o q => (sb.2 _ D.i1z).trans q, j2.at fun o q => (sb.2 _ D.i2z).trans q⟩, fun c hc => ?_⟩
    have hlt : c < s.heap.objs.size := let ⟨_, e, _⟩ := (turn_zip (P := X.prog) (w := X.w) (K := X.K) (elts := elts) (kk := kk) (tpos := tpos) D).obj i s.heap ⟨t1, t2, ⟨x0, y0, t3⟩, t4, t5⟩ c hc; Heap.lt_size e
    rw [upd_ne (Nat.ne_of_lt hlt)]
    exact (hf c hc).1
  done := by
    intro X hP hw hK hA i pins s σ H E hx I hf st stop
    subst hP hw hK
    obtain ⟨t1, t2, ⟨x0, y0, t3⟩, t4, t5⟩ := st
    obtain ⟨ge, q1⟩ := stop
    obtain ⟨its, rv, p, _⟩ := I.list q1
    obtain ⟨vs, d1, c1⟩ := ho
    have l1 := rv.length
    exact zq_end (a := x0) (b := y0) (x1 := x1) ⟨hA ▸ hh, o1, vs, hx, d1, c1⟩ D nz n1 t1 t2 t4 p.isList (by simp; omega) fun h' k => ⟨rfl, I.turnedL (t' := s.toks) (ch := [z, TI, TO, i1, i2]) (fun c o hb q => k c o (fun e => hb (by simp [e])) (fun e => hb (by simp [e])) q) hf⟩
def iZipH (K : PySem.W.Frag) (ta : TA) : TI := fun σ H R => ta σ H fun vs H1 => ∃ a b xs ys, vs = [.ref a, .ref b] ∧ SqL K H1 a xs ∧ SqL K H1 b ys ∧ xs.length = ys.length ∧ R (Jz K a b xs ys) H1
theorem hpi_zip {x1 : Addr} {o1 : Obj} {e e2 : Expr} {ta : TA} {p pos tpos : PySem.Pos} {elts : List Expr} {kk : Nat} (hx : (x1, o1) ∈ X.pn) (hh : X.A.handled = some (.ref x1)) (ho : HotO o1) (hg : Gl X "zip") (hm : X.mg "zip" = none) (ha : PA X [e, e2] ta)
    (hs : starEach [e, e2] X.env = (false, eval e X.env) :: starEach [e2] X.env := by rfl) (hpl : (backTo pos (starEach [e2] X.env)).any (·.1) = false := by rfl) :
    HPI X x1 o1 (.Tuple elts kk tpos) (.Call (.Name "zip" p) [e, e2] [] pos) (iZipH X.K ta) := by
  refine ⟨fun pins s σ H R I h => Call_ (ld_blt I hg hm PyProof.Rows.boot_zip (PyProof.Rows.callWith_type1 (thn (ha.run pos pins s σ H _ I h) fun us s1 hq => ?_) hs hpl))⟩
  obtain ⟨vs, H1, I1, r1, a, b, xs, ys, rfl, qx, qy, hlen, q⟩ := hq
  obtain ⟨u1, u2, rfl, r2, r3⟩ := vals2 r1
  cases r2
  cases r3
  obtain ⟨its, rv, p1, _⟩ := I1.list qx
  obtain ⟨its2, rv2, p2, _⟩ := I1.list qy
  have lx : x1 < s1.heap.objs.size := Heap.lt_size (I1.pin (x1, o1) (List.mem_append_left _ hx)).1
  refine call_zip_2 p1.isList p2.isList fun h' t1 t2 t3 t4 t5 _ kp => wpAny_pyIter_zip t1 ⟨s1.heap.objs.size + 4, [s1.heap.objs.size + 4, s1.heap.objs.size + 2, s1.heap.objs.size + 3, s1.heap.objs.size, s1.heap.objs.size + 1], _, _, H1, rfl, I1.kept (t' := s1.toks) kp,
    zip_hturn hh ho (PySem.W.ktu_apart s1.heap.objs.size a b p1.lt p2.lt) (Nat.ne_of_lt (Nat.lt_of_lt_of_le lx (Nat.le_add_right _ _))) (Nat.ne_of_lt lx) hlen, ⟨t1, t2, ⟨_, _, t3⟩, t4, t5⟩, fun c hc => ?_, q⟩
  have le : s1.heap.objs.size ≤ c := by
    simp only [List.mem_cons, List.not_mem_nil, or_false] at hc
    rcases hc with z | z | z | z | z <;> (rw [z]; first | exact Nat.le_refl _ | exact Nat.le_add_right _ _)
  exact I1.fpOk le (I1.hok.fresh le)
theorem ps_setLcH {i : Nat} {y : Str} {x1 : Addr} {o1 : Obj} {py : PySem.Pos} {elt tg iter : Expr} {ifs : List Expr} {scope : Scope} {own : List (Str × Nat)} {pos spos : PySem.Pos} {wi : TI} {g : TG} {tt : TT} {te : TE} (hx : (x1, o1) ∈ X.pn) (hN : X.N.Nodup) (hy : X.N[i]? = some y) (hyl : X.env.scope.names.lookup y = some .local)
    (hsw : swapsWith (.ListComp elt [⟨tg, iter, ifs, 0⟩] scope pos) (some (.Name y py)) spos.line X.env = pure true) (hi : HPI X x1 o1 tg iter wi) (ok : BlkOk X.N X.env.scope scope own)
    (hg : ∀ s H C cl fp, HPG (X.blk s H scope (compEnvC scope cl C X.env) fp) x1 o1 tg g) (ht : ∀ s H C cl fp, PTs (X.blk s H scope (compEnvC scope cl C X.env) fp) ifs tt) (he : ∀ s H C cl fp, PE (X.blk s H scope (compEnvC scope cl C X.env) fp) elt te)
    (hs : ∀ x, foldedSetIterable iter X.env x = pure x := by intro _; rfl) : PS X (.Assign [.Name y py] (.ListComp elt [⟨tg, iter, ifs, 0⟩] scope pos) spos) (tAsg (tLc wi g tt te (own.map (·.2))) (gName i)) := by
  refine ⟨fun pins s σ H D I h => ?_⟩
  rw [exec_Assign_Name_used _ _ _ _ hsw]; refine wpAny_bind (wpAny_standAt (wpAny_bind ?_))
  have h' : tLc wi g tt te (own.map (·.2)) σ H (fun x H1 => gName i x σ H1 D.nx) := h
  refine wpAny_bind (m := comprehension (.ListComp elt [⟨tg, iter, ifs, 0⟩] scope pos) scope X.env (firstIterPos [⟨tg, iter, ifs, 0⟩] pos) (newList []) false (eval iter X.env) (some (assign (.Name y py) X.env))) (thn (lc_hot (Qf := fun _ s' => SP X pins D .next s') hx hN I hi ok hg ht he hs h' fun L C s' m H' I' q hn f => ?_) fun _ s' hq => wpAny_pure (wpAny_pure hq))
  show wpAny _ _ (assign (.Name y py) X.env (.ref L)) _ _ _
  refine wpAny_assign_Name (store_ok2 (v := V.ref L) I' hN hy (.inl hyl) rfl (fun s2 I2 hz => ?_) (.inr hyl))
  obtain ⟨a, sb, ha⟩ := hz
  obtain ⟨f0, f1, f2, f3, f4, f5⟩ := f
  have na : C ≠ a := ha.elim (fun z => z ▸ f1) fun z e => f4 y a z e.symm
  exact ⟨m, hn.sameBut sb na, fun h3 sb3 => ⟨_, H', I2.turned (t' := s2.toks) (fun b o hb e => (sb3.2 b hb).trans e) f0 f1 f3 f4 f5, q⟩⟩
end
end Mx

set_option Elab.async false
set_option maxRecDepth 100000
set_option linter.all false
/-! a def that is called in an except suite and knows which exception is handled; isinstance of that one -/
namespace Mx
open PySem PySem.Spec PyProof.Rows HotX L2 L2H
/-- as FnH, the promise speaks of the handled exception -/
structure FnE (P : Program) (w : World) (K : PySem.W.Frag) (mg : Str → Option Value) (base : Heap) (k : Nat) (f : Addr) (fd : FuncData) (ps : List Str) (sp : Addr × Obj → Sp) : Prop where
  len : ∀ p vs H Q E, sp p vs H Q E → vs.length = ps.length
  run : ∀ (p : Addr × Obj) (A : Around) (outer : List Env) (s : Shared) (H : Hp) (args : Args) (us : List Value) (vs : List V) (Q : VK) (E : XK), RoomH k A → Hot1 A p → PinOk outer H s p → Env0 P w K mg base A outer s H → BindsTo s fd args (ps.zip us) → Vals vs us → sp p vs H Q E →
    codeAny (model P w) A (.call (.ref f) args) (CR CX0 outer P w H s Q E) s
theorem fnE_of {P : Program} {w : World} {K : PySem.W.Frag} {mg : Str → Option Value} {base : Heap} {k : Nat} {x qual : Str} {st : Stmt} {f : Addr} {fd : FuncData} {N ps : List Str} {sp : Addr × Obj → Sp} (F : Fun K x qual st f fd) (S : FnScope N ps (defScope st)) (len : ∀ p vs H Q E, sp p vs H Q E → vs.length = ps.length)
    (hb : ∀ (cdv : Value) (A : Around) (outer : List Env) (s : Shared) (H : Hp) (vs : List V) (Q : VK) (E : XK) (p : Addr × Obj), Hot1 A p → RoomH k (A.deeper (envOfC qual (defScope st) s.heap.objs.size f cdv)) → sp p vs H Q E →
      ∃ t, PSs (cxH CX0 P w K mg base N qual (defScope st) f cdv A outer s H E p) (defBody st) t ∧ t { nx := fun _ H' => Q .non H', rt := Q } (L2.start N vs) H) : FnE P w K mg base (k + 1) f fd ps sp := by
  obtain ⟨oc, od, kV, doc, pm, an, cdv, ct, osl, rfl, lk, hcd⟩ := F.ex
  refine ⟨len, fun p A outer s H args us vs Q E room hot pin e0 bnd rel h => ?_⟩
  have stay : ∀ b o, base.get? b = some o → s.heap.get? b = some o := fun b o e => (e0.bs b o e).1
  have kin : K.In s.heap := e0.mod.kin.keeps stay
  refine codeAny_call_function room.depth (kin _ _ lk) rfl S.co S.gen rfl (PySem.W.codeRec_of kin hcd) (bnd _ _ _ _ (wpAny_newFunctionEnv_cells S.kind (fun y hy => ?_) fun env he s1 x => ?_))
  · rcases S.par y.1 (List.of_mem_zip (show (y.1, y.2) ∈ ps.zip us from hy)).1 with q | q
    · exact .inl q
    · exact .inr ⟨q, PySem.W.cellsFrom_some _ _ _ (.inl q)⟩
  · subst he; obtain ⟨t, ht, hq⟩ := hb cdv A outer s H vs Q E p hot (room.deeper _) h
    refine ⟨(e0.mod.nolimit.keeps stay).keeps x.toInCall.keep, codeAny_func (wpAny_mono (ht.run [] s1 (L2.start N vs) H _ (inv_startH S pin e0 (len _ _ _ _ _ h) rel x) hq) (fun fl s' hs => ?_) fun e s' hs => hs)⟩
    cases fl with
    | ret u => obtain ⟨v, σ', H', J, rv, q⟩ := hs; exact ⟨v, H', J.os, J.bare, J.base, J.hok, rv, q⟩
    | next => obtain ⟨σ', H', J, q⟩ := hs; exact ⟨V.non, H', J.os, J.bare, J.base, J.hok, rfl, q⟩
    | brk => obtain ⟨_, _, _, q⟩ := hs; cases q
    | cont => obtain ⟨_, _, _, q⟩ := hs; cases q
section
variable {X : Cx}
theorem pe_callE {p : Addr × Obj} {k : Nat} {f : Addr} {fd : FuncData} {ps : List Str} {sp : Addr × Obj → Sp} {x : Str} {q pos : PySem.Pos} {e : Expr} {es : List Expr} {t : TA} (F : FnE X.prog X.w X.K X.mg X.base k f fd ps sp) (room : RoomH k X.A) (hot : Hot1 X.A p) (hp : p ∈ X.pn) (hg : Gl X x) (hm : X.mg x = some (.ref f)) (hk : PySem.W.keepIn X.K (.ref f) = true) (hb : Binds X.K fd ps [])
    (ha : PA X (e :: es) t) (hdb : (x == ("__debug__" : Str)) = false := by decide) (he : starEach (e :: es) X.env = (false, eval e X.env) :: starEach es X.env := by rfl) (hpl : (backTo pos (starEach es X.env)).any (·.1) = false := by rfl) :
    PE X (.Call (.Name x q) (e :: es) [] pos) (tCallS (sp p) (fun _ => E0) t) := by
  refine ⟨fun pins s σ H Q I h => wpAny_Call_Name_kw (ld_glob I hg hm (PySem.W.callWith_K (h₀ := X.base) I.ok.mod.kin hk (thn (ha.run pos pins s σ H _ I h) fun us s1 hh => ?_) he hpl) hdb)⟩
  obtain ⟨vs, H1, I1, r, h1⟩ := hh
  refine ⟨I1.kIn, ?_⟩
  have b := hb s1 us I1.kIn (by rw [List.append_nil, ← r.length]; exact F.len _ _ _ _ _ h1)
  rw [List.append_nil] at b
  obtain ⟨g1, g2, g3, g4, g5⟩ := I1.pin p (List.mem_append_left _ hp)
  refine wpAny_call (codeAny_mono (F.run p X.A X.stack s1 H1 ⟨us, []⟩ us vs Q _ room hot ⟨g1, g2, fun hm => (List.mem_cons.mp (I1.stkSub p.1 hm)).elim g3 g4, g5⟩ I1.env0 b r h1) fun r s' hq => ?_)
  cases r with
  | error e => cases hq
  | ok fl =>
    cases fl with
    | ret u => exact I1.after hq
    | next => cases hq
    | brk => cases hq
    | cont => cases hq
/-- isinstance of the handled exception -/
theorem call_isP {a D : Addr} {oe : Obj} (hp : (a, oe) ∈ X.pn) (C : ExcC X.K D) (hz : Zc (.ref D) none oe) (hf : ∃ vs, oe.data = .fields vs) : CallR X (.builtin "isinstance") (rIsE X.K D a) := by
  intro pins s σ H xs us Q I r h
  obtain ⟨c, cv, b, rfl, hcv, e, q⟩ := h
  obtain ⟨u1, u2, rfl, rx, rt⟩ := vals2 r
  cases rx
  obtain rfl := hcv _ rt
  obtain ⟨hget, _⟩ := I.pin (a, oe) (List.mem_append.mpr (.inl hp))
  obtain ⟨vs, hv⟩ := hf
  have J : PySem.W.InstAt s.heap a oe D none := by
    obtain ⟨oc, od, oda, osl⟩ := oe
    obtain ⟨h1, h2⟩ := hz
    dsimp only at h1 h2 hv
    subst h1 h2 hv
    exact ⟨hget, rfl, rfl, trivial⟩
  exact PySem.W.kia_one (PySem.W.handS_kitx_exc C.hg C.hk C.hs C.hd C.ha C.hn C.ht C.hm) I.kIn J e (fun z => nomatch z) fun tk => ⟨.bl b, H, I.kept (t' := tk) fun _ _ z => z, rfl, q⟩
end
end Mx

set_option Elab.async false
set_option maxRecDepth 100000
set_option linter.all false
/-! _law_error_name -/
namespace Mx
open PySem PySem.Spec PyProof.Rows HotX L2 L2H
def spErr (K : PySem.W.Frag) (C : Nat → Addr) : Addr × Obj → Sp := fun p vs H Q _ => ∃ i, vs = [.ref p.1] ∧ ErrD K C i ∧ Zc (.ref (C i)) none p.2 ∧ ∀ H', Same H H' → Q (.str (errWord i)) H'
theorem split_words : Txt.split "tree name lengths item number seen others unknown many long undo base value" " " = errWords := by decide +kernel
def errKept (i j : Nat) : List Str := (((errWords.zip (errBits i)).take j).filter (·.2)).map (·.1)
theorem errKept_all : ∀ i, i < 11 → errKept i 13 = [errWord i, "base", "value"] := by decide +kernel
theorem errBits_len : ∀ i, (errBits i).length = 13 := fun i => by simp [errBits]
theorem errKept_succ {i j : Nat} {x : Str} {b : Bool} (hx : errWords[j]? = some x) (hb : (errBits i)[j]? = some b) : errKept i (j + 1) = if b = true then errKept i j ++ [x] else errKept i j := by
  have hz : (errWords.zip (errBits i))[j]? = some (x, b) := by
    rw [List.getElem?_zip_eq_some]
    exact ⟨hx, hb⟩
  unfold errKept
  rw [take_succ_of hz, List.filter_append, List.map_append]
  cases b <;> simp
section
variable {P : Program} {w : World} {K : PySem.W.Frag} {mg : Str → Option Value} {base : Heap}
abbrev nErr : List Str := ["e", "some", "words", "names", "word", "good"]
theorem scErr : FnScope nErr ["e"] (defScope sErrName) := ⟨rfl, rfl, rfl, by decide +kernel, rfl, by decide +kernel, by decide +kernel⟩
theorem ok_errName {f : Addr} {fd : FuncData} {C : Nat → Addr} (F : Fun K "_law_error_name" "_law_error_name" sErrName f fd) (B : Blt mg) (G : ErrCs mg C) : FnE P w K mg base 1 f fd ["e"] (spErr K C) := by
  refine fnE_of F scErr (fun p vs H Q E h => ?_) (fun cdv A outer s H vs Q E p hot hr h => ?_)
  · obtain ⟨i, rfl, _⟩ := h
    rfl
  · obtain ⟨i, rfl, D, hz, good⟩ := h
    obtain ⟨a, oe⟩ := p
    obtain ⟨hh, vs, hd, hc⟩ := hot
    have hf : ∃ vs, oe.data = .fields vs := ⟨vs, hd⟩
    have ho : HotO oe := ⟨vs, hd, hc⟩
    have hu : (A.deeper (envOfC "_law_error_name" (defScope sErrName) s.heap.objs.size f cdv)).units + 64 < cLine := by have := hr.un; omega
    have is : ∀ {x : Str} {te : TE} {p1 p2 p3 p4 : PySem.Pos}, PE (cxH CX0 P w K mg base nErr "_law_error_name" (defScope sErrName) f cdv A outer s H E (a, oe)) (.Name x p4) te → PE (cxH CX0 P w K mg base nErr "_law_error_name" (defScope sErrName) f cdv A outer s H E (a, oe)) (.Call (.Name "isinstance" p1) [.Name "e" p2, .Name x p4] [] p3) (tCB (rIsE K (C i) a) (tCons (tVar 0) (tCons te tNil))) := fun {x te p1 p2 p3 p4} he => pe_callB (call_isP (List.mem_singleton.mpr rfl) D.ec hz hf) (by rfl) B.isinstance (by decide +kernel) (pa_cons (pv 0) (pa_cons he pa_nil))
    refine ⟨_, pss_cons (ps_set (i := 1) scErr.nd rfl (Or.inl rfl) (pe_lst (pa_cons (is (pe_glob (v := .ref _) rfl G.g0 rfl)) (pa_cons (is (pe_glob (v := .ref _) rfl G.g1 rfl)) (pa_cons (is (pe_glob (v := .ref _) rfl G.g2 rfl)) pa_nil)))))
      (pss_cons (ps_set (i := 1) scErr.nd rfl (Or.inl rfl) (pe_op op_cat (pv 1) (pe_lst (pa_cons (is (pe_glob (v := .ref _) rfl G.g3 rfl)) (pa_cons (is (pe_glob (v := .ref _) rfl G.g4 rfl)) (pa_cons (is (pe_glob (v := .ref _) rfl G.g5 rfl)) pa_nil))))))
      (pss_cons (ps_set (i := 1) scErr.nd rfl (Or.inl rfl) (pe_op op_cat (pv 1) (pe_lst (pa_cons (is (pe_glob (v := .ref _) rfl G.g6 rfl)) (pa_cons (is (pe_glob (v := .ref _) rfl G.g7 rfl)) (pa_cons (is (pe_glob (v := .ref _) rfl G.g8 rfl)) pa_nil))))))
      (pss_cons (ps_set (i := 1) scErr.nd rfl (Or.inl rfl) (pe_op op_cat (pv 1) (pe_lst (pa_cons (is (pe_glob (v := .ref _) rfl G.g9 rfl)) (pa_cons (is (pe_glob (v := .ref _) rfl G.g10 rfl)) pa_nil)))))
      (pss_cons (ps_set (i := 1) scErr.nd rfl (Or.inl rfl) (pe_op op_cat (pv 1) (pe_lst (pa_cons (is (pe_glob (v := .ref _) rfl G.g11 rfl)) (pa_cons (is (pe_bltn (v := .ty "ValueError") (by rfl) B.valueError (by decide +kernel) rfl)) pa_nil)))))
      (pss_cons (ps_set (i := 2) scErr.nd rfl (Or.inl rfl) pe_str)
      (pss_cons (ps_setLcH (i := 3) (own := [("word", 4), ("good", 5)]) (g := gTup K 2 (gCons (gName 4) (gCons (gName 5) gNil))) (List.mem_singleton.mpr rfl) scErr.nd rfl rfl (sw_true rfl rfl rfl (by decide +kernel)) (hpi_zip (List.mem_singleton.mpr rfl) hh ho (by rfl) B.zip (pa_cons (pe_split (pv 2) pe_str) (pa_cons (pv 1) pa_nil)))
          (blkOk_by (own := [("word", 4), ("good", 5)]) (N := nErr) (sc := defScope sErrName) (by decide +kernel))
          (fun _ _ _ _ _ => hpg_tup (by exact hh) ho (pgs_cons (pg_name (i := 4) scErr.nd rfl (Or.inl rfl)) (pgs_cons (pg_name (i := 5) scErr.nd rfl (Or.inl rfl)) pgs_nil))) (fun _ _ _ _ _ => pts_one (pt_val (pv 5))) (fun _ _ _ _ _ => pv 4))
      (pss_one (ps_ret (pe_ifExp (pt_cmpR (op_eqD hu) (pe_slice sl_list (pv 3) (po_some pe_int) po_none) (pe_lst (pa_cons pe_str (pa_cons pe_str pa_nil))) (nomark _)) (pe_ix ix_list (pv 3) pe_int (fun _ _ => rfl)) pe_str))))))))), ?_⟩
    refine ⟨_, rfl, _, _, _, rfl, fun _ h => h, D.own 0 (by decide), _, rfl, _, _, _, rfl, fun _ h => h, D.own 1 (by decide), _, rfl, _, _, _, rfl, fun _ h => h, D.own 2 (by decide), by show 3 ≤ sizeLine; decide, fun l0 n0 => ?_⟩
    have S0 := Same.new (o := .lst [.bl (0 == i || 0 == 11), .bl (1 == i || 1 == 11), .bl (2 == i || 2 == 11)]) (Same.refl H) n0
    have h0 : (L2.upd H l0 (.lst [.bl (0 == i || 0 == 11), .bl (1 == i || 1 == 11), .bl (2 == i || 2 == 11)])) l0 = some (.lst [.bl (0 == i || 0 == 11), .bl (1 == i || 1 == 11), .bl (2 == i || 2 == 11)]) := upd_same
    generalize L2.upd H l0 _ = H0 at S0 h0 ⊢
    refine ⟨_, rfl, _, rfl, _, _, _, rfl, fun _ h => h, D.own 3 (by decide), _, rfl, _, _, _, rfl, fun _ h => h, D.own 4 (by decide), _, rfl, _, _, _, rfl, fun _ h => h, D.own 5 (by decide), by show 3 ≤ sizeLine; decide, fun m1 k1 => ?_⟩
    refine ⟨l0, m1, _, _, rfl, rfl, (upd_ne (ne_of_none h0 k1)).trans h0, upd_same, by show 6 ≤ sizeLine; decide, fun l1 n1 => ?_⟩
    have S1 := Same.new (o := .lst ([.bl (0 == i || 0 == 11), .bl (1 == i || 1 == 11), .bl (2 == i || 2 == 11)] ++ [.bl (3 == i || 3 == 11), .bl (4 == i || 4 == 11), .bl (5 == i || 5 == 11)])) (Same.new (o := .lst [.bl (3 == i || 3 == 11), .bl (4 == i || 4 == 11), .bl (5 == i || 5 == 11)]) S0 k1) n1
    have h1 : (L2.upd (L2.upd H0 m1 (.lst [.bl (3 == i || 3 == 11), .bl (4 == i || 4 == 11), .bl (5 == i || 5 == 11)])) l1 (.lst ([.bl (0 == i || 0 == 11), .bl (1 == i || 1 == 11), .bl (2 == i || 2 == 11)] ++ [.bl (3 == i || 3 == 11), .bl (4 == i || 4 == 11), .bl (5 == i || 5 == 11)]))) l1 = some (.lst [.bl (0 == i || 0 == 11), .bl (1 == i || 1 == 11), .bl (2 == i || 2 == 11), .bl (3 == i || 3 == 11), .bl (4 == i || 4 == 11), .bl (5 == i || 5 == 11)]) := upd_same
    generalize L2.upd (L2.upd H0 m1 _) l1 _ = H1 at S1 h1 ⊢
    refine ⟨_, rfl, _, rfl, _, _, _, rfl, fun _ h => h, D.own 6 (by decide), _, rfl, _, _, _, rfl, fun _ h => h, D.own 7 (by decide), _, rfl, _, _, _, rfl, fun _ h => h, D.own 8 (by decide), by show 3 ≤ sizeLine; decide, fun m2 k2 => ?_⟩
    refine ⟨l1, m2, _, _, rfl, rfl, (upd_ne (ne_of_none h1 k2)).trans h1, upd_same, by show 9 ≤ sizeLine; decide, fun l2 n2 => ?_⟩
    have S2 := Same.new (o := .lst ([.bl (0 == i || 0 == 11), .bl (1 == i || 1 == 11), .bl (2 == i || 2 == 11), .bl (3 == i || 3 == 11), .bl (4 == i || 4 == 11), .bl (5 == i || 5 == 11)] ++ [.bl (6 == i || 6 == 11), .bl (7 == i || 7 == 11), .bl (8 == i || 8 == 11)])) (Same.new (o := .lst [.bl (6 == i || 6 == 11), .bl (7 == i || 7 == 11), .bl (8 == i || 8 == 11)]) S1 k2) n2
    have h2 : (L2.upd (L2.upd H1 m2 (.lst [.bl (6 == i || 6 == 11), .bl (7 == i || 7 == 11), .bl (8 == i || 8 == 11)])) l2 (.lst ([.bl (0 == i || 0 == 11), .bl (1 == i || 1 == 11), .bl (2 == i || 2 == 11), .bl (3 == i || 3 == 11), .bl (4 == i || 4 == 11), .bl (5 == i || 5 == 11)] ++ [.bl (6 == i || 6 == 11), .bl (7 == i || 7 == 11), .bl (8 == i || 8 == 11)]))) l2 = some (.lst [.bl (0 == i || 0 == 11), .bl (1 == i || 1 == 11), .bl (2 == i || 2 == 11), .bl (3 == i || 3 == 11), .bl (4 == i || 4 == 11), .bl (5 == i || 5 == 11), .bl (6 == i || 6 == 11), .bl (7 == i || 7 == 11), .bl (8 == i || 8 == 11)]) := upd_same
    generalize L2.upd (L2.upd H1 m2 _) l2 _ = H2 at S2 h2 ⊢
    refine ⟨_, rfl, _, rfl, _, _, _, rfl, fun _ h => h, D.own 9 (by decide), _, rfl, _, _, _, rfl, fun _ h => h, D.own 10 (by decide), by show 2 ≤ sizeLine; decide, fun m3 k3 => ?_⟩
    refine ⟨l2, m3, _, _, rfl, rfl, (upd_ne (ne_of_none h2 k3)).trans h2, upd_same, by show 11 ≤ sizeLine; decide, fun l3 n3 => ?_⟩
    have S3 := Same.new (o := .lst ([.bl (0 == i || 0 == 11), .bl (1 == i || 1 == 11), .bl (2 == i || 2 == 11), .bl (3 == i || 3 == 11), .bl (4 == i || 4 == 11), .bl (5 == i || 5 == 11), .bl (6 == i || 6 == 11), .bl (7 == i || 7 == 11), .bl (8 == i || 8 == 11)] ++ [.bl (9 == i || 9 == 11), .bl (10 == i || 10 == 11)])) (Same.new (o := .lst [.bl (9 == i || 9 == 11), .bl (10 == i || 10 == 11)]) S2 k3) n3
    have h3 : (L2.upd (L2.upd H2 m3 (.lst [.bl (9 == i || 9 == 11), .bl (10 == i || 10 == 11)])) l3 (.lst ([.bl (0 == i || 0 == 11), .bl (1 == i || 1 == 11), .bl (2 == i || 2 == 11), .bl (3 == i || 3 == 11), .bl (4 == i || 4 == 11), .bl (5 == i || 5 == 11), .bl (6 == i || 6 == 11), .bl (7 == i || 7 == 11), .bl (8 == i || 8 == 11)] ++ [.bl (9 == i || 9 == 11), .bl (10 == i || 10 == 11)]))) l3 = some (.lst [.bl (0 == i || 0 == 11), .bl (1 == i || 1 == 11), .bl (2 == i || 2 == 11), .bl (3 == i || 3 == 11), .bl (4 == i || 4 == 11), .bl (5 == i || 5 == 11), .bl (6 == i || 6 == 11), .bl (7 == i || 7 == 11), .bl (8 == i || 8 == 11), .bl (9 == i || 9 == 11), .bl (10 == i || 10 == 11)]) := upd_same
    generalize L2.upd (L2.upd H2 m3 _) l3 _ = H3 at S3 h3 ⊢
    refine ⟨_, rfl, _, rfl, _, _, _, rfl, fun _ h => h, D.own 11 (by decide), _, rfl, .ty "ValueError", .type "ValueError", _, rfl, fun _ h => h, D.val, by show 2 ≤ sizeLine; decide, fun m4 k4 => ?_⟩
    refine ⟨l3, m4, _, _, rfl, rfl, (upd_ne (ne_of_none h3 k4)).trans h3, upd_same, by show 13 ≤ sizeLine; decide, fun l4 n4 => ?_⟩
    have S4 := Same.new (o := .lst ([.bl (0 == i || 0 == 11), .bl (1 == i || 1 == 11), .bl (2 == i || 2 == 11), .bl (3 == i || 3 == 11), .bl (4 == i || 4 == 11), .bl (5 == i || 5 == 11), .bl (6 == i || 6 == 11), .bl (7 == i || 7 == 11), .bl (8 == i || 8 == 11), .bl (9 == i || 9 == 11), .bl (10 == i || 10 == 11)] ++ [.bl (11 == i || 11 == 11), .bl true])) (Same.new (o := .lst [.bl (11 == i || 11 == 11), .bl true]) S3 k4) n4
    have h4 : (L2.upd (L2.upd H3 m4 (.lst [.bl (11 == i || 11 == 11), .bl true])) l4 (.lst ([.bl (0 == i || 0 == 11), .bl (1 == i || 1 == 11), .bl (2 == i || 2 == 11), .bl (3 == i || 3 == 11), .bl (4 == i || 4 == 11), .bl (5 == i || 5 == 11), .bl (6 == i || 6 == 11), .bl (7 == i || 7 == 11), .bl (8 == i || 8 == 11), .bl (9 == i || 9 == 11), .bl (10 == i || 10 == 11)] ++ [.bl (11 == i || 11 == 11), .bl true]))) l4 = some (.lst [.bl (0 == i || 0 == 11), .bl (1 == i || 1 == 11), .bl (2 == i || 2 == 11), .bl (3 == i || 3 == 11), .bl (4 == i || 4 == 11), .bl (5 == i || 5 == 11), .bl (6 == i || 6 == 11), .bl (7 == i || 7 == 11), .bl (8 == i || 8 == 11), .bl (9 == i || 9 == 11), .bl (10 == i || 10 == 11), .bl (11 == i || 11 == 11), .bl true]) := upd_same
    generalize L2.upd (L2.upd H3 m4 _) l4 _ = H4 at S4 h4 ⊢
    have hb : H4 l4 = some (.lst ((errBits i).map V.bl)) := h4
    refine ⟨_, rfl, ⟨_, rfl⟩, _, _, rfl, rfl, by decide +kernel, by decide +kernel, fun q nq => ?_⟩
    rw [split_words]
    refine ⟨_, rfl, q, l4, _, _, rfl, SqL.of upd_same, SqL.of ((upd_ne (ne_of_none hb nq)).trans hb), ?_, fun d nd => ?_⟩
    · rw [List.length_map, List.length_map, errBits_len]; rfl
    have Sq := Same.new (o := .lst (errWords.map V.str)) S4 nq
    have hq : (L2.upd H4 q (.lst (errWords.map V.str))) q = some (.lst (errWords.map V.str)) := upd_same
    have hl : (L2.upd H4 q (.lst (errWords.map V.str))) l4 = some (.lst ((errBits i).map V.bl)) := (upd_ne (ne_of_none hb nq)).trans hb
    generalize L2.upd H4 q _ = H5 at Sq hq hl nd ⊢
    refine lc_it walk_jz (fun j H' => Same H5 H' ∧ H' d = some (.lst ((errKept i j).map V.str))) ⟨Same.new (Same.refl _) nd, upd_same⟩ ?_ ?_ ?_
    · exact fun j H' _ h => ⟨SqL.of (h.1 _ _ hq), SqL.of (h.1 _ _ hl)⟩
    · rintro j x H' H2 hj ⟨hS, hD⟩ ⟨T, x1, y1, rfl, nT, rfl, hx, hy⟩
      rw [List.getElem?_map] at hx hy
      obtain ⟨wd, hw, rfl⟩ := Option.map_eq_some_iff.mp hx
      obtain ⟨b, hy', rfl⟩ := Option.map_eq_some_iff.mp hy
      have nTd := ne_of_none hD nT
      refine ⟨T, _, rfl, SqT.of upd_same, rfl, _, _, rfl, _, _, rfl, rfl, rfl, _, rfl, _, rfl, ?_⟩
      have ek := errKept_succ hw hy'
      have ST : Same H5 (L2.upd H' T (.tup [.str wd, .bl b])) := Same.new hS nT
      cases b with
      | true =>
        rw [if_pos rfl] at ek
        refine ⟨_, rfl, _, (upd_ne nTd).trans hD, ?_, Same.own ST nd, ?_⟩
        · rw [List.length_map]
          refine small1000 ?_
          unfold errKept
          rw [List.length_map]
          refine Nat.le_trans (List.length_filter_le ..) ?_
          rw [List.length_take]
          have hj13 : j < 13 := hj
          omega
        · rw [upd_same, ek, List.map_append]; rfl
      | false =>
        rw [if_neg Bool.false_ne_true] at ek
        exact ⟨ST, by rw [upd_ne nTd, hD, ek]⟩
    · rintro H' ⟨hS, hD⟩
      have hD' : H' d = some (.lst [.str (errWord i), .str "base", .str "value"]) := by
        rw [hD]
        show some (HO.lst ((errKept i 13).map V.str)) = _
        rw [errKept_all i D.lt]; rfl
      refine ⟨_, rfl, _, rfl, d, _, rfl, SqL.of hD', fun p np => ?_⟩
      refine ⟨by show 2 ≤ sizeLine; decide, fun l nl => ?_⟩
      have e1 : cutV [V.str (errWord i), .str "base", .str "value"] (some 1) none = [.str "base", .str "value"] := rfl
      rw [e1]
      refine ⟨.list [.str "base", .str "value"], .list [.str "base", .str "value"], .lst (SqL.of ((upd_ne (ne_of_none upd_same nl)).trans upd_same)) (.cons (.str _) (.cons (.str _) .nil)), .lst (SqL.of upd_same) (.cons (.str _) (.cons (.str _) .nil)), by decide +kernel, by decide +kernel, _, rfl, ?_⟩
      rw [SeqAt.eqv_refl _ (by decide +kernel)]
      refine iteT ⟨_, rfl, d, [.str (errWord i), .str "base", .str "value"], _, .str (errWord i), rfl, rfl, SqL.of ?_, rfl, ?_⟩
      · rw [upd_ne (ne_of_none ((upd_ne (ne_of_none hD' np)).trans hD') nl), upd_ne (ne_of_none hD' np)]; exact hD'
      · exact good _ (Same.new (Same.new (Sq.trans hS) np) nl)
end
end Mx

set_option Elab.async false
set_option maxRecDepth 100000
set_option linter.all false
/-! try: .. except MixError as e: return _law_error_name(e) -/
namespace Mx
open PySem PySem.Spec PyProof.Rows L2 L2H
theorem takes0N {X : Cx} : L2N.Takes X (fun _ _ _ _ => False) := fun _ _ x => by
  obtain ⟨_, _, _, _, _, _, _, _, _, _, _, _, _, _, _, _, z⟩ := x
  exact z.elim
theorem PE_imp {X : Cx} {e : Expr} {t u : TE} (h : PE X e t) (i : ∀ σ H Q, u σ H Q → t σ H Q) : PE X e u := ⟨fun pins s σ H Q I q => h.run pins s σ H Q I (i _ _ _ q)⟩
/-- a call with keywords, within a try -/
def tCallNS (n m : Nat) (sp : Sp) (gV : List V → List V → List V) (E : L2.St → XK) (t tk : TA) : TE := fun σ H Q => t σ H fun vs H1 => tk σ H1 fun zs H2 => vs.length = n ∧ zs.length = m ∧ sp (gV vs zs) H2 Q (E σ)
theorem pe_callNS {X : Cx} {CX : CXT} {k n : Nat} {f : Addr} {fd : FuncData} {ps ks : List Str} {sp : Sp} {E : L2.St → XK} {x : Str} {p pos : PySem.Pos} {e : Expr} {es : List Expr} {kws : List Keyword} {t tk : TA} {g : List Value → List Value → List Value} {gV : List V → List V → List V}
    (F : FnOk X.prog X.w X.K X.mg X.base CX k f fd ps sp) (hr : Room k X.A) (hg : Gl X x) (hm : X.mg x = some (.ref f)) (hk : PySem.W.keepIn X.K (.ref f) = true) (hb : KBn X.K fd ps n ks g gV) (hx : ∀ σ, PassesAt CX X σ (E σ))
    (ha : PA X (e :: es) t) (hkw : PK X kws tk) (hall : (backToKw pos (keywordEach kws X.env)).all (·.1.isSome) = true := by rfl) (hks : (backToKw pos (keywordEach kws X.env)).filterMap (·.1) = ks := by rfl)
    (hdb : (x == ("__debug__" : Str)) = false := by decide) (he : starEach (e :: es) X.env = (false, eval e X.env) :: starEach es X.env := by rfl)
    (hpl : ((backTo pos (starEach (e :: es) X.env)).any (·.1) || (backToKw pos (keywordEach kws X.env)).any (·.1.isNone)) = false := by rfl) :
    PE X (.Call (.Name x p) (e :: es) kws pos) (tCallNS n ks.length sp gV E t tk) := by
  refine ⟨fun pins s σ H Q I h => wpAny_Call_Name_kw (ld_glob I hg hm (PySem.W.callWith_KW (h₀ := X.base) I.ok.mod.kin hk hall (thn (ha.run pos pins s σ H _ I h) fun us s1 h1 => ?_) hpl he) hdb)⟩
  obtain ⟨vs, H1, I1, r, q⟩ := h1
  refine thn (hkw.run pos pins s1 σ H1 _ I1 q) fun ws s2 h2 => ?_
  obtain ⟨zs, H2, I2, rz, l1, l2, q2⟩ := h2
  refine ⟨I2.kIn, ?_⟩
  rw [hks]
  refine wpAny_call (codeAny_mono (F.run X.A X.stack s2 H2 ⟨us, ks.zip ws⟩ (g us ws) (gV vs zs) Q (E σ) hr I2.env0 (hb.to s2 us ws I2.kIn (r.length.symm.trans l1) (rz.length.symm.trans l2)) (hb.rel r rz) q2) fun u s' hq => ?_)
  cases u with
  | error e => exact hx σ pins H2 s2 e s' I2 hq
  | ok fl =>
    cases fl with
    | ret u => exact I2.after hq
    | next => cases hq
    | brk => cases hq
    | cont => cases hq
/-- what the suite gives for the handled exception -/
def tErr (K : PySem.W.Frag) (C : Nat → Addr) (i : Nat) (a : Addr) (cls : Value) (d : Option Addr) : TE := fun σ H Q => σ[i]? = some (some (.ref a)) ∧ ∃ j, cls = .ref (C j) ∧ d = none ∧ ErrD K C j ∧ ∀ H', Same H H' → Q (.str (errWord j)) H'
theorem suite_err {X : Cx} {C : Nat → Addr} {i k : Nat} {f : Addr} {fd : FuncData} {p1 p2 p3 p4 : PySem.Pos} (F : FnE X.prog X.w X.K X.mg X.base k f fd ["e"] (spErr X.K C)) (D : Def X.K X.mg "_law_error_name" sErrName ["e"] f fd) (room : RoomH k X.A) (hg : Gl X "_law_error_name") (hN : X.N[i]? = some "e") (hv : Vis X.env.scope "e")
    (a : Addr) (oe : Obj) (cls : Value) (d : Option Addr) (pn : List (Addr × Obj)) (hz : L2N.Zn cls d oe) (hf : ∃ vs, oe.data = .fields vs) :
    PSs (X.suite a ((a, oe) :: pn)) [.Return (some (.Call (.Name "_law_error_name" p1) [.Name "e" p2] [] p3)) p4] (tRet (tErr X.K C i a cls d)) := by
  obtain ⟨vs, hd⟩ := hf
  refine pss_one (ps_ret (PE_imp (pe_callE (X := X.suite a ((a, oe) :: pn)) (p := (a, oe)) F ⟨room.dp, room.un⟩ ⟨rfl, vs, hd, hz.2.2 vs hd⟩ List.mem_cons_self hg D.mg D.fn.kp D.b (pa_cons (pe_var (i := i) hN hv) pa_nil)) fun σ H Q h => ?_))
  obtain ⟨hs, j, rfl, rfl, hD, q⟩ := h
  exact ⟨_, hs, j, rfl, hD, hz.zc, q⟩
end Mx

set_option Elab.async false
set_option maxRecDepth 100000
set_option linter.all false
/-! items as data: their equality, their places in lists -/
namespace Mx
open PySem L2
theorem u65 {k : Nat} {A : Around} (r : Room k A) : A.units + 65 < cLine := by
  have := r.un
  omega
def itemD (x : Item) : PyData := .tuple [.str x.1, .int (x.2 : Nat)]
theorem item_dp {K : PySem.W.Frag} {H : Hp} {v : V} {x : Item} (h : ItemAt H v x) : Dp K H v (itemD x) := by
  obtain ⟨q, rfl, hq⟩ := h
  exact .tup (SqT.of hq) (.cons (.str _) (.cons (.int _) .nil))
theorem items_dp {K : PySem.W.Frag} {H : Hp} : ∀ {xs : List V} {its : List Item}, ItemsAt H xs its → DpAll K H xs (its.map itemD)
  | _, _, .nil => .nil
  | _, _, .cons r t => .cons (item_dp r) (items_dp t)
def OkNames (its : List Item) : Prop := ∀ x ∈ its, PyData.canLay0 (.str x.1) = true
theorem item_can {x : Item} (h : PyData.canLay0 (.str x.1) = true) : PyData.canLay0 (itemD x) = true := by
  unfold itemD
  rw [PyData.canLay0, PyData.canLayAll0, h, PyData.canLayAll0, PyData.canLayAll0]
  simp [PyData.canLay0]
theorem items_can : ∀ {its : List Item}, OkNames its → PyData.canLayAll0 (its.map itemD) = true
  | [], _ => by simp [PyData.canLayAll0]
  | x :: r, h => by
    rw [List.map_cons, PyData.canLayAll0, item_can (h x List.mem_cons_self), items_can fun y hy => h y (List.mem_cons_of_mem _ hy)]
    rfl
theorem item_depth (x : Item) : PyData.depth (itemD x) = 1 := by
  unfold itemD
  simp [PyData.depth, PyData.depthAll]
theorem items_depth : ∀ its : List Item, PyData.depthAll (its.map itemD) ≤ 1
  | [] => by simp [PyData.depthAll]
  | x :: r => by
    rw [List.map_cons, PyData.depthAll, item_depth]
    have := items_depth r
    omega
theorem item_shaped {x : Item} (h : PyData.canLay0 (.str x.1) = true) : SeqAt.shaped (itemD x) = true := by
  unfold SeqAt.shaped
  rw [item_can h, item_depth]
  decide
theorem items_shaped {its : List Item} (h : OkNames its) : SeqAt.shaped (.list (its.map itemD)) = true := by
  unfold SeqAt.shaped
  rw [PyData.canLay0, items_can h, PyData.depth, Bool.true_and, decide_eq_true]
  have := items_depth its
  omega
theorem eqv_item (x y : Item) : PyData.eqv (itemD x) (itemD y) = decide (x = y) := by
  obtain ⟨a, i⟩ := x
  obtain ⟨b, j⟩ := y
  unfold itemD
  rw [PyData.eqv, PyData.eqvAll, PyData.eqvAll, PyData.eqvAll, PyData.eqv, PyData.eqv]
  by_cases e1 : a = b
  · subst e1
    by_cases e2 : i = j
    · subst e2; simp
    · have z : ¬ (i : Int) = (j : Int) := by omega
      simp [e2]
      omega
  · simp [e1]
/-- the place of an item in a list of items, as list.index finds it -/
theorem index_at {its : List Item} {x : Item} {j : Nat} (hj : its[j]? = some x) : (its.map itemD)[j]? = some (itemD x) := by rw [List.getElem?_map, hj]; rfl
theorem index_eq (x : Item) : PyData.eqv (itemD x) (itemD x) = true := by rw [eqv_item]; simp
theorem index_first {its : List Item} {x : Item} {j : Nat} (nd : its.Nodup) (hj : its[j]? = some x) : ∀ (m : Nat) (z : PyData), m < j → (its.map itemD)[m]? = some z → PyData.eqv z (itemD x) = false := by
  intro m z hm hz
  rw [List.getElem?_map] at hz
  cases e : its[m]? with
  | none => rw [e] at hz; cases hz
  | some y =>
    rw [e] at hz
    cases hz
    rw [eqv_item]
    refine decide_eq_false fun w => ?_
    subst w
    have z := at_unique nd e hj
    omega
end Mx

set_option Elab.async false
set_option maxRecDepth 100000
namespace Mx
open PySem L2
def spMixNames : Sp := fun vs H Q _ => ∃ (a : Addr) (m : Int) (o : HO), vs = [.ref a, .int m] ∧ H a = some o ∧ SrcO o ∧ 1 ≤ m ∧ m ≤ 8 ∧
  ∀ (p : Addr) (o' : HO) (ns : List Str) (H' : Hp), But a H H' → H' a = some o' → SrcO o' → H p = none → H' p = some (.lst (ns.map V.str)) → NamesOk ns → ns ≠ [] → (ns.length : Int) ≤ m → Q (.ref p) H'
section
variable {P : Program} {w : World} {K : PySem.W.Frag} {mg : Str → Option Value} {base : Heap}
theorem scMixNames : FnScope ["source", "most", "rest", "found"] ["source", "most"] (defScope sMixNames) := ⟨rfl, rfl, rfl, by decide +kernel, rfl, by decide +kernel, by decide +kernel⟩
theorem ok_mixNames {f fP : Addr} {fd fdP : FuncData} (F : Fun K "_law_mixed_names" "_law_mixed_names" sMixNames f fd) (B : Blt mg) (D : Def K mg "_law_pick" sPick ["source", "size"] fP fdP)
    (GP : FnOk P w K mg base CX0 1 fP fdP ["source", "size"] spPick) : FnOk P w K mg base CX0 2 f fd ["source", "most"] spMixNames := by
  refine F.ok scMixNames (fun vs H Q E h => ?_) (fun cdv A outer s H vs Q E hr h => ?_)
  · obtain ⟨a, n, o, rfl, _⟩ := h
    rfl
  · obtain ⟨a, m, o, rfl, ha, hO, hm1, hm8, k⟩ := h
    refine ⟨_, pss_cons (ps_par (i := 2) (j := 3) rfl scMixNames.nd rfl rfl (by decide) rfl rfl (pa_cons (pe_slice sl_list (pe_lst (pa_cons pe_str (pa_cons pe_str (pa_cons pe_str (pa_cons pe_str (pa_cons pe_str (pa_cons pe_str (pa_cons pe_str (pa_cons pe_str pa_nil)))))))))
          po_none (po_some (pe_op op_add pe_int (pe_call GP hr rfl D.mg D.fn.kp D.b .nil pass0 (pa_cons (pv 0) (pa_cons (pv 1) pa_nil)))))) (pa_cons (pe_lst pa_nil) pa_nil)) (by rfl))
      (pss_cons (ps_while PassesOwn.never (pt_cmpR (op_neD hr.units) (pv 2) (pe_lst pa_nil) (nomark _))
        (pss_one (ps_expr (pe_bm PySem.F.plainAttrs_list PySem.F.slot_list_append PySem.F.type_list_append mt_append (pv 3)
          (pa_cons (pe_bm PySem.F.plainAttrs_list PySem.F.slot_list_pop PySem.F.type_list_pop mt_popAt (pv 2)
            (pa_cons (pe_call GP hr rfl D.mg D.fn.kp D.b .nil pass0 (pa_cons (pv 0) (pa_cons (pe_callB call_len_seq (by rfl) B.len PySem.boot_len (pa_cons (pv 2) pa_nil)) pa_nil))) pa_nil)) pa_nil)))))
      (pss_one (ps_ret (pv 3)))), ?_⟩
    refine ⟨by show 8 ≤ sizeLine; decide, fun l nl => ?_⟩
    have nla : a ≠ l := ne_of_none ha nl
    refine ⟨_, rfl, _, rfl, a, m, o, rfl, by rw [upd_ne nla]; exact ha, hO, by omega, by omega, fun d o1 hd0 hd1 hO1 => ?_⟩
    refine ⟨_, _, rfl, rfl, _, rfl, l, _, rfl, SqL.of (by rw [upd_ne nla.symm]; exact upd_same), fun p np => ?_⟩
    refine ⟨Nat.zero_le _, fun q nq => ?_⟩
    obtain ⟨dn, rfl⟩ := Int.eq_ofNat_of_zero_le hd0
    have e1 : cutV [V.str "a", V.str "b", V.str "c", V.str "dd", V.str "e", V.str "fee", V.str "g", V.str "h"] none (some (1 + (dn : Int))) = (U.take (1 + dn)).map V.str := by
      rw [U8 V.str, List.map_take]
      exact cut_to (by rw [List.length_map]; show 1 + dn ≤ 8; omega)
    have npa : p ≠ a := fun e => by rw [e, upd_same] at np; cases np
    have nqp : q ≠ p := fun e => by rw [e, upd_same] at nq; cases nq
    have nq1 := none_of_upd nq
    have nqa : q ≠ a := fun e => by rw [e, upd_same] at nq1; cases nq1
    have np0 : H p = none := by
      have z := none_of_upd np
      exact none_of_upd z
    have nq0 : H q = none := none_of_upd (none_of_upd nq1)
    refine ⟨_, _, rfl, ?_⟩
    refine ⟨fun t σ H' => ∃ (rest found : List Str) (o' : HO), t = rest.length ∧ σ = [some (.ref a), some (.int m), some (.ref p), some (.ref q)] ∧ But a H H' ∧ H' a = some o' ∧ SrcO o' ∧ H' p = some (.lst (rest.map V.str)) ∧ H' q = some (.lst (found.map V.str)) ∧
        (rest ++ found).Nodup ∧ (∀ x ∈ rest ++ found, x ∈ U) ∧ (rest ++ found).length = 1 + dn, ⟨_, U.take (1 + dn), [], o1, rfl, rfl, ?_, ?_, hO1, ?_, upd_same, ?_, ?_, ?_⟩, ?_⟩
    · exact ((((But.refl.own nl).upd).own np0).own nq0)
    · rw [upd_ne nqa.symm, upd_ne npa.symm, upd_same]
    · rw [upd_ne nqp.symm, e1, upd_same]
    · rw [List.append_nil]; exact U_nd.sublist (List.take_sublist _ _)
    · intro x hx; rw [List.append_nil] at hx; exact List.mem_of_mem_take hx
    · rw [List.append_nil, List.length_take]; show min (1 + dn) 8 = _; omega
    · rintro t σ H' ⟨rest, found, o', rfl, rfl, hB, hA, hO', hp, hq, hnd, hmem, hlen⟩
      have hpa : p ≠ a := npa
      refine ⟨_, rfl, Nat.zero_le _, fun z nz => ?_⟩
      have nzp : p ≠ z := ne_of_none hp nz
      have nzq : q ≠ z := ne_of_none hq nz
      have nza : a ≠ z := ne_of_none hA nz
      refine ⟨_, _, .lst (SqL.of (by rw [upd_ne nzp]; exact hp)) (strs_dp rest), .lst (SqL.of upd_same) .nil, strs_shaped fun x hx => hmem x (List.mem_append_left _ hx), nil_shaped, _, rfl, ?_⟩
      rw [eqv_nil]
      refine ite2 (fun c => ?_) (fun c => ?_)
      · have hne : rest ≠ [] := by simpa using c
        have hpos : 0 < rest.length := List.length_pos_iff.mpr hne
        refine ⟨fun σ' H'' => ∃ m', m' < rest.length ∧ _, fun σ' H'' h => h, ?_⟩
        refine ⟨_, rfl, .inl ⟨rfl, _, SqL.of (by rw [upd_ne nzq]; exact hq)⟩, _, rfl, .inl ⟨rfl, _, SqL.of (by rw [upd_ne nzp]; exact hp)⟩, _, rfl, _, rfl, p, _, rfl, .inl (SqL.of (by rw [upd_ne nzp]; exact hp)), ?_⟩
        have hl8 : rest.length ≤ 8 := by rw [List.length_append] at hlen; omega
        refine ⟨a, _, o', rfl, by rw [upd_ne nza]; exact hA, hO', by rw [List.length_map]; omega, by rw [List.length_map]; omega, fun d2 o2 h20 h21 hO2 => ?_⟩
        rw [List.length_map] at h21
        obtain ⟨dm, rfl⟩ := Int.eq_ofNat_of_zero_le h20
        have hdm : dm < rest.length := by omega
        refine ⟨p, _, _, dm, V.str rest[dm], rfl, rfl, by rw [upd_ne npa, upd_ne nzp]; exact hp, by omega, by omega, ?_, ?_, ?_⟩
        · rw [seqIx (by omega) (by rw [List.length_map]; omega)]; rfl
        · rw [List.getElem?_map, List.getElem?_eq_getElem hdm]; rfl
        · refine ⟨q, _, _, rfl, rfl, by rw [upd_ne nqp, upd_ne nqa, upd_ne nzq]; exact hq, ?_, ?_⟩
          · rw [List.length_map]
            refine small1000 ?_
            rw [List.length_append] at hlen
            omega
          · refine ⟨rest.length - 1, by omega, rest.eraseIdx dm, found ++ [rest[dm]], o2, ?_, rfl, ?_, ?_, hO2, ?_, ?_, ?_, ?_, ?_⟩
            · rw [List.length_eraseIdx_of_lt hdm]
            · exact ((((hB.new nz).upd).own np0).own nq0)
            · rw [upd_ne nqa.symm, upd_ne npa.symm, upd_same]
            · rw [upd_ne nqp.symm, upd_same, map_eraseIdx]
            · rw [upd_same, List.map_append]; rfl
            · refine (List.Perm.nodup_iff ?_).mp hnd
              have e2 : rest.Perm (rest[dm] :: rest.eraseIdx dm) := erase_perm rest dm hdm
              refine (e2.append_right found).trans ?_
              have : (rest.eraseIdx dm ++ (found ++ [rest[dm]])).Perm (rest[dm] :: (rest.eraseIdx dm ++ found)) := by
                rw [← List.append_assoc]
                exact List.perm_append_singleton _ _
              exact this.symm
            · intro x hx
              rcases List.mem_append.mp hx with h | h
              · exact hmem x (List.mem_append_left _ (mem_eraseIdx h))
              · rcases List.mem_append.mp h with h | h
                · exact hmem x (List.mem_append_right _ h)
                · rw [List.mem_singleton] at h
                  rw [h]
                  exact hmem _ (List.mem_append_left _ (List.getElem_mem _))
            · rw [List.length_append, List.length_append, List.length_singleton, List.length_eraseIdx_of_lt hdm]
              rw [List.length_append] at hlen
              omega
      · have hne : rest = [] := by simpa using c
        subst hne
        rw [List.nil_append] at hnd hmem hlen
        refine ⟨_, rfl, ?_⟩
        refine k q o' found _ (hB.new nz) (by rw [upd_ne nza]; exact hA) hO' nq0 (by rw [upd_ne nzq]; exact hq) ⟨hnd, hmem, by omega⟩ ?_ (by omega)
        intro e
        rw [e] at hlen
        simp at hlen
        omega
end
end Mx

set_option Elab.async false
set_option maxRecDepth 100000
namespace Mx
open PySem L2
def spPart (K : PySem.W.Frag) (d : Nat) : Sp := fun vs H Q _ => ∃ (a nl : Addr) (lev top : Int) (o : HO) (ns : List Str), vs = [.ref a, .ref nl, .int lev, .int top] ∧ H a = some o ∧ SrcO o ∧ H nl = some (.lst (ns.map V.str)) ∧ nl ≠ a ∧
  NamesOk ns ∧ ns ≠ [] ∧ 0 ≤ lev ∧ lev ≤ d ∧ (lev = 0 → ns.length = 1) ∧ 1 ≤ top ∧ top ≤ 9 ∧
  ∀ (v : V) (t : Tr) (o' : HO) (H' : Hp), But a H H' → H' a = some o' → SrcO o' → TrAt K H' d v t → t.wf d → t.names.Sublist ns → t.names ≠ [] → Q v H'
section
variable {P : Program} {w : World} {K : PySem.W.Frag} {mg : Str → Option Value} {base : Heap}
def nPart : List Str := ["source", "names", "levels", "top", "found", "rest", "size", "name"]
theorem scPart : FnScope nPart ["source", "names", "levels", "top"] (defScope sPart) := ⟨rfl, rfl, rfl, by decide +kernel, rfl, by decide +kernel, by decide +kernel⟩
theorem part_step {d : Nat} {f fP : Addr} {fd fdP : FuncData} (F : Def K mg "_law_part" sPart ["source", "names", "levels", "top"] f fd) (B : Blt mg) (D : Def K mg "_law_pick" sPick ["source", "size"] fP fdP)
    (GP : FnOk P w K mg base CX0 1 fP fdP ["source", "size"] spPick) (GR : FnOk P w K mg base CX0 (d + 1) f fd ["source", "names", "levels", "top"] (pre (spPart K) d)) :
    FnOk P w K mg base CX0 (d + 2) f fd ["source", "names", "levels", "top"] (spPart K d) := by
  refine F.fn.ok scPart (fun vs H Q E h => ?_) (fun cdv A outer s H vs Q E hr h => ?_)
  · obtain ⟨a, nl, lev, top, o, ns, rfl, _⟩ := h
    rfl
  · obtain ⟨a, nl, lev, top, o, ns, rfl, ha, hO, hnl, nla, hN, hne, hl0, hld, hl1, ht1, ht9, k⟩ := h
    have hr1 : Room 1 _ := hr.mono (by omega)
    refine ⟨_, pss_cons (ps_if (pt_cmpR op_eq (pe_callB call_len_seq (by rfl) B.len PySem.boot_len (pa_cons (pv 1) pa_nil)) pe_int (nomark _))
        (pss_cons (ps_if (PW.pt (pw_and (pt_cmpR op_gt (pv 2) pe_int (nomark _)) (pw_and1 (pt_cmpR op_eq (pe_call GP hr1 rfl D.mg D.fn.kp D.b .nil pass0 (pa_cons (pv 0) (pa_cons pe_int pa_nil))) pe_int (nomark _)))))
          (pss_one (ps_ret (pe_tup (pa_cons (pe_tup (pa_cons (pe_op op_add pe_int (pe_call GP hr1 rfl D.mg D.fn.kp D.b .nil pass0 (pa_cons (pv 0) (pa_cons (pv 3) pa_nil))))
            (pa_cons (pe_call GR hr rfl F.mg F.fn.kp F.b .nil pass0 (pa_cons (pv 0) (pa_cons (pv 1) (pa_cons (pe_op op_sub (pv 2) pe_int) (pa_cons (pv 3) pa_nil))))) pa_nil))) pa_nil)))) pss_nil)
        (pss_one (ps_ret (pe_ix ix_list (pv 1) pe_int (fun _ _ => rfl))))) pss_nil)
      (pss_cons (ps_if (pt_cmpR op_lt (pv 2) pe_int (nomark _))
        (pss_one (ps_ret (pe_callTy call_tuple_of (by rfl) B.tuple (by decide +kernel) (pa_cons
          (pe_lc (own := [("name", 7)]) (g := gName 7) (tt := tYes) (by rfl) scPart.nd (pi_list (pe_slice sl_list (pv 1) po_none (po_some pe_int))) (blkOk_by (own := [("name", 7)]) (N := nPart) (sc := defScope sPart) (by decide +kernel))
            (fun _ _ _ _ _ => pg_name (i := 7) scPart.nd rfl (Or.inl rfl)) (fun _ _ _ _ _ => pts_nil)
            (fun _ _ _ _ _ => pe_tup (pa_cons (pe_op op_add pe_int (pe_call GP hr1 rfl D.mg D.fn.kp D.b .nil pass0 (pa_cons (pv 0) (pa_cons (pv 3) pa_nil)))) (pa_cons (pv 7) pa_nil)))) pa_nil)))) pss_nil)
      (pss_cons (ps_par (i := 4) (j := 5) rfl scPart.nd rfl rfl (by decide) rfl rfl (pa_cons (pe_lst pa_nil) (pa_cons (pe_callTy call_list_of (by rfl) B.list (by decide +kernel) (pa_cons (pv 1) pa_nil)) pa_nil)) (by rfl))
      (pss_cons (ps_while PassesOwn.never (pt_cmpR (op_neD hr.units) (pv 5) (pe_lst pa_nil) (nomark _))
        (pss_cons (ps_set (i := 6) scPart.nd rfl (Or.inl rfl) (pe_ifExp (pt_cmpR op_eq (pe_callB call_len_seq (by rfl) B.len PySem.boot_len (pa_cons (pv 4) pa_nil)) pe_int (nomark _))
            (pe_callB call_len_seq (by rfl) B.len PySem.boot_len (pa_cons (pv 5) pa_nil))
            (pe_op op_add pe_int (pe_call GP hr1 rfl D.mg D.fn.kp D.b .nil pass0 (pa_cons (pv 0) (pa_cons (pe_callB call_len_seq (by rfl) B.len PySem.boot_len (pa_cons (pv 5) pa_nil)) pa_nil))))))
        (pss_cons (ps_expr (pe_bm PySem.F.plainAttrs_list PySem.F.slot_list_append PySem.F.type_list_append mt_append (pv 4) (pa_cons
            (pe_tup (pa_cons (pe_op op_add pe_int (pe_call GP hr1 rfl D.mg D.fn.kp D.b .nil pass0 (pa_cons (pv 0) (pa_cons (pv 3) pa_nil))))
              (pa_cons (pe_call GR hr rfl F.mg F.fn.kp F.b .nil pass0 (pa_cons (pv 0) (pa_cons (pe_slice sl_list (pv 5) po_none (po_some (pv 6))) (pa_cons (pe_op op_sub (pv 2) pe_int) (pa_cons (pv 3) pa_nil))))) pa_nil))) pa_nil)))
        (pss_one (ps_set (i := 5) scPart.nd rfl (Or.inl rfl) (pe_slice sl_list (pv 5) (po_some (pv 6)) po_none))))))
      (pss_one (ps_ret (pe_callTy call_tuple_of (by rfl) B.tuple (by decide +kernel) (pa_cons (pv 4) pa_nil))))))), ?_⟩
    refine ⟨_, rfl, nl, _, rfl, .inl (SqL.of hnl), rfl, _, rfl, ?_⟩
    refine ite2 (fun c => ?_) (fun c => ?_)
    · have hlen : ns.length = 1 := by
        have z := of_decide_eq_true c
        rw [List.length_map] at z
        have z2 : ((ns.length : Nat) : Int) = 1 := V.int.inj z
        omega
      obtain ⟨n0, rfl⟩ : ∃ n0, ns = [n0] := by
        match ns, hlen with
        | [n0], _ => exact ⟨n0, rfl⟩
      have leaf : ∀ (o1 : HO) (H1 : Hp), But a H H1 → H1 a = some o1 → SrcO o1 → Q (.str n0) H1 := fun o1 H1 b1 e1 s1 =>
        k _ (.feed n0) o1 H1 b1 e1 s1 (TrAt_feed.mpr rfl) (by unfold Tr.wf; trivial) (by rw [Tr.names_feed]; exact List.Sublist.refl _) (by rw [Tr.names_feed]; exact List.cons_ne_nil _ _)
      refine ⟨_, rfl, _, _, rfl, rfl, _, rfl, ?_⟩
      refine ite2 (fun c2 => ?_) (fun c2 => ?_)
      · refine ⟨_, rfl, a, _, o, rfl, ha, hO, (by decide), (by decide), fun d1 o1 h10 h11 hO1 => ?_⟩
        have hnl1 : upd H a o1 nl = some (.lst ([n0].map V.str)) := by rw [upd_ne nla]; exact hnl
        refine ⟨rfl, _, rfl, ?_⟩
        refine ite2 (fun c3 => ?_) (fun c3 => ?_)
        · refine ⟨_, rfl, _, rfl, a, _, o1, rfl, upd_same, hO1, by omega, by omega, fun d2 o2 h20 h21 hO2 => ?_⟩
          refine ⟨_, _, rfl, rfl, _, rfl, _, rfl, _, rfl, _, _, rfl, rfl, _, rfl, ?_⟩
          have hpos : 0 < lev := by simpa using c2
          obtain ⟨e, rfl⟩ : ∃ e, d = e + 1 := ⟨d - 1, by omega⟩
          have hnl2 : upd (upd H a o1) a o2 nl = some (.lst ([n0].map V.str)) := by rw [upd_ne nla]; exact hnl1
          refine ⟨a, nl, _, _, o2, [n0], rfl, upd_same, hO2, hnl2, nla, hN, hne, by omega, by omega, fun _ => rfl, ht1, ht9, fun v t o3 H3 b3 a3 s3 t3 w3 n3 m3 => ?_⟩
          refine ⟨by show 2 ≤ sizeLine; decide, fun q nq => ?_⟩
          refine ⟨by show 1 ≤ sizeLine; decide, fun r nr => ?_⟩
          have nqr : q ≠ r := fun z => by rw [← z, upd_same] at nr; cases nr
          have nqa : a ≠ q := ne_of_none a3 nq
          have nra : a ≠ r := ne_of_none a3 (none_of_upd nr)
          have kq : ∀ c xs, SqT K H3 c xs → SqT K (upd (upd H3 q (.tup [.int (1 + d2), v])) r (.tup [.ref q])) c xs := sqT_same (Same.new (Same.new (Same.refl _) nq) nr)
          refine k _ (.mix [(1 + d2, t)]) o3 _ ?_ ?_ s3 ?_ ?_ ?_ ?_
          · exact (((But.refl.upd).upd).trans b3).new nq |>.new nr
          · rw [upd_ne nra, upd_ne nqa]; exact a3
          · exact TrAt_mix.mpr ⟨r, _, rfl, SqT.of upd_same, PsAt.snoc (p := (1 + d2, t)) PsAt.nil (SqT.of (by rw [upd_ne nqr]; exact upd_same)) (TrAt.keep kq _ t3)⟩
          · unfold Tr.wf
            refine ⟨List.cons_ne_nil _ _, by simp, fun p hp => ?_⟩
            rw [List.mem_singleton] at hp
            subst hp
            exact ⟨by show 1 ≤ 1 + d2; omega, by show 1 + d2 ≤ 9; omega, w3⟩
          · rw [Tr.names_mix]
            simpa using n3
          · rw [Tr.names_mix]
            simpa using m3
        · refine ⟨_, rfl, nl, _, _, _, rfl, rfl, SqL.of hnl1, (rfl : atI [V.str n0] 0 = some (V.str n0)), ?_⟩
          exact leaf o1 _ (But.refl.upd) upd_same hO1
      · refine iteF ?_
        refine ⟨_, rfl, nl, _, _, _, rfl, rfl, SqL.of hnl, (rfl : atI [V.str n0] 0 = some (V.str n0)), ?_⟩
        exact leaf o _ But.refl ha hO
    · have hlen : ns.length ≠ 1 := fun z => c (by rw [List.length_map, z]; rfl)
      have hpos : 0 < ns.length := List.length_pos_iff.mpr hne
      refine ⟨_, rfl, _, _, rfl, rfl, _, rfl, ?_⟩
      refine ite2 (fun c2 => ?_) (fun c2 => ?_)
      · have hlev : lev = 1 := by
          have z : lev < 2 := by simpa using c2
          rcases Int.lt_or_le lev 1 with h | h
          · exact absurd (hl1 (by omega)) hlen
          · omega
        obtain ⟨e, rfl⟩ : ∃ e, d = e + 1 := ⟨d - 1, by omega⟩
        refine ⟨_, rfl, _, rfl, nl, _, rfl, SqL.of hnl, fun l nl' => ?_⟩
        have e5 : cutV (ns.map V.str) none (some 5) = (ns.take 5).map V.str := by
          unfold cutV
          rw [HT.sIx_none, show (some (5 : Int)) = some ((5 : Nat) : Int) from rfl, HT.sIx_nat, List.map_take, List.drop_zero, Nat.sub_zero, List.length_map]
          rcases Nat.le_total 5 ns.length with h | h
          · rw [Nat.min_eq_left h]
          · rw [Nat.min_eq_right h, List.take_of_length_le (by rw [List.length_map]; exact Nat.le_refl _), List.take_of_length_le (by rw [List.length_map]; exact h)]
        rw [e5]
        have nla' : a ≠ l := ne_of_none ha nl'
        refine ⟨l, rfl, ⟨_, SqL.of upd_same⟩, fun D' nD => ?_⟩
        have nDa : a ≠ D' := ne_of_none (by rw [upd_ne nla']; exact ha) nD
        have nDl : l ≠ D' := ne_of_none upd_same nD
        have nD0 : H D' = none := none_of_upd nD
        refine lc_list (K := K) (a := l) (xs := (ns.take 5).map V.str) (fun i H' => ∃ (o' : HO) (xs : List V) (ps : List (Int × Tr)), But a H H' ∧ H' a = some o' ∧ SrcO o' ∧ H' l = some (.lst ((ns.take 5).map V.str)) ∧ H' D' = some (.lst xs) ∧
          ps.length = i ∧ PsAt K H' e xs ps ∧ (∀ p ∈ ps, 1 ≤ p.1 ∧ p.1 ≤ 9 ∧ p.2.wf e) ∧ (ps.map fun p => p.2.names).flatten = (ns.take 5).take i) ?_ ?_ ?_ ?_
        · refine ⟨o, [], [], ?_, ?_, hO, ?_, upd_same, rfl, PsAt.nil, fun p hp => (by cases hp), by simp⟩
          · exact (But.refl.own nl').own nD0
          · rw [upd_ne nDa, upd_ne nla']; exact ha
          · rw [upd_ne nDl, upd_same]
        · rintro i H' hi ⟨o', xs, ps, _, _, _, h4, _⟩
          exact SqL.of h4
        · rintro i x H' hx ⟨o', xs, ps, h1, h2, h3, h4, h5, h6, h7, h8, h9⟩
          rw [List.getElem?_map] at hx
          obtain ⟨n, hn, rfl⟩ : ∃ n, (ns.take 5)[i]? = some n ∧ x = V.str n := by
            cases e9 : (ns.take 5)[i]? with
            | none => rw [e9] at hx; cases hx
            | some n => rw [e9] at hx; exact ⟨n, rfl, (Option.some.inj hx).symm⟩
          refine ⟨rfl, ?_⟩
          refine ⟨_, rfl, _, rfl, a, _, o', rfl, h2, h3, by omega, by omega, fun d2 o2 h20 h21 hO2 => ?_⟩
          refine ⟨_, _, rfl, rfl, _, rfl, by show 2 ≤ sizeLine; decide, fun q nq => ?_⟩
          have nqa : a ≠ q := ne_of_none upd_same nq
          have nq' : H' q = none := none_of_upd nq
          have nqD : D' ≠ q := ne_of_none h5 nq'
          have nql : l ≠ q := ne_of_none h4 nq'
          have nlD : l ≠ a := nla'.symm
          have h5' : upd (upd H' a o2) q (.tup [.int (1 + d2), .str n]) D' = some (.lst xs) := by rw [upd_ne nqD, upd_ne nDa.symm]; exact h5
          have kq : KeepT K H' (upd (upd (upd H' a o2) q (.tup [.int (1 + d2), .str n])) D' (.lst (xs ++ [.ref q]))) := ((KeepT.src h2 h3).trans (KeepT.new nq)).trans (KeepT.lst h5')
          have hin : i < (ns.take 5).length := (List.getElem?_eq_some_iff.mp hn).1
          have hi5 : i < 5 := Nat.lt_of_lt_of_le hin (by rw [List.length_take]; exact Nat.min_le_left _ _)
          refine ⟨xs, h5', ?_, o2, xs ++ [.ref q], ps ++ [(1 + d2, .feed n)], ?_, ?_, hO2, ?_, upd_same, ?_, ?_, ?_, ?_⟩
          · rw [h7.1, h6]; exact small1000 (by omega)
          · exact (h1.upd.own (h1.free nq' nqa.symm)).own nD0
          · rw [upd_ne nDa, upd_ne nqa, upd_same]
          · rw [upd_ne nDl, upd_ne nql, upd_ne nlD]; exact h4
          · rw [List.length_append, h6]; rfl
          · exact (h7.keep kq).snoc (p := (1 + d2, Tr.feed n)) (SqT.of (by rw [upd_ne nqD.symm]; exact upd_same)) (TrAt_feed.mpr rfl)
          · intro p hp
            rcases List.mem_append.mp hp with h | h
            · exact h8 p h
            · rw [List.mem_singleton] at h
              subst h
              exact ⟨by show 1 ≤ 1 + d2; omega, by show 1 + d2 ≤ 9; omega, by unfold Tr.wf; cases e <;> trivial⟩
          · rw [List.map_append, List.flatten_append, h9, List.map_singleton, List.flatten_singleton, Tr.names_feed, take_succ_of hn]
        · rintro H' ⟨o', xs, ps, h1, h2, h3, h4, h5, h6, h7, h8, h9⟩
          refine ⟨D', _, rfl, .inl ⟨SqL.of h5, fun r nr => ?_⟩⟩
          have nra : a ≠ r := ne_of_none h2 nr
          rw [List.length_map, List.length_take] at h6
          rw [List.take_of_length_le (by rw [List.length_map]; exact Nat.le_refl _)] at h9
          refine k _ (.mix ps) o' _ (h1.new nr) (by rw [upd_ne nra]; exact h2) h3 ?_ ?_ ?_ ?_
          · exact TrAt_mix.mpr ⟨r, _, rfl, SqT.of upd_same, h7.keep (KeepT.new nr)⟩
          · unfold Tr.wf
            refine ⟨fun z => ?_, by omega, h8⟩
            rw [z] at h6
            simp at h6
            omega
          · rw [Tr.names_mix, h9]; exact List.take_sublist _ _
          · rw [Tr.names_mix, h9]
            intro z
            rw [List.take_eq_nil_iff] at z
            rcases z with z | z
            · cases z
            · exact hne z
      · have hlev : 2 ≤ lev := by
          have z : ¬ lev < 2 := fun z => c2 (decide_eq_true z)
          omega
        obtain ⟨e, rfl⟩ : ∃ e, d = e + 1 := ⟨d - 1, by omega⟩
        refine ⟨Nat.zero_le _, fun fl nfl => ?_⟩
        have nfa : a ≠ fl := ne_of_none ha nfl
        have nfn : nl ≠ fl := ne_of_none hnl nfl
        refine ⟨_, rfl, nl, _, rfl, .inl (SqL.of (by rw [upd_ne nfn]; exact hnl)), fun rl nrl => ?_⟩
        have nra : a ≠ rl := ne_of_none (by rw [upd_ne nfa]; exact ha) nrl
        have nrf : fl ≠ rl := ne_of_none upd_same nrl
        have nrl0 : H rl = none := none_of_upd nrl
        refine ⟨_, _, rfl, ?_⟩
        refine ⟨fun t σ H' => ∃ (rest : List Str) (p : Addr) (v6 v7 : Option V) (o' : HO) (xs : List V) (ps : List (Int × Tr)), t = rest.length ∧ σ = [some (.ref a), some (.ref nl), some (.int lev), some (.int top), some (.ref fl), some (.ref p), v6, v7] ∧
          But a H H' ∧ H' a = some o' ∧ SrcO o' ∧ H p = none ∧ H' p = some (.lst (rest.map V.str)) ∧ p ≠ fl ∧ p ≠ a ∧ H' fl = some (.lst xs) ∧ PsAt K H' e xs ps ∧ ps.length ≤ 5 ∧ (ps.length = 5 → rest = []) ∧ (rest = [] → ps ≠ []) ∧ (∀ p ∈ ps, 1 ≤ p.1 ∧ p.1 ≤ 9 ∧ p.2.wf e ∧ p.2.names ≠ []) ∧
          ∃ used, ns = used ++ rest ∧ ((ps.map fun p => p.2.names).flatten).Sublist used, ⟨_, ns, rl, none, none, o, [], [], rfl, rfl, ?_, ?_, hO, nrl0, upd_same, nrf.symm, nra.symm, ?_, PsAt.nil, by simp, by simp, fun z => absurd z hne, by simp, [], rfl, List.Sublist.refl _⟩, ?_⟩
        · exact (But.refl.own nfl).own nrl0
        · rw [upd_ne nra, upd_ne nfa]; exact ha
        · rw [upd_ne nrf, upd_same]
        · rintro t σ H' ⟨rest, p, v6, v7, o', xs, ps, rfl, rfl, h1, h2, h3, h4, h5, hpf, hpa, h6, h7, h8, h9, h10, h11, used, h12, h13⟩
          have hmemR : ∀ x ∈ rest, x ∈ U := fun x hx => hN.mem x (h12 ▸ List.mem_append_right _ hx)
          have hlenR : rest.length ≤ 8 := by
            have := hN.len
            rw [h12, List.length_append] at this
            omega
          refine ⟨_, rfl, Nat.zero_le _, fun z nz => ?_⟩
          have nzp : p ≠ z := ne_of_none h5 nz
          have nzf : fl ≠ z := ne_of_none h6 nz
          have nza : a ≠ z := ne_of_none h2 nz
          refine ⟨_, _, .lst (SqL.of (by rw [upd_ne nzp]; exact h5)) (strs_dp rest), .lst (SqL.of upd_same) .nil, strs_shaped hmemR, nil_shaped, _, rfl, ?_⟩
          rw [eqv_nil]
          refine ite2 (fun c3 => ?_) (fun c3 => ?_)
          · have hrne : rest ≠ [] := by simpa using c3
            have hrpos : 0 < rest.length := List.length_pos_iff.mpr hrne
            refine ⟨fun σ' H'' => ∃ m', m' < rest.length ∧ _, fun σ' H'' h => h, ?_⟩
            refine ⟨_, rfl, fl, _, rfl, .inl (SqL.of (by rw [upd_ne nzf]; exact h6)), rfl, _, rfl, ?_⟩
            refine ite2 (fun c4 => ?_) (fun c4 => ?_)
            · refine ⟨_, rfl, p, _, rfl, .inl (SqL.of (by rw [upd_ne nzp]; exact h5)), ?_⟩
              rw [List.length_map]
              obtain ⟨sz, hsz⟩ : ∃ sz, sz = rest.length := ⟨_, rfl⟩
              rw [← hsz]
              have hsz1 : 1 ≤ sz := by omega
              have hsz2 : sz ≤ rest.length := by omega
              have hsz4 : ps.length = 4 → sz = rest.length := fun _ => hsz
              have hps : ps.length ≤ 4 := by
                rcases Nat.lt_or_ge ps.length 5 with h | h
                · omega
                · exact absurd (h9 (by omega)) hrne
              obtain ⟨H1, hH1⟩ : ∃ H1, H1 = upd H' z (.lst []) := ⟨_, rfl⟩
              rw [← hH1]
              obtain ⟨o1, ho1⟩ : ∃ o1, o1 = o' := ⟨_, rfl⟩
              have hb1 : But a H H1 := hH1 ▸ h1.new nz
              have ha1 : H1 a = some o1 := by rw [hH1, upd_ne nza, ho1]; exact h2
              have hs1 : SrcO o1 := ho1 ▸ h3
              have hp1 : H1 p = some (.lst (rest.map V.str)) := by rw [hH1, upd_ne nzp]; exact h5
              have hf1 : H1 fl = some (.lst xs) := by rw [hH1, upd_ne nzf]; exact h6
              have k1 : KeepT K H' H1 := hH1 ▸ KeepT.new nz
              refine ⟨_, rfl, .inl ⟨rfl, _, SqL.of hf1⟩, _, rfl, _, rfl, a, _, o1, rfl, ha1, hs1, by omega, by omega, fun d3 o3 h30 h31 hO3 => ?_⟩
              have hp3 : upd H1 a o3 p = some (.lst (rest.map V.str)) := by rw [upd_ne hpa]; exact hp1
              refine ⟨_, _, rfl, rfl, _, rfl, _, rfl, _, rfl, _, rfl, p, _, rfl, SqL.of hp3, fun sl nsl => ?_⟩
              rw [cut_to (by rw [List.length_map]; exact hsz2), ← List.map_take]
              have nsa : a ≠ sl := ne_of_none upd_same nsl
              have nsp : p ≠ sl := ne_of_none hp3 nsl
              have nsl1 : H1 sl = none := none_of_upd nsl
              refine ⟨_, rfl, _, _, rfl, rfl, _, rfl, ?_⟩
              have hNs : NamesOk (rest.take sz) := by
                have z : (rest.take sz).Sublist ns := (List.take_sublist _ _).trans (h12 ▸ List.sublist_append_right _ _)
                exact ⟨hN.nd.sublist z, fun x hx => hN.mem x (z.mem hx), Nat.le_trans z.length_le hN.len⟩
              refine ⟨a, sl, _, _, o3, rest.take sz, rfl, by rw [upd_ne nsa]; exact upd_same, hO3, upd_same, nsa.symm, hNs, ?_, by omega, by omega, fun z => by omega, ht1, ht9, fun v t o4 H4 b4 a4 s4 t4 w4 n4 m4 => ?_⟩
              · intro z
                rw [List.take_eq_nil_iff] at z
                rcases z with z | z
                · omega
                · exact hrne z
              have hf4 : H4 fl = some (.lst xs) := b4 _ _ (by rw [upd_ne (ne_of_none hf1 nsl1), upd_ne nfa.symm]; exact hf1) nfa.symm
              have hp4 : H4 p = some (.lst (rest.map V.str)) := b4 _ _ (by rw [upd_ne nsp]; exact hp3) hpa
              refine ⟨by show 2 ≤ sizeLine; decide, fun q nq => ?_⟩
              have nqf : fl ≠ q := ne_of_none hf4 nq
              have nqp : p ≠ q := ne_of_none hp4 nq
              have nqa : a ≠ q := ne_of_none a4 nq
              refine ⟨fl, xs, _, rfl, rfl, by rw [upd_ne nqf]; exact hf4, by rw [h7.1]; exact small1000 (by omega), ?_⟩
              refine ⟨_, rfl, _, rfl, _, rfl, p, _, rfl, SqL.of (by rw [upd_ne hpf, upd_ne nqp]; exact hp4), fun p2 np2 => ?_⟩
              rw [cut_from (by rw [List.length_map]; exact hsz2), ← List.map_drop]
              have np2' := none_of_upd (none_of_upd np2)
              have np2f : fl ≠ p2 := ne_of_none upd_same np2
              have np2a : a ≠ p2 := ne_of_none a4 np2'
              have np2q : q ≠ p2 := ne_of_none (by rw [upd_ne nqf.symm]; exact upd_same) np2
              have bAll : But a H H4 := ((hb1.upd).new nsl).trans b4
              have hq5 : upd H4 q (.tup [.int (1 + d3), v]) fl = some (.lst xs) := by rw [upd_ne nqf]; exact hf4
              have k4 : KeepT K H' H4 := ((k1.trans (KeepT.src ha1 hs1)).trans (KeepT.new nsl)).trans (KeepT.but (by rw [upd_ne nsa]; exact upd_same) hO3 b4)
              have k5 : KeepT K H4 (upd (upd (upd H4 q (.tup [.int (1 + d3), v])) fl (.lst (xs ++ [.ref q]))) p2 (.lst ((rest.drop sz).map V.str))) := ((KeepT.new nq).trans (KeepT.lst hq5)).trans (KeepT.new np2)
              refine ⟨(rest.drop sz).length, ?_, rest.drop sz, p2, _, v7, o4, xs ++ [.ref q], ps ++ [(1 + d3, t)], rfl, rfl, ?_, ?_, s4, ?_, upd_same, np2f.symm, np2a.symm, ?_, ?_, ?_, ?_, ?_, ?_, used ++ rest.take sz, ?_, ?_⟩
              · rw [List.length_drop]; omega
              · exact ((bAll.new nq).own nfl).own (bAll.free np2' np2a.symm)
              · rw [upd_ne np2a, upd_ne nfa, upd_ne nqa]; exact a4
              · exact bAll.free np2' np2a.symm
              · rw [upd_ne np2f, upd_same]
              · exact ((h7.keep k4).keep k5).snoc (p := (1 + d3, t)) (SqT.of (by rw [upd_ne np2q, upd_ne nqf.symm]; exact upd_same)) (TrAt.keep k5 _ t4)
              · rw [List.length_append, List.length_singleton]; omega
              · intro z
                rw [List.length_append, List.length_singleton] at z
                rw [hsz4 (by omega), List.drop_length]
              · intro _ z
                exact absurd (congrArg List.length z) (by simp)
              · intro p0 hp0
                rcases List.mem_append.mp hp0 with h | h
                · exact h11 p0 h
                · rw [List.mem_singleton] at h
                  subst h
                  exact ⟨by show 1 ≤ 1 + d3; omega, by show 1 + d3 ≤ 9; omega, w4, m4⟩
              · rw [h12, List.append_assoc, List.take_append_drop]
              · rw [List.map_append, List.flatten_append, List.map_singleton, List.flatten_singleton]
                exact h13.append n4
            · refine ⟨_, rfl, _, rfl, p, _, rfl, .inl (SqL.of (by rw [upd_ne nzp]; exact h5)), a, _, o', rfl, by rw [upd_ne nza]; exact h2, h3, by rw [List.length_map]; omega, by rw [List.length_map]; omega, fun d2 o1 h20 h21 hO2 => ?_⟩
              rw [List.length_map] at h21
              refine ⟨_, _, rfl, rfl, ?_⟩
              obtain ⟨dn, rfl⟩ := Int.eq_ofNat_of_zero_le h20
              obtain ⟨sz, hsz⟩ : ∃ sz, sz = 1 + dn := ⟨_, rfl⟩
              rw [show ((fun i j : Int => V.int (i + j)) 1 (dn : Int)) = V.int (sz : Int) from congrArg V.int (by omega)]
              have hsz1 : 1 ≤ sz := by omega
              have hsz2 : sz ≤ rest.length := by omega
              have h4n : ps.length ≠ 4 := fun z4 => c4 (by rw [h7.1, z4]; rfl)
              have hsz4 : ps.length = 4 → sz = rest.length := fun z4 => absurd z4 h4n
              have hps : ps.length ≤ 4 := by
                rcases Nat.lt_or_ge ps.length 5 with h | h
                · omega
                · exact absurd (h9 (by omega)) hrne
              obtain ⟨H1, hH1⟩ : ∃ H1, H1 = upd (upd H' z (.lst [])) a o1 := ⟨_, rfl⟩
              rw [← hH1]
              have hb1 : But a H H1 := hH1 ▸ (h1.new nz).upd
              have ha1 : H1 a = some o1 := by rw [hH1, upd_same]
              have hs1 : SrcO o1 := hO2
              have hp1 : H1 p = some (.lst (rest.map V.str)) := by rw [hH1, upd_ne hpa, upd_ne nzp]; exact h5
              have hf1 : H1 fl = some (.lst xs) := by rw [hH1, upd_ne nfa.symm, upd_ne nzf]; exact h6
              have k1 : KeepT K H' H1 := hH1 ▸ (KeepT.new nz).trans (KeepT.src (by rw [upd_ne nza]; exact h2) h3)
              refine ⟨_, rfl, .inl ⟨rfl, _, SqL.of hf1⟩, _, rfl, _, rfl, a, _, o1, rfl, ha1, hs1, by omega, by omega, fun d3 o3 h30 h31 hO3 => ?_⟩
              have hp3 : upd H1 a o3 p = some (.lst (rest.map V.str)) := by rw [upd_ne hpa]; exact hp1
              refine ⟨_, _, rfl, rfl, _, rfl, _, rfl, _, rfl, _, rfl, p, _, rfl, SqL.of hp3, fun sl nsl => ?_⟩
              rw [cut_to (by rw [List.length_map]; exact hsz2), ← List.map_take]
              have nsa : a ≠ sl := ne_of_none upd_same nsl
              have nsp : p ≠ sl := ne_of_none hp3 nsl
              have nsl1 : H1 sl = none := none_of_upd nsl
              refine ⟨_, rfl, _, _, rfl, rfl, _, rfl, ?_⟩
              have hNs : NamesOk (rest.take sz) := by
                have z : (rest.take sz).Sublist ns := (List.take_sublist _ _).trans (h12 ▸ List.sublist_append_right _ _)
                exact ⟨hN.nd.sublist z, fun x hx => hN.mem x (z.mem hx), Nat.le_trans z.length_le hN.len⟩
              refine ⟨a, sl, _, _, o3, rest.take sz, rfl, by rw [upd_ne nsa]; exact upd_same, hO3, upd_same, nsa.symm, hNs, ?_, by omega, by omega, fun z => by omega, ht1, ht9, fun v t o4 H4 b4 a4 s4 t4 w4 n4 m4 => ?_⟩
              · intro z
                rw [List.take_eq_nil_iff] at z
                rcases z with z | z
                · omega
                · exact hrne z
              have hf4 : H4 fl = some (.lst xs) := b4 _ _ (by rw [upd_ne (ne_of_none hf1 nsl1), upd_ne nfa.symm]; exact hf1) nfa.symm
              have hp4 : H4 p = some (.lst (rest.map V.str)) := b4 _ _ (by rw [upd_ne nsp]; exact hp3) hpa
              refine ⟨by show 2 ≤ sizeLine; decide, fun q nq => ?_⟩
              have nqf : fl ≠ q := ne_of_none hf4 nq
              have nqp : p ≠ q := ne_of_none hp4 nq
              have nqa : a ≠ q := ne_of_none a4 nq
              refine ⟨fl, xs, _, rfl, rfl, by rw [upd_ne nqf]; exact hf4, by rw [h7.1]; exact small1000 (by omega), ?_⟩
              refine ⟨_, rfl, _, rfl, _, rfl, p, _, rfl, SqL.of (by rw [upd_ne hpf, upd_ne nqp]; exact hp4), fun p2 np2 => ?_⟩
              rw [cut_from (by rw [List.length_map]; exact hsz2), ← List.map_drop]
              have np2' := none_of_upd (none_of_upd np2)
              have np2f : fl ≠ p2 := ne_of_none upd_same np2
              have np2a : a ≠ p2 := ne_of_none a4 np2'
              have np2q : q ≠ p2 := ne_of_none (by rw [upd_ne nqf.symm]; exact upd_same) np2
              have bAll : But a H H4 := ((hb1.upd).new nsl).trans b4
              have hq5 : upd H4 q (.tup [.int (1 + d3), v]) fl = some (.lst xs) := by rw [upd_ne nqf]; exact hf4
              have k4 : KeepT K H' H4 := ((k1.trans (KeepT.src ha1 hs1)).trans (KeepT.new nsl)).trans (KeepT.but (by rw [upd_ne nsa]; exact upd_same) hO3 b4)
              have k5 : KeepT K H4 (upd (upd (upd H4 q (.tup [.int (1 + d3), v])) fl (.lst (xs ++ [.ref q]))) p2 (.lst ((rest.drop sz).map V.str))) := ((KeepT.new nq).trans (KeepT.lst hq5)).trans (KeepT.new np2)
              refine ⟨(rest.drop sz).length, ?_, rest.drop sz, p2, _, v7, o4, xs ++ [.ref q], ps ++ [(1 + d3, t)], rfl, rfl, ?_, ?_, s4, ?_, upd_same, np2f.symm, np2a.symm, ?_, ?_, ?_, ?_, ?_, ?_, used ++ rest.take sz, ?_, ?_⟩
              · rw [List.length_drop]; omega
              · exact ((bAll.new nq).own nfl).own (bAll.free np2' np2a.symm)
              · rw [upd_ne np2a, upd_ne nfa, upd_ne nqa]; exact a4
              · exact bAll.free np2' np2a.symm
              · rw [upd_ne np2f, upd_same]
              · exact ((h7.keep k4).keep k5).snoc (p := (1 + d3, t)) (SqT.of (by rw [upd_ne np2q, upd_ne nqf.symm]; exact upd_same)) (TrAt.keep k5 _ t4)
              · rw [List.length_append, List.length_singleton]; omega
              · intro z
                rw [List.length_append, List.length_singleton] at z
                rw [hsz4 (by omega), List.drop_length]
              · intro _ z
                exact absurd (congrArg List.length z) (by simp)
              · intro p0 hp0
                rcases List.mem_append.mp hp0 with h | h
                · exact h11 p0 h
                · rw [List.mem_singleton] at h
                  subst h
                  exact ⟨by show 1 ≤ 1 + d3; omega, by show 1 + d3 ≤ 9; omega, w4, m4⟩
              · rw [h12, List.append_assoc, List.take_append_drop]
              · rw [List.map_append, List.flatten_append, List.map_singleton, List.flatten_singleton]
                exact h13.append n4
          · have hrne : rest = [] := by simpa using c3
            refine ⟨_, rfl, fl, _, rfl, .inl ⟨SqL.of (by rw [upd_ne nzf]; exact h6), fun r nr => ?_⟩⟩
            have nr' : H' r = none := none_of_upd nr
            have nra' : a ≠ r := ne_of_none h2 nr'
            refine k _ (.mix ps) o' _ ((h1.new nz).new nr) (by rw [upd_ne nra', upd_ne nza]; exact h2) h3 ?_ ?_ ?_ ?_
            · exact TrAt_mix.mpr ⟨r, _, rfl, SqT.of upd_same, (h7.keep (KeepT.new nz)).keep (KeepT.new nr)⟩
            · unfold Tr.wf
              exact ⟨h10 hrne, h8, fun p0 hp0 => ⟨(h11 p0 hp0).1, (h11 p0 hp0).2.1, (h11 p0 hp0).2.2.1⟩⟩
            · rw [Tr.names_mix, h12]
              exact h13.trans (List.sublist_append_left _ _)
            · rw [Tr.names_mix]
              intro z0
              match ps, h10 hrne, h11, z0 with
              | p0 :: r0, _, h11, z0 =>
                rw [List.map_cons, List.flatten_cons] at z0
                exact (h11 p0 List.mem_cons_self).2.2.2 (List.append_eq_nil_iff.mp z0).1
theorem ok_part {f fP : Addr} {fd fdP : FuncData} (F : Def K mg "_law_part" sPart ["source", "names", "levels", "top"] f fd) (B : Blt mg) (D : Def K mg "_law_pick" sPick ["source", "size"] fP fdP)
    (GP : FnOk P w K mg base CX0 1 fP fdP ["source", "size"] spPick) : ∀ d : Nat, FnOk P w K mg base CX0 (d + 2) f fd ["source", "names", "levels", "top"] (spPart K d)
  | 0 => part_step F B D GP (F.fn.ok (k := 0) scPart (fun _ _ _ _ h => h.elim) (fun _ _ _ _ _ _ _ _ _ h => h.elim))
  | d + 1 => part_step F B D GP (ok_part F B D GP d)
end
end Mx

set_option Elab.async false
set_option maxRecDepth 100000
namespace Mx
open PySem L2
section
variable {P : Program} {w : World} {K : PySem.W.Frag} {mg : Str → Option Value} {base : Heap}
theorem scPick : FnScope ["source", "size", "drawn"] ["source", "size"] (defScope sPick) := ⟨rfl, rfl, rfl, by decide +kernel, rfl, by decide +kernel, by decide +kernel⟩
theorem at0 {x y z : V} : atI [x, y, z] 0 = some x := rfl
theorem at1 {x y z : V} : atI [x, y, z] 1 = some y := rfl
theorem at2 {x y z : V} : atI [x, y, z] 2 = some z := rfl
theorem ok_pick {f : Addr} {fd : FuncData} (F : Fun K "_law_pick" "_law_pick" sPick f fd) : FnOk P w K mg base CX0 1 f fd ["source", "size"] spPick := by
  refine F.ok scPick (fun vs H Q E h => ?_) (fun cdv A outer s H vs Q E hr h => ?_)
  · obtain ⟨a, n, o, rfl, _⟩ := h
    rfl
  · obtain ⟨a, n, o, rfl, ha, ⟨x, y, p, rfl, hx, hy, hy2, hp, hp2⟩, hn, hn2, k⟩ := h
    refine ⟨_, pss_cons (ps_if (pt_cmpR op_gt (pe_ix ix_list (pv 0) pe_int (fun _ _ => rfl)) pe_int (nomark _))
        (pss_cons (ps_set (i := 2) scPick.nd rfl (Or.inl rfl) (pe_op op_mod (pe_ix ix_list (pv 0) pe_int (fun _ _ => rfl)) (pv 1)))
        (pss_cons (ps_asg (pe_op op_fdivW (pe_ix ix_list (pv 0) pe_int (fun _ _ => rfl)) (pv 1)) (pg_sub (pv 0) pe_int set_list))
        (pss_one (ps_ret (pv 2))))) pss_nil)
      (pss_cons (ps_asg (pe_op op_add (pe_op op_mod (pe_op op_mul (pe_ix ix_list (pv 0) pe_int (fun _ _ => rfl)) pe_int) (pe_ix ix_list (pv 0) pe_int (fun _ _ => rfl))) pe_int) (pg_sub (pv 0) pe_int set_list))
      (pss_one (ps_ret (pe_op op_mod (pe_op op_fdiv (pe_op op_mod (pe_op op_mul (pe_ix ix_list (pv 0) pe_int (fun _ _ => rfl)) (pe_ix ix_list (pv 0) pe_int (fun _ _ => rfl))) pe_int) pe_int) (pv 1))))), ?_⟩
    have hq := SqL.of (K := K) ha
    refine ⟨_, rfl, a, _, _, _, rfl, rfl, hq, at0, _, _, rfl, rfl, _, rfl, ?_⟩
    refine ite2 (fun c => ?_) (fun c => ?_)
    · refine ⟨_, rfl, a, _, _, _, rfl, rfl, hq, at0, _, rfl, _, _, rfl, rfl, hn, ?_⟩
      refine ⟨_, rfl, a, _, _, _, rfl, rfl, hq, at0, _, rfl, _, _, rfl, rfl, ⟨hn, ?_⟩, _, rfl, a, _, _, 0, rfl, rfl, ha, rfl, ?_⟩
      · exact Nat.lt_of_lt_of_le (PySem.Flt.log2_lt_of (k := 62) (by decide) (by omega)) (by decide)
      · refine ⟨_, rfl, k _ _ (Int.emod_nonneg _ (by omega)) (Int.emod_lt_of_pos _ hn) ?_⟩
        exact ⟨_, y, p, rfl, Int.ediv_nonneg hx (by omega), hy, hy2, hp, hp2⟩
    · have e1 : (0 : Int) ≤ y * 48271 % p := Int.emod_nonneg _ (by omega)
      have e2 : y * 48271 % p < p := Int.emod_lt_of_pos _ hp
      refine ⟨_, rfl, a, _, _, _, rfl, rfl, hq, at1, _, _, rfl, rfl, .inl ⟨by omega, by omega⟩, _, rfl, a, _, _, _, rfl, rfl, hq, at2, _, _, rfl, rfl, hp, _, _, rfl, rfl, _, rfl, a, _, _, 1, rfl, rfl, ha, rfl, ?_⟩
      have hq2 := SqL.of (K := K) (upd_same (H := H) (a := a) (o := .lst [.int x, .int (y * 48271 % p + 1), .int p]))
      refine ⟨_, rfl, a, _, _, _, rfl, rfl, hq2, at1, _, rfl, a, _, _, _, rfl, rfl, hq2, at1, _, _, rfl, rfl, .inl ⟨by omega, by omega⟩, _, _, rfl, rfl, (by show (0 : Int) < 2147483423; decide), _, _, rfl, rfl, ⟨by decide, by decide⟩, _, rfl, _, _, rfl, rfl, hn, ?_⟩
      exact k _ _ (Int.emod_nonneg _ (by omega)) (Int.emod_lt_of_pos _ hn) ⟨x, _, p, rfl, hx, by omega, by omega, hp, hp2⟩
theorem scLSource : FnScope ["script", "k", "cell", "primes", "seed"] ["script", "k"] (defScope sLSource) := ⟨rfl, rfl, rfl, by decide +kernel, rfl, by decide +kernel, by decide +kernel⟩
theorem primes_at (k : Int) : ∃ p : Int, atI [V.int 2147483647, V.int 2147483629, V.int 2147483587, V.int 2147483579, V.int 2147483563, V.int 2147483549, V.int 2147483543, V.int 2147483497] (k % 8) = some (.int p) ∧ 0 < p ∧ p ≤ 2147483647 := by
  have h1 : 0 ≤ k % 8 := Int.emod_nonneg _ (by decide)
  have h2 : k % 8 < 8 := Int.emod_lt_of_pos _ (by decide)
  generalize k % 8 = j at h1 h2
  obtain ⟨n, rfl⟩ := Int.eq_ofNat_of_zero_le h1
  have h3 : n < 8 := by omega
  match n, h3 with
  | 0, _ => exact ⟨_, rfl, by decide, by decide⟩
  | 1, _ => exact ⟨_, rfl, by decide, by decide⟩
  | 2, _ => exact ⟨_, rfl, by decide, by decide⟩
  | 3, _ => exact ⟨_, rfl, by decide, by decide⟩
  | 4, _ => exact ⟨_, rfl, by decide, by decide⟩
  | 5, _ => exact ⟨_, rfl, by decide, by decide⟩
  | 6, _ => exact ⟨_, rfl, by decide, by decide⟩
  | 7, _ => exact ⟨_, rfl, by decide, by decide⟩
theorem ok_lsource {f : Addr} {fd : FuncData} (F : Fun K "_law_source" "_law_source" sLSource f fd) (B : Blt mg) : FnOk P w K mg base CX0 1 f fd ["script", "k"] (spLSource K) := by
  refine F.ok scLSource (fun vs H Q E h => ?_) (fun cdv A outer s H vs Q E hr h => ?_)
  · obtain ⟨a, ns, j, rfl, _⟩ := h
    rfl
  · obtain ⟨a, ns, j, rfl, hs, hj, hj2, k⟩ := h
    refine ⟨_, pss_cons (ps_set (i := 2) scLSource.nd rfl (Or.inl rfl) pe_int)
      (pss_cons (ps_if (pt_cmpR op_lt (pv 1) (pe_callB call_len_seq (by rfl) B.len PySem.boot_len (pa_cons (pv 0) pa_nil)) (nomark _))
        (pss_one (ps_set (i := 2) scLSource.nd rfl (Or.inl rfl) (pe_ix ix_list (pv 0) (pv 1) (fun _ _ => rfl)))) pss_nil)
      (pss_cons (ps_set (i := 3) scLSource.nd rfl (Or.inl rfl) (pe_lst (pa_cons pe_int (pa_cons pe_int (pa_cons pe_int (pa_cons pe_int (pa_cons pe_int (pa_cons pe_int (pa_cons pe_int (pa_cons pe_int pa_nil))))))))))
      (pss_cons (ps_set (i := 4) scLSource.nd rfl (Or.inl rfl) (pe_op op_mod (pe_op op_mul (pe_op op_add (pe_op op_mod (pv 2) pe_int) pe_int) (pe_op op_add pe_int (pe_op op_mul pe_int (pv 1)))) pe_int))
      (pss_cons (ps_set (i := 4) scLSource.nd rfl (Or.inl rfl) (pe_op op_add (pe_op op_add (pe_op op_mod (pe_op op_mul (pv 4) (pv 4)) pe_int) (pv 1)) pe_int))
      (pss_cons (ps_if (pt_cmpR op_ge (pv 2) (pe_op op_pow pe_int pe_int) (nomark _))
        (pss_one (ps_ret (pe_lst (pa_cons (pv 2) (pa_cons (pv 4) (pa_cons (pe_ix ix_list (pv 3) (pe_op op_mod (pv 1) pe_int) (fun _ _ => rfl)) pa_nil)))))) pss_nil)
      (pss_one (ps_ret (pe_lst (pa_cons pe_int (pa_cons (pv 4) (pa_cons (pe_ix ix_list (pv 3) (pe_op op_mod (pv 1) pe_int) (fun _ _ => rfl)) pa_nil))))))))))), ?_⟩
    refine ⟨_, rfl, _, rfl, a, _, rfl, .inl hs, _, _, rfl, rfl, _, rfl, ?_⟩
    obtain ⟨m, rfl⟩ := Int.eq_ofNat_of_zero_le hj
    obtain ⟨q, hq, hq1, hq2⟩ := primes_at (m : Int)
    have h1 : ∀ c : Int, 0 ≤ (c % 2147483489 + 1) * (48271 + 2 * (m : Int)) % 2147483489 ∧ (c % 2147483489 + 1) * (48271 + 2 * (m : Int)) % 2147483489 < 2147483489 := fun c => ⟨Int.emod_nonneg _ (by decide), Int.emod_lt_of_pos _ (by decide)⟩
    have h2 : ∀ c : Int, 0 ≤ c * c % 2147483477 ∧ c * c % 2147483477 < 2147483477 := fun c => ⟨Int.emod_nonneg _ (by decide), Int.emod_lt_of_pos _ (by decide)⟩
    have h3 : ∀ c : Int, 0 ≤ c % 2147483489 ∧ c % 2147483489 < 2147483489 := fun c => ⟨Int.emod_nonneg _ (by decide), Int.emod_lt_of_pos _ (by decide)⟩
    refine ite2 (fun c => ?_) (fun c => ?_)
    · have hm : m < ns.length := by
        have q := of_decide_eq_true c
        rw [List.length_map] at q
        omega
      refine ⟨_, rfl, _, rfl, a, _, _, V.int ns[m], rfl, rfl, hs, atI_nat (by rw [List.getElem?_map, List.getElem?_eq_getElem hm]; rfl), ?_⟩
      refine ⟨by show 8 ≤ sizeLine; decide, fun pl npl => ?_⟩
      have hp := SqL.of (K := K) (upd_same (H := H) (a := pl) (o := .lst [V.int 2147483647, V.int 2147483629, V.int 2147483587, V.int 2147483579, V.int 2147483563, V.int 2147483549, V.int 2147483543, V.int 2147483497]))
      have z1 := h1 ns[m]
      have z2 := h2 ((ns[m] % 2147483489 + 1) * (48271 + 2 * (m : Int)) % 2147483489)
      have z3 := h3 ns[m]
      refine ⟨_, rfl, _, _, rfl, rfl, (by show (0 : Int) < 2147483489; decide), _, _, rfl, rfl, _, rfl, _, _, rfl, rfl, .inl ⟨by decide, by decide⟩, _, _, rfl, rfl, _, _, rfl, rfl, .inl ⟨by omega, by omega⟩, _, _, rfl, rfl, (by show (0 : Int) < 2147483489; decide), ?_⟩
      refine ⟨_, rfl, _, rfl, _, _, rfl, rfl, .inl ⟨by omega, by omega⟩, _, _, rfl, rfl, (by show (0 : Int) < 2147483477; decide), _, rfl, _, _, rfl, rfl, _, _, rfl, rfl, ?_⟩
      refine ⟨_, rfl, _, _, rfl, rfl, ⟨by decide, by decide, by decide⟩, _, _, rfl, rfl, _, rfl, ?_⟩
      refine ite2 (fun c2 => ?_) (fun c2 => ?_)
      · refine ⟨_, rfl, _, rfl, _, rfl, _, rfl, _, _, rfl, rfl, (by show (0 : Int) < 8; decide), pl, _, _, _, rfl, rfl, hp, hq, (by show 3 ≤ sizeLine; decide), fun r nr => ?_⟩
        refine k r _ (by rw [upd_ne (Ne.symm (ne_of_none upd_same nr))] at nr; exact nr) ⟨ns[m], _, q, rfl, ?_, ?_, ?_, hq1, hq2⟩ _ (fun b o e => ?_) upd_same
        · have q := of_decide_eq_true c2
          have : (0:Int) ≤ 10 ^ (18:Int).toNat := by decide
          omega
        · omega
        · omega
        · rw [upd_ne (ne_of_none (by rw [upd_ne (ne_of_none e npl)]; exact e) nr), upd_ne (ne_of_none e npl)]; exact e
      · refine ⟨_, rfl, _, rfl, _, rfl, _, _, rfl, rfl, (by show (0 : Int) < 8; decide), pl, _, _, _, rfl, rfl, hp, hq, (by show 3 ≤ sizeLine; decide), fun r nr => ?_⟩
        refine k r _ (by rw [upd_ne (Ne.symm (ne_of_none upd_same nr))] at nr; exact nr) ⟨0, _, q, rfl, by omega, ?_, ?_, hq1, hq2⟩ _ (fun b o e => ?_) upd_same
        · omega
        · omega
        · rw [upd_ne (ne_of_none (by rw [upd_ne (ne_of_none e npl)]; exact e) nr), upd_ne (ne_of_none e npl)]; exact e
    · refine ⟨by show 8 ≤ sizeLine; decide, fun pl npl => ?_⟩
      have hp := SqL.of (K := K) (upd_same (H := H) (a := pl) (o := .lst [V.int 2147483647, V.int 2147483629, V.int 2147483587, V.int 2147483579, V.int 2147483563, V.int 2147483549, V.int 2147483543, V.int 2147483497]))
      have z1 := h1 (0:Int)
      have z2 := h2 (((0:Int) % 2147483489 + 1) * (48271 + 2 * (m : Int)) % 2147483489)
      have z3 := h3 (0:Int)
      refine ⟨_, rfl, _, _, rfl, rfl, (by show (0 : Int) < 2147483489; decide), _, _, rfl, rfl, _, rfl, _, _, rfl, rfl, .inl ⟨by decide, by decide⟩, _, _, rfl, rfl, _, _, rfl, rfl, .inl ⟨by omega, by omega⟩, _, _, rfl, rfl, (by show (0 : Int) < 2147483489; decide), ?_⟩
      refine ⟨_, rfl, _, rfl, _, _, rfl, rfl, .inl ⟨by omega, by omega⟩, _, _, rfl, rfl, (by show (0 : Int) < 2147483477; decide), _, rfl, _, _, rfl, rfl, _, _, rfl, rfl, ?_⟩
      refine ⟨_, rfl, _, _, rfl, rfl, ⟨by decide, by decide, by decide⟩, _, _, rfl, rfl, _, rfl, ?_⟩
      refine ite2 (fun c2 => ?_) (fun c2 => ?_)
      · refine ⟨_, rfl, _, rfl, _, rfl, _, rfl, _, _, rfl, rfl, (by show (0 : Int) < 8; decide), pl, _, _, _, rfl, rfl, hp, hq, (by show 3 ≤ sizeLine; decide), fun r nr => ?_⟩
        refine k r _ (by rw [upd_ne (Ne.symm (ne_of_none upd_same nr))] at nr; exact nr) ⟨(0:Int), _, q, rfl, ?_, ?_, ?_, hq1, hq2⟩ _ (fun b o e => ?_) upd_same
        · have q := of_decide_eq_true c2
          have : (0:Int) ≤ 10 ^ (18:Int).toNat := by decide
          omega
        · omega
        · omega
        · rw [upd_ne (ne_of_none (by rw [upd_ne (ne_of_none e npl)]; exact e) nr), upd_ne (ne_of_none e npl)]; exact e
      · refine ⟨_, rfl, _, rfl, _, rfl, _, _, rfl, rfl, (by show (0 : Int) < 8; decide), pl, _, _, _, rfl, rfl, hp, hq, (by show 3 ≤ sizeLine; decide), fun r nr => ?_⟩
        refine k r _ (by rw [upd_ne (Ne.symm (ne_of_none upd_same nr))] at nr; exact nr) ⟨0, _, q, rfl, by omega, ?_, ?_, hq1, hq2⟩ _ (fun b o e => ?_) upd_same
        · omega
        · omega
        · rw [upd_ne (ne_of_none (by rw [upd_ne (ne_of_none e npl)]; exact e) nr), upd_ne (ne_of_none e npl)]; exact e
end
end Mx

set_option Elab.async false
set_option maxRecDepth 100000
namespace Mx
open PySem L2
section
variable {P : Program} {w : World} {K : PySem.W.Frag} {mg : Str → Option Value} {base : Heap}
theorem scTree : FnScope ["source", "most", "top"] ["source", "most", "top"] (defScope sTree) := ⟨rfl, rfl, rfl, by decide +kernel, rfl, by decide +kernel, by decide +kernel⟩
theorem ok_tree {f fP fN fA : Addr} {fd fdP fdN fdA : FuncData} (F : Fun K "_law_tree" "_law_tree" sTree f fd) (D : Def K mg "_law_pick" sPick ["source", "size"] fP fdP)
    (GP : FnOk P w K mg base CX0 1 fP fdP ["source", "size"] spPick) (DN : Def K mg "_law_mixed_names" sMixNames ["source", "most"] fN fdN) (GN : FnOk P w K mg base CX0 2 fN fdN ["source", "most"] spMixNames)
    (DA : Def K mg "_law_part" sPart ["source", "names", "levels", "top"] fA fdA) (GA : FnOk P w K mg base CX0 6 fA fdA ["source", "names", "levels", "top"] (spPart K 4)) :
    FnOk P w K mg base CX0 7 f fd ["source", "most", "top"] (spTree K) := by
  refine F.ok scTree (fun vs H Q E h => ?_) (fun cdv A outer s H vs Q E hr h => ?_)
  · obtain ⟨a, n, t, o, rfl, _⟩ := h
    rfl
  · obtain ⟨a, m, top, o, rfl, ha, hO, hm1, hm8, ht1, ht9, k⟩ := h
    refine ⟨_, pss_one (ps_ret (pe_call GA hr rfl DA.mg DA.fn.kp DA.b .nil pass0 (pa_cons (pv 0) (pa_cons (pe_call GN (hr.mono (by decide)) rfl DN.mg DN.fn.kp DN.b .nil pass0 (pa_cons (pv 0) (pa_cons (pv 1) pa_nil)))
      (pa_cons (pe_op op_add pe_int (pe_call GP (hr.mono (by decide)) rfl D.mg D.fn.kp D.b .nil pass0 (pa_cons (pv 0) (pa_cons pe_int pa_nil)))) (pa_cons (pv 2) pa_nil)))))), ?_⟩
    refine ⟨_, rfl, _, rfl, _, rfl, a, m, o, rfl, ha, hO, hm1, hm8, fun p o1 ns H1 b1 a1 s1 np hp hN hne hlm => ?_⟩
    have npa : p ≠ a := ne_of_none ha np |>.symm
    refine ⟨_, rfl, a, _, o1, rfl, a1, s1, (by decide), (by decide), fun d o2 h0 h1 hO2 => ?_⟩
    refine ⟨_, _, rfl, rfl, _, rfl, a, p, _, _, o2, ns, rfl, upd_same, hO2, by rw [upd_ne npa]; exact hp, npa, hN, hne, by omega, ?_, fun z => by omega, ht1, ht9, fun v t o3 H3 b3 a3 s3 t3 w3 n3 m3 => ?_⟩
    · show 1 + d ≤ 4
      omega
    · refine k v t o3 H3 ((b1.upd).trans b3) a3 s3 t3 ⟨w3, hN.nd.sublist n3, fun x hx => hN.mem x (n3.mem hx), Nat.le_trans n3.length_le hN.len, m3⟩ ?_
      have := n3.length_le
      omega
theorem scLNames : FnScope ["tree", "found", "weight", "part"] ["tree"] (defScope sLNames) := ⟨rfl, rfl, rfl, by decide +kernel, rfl, by decide +kernel, by decide +kernel⟩
theorem lnames_step {d : Nat} {f : Addr} {fd : FuncData} (F : Def K mg "_law_names" sLNames ["tree"] f fd) (B : Blt mg) (GR : FnOk P w K mg base CX0 (d + 1) f fd ["tree"] (pre (spNames K) d)) :
    FnOk P w K mg base CX0 (d + 2) f fd ["tree"] (spNames K d) := by
  refine F.fn.ok scLNames (fun vs H Q E h => ?_) (fun cdv A outer s H vs Q E hr h => ?_)
  · obtain ⟨v, t, rfl, _⟩ := h
    rfl
  · obtain ⟨v, t, rfl, hT, hW, hL, k⟩ := h
    refine ⟨_, pss_cons (ps_if (pt_val (pe_callB call_isi (by rfl) B.isinstance (by decide +kernel) (pa_cons (pv 0) (pa_cons (pe_bltn (v := .ty "str") (by rfl) B.str (by decide +kernel) rfl) pa_nil))))
        (pss_one (ps_ret (pe_lst (pa_cons (pv 0) pa_nil)))) pss_nil)
      (pss_cons (ps_set (i := 1) scLNames.nd rfl (Or.inl rfl) (pe_lst pa_nil))
      (pss_cons (ps_for PassesOwn.never rfl (pi_tup (pv 0)) (pg_tup rfl (pgs_cons (pg_name (i := 2) scLNames.nd rfl (Or.inl rfl)) (pgs_cons (pg_name (i := 3) scLNames.nd rfl (Or.inl rfl)) pgs_nil)))
        (pss_one (ps_set (i := 1) scLNames.nd rfl (Or.inl rfl) (pe_op op_cat (pv 1) (pe_call GR hr rfl F.mg F.fn.kp F.b .nil pass0 (pa_cons (pv 3) pa_nil))))))
      (pss_one (ps_ret (pv 1))))), ?_⟩
    cases t with
    | feed n =>
      have hv := TrAt_feed.mp hT
      subst hv
      refine ⟨_, rfl, _, _, _, _, true, rfl, .ty _, .base (.str n), kit_ty (by decide +kernel), _, rfl, ?_⟩
      refine ⟨_, rfl, by show 1 ≤ sizeLine; decide, fun p np => ?_⟩
      refine k p _ (Same.new (Same.refl _) np) np ?_
      rw [upd_same, Tr.names_feed]
      rfl
    | mix ps =>
      cases d with
      | zero => exact (TrAt_zero hT).elim
      | succ e =>
        obtain ⟨a, xs, rfl, hs, hP⟩ := TrAt_mix.mp hT
        have hw : ps ≠ [] ∧ ps.length ≤ 5 ∧ ∀ p ∈ ps, 1 ≤ p.1 ∧ p.1 ≤ 9 ∧ p.2.wf e := by unfold Tr.wf at hW; exact hW
        rw [Tr.names_mix] at hL
        refine ⟨_, rfl, _, _, _, _, false, rfl, .ty _, tyx_tup hs, kit_ty (by decide +kernel), _, rfl, ?_⟩
        refine ⟨Nat.zero_le _, fun p0 np0 => ?_⟩
        refine ⟨_, rfl, a, rfl, ⟨_, sqT_same (Same.new (Same.refl _) np0) _ _ hs⟩, for_tup (K := K) (a := a) (xs := xs) (fun i σ H' => ∃ (p : Addr) (v2 v3 : Option V), σ = [some (.ref a), some (.ref p), v2, v3] ∧ Same H H' ∧ H p = none ∧
          H' p = some (.lst ((((ps.take i).map fun p => p.2.names).flatten).map V.str))) ?_ ?_ ?_ ?_⟩
        · exact ⟨p0, none, none, rfl, Same.new (Same.refl _) np0, np0, upd_same⟩
        · rintro i σ H' _ ⟨p, v2, v3, _, hS, _⟩
          exact sqT_same hS _ _ hs
        · rintro i x σ H' hx ⟨p, v2, v3, rfl, hS, np, hp⟩
          have hi : i < ps.length := by rw [← hP.1]; exact (List.getElem?_eq_some_iff.mp hx).1
          have hpi : ps[i]? = some ps[i] := List.getElem?_eq_getElem hi
          obtain ⟨b, y, rfl, hb, hy⟩ := hP.2 i x _ hx hpi
          have hle := flat_len (ps := ps) (i := i + 1)
          rw [flat_succ hpi, List.length_append] at hle
          refine ⟨b, _, rfl, sqT_same hS _ _ hb, rfl, _, _, rfl, _, _, rfl, rfl, ?_⟩
          refine ⟨_, rfl, _, rfl, y, ps[i].2, rfl, TrAt.keep (sqT_same hS) _ hy, (hw.2.2 _ (List.getElem_mem hi)).2.2, by omega, fun q H2 hS2 nq hq => ?_⟩
          have npq : p ≠ q := ne_of_none hp nq
          refine ⟨p, q, _, _, rfl, rfl, hS2 _ _ hp, hq, ?_, fun r nr => ?_⟩
          · rw [List.length_map, List.length_map]
            exact Nat.le_of_lt (small1000 (by omega))
          · refine ⟨r, _, _, rfl, Same.new (hS.trans hS2) nr, Same.free (hS.trans hS2) nr, ?_⟩
            rw [upd_same, flat_succ hpi, List.map_append]
        · rintro σ H' ⟨p, v2, v3, rfl, hS, np, hp⟩
          refine ⟨_, rfl, k p H' hS np ?_⟩
          rw [hp, Tr.names_mix, List.take_of_length_le (by rw [hP.1]; exact Nat.le_refl _)]
theorem ok_lnames {f : Addr} {fd : FuncData} (F : Def K mg "_law_names" sLNames ["tree"] f fd) (B : Blt mg) : ∀ d : Nat, FnOk P w K mg base CX0 (d + 2) f fd ["tree"] (spNames K d)
  | 0 => lnames_step F B (F.fn.ok (k := 0) scLNames (fun _ _ _ _ h => h.elim) (fun _ _ _ _ _ _ _ _ _ h => h.elim))
  | d + 1 => lnames_step F B (ok_lnames F B d)
end
end Mx

set_option Elab.async false
set_option maxRecDepth 100000
set_option linter.all false
namespace Mx
open PySem L2
def spOutput (K : PySem.W.Frag) (L : Str → Nat) (d : Nat) : Sp := fun vs H Q _ => ∃ (v : V) (t : Tr) (td : Addr) (kvs : List (Key × V)), vs = [v, .ref td] ∧ TrAt K H d v t ∧ t.wf d ∧ H td = some (.dK kvs) ∧ (∀ n ∈ t.names, valV kvs (.inr n) = some (.int (L n : Nat))) ∧
  (∀ n ∈ t.names, L n ≤ 1000) ∧ (t.out L).length ≤ 1000 ∧
  ∀ (p : Addr) (xs : List V) (H' : Hp), Same H H' → H p = none → H' p = some (.lst xs) → ItemsAt H' xs (t.out L) → Q (.ref p) H'
section
variable {P : Program} {w : World} {K : PySem.W.Frag} {mg : Str → Option Value} {base : Heap}
def nOut : List Str := ["tree", "table", "weight", "rows", "found", "turn", "row", "index", "part"]
theorem scOutput : FnScope nOut ["tree", "table"] (defScope sOutput) := ⟨rfl, rfl, rfl, by decide +kernel, rfl, by decide +kernel, by decide +kernel⟩
theorem output_step {L : Str → Nat} {d : Nat} {f : Addr} {fd : FuncData} (F : Def K mg "_law_output" sOutput ["tree", "table"] f fd) (B : Blt mg) (GR : FnOk P w K mg base CX0 (d + 1) f fd ["tree", "table"] (pre (spOutput K L) d)) :
    FnOk P w K mg base CX0 (d + 2) f fd ["tree", "table"] (spOutput K L d) := by
  refine F.fn.ok scOutput (fun vs H Q E h => ?_) (fun cdv A outer s H vs Q E hr h => ?_)
  · obtain ⟨v, t, td, kvs, rfl, _⟩ := h
    rfl
  · obtain ⟨v, t, td, kvs, rfl, hT, hW, htd, hval, hL, hlen, k⟩ := h
    refine ⟨_, pss_cons (ps_if (pt_val (pe_callB call_isi (by rfl) B.isinstance (by decide +kernel) (pa_cons (pv 0) (pa_cons (pe_bltn (v := .ty "str") (by rfl) B.str (by decide +kernel) rfl) pa_nil))))
        (pss_one (ps_ret (pe_lc (own := [("index", 7)]) (g := gName 7) (tt := tYes) (by rfl) scOutput.nd (pi_range1 (by rfl) B.range (pa_cons (pe_dget (hu_of hr) (pv 1) (pv 0) (fun _ _ => rfl)) pa_nil)) (blkOk_by (own := [("index", 7)]) (N := nOut) (sc := defScope sOutput) (by decide +kernel))
            (fun _ _ _ _ _ => pg_name (i := 7) scOutput.nd rfl (Or.inl rfl)) (fun _ _ _ _ _ => pts_nil)
            (fun _ _ _ _ _ => pe_tup (pa_cons (pv 0) (pa_cons (pv 7) pa_nil)))))) pss_nil)
      (pss_cons (ps_setLc (i := 3) (own := [("weight", 2), ("part", 8)]) (g := gTup K 2 (gCons (gName 2) (gCons (gName 8) gNil))) (tt := tYes) (by rfl) scOutput.nd rfl rfl (sw_true rfl rfl rfl (by decide +kernel)) (pi_tup (pv 0)) (blkOk_by (own := [("weight", 2), ("part", 8)]) (N := nOut) (sc := defScope sOutput) (by decide +kernel))
            (fun _ _ _ _ _ => pg_tup rfl (pgs_cons (pg_name (i := 2) scOutput.nd rfl (Or.inl rfl)) (pgs_cons (pg_name (i := 8) scOutput.nd rfl (Or.inl rfl)) pgs_nil))) (fun _ _ _ _ _ => pts_nil)
            (fun _ _ _ _ _ => pe_tup (pa_cons (pv 2) (pa_cons (pe_call GR hr rfl F.mg F.fn.kp F.b .nil pass0 (pa_cons (pv 8) (pa_cons (pv 1) pa_nil))) pa_nil))))
      (pss_cons (ps_par (i := 4) (j := 5) rfl scOutput.nd rfl rfl (by decide) rfl rfl (pa_cons (pe_lst pa_nil) (pa_cons pe_int pa_nil)) (by rfl))
      (pss_cons (ps_while PassesOwn.never (pt_cmpR op_lt (pe_callB call_len_seq (by rfl) B.len PySem.boot_len (pa_cons (pv 4) pa_nil))
          (pe_callB (cr_sum rfl) (by rfl) B.sum (by decide +kernel) (pa_cons
            (pe_lc (own := [("weight", 2), ("row", 6)]) (g := gTup K 2 (gCons (gName 2) (gCons (gName 6) gNil))) (tt := tYes) (te := tCB (rLenS K) (tCons (tVar 6) tNil)) (by rfl) scOutput.nd (pi_list (pv 3)) (blkOk_by (own := [("weight", 2), ("row", 6)]) (N := nOut) (sc := defScope sOutput) (by decide +kernel))
              (fun _ _ _ _ _ => pg_tup rfl (pgs_cons (pg_name (i := 2) scOutput.nd rfl (Or.inl rfl)) (pgs_cons (pg_name (i := 6) scOutput.nd rfl (Or.inl rfl)) pgs_nil))) (fun _ _ _ _ _ => pts_nil)
              (fun _ _ _ _ _ => pe_callB call_len_seq (by rfl) B.len PySem.boot_len (pa_cons (pv 6) pa_nil))) pa_nil)) (nomark _))
        (pss_cons (ps_for PassesOwn.never rfl (pi_list (pv 3)) (pg_tup rfl (pgs_cons (pg_name (i := 2) scOutput.nd rfl (Or.inl rfl)) (pgs_cons (pg_name (i := 6) scOutput.nd rfl (Or.inl rfl)) pgs_nil)))
          (pss_one (ps_set (i := 4) scOutput.nd rfl (Or.inl rfl) (pe_op op_cat (pv 4) (pe_slice sl_list (pv 6) (po_some (pe_op op_mul (pv 2) (pv 5))) (po_some (pe_op op_add (pe_op op_mul (pv 2) (pv 5)) (pv 2))))))))
        (pss_one (ps_set (i := 5) scOutput.nd rfl (Or.inl rfl) (pe_op op_add (pv 5) pe_int)))))
      (pss_one (ps_ret (pv 4)))))), ?_⟩
    cases t with
    | feed n =>
      have hv := TrAt_feed.mp hT
      subst hv
      have hn : n ∈ (Tr.feed n).names := by rw [Tr.names_feed]; exact List.mem_cons_self
      have hLn := hL n hn
      refine ⟨_, rfl, _, _, _, _, true, rfl, .ty _, .base (.str n), kit_ty (by decide +kernel), _, rfl, ?_⟩
      refine ⟨_, rfl, _, rfl, td, V.int (L n : Nat), rfl, ?_, ?_⟩
      · have z := DGet.k (k := Sum.inr n) htd
        rw [hval n hn] at z
        exact z
      refine ⟨_, rfl, by omega, by omega, fun D' nD => ?_⟩
      rw [Int.toNat_natCast]
      refine lc_range (lo := 0) (n := L n) (fun i H' => ∃ xs, Same H H' ∧ H' D' = some (.lst xs) ∧ ItemsAt H' xs ((List.range i).map fun j => (n, j))) ?_ ?_ ?_
      · exact ⟨[], Same.new (Same.refl _) nD, upd_same, .nil⟩
      · rintro i H' hi ⟨xs, hS, hD, hI⟩
        refine ⟨rfl, ?_⟩
        refine ⟨_, rfl, _, rfl, by show 2 ≤ sizeLine; decide, fun q nq => ?_⟩
        have nDq : D' ≠ q := ne_of_none hD nq
        have hxl := paired_len hI
        rw [List.length_map, List.length_range] at hxl
        refine ⟨xs, by rw [upd_ne nDq]; exact hD, by rw [hxl]; exact small1000 (by omega), xs ++ [.ref q], ?_, upd_same, ?_⟩
        · exact Same.own (Same.new hS nq) nD
        · rw [List.range_succ, List.map_append]
          refine paired_append (Paired.mapP hI fun _ _ z => z.keep ((KeepU.new nq).trans (KeepU.lst (by rw [upd_ne nDq]; exact hD)))) (.cons ⟨q, rfl, ?_⟩ .nil)
          rw [upd_ne nDq.symm, upd_same, Int.zero_add]
      · rintro H' ⟨xs, hS, hD, hI⟩
        exact k D' xs H' hS nD hD (by rw [Tr.out_feed]; exact hI)
    | mix ps =>
      cases d with
      | zero => exact (TrAt_zero hT).elim
      | succ e =>
        obtain ⟨a, xs, rfl, hs, hP⟩ := TrAt_mix.mp hT
        have hw : ps ≠ [] ∧ ps.length ≤ 5 ∧ ∀ p ∈ ps, 1 ≤ p.1 ∧ p.1 ≤ 9 ∧ p.2.wf e := by unfold Tr.wf at hW; exact hW
        refine ⟨_, rfl, _, _, _, _, false, rfl, .ty _, tyx_tup hs, kit_ty (by decide +kernel), _, rfl, ?_⟩
        obtain ⟨rows, hrows⟩ : ∃ rows : Rows Item, rows = ps.map fun p => (p.1.toNat, p.2.out L) := ⟨_, rfl⟩
        have hpos : Pos rows := by
          intro q hq
          rw [hrows] at hq
          obtain ⟨p, hp, rfl⟩ := List.mem_map.mp hq
          have := (hw.2.2 p hp).1
          show 1 ≤ p.1.toNat
          omega
        rw [Tr.out_mix, ← hrows, len_R hpos] at hlen
        have hsub : ∀ p ∈ ps, ∀ n ∈ p.2.names, n ∈ (Tr.mix ps).names := fun p hp n hn => by
          rw [Tr.names_mix]
          exact List.mem_flatten.mpr ⟨_, List.mem_map.mpr ⟨p, hp, rfl⟩, hn⟩
        refine ⟨_, rfl, a, rfl, ⟨_, hs⟩, fun D' nD => ?_⟩
        refine lc_tup (K := K) (a := a) (xs := xs) (fun i H' => ∃ zs, Same H H' ∧ H' D' = some (.lst zs) ∧ Paired (RowAt L D' H') zs (ps.take i)) ?_ ?_ ?_ ?_
        · exact ⟨[], Same.new (Same.refl _) nD, upd_same, .nil⟩
        · rintro i H' _ ⟨zs, hS, _⟩
          exact sqT_same hS _ _ hs
        · rintro i x H' hx ⟨zs, hS, hD, hR⟩
          have hi : i < ps.length := by rw [← hP.1]; exact (List.getElem?_eq_some_iff.mp hx).1
          have hpi : ps[i]? = some ps[i] := List.getElem?_eq_getElem hi
          have hpm : ps[i] ∈ ps := List.getElem_mem hi
          obtain ⟨b, y, rfl, hb, hy⟩ := hP.2 i x _ hx hpi
          refine ⟨b, _, rfl, sqT_same hS _ _ hb, rfl, _, _, rfl, _, _, rfl, rfl, rfl, ?_⟩
          refine ⟨_, rfl, _, rfl, _, rfl, y, ps[i].2, td, kvs, rfl, TrAt.keep (sqT_same hS) _ hy, (hw.2.2 _ hpm).2.2, hS _ _ htd, fun n hn => hval n (hsub _ hpm n hn), fun n hn => hL n (hsub _ hpm n hn), ?_, fun p ys H2 hS2 np hp hI => ?_⟩
          · have z := tot_ge (p := (ps[i].1.toNat, ps[i].2.out L)) (rows := rows) (by rw [hrows]; exact List.mem_map.mpr ⟨_, hpm, rfl⟩)
            exact Nat.le_trans z hlen
          · refine ⟨by show 2 ≤ sizeLine; decide, fun q nq => ?_⟩
            have hD2 := hS2 _ _ hD
            have nDq : D' ≠ q := ne_of_none hD2 nq
            have nDp : D' ≠ p := ne_of_none hD np
            have nqp : p ≠ q := ne_of_none hp nq
            have hzl := paired_len hR
            rw [List.length_take] at hzl
            refine ⟨zs, by rw [upd_ne nDq]; exact hD2, by rw [hzl]; exact small1000 (by omega), zs ++ [.ref q], ?_, upd_same, ?_⟩
            · exact Same.own (Same.new (hS.trans hS2) nq) nD
            · have kU : KeepU H2 (upd (upd H2 q (.tup [.int ps[i].1, .ref p])) D' (.lst (zs ++ [.ref q]))) := (KeepU.new nq).trans (KeepU.lst (by rw [upd_ne nDq]; exact hD2))
              rw [take_succ_of hpi]
              refine paired_append (Paired.mapP hR fun z0 p0 ⟨b0, rl, ys0, hne, e0, g1, g2, g3⟩ => ?_) (.cons ⟨q, p, ys, nDp.symm, rfl, ?_, ?_, ?_⟩ .nil)
              · refine ⟨b0, rl, ys0, hne, e0, kU _ _ (hS2 _ _ g1), ?_, Paired.mapP g3 fun _ _ z => (z.same hS2).keep kU⟩
                rw [upd_ne hne, upd_ne (ne_of_none (hS2 _ _ g2) nq)]
                exact hS2 _ _ g2
              · rw [upd_ne nDq.symm]; exact upd_same
              · rw [upd_ne nDp.symm, upd_ne nqp]; exact hp
              · exact Paired.mapP hI fun _ _ z => z.keep kU
        · rintro H' ⟨zs, hS, hD, hR⟩
          rw [List.take_of_length_le (by rw [hP.1]; exact Nat.le_refl _)] at hR
          have hrl : rows.length = ps.length := by rw [hrows, List.length_map]
          have hzl := paired_len hR
          refine ⟨Nat.zero_le _, fun f0 nf0 => ?_⟩
          refine ⟨_, _, rfl, ?_⟩
          have hf0 : H f0 = none := Same.free hS nf0
          have nDf0 : D' ≠ f0 := ne_of_none hD nf0
          refine ⟨fun m σ H2 => ∃ (tn : Nat) (p : Addr) (ys : List V) (v2 v6 v7 v8 : Option V), m = tot (dropn tn rows) ∧ σ = [some (.ref a), some (.ref td), v2, some (.ref D'), some (.ref p), some (.int (tn : Nat)), v6, v7, v8] ∧ Same H H2 ∧ H2 D' = some (.lst zs) ∧ Paired (RowAt L D' H2) zs ps ∧
            H p = none ∧ H2 p = some (.lst ys) ∧ ItemsAt H2 ys (rndsTo tn rows), ⟨_, 0, f0, [], _, _, _, _, rfl, rfl, ?_, ?_, ?_, hf0, upd_same, .nil⟩, ?_⟩
          · exact Same.new hS nf0
          · rw [upd_ne nDf0]; exact hD
          · exact Paired.mapP hR fun _ _ z => z.same (Same.new (Same.refl _) nf0)
          · rintro m σ H2 ⟨tn, p, ys, v2, v6, v7, v8, rfl, rfl, hS2, hD2, hR2, np, hp, hI⟩
            have hyl := paired_len hI
            have hyt := rndsTo_len hpos tn
            refine ⟨_, rfl, p, _, rfl, .inl (SqL.of hp), _, rfl, D', rfl, ⟨_, SqL.of hD2⟩, fun E' nE => ?_⟩
            have nED : D' ≠ E' := ne_of_none hD2 nE
            have nEp : p ≠ E' := ne_of_none hp nE
            refine lc_list (K := K) (a := D') (xs := zs) (fun i H3 => ∃ ns : List Int, Same H2 H3 ∧ H3 E' = some (.lst (ns.map V.int)) ∧ ns = (rows.take i).map fun q => (q.2.length : Int)) ?_ ?_ ?_ ?_
            · exact ⟨[], Same.new (Same.refl _) nE, upd_same, rfl⟩
            · rintro i H3 _ ⟨ns, hS3, _⟩
              exact SqL.of (hS3 _ _ hD2)
            · rintro i x H3 hx ⟨ns, hS3, hE3, hns⟩
              obtain ⟨p0, hp0, b0, rl, ys0, _, rfl, g1, g2, g3⟩ := paired_get hR2 hx
              have hi : i < ps.length := (List.getElem?_eq_some_iff.mp hp0).1
              have hri : rows[i]? = some (p0.1.toNat, p0.2.out L) := by rw [hrows, List.getElem?_map, hp0]; rfl
              refine ⟨b0, _, rfl, SqT.of (hS3 _ _ g1), rfl, _, _, rfl, _, _, rfl, rfl, rfl, ?_⟩
              refine ⟨_, rfl, rl, _, rfl, .inl (SqL.of (hS3 _ _ g2)), ns.map V.int, hE3, ?_, ns ++ [((p0.2.out L).length : Int)], ?_, ?_, ?_⟩
              · rw [hns, List.length_map, List.length_map, List.length_take]; exact small1000 (by omega)
              · exact Same.own hS3 nE
              · rw [upd_same, List.map_append, paired_len g3]; rfl
              · rw [take_succ_of hri, List.map_append, hns]; rfl
            · rintro H3 ⟨ns, hS3, hE3, hns⟩
              rw [hzl, ← hrl, List.take_length] at hns
              refine ⟨E', ns, rfl, SqL.of hE3, _, _, rfl, rfl, _, rfl, ?_⟩
              have hsum : ns.sum = (tot rows : Int) := by rw [hns, sum_tot]
              refine ite2 (fun c => ?_) (fun c => ?_)
              · have hlt : (rndsTo tn rows).length < tot rows := by
                  have z := of_decide_eq_true c
                  rw [hsum, hyl] at z
                  omega
                refine ⟨fun σ' H'' => ∃ m', m' < tot (dropn tn rows) ∧ _, fun σ' H'' h => h, ?_⟩
                refine ⟨_, rfl, D', rfl, ⟨_, SqL.of (hS3 _ _ hD2)⟩, for_list (K := K) (a := D') (xs := zs) (fun i σ H4 => ∃ (q : Addr) (us : List V) (w2 w6 : Option V), σ = [some (.ref a), some (.ref td), w2, some (.ref D'), some (.ref q), some (.int (tn : Nat)), w6, v7, v8] ∧ Same H2 H4 ∧ H q = none ∧ H4 q = some (.lst us) ∧
                    ItemsAt H4 us (rndsTo tn rows ++ rnd tn (rows.take i))) ?_ ?_ ?_ ?_⟩
                · exact ⟨p, ys, _, _, rfl, hS3, np, hS3 _ _ hp, by rw [show rnd tn (rows.take 0) = [] from rfl, List.append_nil]; exact Paired.mapP hI fun _ _ z => z.same hS3⟩
                · rintro i σ H4 _ ⟨q, us, w2, w6, rfl, hS4, _⟩
                  exact SqL.of (hS4 _ _ hD2)
                · rintro i x σ H4 hx ⟨q, us, w2, w6, rfl, hS4, nq, hq, hI4⟩
                  obtain ⟨p0, hp0, b0, rl, ys0, _, rfl, g1, g2, g3⟩ := paired_get hR2 hx
                  have hpm : p0 ∈ ps := List.mem_of_getElem? hp0
                  have hri : rows[i]? = some (p0.1.toNat, p0.2.out L) := by rw [hrows, List.getElem?_map, hp0]; rfl
                  obtain ⟨hw1, hw9, _⟩ := hw.2.2 p0 hpm
                  have g2' := hS4 _ _ g2
                  refine ⟨b0, _, rfl, SqT.of (hS4 _ _ g1), rfl, _, _, rfl, _, _, rfl, rfl, ?_⟩
                  refine ⟨_, rfl, _, rfl, _, rfl, _, rfl, _, _, rfl, rfl, .inl ⟨by omega, by omega⟩, _, rfl, _, rfl, _, rfl, _, _, rfl, rfl, .inl ⟨by omega, by omega⟩, _, rfl, _, _, rfl, rfl, _, rfl, rl, _, rfl, SqL.of g2', fun c0 nc0 => ?_⟩
                  have ncq : q ≠ c0 := ne_of_none hq nc0
                  have ecut : cutV ys0 (some (p0.1 * (tn : Int))) (some (p0.1 * (tn : Int) + p0.1)) = (ys0.drop (p0.1.toNat * tn)).take p0.1.toNat := by
                    have e1 : p0.1 * (tn : Int) = ((p0.1.toNat * tn : Nat) : Int) := by
                      rw [Int.natCast_mul, Int.toNat_of_nonneg (by omega)]
                    have e2 : p0.1 * (tn : Int) + p0.1 = ((p0.1.toNat * tn + p0.1.toNat : Nat) : Int) := by
                      rw [Int.natCast_add, ← e1, Int.toNat_of_nonneg (by omega)]
                    rw [e1] at e2 ⊢
                    rw [e2]
                    exact cut_mid
                  rw [ecut]
                  have hul := paired_len hI4
                  have hsz : us.length + ((ys0.drop (p0.1.toNat * tn)).take p0.1.toNat).length ≤ 1000 := by
                    have q1 := paired_len (paired_take p0.1.toNat (paired_drop (p0.1.toNat * tn) g3))
                    have q2 := rndsTo_len hpos (tn + 1)
                    have q3 := rnd_take_len (k := tn) (i := i + 1) (rows := rows)
                    rw [rnd_succ hri, List.length_append] at q3
                    dsimp only at q3
                    rw [rndsTo_succ, List.length_append] at q2
                    rw [List.length_append] at hul
                    rw [q1]
                    omega
                  refine ⟨q, c0, _, _, rfl, rfl, by rw [upd_ne ncq]; exact hq, upd_same, Nat.le_of_lt (small1000 hsz), fun r nr => ?_⟩
                  have hnr : H r = none := Same.free hS2 (Same.free hS4 (none_of_upd nr))
                  have S5 : Same H4 (upd (upd H4 c0 (.lst ((ys0.drop (p0.1.toNat * tn)).take p0.1.toNat))) r (.lst (us ++ (ys0.drop (p0.1.toNat * tn)).take p0.1.toNat))) := Same.new (Same.new (Same.refl _) nc0) nr
                  refine ⟨r, _, _, _, rfl, hS4.trans S5, hnr, upd_same, ?_⟩
                  rw [rnd_succ hri, ← List.append_assoc]
                  exact paired_append (Paired.mapP hI4 fun _ _ z => z.same S5) (Paired.mapP (paired_take _ (paired_drop _ g3)) fun _ _ z => z.same (hS4.trans S5))
                · rintro σ H4 ⟨q, us, w2, w6, rfl, hS4, nq, hq, hI4⟩
                  refine ⟨_, rfl, _, _, rfl, rfl, ?_⟩
                  rw [hzl, ← hrl, List.take_length, ← rndsTo_succ] at hI4
                  refine ⟨_, rndsTo_more hpos hlt, tn + 1, q, us, w2, w6, v7, v8, rfl, rfl, hS2.trans hS4, hS4 _ _ hD2, Paired.mapP hR2 fun _ _ z => z.same hS4, nq, hq, hI4⟩
              · have hge : ¬ (rndsTo tn rows).length < tot rows := fun z => c (decide_eq_true (by rw [hsum, hyl]; omega))
                refine ⟨_, rfl, k p ys H3 (hS2.trans hS3) np (hS3 _ _ hp) ?_⟩
                rw [Tr.out_mix, ← hrows, ← rndsTo_end hpos hge]
                exact Paired.mapP hI fun _ _ z => z.same hS3
theorem ok_output {L : Str → Nat} {f : Addr} {fd : FuncData} (F : Def K mg "_law_output" sOutput ["tree", "table"] f fd) (B : Blt mg) : ∀ d : Nat, FnOk P w K mg base CX0 (d + 2) f fd ["tree", "table"] (spOutput K L d)
  | 0 => output_step F B (F.fn.ok (k := 0) scOutput (fun _ _ _ _ h => h.elim) (fun _ _ _ _ _ _ _ _ _ h => h.elim))
  | d + 1 => output_step F B (ok_output F B d)
end
end Mx

set_option Elab.async false
set_option maxRecDepth 100000
set_option linter.all false
namespace Mx
open PySem L2
def spTable (K : PySem.W.Frag) : Sp := fun vs H Q _ => ∃ (v : V) (t : Tr) (tl : Addr) (ls : List Int), vs = [v, .ref tl] ∧ TrAt K H 4 v t ∧ TreeV t ∧ SqT K H tl (ls.map V.int) ∧ LenOk t ls ∧
  ∀ (p : Addr) (H' : Hp), Same H H' → H p = none → H' p = some (.dK (tab t.names ls)) → Q (.ref p) H'
section
variable {P : Program} {w : World} {K : PySem.W.Frag} {mg : Str → Option Value} {base : Heap}
theorem scTable : FnScope ["tree", "lengths"] ["tree", "lengths"] (defScope sTable) := ⟨rfl, rfl, rfl, by decide +kernel, rfl, by decide +kernel, by decide +kernel⟩
theorem ok_table {f fN : Addr} {fd fdN : FuncData} (F : Fun K "_law_table" "_law_table" sTable f fd) (B : Blt mg) (DN : Def K mg "_law_names" sLNames ["tree"] fN fdN) (GN : FnOk P w K mg base CX0 6 fN fdN ["tree"] (spNames K 4)) : FnOk P w K mg base CX0 7 f fd ["tree", "lengths"] (spTable K) := by
  refine F.ok scTable (fun vs H Q E h => ?_) (fun cdv A outer s H vs Q E hr h => ?_)
  · obtain ⟨v, t, tl, ls, rfl, _⟩ := h
    rfl
  · obtain ⟨v, t, tl, ls, rfl, hT, hV, hl, hL, k⟩ := h
    refine ⟨_, pss_one (ps_ret (pe_dictZip rfl (by rfl) B.dict (by rfl) B.zip (pa_cons (pe_call GN hr rfl DN.mg DN.fn.kp DN.b .nil pass0 (pa_cons (pv 0) pa_nil)) (pa_cons (pv 1) pa_nil)))), ?_⟩
    refine ⟨_, rfl, v, t, rfl, hT, hV.wf, by have := hV.len; omega, fun q H1 S1 nq hq => ?_⟩
    refine ⟨_, rfl, q, tl, t.names, ls.map V.int, rfl, SqL.of hq, sqT_same S1 _ _ hl, by rw [List.length_map, hL.len], fun p np => ?_⟩
    refine k p _ (Same.new S1 np) (Same.free S1 np) ?_
    rw [upd_same]
    show some (HO.dK (mergeK [] (tab t.names ls))) = _
    rw [tab_merge hL.len.symm hV.nd]
end
end Mx

set_option Elab.async false
set_option maxRecDepth 100000
namespace Mx
open PySem L2
/-- lengths: a new tuple of ints from 0 to m -/
def spLengths (K : PySem.W.Frag) : Sp := fun vs H Q _ => ∃ (a : Addr) (v : V) (t : Tr) (m : Int) (o : HO), vs = [.ref a, v, .int m] ∧ H a = some o ∧ SrcO o ∧ TrAt K H 4 v t ∧ TreeOk t ∧ 3 ≤ m ∧ m ≤ 1000 ∧
  ∀ (p : Addr) (ls : List Int) (o' : HO) (H' : Hp), But a H H' → H' a = some o' → SrcO o' → H p = none → H' p = some (.tup (ls.map V.int)) → ls.length = t.names.length → (∀ l ∈ ls, 0 ≤ l ∧ l ≤ m) → Q (.ref p) H'
section
variable {P : Program} {w : World} {K : PySem.W.Frag} {mg : Str → Option Value} {base : Heap}
theorem scLengths : FnScope ["source", "tree", "most", "wide", "found", "name", "some"] ["source", "tree", "most"] (defScope sLengths) := ⟨rfl, rfl, rfl, by decide +kernel, rfl, by decide +kernel, by decide +kernel⟩
theorem at3 {a b c : Int} {d : Int} (h0 : 0 ≤ d) (h1 : d < 3) : ∃ x : Int, atI [V.int a, V.int b, V.int c] d = some (.int x) ∧ (x = a ∨ x = b ∨ x = c) := by
  obtain ⟨n, rfl⟩ := Int.eq_ofNat_of_zero_le h0
  match n, (show n < 3 by omega) with
  | 0, _ => exact ⟨_, rfl, .inl rfl⟩
  | 1, _ => exact ⟨_, rfl, .inr (.inl rfl)⟩
  | 2, _ => exact ⟨_, rfl, .inr (.inr rfl)⟩
theorem at4 {a b c e : Int} {d : Int} (h0 : 0 ≤ d) (h1 : d < 4) : ∃ x : Int, atI [V.int a, V.int b, V.int c, V.int e] d = some (.int x) ∧ (x = a ∨ x = b ∨ x = c ∨ x = e) := by
  obtain ⟨n, rfl⟩ := Int.eq_ofNat_of_zero_le h0
  match n, (show n < 4 by omega) with
  | 0, _ => exact ⟨_, rfl, .inl rfl⟩
  | 1, _ => exact ⟨_, rfl, .inr (.inl rfl)⟩
  | 2, _ => exact ⟨_, rfl, .inr (.inr (.inl rfl))⟩
  | 3, _ => exact ⟨_, rfl, .inr (.inr (.inr rfl))⟩
theorem at2' {a b : Int} {d : Int} (h0 : 0 ≤ d) (h1 : d < 2) : ∃ x : Int, atI [V.int a, V.int b] d = some (.int x) ∧ (x = a ∨ x = b) := by
  obtain ⟨n, rfl⟩ := Int.eq_ofNat_of_zero_le h0
  match n, (show n < 2 by omega) with
  | 0, _ => exact ⟨_, rfl, .inl rfl⟩
  | 1, _ => exact ⟨_, rfl, .inr rfl⟩
theorem ok_lengths {f fP fN : Addr} {fd fdP fdN : FuncData} (F : Fun K "_law_lengths" "_law_lengths" sLengths f fd) (B : Blt mg) (D : Def K mg "_law_pick" sPick ["source", "size"] fP fdP)
    (GP : FnOk P w K mg base CX0 1 fP fdP ["source", "size"] spPick) (DN : Def K mg "_law_names" sLNames ["tree"] fN fdN) (GN : FnOk P w K mg base CX0 6 fN fdN ["tree"] (spNames K 4)) :
    FnOk P w K mg base CX0 7 f fd ["source", "tree", "most"] (spLengths K) := by
  refine F.ok scLengths (fun vs H Q E h => ?_) (fun cdv A outer s H vs Q E hr h => ?_)
  · obtain ⟨a, v, t, m, o, rfl, _⟩ := h
    rfl
  · obtain ⟨a, v, t, m, o, rfl, ha, hO, hT, hK, hm3, hm, k⟩ := h
    have hr1 : Room 1 _ := hr.mono (by decide)
    refine ⟨_, pss_cons (ps_set (i := 3) scLengths.nd rfl (Or.inl rfl) (pe_ix ix_list (pe_lst (pa_cons (pv 2) (pa_cons (pv 2) (pa_cons pe_int pa_nil)))) (pe_call GP hr1 rfl D.mg D.fn.kp D.b .nil pass0 (pa_cons (pv 0) (pa_cons pe_int pa_nil))) (fun _ _ => rfl)))
      (pss_cons (ps_set (i := 4) scLengths.nd rfl (Or.inl rfl) (pe_lst pa_nil))
      (pss_cons (ps_for PassesOwn.never rfl (pi_list (pe_call GN hr rfl DN.mg DN.fn.kp DN.b .nil pass0 (pa_cons (pv 1) pa_nil))) (pg_name (i := 5) scLengths.nd rfl (Or.inl rfl))
        (pss_cons (ps_set (i := 6) scLengths.nd rfl (Or.inl rfl) (pe_lst (pa_cons pe_int (pa_cons pe_int (pa_cons (pe_call GP hr1 rfl D.mg D.fn.kp D.b .nil pass0 (pa_cons (pv 0) (pa_cons (pe_op op_add (pv 3) pe_int) pa_nil)))
            (pa_cons (pe_call GP hr1 rfl D.mg D.fn.kp D.b .nil pass0 (pa_cons (pv 0) (pa_cons (pe_op op_add (pv 3) pe_int) pa_nil))) pa_nil))))))
        (pss_one (ps_expr (pe_bm PySem.F.plainAttrs_list PySem.F.slot_list_append PySem.F.type_list_append mt_append (pv 4) (pa_cons
          (pe_ix ix_list (pv 6) (pe_call GP hr1 rfl D.mg D.fn.kp D.b .nil pass0 (pa_cons (pv 0) (pa_cons pe_int pa_nil))) (fun _ _ => rfl)) pa_nil))))))
      (pss_one (ps_ret (pe_callTy call_tuple_of (by rfl) B.tuple (by decide +kernel) (pa_cons (pv 4) pa_nil)))))), ?_⟩
    refine ⟨_, rfl, _, rfl, by show 3 ≤ sizeLine; decide, fun l0 nl0 => ?_⟩
    have nla : a ≠ l0 := ne_of_none ha nl0
    refine ⟨_, rfl, a, _, o, rfl, by rw [upd_ne nla]; exact ha, hO, (by decide), (by decide), fun d1 o1 h10 h11 hO1 => ?_⟩
    obtain ⟨wd, hwd, hwm⟩ := at3 (a := m) (b := m) (c := 3) h10 h11
    have hw0 : 3 ≤ wd ∧ wd ≤ m := by rcases hwm with h | h | h <;> omega
    refine ⟨l0, _, _, _, rfl, rfl, SqL.of (by rw [upd_ne nla.symm]; exact upd_same), hwd, ?_⟩
    refine ⟨Nat.zero_le _, fun fl nfl => ?_⟩
    have nfl0 : H fl = none := none_of_upd (none_of_upd nfl)
    have nfa : a ≠ fl := ne_of_none upd_same nfl
    have bB : But a H (upd (upd (upd H l0 (.lst [.int m, .int m, .int 3])) a o1) fl (.lst [])) := ((But.refl.own nl0).upd).own nfl0
    refine ⟨_, rfl, v, t, rfl, TrAt.keep (KeepT.but ha hO bB) _ hT, hK.wf, by have := hK.len; omega, fun nl H1 hS1 nnl hnl => ?_⟩
    have b1 : But a H H1 := bB.trans (But.of hS1)
    have a1 : H1 a = some o1 := hS1 _ _ (by rw [upd_ne nfa]; exact upd_same)
    have f1 : H1 fl = some (.lst []) := hS1 _ _ upd_same
    have nnf : fl ≠ nl := ne_of_none upd_same nnl
    have nna : a ≠ nl := ne_of_none (by rw [upd_ne nfa]; exact upd_same) nnl
    have nnl0 : H nl = none := bB.free nnl nna.symm
    refine ⟨nl, rfl, ⟨_, SqL.of hnl⟩, for_list (K := K) (a := nl) (xs := t.names.map V.str) (fun i σ H' => ∃ (v5 v6 : Option V) (o' : HO) (ls : List Int), σ = [some (.ref a), some v, some (.int m), some (.int wd), some (.ref fl), v5, v6] ∧ But a H H' ∧ H' a = some o' ∧ SrcO o' ∧
      H' fl = some (.lst (ls.map V.int)) ∧ H' nl = some (.lst (t.names.map V.str)) ∧ ls.length = i ∧ ∀ l ∈ ls, 0 ≤ l ∧ l ≤ m) ⟨none, none, o1, [], rfl, b1, a1, hO1, f1, hnl, rfl, by simp⟩ (fun i σ H' _ ⟨_, _, _, _, _, _, _, _, _, h, _⟩ => SqL.of h) ?_ ?_⟩
    · rintro i x σ H' hx ⟨v5, v6, o', ls, rfl, hb, hA, hs, hf, hn, hl, hr⟩
      have hi8 : i < 8 := by
        have z := (List.getElem?_eq_some_iff.mp hx).1
        rw [List.length_map] at z
        exact Nat.lt_of_lt_of_le z hK.len
      refine ⟨_, rfl, _, rfl, _, _, rfl, rfl, a, _, o', rfl, hA, hs, by omega, by omega, fun d2 o2 h20 h21 hO2 => ?_⟩
      refine ⟨_, rfl, _, rfl, _, _, rfl, rfl, a, _, o2, rfl, upd_same, hO2, by omega, by omega, fun d3 o3 h30 h31 hO3 => ?_⟩
      refine ⟨by show 4 ≤ sizeLine; decide, fun sl nsl => ?_⟩
      have nsa : a ≠ sl := ne_of_none upd_same nsl
      have nsl0 : H' sl = none := none_of_upd (none_of_upd nsl)
      have nsf : fl ≠ sl := ne_of_none hf nsl0
      have nsn : nl ≠ sl := ne_of_none hn nsl0
      refine ⟨_, rfl, .inl ⟨rfl, _, SqL.of (by rw [upd_ne nsf, upd_ne nfa.symm, upd_ne nfa.symm]; exact hf)⟩, _, rfl, _, rfl, a, _, o3, rfl, by rw [upd_ne nsa]; exact upd_same, hO3, (by decide), (by decide), fun d4 o4 h40 h41 hO4 => ?_⟩
      obtain ⟨x4, hx4, hxm⟩ := at4 (a := 0) (b := 1) (c := d2) (e := d3) h40 h41
      refine ⟨sl, _, _, _, rfl, rfl, SqL.of (by rw [upd_ne nsa.symm]; exact upd_same), hx4, ?_⟩
      refine ⟨fl, _, _, rfl, rfl, by rw [upd_ne nfa.symm, upd_ne nsf, upd_ne nfa.symm, upd_ne nfa.symm]; exact hf, by rw [List.length_map, hl]; exact small1000 (by omega), ?_⟩
      refine ⟨_, _, o4, ls ++ [x4], rfl, ?_, ?_, hO4, ?_, ?_, ?_, ?_⟩
      · exact ((((hb.upd).upd).own (hb.free nsl0 nsa.symm)).upd).own nfl0
      · rw [upd_ne nfa, upd_same]
      · rw [upd_same, List.map_append]; rfl
      · rw [upd_ne nnf.symm, upd_ne nna.symm, upd_ne nsn, upd_ne nna.symm, upd_ne nna.symm]; exact hn
      · rw [List.length_append, hl]; rfl
      · intro z hz
        rcases List.mem_append.mp hz with h | h
        · exact hr z h
        · rw [List.mem_singleton] at h
          subst h
          rcases hxm with h | h | h | h <;> omega
    · rintro σ H' ⟨v5, v6, o', ls, rfl, hb, hA, hs, hf, hn, hl, hr⟩
      refine ⟨_, rfl, fl, _, rfl, .inl ⟨SqL.of hf, fun p np => ?_⟩⟩
      have npa : a ≠ p := ne_of_none hA np
      exact k p ls o' _ (hb.new np) (by rw [upd_ne npa]; exact hA) hs (hb.free np npa.symm) upd_same (by rw [hl, List.length_map]) hr
end
end Mx

set_option Elab.async false
set_option maxRecDepth 100000
set_option linter.all false
/-! the laws' common helpers -/
namespace Mx
open PySem PySem.Spec PyProof.Rows L2
structure TopL (K : PySem.W.Frag) (mg : Str → Option Value) : Prop where
  lsource : Has K mg "_law_source" sLSource ["script", "k"]
  pick : Has K mg "_law_pick" sPick ["source", "size"]
  part : Has K mg "_law_part" sPart ["source", "names", "levels", "top"]
  mixNames : Has K mg "_law_mixed_names" sMixNames ["source", "most"]
  tree : Has K mg "_law_tree" sTree ["source", "most", "top"]
  names : Has K mg "_law_names" sLNames ["tree"]
structure LibL (P : Program) (w : World) (K : PySem.W.Frag) (mg : Str → Option Value) (base : Heap) : Prop where
  lsource : Pr P w K mg base CX0 1 "_law_source" sLSource ["script", "k"] (spLSource K)
  pick : Pr P w K mg base CX0 1 "_law_pick" sPick ["source", "size"] spPick
  tree : Pr P w K mg base CX0 7 "_law_tree" sTree ["source", "most", "top"] (spTree K)
  names : Pr P w K mg base CX0 6 "_law_names" sLNames ["tree"] (spNames K 4)
theorem libL_of {P : Program} {w : World} {K : PySem.W.Frag} {mg : Str → Option Value} {base : Heap} (B : Blt mg) (T : TopL K mg) : LibL P w K mg base := by
  obtain ⟨f1, d1, D1⟩ := T.lsource
  obtain ⟨f2, d2, D2⟩ := T.pick
  obtain ⟨f3, d3, D3⟩ := T.part
  obtain ⟨f4, d4, D4⟩ := T.mixNames
  obtain ⟨f5, d5, D5⟩ := T.tree
  obtain ⟨f6, d6, D6⟩ := T.names
  have G2 := ok_pick (P := P) (w := w) (mg := mg) (base := base) D2.fn
  have G3 := ok_part D3 B D2 G2 4
  have G4 := ok_mixNames D4.fn B D2 G2
  exact ⟨⟨f1, d1, D1, ok_lsource D1.fn B⟩, ⟨f2, d2, D2, G2⟩, ⟨f5, d5, D5, ok_tree D5.fn D2 G2 D4 G4 D3 G3⟩, ⟨f6, d6, D6, ok_lnames D6 B 4⟩⟩
end Mx

set_option Elab.async false
set_option maxRecDepth 100000
set_option linter.all false
/-! law_k16: its helpers -/
namespace Mx
open PySem PySem.Spec PyProof.Rows L2 L2H
theorem Lim.feeds {n m : Str} {t : Tr} {k : Nat} (h : Lim n m t k) : n ∈ t.names ∧ m ∈ t.names := by
  cases h with
  | here hi hj hn hm ne => exact ⟨names_part (List.mem_of_getElem? hi) hn, names_part (List.mem_of_getElem? hj) hm⟩
  | deep hi hn hm h => exact ⟨names_part (List.mem_of_getElem? hi) hn, names_part (List.mem_of_getElem? hi) hm⟩
/-- there is one limit -/
theorem Lim.one {n m : Str} {t : Tr} {k : Nat} (h : Lim n m t k) : ∀ {k2 : Nat}, t.names.Nodup → Lim n m t k2 → k = k2 := by
  induction h with
  | @here ps i j P Q hi hj hn hm ne =>
    intro k2 nd h2
    cases h2 with
    | here => rfl
    | @deep _ i2 k3 P2 hi2 hn2 hm2 h3 =>
      have e1 : i2 = i := Classical.byContradiction fun c => other_part nd hi2 hi c hn2 hn
      have e2 : i2 = j := Classical.byContradiction fun c => other_part nd hi2 hj c hm2 hm
      exact absurd (e1.symm.trans e2) ne
  | @deep ps i k P hi hn hm h ih =>
    intro k2 nd h2
    cases h2 with
    | @here _ i2 j2 P2 Q2 hi2 hj2 hn2 hm2 ne2 =>
      have e1 : i = i2 := Classical.byContradiction fun c => other_part nd hi hi2 c hn hn2
      have e2 : i = j2 := Classical.byContradiction fun c => other_part nd hi hj2 c hm hm2
      exact absurd (e1.symm.trans e2) ne2
    | @deep _ i2 k3 P2 hi2 hn2 hm2 h3 =>
      have e1 : i = i2 := Classical.byContradiction fun c => other_part nd hi hi2 c hn hn2
      subst e1
      rw [hi] at hi2
      cases hi2
      rw [ih (nodup_part nd (List.mem_of_getElem? hi)) h3]
def spIsInt : Sp := fun vs H Q _ => ∃ x lo hi : Int, vs = [.int x, .int lo, .int hi] ∧ Q (.bl (decide (lo ≤ x) && decide (x ≤ hi))) H
/-- the words of an outcome of push -/
def spOutc16 (K : PySem.W.Frag) : Sp := fun vs H Q _ => ∃ (v x y : V) (tl : Addr) (t : Tr) (ls : List Int), vs = [v, .ref tl, x, y] ∧ TrAt K H 4 v t ∧ TreeV t ∧ SqT K H tl (ls.map V.int) ∧ LenOk t ls ∧
  NameAsk t x (fun n => (Lof t.names ls n = 60 → ∀ H', Same H H' → Q (.str "many") H') ∧ (Lof t.names ls n < 60 → ItemAsk K H t ls y (fun m _ => (m = n → ∀ H', Same H H' → Q (.str "item") H') ∧ (m ≠ n → ∀ H', Same H H' → Q (.str "fine") H')) (∀ H', Same H H' → Q (.str "item") H')))
    (∀ H', Same H H' → Q (.str "name") H')
section
variable {P : Program} {w : World} {K : PySem.W.Frag} {mg : Str → Option Value} {base : Heap} {C : Nat → Addr}
theorem scIsInt : FnScope ["value", "low", "high"] ["value", "low", "high"] (defScope s_law_is_integer) := ⟨rfl, rfl, rfl, by decide +kernel, rfl, by decide +kernel, by decide +kernel⟩
theorem ok_isInt {f : Addr} {fd : FuncData} (F : Fun K "_law_is_integer" "_law_is_integer" s_law_is_integer f fd) (B : Blt mg) : FnOk P w K mg base CX0 1 f fd ["value", "low", "high"] spIsInt := by
  refine F.ok scIsInt (fun vs H Q E h => ?_) (fun cdv A outer s H vs Q E hr h => ?_)
  · obtain ⟨x, lo, hi, rfl, _⟩ := h
    rfl
  · obtain ⟨x, lo, hi, rfl, k⟩ := h
    refine ⟨_, pss_one (ps_ret (pe_and (pe_callB call_isi (by rfl) B.isinstance (by decide +kernel) (pa_cons (pv 0) (pa_cons (pe_bltn (v := .ty "int") (by rfl) B.int (by decide +kernel) rfl) pa_nil)))
      (pe_and (pe_not (pe_callB call_isi (by rfl) B.isinstance (by decide +kernel) (pa_cons (pv 0) (pa_cons (pe_bltn (v := .ty "bool") (by rfl) B.bool (by decide +kernel) rfl) pa_nil))))
      (pe_and (pe_cmpR op_le (pv 1) (pv 0) (nomark _)) (pe_one (pe_cmpR op_le (pv 0) (pv 2) (nomark _))))))), ?_⟩
    refine ⟨_, rfl, _, _, _, _, true, rfl, .ty _, .base (.int x), kit_ty (by decide +kernel), _, rfl, ?_⟩
    refine ⟨_, rfl, _, _, _, _, false, rfl, .ty _, .base (.int x), kit_ty (by decide +kernel), _, rfl, _, rfl, ?_⟩
    refine ⟨_, rfl, _, rfl, _, _, rfl, rfl, _, rfl, ?_⟩
    cases c : decide (lo ≤ x) with
    | false =>
      rw [c, Bool.false_and] at k
      exact k
    | true =>
      rw [c, Bool.true_and] at k
      exact ⟨_, rfl, _, rfl, _, _, rfl, rfl, k⟩
def nLL : List Str := ["tree", "one", "other", "weight", "part", "names", "inner", "total", "pair"]
theorem scLL : FnScope nLL ["tree", "one", "other"] (defScope s_law_limit) := ⟨rfl, rfl, rfl, by decide +kernel, rfl, by decide +kernel, by decide +kernel⟩
theorem llimit_step {d : Nat} {f fN : Addr} {fd fdN : FuncData} (F : Def K mg "_law_limit" s_law_limit ["tree", "one", "other"] f fd) (B : Blt mg) (DN : Def K mg "_law_names" sLNames ["tree"] fN fdN) (GN : FnOk P w K mg base CX0 6 fN fdN ["tree"] (spNames K 4))
    (GR : FnOk P w K mg base CX0 (d + 8) f fd ["tree", "one", "other"] (pre (spLimitIn K) d)) : FnOk P w K mg base CX0 (d + 9) f fd ["tree", "one", "other"] (spLimitIn K d) := by
  refine F.fn.ok scLL (fun vs H Q E h => ?_) (fun cdv A outer s H vs Q E hr h => ?_)
  · obtain ⟨v, n, m, t, rfl, _⟩ := h
    rfl
  · obtain ⟨v, n, m, t, rfl, hd, hT, hW, hlen, nd, ne, hn, hm, k⟩ := h
    have hr6 : Room 6 _ := hr.mono (by omega)
    refine ⟨_, pss_cons (ps_for PassesOwn.never rfl (pi_tup (pv 0)) (pg_tup rfl (pgs_cons (pg_name (i := 3) scLL.nd rfl (Or.inl rfl)) (pgs_cons (pg_name (i := 4) scLL.nd rfl (Or.inl rfl)) pgs_nil)))
        (pss_cons (ps_set (i := 5) scLL.nd rfl (Or.inl rfl) (pe_call GN hr6 rfl DN.mg DN.fn.kp DN.b .nil pass0 (pa_cons (pv 4) pa_nil)))
        (pss_one (ps_if (PW.pt (pw_and (pt_cmpR op_in_seq (pv 1) (pv 5) (by rfl)) (pw_and1 (pt_cmpR op_in_seq (pv 2) (pv 5) (by rfl)))))
          (pss_cons (ps_set (i := 6) scLL.nd rfl (Or.inl rfl) (pe_call GR hr rfl F.mg F.fn.kp F.b .nil pass0 (pa_cons (pv 4) (pa_cons (pv 1) (pa_cons (pv 2) pa_nil)))))
          (pss_cons (ps_set (i := 7) scLL.nd rfl (Or.inl rfl) (pe_op op_sub (pe_callB (cr_sum rfl) (by rfl) B.sum (by decide +kernel) (pa_cons
            (pe_lc (own := [("pair", 8)]) (g := gName 8) (tt := tYes) (by rfl) scLL.nd (pi_tup (pv 0)) (blkOk_by (own := [("pair", 8)]) (N := nLL) (sc := defScope s_law_limit) (by decide +kernel))
              (fun _ _ _ _ _ => pg_name (i := 8) scLL.nd rfl (Or.inl rfl)) (fun _ _ _ _ _ => pts_nil) (fun _ _ _ _ _ => pe_ix (r := rIxT K) ix_tup (pv 8) pe_int (fun _ _ => rfl))) pa_nil)) (pv 3)))
          (pss_one (ps_ret (pe_op op_add (pv 6) (pe_op op_mul (pv 7) (pe_op op_add (pe_op op_fdivNN (pv 6) (pv 3)) (pe_callTy call_int1 (by rfl) B.int (by decide +kernel) (pa_cons (pe_cmpR op_gt (pe_op op_mod (pv 6) (pv 3)) pe_int (nomark _)) pa_nil))))))))) pss_nil))))
      (pss_one (ps_ret pe_int)), ?_⟩
    cases t with
    | feed s0 =>
      rw [Tr.names_feed, List.mem_singleton] at hn hm
      exact absurd (hn.trans hm.symm) ne
    | mix ps =>
      cases d with
      | zero => exact (TrAt_zero hT).elim
      | succ e =>
        obtain ⟨a, xs, rfl, hs, hP⟩ := TrAt_mix.mp hT
        have hw : ps ≠ [] ∧ ps.length ≤ 5 ∧ ∀ p ∈ ps, 1 ≤ p.1 ∧ p.1 ≤ 9 ∧ p.2.wf e := by unfold Tr.wf at hW; exact hW
        refine ⟨_, rfl, a, rfl, ⟨_, hs⟩, for_tup (K := K) (a := a) (xs := xs) (fun i σ H' => ∃ v3 v4 v5 v6 v7 v8 : Option V, σ = [some (.ref a), some (.str n), some (.str m), v3, v4, v5, v6, v7, v8] ∧ Same H H' ∧ ∀ (j : Nat) (Q : Int × Tr), j < i → ps[j]? = some Q → ¬ (n ∈ Q.2.names ∧ m ∈ Q.2.names)) ?_ ?_ ?_ ?_⟩
        · exact ⟨_, _, _, _, _, _, rfl, Same.refl _, fun j Q hj => absurd hj (Nat.not_lt_zero _)⟩
        · rintro i σ H' _ ⟨v3, v4, v5, v6, v7, v8, rfl, hS, _⟩
          exact sqT_same hS _ _ hs
        · rintro i x σ H' hx ⟨v3, v4, v5, v6, v7, v8, rfl, hS, hno⟩
          have hip : i < ps.length := by rw [← hP.1]; exact (List.getElem?_eq_some_iff.mp hx).1
          have hpi := List.getElem?_eq_getElem hip
          have hpm := List.getElem_mem hip
          obtain ⟨b, y, rfl, hb, hy⟩ := hP.2 i x _ hx hpi
          obtain ⟨hw1, hw9, hwe⟩ := hw.2.2 _ hpm
          refine ⟨b, _, rfl, sqT_same hS _ _ hb, rfl, _, _, rfl, _, _, rfl, rfl, ?_⟩
          refine ⟨_, rfl, y, ps[i].2, rfl, TrAt.mono e 4 (by omega) (TrAt.keep (sqT_same hS) _ hy), Tr.wf_mono e 4 (by omega) hwe, by have := part_len hpm; omega, fun q H2 S2 nq hq => ?_⟩
          have S12 := hS.trans S2
          have step : ∀ (c : ¬ (n ∈ ps[i].2.names ∧ m ∈ ps[i].2.names)) (j : Nat) (Q : Int × Tr), j < i + 1 → ps[j]? = some Q → ¬ (n ∈ Q.2.names ∧ m ∈ Q.2.names) := fun c j Q hj hQ => by
            rcases Nat.lt_or_ge j i with h | h
            · exact hno j Q h hQ
            · have ej : j = i := by omega
              subst ej
              rw [hpi] at hQ
              cases hQ
              exact c
          refine ⟨_, rfl, _, rfl, q, _, rfl, .inl (SqL.of hq), rfl, flat_strs, _, rfl, ?_⟩
          refine ite2 (fun c => ?_) (fun c => ?_)
          · have c' : inV (.str n) (ps[i].2.names.map V.str) = true := c
            rw [inV_strs] at c'
            have c1 := of_decide_eq_true c'
            refine ⟨_, rfl, _, rfl, q, _, rfl, .inl (SqL.of hq), rfl, flat_strs, _, rfl, ?_⟩
            refine ite2 (fun c => ?_) (fun c => ?_)
            · have c' : inV (.str m) (ps[i].2.names.map V.str) = true := c
              rw [inV_strs] at c'
              have c2 := of_decide_eq_true c'
              refine ⟨_, rfl, _, rfl, _, rfl, y, n, m, ps[i].2, rfl, by omega, TrAt.keep (sqT_same S12) _ hy, hwe, by have := part_len hpm; omega, nodup_part nd hpm, ne, c1, c2, fun kk H3 S3 hk => ?_⟩
              have S13 := S12.trans S3
              refine ⟨_, rfl, a, rfl, ⟨_, sqT_same S13 _ _ hs⟩, fun D nD => ?_⟩
              refine lc_tup (K := K) (a := a) (xs := xs) (fun i H' => Same H3 H' ∧ H' D = some (.lst ((wts (ps.take i)).map V.int))) ?_ ?_ ?_ ?_
              · exact ⟨Same.new (Same.refl _) nD, upd_same⟩
              · rintro i2 H' _ ⟨hS', _⟩
                exact sqT_same (S13.trans hS') _ _ hs
              · rintro i2 x2 H' hx2 ⟨hS', hD⟩
                have hi2 : i2 < ps.length := by rw [← hP.1]; exact (List.getElem?_eq_some_iff.mp hx2).1
                have hpi2 : ps[i2]? = some ps[i2] := List.getElem?_eq_getElem hi2
                obtain ⟨b2, y2, rfl, hb2, hy2⟩ := hP.2 i2 x2 _ hx2 hpi2
                refine ⟨rfl, ?_⟩
                refine ⟨_, rfl, b2, _, _, _, rfl, rfl, sqT_same (S13.trans hS') _ _ hb2, rfl, _, hD, by unfold wts; rw [List.length_map, List.length_map, List.length_take]; exact small1000 (by omega), Same.own hS' nD, ?_⟩
                unfold wts
                rw [upd_same, take_succ_of hpi2, List.map_append, List.map_append]
                rfl
              · rintro H4 ⟨S4, hD⟩
                rw [List.take_of_length_le (by rw [hP.1]; exact Nat.le_refl _)] at hD
                refine ⟨D, _, rfl, SqL.of hD, ?_⟩
                rw [wts_sum fun p hp => (hw.2.2 p hp).1]
                have hge := wts_ge hpm
                have hle := wts_le (ps := ps) fun p hp => (hw.2.2 p hp).2.1
                refine ⟨_, rfl, _, _, rfl, rfl, ?_⟩
                refine ⟨_, rfl, _, rfl, _, rfl, _, rfl, kk, ps[i].1.toNat, rfl, (by rw [Int.toNat_of_nonneg (by omega)]), ⟨by omega, by omega⟩, ?_⟩
                refine ⟨_, rfl, _, rfl, _, _, rfl, rfl, (by omega), _, _, rfl, rfl, .inr ⟨_, rfl, _, _, rfl, rfl, _, _, rfl, rfl, .inl ⟨by omega, by omega⟩, _, _, rfl, rfl, ?_⟩⟩
                have z := k _ H4 (S13.trans S4) (Lim.deep hpi c1 c2 hk)
                have em : decide ((kk : Int) % ps[i].1 > 0) = decide (kk % ps[i].1.toNat > 0) := by
                  obtain ⟨wn, ewn⟩ : ∃ wn : Nat, ps[i].1 = (wn : Int) := ⟨ps[i].1.toNat, by omega⟩
                  rw [ewn, Int.toNat_natCast, ← Int.natCast_emod]
                  generalize kk % wn = r
                  exact decide_eq_decide.mpr (by omega)
                dsimp only
                rw [em]
                rw [Int.natCast_add, Int.natCast_mul, Int.natCast_sub hge, Int.toNat_of_nonneg (by omega), Int.natCast_add] at z
                by_cases c0 : kk % ps[i].1.toNat > 0
                · rw [if_pos c0] at z
                  rw [decide_eq_true c0]
                  exact z
                · rw [if_neg c0] at z
                  rw [decide_eq_false c0]
                  exact z
            · have c' : ¬ inV (.str m) (ps[i].2.names.map V.str) = true := c
              rw [inV_strs] at c'
              exact ⟨_, _, _, _, _, _, rfl, S12, step fun h => c' (decide_eq_true h.2)⟩
          · have c' : ¬ inV (.str n) (ps[i].2.names.map V.str) = true := c
            rw [inV_strs] at c'
            exact ⟨_, _, _, _, _, _, rfl, S12, step fun h => c' (decide_eq_true h.1)⟩
        · rintro σ H1 ⟨v3, v4, v5, v6, v7, v8, rfl, S1, hno⟩
          rw [hP.1] at hno
          obtain ⟨j1, P1, hj1, hn1, _⟩ := first_part (part_of hn)
          obtain ⟨j2, P2, hj2, hm2, _⟩ := first_part (part_of hm)
          refine k 1 H1 S1 (Lim.here hj1 hj2 hn1 hm2 fun ej => ?_)
          subst ej
          rw [hj1] at hj2
          cases hj2
          exact hno j1 _ (List.getElem?_eq_some_iff.mp hj1).1 hj1 ⟨hn1, hm2⟩
theorem ok_llimit {f fN : Addr} {fd fdN : FuncData} (F : Def K mg "_law_limit" s_law_limit ["tree", "one", "other"] f fd) (B : Blt mg) (DN : Def K mg "_law_names" sLNames ["tree"] fN fdN) (GN : FnOk P w K mg base CX0 6 fN fdN ["tree"] (spNames K 4)) :
    ∀ d : Nat, FnOk P w K mg base CX0 (d + 9) f fd ["tree", "one", "other"] (spLimitIn K d)
  | 0 => llimit_step F B DN GN (F.fn.ok (k := 7) scLL (fun _ _ _ _ h => h.elim) (fun _ _ _ _ _ _ _ _ _ h => h.elim))
  | d + 1 => llimit_step F B DN GN (ok_llimit F B DN GN d)
theorem scOut16 : FnScope ["tree", "lengths", "name", "item", "e"] ["tree", "lengths", "name", "item"] (defScope sOutcome) := ⟨rfl, rfl, rfl, by decide +kernel, rfl, by decide +kernel, by decide +kernel⟩
theorem ok_outc16 {f fE fP : Addr} {fd dE dP : FuncData} (F : Fun K "_law_outcome" "_law_outcome" sOutcome f fd) (B : Blt mg) (Er : ErrAll K mg C) (DE : Def K mg "_law_error_name" sErrName ["e"] fE dE) (DP : Def K mg "push" s_push ["tree", "lengths", "name", "item"] fP dP) (GP : FnOk P w K mg base (L2N.CX P w) 16 fP dP ["tree", "lengths", "name", "item"] (spPush K (C 2) (C 1) (C 8) (C 3))) :
    FnOk P w K mg base CX0 17 f fd ["tree", "lengths", "name", "item"] (spOutc16 K) := by
  have GE : FnE P w K mg base 1 fE dE ["e"] (spErr K C) := ok_errName DE.fn B Er.cs
  have h1 := Er.d 1 (by decide)
  have h3 := Er.d 3 (by decide)
  have h8 := Er.d 8 (by decide)
  refine F.ok scOut16 (fun vs H Q E h => ?_) (fun cdv A outer s H vs Q E hr h => ?_)
  · obtain ⟨v, x, y, tl, t, ls, rfl, _⟩ := h
    rfl
  · obtain ⟨v, x, y, tl, t, ls, rfl, hT, hV, hs, hL, h⟩ := h
    refine ⟨_, pss_cons (L2N.ps_try_as (i := 4) rfl rfl scOut16.nd rfl rfl ⟨rfl, by decide, .inl Er.cs.g11⟩ takes0N
        (fun W pn xe tk _ => pss_one (ps_expr (pe_callS GP hr rfl DP.mg DP.fn.kp DP.b (fun σ => L2N.passAt tk σ) (pa_cons (pv 0) (pa_cons (pv 1) (pa_cons (pv 2) (pa_cons (pv 3) pa_nil)))))))
        (fun a oe cls d pn hz hf => suite_err (i := 4) GE DE (roomH_of (hr.mono (by decide))) (by rfl) (by rfl) (by exact .inl rfl) a oe cls d pn hz hf))
      (pss_one (ps_ret pe_str)), ?_⟩
    refine ⟨_, rfl, _, rfl, _, rfl, _, rfl, v, .ref tl, x, y, t, rfl, hT, hV, .good hs hV hL ?_⟩
    rcases h.cases with ⟨n, rfl, hn, g60, g⟩ | ⟨hf, no, b⟩
    · refine .good hn ⟨fun e H' S => ⟨true, Er.m 8 (by decide), fun _ a ha => ⟨rfl, 8, rfl, rfl, h8, fun H2 S2 => g60 e H2 (S.trans S2)⟩, fun z => nomatch z⟩, fun lt => ?_⟩
      rcases (g lt).split with ⟨q, m, i, rfl, hq, hm, hi, gs, gd⟩ | ⟨no, b⟩
      · exact .good hq hm hi ⟨fun e H' S => ⟨true, Er.m 3 (by decide), fun _ a ha => ⟨rfl, 3, rfl, rfl, h3, fun H2 S2 => gs e H2 (S.trans S2)⟩, fun z => nomatch z⟩, fun ne j p p' H' S _ _ _ => gd ne H' S⟩
      · exact .bad no fun H' S => ⟨true, Er.m 3 (by decide), fun _ a ha => ⟨rfl, 3, rfl, rfl, h3, fun H2 S2 => b H2 (S.trans S2)⟩, fun z => nomatch z⟩
    · exact .bad hf no fun H' S => ⟨true, Er.m 1 (by decide), fun _ a ha => ⟨rfl, 1, rfl, rfl, h1, fun H2 S2 => b H2 (S.trans S2)⟩, fun z => nomatch z⟩
end
end Mx

set_option Elab.async false
set_option maxRecDepth 100000
set_option linter.all false
/-! law_k16 -/
namespace Mx
open PySem L2
theorem But.keepU {a : Addr} {H H' : Hp} {o : HO} (e : H a = some o) (s : SrcO o) (b : But a H H') : KeepU H H' := fun c xs h => by
  obtain ⟨_, _, _, rfl, _⟩ := s
  exact b c _ h (ne_of h e (by intro z; cases z))
def spAny (sp : (Str → Nat) → Sp) : Sp := fun vs H Q E => ∃ L, sp L vs H Q E
theorem ok_any {P : Program} {w : World} {K : PySem.W.Frag} {mg : Str → Option Value} {base : Heap} {CX : CXT} {k : Nat} {f : Addr} {fd : FuncData} {ps : List Str} {sp : (Str → Nat) → Sp} (F : ∀ L, FnOk P w K mg base CX k f fd ps (sp L)) : FnOk P w K mg base CX k f fd ps (spAny sp) :=
  ⟨fun vs H Q E ⟨L, h⟩ => (F L).len vs H Q E h, fun A outer s H args us vs Q E r e b v ⟨L, h⟩ => (F L).run A outer s H args us vs Q E r e b v h⟩
/-- lengths[:at] + (60,) + lengths[at + 1:] -/
def tFull (K : PySem.W.Frag) (i j : Nat) (y : Int) : TE := fun σ H Q => ∃ (tl : Addr) (ls : List Int) (a : Nat), σ[i]? = some (some (.ref tl)) ∧ σ[j]? = some (some (.int (a : Nat))) ∧ SqT K H tl (ls.map V.int) ∧ ls.length ≤ 1000 ∧ a < ls.length ∧
  ∀ r H', Same H H' → SqT K H' r ((ls.set a y).map V.int) → Q (.ref r) H'
theorem set_cut {α : Type} {ls : List α} {a : Nat} {y : α} (h : a < ls.length) : ls.take a ++ ([y] ++ ls.drop (a + 1)) = ls.set a y := by
  rw [List.set_eq_take_append_cons_drop, if_pos h]
  rfl
theorem full_ok {K : PySem.W.Frag} {i j : Nat} {y : Int} (σ : St) (H : Hp) (Q : VK) (h : tFull K i j y σ H Q) :
    (tOp (rCatA K) (tOp (rCatA K) (tSl (rSlT K) (tVar i) tNoPart (tPart (tVar j))) (tTup (tCons (tC (.int y)) tNil))) (tSl (rSlT K) (tVar i) (tPart (tOp (rI0 fun i j => V.int (i + j)) (tVar j) (tC (.int 1)))) tNoPart)) σ H Q := by
  obtain ⟨tl, ls, a, hi, hj, hs, hl, ha, k⟩ := h
  have hll : (ls.map V.int).length = ls.length := List.length_map ..
  refine ⟨_, hi, _, hj, _, rfl, tl, _, rfl, hs, ?_, fun q1 nq1 => ?_⟩
  · intro z
    have z2 := z.2
    rw [HT.sIx_nat, hll] at z2
    omega
  rw [cut_to (by rw [hll]; omega)]
  have S1 : Same H (L2.upd H q1 (.tup ((ls.map V.int).take a))) := Same.new (Same.refl _) nq1
  have h1 : (L2.upd H q1 (.tup ((ls.map V.int).take a))) q1 = some (.tup ((ls.map V.int).take a)) := upd_same
  obtain ⟨H1, e1⟩ : ∃ H1, H1 = L2.upd H q1 (.tup ((ls.map V.int).take a)) := ⟨_, rfl⟩
  rw [← e1] at S1 h1 ⊢
  refine ⟨by show 1 ≤ sizeLine; decide, fun q2 nq2 => ?_⟩
  have S2 : Same H1 (L2.upd H1 q2 (.tup [.int y])) := Same.new (Same.refl _) nq2
  have h2 : (L2.upd H1 q2 (.tup [.int y])) q2 = some (.tup [.int y]) := upd_same
  show rCatA K _ _ (L2.upd H1 q2 (.tup [.int y])) _
  obtain ⟨H2, e2⟩ : ∃ H2, H2 = L2.upd H1 q2 (.tup [.int y]) := ⟨_, rfl⟩
  rw [← e2] at S2 h2 ⊢
  have S02 := S1.trans S2
  have l1000 : (ls.map V.int).length < sizeLine := by rw [hll]; exact small1000 (by omega)
  have e3 : ((a : Int) + 1) = ((a + 1 : Nat) : Int) := by omega
  have e5 : (ls.map V.int).take a ++ [V.int y] ++ (ls.map V.int).drop (a + 1) = (ls.set a y).map V.int := by
    rw [← set_cut ha, List.map_append, List.map_append, List.map_take, List.map_drop, List.append_assoc]
    rfl
  have last : ∀ (r : Addr) (H3 : Hp), Same H H3 → SqT K H3 r ((ls.map V.int).take a ++ [.int y]) → (tSl (rSlT K) (tVar i) (tPart (tOp (rI0 fun i j => V.int (i + j)) (tVar j) (tC (.int 1)))) tNoPart) σ H3 (fun y H4 => rCatA K (.ref r) y H4 Q) := fun r H3 S3 hr3 => by
    refine ⟨_, hi, _, hj, _, _, rfl, rfl, _, rfl, tl, _, rfl, sqT_same S3 _ _ hs, ?_, fun q4 nq4 => ?_⟩
    · intro z
      have z1 := z.1
      rw [e3, HT.sIx_nat, hll] at z1
      omega
    rw [e3, cut_from (by rw [hll]; omega)]
    have S4 : Same H3 (L2.upd H3 q4 (.tup ((ls.map V.int).drop (a + 1)))) := Same.new (Same.refl _) nq4
    refine ⟨r, q4, _, _, rfl, rfl, sqT_same S4 _ _ hr3, SqT.of upd_same, ?_, fun z => by simp at z, fun _ z => ?_, fun _ _ p np => ?_⟩
    · rw [← List.length_append, e5, List.length_map, List.length_set, ← hll]
      exact Nat.le_of_lt l1000
    · have e6 := e5
      rw [z, List.append_nil] at e6
      rw [e6] at hr3
      exact k r _ (S3.trans S4) (sqT_same S4 _ _ hr3)
    · refine k p _ (Same.new (S3.trans S4) np) (SqT.of ?_)
      rw [upd_same, e5]
  refine ⟨q1, q2, _, _, rfl, rfl, SqT.of (S2 _ _ h1), SqT.of h2, ?_, fun z => ?_, fun _ z => by simp at z, fun z _ p np => ?_⟩
  · rw [List.length_take]
    show min a _ + 1 ≤ sizeLine
    rw [hll] at l1000 ⊢
    omega
  · refine last q2 H2 S02 ?_
    rw [z, List.nil_append]
    exact SqT.of h2
  · exact last p _ (Same.new S02 np) (SqT.of upd_same)
theorem set_ok {t : Tr} {ls : List Int} {j : Nat} (hL : LenOk t ls) : LenOk t (ls.set j 60) := ⟨by rw [List.length_set]; exact hL.len, fun l hl => by
  rcases List.mem_or_eq_of_mem_set hl with h | h
  · exact hL.le l h
  · omega⟩
theorem Lof_set {t : Tr} {ls : List Int} {n : Str} {j : Nat} (nd : t.names.Nodup) (hL : LenOk t ls) (hj : t.names[j]? = some n) : Lof t.names (ls.set j 60) n = 60 := by
  have ok := set_ok (j := j) hL
  have z := Lof_get ok.len.symm nd hj fun l hl => (ok.le l hl).1
  have hjl : j < ls.length := by rw [hL.len]; exact (List.getElem?_eq_some_iff.mp hj).1
  rw [List.getElem?_set_self hjl] at z
  have := Option.some.inj z
  omega
section
variable {P : Program} {w : World} {K : PySem.W.Frag} {mg : Str → Option Value} {base : Heap}
def n16 : List Str := ["script", "k", "source", "tree", "names", "lengths", "table", "output", "at", "name", "more", "later", "turn", "item", "moved", "most", "full", "words", "deep", "odd"]
theorem sc16 : FnScope n16 ["script"] (defScope sLaw) := ⟨rfl, rfl, rfl, by decide +kernel, rfl, by decide +kernel, by decide +kernel⟩
def T16 : Tr := .mix [(1, .mix [(1, .feed "a"), (1, .feed "b")]), (3, .feed "c")]
theorem T16_names : T16.names = (["a", "b", "c"] : List Str) := by
  unfold T16
  simp [Tr.names_mix, Tr.names_feed]
theorem T16_ok : TreeOk T16 := by
  refine ⟨?_, by rw [T16_names]; decide +kernel, by rw [T16_names]; decide +kernel, by rw [T16_names]; decide, by rw [T16_names]; simp⟩
  unfold T16
  simp [Tr.wf]
theorem T16_out : (T16.out (Lof T16.names [0, 1, 6]))[0]? = some (("b", 0) : Item) := by
  rw [T16_names]
  decide +kernel
theorem T16_out2 : (T16.out (Lof T16.names (inc 0 [0, 1, 6])))[4]? = some (("b", 0) : Item) := by
  rw [T16_names]
  decide +kernel
theorem T16_lim : Lim "a" "b" T16 4 := Lim.deep (i := 0) (P := (1, .mix [(1, .feed "a"), (1, .feed "b")])) (k := 1) rfl (by decide +kernel) (by decide +kernel) (Lim.here (i := 0) (j := 1) (P := (1, .feed "a")) (Q := (1, .feed "b")) rfl rfl (by decide +kernel) (by decide +kernel) (by decide))
theorem words_dp {K : PySem.W.Frag} {H : Hp} {p : Addr} {ns : List Str} (h : SqL K H p (ns.map V.str)) : Dp K H (.ref p) (.list (ns.map PyData.str)) := .lst h (strs_dp ns)
set_option maxHeartbeats 8000000 in
theorem ok_law16 {f : Addr} {fd : FuncData} {C : Nat → Addr} (F : Fun K "law" "law" sLaw f fd) (B : Blt mg) (LL : LibL P w K mg base)
    (PLn : Pr P w K mg base CX0 7 "_law_lengths" sLengths ["source", "tree", "most"] (spLengths K)) (PTb : Pr P w K mg base CX0 7 "_law_table" sTable ["tree", "lengths"] (spTable K)) (POu : Pr P w K mg base CX0 6 "_law_output" sOutput ["tree", "table"] (spAny fun L => spOutput K L 4))
    (POc : Pr P w K mg base CX0 17 "_law_outcome" sOutcome ["tree", "lengths", "name", "item"] (spOutc16 K)) (PIs : Pr P w K mg base CX0 1 "_law_is_integer" s_law_is_integer ["value", "low", "high"] spIsInt)
    (PPh : Pr P w K mg base (L2N.CX P w) 16 "push" s_push ["tree", "lengths", "name", "item"] (spPush K (C 2) (C 1) (C 8) (C 3))) (PPl : Pr P w K mg base (L2N.CX P w) 14 "push_limit" s_push_limit ["tree", "name", "other"] (spPushLimit K (C 1))) (PLl : Pr P w K mg base CX0 13 "_law_limit" s_law_limit ["tree", "one", "other"] (spLimitIn K 4)) :
    FnOk P w K mg base CX0 40 f fd ["script"] (spLaw K) := by
  obtain ⟨_, _, DS, GS⟩ := LL.lsource
  obtain ⟨_, _, DP, GP⟩ := LL.pick
  obtain ⟨_, _, DT, GT⟩ := LL.tree
  obtain ⟨_, _, DN, GN⟩ := LL.names
  obtain ⟨_, _, DLn, GLn⟩ := PLn
  obtain ⟨_, _, DTb, GTb⟩ := PTb
  obtain ⟨_, _, DOu, GOu⟩ := POu
  obtain ⟨_, _, DOc, GOc⟩ := POc
  obtain ⟨_, _, DIs, GIs⟩ := PIs
  obtain ⟨_, _, DPh, GPh⟩ := PPh
  obtain ⟨_, _, DPl, GPl⟩ := PPl
  obtain ⟨_, _, DLl, GLl⟩ := PLl
  refine F.ok sc16 (fun vs H Q E h => ?_) (fun cdv A outer s H vs Q E hr h => ?_)
  · obtain ⟨a, ns, rfl, _⟩ := h
    rfl
  · obtain ⟨a, ns, rfl, hs, hns, k⟩ := h
    refine ⟨_, pss_cons (ps_for PassesOwn.never rfl (pi_range1 (by rfl) B.range (pa_cons (pe_callB (call_max2 rfl) (by rfl) B.max (by decide +kernel) (pa_cons pe_int (pa_cons (pe_callB (call_min2 rfl) (by rfl) B.min (by decide +kernel) (pa_cons pe_int (pa_cons (pe_callB call_len_seq (by rfl) B.len PySem.boot_len (pa_cons (pv 0) pa_nil)) pa_nil))) pa_nil))) pa_nil)) (pg_name (i := 1) sc16.nd rfl (Or.inl rfl))
        (pss_cons (ps_set (i := 2) sc16.nd rfl (Or.inl rfl) (pe_call GS (hr.mono (by decide)) rfl DS.mg DS.fn.kp DS.b .nil pass0 (pa_cons (pv 0) (pa_cons (pv 1) pa_nil))))
          (pss_cons (ps_set (i := 3) sc16.nd rfl (Or.inr rfl) (pe_call GT (hr.mono (by decide)) rfl DT.mg DT.fn.kp DT.b .nil pass0 (pa_cons (pv 2) (pa_cons pe_int (pa_cons (pe_ix ix_list (pe_lst (pa_cons pe_int (pa_cons pe_int (pa_cons pe_int pa_nil)))) (pe_call GP (hr.mono (by decide)) rfl DP.mg DP.fn.kp DP.b .nil pass0 (pa_cons (pv 2) (pa_cons pe_int pa_nil))) (fun _ _ => rfl)) pa_nil)))))
          (pss_cons (ps_asg (pe_tup (pa_cons (pe_call GN (hr.mono (by decide)) rfl DN.mg DN.fn.kp DN.b .nil pass0 (pa_cons (pv 3) pa_nil)) (pa_cons (pe_call GLn (hr.mono (by decide)) rfl DLn.mg DLn.fn.kp DLn.b .nil pass0 (pa_cons (pv 2) (pa_cons (pv 3) (pa_cons (pe_ix ix_list (pe_lst (pa_cons pe_int (pa_cons pe_int (pa_cons pe_int pa_nil)))) (pe_call GP (hr.mono (by decide)) rfl DP.mg DP.fn.kp DP.b .nil pass0 (pa_cons (pv 2) (pa_cons pe_int pa_nil))) (fun _ _ => rfl)) pa_nil)))) pa_nil))) (pg_tup (by rfl) (pgs_cons (pg_name (i := 4) sc16.nd rfl (Or.inl rfl)) (pgs_cons (pg_name (i := 5) sc16.nd rfl (Or.inr rfl)) pgs_nil))))
          (pss_cons (ps_set (i := 6) sc16.nd rfl (Or.inl rfl) (pe_call GTb (hr.mono (by decide)) rfl DTb.mg DTb.fn.kp DTb.b .nil pass0 (pa_cons (pv 3) (pa_cons (pv 5) pa_nil))))
          (pss_cons (ps_set (i := 7) sc16.nd rfl (Or.inl rfl) (pe_call GOu (hr.mono (by decide)) rfl DOu.mg DOu.fn.kp DOu.b .nil pass0 (pa_cons (pv 3) (pa_cons (pv 6) pa_nil))))
          (pss_cons (ps_set (i := 8) sc16.nd rfl (Or.inl rfl) (pe_call GP (hr.mono (by decide)) rfl DP.mg DP.fn.kp DP.b .nil pass0 (pa_cons (pv 2) (pa_cons (pe_callB call_len_seq (by rfl) B.len PySem.boot_len (pa_cons (pv 4) pa_nil)) pa_nil))))
          (pss_cons (ps_par (i := 9) (j := 10) rfl sc16.nd rfl rfl (by decide) rfl rfl (pa_cons (pe_ix ix_list (pv 4) (pv 8) (fun _ _ => rfl)) (pa_cons (pe_callTy call_dictD (by rfl) B.dict (by decide +kernel) (pa_cons (pv 6) pa_nil)) pa_nil)) (by rfl))
          (pss_cons (ps_dput (hu_of hr) (pv 10) (pv 9) (pe_op op_add (pe_dget (hu_of hr) (pv 10) (pv 9) (fun _ _ => rfl)) pe_int) rfl)
          (pss_cons (ps_set (i := 11) sc16.nd rfl (Or.inl rfl) (pe_call GOu (hr.mono (by decide)) rfl DOu.mg DOu.fn.kp DOu.b .nil pass0 (pa_cons (pv 3) (pa_cons (pv 10) pa_nil))))
          (pss_cons (ps_for PassesOwn.never rfl (pi_range1 (by rfl) B.range (pa_cons (pe_callB (call_min2 rfl) (by rfl) B.min (by decide +kernel) (pa_cons pe_int (pa_cons (pe_callB call_len_seq (by rfl) B.len PySem.boot_len (pa_cons (pv 7) pa_nil)) pa_nil))) pa_nil)) (pg_name (i := 12) sc16.nd rfl (Or.inl rfl))
          (pss_cons (ps_set (i := 13) sc16.nd rfl (Or.inl rfl) (pe_ix ix_list (pv 7) (pe_call GP (hr.mono (by decide)) rfl DP.mg DP.fn.kp DP.b .nil pass0 (pa_cons (pv 2) (pa_cons (pe_callB call_len_seq (by rfl) B.len PySem.boot_len (pa_cons (pv 7) pa_nil)) pa_nil))) (fun _ _ => rfl)))
          (pss_cons (ps_set (i := 14) sc16.nd rfl (Or.inl rfl) (pe_op op_sub (pe_bm PySem.F.plainAttrs_list PySem.F.slot_list_index PySem.F.type_list_index (mt_indexD (u65 hr)) (pv 11) (pa_cons (pv 13) pa_nil)) (pe_bm PySem.F.plainAttrs_list PySem.F.slot_list_index PySem.F.type_list_index (mt_indexD (u65 hr)) (pv 7) (pa_cons (pv 13) pa_nil))))
          (pss_one (ps_if (pt_cmpR op_eq (pe_ix ix_tup (pv 13) pe_int (fun _ _ => rfl)) (pv 9) (nomark _))
            (pss_one (ps_if (PW.pt (pw_or (pt_cmpR op_ne (pv 14) pe_int (nomark _)) (pw_or1 (pt_cmpR op_ne (pe_call GOc (hr.mono (by decide)) rfl DOc.mg DOc.fn.kp DOc.b .nil pass0 (pa_cons (pv 3) (pa_cons (pv 5) (pa_cons (pv 9) (pa_cons (pv 13) pa_nil))))) pe_str (nomark _))))) (pss_one (ps_ret pe_bl)) pss_nil))
            (pss_cons (ps_if (pt_not (pt_val (pe_call GIs (hr.mono (by decide)) rfl DIs.mg DIs.fn.kp DIs.b .nil pass0 (pa_cons (pe_call GPh (hr.mono (by decide)) rfl DPh.mg DPh.fn.kp DPh.b .nil passN (pa_cons (pv 3) (pa_cons (pv 5) (pa_cons (pv 9) (pa_cons (pv 13) pa_nil))))) (pa_cons (pv 14) (pa_cons (pv 14) pa_nil)))))) (pss_one (ps_ret pe_bl)) pss_nil)
          (pss_cons (ps_set (i := 15) sc16.nd rfl (Or.inl rfl) (pe_call GPl (hr.mono (by decide)) rfl DPl.mg DPl.fn.kp DPl.b .nil passN (pa_cons (pv 3) (pa_cons (pv 9) (pa_cons (pe_ix ix_tup (pv 13) pe_int (fun _ _ => rfl)) pa_nil)))))
          (pss_one (ps_if (PW.pt (pw_or (pt_cmpR op_ne (pv 15) (pe_call GLl (hr.mono (by decide)) rfl DLl.mg DLl.fn.kp DLl.b .nil pass0 (pa_cons (pv 3) (pa_cons (pv 9) (pa_cons (pe_ix ix_tup (pv 13) pe_int (fun _ _ => rfl)) pa_nil)))) (nomark _)) (pw_or1 (pt_not (pt_chain op_le op_le pe_int (pv 14) (pv 15)))))) (pss_one (ps_ret pe_bl)) pss_nil)))))))))
          (pss_cons (ps_set (i := 16) sc16.nd rfl (Or.inl rfl) (PE.of (pe_op op_catA (pe_op op_catA (pe_slice sl_tup (pv 5) po_none (po_some (pv 8))) (pe_tup (pa_cons pe_int pa_nil))) (pe_slice sl_tup (pv 5) (po_some (pe_op op_add (pv 8) pe_int)) po_none)) full_ok))
          (pss_cons (ps_setLc (i := 17) (own := [("odd", 19)]) (g := gName 19) (tt := tYes) (by rfl) sc16.nd rfl rfl (sw_true rfl rfl rfl (by decide +kernel)) (pi_list (pe_lst (pa_cons pe_str (pa_cons pe_non (pa_cons pe_int pa_nil))))) (blkOk_by (own := [("odd", 19)]) (N := n16) (sc := defScope sLaw) (by decide +kernel))
            (fun _ _ _ _ _ => pg_name (i := 19) sc16.nd rfl (Or.inl rfl)) (fun _ _ _ _ _ => pts_nil) (fun _ _ _ _ _ => (pe_call GOc (hr.mono (by decide)) rfl DOc.mg DOc.fn.kp DOc.b .nil pass0 (pa_cons (pv 3) (pa_cons (pv 5) (pa_cons (pv 19) (pa_cons pe_non pa_nil)))))))
          (pss_cons (ps_set (i := 17) sc16.nd rfl (Or.inl rfl) (pe_op op_cat (pv 17) (pe_lst (pa_cons (pe_call GOc (hr.mono (by decide)) rfl DOc.mg DOc.fn.kp DOc.b .nil pass0 (pa_cons (pv 3) (pa_cons (pv 16) (pa_cons (pv 9) (pa_cons pe_non pa_nil))))) (pa_cons (pe_call GOc (hr.mono (by decide)) rfl DOc.mg DOc.fn.kp DOc.b .nil pass0 (pa_cons (pv 3) (pa_cons (pv 5) (pa_cons (pv 9) (pa_cons pe_non pa_nil))))) pa_nil)))))
          (pss_one (ps_if (pt_cmpR (op_neD hr.units) (pv 17) (pe_op op_cat (pe_op op_rep (pe_lst (pa_cons pe_str pa_nil)) pe_int) (pe_lst (pa_cons pe_str (pa_cons pe_str pa_nil)))) (nomark _)) (pss_one (ps_ret pe_bl)) pss_nil))))))))))))))))
      (pss_cons (ps_set (i := 18) sc16.nd rfl (Or.inl rfl) (pe_tup (pa_cons (pe_tup (pa_cons pe_int (pa_cons (pe_tup (pa_cons (pe_tup (pa_cons pe_int (pa_cons pe_str pa_nil))) (pa_cons (pe_tup (pa_cons pe_int (pa_cons pe_str pa_nil))) pa_nil))) pa_nil))) (pa_cons (pe_tup (pa_cons pe_int (pa_cons pe_str pa_nil))) pa_nil)))) (pss_one (ps_ret (pe_and (pe_cmpR op_eq (pe_call GPh (hr.mono (by decide)) rfl DPh.mg DPh.fn.kp DPh.b .nil passN (pa_cons (pv 18) (pa_cons (pe_tup (pa_cons pe_int (pa_cons pe_int (pa_cons pe_int pa_nil)))) (pa_cons pe_str (pa_cons (pe_tup (pa_cons pe_str (pa_cons pe_int pa_nil))) pa_nil))))) pe_int (nomark _)) (pe_one (pe_cmpR op_eq (pe_call GPl (hr.mono (by decide)) rfl DPl.mg DPl.fn.kp DPl.b .nil passN (pa_cons (pv 18) (pa_cons pe_str (pa_cons pe_str pa_nil)))) pe_int (nomark _))))))), ?_⟩
    refine ⟨_, rfl, a, _, rfl, .inl hs, _, _, rfl, _, _, rfl, _, rfl, (by (repeat' split) <;> omega), (by (repeat' split) <;> omega), for_range (lo := 0) (fun i σ H' => ∃ v1 v2 v3 v4 v5 v6 v7 v8 v9 v10 v11 v12 v13 v14 v15 v16 v17 v18 v19 : Option V, σ = [some (.ref a), v1, v2, v3, v4, v5, v6, v7, v8, v9, v10, v11, v12, v13, v14, v15, v16, v17, v18, v19] ∧ Same H H') ?_ ?_ ?_⟩
    · exact ⟨_, _, _, _, _, _, _, _, _, _, _, _, _, _, _, _, _, _, _, rfl, Same.refl _⟩
    · rintro i σ H0 hi ⟨v1, v2, v3, v4, v5, v6, v7, v8, v9, v10, v11, v12, v13, v14, v15, v16, v17, v18, v19, rfl, S0⟩
      have hi63 : i ≤ 63 := by
        revert hi
        (repeat' split) <;> (intro hi; omega)
      refine ⟨_, rfl, _, rfl, a, ns, _, rfl, S0.seq hs, by omega, by omega, fun sa o1 nsa hO1 H1 S1 hsa1 => ?_⟩
      refine ⟨_, rfl, by show 3 ≤ sizeLine; decide, fun l0 nl0 => ?_⟩
      have nl : sa ≠ l0 := ne_of_none hsa1 nl0
      refine ⟨_, rfl, sa, _, o1, rfl, by rw [upd_ne nl]; exact hsa1, hO1, (by decide), (by decide), fun d1 o2 h10 h11 hO2 => ?_⟩
      obtain ⟨tp, htp, htm⟩ := at3 (a := 1) (b := 3) (c := 9) h10 h11
      refine ⟨l0, _, _, _, rfl, rfl, SqL.of (by rw [upd_ne nl.symm]; exact upd_same), htp, ?_⟩
      refine ⟨sa, 8, tp, o2, rfl, upd_same, hO2, by decide, by decide, by rcases htm with h | h | h <;> omega, by rcases htm with h | h | h <;> omega, fun v t o3 H3 b3 hsa3 hO3 hT3 hK3 _ => ?_⟩
      have hV := hK3.v
      have hlen8 := hV.len
      have b13 : But sa H1 H3 := ((But.refl.new nl0).upd).trans b3
      refine ⟨_, rfl, v, t, rfl, hT3, hV.wf, by omega, fun nm H4 S4 nnm hnm => ?_⟩
      refine ⟨_, rfl, _, rfl, by show 3 ≤ sizeLine; decide, fun l1 nl1 => ?_⟩
      have hsa4 := S4 _ _ hsa3
      have nl1' : sa ≠ l1 := ne_of_none hsa4 nl1
      refine ⟨_, rfl, sa, _, o3, rfl, by rw [upd_ne nl1']; exact hsa4, hO3, (by decide), (by decide), fun d2 o4 h20 h21 hO4 => ?_⟩
      obtain ⟨mo, hmo, hmm⟩ := at3 (a := 6) (b := 20) (c := 40) h20 h21
      refine ⟨l1, _, _, _, rfl, rfl, SqL.of (by rw [upd_ne nl1'.symm]; exact upd_same), hmo, ?_⟩
      have b4 : But sa H4 (L2.upd (L2.upd H4 l1 (.lst [.int 6, .int 20, .int 40])) sa o4) := (But.refl.new nl1).upd
      refine ⟨sa, v, t, mo, o4, rfl, upd_same, hO4, TrAt.keep (KeepT.but hsa4 hO3 b4) _ (TrAt.keep (sqT_same S4) _ hT3), hK3, by rcases hmm with h | h | h <;> omega, by rcases hmm with h | h | h <;> omega, fun tl ls o5 H5 b5 hsa5 hO5 ntl htl hll hlr => ?_⟩
      have b45 := b4.trans b5
      have hT5 : TrAt K H5 4 v t := TrAt.keep (KeepT.but hsa4 hO3 b45) _ (TrAt.keep (sqT_same S4) _ hT3)
      have h40 : ∀ l ∈ ls, 0 ≤ l ∧ l ≤ 40 := fun l hl => by have := hlr l hl; rcases hmm with h | h | h <;> omega
      have hL : LenOk t ls := ⟨hll, fun l hl => by have := h40 l hl; omega⟩
      have SH5 : Same H H5 := Same.but (S0.trans S1) (Same.free S0 nsa) ((b13.trans (But.of S4)).trans b45)
      have nnms : nm ≠ sa := (ne_of_none hsa3 nnm).symm
      have hnm5 : H5 nm = some (.lst (t.names.map V.str)) := b45 _ _ hnm nnms
      refine ⟨by show 2 ≤ sizeLine; decide, fun q0 nq0 => ?_⟩
      refine ⟨q0, _, rfl, SqT.of upd_same, rfl, _, _, rfl, _, _, rfl, rfl, ?_⟩
      have S6 : Same H5 (L2.upd H5 q0 (.tup [.ref nm, .ref tl])) := Same.new (Same.refl _) nq0
      obtain ⟨H6, e6⟩ : ∃ H6, H6 = L2.upd H5 q0 (.tup [.ref nm, .ref tl]) := ⟨_, rfl⟩
      rw [← e6] at S6 ⊢
      clear e6
      refine ⟨_, rfl, _, rfl, v, t, tl, ls, rfl, TrAt.keep (sqT_same S6) _ hT5, hV, SqT.of (S6 _ _ htl), hL, fun td H7 S7 ntd htd => ?_⟩
      obtain ⟨L, eL⟩ : ∃ L, L = Lof t.names ls := ⟨_, rfl⟩
      have hval : ∀ n ∈ t.names, valV (tab t.names ls) (Sum.inr n) = some (.int (L n : Nat)) := fun n hn => by rw [eL]; exact hL.val n hn
      have hLs : ∀ n ∈ t.names, L n ≤ 40 := fun n hn => by rw [eL]; exact Lof_le (m := 40) hL.len.symm hn h40
      have S57 := S6.trans S7
      have hol : (t.out L).length ≤ 480 := by rw [eL]; exact hL.out hV
      refine ⟨_, rfl, _, rfl, L, v, t, td, _, rfl, TrAt.keep (sqT_same S57) _ hT5, hV.wf, htd, hval, fun n hn => by have := hLs n hn; omega, by omega, fun po xs H8 S8 npo hpo hI => ?_⟩
      have S58 := S57.trans S8
      have hsa8 : H8 sa = some o5 := S58 _ _ hsa5
      have hnm8 : H8 nm = some (.lst (t.names.map V.str)) := S58 _ _ hnm5
      have hne : 1 ≤ t.names.length := by
        have := hK3.ne
        cases e : t.names with
        | nil => exact absurd e this
        | cons a r => simp
      refine ⟨_, rfl, _, rfl, nm, _, rfl, .inl (SqL.of hnm8), sa, _, o5, rfl, hsa8, hO5, by rw [List.length_map]; omega, by rw [List.length_map]; omega, fun da o6 h60 h61 hO6 => ?_⟩
      rw [List.length_map] at h61
      obtain ⟨ja, rfl⟩ := Int.eq_ofNat_of_zero_le h60
      have hja : ja < t.names.length := by omega
      obtain ⟨n, en⟩ : ∃ n, n = t.names[ja] := ⟨_, rfl⟩
      have hjn : t.names[ja]? = some n := by rw [en]; exact List.getElem?_eq_getElem hja
      have hn : n ∈ t.names := List.mem_of_getElem? hjn
      have b9 : But sa H8 (L2.upd H8 sa o6) := But.refl.upd
      have hsa9 : (L2.upd H8 sa o6) sa = some o6 := upd_same
      have htd8 := S8 _ _ htd
      have ntds : td ≠ sa := by obtain ⟨_, _, _, rfl, _⟩ := id hO5; exact ne_of htd8 hsa8 (by intro z; cases z)
      refine ⟨_, rfl, _, rfl, nm, _, _, .str n, rfl, rfl, SqL.of (b9 _ _ hnm8 nnms), atI_nat (by rw [List.getElem?_map, hjn]; rfl), _, rfl, td, tab t.names ls, rfl, .inl (b9 _ _ htd8 ntds), fun dm ndm => ⟨_, _, rfl, ?_⟩⟩
      have ndm8 : H8 dm = none := none_of_upd ndm
      have ndms : dm ≠ sa := (ne_of_none hsa9 ndm).symm
      have b10 : But sa H8 (L2.upd (L2.upd H8 sa o6) dm (.dK (tab t.names ls))) := b9.own ndm8
      have hdm10 : (L2.upd (L2.upd H8 sa o6) dm (.dK (tab t.names ls))) dm = some (.dK (tab t.names ls)) := upd_same
      refine ⟨_, rfl, _, rfl, dm, V.int (L n : Nat), rfl, ?_, _, _, rfl, rfl, _, rfl, _, rfl, dm, _, rfl, DPut.k (k := Sum.inr n) hdm10 ?_, ?_⟩
      · have z := DGet.k (k := Sum.inr n) hdm10
        rw [hval n hn] at z
        exact z
      · have z := congrArg List.length (tab_keys t.names ls hL.len.symm)
        rw [List.length_map, List.length_map] at z
        exact small1000 (by omega)
      have b11 : But sa H8 (L2.upd (L2.upd (L2.upd H8 sa o6) dm (.dK (tab t.names ls))) dm (.dK (putK (tab t.names ls) (Sum.inr n) (.int ((L n : Int) + 1))))) := b10.own ndm8
      have hdm11 : (L2.upd (L2.upd (L2.upd H8 sa o6) dm (.dK (tab t.names ls))) dm (.dK (putK (tab t.names ls) (Sum.inr n) (.int ((L n : Int) + 1))))) dm = some (.dK (putK (tab t.names ls) (Sum.inr n) (.int ((L n : Int) + 1)))) := upd_same
      have hsa11 : (L2.upd (L2.upd (L2.upd H8 sa o6) dm (.dK (tab t.names ls))) dm (.dK (putK (tab t.names ls) (Sum.inr n) (.int ((L n : Int) + 1))))) sa = some o6 := by rw [upd_ne ndms.symm, upd_ne ndms.symm]; exact upd_same
      show tSeq _ _ _ _ (L2.upd (L2.upd (L2.upd H8 sa o6) dm (.dK (tab t.names ls))) dm (.dK (putK (tab t.names ls) (Sum.inr n) (.int ((L n : Int) + 1)))))
      obtain ⟨H11, e11⟩ : ∃ H11, H11 = L2.upd (L2.upd (L2.upd H8 sa o6) dm (.dK (tab t.names ls))) dm (.dK (putK (tab t.names ls) (Sum.inr n) (.int ((L n : Int) + 1)))) := ⟨_, rfl⟩
      rw [← e11] at b11 hdm11 hsa11 ⊢
      clear e11 hdm10 b10 hsa9 ndm
      obtain ⟨L', eL'⟩ : ∃ L' : Str → Nat, L' = fun m => if m = n then L n + 1 else L m := ⟨_, rfl⟩
      have hLn : L' n = L n + 1 := by rw [eL']; exact if_pos rfl
      have hLo : ∀ m, m ≠ n → L' m = L m := fun m hm => by rw [eL']; exact if_neg hm
      have hge : ∀ m, L m ≤ L' m := fun m => by
        by_cases c : m = n
        · rw [c, hLn]; omega
        · rw [hLo m c]; exact Nat.le_refl _
      have hval' : ∀ m ∈ t.names, valV (putK (tab t.names ls) (Sum.inr n) (.int ((L n : Int) + 1))) (Sum.inr m) = some (.int (L' m : Nat)) := fun m hm => by
        rw [valV_put]
        by_cases c : m = n
        · rw [c, if_pos rfl, hLn]
          rfl
        · rw [if_neg (fun z => c (Sum.inr.inj z)), hLo m c]
          exact hval m hm
      have hL41 : ∀ m ∈ t.names, L' m ≤ 41 := fun m hm => by
        have := hLs m hm
        have h2 := hLs n hn
        by_cases c : m = n
        · rw [c, hLn]; omega
        · rw [hLo m c]; omega
      have hol' : (t.out L').length ≤ 480 := by
        rw [out_len 4 hV.wf]
        have h1 := sum_le hL41
        have h3 : t.names.length * 41 ≤ 8 * 41 := Nat.mul_le_mul_right _ hlen8
        omega
      have hT8 : TrAt K H8 4 v t := TrAt.keep (sqT_same S58) _ hT5
      have htl8 : H8 tl = some (.tup (ls.map V.int)) := S58 _ _ htl
      have ntls : tl ≠ sa := by obtain ⟨_, _, _, rfl, _⟩ := id hO5; exact ne_of htl8 hsa8 (by intro z; cases z)
      have hpo8 : H8 po = some (.lst xs) := hpo
      have npos : po ≠ sa := (ne_of_none (S57 _ _ hsa5) npo).symm
      refine ⟨_, rfl, _, rfl, L', v, t, dm, _, rfl, TrAt.keep (KeepT.but hsa8 hO5 b11) _ hT8, hV.wf, hdm11, hval', fun m hm => by have := hL41 m hm; omega, by omega, fun la ys HB S12 nla hla hI2 => ?_⟩
      have bB : But sa H8 HB := b11.trans (But.of S12)
      have hsaB : HB sa = some o6 := S12 _ _ hsa11
      have nlas : la ≠ sa := (ne_of_none hsa11 nla).symm
      have nodup := out_nodup (L := L) 4 hV.wf hV.nd
      have nodup' := out_nodup (L := L') 4 hV.wf hV.nd
      have okn : OkNames (t.out L) := fun y hy => U_ok _ (hK3.mem _ ((mem_out 4 hV.wf y).mp hy).1)
      have okn' : OkNames (t.out L') := fun y hy => U_ok _ (hK3.mem _ ((mem_out 4 hV.wf y).mp hy).1)
      have fact : ∀ H', But sa HB H' → TrAt K H' 4 v t ∧ SqT K H' tl (ls.map V.int) ∧ H' po = some (.lst xs) ∧ H' la = some (.lst ys) ∧ ItemsAt H' xs (t.out L) ∧ ItemsAt H' ys (t.out L') := fun H' b => by
        have b' := bB.trans b
        exact ⟨TrAt.keep (KeepT.but hsa8 hO5 b') _ hT8, SqT.of (b' _ _ htl8 ntls), b' _ _ hpo8 npos, b _ _ hla nlas, Paired.mapP hI fun _ _ z => z.keep (But.keepU hsa8 hO5 b'), Paired.mapP hI2 fun _ _ z => z.keep (But.keepU hsaB hO6 b)⟩
      have hxl : xs.length ≤ 480 := by rw [paired_len hI]; exact hol
      have SHB : Same H HB := Same.but (SH5.trans S58) (Same.free S0 nsa) bB
      have nsaH : H sa = none := Same.free S0 nsa
      have hlj := Lof_get hL.len.symm hV.nd hjn fun l hl => (hL.le l hl).1
      rw [← eL] at hlj
      have hL60 : Lof t.names ls n < 60 := by rw [← eL]; have := hLs n hn; omega
      have einc : t.out (Lof t.names (inc ja ls)) = t.out L' := by
        have hin := Lof_inc hV.nd hL hjn hL60
        refine out_ext 4 hV.wf fun m hm => ?_
        by_cases c : m = n
        · rw [c, hin.1, hLn, eL]
        · rw [hin.2 m hm c, hLo m c, eL]
      obtain ⟨_, _, hpoB, _, _, _⟩ := fact _ But.refl
      refine ⟨_, rfl, po, _, rfl, .inl (SqL.of hpoB), _, _, rfl, _, rfl, (by split <;> omega), (by split <;> omega), for_range (lo := 0) (fun c σ H' => ∃ v12 v13 v14 v15 v16 v17 v18 v19 : Option V, σ = [some (.ref a), some (.int (0 + (i : Int))), some (.ref sa), some v, some (.ref nm), some (.ref tl), some (.ref td), some (.ref po), some (.int (ja : Nat)), some (.str n), some (.ref dm), some (.ref la), v12, v13, v14, v15, v16, v17, v18, v19] ∧ But sa HB H' ∧ ∃ o, H' sa = some o ∧ SrcO o) ?_ ?_ ?_⟩
      · exact ⟨_, _, _, _, _, _, _, _, rfl, But.refl, _, hsaB, hO6⟩
      · rintro c σ H13 hc ⟨v12, v13, v14, v15, v16, v17, v18, v19, rfl, b13', o13, hsa13, hO13⟩
        have hx1 : 1 ≤ xs.length := by
          revert hc
          split <;> (intro hc; omega)
        obtain ⟨_, _, hpo13, _, _, _⟩ := fact _ b13'
        refine ⟨_, rfl, _, rfl, _, rfl, po, _, rfl, .inl (SqL.of hpo13), sa, _, o13, rfl, hsa13, hO13, by omega, by omega, fun d8 o14 h80 h81 hO14 => ?_⟩
        obtain ⟨ia, rfl⟩ := Int.eq_ofNat_of_zero_le h80
        have hia : ia < xs.length := by omega
        have b14 : But sa HB (L2.upd H13 sa o14) := b13'.upd
        have hsa14 : (L2.upd H13 sa o14) sa = some o14 := upd_same
        obtain ⟨hT14, htl14, hpo14, hla14, hI14, hJ14⟩ := fact _ b14
        refine ⟨po, _, _, _, rfl, rfl, SqL.of hpo14, atI_nat (List.getElem?_eq_getElem hia), ?_⟩
        obtain ⟨it, ha, q, eq, hq14⟩ := paired_get hI14 (List.getElem?_eq_getElem hia)
        rw [eq]
        obtain ⟨H14, e14⟩ : ∃ H14, H14 = L2.upd H13 sa o14 := ⟨_, rfl⟩
        rw [← e14] at b14 hsa14 hT14 htl14 hpo14 hla14 hI14 hJ14 hq14 ⊢
        clear e14
        have hqs : SqT K H14 q [.str it.1, .int (it.2 : Nat)] := SqT.of hq14
        have m0 := (mem_out (L := L) 4 hV.wf it).mp (List.mem_of_getElem? ha)
        have m : it.1 ∈ t.names ∧ it.2 < Lof t.names ls it.1 := by rw [← eL]; exact m0
        have hit' : it.2 < L' it.1 := Nat.lt_of_lt_of_le m0.2 (hge it.1)
        obtain ⟨p', hp'⟩ := List.mem_iff_getElem?.mp ((mem_out (L := L') 4 hV.wf it).mpr ⟨m.1, hit'⟩)
        have fin : ∀ (σ2 : St) (H' : Hp) (w14 w15 : Option V), Same H14 H' → σ2 = [some (.ref a), some (.int (0 + (i : Int))), some (.ref sa), some v, some (.ref nm), some (.ref tl), some (.ref td), some (.ref po), some (.int (ja : Nat)), some (.str n), some (.ref dm), some (.ref la), some (.int (0 + (c : Int))), some (.ref q), w14, w15, v16, v17, v18, v19] → ∃ v12 v13 v14 v15 v16 v17 v18 v19 : Option V, σ2 = [some (.ref a), some (.int (0 + (i : Int))), some (.ref sa), some v, some (.ref nm), some (.ref tl), some (.ref td), some (.ref po), some (.int (ja : Nat)), some (.str n), some (.ref dm), some (.ref la), v12, v13, v14, v15, v16, v17, v18, v19] ∧ But sa HB H' ∧ ∃ o, H' sa = some o ∧ SrcO o :=
          fun σ2 H' w14 w15 S' e => ⟨_, _, _, _, _, _, _, _, e, b14.trans (But.of S'), _, S' _ _ hsa14, hO14⟩
        refine ⟨_, rfl, .inl ⟨rfl, _, SqL.of hla14⟩, _, rfl, la, _, itemD it, (t.out L').map itemD, p', itemD it, rfl, rfl, .lst (SqL.of hla14) (items_dp hJ14), item_dp ⟨q, rfl, hq14⟩, items_shaped okn', item_shaped (okn' it (List.mem_of_getElem? hp')), index_at hp', index_eq it, index_first nodup' hp', ?_⟩
        refine ⟨_, rfl, .inl ⟨rfl, _, SqL.of hpo14⟩, _, rfl, po, _, itemD it, (t.out L).map itemD, ia, itemD it, rfl, rfl, .lst (SqL.of hpo14) (items_dp hI14), item_dp ⟨q, rfl, hq14⟩, items_shaped okn, item_shaped (okn it (List.mem_of_getElem? ha)), index_at ha, index_eq it, index_first nodup ha, ?_⟩
        refine ⟨_, _, rfl, rfl, ?_⟩
        refine ⟨_, rfl, q, _, _, _, rfl, rfl, hqs, rfl, _, rfl, rfl, _, rfl, ?_⟩
        refine ite2 (fun c2 => ?_) (fun c2 => ?_)
        · have en2 : it.1 = n := by simpa using c2
          have hown : (t.out L)[p']? = some it := by
            obtain ⟨a1, i1⟩ := it
            subst en2
            exact own_place hV.wf hV.nd hLn hLo m0.2 hp'
          obtain rfl := at_unique nodup hown ha
          refine ⟨_, rfl, rfl, _, rfl, ?_⟩
          refine ite2 (fun c => by simp at c) (fun _ => ?_)
          refine ⟨_, rfl, _, rfl, _, rfl, _, rfl, v, .str n, .ref q, tl, t, ls, rfl, hT14, hV, htl14, hL, .good hn ⟨fun e => by omega, fun _ => .good hqs m.1 m.2 ⟨fun _ H' S' => ?_, fun e => absurd en2 e⟩⟩⟩
          refine ⟨rfl, _, rfl, ite2 (fun c => by simp at c) (fun _ => ?_)⟩
          exact fin _ H' _ _ S' rfl
        · have ne : it.1 ≠ n := fun e => c2 (by rw [e]; simp)
          refine ⟨_, rfl, _, rfl, _, rfl, _, rfl, v, .ref tl, .str n, .ref q, t, rfl, hT14, hV, .good htl14 hV hL (.good hn ⟨fun e => by omega, fun _ => .good hqs m.1 m.2 ⟨fun e => absurd e ne, fun _ j2 p p2 H15 S15 hj2 hp hp2 => ?_⟩⟩)⟩
          obtain rfl := at_unique hV.nd hj2 hjn
          rw [einc] at hp2
          rw [← eL] at hp
          obtain rfl := at_unique nodup hp ha
          obtain rfl := at_unique nodup' hp2 hp'
          refine ⟨_, rfl, _, rfl, _, _, _, rfl, _, rfl, ?_⟩
          refine ite2 (fun c => by simp at c) (fun _ => ?_)
          refine ⟨_, rfl, _, rfl, _, rfl, q, _, _, _, rfl, rfl, sqT_same S15 _ _ hqs, rfl, v, .str n, .str it.1, t, rfl, TrAt.keep (sqT_same S15) _ hT14, hV, .good hn (.good m.1 ⟨fun e => absurd e.symm ne, fun _ kk H16 S16 hk => ?_⟩)⟩
          have S46 := S15.trans S16
          refine ⟨_, rfl, _, rfl, _, rfl, _, rfl, q, _, _, _, rfl, rfl, sqT_same S46 _ _ hqs, rfl, v, n, it.1, t, rfl, by decide, TrAt.keep (sqT_same S46) _ hT14, hV.wf, hV.len, hV.nd, fun e => ne e.symm, hn, m.1, fun k2 H17 S17 hk2 => ?_⟩
          obtain rfl := hk.one hV.nd hk2
          have hle := hk.le (L := L) (L' := L') hLn hLo hV.wf hV.nd rfl hp hp2
          have hmono : p ≤ p2 := place_mono 4 hV.wf hV.nd (fun m _ => hge m) hp hp2
          refine ⟨rfl, _, rfl, ite2 (fun c => by simp at c) (fun _ => ?_)⟩
          refine ⟨_, rfl, _, _, rfl, rfl, _, rfl, ?_⟩
          have e0 : decide ((0 : Int) ≤ (p2 : Int) - (p : Int)) = true := decide_eq_true (by omega)
          rw [if_pos e0]
          refine ⟨_, rfl, _, _, rfl, rfl, _, rfl, ?_⟩
          have e1 : decide ((p2 : Int) - (p : Int) ≤ (kk : Int)) = true := decide_eq_true (by omega)
          refine ite2 (fun c => ?_) (fun _ => ?_)
          · have c' : (!decide ((p2 : Int) - (p : Int) ≤ (kk : Int))) = true := c
            rw [e1] at c'
            cases c'
          · exact fin _ H17 _ _ (S46.trans S17) rfl
      · rintro σ H18 ⟨v12, v13, v14, v15, v16, v17, v18, v19, rfl, b18, o18, hsa18, hO18⟩
        obtain ⟨hT18, htl18, _, _, _, _⟩ := fact _ b18
        have hjl : ja < ls.length := (List.getElem?_eq_some_iff.mp hlj).1
        refine ⟨tl, ls, ja, rfl, rfl, htl18, by omega, hjl, fun rf H19 S19 hrf => ?_⟩
        refine ⟨by show 3 ≤ sizeLine; decide, fun w0 nw0 => ?_⟩
        have S20 : Same H18 (L2.upd H19 w0 (.lst [.str "zz", .non, .int 0])) := Same.new S19 nw0
        have hw0 : (L2.upd H19 w0 (.lst [.str "zz", .non, .int 0])) w0 = some (.lst [.str "zz", .non, .int 0]) := upd_same
        have S19b : Same H19 (L2.upd H19 w0 (.lst [.str "zz", .non, .int 0])) := Same.new (Same.refl _) nw0
        refine ⟨w0, rfl, ⟨_, SqL.of hw0⟩, fun D nD => ?_⟩
        obtain ⟨H20, e20⟩ : ∃ H20, H20 = L2.upd H19 w0 (.lst [.str "zz", .non, .int 0]) := ⟨_, rfl⟩
        rw [← e20] at S20 S19b hw0 nD ⊢
        clear e20
        have hzz : ("zz" : Str) ∉ t.names := fun h => absurd (hK3.mem _ h) (by decide +kernel)
        refine lc_list (K := K) (a := w0) (xs := [.str "zz", .non, .int 0]) (fun c H' => Same H20 H' ∧ H' D = some (.lst ((List.replicate c ("name" : Str)).map V.str))) ?_ ?_ ?_ ?_
        · exact ⟨Same.new (Same.refl _) nD, upd_same⟩
        · rintro c H' _ ⟨hS, _⟩
          exact SqL.of (hS _ _ hw0)
        · rintro c x H' hx ⟨hS, hD⟩
          have hc3 : c < 3 := (List.getElem?_eq_some_iff.mp hx).1
          have hodd : flatV x = true ∧ ¬ ∃ n, x = .str n ∧ n ∈ t.names := by
            match c, hc3, hx with
            | 0, _, hx => cases hx; exact ⟨rfl, fun ⟨n, e, hm⟩ => by cases e; exact hzz hm⟩
            | 1, _, hx => cases hx; exact ⟨rfl, fun ⟨n, e, hm⟩ => by cases e⟩
            | 2, _, hx => cases hx; exact ⟨rfl, fun ⟨n, e, hm⟩ => by cases e⟩
          have SX := S20.trans hS
          refine ⟨rfl, ?_⟩
          refine ⟨_, rfl, _, rfl, _, rfl, v, x, .non, tl, t, ls, rfl, TrAt.keep (sqT_same SX) _ hT18, hV, sqT_same SX _ _ htl18, hL, .bad hodd.1 hodd.2 fun H2 S2 => ?_⟩
          refine ⟨_, S2 _ _ hD, by rw [List.length_map, List.length_replicate]; exact small1000 (by omega), Same.own (hS.trans S2) nD, ?_⟩
          rw [upd_same, List.replicate_succ', List.map_append]
          rfl
        · rintro H21 ⟨S21, hD21⟩
          have hD21' : H21 D = some (.lst [.str "name", .str "name", .str "name"]) := hD21
          have S18_21 := S20.trans S21
          have S19_21 := S19b.trans S21
          refine ⟨_, rfl, _, rfl, _, rfl, _, rfl, v, .str n, .non, rf, t, ls.set ja 60, rfl, TrAt.keep (sqT_same S18_21) _ hT18, hV, sqT_same S19_21 _ _ hrf, set_ok hL, .good hn ⟨fun _ H22 S22 => ?_, fun lt => by rw [Lof_set hV.nd hL hjn] at lt; omega⟩⟩
          have S18_22 := S18_21.trans S22
          refine ⟨_, rfl, _, rfl, _, rfl, v, .str n, .non, tl, t, ls, rfl, TrAt.keep (sqT_same S18_22) _ hT18, hV, sqT_same S18_22 _ _ htl18, hL, .good hn ⟨fun e => by omega, fun _ => .bad (.inr (.inr (.inl rfl))) fun H23 S23 => ?_⟩⟩
          have hD23 := S23 _ _ (S22 _ _ hD21')
          refine ⟨by show 2 ≤ sizeLine; decide, fun w1 nw1 => ?_⟩
          have nDw : D ≠ w1 := ne_of_none hD23 nw1
          refine ⟨D, w1, _, _, rfl, rfl, by rw [upd_ne nDw]; exact hD23, upd_same, by show 5 ≤ sizeLine; decide, fun w2 nw2 => ?_⟩
          have S18_24 := Same.new (o := .lst ([.str "name", .str "name", .str "name"] ++ [.str "many", .str "item"])) (Same.new (o := .lst [.str "many", .str "item"]) (S18_22.trans S23) nw1) nw2
          have hw2 : (L2.upd (L2.upd H23 w1 (.lst [.str "many", .str "item"])) w2 (.lst ([.str "name", .str "name", .str "name"] ++ [.str "many", .str "item"]))) w2 = some (.lst ([.str "name", .str "name", .str "name"] ++ [.str "many", .str "item"])) := upd_same
          obtain ⟨H24, e24⟩ : ∃ H24, H24 = L2.upd (L2.upd H23 w1 (.lst [.str "many", .str "item"])) w2 (.lst ([.str "name", .str "name", .str "name"] ++ [.str "many", .str "item"])) := ⟨_, rfl⟩
          rw [← e24] at S18_24 hw2 ⊢
          clear e24
          refine ⟨_, rfl, by show 1 ≤ sizeLine; decide, fun w3 nw3 => ?_⟩
          have n23 : w2 ≠ w3 := ne_of_none hw2 nw3
          refine ⟨w3, 3, _, rfl, rfl, upd_same, by decide, by decide, by show 3 ≤ sizeLine; decide, fun w4 nw4 => ?_⟩
          have n24 : w2 ≠ w4 := ne_of_none (by rw [upd_ne n23]; exact hw2) nw4
          refine ⟨by show 2 ≤ sizeLine; decide, fun w5 nw5 => ?_⟩
          have n25 : w2 ≠ w5 := ne_of_none (by rw [upd_ne n24, upd_ne n23]; exact hw2) nw5
          have n45 : w4 ≠ w5 := ne_of_none upd_same nw5
          refine ⟨w4, w5, _, _, rfl, rfl, by rw [upd_ne n45]; exact upd_same, upd_same, by show 5 ≤ sizeLine; decide, fun w6 nw6 => ?_⟩
          have n26 : w2 ≠ w6 := ne_of_none (by rw [upd_ne n25, upd_ne n24, upd_ne n23]; exact hw2) nw6
          refine ⟨.list (["name", "name", "name", "many", "item"].map fun s => PyData.str (Str.ofString s)), .list (["name", "name", "name", "many", "item"].map fun s => PyData.str (Str.ofString s)), words_dp (ns := ["name", "name", "name", "many", "item"]) (SqL.of (by rw [upd_ne n26, upd_ne n25, upd_ne n24, upd_ne n23]; exact hw2)), words_dp (ns := ["name", "name", "name", "many", "item"]) (SqL.of upd_same), by decide +kernel, by decide +kernel, _, rfl, ?_⟩
          refine ite2 (fun c => ?_) (fun _ => ?_)
          · exact absurd c (by decide +kernel)
          · refine ⟨_, _, _, _, _, _, _, _, _, _, _, _, _, _, _, _, _, _, _, rfl, ?_⟩
            exact Same.new (Same.new (Same.new (Same.new (Same.but SHB nsaH (b18.trans (But.of S18_24))) nw3) nw4) nw5) nw6
    · rintro σ H0 ⟨v1, v2, v3, v4, v5, v6, v7, v8, v9, v10, v11, v12, v13, v14, v15, v16, v17, v18, v19, rfl, S0⟩
      refine ⟨by show 2 ≤ sizeLine; decide, fun c1 n1 => ?_⟩
      have s1 : Same H0 (L2.upd H0 c1 (.tup [.int 1, .str "a"])) := Same.new (Same.refl _) n1
      have u1 : (L2.upd H0 c1 (.tup [.int 1, .str "a"])) c1 = some (.tup [.int 1, .str "a"]) := upd_same
      obtain ⟨G1, e1⟩ : ∃ G, G = L2.upd H0 c1 (.tup [.int 1, .str "a"]) := ⟨_, rfl⟩
      rw [← e1] at s1 u1 ⊢
      clear e1
      refine ⟨by show 2 ≤ sizeLine; decide, fun c2 n2 => ?_⟩
      have s2 : Same G1 (L2.upd G1 c2 (.tup [.int 1, .str "b"])) := Same.new (Same.refl _) n2
      have u2 : (L2.upd G1 c2 (.tup [.int 1, .str "b"])) c2 = some (.tup [.int 1, .str "b"]) := upd_same
      obtain ⟨G2, e2⟩ : ∃ G, G = L2.upd G1 c2 (.tup [.int 1, .str "b"]) := ⟨_, rfl⟩
      rw [← e2] at s2 u2 ⊢
      clear e2
      refine ⟨by show 2 ≤ sizeLine; decide, fun c3 n3 => ?_⟩
      have s3 : Same G2 (L2.upd G2 c3 (.tup [.ref c1, .ref c2])) := Same.new (Same.refl _) n3
      have u3 : (L2.upd G2 c3 (.tup [.ref c1, .ref c2])) c3 = some (.tup [.ref c1, .ref c2]) := upd_same
      obtain ⟨G3, e3⟩ : ∃ G, G = L2.upd G2 c3 (.tup [.ref c1, .ref c2]) := ⟨_, rfl⟩
      rw [← e3] at s3 u3 ⊢
      clear e3
      refine ⟨by show 2 ≤ sizeLine; decide, fun c4 n4 => ?_⟩
      have s4 : Same G3 (L2.upd G3 c4 (.tup [.int 1, .ref c3])) := Same.new (Same.refl _) n4
      have u4 : (L2.upd G3 c4 (.tup [.int 1, .ref c3])) c4 = some (.tup [.int 1, .ref c3]) := upd_same
      obtain ⟨G4, e4⟩ : ∃ G, G = L2.upd G3 c4 (.tup [.int 1, .ref c3]) := ⟨_, rfl⟩
      rw [← e4] at s4 u4 ⊢
      clear e4
      refine ⟨by show 2 ≤ sizeLine; decide, fun c5 n5 => ?_⟩
      have s5 : Same G4 (L2.upd G4 c5 (.tup [.int 3, .str "c"])) := Same.new (Same.refl _) n5
      have u5 : (L2.upd G4 c5 (.tup [.int 3, .str "c"])) c5 = some (.tup [.int 3, .str "c"]) := upd_same
      obtain ⟨G5, e5⟩ : ∃ G, G = L2.upd G4 c5 (.tup [.int 3, .str "c"]) := ⟨_, rfl⟩
      rw [← e5] at s5 u5 ⊢
      clear e5
      refine ⟨by show 2 ≤ sizeLine; decide, fun c6 n6 => ?_⟩
      have s6 : Same G5 (L2.upd G5 c6 (.tup [.ref c4, .ref c5])) := Same.new (Same.refl _) n6
      have u6 : (L2.upd G5 c6 (.tup [.ref c4, .ref c5])) c6 = some (.tup [.ref c4, .ref c5]) := upd_same
      obtain ⟨G6, e6⟩ : ∃ G, G = L2.upd G5 c6 (.tup [.ref c4, .ref c5]) := ⟨_, rfl⟩
      rw [← e6] at s6 u6 ⊢
      clear e6
      refine ⟨_, rfl, by show 3 ≤ sizeLine; decide, fun c7 n7 => ?_⟩
      have s7 : Same G6 (L2.upd G6 c7 (.tup [.int 0, .int 1, .int 6])) := Same.new (Same.refl _) n7
      have u7 : (L2.upd G6 c7 (.tup [.int 0, .int 1, .int 6])) c7 = some (.tup [.int 0, .int 1, .int 6]) := upd_same
      obtain ⟨G7, e7⟩ : ∃ G, G = L2.upd G6 c7 (.tup [.int 0, .int 1, .int 6]) := ⟨_, rfl⟩
      rw [← e7] at s7 u7 ⊢
      clear e7
      refine ⟨by show 2 ≤ sizeLine; decide, fun c8 n8 => ?_⟩
      have s8 : Same G7 (L2.upd G7 c8 (.tup [.str "b", .int 0])) := Same.new (Same.refl _) n8
      have u8 : (L2.upd G7 c8 (.tup [.str "b", .int 0])) c8 = some (.tup [.str "b", .int 0]) := upd_same
      obtain ⟨G8, e8⟩ : ∃ G, G = L2.upd G7 c8 (.tup [.str "b", .int 0]) := ⟨_, rfl⟩
      rw [← e8] at s8 u8 ⊢
      clear e8
      have t7 : Same G7 G8 := s8
      have t6 : Same G6 G8 := s7.trans t7
      have t5 : Same G5 G8 := s6.trans t6
      have t4 : Same G4 G8 := s5.trans t5
      have t3 : Same G3 G8 := s4.trans t4
      have t2 : Same G2 G8 := s3.trans t3
      have t1 : Same G1 G8 := s2.trans t2
      have hT : TrAt K G8 4 (.ref c6) T16 := TrAt_mix.mpr ⟨c6, [.ref c4, .ref c5], rfl, SqT.of (t6 _ _ u6), (PsAt.nil.snoc (p := (1, .mix [(1, .feed "a"), (1, .feed "b")])) (SqT.of (t4 _ _ u4)) (TrAt_mix.mpr ⟨c3, [.ref c1, .ref c2], rfl, SqT.of (t3 _ _ u3), (PsAt.nil.snoc (p := (1, .feed "a")) (SqT.of (t1 _ _ u1)) (TrAt_feed.mpr rfl)).snoc (p := (1, .feed "b")) (SqT.of (t2 _ _ u2)) (TrAt_feed.mpr rfl)⟩)).snoc (p := (3, .feed "c")) (SqT.of (t5 _ _ u5)) (TrAt_feed.mpr rfl)⟩
      have hL : LenOk T16 [0, 1, 6] := ⟨by rw [T16_names]; rfl, fun l hl => by
        have : l = 0 ∨ l = 1 ∨ l = 6 := by simpa using hl
        omega⟩
      refine ⟨.ref c6, .ref c7, .str "a", .ref c8, T16, rfl, hT, T16_ok.v, .good (ls := [0, 1, 6]) (SqT.of (t7 _ _ u7)) T16_ok.v hL (.good (by rw [T16_names]; decide +kernel) ⟨fun e => absurd e (by rw [T16_names]; decide +kernel), fun _ => .good (n := "b") (i := 0) (SqT.of u8) (by rw [T16_names]; decide +kernel) (by rw [T16_names]; decide +kernel) ⟨fun e => absurd e (by decide +kernel), fun _ j p p' H' S' hj hp hp' => ?_⟩⟩)⟩
      obtain rfl := at_unique T16_ok.nd hj (b := 0) (by rw [T16_names]; rfl)
      obtain rfl := at_unique (out_nodup (L := Lof T16.names [0, 1, 6]) 4 T16_ok.wf T16_ok.nd) hp T16_out
      obtain rfl := at_unique (out_nodup (L := Lof T16.names (inc 0 [0, 1, 6])) 4 T16_ok.wf T16_ok.nd) hp' T16_out2
      refine ⟨rfl, _, rfl, ?_⟩
      refine ⟨_, rfl, .ref c6, .str "a", .str "b", T16, rfl, TrAt.keep (sqT_same S') _ hT, T16_ok.v, .good (by rw [T16_names]; decide +kernel) (.good (by rw [T16_names]; decide +kernel) ⟨fun e => absurd e (by decide +kernel), fun _ kk H2 S2 hk => ?_⟩)⟩
      obtain rfl := hk.one T16_ok.nd T16_lim
      exact ⟨rfl, k _⟩
end
end Mx

set_option Elab.async false
set_option maxRecDepth 100000
set_option linter.all false
/-! law_k16: from the facts of the top to the law's promise -/
namespace Mx
open PySem L2
theorem ErrAll.exc {K : PySem.W.Frag} {mg : Str → Option Value} {C : Nat → Addr} {x : Str} {i : Nat} (E : ErrAll K mg C) (h : i < 11) (g : mg x = some (.ref (C i))) : ExcF K mg x (C i) := ⟨g, (E.x i h).x, (E.x i h).k, (E.x i h).b, (E.x i h).t⟩
theorem end16 {P : Program} {w : World} {K : PySem.W.Frag} {mg : Str → Option Value} {base : Heap} {f : Addr} {C : Nat → Addr} {fd : FuncData} (D : Def K mg "law" sLaw ["script"] f fd) (E : ErrAll K mg C) (T : TopT K mg) (R : TopR K mg (C 2)) (Pl : TopPl K mg (C 3)) (L : TopL K mg)
    (d1 : Has K mg "_law_lengths" sLengths ["source", "tree", "most"]) (d2 : Has K mg "require_name" s_require_name ["tree", "value"]) (d3 : Has K mg "push" s_push ["tree", "lengths", "name", "item"]) (d4 : Has K mg "push_limit" s_push_limit ["tree", "name", "other"])
    (d5 : Has K mg "limit_in" s_limit_in ["mixer", "name", "other"]) (d6 : Has K mg "_law_table" sTable ["tree", "lengths"]) (d7 : Has K mg "_law_output" sOutput ["tree", "table"]) (d8 : Has K mg "_law_limit" s_law_limit ["tree", "one", "other"])
    (d9 : Has K mg "_law_outcome" sOutcome ["tree", "lengths", "name", "item"]) (d10 : Has K mg "_law_is_integer" s_law_is_integer ["value", "low", "high"]) (d11 : Has K mg "_law_error_name" sErrName ["e"]) : FnOk P w K mg base CX0 40 f fd ["script"] (spLaw K) := by
  have B := T.blt
  have LT := libT_of (P := P) (w := w) (base := base) T
  have LR := libR_of B LT R
  have LP := libPl_of B LT LR Pl
  have LL := libL_of (P := P) (w := w) (base := base) B L
  obtain ⟨_, _, DP, GP⟩ := LL.pick
  obtain ⟨_, _, DN, GN⟩ := LL.names
  obtain ⟨_, _, DPl, GPl⟩ := LP.placeOf
  obtain ⟨_, _, DI, GI⟩ := LP.reqItem
  obtain ⟨_, _, DW, GW⟩ := LP.partWith
  obtain ⟨_, _, DT, GT⟩ := LT.reqTree
  obtain ⟨_, _, DNi, GNi⟩ := LT.namesIn
  obtain ⟨_, _, DR, GR⟩ := LR.reqLen
  obtain ⟨_, _, D1⟩ := d1
  obtain ⟨_, _, D2⟩ := d2
  obtain ⟨_, _, D3⟩ := d3
  obtain ⟨_, _, D4⟩ := d4
  obtain ⟨_, _, D5⟩ := d5
  obtain ⟨_, _, D6⟩ := d6
  obtain ⟨_, _, D7⟩ := d7
  obtain ⟨_, _, D8⟩ := d8
  obtain ⟨_, _, D9⟩ := d9
  obtain ⟨_, _, D10⟩ := d10
  obtain ⟨_, _, D11⟩ := d11
  have XM := E.exc (x := "InvalidName") (i := 1) (by decide) E.cs.g1
  have XT := E.exc (x := "TooMany") (i := 8) (by decide) E.cs.g8
  have G2 := ok_reqName D2.fn XM DNi GNi
  have G3 := ok_push D3.fn R.c60 XT Pl.exI DT GT DR GR D2 G2 DNi GNi DI GI DPl GPl
  have G4 := ok_pushLimit D4.fn XM DT GT D2 G2 D5 (ok_limitIn D5 B DW GW 4)
  exact ok_law16 (C := C) D.fn B LL ⟨_, _, D1, ok_lengths D1.fn B DP GP DN GN⟩ ⟨_, _, D6, ok_table D6.fn B DN GN⟩ ⟨_, _, D7, ok_any fun L => ok_output D7 B 4⟩ ⟨_, _, D9, ok_outc16 D9.fn B E D11 D3 G3⟩ ⟨_, _, D10, ok_isInt D10.fn B⟩ ⟨_, _, D3, G3⟩ ⟨_, _, D4, G4⟩ ⟨_, _, D8, ok_llimit D8 B DN GN 4⟩
end Mx

set_option Elab.async false
set_option maxRecDepth 100000
open PySem PySem.W PyProof.Rows in
set_option maxRecDepth 100000 in
set_option maxHeartbeats 0 in
theorem PySem.Challenge.cw_mixtrees_k16_whole_pushes_holds : PySem.Challenge.rw_mixtrees_k16_whole_pushes.Holds := by
  w_on; o_law; k_head; (case hw => w_witness2)
  k_fill
  refine L2.walk_of (l := PySem.Challenge.rw_mixtrees_k16_whole_pushes) (n := 63) (k := 40) (x := "script") (CX := fun _ => L2.CX0) (sp := fun w vs H Q _ => ∃ (a : Addr) (ns : List Int), vs = [.ref a] ∧ L2.SqL _ H a (ns.map L2.V.int) ∧ ns.length ≤ 63 ∧ ∀ H', Q (.bl true) H') rfl (by decide) rfl ⟨rfl, by decide, by decide⟩ (fun w h Y => PySem.W.kIn_of Y) ?F (fun _ _ a ns hl _ hS => ⟨a, ns, rfl, hS, hl, fun _ => rfl⟩) fun _ _ _ _ _ z => z
  case F =>
    intro w mg fa h KX G hmg
    have BL : Mx.Blt mg := ⟨PySem.W.mg_none_of KX G (by k_is), PySem.W.mg_none_of KX G (by k_is), PySem.W.mg_none_of KX G (by k_is), PySem.W.mg_none_of KX G (by k_is), PySem.W.mg_none_of KX G (by k_is), PySem.W.mg_none_of KX G (by k_is), PySem.W.mg_none_of KX G (by k_is), PySem.W.mg_none_of KX G (by k_is), PySem.W.mg_none_of KX G (by k_is), PySem.W.mg_none_of KX G (by k_is), PySem.W.mg_none_of KX G (by k_is), PySem.W.mg_none_of KX G (by k_is), PySem.W.mg_none_of KX G (by k_is), PySem.W.mg_none_of KX G (by k_is), PySem.W.mg_none_of KX G (by k_is), PySem.W.mg_none_of KX G (by k_is), PySem.W.mg_none_of KX G (by k_is), PySem.W.mg_none_of KX G (by k_is)⟩
    have CST : Mx.Cst mg := ⟨Mx.cst_mk KX G (by k_is), Mx.cst_mk KX G (by k_is), Mx.cst_mk KX G (by k_is), Mx.cst_mk KX G (by k_is), Mx.cst_mk KX G (by k_is)⟩
    have E := Mx.err_mk KX G (by k_is) (by k_is) (by k_is) (by k_is) (by k_is) (by k_is) (by k_is) (by k_is) (by k_is) (by k_is) (by k_is) (by k_is) ⟨by k_exc, by k_is, by k_is, by k_is⟩ ⟨by k_exc, by k_is, by k_is, by k_is⟩ ⟨by k_exc, by k_is, by k_is, by k_is⟩ ⟨by k_exc, by k_is, by k_is, by k_is⟩ ⟨by k_exc, by k_is, by k_is, by k_is⟩ ⟨by k_exc, by k_is, by k_is, by k_is⟩ ⟨by k_exc, by k_is, by k_is, by k_is⟩ ⟨by k_exc, by k_is, by k_is, by k_is⟩ ⟨by k_exc, by k_is, by k_is, by k_is⟩ ⟨by k_exc, by k_is, by k_is, by k_is⟩ ⟨by k_exc, by k_is, by k_is, by k_is⟩ ⟨by k_is, by k_is, by k_is, by k_is, by k_is, by k_is, by k_is, by k_is⟩ ⟨by k_is, by k_is, by k_is, by k_is, by k_is, by k_is, by k_is, by k_is⟩ ⟨by k_is, by k_is, by k_is, by k_is, by k_is, by k_is, by k_is, by k_is⟩ ⟨by k_is, by k_is, by k_is, by k_is, by k_is, by k_is, by k_is, by k_is⟩ ⟨by k_is, by k_is, by k_is, by k_is, by k_is, by k_is, by k_is, by k_is⟩ ⟨by k_is, by k_is, by k_is, by k_is, by k_is, by k_is, by k_is, by k_is⟩ ⟨by k_is, by k_is, by k_is, by k_is, by k_is, by k_is, by k_is, by k_is⟩ ⟨by k_is, by k_is, by k_is, by k_is, by k_is, by k_is, by k_is, by k_is⟩ ⟨by k_is, by k_is, by k_is, by k_is, by k_is, by k_is, by k_is, by k_is⟩ ⟨by k_is, by k_is, by k_is, by k_is, by k_is, by k_is, by k_is, by k_is⟩ ⟨by k_is, by k_is, by k_is, by k_is, by k_is, by k_is, by k_is, by k_is⟩ (by kernel_rfl)
    have D_is_tree : Mx.Has _ mg "is_tree" Mx.sIsTree ["value"] := Mx.def_mk KX G (fun _ _ _ _ _ _ us hl => match us, hl with | [_], _ => rfl) (by k_is) (by k_is) (by k_is) (by k_is)
    have D_feeds_of : Mx.Has _ mg "feeds_of" Mx.sFeedsOf ["tree"] := Mx.def_mk KX G (fun _ _ _ _ _ _ us hl => match us, hl with | [_], _ => rfl) (by k_is) (by k_is) (by k_is) (by k_is)
    have D_is_number : Mx.Has _ mg "is_number" Mx.s_is_number ["value"] := Mx.def_mk KX G (fun _ _ _ _ _ _ us hl => match us, hl with | [_], _ => rfl) (by k_is) (by k_is) (by k_is) (by k_is)
    have D_is_whole : Mx.Has _ mg "is_whole" Mx.sIsWhole ["value", "low", "high"] := Mx.def_mk KX G (fun _ _ _ _ _ _ us hl => match us, hl with | [_, _, _], _ => rfl) (by k_is) (by k_is) (by k_is) (by k_is)
    have D_require_tree : Mx.Has _ mg "require_tree" Mx.sReqTree ["value"] := Mx.def_mk KX G (fun _ _ _ _ _ _ us hl => match us, hl with | [_], _ => rfl) (by k_is) (by k_is) (by k_is) (by k_is)
    have D_require_name : Mx.Has _ mg "require_name" Mx.s_require_name ["tree", "value"] := Mx.def_mk KX G (fun _ _ _ _ _ _ us hl => match us, hl with | [_, _], _ => rfl) (by k_is) (by k_is) (by k_is) (by k_is)
    have D_has_shape : Mx.Has _ mg "has_shape" Mx.sHasShape ["value", "around"] := Mx.def_mk KX G (fun _ _ _ _ _ _ us hl => match us, hl with | [_, _], _ => rfl) (by k_is) (by k_is) (by k_is) (by k_is)
    have D_is_weighted_part : Mx.Has _ mg "is_weighted_part" Mx.sIsWP ["value", "around"] := Mx.def_mk KX G (fun _ _ _ _ _ _ us hl => match us, hl with | [_, _], _ => rfl) (by k_is) (by k_is) (by k_is) (by k_is)
    have D_is_feed_name : Mx.Has _ mg "is_feed_name" Mx.sIsName ["text"] := Mx.def_mk KX G (fun _ _ _ _ _ _ us hl => match us, hl with | [_], _ => rfl) (by k_is) (by k_is) (by k_is) (by k_is)
    have D_names_in : Mx.Has _ mg "names_in" Mx.sNamesIn ["tree"] := Mx.def_mk KX G (fun _ _ _ _ _ _ us hl => match us, hl with | [_], _ => rfl) (by k_is) (by k_is) (by k_is) (by k_is)
    have C_GREATEST_LENGTH : ∃ t, mg "GREATEST_LENGTH" = some (.int 60 t) := Mx.cst_mk KX G (by k_is)
    have D_require_lengths : Mx.Has _ mg "require_lengths" Mx.sReqLen ["tree", "value"] := Mx.def_mk KX G (fun _ _ _ _ _ _ us hl => match us, hl with | [_, _], _ => rfl) (by k_is) (by k_is) (by k_is) (by k_is)
    have D_place_of : Mx.Has _ mg "place_of" Mx.s_place_of ["tree", "lengths", "item"] := Mx.def_mk KX G (fun _ _ _ _ _ _ us hl => match us, hl with | [_, _, _], _ => rfl) (by k_is) (by k_is) (by k_is) (by k_is)
    have D_require_item : Mx.Has _ mg "require_item" Mx.s_require_item ["tree", "lengths", "value"] := Mx.def_mk KX G (fun _ _ _ _ _ _ us hl => match us, hl with | [_, _, _], _ => rfl) (by k_is) (by k_is) (by k_is) (by k_is)
    have D_lengths_by_name : Mx.Has _ mg "lengths_by_name" Mx.s_lengths_by_name ["tree", "lengths"] := Mx.def_mk KX G (fun _ _ _ _ _ _ us hl => match us, hl with | [_, _], _ => rfl) (by k_is) (by k_is) (by k_is) (by k_is)
    have D_part_with : Mx.Has _ mg "part_with" Mx.s_part_with ["mixer", "name"] := Mx.def_mk KX G (fun _ _ _ _ _ _ us hl => match us, hl with | [_, _], _ => rfl) (by k_is) (by k_is) (by k_is) (by k_is)
    have D_total_in : Mx.Has _ mg "total_in" Mx.s_total_in ["tree", "lengths"] := Mx.def_mk KX G (fun _ _ _ _ _ _ us hl => match us, hl with | [_, _], _ => rfl) (by k_is) (by k_is) (by k_is) (by k_is)
    have D_place_in : Mx.Has _ mg "place_in" Mx.s_place_in ["tree", "lengths", "name", "index"] := Mx.def_mk KX G (fun _ _ _ _ _ _ us hl => match us, hl with | [_, _, _, _], _ => rfl) (by k_is) (by k_is) (by k_is) (by k_is)
    have D_turns_of : Mx.Has _ mg "turns_of" Mx.s_turns_of ["parts", "lengths"] := Mx.def_mk KX G (fun _ _ _ _ _ _ us hl => match us, hl with | [_, _], _ => rfl) (by k_is) (by k_is) (by k_is) (by k_is)
    have D_taken_in_rounds : Mx.Has _ mg "taken_in_rounds" Mx.s_taken_in_rounds ["turns", "rounds"] := Mx.def_mk KX G (fun _ _ _ _ _ _ us hl => match us, hl with | [_, _], _ => rfl) (by k_is) (by k_is) (by k_is) (by k_is)
    have D_push : Mx.Has _ mg "push" Mx.s_push ["tree", "lengths", "name", "item"] := Mx.def_mk KX G (fun _ _ _ _ _ _ us hl => match us, hl with | [_, _, _, _], _ => rfl) (by k_is) (by k_is) (by k_is) (by k_is)
    have D_push_limit : Mx.Has _ mg "push_limit" Mx.s_push_limit ["tree", "name", "other"] := Mx.def_mk KX G (fun _ _ _ _ _ _ us hl => match us, hl with | [_, _, _], _ => rfl) (by k_is) (by k_is) (by k_is) (by k_is)
    have D_limit_in : Mx.Has _ mg "limit_in" Mx.s_limit_in ["mixer", "name", "other"] := Mx.def_mk KX G (fun _ _ _ _ _ _ us hl => match us, hl with | [_, _, _], _ => rfl) (by k_is) (by k_is) (by k_is) (by k_is)
    have D_law_source : Mx.Has _ mg "_law_source" Mx.sLSource ["script", "k"] := Mx.def_mk KX G (fun _ _ _ _ _ _ us hl => match us, hl with | [_, _], _ => rfl) (by k_is) (by k_is) (by k_is) (by k_is)
    have D_law_pick : Mx.Has _ mg "_law_pick" Mx.sPick ["source", "size"] := Mx.def_mk KX G (fun _ _ _ _ _ _ us hl => match us, hl with | [_, _], _ => rfl) (by k_is) (by k_is) (by k_is) (by k_is)
    have D_law_is_integer : Mx.Has _ mg "_law_is_integer" Mx.s_law_is_integer ["value", "low", "high"] := Mx.def_mk KX G (fun _ _ _ _ _ _ us hl => match us, hl with | [_, _, _], _ => rfl) (by k_is) (by k_is) (by k_is) (by k_is)
    have D_law_error_name : Mx.Has _ mg "_law_error_name" Mx.sErrName ["e"] := Mx.def_mk KX G (fun _ _ _ _ _ _ us hl => match us, hl with | [_], _ => rfl) (by k_is) (by k_is) (by k_is) (by k_is)
    have D_law_part : Mx.Has _ mg "_law_part" Mx.sPart ["source", "names", "levels", "top"] := Mx.def_mk KX G (fun _ _ _ _ _ _ us hl => match us, hl with | [_, _, _, _], _ => rfl) (by k_is) (by k_is) (by k_is) (by k_is)
    have D_law_mixed_names : Mx.Has _ mg "_law_mixed_names" Mx.sMixNames ["source", "most"] := Mx.def_mk KX G (fun _ _ _ _ _ _ us hl => match us, hl with | [_, _], _ => rfl) (by k_is) (by k_is) (by k_is) (by k_is)
    have D_law_tree : Mx.Has _ mg "_law_tree" Mx.sTree ["source", "most", "top"] := Mx.def_mk KX G (fun _ _ _ _ _ _ us hl => match us, hl with | [_, _, _], _ => rfl) (by k_is) (by k_is) (by k_is) (by k_is)
    have D_law_names : Mx.Has _ mg "_law_names" Mx.sLNames ["tree"] := Mx.def_mk KX G (fun _ _ _ _ _ _ us hl => match us, hl with | [_], _ => rfl) (by k_is) (by k_is) (by k_is) (by k_is)
    have D_law_output : Mx.Has _ mg "_law_output" Mx.sOutput ["tree", "table"] := Mx.def_mk KX G (fun _ _ _ _ _ _ us hl => match us, hl with | [_, _], _ => rfl) (by k_is) (by k_is) (by k_is) (by k_is)
    have D_law_lengths : Mx.Has _ mg "_law_lengths" Mx.sLengths ["source", "tree", "most"] := Mx.def_mk KX G (fun _ _ _ _ _ _ us hl => match us, hl with | [_, _, _], _ => rfl) (by k_is) (by k_is) (by k_is) (by k_is)
    have D_law_table : Mx.Has _ mg "_law_table" Mx.sTable ["tree", "lengths"] := Mx.def_mk KX G (fun _ _ _ _ _ _ us hl => match us, hl with | [_, _], _ => rfl) (by k_is) (by k_is) (by k_is) (by k_is)
    have D_law_limit : Mx.Has _ mg "_law_limit" Mx.s_law_limit ["tree", "one", "other"] := Mx.def_mk KX G (fun _ _ _ _ _ _ us hl => match us, hl with | [_, _, _], _ => rfl) (by k_is) (by k_is) (by k_is) (by k_is)
    have D_law_outcome : Mx.Has _ mg "_law_outcome" Mx.sOutcome ["tree", "lengths", "name", "item"] := Mx.def_mk KX G (fun _ _ _ _ _ _ us hl => match us, hl with | [_, _, _, _], _ => rfl) (by k_is) (by k_is) (by k_is) (by k_is)
    have D_law : Mx.Has _ mg "law" Mx.sLaw ["script"] := Mx.def_mk KX G (fun _ _ _ _ _ _ us hl => match us, hl with | [_], _ => rfl) (by k_is) (by k_is) (by k_is) (by k_is)
    exact Mx.law_end hmg D_law (fun base f fd D => Mx.end16 D E ⟨BL, CST, D_is_tree, D_is_number, D_is_whole, D_require_tree, D_has_shape, D_is_weighted_part, D_is_feed_name, D_names_in⟩ ⟨D_feeds_of, D_require_lengths, C_GREATEST_LENGTH, E.exc (by decide) E.cs.g2⟩
      ⟨D_place_of, D_require_item, D_lengths_by_name, D_part_with, D_total_in, D_place_in, D_turns_of, D_taken_in_rounds, E.exc (by decide) E.cs.g3⟩ ⟨D_law_source, D_law_pick, D_law_part, D_law_mixed_names, D_law_tree, D_law_names⟩
      D_law_lengths D_require_name D_push D_push_limit D_limit_in D_law_table D_law_output D_law_limit D_law_outcome D_law_is_integer D_law_error_name)

